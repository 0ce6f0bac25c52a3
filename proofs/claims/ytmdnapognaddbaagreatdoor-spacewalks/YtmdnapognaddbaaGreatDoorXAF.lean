import Derived.Test.YtmdnapognaddbaaGreatDoorXAE
import Derived.Shelf.Small.Strs
import Derived.Ground.NamesProg
import Derived.Test.YtmdnapognaddbaaGreatDoorProg
import Derived.Shelf.Small.Bits
namespace Go.Proofs.YtmdnapognaddbaaGreatDoor
open Go.RowKit
/-- a term as it lies: its cube, and where its list lies -/
structure TRM where
  c : List UInt8
  q : Option Addr
  m : Nat
  k : Nat
def TRM.v (t : TRM) : Value := .slice t.q t.m t.k
/-- a row of terms lies there -/
def IRT (w : World) (p : Option Addr) (Ts : List TRM) : Prop := ∀ W : World, Below w.heap.size w W → ∀ k t, Ts[k]? = some t → ∃ g o0, p = some ⟨g, o0, none⟩ ∧ CB W g (o0 + k * 10) t.c ∧ W.cell? ⟨g, o0 + k * 10 + 9, none⟩ = some (.slice t.q t.m t.k)
theorem IRT.later {w W : World} {p : Option Addr} {L : List TRM} (h : IRT w p L) (hb : Below w.heap.size w W) : IRT W p L := fun X hX k t ht => h X (bel0 hb hX) k t ht
def szT : List TRM → Nat
  | [] => 0
  | t :: r => (1 + t.m) + szT r
theorem szT_app (a b : List TRM) : szT (a ++ b) = szT a + szT b := by
  induction a with
  | nil => simp [szT]
  | cons t a ih => rw [List.cons_append, szT, szT, ih]; omega
theorem szT_take {L : List TRM} {k : Nat} {t : TRM} (h : L[k]? = some t) : szT (L.take (k + 1)) = szT (L.take k) + (1 + t.m) := by
  rw [List.take_add_one, h, szT_app]
  simp [szT]
theorem szT_le (L : List TRM) (k : Nat) : szT (L.take k) ≤ szT L := by
  have e : szT L = szT (L.take k) + szT (L.drop k) := by rw [← szT_app, List.take_append_drop]
  omega
set_option maxRecDepth 100000 in
set_option maxHeartbeats 2000000 in
theorem size_any (Ts : List TRM) (n : Nat) (p : Option Addr) (c : Nat) (w : World) (hn : Ts.length = n) (hN : n ≤ 281474976710656) (hz : szT Ts ≤ 281474976710656) (hr : IRT w p Ts) :
    Calls Tryz.prog 31 #[.slice p n c] w fun e w' => e = .returned (.int .i64 (szT Ts : Int)) ∧ Below w.heap.size w w' := by
  have HR : Hid (IRT w p Ts) := hr
  have HN : Hid (Ts.length = n ∧ szT Ts ≤ 281474976710656) := ⟨hn, hz⟩
  clear hr hn hz
  go_enter Tryz.func31, Tryz.ntmps31
  go_wp2_with fail
  go_loopw [3, 8] (fun v3 v8 wr => ∃ k : Nat, v8 = .int .i64 (k : Int) ∧ k ≤ n ∧ v3 = .int .i64 (szT (Ts.take k) : Int) ∧ Below w.heap.size w wr) (fun _ v8 _ => n - (intOf v8).toNat)
  case atStart => exact ⟨0, rfl, Nat.zero_le _, rfl, Below.refl _ _⟩
  case round =>
    obtain ⟨k, rfl, hk, rfl, hB⟩ := hrel
    by_cases hlt : k < n
    · have j1 : (k : Int) < (n : Int) := by omega
      have j0 : (0 : Int) ≤ (k : Int) := by omega
      obtain ⟨t, ht⟩ : ∃ t, Ts[k]? = some t := ⟨_, List.getElem?_eq_getElem (by rw [HN.out.1]; exact hlt)⟩
      obtain ⟨g, o0, rfl, ⟨p0, p1, p2, p3, p4, p5, p6, p7, p8⟩, p9⟩ := HR.out wr hB k t ht
      have h1 := szT_take ht
      have h2 := szT_le Ts (k + 1)
      have h3 := HN.out.2
      obtain ⟨z, hz⟩ : ∃ z, szT (Ts.take k) = z := ⟨_, rfl⟩
      obtain ⟨tc, tq, tm, tk⟩ := t
      simp only at p0 p1 p2 p3 p4 p5 p6 p7 p8 p9 h1
      rw [hz] at h1 ⊢
      have HS : Hid (szT (Ts.take (k + 1)) = z + (1 + tm)) := h1
      have hb1 : z + (1 + tm) ≤ 281474976710656 := by omega
      obtain ⟨wa, hwa⟩ : ∃ wa, wr.alloc (.cells #[.int .i64 (tc.length : Int), .int .u64 (FW tc 0 : Int), .int .u64 (FW tc 1 : Int), .int .u64 (FW tc 2 : Int), .int .u64 (FW tc 3 : Int), .int .u64 (OW tc 0 : Int), .int .u64 (OW tc 1 : Int), .int .u64 (OW tc 2 : Int), .int .u64 (OW tc 3 : Int), .slice tq tm tk] 82 (0, 0)) = wa := ⟨_, rfl⟩
      have hal : Below wr.heap.size wr wa := by rw [← hwa]; exact belA (Below.refl _ _) _
      have hgt : wa.heap[wr.heap.size]? = some (.cells #[.int .i64 (tc.length : Int), .int .u64 (FW tc 0 : Int), .int .u64 (FW tc 1 : Int), .int .u64 (FW tc 2 : Int), .int .u64 (FW tc 3 : Int), .int .u64 (OW tc 0 : Int), .int .u64 (OW tc 1 : Int), .int .u64 (OW tc 2 : Int), .int .u64 (OW tc 3 : Int), .slice tq tm tk] 82 (0, 0)) := by rw [← hwa]; exact alloc_get _ _
      have d9 : wa.cell? ⟨wr.heap.size, 9, none⟩ = some (.slice tq tm tk) := (cells_block hgt).1 9
      clear hgt
      clear ht h1 h2 h3 hz
      go_wp2_with fail
      go_roundw
      case rel => exact ⟨k + 1, by go_num, by omega, by rw [HS.out]; go_num, bel0 hB hal⟩
      case measure => simp [intOf]; omega
    · have j1 : ¬ (k : Int) < (n : Int) := by omega
      obtain rfl : k = n := by omega
      have e : Ts.take k = Ts := List.take_of_length_le (by rw [HN.out.1]; exact Nat.le_refl _)
      rw [e]
      go_wp2_with fail
      go_ret
      exact ⟨rfl, hB⟩
set_option maxRecDepth 100000 in
theorem spend_ok (a b : Int) (w : World) (h : a ≤ b) : Calls Tryz.prog 74 #[.int .i64 a, .int .i64 b] w fun e w' => e = .returned (.tuple #[]) ∧ w' = w := by
  have h1 : ¬ b < a := by omega
  go_enter Tryz.func74, Tryz.ntmps74
  go_wp2_with fail
  simp [bodyPost, results, Tryz.results74]
set_option maxRecDepth 100000 in
theorem spend_over (a b : Int) (w : World) (h : b < a) : Calls Tryz.prog 74 #[.int .i64 a, .int .i64 b] w fun e w' => e = .panicked [{ v := .iface 122 (.agg #[]), recovered := false }] ∧ w' = w := by
  go_enter Tryz.func74, Tryz.ntmps74
  go_wp2_with fail
  simp [bodyPost]
set_option maxRecDepth 100000 in
theorem idxt1_nil (bw bx : Nat) (w : World) : Calls Tryz.prog 123 #[.slice none 0 0, .func (.func 105) #[] #[.pointer (some ⟨bw, 0, none⟩), .pointer (some ⟨bx, 0, none⟩)]] w fun e w' => e = .returned (.int .i64 (-1)) ∧ Below w.heap.size w w' := by
  go_enter Tryz.func123, Tryz.ntmps123
  go_wp2_with fail
  go_loopw [8] (fun vk wr => vk = .int .i64 0 ∧ Below w.heap.size w wr) (fun _ _ => 0)
  case atStart => exact ⟨rfl, Below.refl _ _⟩
  case round =>
    obtain ⟨rfl, hB⟩ := hrel
    go_wp2_with fail
    go_ret
    exact ⟨rfl, hB⟩
set_option maxRecDepth 100000 in
theorem idxt2_nil (bw bx : Nat) (w : World) : Calls Tryz.prog 123 #[.slice none 0 0, .func (.func 107) #[] #[.pointer (some ⟨bw, 0, none⟩), .pointer (some ⟨bx, 0, none⟩)]] w fun e w' => e = .returned (.int .i64 (-1)) ∧ Below w.heap.size w w' := by
  go_enter Tryz.func123, Tryz.ntmps123
  go_wp2_with fail
  go_loopw [8] (fun vk wr => vk = .int .i64 0 ∧ Below w.heap.size w wr) (fun _ _ => 0)
  case atStart => exact ⟨rfl, Below.refl _ _⟩
  case round =>
    obtain ⟨rfl, hB⟩ := hrel
    go_wp2_with fail
    go_ret
    exact ⟨rfl, hB⟩
set_option maxRecDepth 100000 in
theorem contt_nil (bw bx : Nat) (w : World) : Calls Tryz.prog 104 #[.slice none 0 0, .func (.func 105) #[] #[.pointer (some ⟨bw, 0, none⟩), .pointer (some ⟨bx, 0, none⟩)]] w fun e w' => e = .returned (.bool false) ∧ Below w.heap.size w w' := by
  have H1 := idxt1_nil bw bx w
  go_enter Tryz.func104, Tryz.ntmps104
  go_wp2_with fail
  refine H1.mono ?_
  rintro e W1 ⟨rfl, hb1⟩
  go_wp2_with fail
  go_ret
  exact ⟨rfl, hb1⟩
set_option maxRecDepth 100000 in
theorem delt_nil (bw bx : Nat) (w : World) : Calls Tryz.prog 106 #[.slice none 0 0, .func (.func 107) #[] #[.pointer (some ⟨bw, 0, none⟩), .pointer (some ⟨bx, 0, none⟩)]] w fun e w' => e = .returned (.slice none 0 0) ∧ Below w.heap.size w w' := by
  have H1 := idxt2_nil bw bx w
  go_enter Tryz.func106, Tryz.ntmps106
  go_wp2_with fail
  refine H1.mono ?_
  rintro e W0 ⟨rfl, hb0⟩
  clear H1
  go_wp2_with fail
  go_ret
  exact ⟨rfl, hb0⟩
theorem info_term : (Tryz.prog.info? 82).map (fun i => (i.zero, i.size, i.bytes)) = some (some (.agg #[.int .i64 0, .int .u64 0, .int .u64 0, .int .u64 0, .int .u64 0, .int .u64 0, .int .u64 0, .int .u64 0, .int .u64 0, .slice none 0 0]), 10, 96) := by kernel_rfl
set_option maxRecDepth 100000 in
set_option maxHeartbeats 2000000 in
theorem greatT_one (t : TRM) (p : Option Addr) (c : Nat) (w : World) (hr : IRT w p [t]) :
    Calls Tryz.prog 86 #[.slice p 1 c, .func (.func 87) #[] #[]] w fun e w' => ∃ v, e = .returned v ∧ w'.ownsRow w.heap.size 82 10 v 1 ([.int .i64 (t.c.length : Int), .int .u64 (FW t.c 0 : Int), .int .u64 (FW t.c 1 : Int), .int .u64 (FW t.c 2 : Int), .int .u64 (FW t.c 3 : Int), .int .u64 (OW t.c 0 : Int), .int .u64 (OW t.c 1 : Int), .int .u64 (OW t.c 2 : Int), .int .u64 (OW t.c 3 : Int), .slice t.q t.m t.k]) ∧ Below w.heap.size w w' := by
  obtain ⟨i0, hi, hz0, hz1, hz2⟩ := info_parts info_term
  have HR : Hid (IRT w p [t]) := hr
  clear hr
  go_enter Tryz.func86, Tryz.ntmps86
  go_wp2_with fail
  go_loopw [5, 10] (fun v5 v10 wr => Below w.heap.size w wr ∧ ((v5 = .slice none 0 0 ∧ v10 = .int .i64 0) ∨ (v10 = .int .i64 1 ∧ wr.ownsRow w.heap.size 82 10 v5 1 ([.int .i64 (t.c.length : Int), .int .u64 (FW t.c 0 : Int), .int .u64 (FW t.c 1 : Int), .int .u64 (FW t.c 2 : Int), .int .u64 (FW t.c 3 : Int), .int .u64 (OW t.c 0 : Int), .int .u64 (OW t.c 1 : Int), .int .u64 (OW t.c 2 : Int), .int .u64 (OW t.c 3 : Int), .slice t.q t.m t.k])))) (fun _ v10 _ => 1 - (intOf v10).toNat)
  case atStart => exact ⟨belA (Below.refl _ _) _, .inl ⟨rfl, rfl⟩⟩
  case round =>
    obtain ⟨hB, ⟨rfl, rfl⟩ | ⟨rfl, ho⟩⟩ := hrel
    · obtain ⟨g, o0, rfl, ⟨p0, p1, p2, p3, p4, p5, p6, p7, p8⟩, p9⟩ := HR.out wr hB 0 t rfl
      obtain ⟨tc, tq, tm, tk⟩ := t
      simp only at p0 p1 p2 p3 p4 p5 p6 p7 p8 p9
      rw [Nat.zero_mul, Nat.add_zero] at p0 p1 p2 p3 p4 p5 p6 p7 p8 p9
      obtain ⟨wa, hwa⟩ : ∃ wa, wr.alloc (.cells #[.int .i64 (tc.length : Int), .int .u64 (FW tc 0 : Int), .int .u64 (FW tc 1 : Int), .int .u64 (FW tc 2 : Int), .int .u64 (FW tc 3 : Int), .int .u64 (OW tc 0 : Int), .int .u64 (OW tc 1 : Int), .int .u64 (OW tc 2 : Int), .int .u64 (OW tc 3 : Int), .slice tq tm tk] 82 (0, 0)) = wa := ⟨_, rfl⟩
      have hal : Below wr.heap.size wr wa := by rw [← hwa]; exact belA (Below.refl _ _) _
      have hgt : wa.heap[wr.heap.size]? = some (.cells #[.int .i64 (tc.length : Int), .int .u64 (FW tc 0 : Int), .int .u64 (FW tc 1 : Int), .int .u64 (FW tc 2 : Int), .int .u64 (FW tc 3 : Int), .int .u64 (OW tc 0 : Int), .int .u64 (OW tc 1 : Int), .int .u64 (OW tc 2 : Int), .int .u64 (OW tc 3 : Int), .slice tq tm tk] 82 (0, 0)) := by rw [← hwa]; exact alloc_get _ _
      have HGT : Hid (wa.heap[wr.heap.size]? = some (.cells #[.int .i64 (tc.length : Int), .int .u64 (FW tc 0 : Int), .int .u64 (FW tc 1 : Int), .int .u64 (FW tc 2 : Int), .int .u64 (FW tc 3 : Int), .int .u64 (OW tc 0 : Int), .int .u64 (OW tc 1 : Int), .int .u64 (OW tc 2 : Int), .int .u64 (OW tc 3 : Int), .slice tq tm tk] 82 (0, 0))) := hgt
      clear hgt
      go_wp2_with fail
      refine (contt_nil _ _ _).mono ?_
      rintro e W1 ⟨rfl, hb1⟩
      go_wp2_with fail
      refine (delt_nil _ _ _).mono ?_
      rintro e W2 ⟨rfl, hb2⟩
      have hB2 := bel0 hal (bel0 hb1 hb2)
      obtain ⟨hc2, -⟩ := cells_block (keepblk3 (bel0 hb1 hb2) HGT.out)
      have hBw := bel0 hB hB2
      have hsz := hBw.size
      go_wp2_with (at_builtin; refine wpList_append_own _ rfl _ _ 22 rfl w.heap.size 82 i0 _ 10 96 Tryz.underlying22 hi hz0 hz1 hz2 rfl (by decide) _ _ _ rfl (World.ownsRow_nil _ _ _ _) ⟨_, 0, none⟩ 1 1 ([.int .i64 (tc.length : Int), .int .u64 (FW tc 0 : Int), .int .u64 (FW tc 1 : Int), .int .u64 (FW tc 2 : Int), .int .u64 (FW tc 3 : Int), .int .u64 (OW tc 0 : Int), .int .u64 (OW tc 1 : Int), .int .u64 (OW tc 2 : Int), .int .u64 (OW tc 3 : Int), .slice tq tm tk]) rfl rfl (World.news_of_block (cs := #[.int .i64 (tc.length : Int), .int .u64 (FW tc 0 : Int), .int .u64 (FW tc 1 : Int), .int .u64 (FW tc 2 : Int), .int .u64 (FW tc 3 : Int), .int .u64 (OW tc 0 : Int), .int .u64 (OW tc 1 : Int), .int .u64 (OW tc 2 : Int), .int .u64 (OW tc 3 : Int), .slice tq tm tk]) (t := 82) (fr := (0, 0)) (alloc_get _ _)) (by simp [Value.oneCell']) (by unfold maxLen; omega) (by omega) (by simp; omega) ?_; intro v4 w4 o4 g4 _)
      have HE : Hid (Below w.heap.size w w4 ∧ w4.ownsRow w.heap.size 82 10 v4 1 ([.int .i64 (tc.length : Int), .int .u64 (FW tc 0 : Int), .int .u64 (FW tc 1 : Int), .int .u64 (FW tc 2 : Int), .int .u64 (FW tc 3 : Int), .int .u64 (OW tc 0 : Int), .int .u64 (OW tc 1 : Int), .int .u64 (OW tc 2 : Int), .int .u64 (OW tc 3 : Int), .slice tq tm tk])) := ⟨(belA hBw _).grown g4 (by simp; omega) (fun b e => by cases e), by simpa using o4⟩
      clear o4 g4 hc2
      go_wp2_with fail
      go_roundw
      case rel => exact ⟨HE.out.1, .inr ⟨by go_num, HE.out.2⟩⟩
      case measure => simp [intOf]
    · have HO : Hid (wr.ownsRow w.heap.size 82 10 u5 1 ([.int .i64 (t.c.length : Int), .int .u64 (FW t.c 0 : Int), .int .u64 (FW t.c 1 : Int), .int .u64 (FW t.c 2 : Int), .int .u64 (FW t.c 3 : Int), .int .u64 (OW t.c 0 : Int), .int .u64 (OW t.c 1 : Int), .int .u64 (OW t.c 2 : Int), .int .u64 (OW t.c 3 : Int), .slice t.q t.m t.k])) := ho
      clear ho
      go_wp2_with fail
      go_ret
      exact ⟨_, rfl, HO.out, hB⟩
end Go.Proofs.YtmdnapognaddbaaGreatDoor
namespace Go.Proofs.YtmdnapognaddbaaGreatDoor
open Go.RowKit
theorem IRT_one {W : World} {B c : Nat} {p : Option Addr} {t : TRM} (h : W.ownsRow B 82 10 (.slice p 1 c) 1 ([.int .i64 (t.c.length : Int), .int .u64 (FW t.c 0 : Int), .int .u64 (FW t.c 1 : Int), .int .u64 (FW t.c 2 : Int), .int .u64 (FW t.c 3 : Int), .int .u64 (OW t.c 0 : Int), .int .u64 (OW t.c 1 : Int), .int .u64 (OW t.c 2 : Int), .int .u64 (OW t.c 3 : Int), .slice t.q t.m t.k])) : IRT W p [t] := fun X hX k u hu => by
  cases k with
  | succ k => simp at hu
  | zero =>
    obtain rfl : t = u := by simpa using hu
    rcases h.2 with ⟨e, h0⟩ | ⟨g, cap, cur, e, _⟩
    · omega
    · injection e with e1 _ _
      subst e1
      have cc : ∀ j, j < 10 → W.cell? ⟨g, j, none⟩ = ([.int .i64 (t.c.length : Int), .int .u64 (FW t.c 0 : Int), .int .u64 (FW t.c 1 : Int), .int .u64 (FW t.c 2 : Int), .int .u64 (FW t.c 3 : Int), .int .u64 (OW t.c 0 : Int), .int .u64 (OW t.c 1 : Int), .int .u64 (OW t.c 2 : Int), .int .u64 (OW t.c 3 : Int), .slice t.q t.m t.k] : List Value)[j]? := fun j hj => h.cellAt j (by omega)
      have hk : ∀ {p : Addr} {v : Value}, W.cell? p = some v → X.cell? p = some v := fun h => (hX.cell (World.block_lt_of_cell? W _ h)).trans h
      refine ⟨g, 0, rfl, ⟨hk (cc 0 (by omega)), hk (cc 1 (by omega)), hk (cc 2 (by omega)), hk (cc 3 (by omega)), hk (cc 4 (by omega)), hk (cc 5 (by omega)), hk (cc 6 (by omega)), hk (cc 7 (by omega)), hk (cc 8 (by omega))⟩, hk (cc 9 (by omega))⟩
set_option maxRecDepth 100000 in
theorem greatT_nil (w : World) : Calls Tryz.prog 86 #[.slice none 0 0, .func (.func 87) #[] #[]] w fun e w' => e = .returned (.slice none 0 0) ∧ Below w.heap.size w w' := by
  go_enter Tryz.func86, Tryz.ntmps86
  go_wp2_with fail
  go_loopw [5, 10] (fun v5 v10 wr => v5 = .slice none 0 0 ∧ v10 = .int .i64 0 ∧ Below w.heap.size w wr) (fun _ _ _ => 0)
  case atStart => exact ⟨rfl, rfl, belA (Below.refl _ _) _⟩
  case round =>
    obtain ⟨rfl, rfl, hB⟩ := hrel
    go_wp2_with fail
    go_ret
    exact ⟨rfl, hB⟩
set_option maxRecDepth 100000 in
set_option maxHeartbeats 1000000 in
theorem topmost_nil (w : World) : Calls Tryz.prog 61 #[.slice none 0 0] w fun e w' => e = .returned (.slice none 0 0) ∧ Below w.heap.size w w' := by
  have H1 := greatT_nil w
  go_enter Tryz.func61, Tryz.ntmps61
  go_wp2_with fail
  refine H1.mono ?_
  rintro e W1 ⟨rfl, hb1⟩
  clear H1
  have H2 := size_any [] 0 none 0 W1 rfl (by omega) (by simp [szT]) (fun W hW k t ht => by simp at ht)
  go_wp2_with fail
  refine H2.mono ?_
  rintro e W2 ⟨rfl, hb2⟩
  clear H2
  go_wp2_with fail
  refine (spend_ok (szT [] : Int) 128 W2 (by simp [szT])).mono ?_
  rintro e W3 ⟨rfl, rfl⟩
  go_wp2_with fail
  go_ret
  exact ⟨rfl, bel0 hb1 hb2⟩
set_option maxRecDepth 100000 in
set_option maxHeartbeats 1000000 in
theorem topmost_one (t : TRM) (p : Option Addr) (c : Nat) (w : World) (hr : IRT w p [t]) (hm : t.m ≤ 1000000) :
    Calls Tryz.prog 61 #[.slice p 1 c] w fun e w' => Below w.heap.size w w' ∧ ((1 + t.m ≤ 128 ∧ ∃ v, e = .returned v ∧ w'.ownsRow w.heap.size 82 10 v 1 ([.int .i64 (t.c.length : Int), .int .u64 (FW t.c 0 : Int), .int .u64 (FW t.c 1 : Int), .int .u64 (FW t.c 2 : Int), .int .u64 (FW t.c 3 : Int), .int .u64 (OW t.c 0 : Int), .int .u64 (OW t.c 1 : Int), .int .u64 (OW t.c 2 : Int), .int .u64 (OW t.c 3 : Int), .slice t.q t.m t.k])) ∨ (128 < 1 + t.m ∧ e = .panicked [{ v := .iface 122 (.agg #[]), recovered := false }])) := by
  have H1 := greatT_one t p c w hr
  have HM : Hid (t.m ≤ 1000000) := hm
  clear hr hm
  go_enter Tryz.func61, Tryz.ntmps61
  go_wp2_with fail
  refine H1.mono ?_
  rintro e W1 ⟨v, rfl, ho, hb1⟩
  clear H1
  obtain ⟨p1, c1, rfl⟩ := shapeQ1 ho
  have hz : szT [t] = 1 + t.m := by simp [szT]
  have H2 := size_any [t] 1 p1 c1 W1 rfl (by omega) (by rw [hz]; have := HM.out; omega) (IRT_one ho)
  rw [hz] at H2
  have HO : Hid (W1.ownsRow w.heap.size 82 10 (.slice p1 1 c1) 1 ([.int .i64 (t.c.length : Int), .int .u64 (FW t.c 0 : Int), .int .u64 (FW t.c 1 : Int), .int .u64 (FW t.c 2 : Int), .int .u64 (FW t.c 3 : Int), .int .u64 (OW t.c 0 : Int), .int .u64 (OW t.c 1 : Int), .int .u64 (OW t.c 2 : Int), .int .u64 (OW t.c 3 : Int), .slice t.q t.m t.k])) := ho
  clear ho hz
  go_wp2_with fail
  refine H2.mono ?_
  rintro e W2 ⟨rfl, hb2⟩
  clear H2
  go_wp2_with fail
  by_cases hle : 1 + t.m ≤ 128
  · refine (spend_ok ((1 + t.m : Nat) : Int) 128 W2 (by omega)).mono ?_
    rintro e W3 ⟨rfl, rfl⟩
    go_wp2_with fail
    go_ret
    exact ⟨bel0 hb1 hb2, .inl ⟨hle, _, rfl, own_belQ HO.out hb2⟩⟩
  · refine (spend_over ((1 + t.m : Nat) : Int) 128 W2 (by omega)).mono ?_
    rintro e W3 ⟨rfl, rfl⟩
    have HB : Hid (Below w.heap.size w W3) := bel0 hb1 hb2
    go_wp2_with fail
    exact ⟨rfl, HB.out, .inr ⟨by omega, rfl⟩⟩
end Go.Proofs.YtmdnapognaddbaaGreatDoor
namespace Go.Proofs
open Go.Shelf
def Tryz.l106_ren : Go.Shelf.Ren := ⟨fun | 106 => 103 | 213 => 122 | 265 => 141 | n => n, fun | 9 => 9 | 3 => 3 | n => n, fun | n => n⟩
theorem Tryz.l106 : Go.Proofs.Lays.n106 Tryz.prog Tryz.l106_ren := {
  mixed := by kernel_rfl
  f106 := Tryz.func103.trans (congrArg some (by kernel_rfl))
  f213 := Tryz.func122.trans (congrArg some (by kernel_rfl))
  f265 := Tryz.func141.trans (congrArg some (by kernel_rfl))
  t3 := Tryz.underlying3
  a3 := Tryz.isAgg3
  z3 := Tryz.sizeOf3
  v3 := Tryz.zeroValue3
  t9 := Tryz.underlying9
  a9 := Tryz.isAgg9
  z9 := Tryz.sizeOf9
  v9 := Tryz.zeroValue9 }
end Go.Proofs
namespace Go.Proofs.YtmdnapognaddbaaGreatDoor
open Go.RowKit Go.Shelf
/-- a cube with its text -/
def nm (t : List UInt8) : List Value := [.string ⟨t.toArray⟩, .int .i64 (t.length : Int), .int .u64 (FW t 0 : Int), .int .u64 (FW t 1 : Int), .int .u64 (FW t 2 : Int), .int .u64 (FW t 3 : Int), .int .u64 (OW t 0 : Int), .int .u64 (OW t 1 : Int), .int .u64 (OW t 2 : Int), .int .u64 (OW t 3 : Int)]
def nms (l : List (List UInt8)) : List Value := l.flatMap nm
theorem nms_snoc (l : List (List UInt8)) (t : List UInt8) : nms (l ++ [t]) = nms l ++ nm t := by simp [nms]
theorem nms_len (l : List (List UInt8)) : (nms l).length = l.length * 10 := by
  induction l with
  | nil => rfl
  | cons t l ih => simp only [nms, List.flatMap_cons, List.length_append, List.length_cons] at ih ⊢; rw [ih]; simp [nm]; omega
theorem info_named : (Tryz.prog.info? 140).map (fun i => (i.zero, i.size, i.bytes)) = some (some (.agg #[.string ⟨#[]⟩, .int .i64 0, .int .u64 0, .int .u64 0, .int .u64 0, .int .u64 0, .int .u64 0, .int .u64 0, .int .u64 0, .int .u64 0]), 10, 88) := by kernel_rfl
set_option maxRecDepth 100000 in
set_option maxHeartbeats 1000000 in
theorem byText_any (a b : List UInt8) (w : World) : Calls Tryz.prog 85 #[.agg #[.string ⟨a.toArray⟩, .int .i64 (a.length : Int), .int .u64 (FW a 0 : Int), .int .u64 (FW a 1 : Int), .int .u64 (FW a 2 : Int), .int .u64 (FW a 3 : Int), .int .u64 (OW a 0 : Int), .int .u64 (OW a 1 : Int), .int .u64 (OW a 2 : Int), .int .u64 (OW a 3 : Int)], .agg #[.string ⟨b.toArray⟩, .int .i64 (b.length : Int), .int .u64 (FW b 0 : Int), .int .u64 (FW b 1 : Int), .int .u64 (FW b 2 : Int), .int .u64 (FW b 3 : Int), .int .u64 (OW b 0 : Int), .int .u64 (OW b 1 : Int), .int .u64 (OW b 2 : Int), .int .u64 (OW b 3 : Int)]] w fun e w' => e = .returned (.int .i64 (Lib.compareBytes a b)) ∧ w' = (w.alloc (.cells #[.string ⟨a.toArray⟩, .int .i64 (a.length : Int), .int .u64 (FW a 0 : Int), .int .u64 (FW a 1 : Int), .int .u64 (FW a 2 : Int), .int .u64 (FW a 3 : Int), .int .u64 (OW a 0 : Int), .int .u64 (OW a 1 : Int), .int .u64 (OW a 2 : Int), .int .u64 (OW a 3 : Int)] 140 (0, 0))).alloc (.cells #[.string ⟨b.toArray⟩, .int .i64 (b.length : Int), .int .u64 (FW b 0 : Int), .int .u64 (FW b 1 : Int), .int .u64 (FW b 2 : Int), .int .u64 (FW b 3 : Int), .int .u64 (OW b 0 : Int), .int .u64 (OW b 1 : Int), .int .u64 (OW b 2 : Int), .int .u64 (OW b 3 : Int)] 140 (0, 0)) := by
  have H1 : ∀ W', Calls Tryz.prog 103 #[.string ⟨a.toArray⟩, .string ⟨b.toArray⟩] W' fun e w' => e = .returned (.int .i64 (Lib.compareBytes a b)) ∧ w' = W' := fun W' => Any.strings_Compare Tryz.l106 ⟨a.toArray⟩ ⟨b.toArray⟩ W'
  generalize Lib.compareBytes a b = r at H1 ⊢
  go_enter Tryz.func85, Tryz.ntmps85
  go_wp2_with (go_at_call 103; refine (H1 _).mono ?_; rintro e w' ⟨rfl, rfl⟩)
  go_ret
  exact ⟨rfl, rfl⟩
/-- the sort of the line behind its first, as it is asked for -/
def SortOK (srt : List (List UInt8) → List (List UInt8)) : Prop := ∀ (L : List (List UInt8)) (x : List UInt8) (n g c B : Nat) (ad : Addr) (W : World), L.length = n → n ≤ 1000000 → W.ownsRow B 140 10 (.slice (some ⟨g, 0, none⟩) (n + 1) c) (n + 1) (nms (x :: L)) → ((n = 0 ∧ ad = ⟨g, 0, none⟩) ∨ ad = ⟨g, 10, none⟩) → Calls Tryz.prog 100 #[.slice (some ad) n (c - 1), .func (.func 85) #[] #[]] W fun e w' => e = .returned (.tuple #[]) ∧ w'.ownsRow B 140 10 (.slice (some ⟨g, 0, none⟩) (n + 1) c) (n + 1) (nms (x :: srt L)) ∧ W.grownBy w' (some g)
set_option maxRecDepth 100000 in
set_option maxHeartbeats 4000000 in
theorem inLine_any (srt : List (List UInt8) → List (List UInt8)) (hso : SortOK srt) (c : List UInt8) (L : List (List UInt8)) (m k : Nat) (q : Option Addr) (w : World) (hm : L.length = m) (hm2 : m ≤ 1000000) (gc : good c = true) (gL : ∀ t ∈ L, good t = true) (hr : IRC w q L) :
    Calls Tryz.prog 81 #[.agg #[.int .i64 (c.length : Int), .int .u64 (FW c 0 : Int), .int .u64 (FW c 1 : Int), .int .u64 (FW c 2 : Int), .int .u64 (FW c 3 : Int), .int .u64 (OW c 0 : Int), .int .u64 (OW c 1 : Int), .int .u64 (OW c 2 : Int), .int .u64 (OW c 3 : Int), .slice q m k]] w fun e w' => ∃ v, e = .returned v ∧ w'.ownsRow w.heap.size 140 10 v (m + 1) (nms (c :: srt L)) ∧ Below w.heap.size w w' := by
  obtain ⟨i0, hi, hz0, hz1, hz2⟩ := info_parts info_named
  obtain ⟨w2, hw2⟩ : ∃ w2, w.alloc (.cells #[.int .i64 (c.length : Int), .int .u64 (FW c 0 : Int), .int .u64 (FW c 1 : Int), .int .u64 (FW c 2 : Int), .int .u64 (FW c 3 : Int), .int .u64 (OW c 0 : Int), .int .u64 (OW c 1 : Int), .int .u64 (OW c 2 : Int), .int .u64 (OW c 3 : Int), .slice q m k] 82 (0, 0)) = w2 := ⟨_, rfl⟩
  have hA : w2.heap[w.heap.size]? = some (.cells #[.int .i64 (c.length : Int), .int .u64 (FW c 0 : Int), .int .u64 (FW c 1 : Int), .int .u64 (FW c 2 : Int), .int .u64 (FW c 3 : Int), .int .u64 (OW c 0 : Int), .int .u64 (OW c 1 : Int), .int .u64 (OW c 2 : Int), .int .u64 (OW c 3 : Int), .slice q m k] 82 (0, 0)) := by rw [← hw2]; exact alloc_get _ _
  have hB2 : Below w.heap.size w w2 := by rw [← hw2]; exact belA (Below.refl _ _) _
  have HA : Hid (∀ W, Below w2.heap.size w2 W → ∀ j, W.cell? ⟨w.heap.size, j, none⟩ = (#[.int .i64 (c.length : Int), .int .u64 (FW c 0 : Int), .int .u64 (FW c 1 : Int), .int .u64 (FW c 2 : Int), .int .u64 (FW c 3 : Int), .int .u64 (OW c 0 : Int), .int .u64 (OW c 1 : Int), .int .u64 (OW c 2 : Int), .int .u64 (OW c 3 : Int), .slice q m k] : Array Value)[j]?) := fun W hW => (cells_block (keepblk3 hW hA)).1
  have HT : Hid (∀ t, good t = true → ∀ W, Calls Tryz.prog 8 #[.agg #[.int .i64 (t.length : Int), .int .u64 (FW t 0 : Int), .int .u64 (FW t 1 : Int), .int .u64 (FW t 2 : Int), .int .u64 (FW t 3 : Int), .int .u64 (OW t 0 : Int), .int .u64 (OW t 1 : Int), .int .u64 (OW t 2 : Int), .int .u64 (OW t 3 : Int)]] W fun e w' => e = .returned (.string ⟨t.toArray⟩) ∧ Below W.heap.size W w') := fun t gt W => text_any t W gt
  have HR : Hid (IRC w2 q L) := hr.later hB2
  have HN : Hid (L.length = m ∧ (∀ t ∈ L, good t = true) ∧ good c = true ∧ Below w.heap.size w w2) := ⟨hm, gL, gc, hB2⟩
  have HSO : Hid (SortOK srt) := hso
  have hA6 := HA.out w2 (Below.refl _ _)
  have hA6d : ∀ j, w2.drew.cell? ⟨w.heap.size, j, none⟩ = (#[.int .i64 (c.length : Int), .int .u64 (FW c 0 : Int), .int .u64 (FW c 1 : Int), .int .u64 (FW c 2 : Int), .int .u64 (FW c 3 : Int), .int .u64 (OW c 0 : Int), .int .u64 (OW c 1 : Int), .int .u64 (OW c 2 : Int), .int .u64 (OW c 3 : Int), .slice q m k] : Array Value)[j]? := hA6
  clear hA hB2 hr hm gL gc hso
  go_enter Tryz.func81, Tryz.ntmps81
  go_upto_region 1 with fail
  go_region_held3 (fun W => ∀ j, W.cell? ⟨w.heap.size, j, none⟩ = (#[.int .i64 (c.length : Int), .int .u64 (FW c 0 : Int), .int .u64 (FW c 1 : Int), .int .u64 (FW c 2 : Int), .int .u64 (FW c 3 : Int), .int .u64 (OW c 0 : Int), .int .u64 (OW c 1 : Int), .int .u64 (OW c 2 : Int), .int .u64 (OW c 3 : Int), .slice q m k] : Array Value)[j]?) (first | with_reducible exact hA6 | with_reducible exact hA6d | with_reducible exact hk5 | with_reducible exact hk6) (first | (go_at_call 8; refine (HT.out c HN.out.2.2.1 _).mono ?_; rintro e w5 ⟨rfl, hb5⟩; have hb5' : Below w2.heap.size w2 w5 := (by first | exact hb5 | exact und hb5); have hk5 := HA.out w5 hb5'; have hk6 := HA.out (w5.alloc (.cells #[.string ⟨c.toArray⟩, .int .i64 (c.length : Int), .int .u64 (FW c 0 : Int), .int .u64 (FW c 1 : Int), .int .u64 (FW c 2 : Int), .int .u64 (FW c 3 : Int), .int .u64 (OW c 0 : Int), .int .u64 (OW c 1 : Int), .int .u64 (OW c 2 : Int), .int .u64 (OW c 3 : Int)] 140 (0, 0))) (belA hb5' _)))
  have hB5 : Below w2.heap.size w2 (w5.alloc (.cells #[.string ⟨c.toArray⟩, .int .i64 (c.length : Int), .int .u64 (FW c 0 : Int), .int .u64 (FW c 1 : Int), .int .u64 (FW c 2 : Int), .int .u64 (FW c 3 : Int), .int .u64 (OW c 0 : Int), .int .u64 (OW c 1 : Int), .int .u64 (OW c 2 : Int), .int .u64 (OW c 3 : Int)] 140 (0, 0))) := belA hb5' _
  have o1 : (w5.alloc (.cells #[.string ⟨c.toArray⟩, .int .i64 (c.length : Int), .int .u64 (FW c 0 : Int), .int .u64 (FW c 1 : Int), .int .u64 (FW c 2 : Int), .int .u64 (FW c 3 : Int), .int .u64 (OW c 0 : Int), .int .u64 (OW c 1 : Int), .int .u64 (OW c 2 : Int), .int .u64 (OW c 3 : Int)] 140 (0, 0))).ownsRow w2.heap.size 140 10 (.slice (some ⟨w5.heap.size, 0, none⟩) 1 1) 1 (nms [c]) := ⟨rfl, .inr ⟨w5.heap.size, 1, _, rfl, hb5'.size, alloc_get _ _, by omega, by unfold maxLen; omega, rfl, rfl⟩⟩
  have HO1 : Hid ((w5.alloc (.cells #[.string ⟨c.toArray⟩, .int .i64 (c.length : Int), .int .u64 (FW c 0 : Int), .int .u64 (FW c 1 : Int), .int .u64 (FW c 2 : Int), .int .u64 (FW c 3 : Int), .int .u64 (OW c 0 : Int), .int .u64 (OW c 1 : Int), .int .u64 (OW c 2 : Int), .int .u64 (OW c 3 : Int)] 140 (0, 0))).ownsRow w2.heap.size 140 10 (.slice (some ⟨w5.heap.size, 0, none⟩) 1 1) 1 (nms [c]) ∧ Below w2.heap.size w2 (w5.alloc (.cells #[.string ⟨c.toArray⟩, .int .i64 (c.length : Int), .int .u64 (FW c 0 : Int), .int .u64 (FW c 1 : Int), .int .u64 (FW c 2 : Int), .int .u64 (FW c 3 : Int), .int .u64 (OW c 0 : Int), .int .u64 (OW c 1 : Int), .int .u64 (OW c 2 : Int), .int .u64 (OW c 3 : Int)] 140 (0, 0)))) := ⟨o1, hB5⟩
  clear o1 hk5 hA6 hA6d hw2
  go_wp2_with fail
  go_loopw [3, 16] (fun v3 v16 wr => ∃ j : Nat, v16 = .int .i64 (j : Int) ∧ j ≤ m ∧ wr.ownsRow w2.heap.size 140 10 v3 (j + 1) (nms (c :: L.take j)) ∧ Below w2.heap.size w2 wr) (fun _ v16 _ => m - (intOf v16).toNat)
  case atStart => exact ⟨0, rfl, Nat.zero_le _, HO1.out.1, HO1.out.2⟩
  case round =>
    clear HO1 hb5 hb5' hk6 hB5
    obtain ⟨j, rfl, hj, oR, hB⟩ := hrel
    by_cases hlt : j < m
    · have j1 : (j : Int) < (m : Int) := by omega
      have j0 : (0 : Int) ≤ (j : Int) := by omega
      obtain ⟨x, hx⟩ : ∃ x, L[j]? = some x := ⟨_, List.getElem?_eq_getElem (by rw [HN.out.1]; exact hlt)⟩
      obtain ⟨g, o0, rfl, p0, p1, p2, p3, p4, p5, p6, p7, p8⟩ := HR.out wr hB j x hx
      have HST : Hid (nms (c :: L.take (j + 1)) = nms (c :: L.take j) ++ nm x ∧ good x = true) := ⟨by rw [List.take_add_one, hx, ← List.cons_append]; exact nms_snoc _ _, HN.out.2.1 x (List.mem_of_getElem? hx)⟩
      obtain ⟨wa, hwa⟩ : ∃ wa, wr.alloc (.cells #[.int .i64 (x.length : Int), .int .u64 (FW x 0 : Int), .int .u64 (FW x 1 : Int), .int .u64 (FW x 2 : Int), .int .u64 (FW x 3 : Int), .int .u64 (OW x 0 : Int), .int .u64 (OW x 1 : Int), .int .u64 (OW x 2 : Int), .int .u64 (OW x 3 : Int)] 40 (0, 0)) = wa := ⟨_, rfl⟩
      have hal : Below wr.heap.size wr wa := by rw [← hwa]; exact belA (Below.refl _ _) _
      have hgt : wa.heap[wr.heap.size]? = some (.cells #[.int .i64 (x.length : Int), .int .u64 (FW x 0 : Int), .int .u64 (FW x 1 : Int), .int .u64 (FW x 2 : Int), .int .u64 (FW x 3 : Int), .int .u64 (OW x 0 : Int), .int .u64 (OW x 1 : Int), .int .u64 (OW x 2 : Int), .int .u64 (OW x 3 : Int)] 40 (0, 0)) := by rw [← hwa]; exact alloc_get _ _
      have HX : Hid (∀ W, Below wa.heap.size wa W → ∀ j, W.cell? ⟨wr.heap.size, j, none⟩ = (#[.int .i64 (x.length : Int), .int .u64 (FW x 0 : Int), .int .u64 (FW x 1 : Int), .int .u64 (FW x 2 : Int), .int .u64 (FW x 3 : Int), .int .u64 (OW x 0 : Int), .int .u64 (OW x 1 : Int), .int .u64 (OW x 2 : Int), .int .u64 (OW x 3 : Int)] : Array Value)[j]?) := fun W hW => (cells_block (keepblk3 hW hgt)).1
      have hX6 := HX.out wa (Below.refl _ _)
      have hX6d : ∀ j, wa.drew.cell? ⟨wr.heap.size, j, none⟩ = (#[.int .i64 (x.length : Int), .int .u64 (FW x 0 : Int), .int .u64 (FW x 1 : Int), .int .u64 (FW x 2 : Int), .int .u64 (FW x 3 : Int), .int .u64 (OW x 0 : Int), .int .u64 (OW x 1 : Int), .int .u64 (OW x 2 : Int), .int .u64 (OW x 3 : Int)] : Array Value)[j]? := hX6
      have HOR : Hid (wa.ownsRow w2.heap.size 140 10 u3 (j + 1) (nms (c :: L.take j)) ∧ Below w2.heap.size w2 wa) := ⟨own_belQ oR hal, bel0 hB hal⟩
      have HXG : Hid (∀ W X, Below wa.heap.size wa W → W.grownBy X u3.ownBlock → ∀ j, X.cell? ⟨wr.heap.size, j, none⟩ = (#[.int .i64 (x.length : Int), .int .u64 (FW x 0 : Int), .int .u64 (FW x 1 : Int), .int .u64 (FW x 2 : Int), .int .u64 (FW x 3 : Int), .int .u64 (OW x 0 : Int), .int .u64 (OW x 1 : Int), .int .u64 (OW x 2 : Int), .int .u64 (OW x 3 : Int)] : Array Value)[j]?) := fun W X hW hg => by
        have hb := keepblk3 hW hgt
        refine (cells_block ((hg.block _ (lt_of_get3 hb) (fun e => ?_)).trans hb)).1
        have := (oR.lt _ e.symm).2
        omega
      clear hx hgt oR
      go_upto_region 5 with fail
      go_region_held3 (fun W => ∀ j, W.cell? ⟨wr.heap.size, j, none⟩ = (#[.int .i64 (x.length : Int), .int .u64 (FW x 0 : Int), .int .u64 (FW x 1 : Int), .int .u64 (FW x 2 : Int), .int .u64 (FW x 3 : Int), .int .u64 (OW x 0 : Int), .int .u64 (OW x 1 : Int), .int .u64 (OW x 2 : Int), .int .u64 (OW x 3 : Int)] : Array Value)[j]?) (first | with_reducible exact hX6 | with_reducible exact hX6d | with_reducible exact hk5 | with_reducible exact hk6 | with_reducible exact hk7) (first | (go_at_call 8; refine (HT.out x HST.out.2 _).mono ?_; rintro e w5 ⟨rfl, hb5⟩; have hb5' : Below wa.heap.size wa w5 := (by first | exact hb5 | exact und hb5); have hk5 := HX.out w5 hb5'; have hb6 : Below wa.heap.size wa (w5.alloc (.cells #[.string ⟨x.toArray⟩, .int .i64 (x.length : Int), .int .u64 (FW x 0 : Int), .int .u64 (FW x 1 : Int), .int .u64 (FW x 2 : Int), .int .u64 (FW x 3 : Int), .int .u64 (OW x 0 : Int), .int .u64 (OW x 1 : Int), .int .u64 (OW x 2 : Int), .int .u64 (OW x 3 : Int)] 140 (0, 0))) := belA hb5' _; have hk6 := HX.out _ hb6; have o5 := own_belQ HOR.out.1 hb5'; have hs5 := (bel0 HOR.out.2 hb5').size) | (refine step_append_lies _ (by rfl) _ _ _ (by rfl) w2.heap.size 140 i0 _ 10 88 Tryz.underlying135 hi hz0 hz1 hz2 rfl (by decide) u3 (j + 1) (nms (c :: L.take j)) (by rfl) (World.ownsRow.alloc o5 _) ⟨_, 0, none⟩ 1 1 (nm x) (by rfl) (by rfl) (World.news_of_block (cs := #[.string ⟨x.toArray⟩, .int .i64 (x.length : Int), .int .u64 (FW x 0 : Int), .int .u64 (FW x 1 : Int), .int .u64 (FW x 2 : Int), .int .u64 (FW x 3 : Int), .int .u64 (OW x 0 : Int), .int .u64 (OW x 1 : Int), .int .u64 (OW x 2 : Int), .int .u64 (OW x 3 : Int)]) (t := 140) (fr := (0, 0)) (alloc_get w5 _)) (by simp [nm, Value.oneCell']) (by omega) (by unfold maxLen; omega) (by omega) (by simp; omega) _ rfl ?_; intro g9 c9 w7 o7 g7 _ _; have hk7 := HXG.out _ _ hb6 g7))
      have HE : Hid (w7.ownsRow w2.heap.size 140 10 (.slice (some ⟨g9, 0, none⟩) (j + 1 + 1) c9) (j + 1 + 1) (nms (c :: L.take (j + 1))) ∧ Below w2.heap.size w2 w7) := by
        refine ⟨by rw [HST.out.1]; exact o7, (bel0 HOR.out.2 hb6).grown g7 (by simp; omega) (fun b e => (HOR.out.1.lt b e).1)⟩
      clear o7 g7 hk5 hk6 hk7 o5
      go_wp2_with fail
      go_roundw
      case rel => exact ⟨j + 1, by go_num, by omega, HE.out.1, HE.out.2⟩
      case measure => simp [intOf]; omega
    · have j1 : ¬ (j : Int) < (m : Int) := by omega
      obtain rfl : j = m := by omega
      have eL : L.take j = L := List.take_of_length_le (by rw [HN.out.1]; exact Nat.le_refl _)
      rw [eL] at oR
      rcases own_shapeQ oR with ⟨-, h0⟩ | ⟨g, c9, rfl, hc9, -, -, -⟩
      · omega
      have HFI : Hid (∀ W, W.ownsRow w2.heap.size 140 10 (.slice (some ⟨g, 0, none⟩) (j + 1) c9) (j + 1) (nms (c :: srt L)) → wr.grownBy W (some g) → W.ownsRow w.heap.size 140 10 (.slice (some ⟨g, 0, none⟩) (j + 1) c9) (j + 1) (nms (c :: srt L)) ∧ Below w.heap.size w W) := fun W h1 h2 => ⟨own_base h1 HN.out.2.2.2.size, bel0 HN.out.2.2.2 (hB.grown h2 hB.size (fun b e => (oR.lt b e).1))⟩
      have k1 : (1 : Int) ≤ (c9 : Int) := by omega
      have k2 : (j : Int) + 1 ≤ (c9 : Int) := by omega
      have k3 : 1 ≤ c9 := by omega
      by_cases hc1 : c9 = 1
      · have H1 := HSO.out L c j g c9 w2.heap.size ⟨g, 0, none⟩ wr HN.out.1 hm2 oR (.inl ⟨by omega, rfl⟩)
        subst hc1
        obtain rfl : j = 0 := by omega
        clear oR eL
        go_wp2_with fail
        refine H1.mono ?_
        rintro e W1 ⟨rfl, o9, g9⟩
        have HZ := HFI.out W1 o9 g9
        go_wp2_with fail
        go_ret
        exact ⟨_, rfl, HZ.1, HZ.2⟩
      · have H1 := HSO.out L c j g c9 w2.heap.size ⟨g, 10, none⟩ wr HN.out.1 hm2 oR (.inr rfl)
        clear oR eL
        go_wp2_with fail
        refine H1.mono ?_
        rintro e W1 ⟨rfl, o9, g9⟩
        have HZ := HFI.out W1 o9 g9
        go_wp2_with fail
        go_ret
        exact ⟨_, rfl, HZ.1, HZ.2⟩
end Go.Proofs.YtmdnapognaddbaaGreatDoor
namespace Go.Proofs
open Go.Shelf
def Tryz.l125_ren : Go.Shelf.Ren := ⟨fun | 125 => 102 | 128 => 120 | 129 => 121 | n => n, fun | 46 => 157 | 3 => 3 | 51 => 171 | 53 => 36 | 4 => 4 | 5 => 5 | 9 => 9 | n => n, fun | n => n⟩
theorem Tryz.l125 : Go.Proofs.Lays.n125 Tryz.prog Tryz.l125_ren := {
  mixed := by kernel_rfl
  f125 := Tryz.func102.trans (congrArg some (by kernel_rfl))
  f128 := Tryz.func120.trans (congrArg some (by kernel_rfl))
  f129 := Tryz.func121.trans (congrArg some (by kernel_rfl))
  t3 := Tryz.underlying3
  a3 := Tryz.isAgg3
  z3 := Tryz.sizeOf3
  v3 := Tryz.zeroValue3
  t4 := Tryz.underlying4
  a4 := Tryz.isAgg4
  z4 := Tryz.sizeOf4
  v4 := Tryz.zeroValue4
  t5 := Tryz.underlying5
  a5 := Tryz.isAgg5
  z5 := Tryz.sizeOf5
  v5 := Tryz.zeroValue5
  t9 := Tryz.underlying9
  a9 := Tryz.isAgg9
  z9 := Tryz.sizeOf9
  v9 := Tryz.zeroValue9
  t46 := Tryz.underlying157
  a46 := Tryz.isAgg157
  z46 := Tryz.sizeOf157
  v46 := Tryz.zeroValue157
  t51 := Tryz.underlying171
  a51 := Tryz.isAgg171
  z51 := Tryz.sizeOf171
  v51 := Tryz.zeroValue171
  t53 := Tryz.underlying36
  a53 := Tryz.isAgg36
  z53 := Tryz.sizeOf36
  v53 := Tryz.zeroValue36 }
end Go.Proofs
namespace Go.Proofs.YtmdnapognaddbaaGreatDoor
open Go.RowKit Go.Shelf
set_option maxRecDepth 100000 in
set_option maxHeartbeats 1000000 in
theorem ins_le1 (n : Nat) (hn : n ≤ 1) (p : Option Addr) (c : Nat) (w : World) : Calls Tryz.prog 112 #[.slice p n c, .int .i64 0, .int .i64 (n : Int), .func (.func 83) #[] #[]] w fun e w' => e = .returned (.tuple #[]) ∧ Below w.heap.size w w' := by
  have h1 : ¬ (1 : Int) < (n : Int) := by omega
  go_enter Tryz.func112, Tryz.ntmps112
  go_wp2_with fail
  go_loopw [8] (fun v wr => v = .int .i64 1 ∧ Below w.heap.size w wr) (fun _ _ => 0)
  case atStart => exact ⟨rfl, Below.refl _ _⟩
  case round =>
    obtain ⟨rfl, hB⟩ := hrel
    go_wp2_with fail
    exact ⟨rfl, .tuple #[], by simp [results, Tryz.results112], rfl, hB⟩
set_option maxRecDepth 100000 in
set_option maxHeartbeats 2000000 in
theorem pdq_le1 (n : Nat) (hn : n ≤ 1) (p : Option Addr) (c : Nat) (l : Int) (w : World) : Calls Tryz.prog 101 #[.slice p n c, .int .i64 0, .int .i64 (n : Int), .int .i64 l, .func (.func 83) #[] #[]] w fun e w' => e = .returned (.tuple #[]) ∧ Below w.heap.size w w' := by
  have h1 : (n : Int) ≤ 12 := by omega
  have h2 : (0 : Int) ≤ (n : Int) := by omega
  have HI : Hid (∀ W, Calls Tryz.prog 112 #[.slice p n c, .int .i64 0, .int .i64 (n : Int), .func (.func 83) #[] #[]] W fun e w' => e = .returned (.tuple #[]) ∧ Below W.heap.size W w') := fun W => ins_le1 n hn p c W
  go_enter Tryz.func101, Tryz.ntmps101
  go_wp2_with fail
  go_loopw [1, 2, 3] (fun v1 v2 _ wr => v1 = .int .i64 0 ∧ v2 = .int .i64 (n : Int) ∧ Below w.heap.size w wr) (fun _ _ _ _ => 0)
  case atStart => exact ⟨rfl, rfl, Below.refl _ _⟩
  case round =>
    obtain ⟨rfl, rfl, hB⟩ := hrel
    go_wp2_with fail
    refine (HI.out _).mono ?_
    rintro e W1 ⟨rfl, hb1⟩
    go_wp2_with fail
    exact ⟨rfl, .tuple #[], by simp [results, Tryz.results101], rfl, bel0 hB hb1⟩
set_option maxRecDepth 100000 in
set_option maxHeartbeats 1000000 in
theorem sort_le1 (n : Nat) (hn : n ≤ 1) (p : Option Addr) (c : Nat) (w : World) : Calls Tryz.prog 82 #[.slice p n c, .func (.func 83) #[] #[]] w fun e w' => e = .returned (.tuple #[]) ∧ Below w.heap.size w w' := by
  have HL : Hid (∀ W, Calls Tryz.prog 102 #[.int .u64 (n : Int)] W fun e w' => (∃ l : Int, e = .returned (.int .i64 l)) ∧ w' = W) := fun W => (Any.bits_Len Tryz.l125 n W (by omega) (by omega)).mono fun _ _ ⟨he, hw⟩ => ⟨⟨_, he⟩, hw⟩
  have HP : Hid (∀ (l : Int) (W : World), Calls Tryz.prog 101 #[.slice p n c, .int .i64 0, .int .i64 (n : Int), .int .i64 l, .func (.func 83) #[] #[]] W fun e w' => e = .returned (.tuple #[]) ∧ Below W.heap.size W w') := fun l W => pdq_le1 n hn p c l W
  have h3 : IntKind.u64.wrap (n : Int) = (n : Int) := by unfold IntKind.wrap; simp [IntKind.bits]; omega
  go_enter Tryz.func82, Tryz.ntmps82
  go_wp2_with fail
  refine (HL.out _).mono ?_
  rintro e W1 ⟨⟨l, rfl⟩, rfl⟩
  go_wp2_with fail
  refine (HP.out _ _).mono ?_
  rintro e W2 ⟨rfl, hb2⟩
  go_wp2_with fail
  exact ⟨rfl, .tuple #[], by simp [results, Tryz.results82], rfl, hb2⟩
end Go.Proofs.YtmdnapognaddbaaGreatDoor
