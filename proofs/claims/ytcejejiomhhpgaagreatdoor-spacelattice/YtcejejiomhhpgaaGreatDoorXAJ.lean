import Derived.Test.YtcejejiomhhpgaaGreatDoorXAI
import Derived.Shelf.Small.Strs
import Derived.Ground.NamesProg
import Derived.Test.YtcejejiomhhpgaaGreatDoorProg
namespace Go.Proofs.YtcejejiomhhpgaaGreatDoor
open Go.RowKit
/-- a term as it lies: its cube, and where its list lies -/
structure TRM where
  c : List UInt8
  q : Option Addr
  m : Nat
  k : Nat
def TRM.v (t : TRM) : Value := .slice t.q t.m t.k
/-- a row of terms lies there -/
def IRT (w : World) (p : Option Addr) (Ts : List TRM) : Prop := ∀ W : World, Below w.heap.size w W → ∀ k t, Ts[k]? = some t → ∃ g o0, p = some ⟨g, o0, none⟩ ∧ CB W g (o0 + k * 10) t.c ∧ W.cell? ⟨g, o0 + k * 10 + 9, none⟩ = some (.slice t.q t.m t.k)
theorem IRT.later {w W : World} {p : Option Addr} {L : List TRM} (h : IRT w p L) (hb : Below w.heap.size w W) : IRT W p L := fun X hX k t ht => h X (bel0 hb hX) k t ht
def szT : List TRM → Nat
  | [] => 0
  | t :: r => (1 + t.m) + szT r
theorem szT_app (a b : List TRM) : szT (a ++ b) = szT a + szT b := by
  induction a with
  | nil => simp [szT]
  | cons t a ih => rw [List.cons_append, szT, szT, ih]; omega
theorem szT_take {L : List TRM} {k : Nat} {t : TRM} (h : L[k]? = some t) : szT (L.take (k + 1)) = szT (L.take k) + (1 + t.m) := by
  rw [List.take_add_one, h, szT_app]
  simp [szT]
theorem szT_le (L : List TRM) (k : Nat) : szT (L.take k) ≤ szT L := by
  have e : szT L = szT (L.take k) + szT (L.drop k) := by rw [← szT_app, List.take_append_drop]
  omega
set_option maxRecDepth 100000 in
set_option maxHeartbeats 2000000 in
theorem size_any (Ts : List TRM) (n : Nat) (p : Option Addr) (c : Nat) (w : World) (hn : Ts.length = n) (hN : n ≤ 281474976710656) (hz : szT Ts ≤ 281474976710656) (hr : IRT w p Ts) :
    Calls Tryz.prog 22 #[.slice p n c] w fun e w' => e = .returned (.int .i64 (szT Ts : Int)) ∧ Below w.heap.size w w' := by
  have HR : Hid (IRT w p Ts) := hr
  have HN : Hid (Ts.length = n ∧ szT Ts ≤ 281474976710656) := ⟨hn, hz⟩
  clear hr hn hz
  go_enter Tryz.func22, Tryz.ntmps22
  go_wp2_with fail
  go_loopw [3, 8] (fun v3 v8 wr => ∃ k : Nat, v8 = .int .i64 (k : Int) ∧ k ≤ n ∧ v3 = .int .i64 (szT (Ts.take k) : Int) ∧ Below w.heap.size w wr) (fun _ v8 _ => n - (intOf v8).toNat)
  case atStart => exact ⟨0, rfl, Nat.zero_le _, rfl, Below.refl _ _⟩
  case round =>
    obtain ⟨k, rfl, hk, rfl, hB⟩ := hrel
    by_cases hlt : k < n
    · have j1 : (k : Int) < (n : Int) := by omega
      have j0 : (0 : Int) ≤ (k : Int) := by omega
      obtain ⟨t, ht⟩ : ∃ t, Ts[k]? = some t := ⟨_, List.getElem?_eq_getElem (by rw [HN.out.1]; exact hlt)⟩
      obtain ⟨g, o0, rfl, ⟨p0, p1, p2, p3, p4, p5, p6, p7, p8⟩, p9⟩ := HR.out wr hB k t ht
      have h1 := szT_take ht
      have h2 := szT_le Ts (k + 1)
      have h3 := HN.out.2
      obtain ⟨z, hz⟩ : ∃ z, szT (Ts.take k) = z := ⟨_, rfl⟩
      obtain ⟨tc, tq, tm, tk⟩ := t
      simp only at p0 p1 p2 p3 p4 p5 p6 p7 p8 p9 h1
      rw [hz] at h1 ⊢
      have HS : Hid (szT (Ts.take (k + 1)) = z + (1 + tm)) := h1
      have hb1 : z + (1 + tm) ≤ 281474976710656 := by omega
      obtain ⟨wa, hwa⟩ : ∃ wa, wr.alloc (.cells #[.int .i64 (tc.length : Int), .int .u64 (FW tc 0 : Int), .int .u64 (FW tc 1 : Int), .int .u64 (FW tc 2 : Int), .int .u64 (FW tc 3 : Int), .int .u64 (OW tc 0 : Int), .int .u64 (OW tc 1 : Int), .int .u64 (OW tc 2 : Int), .int .u64 (OW tc 3 : Int), .slice tq tm tk] 59 (0, 0)) = wa := ⟨_, rfl⟩
      have hal : Below wr.heap.size wr wa := by rw [← hwa]; exact belA (Below.refl _ _) _
      have hgt : wa.heap[wr.heap.size]? = some (.cells #[.int .i64 (tc.length : Int), .int .u64 (FW tc 0 : Int), .int .u64 (FW tc 1 : Int), .int .u64 (FW tc 2 : Int), .int .u64 (FW tc 3 : Int), .int .u64 (OW tc 0 : Int), .int .u64 (OW tc 1 : Int), .int .u64 (OW tc 2 : Int), .int .u64 (OW tc 3 : Int), .slice tq tm tk] 59 (0, 0)) := by rw [← hwa]; exact alloc_get _ _
      have d9 : wa.cell? ⟨wr.heap.size, 9, none⟩ = some (.slice tq tm tk) := (cells_block hgt).1 9
      clear hgt
      clear ht h1 h2 h3 hz
      go_wp2_with fail
      go_roundw
      case rel => exact ⟨k + 1, by go_num, by omega, by rw [HS.out]; go_num, bel0 hB hal⟩
      case measure => simp [intOf]; omega
    · have j1 : ¬ (k : Int) < (n : Int) := by omega
      obtain rfl : k = n := by omega
      have e : Ts.take k = Ts := List.take_of_length_le (by rw [HN.out.1]; exact Nat.le_refl _)
      rw [e]
      go_wp2_with fail
      go_ret
      exact ⟨rfl, hB⟩
set_option maxRecDepth 100000 in
theorem spend_ok (a b : Int) (w : World) (h : a ≤ b) : Calls Tryz.prog 38 #[.int .i64 a, .int .i64 b] w fun e w' => e = .returned (.tuple #[]) ∧ w' = w := by
  have h1 : ¬ b < a := by omega
  go_enter Tryz.func38, Tryz.ntmps38
  go_wp2_with fail
  simp [bodyPost, results, Tryz.results38]
set_option maxRecDepth 100000 in
theorem spend_over (a b : Int) (w : World) (h : b < a) : Calls Tryz.prog 38 #[.int .i64 a, .int .i64 b] w fun e w' => e = .panicked [{ v := .iface 81 (.agg #[]), recovered := false }] ∧ w' = w := by
  go_enter Tryz.func38, Tryz.ntmps38
  go_wp2_with fail
  simp [bodyPost]
set_option maxRecDepth 100000 in
theorem idxt1_nil (bw bx : Nat) (w : World) : Calls Tryz.prog 97 #[.slice none 0 0, .func (.func 71) #[] #[.pointer (some ⟨bw, 0, none⟩), .pointer (some ⟨bx, 0, none⟩)]] w fun e w' => e = .returned (.int .i64 (-1)) ∧ Below w.heap.size w w' := by
  go_enter Tryz.func97, Tryz.ntmps97
  go_wp2_with fail
  go_loopw [8] (fun vk wr => vk = .int .i64 0 ∧ Below w.heap.size w wr) (fun _ _ => 0)
  case atStart => exact ⟨rfl, Below.refl _ _⟩
  case round =>
    obtain ⟨rfl, hB⟩ := hrel
    go_wp2_with fail
    go_ret
    exact ⟨rfl, hB⟩
set_option maxRecDepth 100000 in
theorem idxt2_nil (bw bx : Nat) (w : World) : Calls Tryz.prog 97 #[.slice none 0 0, .func (.func 73) #[] #[.pointer (some ⟨bw, 0, none⟩), .pointer (some ⟨bx, 0, none⟩)]] w fun e w' => e = .returned (.int .i64 (-1)) ∧ Below w.heap.size w w' := by
  go_enter Tryz.func97, Tryz.ntmps97
  go_wp2_with fail
  go_loopw [8] (fun vk wr => vk = .int .i64 0 ∧ Below w.heap.size w wr) (fun _ _ => 0)
  case atStart => exact ⟨rfl, Below.refl _ _⟩
  case round =>
    obtain ⟨rfl, hB⟩ := hrel
    go_wp2_with fail
    go_ret
    exact ⟨rfl, hB⟩
set_option maxRecDepth 100000 in
theorem contt_nil (bw bx : Nat) (w : World) : Calls Tryz.prog 70 #[.slice none 0 0, .func (.func 71) #[] #[.pointer (some ⟨bw, 0, none⟩), .pointer (some ⟨bx, 0, none⟩)]] w fun e w' => e = .returned (.bool false) ∧ Below w.heap.size w w' := by
  have H1 := idxt1_nil bw bx w
  go_enter Tryz.func70, Tryz.ntmps70
  go_wp2_with fail
  refine H1.mono ?_
  rintro e W1 ⟨rfl, hb1⟩
  go_wp2_with fail
  go_ret
  exact ⟨rfl, hb1⟩
set_option maxRecDepth 100000 in
theorem delt_nil (bw bx : Nat) (w : World) : Calls Tryz.prog 72 #[.slice none 0 0, .func (.func 73) #[] #[.pointer (some ⟨bw, 0, none⟩), .pointer (some ⟨bx, 0, none⟩)]] w fun e w' => e = .returned (.slice none 0 0) ∧ Below w.heap.size w w' := by
  have H1 := idxt2_nil bw bx w
  go_enter Tryz.func72, Tryz.ntmps72
  go_wp2_with fail
  refine H1.mono ?_
  rintro e W0 ⟨rfl, hb0⟩
  clear H1
  go_wp2_with fail
  go_ret
  exact ⟨rfl, hb0⟩
theorem info_term : (Tryz.prog.info? 59).map (fun i => (i.zero, i.size, i.bytes)) = some (some (.agg #[.int .i64 0, .int .u64 0, .int .u64 0, .int .u64 0, .int .u64 0, .int .u64 0, .int .u64 0, .int .u64 0, .int .u64 0, .slice none 0 0]), 10, 96) := by kernel_rfl
set_option maxRecDepth 100000 in
set_option maxHeartbeats 2000000 in
theorem greatT_one (t : TRM) (p : Option Addr) (c : Nat) (w : World) (hr : IRT w p [t]) :
    Calls Tryz.prog 54 #[.slice p 1 c, .func (.func 55) #[] #[]] w fun e w' => ∃ v, e = .returned v ∧ w'.ownsRow w.heap.size 59 10 v 1 ([.int .i64 (t.c.length : Int), .int .u64 (FW t.c 0 : Int), .int .u64 (FW t.c 1 : Int), .int .u64 (FW t.c 2 : Int), .int .u64 (FW t.c 3 : Int), .int .u64 (OW t.c 0 : Int), .int .u64 (OW t.c 1 : Int), .int .u64 (OW t.c 2 : Int), .int .u64 (OW t.c 3 : Int), .slice t.q t.m t.k]) ∧ Below w.heap.size w w' := by
  obtain ⟨i0, hi, hz0, hz1, hz2⟩ := info_parts info_term
  have HR : Hid (IRT w p [t]) := hr
  clear hr
  go_enter Tryz.func54, Tryz.ntmps54
  go_wp2_with fail
  go_loopw [5, 10] (fun v5 v10 wr => Below w.heap.size w wr ∧ ((v5 = .slice none 0 0 ∧ v10 = .int .i64 0) ∨ (v10 = .int .i64 1 ∧ wr.ownsRow w.heap.size 59 10 v5 1 ([.int .i64 (t.c.length : Int), .int .u64 (FW t.c 0 : Int), .int .u64 (FW t.c 1 : Int), .int .u64 (FW t.c 2 : Int), .int .u64 (FW t.c 3 : Int), .int .u64 (OW t.c 0 : Int), .int .u64 (OW t.c 1 : Int), .int .u64 (OW t.c 2 : Int), .int .u64 (OW t.c 3 : Int), .slice t.q t.m t.k])))) (fun _ v10 _ => 1 - (intOf v10).toNat)
  case atStart => exact ⟨belA (Below.refl _ _) _, .inl ⟨rfl, rfl⟩⟩
  case round =>
    obtain ⟨hB, ⟨rfl, rfl⟩ | ⟨rfl, ho⟩⟩ := hrel
    · obtain ⟨g, o0, rfl, ⟨p0, p1, p2, p3, p4, p5, p6, p7, p8⟩, p9⟩ := HR.out wr hB 0 t rfl
      obtain ⟨tc, tq, tm, tk⟩ := t
      simp only at p0 p1 p2 p3 p4 p5 p6 p7 p8 p9
      rw [Nat.zero_mul, Nat.add_zero] at p0 p1 p2 p3 p4 p5 p6 p7 p8 p9
      obtain ⟨wa, hwa⟩ : ∃ wa, wr.alloc (.cells #[.int .i64 (tc.length : Int), .int .u64 (FW tc 0 : Int), .int .u64 (FW tc 1 : Int), .int .u64 (FW tc 2 : Int), .int .u64 (FW tc 3 : Int), .int .u64 (OW tc 0 : Int), .int .u64 (OW tc 1 : Int), .int .u64 (OW tc 2 : Int), .int .u64 (OW tc 3 : Int), .slice tq tm tk] 59 (0, 0)) = wa := ⟨_, rfl⟩
      have hal : Below wr.heap.size wr wa := by rw [← hwa]; exact belA (Below.refl _ _) _
      have hgt : wa.heap[wr.heap.size]? = some (.cells #[.int .i64 (tc.length : Int), .int .u64 (FW tc 0 : Int), .int .u64 (FW tc 1 : Int), .int .u64 (FW tc 2 : Int), .int .u64 (FW tc 3 : Int), .int .u64 (OW tc 0 : Int), .int .u64 (OW tc 1 : Int), .int .u64 (OW tc 2 : Int), .int .u64 (OW tc 3 : Int), .slice tq tm tk] 59 (0, 0)) := by rw [← hwa]; exact alloc_get _ _
      have HGT : Hid (wa.heap[wr.heap.size]? = some (.cells #[.int .i64 (tc.length : Int), .int .u64 (FW tc 0 : Int), .int .u64 (FW tc 1 : Int), .int .u64 (FW tc 2 : Int), .int .u64 (FW tc 3 : Int), .int .u64 (OW tc 0 : Int), .int .u64 (OW tc 1 : Int), .int .u64 (OW tc 2 : Int), .int .u64 (OW tc 3 : Int), .slice tq tm tk] 59 (0, 0))) := hgt
      clear hgt
      go_wp2_with fail
      refine (contt_nil _ _ _).mono ?_
      rintro e W1 ⟨rfl, hb1⟩
      go_wp2_with fail
      refine (delt_nil _ _ _).mono ?_
      rintro e W2 ⟨rfl, hb2⟩
      have hB2 := bel0 hal (bel0 hb1 hb2)
      obtain ⟨hc2, -⟩ := cells_block (keepblk3 (bel0 hb1 hb2) HGT.out)
      have hBw := bel0 hB hB2
      have hsz := hBw.size
      go_wp2_with (at_builtin; refine wpList_append_own _ rfl _ _ 24 rfl w.heap.size 59 i0 _ 10 96 Tryz.underlying24 hi hz0 hz1 hz2 rfl (by decide) _ _ _ rfl (World.ownsRow_nil _ _ _ _) ⟨_, 0, none⟩ 1 1 ([.int .i64 (tc.length : Int), .int .u64 (FW tc 0 : Int), .int .u64 (FW tc 1 : Int), .int .u64 (FW tc 2 : Int), .int .u64 (FW tc 3 : Int), .int .u64 (OW tc 0 : Int), .int .u64 (OW tc 1 : Int), .int .u64 (OW tc 2 : Int), .int .u64 (OW tc 3 : Int), .slice tq tm tk]) rfl rfl (World.news_of_block (cs := #[.int .i64 (tc.length : Int), .int .u64 (FW tc 0 : Int), .int .u64 (FW tc 1 : Int), .int .u64 (FW tc 2 : Int), .int .u64 (FW tc 3 : Int), .int .u64 (OW tc 0 : Int), .int .u64 (OW tc 1 : Int), .int .u64 (OW tc 2 : Int), .int .u64 (OW tc 3 : Int), .slice tq tm tk]) (t := 59) (fr := (0, 0)) (alloc_get _ _)) (by simp [Value.oneCell']) (by unfold maxLen; omega) (by omega) (by simp; omega) ?_; intro v4 w4 o4 g4 _)
      have HE : Hid (Below w.heap.size w w4 ∧ w4.ownsRow w.heap.size 59 10 v4 1 ([.int .i64 (tc.length : Int), .int .u64 (FW tc 0 : Int), .int .u64 (FW tc 1 : Int), .int .u64 (FW tc 2 : Int), .int .u64 (FW tc 3 : Int), .int .u64 (OW tc 0 : Int), .int .u64 (OW tc 1 : Int), .int .u64 (OW tc 2 : Int), .int .u64 (OW tc 3 : Int), .slice tq tm tk])) := ⟨(belA hBw _).grown g4 (by simp; omega) (fun b e => by cases e), by simpa using o4⟩
      clear o4 g4 hc2
      go_wp2_with fail
      go_roundw
      case rel => exact ⟨HE.out.1, .inr ⟨by go_num, HE.out.2⟩⟩
      case measure => simp [intOf]
    · have HO : Hid (wr.ownsRow w.heap.size 59 10 u5 1 ([.int .i64 (t.c.length : Int), .int .u64 (FW t.c 0 : Int), .int .u64 (FW t.c 1 : Int), .int .u64 (FW t.c 2 : Int), .int .u64 (FW t.c 3 : Int), .int .u64 (OW t.c 0 : Int), .int .u64 (OW t.c 1 : Int), .int .u64 (OW t.c 2 : Int), .int .u64 (OW t.c 3 : Int), .slice t.q t.m t.k])) := ho
      clear ho
      go_wp2_with fail
      go_ret
      exact ⟨_, rfl, HO.out, hB⟩
end Go.Proofs.YtcejejiomhhpgaaGreatDoor
namespace Go.Proofs.YtcejejiomhhpgaaGreatDoor
open Go.RowKit
theorem IRT_one {W : World} {B c : Nat} {p : Option Addr} {t : TRM} (h : W.ownsRow B 59 10 (.slice p 1 c) 1 ([.int .i64 (t.c.length : Int), .int .u64 (FW t.c 0 : Int), .int .u64 (FW t.c 1 : Int), .int .u64 (FW t.c 2 : Int), .int .u64 (FW t.c 3 : Int), .int .u64 (OW t.c 0 : Int), .int .u64 (OW t.c 1 : Int), .int .u64 (OW t.c 2 : Int), .int .u64 (OW t.c 3 : Int), .slice t.q t.m t.k])) : IRT W p [t] := fun X hX k u hu => by
  cases k with
  | succ k => simp at hu
  | zero =>
    obtain rfl : t = u := by simpa using hu
    rcases h.2 with ⟨e, h0⟩ | ⟨g, cap, cur, e, _⟩
    · omega
    · injection e with e1 _ _
      subst e1
      have cc : ∀ j, j < 10 → W.cell? ⟨g, j, none⟩ = ([.int .i64 (t.c.length : Int), .int .u64 (FW t.c 0 : Int), .int .u64 (FW t.c 1 : Int), .int .u64 (FW t.c 2 : Int), .int .u64 (FW t.c 3 : Int), .int .u64 (OW t.c 0 : Int), .int .u64 (OW t.c 1 : Int), .int .u64 (OW t.c 2 : Int), .int .u64 (OW t.c 3 : Int), .slice t.q t.m t.k] : List Value)[j]? := fun j hj => h.cellAt j (by omega)
      have hk : ∀ {p : Addr} {v : Value}, W.cell? p = some v → X.cell? p = some v := fun h => (hX.cell (World.block_lt_of_cell? W _ h)).trans h
      refine ⟨g, 0, rfl, ⟨hk (cc 0 (by omega)), hk (cc 1 (by omega)), hk (cc 2 (by omega)), hk (cc 3 (by omega)), hk (cc 4 (by omega)), hk (cc 5 (by omega)), hk (cc 6 (by omega)), hk (cc 7 (by omega)), hk (cc 8 (by omega))⟩, hk (cc 9 (by omega))⟩
set_option maxRecDepth 100000 in
theorem greatT_nil (w : World) : Calls Tryz.prog 54 #[.slice none 0 0, .func (.func 55) #[] #[]] w fun e w' => e = .returned (.slice none 0 0) ∧ Below w.heap.size w w' := by
  go_enter Tryz.func54, Tryz.ntmps54
  go_wp2_with fail
  go_loopw [5, 10] (fun v5 v10 wr => v5 = .slice none 0 0 ∧ v10 = .int .i64 0 ∧ Below w.heap.size w wr) (fun _ _ _ => 0)
  case atStart => exact ⟨rfl, rfl, belA (Below.refl _ _) _⟩
  case round =>
    obtain ⟨rfl, rfl, hB⟩ := hrel
    go_wp2_with fail
    go_ret
    exact ⟨rfl, hB⟩
set_option maxRecDepth 100000 in
set_option maxHeartbeats 1000000 in
theorem topmost_nil (w : World) : Calls Tryz.prog 34 #[.slice none 0 0] w fun e w' => e = .returned (.slice none 0 0) ∧ Below w.heap.size w w' := by
  have H1 := greatT_nil w
  go_enter Tryz.func34, Tryz.ntmps34
  go_wp2_with fail
  refine H1.mono ?_
  rintro e W1 ⟨rfl, hb1⟩
  clear H1
  have H2 := size_any [] 0 none 0 W1 rfl (by omega) (by simp [szT]) (fun W hW k t ht => by simp at ht)
  go_wp2_with fail
  refine H2.mono ?_
  rintro e W2 ⟨rfl, hb2⟩
  clear H2
  go_wp2_with fail
  refine (spend_ok (szT [] : Int) 128 W2 (by simp [szT])).mono ?_
  rintro e W3 ⟨rfl, rfl⟩
  go_wp2_with fail
  go_ret
  exact ⟨rfl, bel0 hb1 hb2⟩
set_option maxRecDepth 100000 in
set_option maxHeartbeats 1000000 in
theorem topmost_one (t : TRM) (p : Option Addr) (c : Nat) (w : World) (hr : IRT w p [t]) (hm : t.m ≤ 1000000) :
    Calls Tryz.prog 34 #[.slice p 1 c] w fun e w' => Below w.heap.size w w' ∧ ((1 + t.m ≤ 128 ∧ ∃ v, e = .returned v ∧ w'.ownsRow w.heap.size 59 10 v 1 ([.int .i64 (t.c.length : Int), .int .u64 (FW t.c 0 : Int), .int .u64 (FW t.c 1 : Int), .int .u64 (FW t.c 2 : Int), .int .u64 (FW t.c 3 : Int), .int .u64 (OW t.c 0 : Int), .int .u64 (OW t.c 1 : Int), .int .u64 (OW t.c 2 : Int), .int .u64 (OW t.c 3 : Int), .slice t.q t.m t.k])) ∨ (128 < 1 + t.m ∧ e = .panicked [{ v := .iface 81 (.agg #[]), recovered := false }])) := by
  have H1 := greatT_one t p c w hr
  have HM : Hid (t.m ≤ 1000000) := hm
  clear hr hm
  go_enter Tryz.func34, Tryz.ntmps34
  go_wp2_with fail
  refine H1.mono ?_
  rintro e W1 ⟨v, rfl, ho, hb1⟩
  clear H1
  obtain ⟨p1, c1, rfl⟩ := shapeQ1 ho
  have hz : szT [t] = 1 + t.m := by simp [szT]
  have H2 := size_any [t] 1 p1 c1 W1 rfl (by omega) (by rw [hz]; have := HM.out; omega) (IRT_one ho)
  rw [hz] at H2
  have HO : Hid (W1.ownsRow w.heap.size 59 10 (.slice p1 1 c1) 1 ([.int .i64 (t.c.length : Int), .int .u64 (FW t.c 0 : Int), .int .u64 (FW t.c 1 : Int), .int .u64 (FW t.c 2 : Int), .int .u64 (FW t.c 3 : Int), .int .u64 (OW t.c 0 : Int), .int .u64 (OW t.c 1 : Int), .int .u64 (OW t.c 2 : Int), .int .u64 (OW t.c 3 : Int), .slice t.q t.m t.k])) := ho
  clear ho hz
  go_wp2_with fail
  refine H2.mono ?_
  rintro e W2 ⟨rfl, hb2⟩
  clear H2
  go_wp2_with fail
  by_cases hle : 1 + t.m ≤ 128
  · refine (spend_ok ((1 + t.m : Nat) : Int) 128 W2 (by omega)).mono ?_
    rintro e W3 ⟨rfl, rfl⟩
    go_wp2_with fail
    go_ret
    exact ⟨bel0 hb1 hb2, .inl ⟨hle, _, rfl, own_belQ HO.out hb2⟩⟩
  · refine (spend_over ((1 + t.m : Nat) : Int) 128 W2 (by omega)).mono ?_
    rintro e W3 ⟨rfl, rfl⟩
    have HB : Hid (Below w.heap.size w W3) := bel0 hb1 hb2
    go_wp2_with fail
    exact ⟨rfl, HB.out, .inr ⟨by omega, rfl⟩⟩
end Go.Proofs.YtcejejiomhhpgaaGreatDoor
namespace Go.Proofs
open Go.Shelf
def Tryz.l106_ren : Go.Shelf.Ren := ⟨fun | 106 => 69 | 213 => 96 | 265 => 115 | n => n, fun | 9 => 9 | 3 => 3 | n => n, fun | n => n⟩
theorem Tryz.l106 : Go.Proofs.Lays.n106 Tryz.prog Tryz.l106_ren := {
  mixed := by kernel_rfl
  f106 := Tryz.func69.trans (congrArg some (by kernel_rfl))
  f213 := Tryz.func96.trans (congrArg some (by kernel_rfl))
  f265 := Tryz.func115.trans (congrArg some (by kernel_rfl))
  t3 := Tryz.underlying3
  a3 := Tryz.isAgg3
  z3 := Tryz.sizeOf3
  v3 := Tryz.zeroValue3
  t9 := Tryz.underlying9
  a9 := Tryz.isAgg9
  z9 := Tryz.sizeOf9
  v9 := Tryz.zeroValue9 }
end Go.Proofs
