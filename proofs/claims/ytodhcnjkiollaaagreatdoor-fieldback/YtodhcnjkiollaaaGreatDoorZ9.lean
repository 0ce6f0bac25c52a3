import Derived.Test.YtodhcnjkiollaaaGreatDoorZ2
import Derived.Lib.UnsafeStr
import Derived.Deep.AppendLies
import Derived.Test.YtodhcnjkiollaaaGreatDoorZ8
import Derived.OneCell
import Derived.Laws.Rows
namespace Go.Proofs.YtodhcnjkiollaaaGreatDoor
open Go.RowKit Go.Shelf
theorem stx_len (L : List (List UInt8)) : (stx L).length = L.length := by simp [stx]
theorem stx_get (L : List (List UInt8)) (i : Nat) (h : i < L.length) : (stx L)[i]? = some (Value.string ⟨(L[i]).toArray⟩) := by simp [stx, List.getElem?_eq_getElem h]
theorem pow_pred (k : Nat) : 2 ^ k - 1 + 1 = 2 ^ k := by
  have : 0 < 2 ^ k := Nat.pow_pos (by decide)
  omega
/-- Cover's error -/
def covE (b lo hi : Int) : Nat :=
  if b < 1 ∨ 32 < b then 1
  else if ¬ (0 ≤ lo ∧ lo ≤ ((2 ^ b.toNat - 1 : Nat) : Int)) ∨ ¬ (0 ≤ hi ∧ hi ≤ ((2 ^ b.toNat - 1 : Nat) : Int)) then 42
  else if hi < lo then 43 else 0
def covL (b lo hi : Int) : List (List UInt8) := if covE b lo hi = 0 then cov b.toNat lo.toNat hi.toNat else []
def cvR (w : World) (b lo hi : Int) (e : Ending) (w' : World) : Prop := ∃ v, e = .returned (.tuple #[v, .int .i64 (covE b lo hi : Int)]) ∧ w'.ownsRow w.heap.size 9 1 v (covL b lo hi).length (stx (covL b lo hi)) ∧ Below w.heap.size w w'
theorem cvR_nil {w w' : World} {b lo hi : Int} {n : Nat} {e : Ending} (h : covE b lo hi = n) (hn : n ≠ 0) (he : e = .returned (.tuple #[.slice none 0 0, .int .i64 (n : Int)])) (hb : Below w.heap.size w w') : cvR w b lo hi e w' := by
  refine ⟨.slice none 0 0, by rw [h]; exact he, ?_, hb⟩
  have : covL b lo hi = [] := by unfold covL; rw [if_neg (by rw [h]; exact hn)]
  rw [this]
  exact World.ownsRow_nil _ _ _ _
set_option maxRecDepth 100000 in
set_option maxHeartbeats 1000000 in
theorem cover_any (b lo hi : Int) (w : World) (hdb : DB w) :
    Calls Tryz.prog 45 #[.int .i64 b, .int .i64 lo, .int .i64 hi] w fun e w' => cvR w b lo hi e w' := by
  by_cases h1 : b < 1
  · have hr : Hid (covE b lo hi = 1) := if_pos (.inl h1)
    go_enter Tryz.func45, Tryz.ntmps45
    go_wp2_with fail
    go_ret2
    exact cvR_nil hr.out (by decide) rfl (Below.refl _ _)
  · by_cases h2 : 32 < b
    · have hr : Hid (covE b lo hi = 1) := if_pos (.inr h2)
      go_enter Tryz.func45, Tryz.ntmps45
      go_wp2_with fail
      go_ret2
      exact cvR_nil hr.out (by decide) rfl (Below.refl _ _)
    · obtain ⟨n, rfl⟩ : ∃ n : Nat, b = (n : Int) := ⟨b.toNat, by omega⟩
      have HF := fun v W => fits_any v n (by omega) W
      have hE : covE (n : Int) lo hi = if ¬ (0 ≤ lo ∧ lo ≤ ((2 ^ n - 1 : Nat) : Int)) ∨ ¬ (0 ≤ hi ∧ hi ≤ ((2 ^ n - 1 : Nat) : Int)) then 42 else if hi < lo then 43 else 0 := by
        unfold covE
        rw [if_neg (by omega), Int.toNat_natCast]
      by_cases g1 : 0 ≤ lo ∧ lo ≤ ((2 ^ n - 1 : Nat) : Int)
      · have F1 := fun W => HF lo W
        rw [decide_eq_true g1] at F1
        by_cases g2 : 0 ≤ hi ∧ hi ≤ ((2 ^ n - 1 : Nat) : Int)
        · have F2 := fun W => HF hi W
          rw [decide_eq_true g2] at F2
          rw [if_neg (by rintro (h | h); exact h g1; exact h g2)] at hE
          by_cases g3 : hi < lo
          · rw [if_pos g3] at hE
            have hr : Hid (covE (n : Int) lo hi = 43) := hE
            clear hE HF g1 g2
            go_enter Tryz.func45, Tryz.ntmps45
            go_wp2_with fail
            refine (F1 _).mono ?_
            rintro e w1 ⟨rfl, rfl⟩
            go_wp2_with fail
            refine (F2 _).mono ?_
            rintro e w2 ⟨rfl, rfl⟩
            go_wp2_with fail
            go_ret2
            exact cvR_nil hr.out (by decide) rfl (Below.refl _ _)
          · rw [if_neg g3] at hE
            obtain ⟨l, rfl⟩ : ∃ l : Nat, lo = (l : Int) := ⟨lo.toNat, by omega⟩
            obtain ⟨h, rfl⟩ : ∃ h : Nat, hi = (h : Int) := ⟨hi.toNat, by omega⟩
            have hp0 : 0 < 2 ^ n := Nat.pow_pos (by decide)
            have HP := prefixes_any n l h (by omega) (by omega) (by omega) (by omega) w hdb
            have hcl : covL (n : Int) (l : Int) (h : Int) = cov n l h := by unfold covL; rw [if_pos hE]; simp
            rw [← hcl] at HP
            have hr : Hid (covE (n : Int) (l : Int) (h : Int) = 0) := hE
            clear hE HF g1 g2 hcl hp0 hdb
            go_enter Tryz.func45, Tryz.ntmps45
            go_wp2_with fail
            refine (F1 _).mono ?_
            rintro e w1 ⟨rfl, rfl⟩
            go_wp2_with fail
            refine (F2 _).mono ?_
            rintro e w2 ⟨rfl, rfl⟩
            go_wp2_with fail
            refine HP.mono ?_
            rintro e w3 ⟨v3, rfl, ho3, hb3⟩
            go_wp2_with fail
            go_ret2
            exact ⟨v3, by rw [hr.out]; rfl, ho3, hb3⟩
        · have F2 := fun W => HF hi W
          rw [decide_eq_false g2] at F2
          rw [if_pos (.inr g2)] at hE
          have hr : Hid (covE (n : Int) lo hi = 42) := hE
          clear hE HF g1 g2
          go_enter Tryz.func45, Tryz.ntmps45
          go_wp2_with fail
          refine (F1 _).mono ?_
          rintro e w1 ⟨rfl, rfl⟩
          go_wp2_with fail
          refine (F2 _).mono ?_
          rintro e w2 ⟨rfl, rfl⟩
          go_wp2_with fail
          go_ret2
          exact cvR_nil hr.out (by decide) rfl (Below.refl _ _)
      · have F1 := fun W => HF lo W
        rw [decide_eq_false g1] at F1
        rw [if_pos (.inl g1)] at hE
        have hr : Hid (covE (n : Int) lo hi = 42) := hE
        clear hE HF g1
        go_enter Tryz.func45, Tryz.ntmps45
        go_wp2_with fail
        refine (F1 _).mono ?_
        rintro e w1 ⟨rfl, rfl⟩
        go_wp2_with fail
        go_ret2
        exact cvR_nil hr.out (by decide) rfl (Below.refl _ _)
end Go.Proofs.YtodhcnjkiollaaaGreatDoor
namespace Go.Proofs.YtodhcnjkiollaaaGreatDoor
open Go.RowKit Go.Shelf
set_option maxRecDepth 100000 in
theorem top_any (b : Nat) (hb : b ≤ 32) (w : World) :
    Calls Tryz.prog 67 #[.int .i64 (b : Int)] w fun e w' => e = .returned (.int .i64 ((2 ^ b - 1 : Nat) : Int)) ∧ w' = w := by
  have hp : 2 ^ b ≤ 2 ^ 32 := Nat.pow_le_pow_right (by decide) hb
  have hp0 : 0 < 2 ^ b := Nat.pow_pos (by decide)
  go_enter Tryz.func67, Tryz.ntmps67
  go_wp2_with fail
  go_ret
  refine ⟨?_, rfl⟩
  have e1 : wrap64 (2 ^ b) = ((2 ^ b : Nat) : Int) := by rw [pow_cast]; exact w64 (by omega) (by omega)
  have e2 : wrap64 (wrap64 (2 ^ b) - 1) = ((2 ^ b - 1 : Nat) : Int) := by rw [e1, w64 (by omega) (by omega)]; omega
  exact congrArg (fun z => Ending.returned (Value.int .i64 z)) e2
set_option maxRecDepth 100000 in
set_option maxHeartbeats 1000000 in
theorem xs_any (n : Nat) (hn : n ≤ 1024) (w : World) :
    Calls Tryz.prog 42 #[.int .i64 (n : Int)] w fun e w' => e = .returned (.string ⟨(List.replicate n 120).toArray⟩) ∧ Below w.heap.size w w' := by
  obtain ⟨i0, hi0, hz0, hz1, hz2⟩ := info_parts info_u8
  go_enter Tryz.func42, Tryz.ntmps42
  go_wp2_with fail
  go_loopw [3, 4] (fun v vi wr => ∃ i : Nat, vi = .int .i64 i ∧ i ≤ n ∧ wr.ownsRow w.heap.size 5 1 v (List.replicate i (120 : UInt8)).length (Lib.byteCells (List.replicate i 120)) ∧ Below w.heap.size w wr) (fun _ vi _ => n - (intOf vi).toNat)
  case atStart => exact ⟨0, rfl, Nat.zero_le _, World.ownsRow_nil _ _ _ _, Below.refl _ _⟩
  case round =>
    obtain ⟨i, rfl, hi, hown, hB⟩ := hrel
    have hsz := hB.size
    by_cases hlt : i < n
    · have i1 : (i : Int) < (n : Int) := by omega
      rw [List.length_replicate] at hown
      obtain ⟨qv, cv, rfl⟩ := shapeP hown
      go_wp2_with (at_builtin; refine wpList_append_own _ rfl _ _ 40 rfl w.heap.size 5 i0 _ 1 1 Tryz.underlying40 hi0 hz0 hz1 hz2 rfl (by decide) _ _ _ rfl (hown.alloc _) ⟨wr.heap.size, 0, none⟩ 1 1 [Value.int .u8 120] rfl rfl (World.news_of_block (cs := #[.int .u8 120]) (t := 5) (fr := (0, 0)) (alloc_get _ _)) (by simp [Value.oneCell']) (by unfold maxLen; omega) (by omega) (by simp; omega) ?_; intro v5 w5 oB hg5 _)
      have b5 : Below w.heap.size w w5 := (hB.alloc hsz _).grown hg5 (by simp; omega) (fun k e => (hown.lt k e).1)
      have o5 : w5.ownsRow w.heap.size 5 1 v5 (List.replicate (i + 1) (120 : UInt8)).length (Lib.byteCells (List.replicate (i + 1) 120)) := by
        rw [List.length_replicate, List.replicate_succ', byteCells_append]
        exact oB
      clear oB hg5 hown hB
      go_roundw
      case rel => exact ⟨i + 1, by go_num, by omega, o5, b5⟩
      case measure => simp [intOf]; omega
    · have i1 : ¬ (i : Int) < (n : Int) := by omega
      obtain rfl : i = n := by omega
      have hcv := conv_own _ hown
      obtain ⟨S, hS⟩ : ∃ S : List UInt8, List.replicate i 120 = S := ⟨_, rfl⟩
      rw [hS] at hcv
      have HS : Hid (List.replicate i 120 = S) := hS
      clear hown hS
      go_wp2_with fail
      go_ret
      have hSa : S.toArray = Array.replicate i 120 := by rw [← HS.out]; simp
      exact ⟨congrArg (fun x => Ending.returned (Value.string ⟨x⟩)) hSa, hB⟩
set_option maxRecDepth 100000 in
set_option maxHeartbeats 1000000 in
theorem rdigits_any (v n : Nat) (hn : n ≤ 32) (hv : v < 8589934592) (w : World) :
    Calls Tryz.prog 91 #[.int .i64 (v : Int), .int .i64 (n : Int)] w fun e w' => e = .returned (.string ⟨((List.range n).map (bitB n v)).toArray⟩) ∧ Below w.heap.size w w' := by
  obtain ⟨i0, hi0, hz0, hz1, hz2⟩ := info_parts info_u8
  have e0 : IntKind.i64.wrap ((n : Int) - 1) = (n : Int) - 1 := by rw [IntKind.wrap_i64]; omega
  go_enter Tryz.func91, Tryz.ntmps91
  go_wp2_with fail
  go_loopw [5, 6] (fun vl vi wr => ∃ p : Nat, vi = .int .i64 ((n : Int) - 1 - (p : Int)) ∧ p ≤ n ∧ wr.ownsRow w.heap.size 5 1 vl p (Lib.byteCells ((List.range p).map (bitB n v))) ∧ Below w.heap.size w wr) (fun _ vi _ => (intOf vi + 1).toNat)
  case atStart => exact ⟨0, by simp, Nat.zero_le _, World.ownsRow_nil _ _ _ _, Below.refl _ _⟩
  case round =>
    obtain ⟨p, rfl, hp, hown, hB⟩ := hrel
    have hsz := hB.size
    by_cases hlt : p < n
    · obtain ⟨k, hk⟩ : ∃ k : Nat, n - 1 - p = k := ⟨_, rfl⟩
      have hkk : (n : Int) - 1 - (p : Int) = (k : Int) := by omega
      rw [hkk]
      have i1 : (0 : Int) ≤ (k : Int) := by omega
      have k32 : k ≤ 32 := by omega
      have hd : v / 2 ^ k ≤ v := Nat.div_le_self _ _
      have hand := and1 (v / 2 ^ k) (by omega)
      rw [← div_cast] at hand
      have hbit : bitB n v p = UInt8.ofNat (48 + v / 2 ^ k % 2) := by unfold bitB; rw [hk]
      obtain ⟨d, hdd⟩ : ∃ d, v / 2 ^ k % 2 = d := ⟨_, rfl⟩
      rw [hdd] at hand hbit
      have hd2 : d = 0 ∨ d = 1 := by omega
      have e9 : IntKind.i64.wrap ((k : Int) - 1) = (k : Int) - 1 := by rw [IntKind.wrap_i64]; omega
      obtain ⟨qv, cv, rfl⟩ := shapeP hown
      have hsnoc : ∀ c : UInt8, bitB n v p = c → Lib.byteCells ((List.range (p + 1)).map (bitB n v)) = Lib.byteCells ((List.range p).map (bitB n v)) ++ [Value.int .u8 (c.toNat : Int)] := fun c hc => by
        rw [List.range_succ, List.map_append, byteCells_append]
        show _ ++ [Value.int .u8 ((bitB n v p).toNat : Int)] = _
        rw [hc]
      have HK : Hid ((n : Int) - 1 - (p : Int) = (k : Int)) := hkk
      clear hdd hd hkk
      rcases hd2 with rfl | rfl
      · have hs0 := hsnoc 48 hbit
        clear hsnoc hbit
        go_wp2_with (at_builtin; refine wpList_append_own _ rfl _ _ 40 rfl w.heap.size 5 i0 _ 1 1 Tryz.underlying40 hi0 hz0 hz1 hz2 rfl (by decide) _ _ _ rfl (hown.alloc _) ⟨wr.heap.size, 0, none⟩ 1 1 [Value.int .u8 48] rfl rfl (World.news_of_block (cs := #[.int .u8 48]) (t := 5) (fr := (0, 0)) (alloc_get _ _)) (by simp [Value.oneCell']) (by unfold maxLen; omega) (by omega) (by simp; omega) ?_; intro v5 w5 oB hg5 _)
        have b5 : Below w.heap.size w w5 := (hB.alloc hsz _).grown hg5 (by simp; omega) (fun k e => (hown.lt k e).1)
        have o5 : w5.ownsRow w.heap.size 5 1 v5 (p + 1) (Lib.byteCells ((List.range (p + 1)).map (bitB n v))) := by rw [hs0]; exact oB
        clear oB hg5 hown hB hs0 hand
        go_roundw
        case rel => exact ⟨p + 1, by have := HK.out; go_num, by omega, o5, b5⟩
        case measure => simp [intOf]
      · have hs0 := hsnoc 49 hbit
        clear hsnoc hbit
        go_wp2_with (at_builtin; refine wpList_append_own _ rfl _ _ 40 rfl w.heap.size 5 i0 _ 1 1 Tryz.underlying40 hi0 hz0 hz1 hz2 rfl (by decide) _ _ _ rfl (hown.alloc _) ⟨wr.heap.size, 0, none⟩ 1 1 [Value.int .u8 49] rfl rfl (World.news_of_block (cs := #[.int .u8 49]) (t := 5) (fr := (0, 0)) (alloc_get _ _)) (by simp [Value.oneCell']) (by unfold maxLen; omega) (by omega) (by simp; omega) ?_; intro v5 w5 oB hg5 _)
        have b5 : Below w.heap.size w w5 := (hB.alloc hsz _).grown hg5 (by simp; omega) (fun k e => (hown.lt k e).1)
        have o5 : w5.ownsRow w.heap.size 5 1 v5 (p + 1) (Lib.byteCells ((List.range (p + 1)).map (bitB n v))) := by rw [hs0]; exact oB
        clear oB hg5 hown hB hs0 hand
        go_roundw
        case rel => exact ⟨p + 1, by have := HK.out; go_num, by omega, o5, b5⟩
        case measure => simp [intOf]
    · obtain rfl : p = n := by omega
      have hkk : (p : Int) - 1 - (p : Int) = -1 := by omega
      rw [hkk]
      have hcv := conv_own ((List.range p).map (bitB p v)) (by rw [List.length_map, List.length_range]; exact hown)
      obtain ⟨S, hS⟩ : ∃ S : List UInt8, (List.range p).map (bitB p v) = S := ⟨_, rfl⟩
      rw [hS] at hcv
      have HS : Hid ((List.range p).map (bitB p v) = S) := hS
      clear hown hS
      go_wp2_with fail
      go_ret
      exact ⟨by rw [HS.out]; rfl, hB⟩
end Go.Proofs.YtodhcnjkiollaaaGreatDoor
namespace Go.Proofs.YtodhcnjkiollaaaGreatDoor
open Go.RowKit Go.Shelf
theorem own_not {W : World} {B g n : Nat} {e e2 : TypeId} {sz : Nat} {v : Value} {xs : List Value} {cs : Array Value} {m : Nat × Nat} (h : W.ownsRow B e sz v n xs) (hk : W.heap[g]? = some (.cells cs e2 m)) (hne : e ≠ e2) : v.ownBlock ≠ some g := by
  intro hb
  rcases h.2 with ⟨rfl, _⟩ | ⟨g2, c2, cur2, rfl, _, hg2, _⟩
  · cases hb
  · have : g2 = g := by injection hb
    subst this
    rw [hk] at hg2
    exact hne (by injection hg2 with hg2; injection hg2 with _ h2 _; exact h2.symm)
/-- a token: its kind, text, line, column -/
abbrev Tok := Nat × List UInt8 × Nat × Nat
def tcel (t : Tok) : List Value := [.int .i64 (t.1 : Int), .string ⟨t.2.1.toArray⟩, .int .i64 (t.2.2.1 : Int), .int .i64 (t.2.2.2 : Int)]
def tcels (L : List Tok) : List Value := L.flatMap tcel
theorem tcels_snoc (L : List Tok) (t : Tok) : tcels (L ++ [t]) = tcels L ++ tcel t := by simp [tcels]
theorem info_tok : (Tryz.prog.info? 126).map (fun i => (i.zero, i.size, i.bytes)) = some (some (.agg #[.int .i64 0, .string ⟨#[]⟩, .int .i64 0, .int .i64 0]), 4, 40) := by kernel_rfl
/-- the signs, the longer ones first -/
abbrev signsL : List (List UInt8) := [[33, 61], [60, 61], [62, 61], [46, 46], [45, 62], [40], [41], [33], [61], [60], [62], [38], [124], [44], [58], [47]]
abbrev signsC : Array Value := #[.string ⟨#[33, 61]⟩, .string ⟨#[60, 61]⟩, .string ⟨#[62, 61]⟩, .string ⟨#[46, 46]⟩, .string ⟨#[45, 62]⟩, .string ⟨#[40]⟩, .string ⟨#[41]⟩, .string ⟨#[33]⟩, .string ⟨#[61]⟩, .string ⟨#[60]⟩, .string ⟨#[62]⟩, .string ⟨#[38]⟩, .string ⟨#[124]⟩, .string ⟨#[44]⟩, .string ⟨#[58]⟩, .string ⟨#[47]⟩]
/-- the table of the signs lies there -/
def SG (w : World) : Prop := ∃ t fr, w.heap[5]? = some (.cells signsC t fr)
theorem SG.below {w W : World} (h : SG w) (hb : Below w.heap.size w W) : SG W := by
  obtain ⟨t, fr, h⟩ := h
  exact ⟨t, fr, (hb.block _ (lt_of_get h)).trans h⟩
theorem SG.cell {w : World} (h : SG w) (j : Nat) : w.cell? ⟨5, j, none⟩ = signsC[j]? := by
  obtain ⟨t, fr, h⟩ := h
  exact cell_of_row w _ j _ _ _ h
/-- where the machine lies -/
structure MX where
  w0 : World
  l : List UInt8
  b : Nat
  g : Nat
  cap : Nat
  gc : Array Value
  gf : Nat × Nat
/-- what does not change while it runs -/
structure MC (X : MX) : Prop where
  gcc : ∀ k c, (chars X.l 0)[k]? = some c → X.gc[k * 2]? = some (.int .i32 c.1) ∧ X.gc[k * 2 + 1]? = some (.int .i64 (c.2 : Int))
  bB : X.w0.heap.size ≤ X.b
  capN : (chars X.l 0).length ≤ X.cap
  len : X.l.length ≤ 16384
  sh : SH X.w0
  sg : SG X.w0
def mcells (X : MX) (now fst line head : Nat) (v : Value) : Array Value := #[.string ⟨X.l.toArray⟩, .slice (some ⟨X.g, 0, none⟩) (chars X.l 0).length X.cap, .int .i64 (now : Int), .int .i64 (fst : Int), .int .i64 (line : Int), .int .i64 (head : Int), v]
/-- the machine's state -/
structure MS (X : MX) (W : World) (now fst line head : Nat) (v : Value) (D : List Tok) : Prop where
  blk : W.heap[X.b]? = some (.cells (mcells X now fst line head v) 156 (0, 0))
  gk : W.heap[X.g]? = some (.cells X.gc 177 X.gf)
  own : W.ownsRow X.w0.heap.size 126 4 v D.length (tcels D)
  bel : Below X.w0.heap.size X.w0 W
theorem MS.bg {X : MX} {W : World} {now fst line head : Nat} {v : Value} {D : List Tok} (h : MS X W now fst line head v D) : X.g ≠ X.b := fun e => by
  have h1 := h.blk
  have h2 := h.gk
  rw [e] at h2
  rw [h1] at h2
  injection h2 with h2
  injection h2 with _ h3 _
  exact absurd h3 (by decide)
theorem MS.below {X : MX} {W W' : World} {now fst line head : Nat} {v : Value} {D : List Tok} (h : MS X W now fst line head v D) (hb : Below W.heap.size W W') : MS X W' now fst line head v D :=
  ⟨keepblk hb h.blk, keepblk hb h.gk, own_below h.own hb, bel0 h.bel hb⟩
theorem MS.drewN {X : MX} {W : World} {now fst line head : Nat} {v : Value} {D : List Tok} (h : MS X W now fst line head v D) (n : Nat) : MS X (W.drewN n) now fst line head v D :=
  h.below (bel_drewN n (Below.refl _ _))
theorem MS.drew {X : MX} {W : World} {now fst line head : Nat} {v : Value} {D : List Tok} (h : MS X W now fst line head v D) : MS X W.drew now fst line head v D :=
  h.below (Below.refl _ _).drew
theorem MS.alloc {X : MX} {W : World} {now fst line head : Nat} {v : Value} {D : List Tok} (h : MS X W now fst line head v D) (o : Obj) : MS X (W.alloc o) now fst line head v D :=
  h.below ((Below.refl _ _).alloc (Nat.le_refl _) _)
theorem MS.set {X : MX} (hC : MC X) {W : World} {now fst line head now' fst' line' head' : Nat} {v : Value} {D : List Tok} (h : MS X W now fst line head v D) (i : Nat) (u : Value) (hc : (mcells X now fst line head v).setIfInBounds i u = mcells X now' fst' line' head' v) : MS X (W.setCell ⟨X.b, i, none⟩ u) now' fst' line' head' v D :=
  ⟨by rw [heap_setCell_same W X.b i _ _ u h.blk, hc], (heap_setCell_other W ⟨X.b, i, none⟩ X.g u h.bg).trans h.gk, ownsRow_setCell_other h.own (a := ⟨X.b, i, none⟩) (own_not h.own h.blk (by decide)) u, h.bel.setCell (p := ⟨X.b, i, none⟩) hC.bB u⟩
theorem MS.setNow {X : MX} (hC : MC X) {W : World} {now fst line head : Nat} {v : Value} {D : List Tok} (h : MS X W now fst line head v D) (n : Nat) {z : Int} (hz : z = (n : Int)) : MS X (W.setCell ⟨X.b, 2, none⟩ (.int .i64 z)) n fst line head v D := h.set hC 2 _ (by rw [hz]; rfl)
theorem MS.setFst {X : MX} (hC : MC X) {W : World} {now fst line head : Nat} {v : Value} {D : List Tok} (h : MS X W now fst line head v D) (n : Nat) {z : Int} (hz : z = (n : Int)) : MS X (W.setCell ⟨X.b, 3, none⟩ (.int .i64 z)) now n line head v D := h.set hC 3 _ (by rw [hz]; rfl)
theorem MS.setLine {X : MX} (hC : MC X) {W : World} {now fst line head : Nat} {v : Value} {D : List Tok} (h : MS X W now fst line head v D) (n : Nat) {z : Int} (hz : z = (n : Int)) : MS X (W.setCell ⟨X.b, 4, none⟩ (.int .i64 z)) now fst n head v D := h.set hC 4 _ (by rw [hz]; rfl)
theorem MS.setHead {X : MX} (hC : MC X) {W : World} {now fst line head : Nat} {v : Value} {D : List Tok} (h : MS X W now fst line head v D) (n : Nat) {z : Int} (hz : z = (n : Int)) : MS X (W.setCell ⟨X.b, 5, none⟩ (.int .i64 z)) now fst line n v D := h.set hC 5 _ (by rw [hz]; rfl)
theorem MS.c {X : MX} {W : World} {now fst line head : Nat} {v : Value} {D : List Tok} (h : MS X W now fst line head v D) (i : Nat) : W.cell? ⟨X.b, i, none⟩ = (mcells X now fst line head v)[i]? := cell_of_row W X.b i _ _ _ h.blk
theorem MS.c0 {X : MX} {W : World} {now fst line head : Nat} {v : Value} {D : List Tok} (h : MS X W now fst line head v D) : W.cell? ⟨X.b, 0, none⟩ = some (.string ⟨X.l.toArray⟩) := h.c 0
theorem MS.c1 {X : MX} {W : World} {now fst line head : Nat} {v : Value} {D : List Tok} (h : MS X W now fst line head v D) : W.cell? ⟨X.b, 1, none⟩ = some (.slice (some ⟨X.g, 0, none⟩) (chars X.l 0).length X.cap) := h.c 1
theorem MS.c2 {X : MX} {W : World} {now fst line head : Nat} {v : Value} {D : List Tok} (h : MS X W now fst line head v D) : W.cell? ⟨X.b, 2, none⟩ = some (.int .i64 (now : Int)) := h.c 2
theorem MS.c3 {X : MX} {W : World} {now fst line head : Nat} {v : Value} {D : List Tok} (h : MS X W now fst line head v D) : W.cell? ⟨X.b, 3, none⟩ = some (.int .i64 (fst : Int)) := h.c 3
theorem MS.c4 {X : MX} {W : World} {now fst line head : Nat} {v : Value} {D : List Tok} (h : MS X W now fst line head v D) : W.cell? ⟨X.b, 4, none⟩ = some (.int .i64 (line : Int)) := h.c 4
theorem MS.c5 {X : MX} {W : World} {now fst line head : Nat} {v : Value} {D : List Tok} (h : MS X W now fst line head v D) : W.cell? ⟨X.b, 5, none⟩ = some (.int .i64 (head : Int)) := h.c 5
theorem MS.c6 {X : MX} {W : World} {now fst line head : Nat} {v : Value} {D : List Tok} (h : MS X W now fst line head v D) : W.cell? ⟨X.b, 6, none⟩ = some v := h.c 6
theorem MS.fz {X : MX} {W : World} {now fst line head : Nat} {v : Value} {D : List Tok} (h : MS X W now fst line head v D) (i : Nat) : W.frozen? ⟨X.b, i, none⟩ = false := by
  have := h.blk
  simp [World.frozen?, this]
/-- the machine looks at the byte j -/
def AT (l : List UInt8) (now j : Nat) : Prop := (chars l 0).drop now = chars l j
theorem MS.cr {X : MX} (hC : MC X) {W : World} {now fst line head : Nat} {v : Value} {D : List Tok} (h : MS X W now fst line head v D) {k j : Nat} (hj : AT X.l k j) : W.cell? ⟨X.g, k * 2, none⟩ = some (.int .i32 (chr X.l j)) :=
  (cell_of_row W X.g _ _ _ _ h.gk).trans (hC.gcc k _ (drop_get hj)).1
theorem MS.ca {X : MX} (hC : MC X) {W : World} {now fst line head : Nat} {v : Value} {D : List Tok} (h : MS X W now fst line head v D) {k j : Nat} (hj : AT X.l k j) (hl : j ≤ X.l.length) : W.cell? ⟨X.g, k * 2 + 1, none⟩ = some (.int .i64 (j : Int)) := by
  have := (cell_of_row W X.g (k * 2 + 1) _ _ _ h.gk).trans (hC.gcc k _ (drop_get hj)).2
  rw [this]
  simp only
  split
  · rfl
  · have : j = X.l.length := by omega
    rw [this]
theorem AT.lt {l : List UInt8} {now j : Nat} (h : AT l now j) : now < (chars l 0).length := drop_lt h
theorem AT.le {l : List UInt8} {now j : Nat} (h : AT l now j) : now ≤ 16384 ∨ 16384 < l.length := by
  have := h.lt
  have := chars_len l _ 0 (Nat.le_refl _)
  omega
theorem AT.asc {l : List UInt8} {now j : Nat} (h : AT l now j) (hj : j < l.length) (hb : bt l j < 128) : AT l (now + 1) (j + 1) := by
  have := drop_next h hj
  rw [dc_asc hb] at this
  exact this
theorem AT.next {l : List UInt8} {now j : Nat} (h : AT l now j) (hj : j < l.length) : AT l (now + 1) (j + (dc l j).2) := drop_next h hj
/-- the number of a character that begins there -/
def ci (l : List UInt8) (j : Nat) : Nat := (chars l 0).length - (chars l j).length
theorem AT.ci {l : List UInt8} {now j : Nat} (h : AT l now j) : now = ci l j := by
  have h1 := h.lt
  have h2 := congrArg List.length h
  rw [List.length_drop] at h2
  unfold Proofs.YtodhcnjkiollaaaGreatDoor.ci
  omega
/-- the class of a character -/
def cls (r : Int) : Nat :=
  if r = -2 then 0 else if r = 10 then 1 else if r = 32 then 2 else if r = 9 then 2 else if r = 13 then 2 else if r = 46 then 5 else if r = 37 then 6 else if r = 34 then 7 else if r = 35 then 8
  else if (97 ≤ r ∧ r ≤ 122) ∨ (65 ≤ r ∧ r ≤ 90) ∨ r = 95 then 3 else if 48 ≤ r ∧ r ≤ 57 then 4 else 9
def kl (l : List UInt8) (j : Nat) : Nat := cls (chr l j)
end Go.Proofs.YtodhcnjkiollaaaGreatDoor
namespace Go.Proofs.YtodhcnjkiollaaaGreatDoor
open Go.RowKit Go.Shelf
theorem wrapN (k : Nat) (h : k ≤ 1000000) : IntKind.i64.wrap ((k : Int) + 1) = (k : Int) + 1 := by rw [IntKind.wrap_i64]; omega
theorem ret_i {a b : Int} (h : a = b) : Ending.returned (.int .i64 a) = .returned (.int .i64 b) := by rw [h]
set_option maxRecDepth 100000 in
set_option maxHeartbeats 1000000 in
theorem classOf_any (r : Int) (w : World) : Calls Tryz.prog 144 #[.int .i32 r] w fun e w' => e = .returned (.int .i64 (cls r : Int)) ∧ w' = w := by
  obtain ⟨c, hc⟩ : ∃ c, cls r = c := ⟨_, rfl⟩
  have HC : Hid (cls r = c) := hc
  rw [hc]
  clear hc
  go_enter Tryz.func144, Tryz.ntmps144
  go_wp2
  all_goals
    go_ret
    refine ⟨ret_i ?_, rfl⟩
    have hc := HC.out
    unfold cls at hc
    simp_all <;> (try (repeat' split at hc)) <;> omega
set_option maxRecDepth 100000 in
set_option maxHeartbeats 1000000 in
theorem class_any {X : MX} (hC : MC X) {W : World} {now fst line head : Nat} {v : Value} {D : List Tok} (h : MS X W now fst line head v D) {j : Nat} (hj : AT X.l now j) :
    Calls Tryz.prog 132 #[.pointer (some ⟨X.b, 0, none⟩)] W fun e w' => e = .returned (.int .i64 (kl X.l j : Int)) ∧ MS X w' now fst line head v D := by
  have hM : Hid (MS X W now fst line head v D) := h
  have hc1 := h.c1
  have hc2 := h.c2
  have hx := h.cr hC hj
  have hlt := hj.lt
  have hle := hj.le
  have hlen := hC.len
  have n0 : (0 : Int) ≤ (now : Int) := by omega
  have n1 : (now : Int) < ((chars X.l 0).length : Int) := by omega
  obtain ⟨r, hr⟩ : ∃ r, chr X.l j = r := ⟨_, rfl⟩
  have HR : Hid (kl X.l j = cls r) := by unfold Hid kl; rw [hr]
  rw [HR.out]
  rw [hr] at hx
  clear hr h hC hj
  go_enter Tryz.func132, Tryz.ntmps132
  go_wp2_with fail
  go_quiet ((go_at_call 144; exact Calls.quiet_of_same (classOf_any _ _)))
  go_wp2_with fail
  go_ret
  exact ⟨rfl, hM.out.drewN _⟩
def inW (l : List UInt8) (j : Nat) : Bool := decide (kl l j = 3) || decide (kl l j = 4)
set_option maxRecDepth 100000 in
theorem inWord_any {X : MX} (hC : MC X) {W : World} {now fst line head : Nat} {v : Value} {D : List Tok} (h : MS X W now fst line head v D) {j : Nat} (hj : AT X.l now j) :
    Calls Tryz.prog 147 #[.pointer (some ⟨X.b, 0, none⟩)] W fun e w' => e = .returned (.bool (inW X.l j)) ∧ MS X w' now fst line head v D := by
  have H := class_any hC h hj
  obtain ⟨c, hc⟩ : ∃ c, kl X.l j = c := ⟨_, rfl⟩
  obtain ⟨r, hr⟩ : ∃ r, inW X.l j = r := ⟨_, rfl⟩
  have HR : Hid (inW X.l j = (decide (c = 3) || decide (c = 4))) := by unfold Hid inW; rw [hc]
  rw [HR.out]
  rw [hc] at H
  clear hc hr h hC hj
  by_cases h3 : c = 3
  · subst h3
    go_enter Tryz.func147, Tryz.ntmps147
    go_wp2_with fail
    refine H.mono ?_
    rintro e w1 ⟨rfl, h1⟩
    go_wp2_with fail
    go_ret
    exact ⟨rfl, h1⟩
  · have e3 : ((c : Int) == 3) = false := by rw [beq_eq_false_iff_ne]; omega
    by_cases h4 : c = 4
    · subst h4
      go_enter Tryz.func147, Tryz.ntmps147
      go_wp2_with fail
      refine H.mono ?_
      rintro e w1 ⟨rfl, h1⟩
      go_wp2_with fail
      go_ret
      exact ⟨rfl, h1⟩
    · have e4 : ((c : Int) == 4) = false := by rw [beq_eq_false_iff_ne]; omega
      have HB : Hid ((decide (c = 3) || decide (c = 4)) = false) := by unfold Hid; simp [h3, h4]
      rw [HB.out]
      go_enter Tryz.func147, Tryz.ntmps147
      go_wp2_with fail
      refine H.mono ?_
      rintro e w1 ⟨rfl, h1⟩
      go_wp2_with fail
      go_ret
      exact ⟨rfl, h1⟩
set_option maxRecDepth 100000 in
theorem column_any {X : MX} {W : World} {now fst line head : Nat} {v : Value} {D : List Tok} (h : MS X W now fst line head v D) {ch : Nat} (hh : head ≤ ch) (hm : ch ≤ 16384) :
    Calls Tryz.prog 112 #[.pointer (some ⟨X.b, 0, none⟩), .int .i64 (ch : Int)] W fun e w' => e = .returned (.int .i64 ((ch - head + 1 : Nat) : Int)) ∧ w' = W := by
  have hc5 := h.c5
  have H1 : Hid ((ch : Int) - (head : Int) + 1 = ((ch - head + 1 : Nat) : Int)) := by unfold Hid; omega
  clear h
  go_enter Tryz.func112, Tryz.ntmps112
  go_wp2_with fail
  go_ret
  exact ⟨ret_i H1.out, rfl⟩
theorem dec_int (a b : Nat) : ((a : Int) == (b : Int)) = decide (a = b) := by
  by_cases h : a = b
  · subst h; simp
  · have : ((a : Int) == (b : Int)) = false := by rw [beq_eq_false_iff_ne]; omega
    rw [this, decide_eq_false h]
/-- a dot, and one of that class behind it -/
def dotA (l : List UInt8) (j c : Nat) : Bool := decide (kl l j = 5) && decide (kl l (j + 1) = c)
theorem kl5 {l : List UInt8} {j : Nat} (h : kl l j = 5) : j < l.length ∧ bt l j = 46 := by
  unfold kl cls at h
  by_cases h1 : chr l j = 46
  · exact (chr_asc l j 46 (by decide)).1 h1
  · repeat' split at h
    all_goals first | omega | contradiction
set_option maxRecDepth 100000 in
set_option maxHeartbeats 1000000 in
theorem dotAhead_any {X : MX} (hC : MC X) {W : World} {now fst line head : Nat} {v : Value} {D : List Tok} (h : MS X W now fst line head v D) {j : Nat} (hj : AT X.l now j) (c : Nat) (_ : c < 100) :
    Calls Tryz.prog 148 #[.pointer (some ⟨X.b, 0, none⟩), .int .i64 (c : Int)] W fun e w' => e = .returned (.bool (dotA X.l j c)) ∧ MS X w' now fst line head v D := by
  have H : Hid (∀ W', MS X W' now fst line head v D → Calls Tryz.prog 132 #[.pointer (some ⟨X.b, 0, none⟩)] W' fun e w' => e = .returned (.int .i64 (kl X.l j : Int)) ∧ MS X w' now fst line head v D) := fun W' h' => class_any hC h' hj
  by_cases h5 : kl X.l j = 5
  · obtain ⟨hjl, hb⟩ := kl5 h5
    have hj1 := hj.asc hjl (by omega)
    have hlt := hj1.lt
    have hle := hj.le
    have hlen := hC.len
    have n0 : (0 : Int) ≤ (now : Int) := by omega
    have n1 : (now : Int) + 1 < ((chars X.l 0).length : Int) := by omega
    have n2 : (0 : Int) ≤ (now : Int) + 1 := by omega
    rw [h5] at H
    obtain ⟨r, hr⟩ : ∃ r, chr X.l (j + 1) = r := ⟨_, rfl⟩
    have HX : Hid (∀ W', MS X W' now fst line head v D → W'.cell? ⟨X.b, 1, none⟩ = some (.slice (some ⟨X.g, 0, none⟩) (chars X.l 0).length X.cap) ∧ W'.cell? ⟨X.b, 2, none⟩ = some (.int .i64 (now : Int)) ∧ W'.cell? ⟨X.g, (now + 1) * 2, none⟩ = some (.int .i32 r)) := fun W' h' => ⟨h'.c1, h'.c2, by rw [← hr]; exact h'.cr hC hj1⟩
    have HR : Hid (dotA X.l j c = decide (cls r = c)) := by unfold Hid dotA; rw [h5]; unfold kl; rw [hr]; rfl
    rw [HR.out]
    clear hr hj hj1 h5 hb
    go_enter Tryz.func148, Tryz.ntmps148
    go_wp2_with fail
    refine quiet_lit3 (C := fun W => MS X W now fst line head v D) (by kernel_rfl) (by kernel_rfl) (MS.drew h) ?_
    go_big_quiet_want
    go_big_quiet_op
    go_big_quiet_on
    go_big_quiet_want
    refine ⟨.int .i64 5, fun W hW => ?_, ?_⟩
    · go_simp
      refine (H.out W hW).mono ?_
      rintro e w7 ⟨rfl, hb⟩
      exact ⟨rfl, hb⟩
    go_big_quiet_on
    simp only [Act.put, List.setIfInBounds_toArray, List.set_cons_zero, List.set_cons_succ]
    go_big_quiet_want
    refine ⟨.bool true, fun W hW => ?_, ?_⟩
    · go_simp
    go_big_quiet_on
    simp only [Act.put, List.setIfInBounds_toArray, List.set_cons_zero, List.set_cons_succ]
    go_big_quiet_want
    go_big_quiet_op
    go_big_quiet_on
    go_big_quiet_want
    go_big_quiet_op
    go_big_quiet_on
    go_big_quiet_want
    refine ⟨.pointer (some ⟨X.b, 0, none⟩), fun W hW => ?_, ?_⟩
    · go_simp
    go_big_quiet_on
    simp only [Act.put, List.setIfInBounds_toArray, List.set_cons_zero, List.set_cons_succ]
    go_big_quiet_want
    refine ⟨.pointer (some ⟨X.b, 1, none⟩), fun W hW => ?_, ?_⟩
    · go_simp
    go_big_quiet_on
    simp only [Act.put, List.setIfInBounds_toArray, List.set_cons_zero, List.set_cons_succ]
    go_big_quiet_want
    refine ⟨.slice (some ⟨X.g, 0, none⟩) (chars X.l 0).length X.cap, fun W hW => ?_, ?_⟩
    · obtain ⟨x1, x2, x3⟩ := HX.out W hW
      go_simp
    go_big_quiet_on
    simp only [Act.put, List.setIfInBounds_toArray, List.set_cons_zero, List.set_cons_succ]
    go_big_quiet_want
    go_big_quiet_op
    go_big_quiet_on
    go_big_quiet_want
    refine ⟨.pointer (some ⟨X.b, 0, none⟩), fun W hW => ?_, ?_⟩
    · go_simp
    go_big_quiet_on
    simp only [Act.put, List.setIfInBounds_toArray, List.set_cons_zero, List.set_cons_succ]
    go_big_quiet_want
    refine ⟨.pointer (some ⟨X.b, 2, none⟩), fun W hW => ?_, ?_⟩
    · go_simp
    go_big_quiet_on
    simp only [Act.put, List.setIfInBounds_toArray, List.set_cons_zero, List.set_cons_succ]
    go_big_quiet_want
    refine ⟨.int .i64 (now : Int), fun W hW => ?_, ?_⟩
    · obtain ⟨x1, x2, x3⟩ := HX.out W hW
      go_simp
    go_big_quiet_on
    simp only [Act.put, List.setIfInBounds_toArray, List.set_cons_zero, List.set_cons_succ]
    go_big_quiet_want
    refine ⟨.int .i64 ((now : Int) + 1), fun W hW => ?_, ?_⟩
    · go_simp
      exact wrapN now (by omega)
    go_big_quiet_on
    simp only [Act.put, List.setIfInBounds_toArray, List.set_cons_zero, List.set_cons_succ]
    go_big_quiet_want
    refine ⟨.pointer (some ⟨X.g, (now + 1) * 2, none⟩), fun W hW => ?_, ?_⟩
    · go_simp
    go_big_quiet_on
    simp only [Act.put, List.setIfInBounds_toArray, List.set_cons_zero, List.set_cons_succ]
    go_big_quiet_want
    refine ⟨.pointer (some ⟨X.g, (now + 1) * 2, none⟩), fun W hW => ?_, ?_⟩
    · go_simp
    go_big_quiet_on
    simp only [Act.put, List.setIfInBounds_toArray, List.set_cons_zero, List.set_cons_succ]
    go_big_quiet_want
    refine ⟨.int .i32 r, fun W hW => ?_, ?_⟩
    · obtain ⟨x1, x2, x3⟩ := HX.out W hW
      go_simp
    go_big_quiet_on
    simp only [Act.put, List.setIfInBounds_toArray, List.set_cons_zero, List.set_cons_succ]
    go_big_quiet_want
    refine ⟨.int .i64 (cls r : Int), fun W hW => ?_, ?_⟩
    · go_simp
      refine (classOf_any r W).mono ?_
      rintro e w7 ⟨rfl, rfl⟩
      exact ⟨rfl, hW⟩
    go_big_quiet_on
    simp only [Act.put, List.setIfInBounds_toArray, List.set_cons_zero, List.set_cons_succ]
    go_big_quiet_want
    go_big_quiet_op
    go_big_quiet_on
    go_big_quiet_want
    refine ⟨.bool (decide (cls r = c)), fun W hW => ?_, ?_⟩
    · go_simp
      exact dec_int _ _
    go_big_quiet_on
    simp only [Act.put, List.setIfInBounds_toArray, List.set_cons_zero, List.set_cons_succ]
    go_big_quiet_want
    refine ⟨.bool (decide (cls r = c)), fun W hW => ?_, ?_⟩
    · go_simp
    go_big_quiet_on
    simp only [Act.put, List.setIfInBounds_toArray, List.set_cons_zero, List.set_cons_succ]
    go_big_quiet_want
    go_big_quiet_op
    go_big_quiet_on
    refine wpQuiet_nil ?_
    intro W hW
    go_wp2_with fail
    go_ret
    exact ⟨rfl, hW⟩
  · have e5 : ((kl X.l j : Int) == 5) = false := by rw [beq_eq_false_iff_ne]; omega
    have HR : Hid (dotA X.l j c = false) := by unfold Hid dotA; rw [decide_eq_false h5]; rfl
    rw [HR.out]
    obtain ⟨k, hk⟩ : ∃ k, kl X.l j = k := ⟨_, rfl⟩
    rw [hk] at H e5
    have hM : Hid (MS X W now fst line head v D) := h
    clear h5 hk hj h hC
    go_enter Tryz.func148, Tryz.ntmps148
    go_wp2_with fail
    refine quiet_lit3 (C := fun W => MS X W now fst line head v D) (by kernel_rfl) (by kernel_rfl) (MS.drew hM.out) ?_
    go_big_quiet_want
    go_big_quiet_op
    go_big_quiet_on
    go_big_quiet_want
    refine ⟨.int .i64 (k : Int), fun W hW => ?_, ?_⟩
    · go_simp
      refine (H.out W hW).mono ?_
      rintro e w7 ⟨rfl, hb⟩
      exact ⟨rfl, hb⟩
    go_big_quiet_on
    simp only [Act.put, List.setIfInBounds_toArray, List.set_cons_zero, List.set_cons_succ]
    go_big_quiet_want
    refine ⟨.bool false, fun W hW => ?_, ?_⟩
    · go_simp
    go_big_quiet_on
    simp only [Act.put, List.setIfInBounds_toArray, List.set_cons_zero, List.set_cons_succ]
    go_big_quiet_want
    go_big_quiet_op
    go_big_quiet_on
    go_big_quiet_skip
    go_big_quiet_skip
    go_big_quiet_skip
    go_big_quiet_skip
    go_big_quiet_skip
    go_big_quiet_skip
    go_big_quiet_skip
    go_big_quiet_skip
    go_big_quiet_skip
    go_big_quiet_skip
    go_big_quiet_skip
    go_big_quiet_skip
    go_big_quiet_skip
    go_big_quiet_skip
    go_big_quiet_skip
    go_big_quiet_want
    refine ⟨.bool false, fun W hW => ?_, ?_⟩
    · go_simp
    go_big_quiet_on
    simp only [Act.put, List.setIfInBounds_toArray, List.set_cons_zero, List.set_cons_succ]
    go_big_quiet_want
    go_big_quiet_op
    go_big_quiet_on
    refine wpQuiet_nil ?_
    intro W hW
    go_wp2_with fail
    go_ret
    exact ⟨rfl, hW⟩
end Go.Proofs.YtodhcnjkiollaaaGreatDoor
