import Derived.Test.YtfbmagnfgnebdaaGreatDoorYAG
import Derived.OwnWalk
import Derived.Deep.QuietTactic
import Derived.Test.YtfbmagnfgnebdaaGreatDoorYAB
import Derived.Lib.UnsafeStr
import Derived.Deep.AppendLies
import Derived.OneCell
import Derived.Laws.Rows
namespace Go.Proofs.YtfbmagnfgnebdaaGreatDoor
open Go.RowKit Go.Shelf
theorem wp_scope_many2 {P : Program} {a : Act} {w : World} {Q : Exit → Act → World → Prop} {c : Code} (J : Nat → Act → World → Prop) (m : Nat → Act → World → Nat)
    (pass : ∀ l a w, J l a w → ∃ X, findLabel c l = some (.seq .skip X) ∧ X.wp P (jumpN (fun l' a' w' => J l' a' w' ∧ m l' a' w' < m l a w) Q) a w)
    (first : (∀ l a w, J l a w → ∃ X, findLabel c l = some (.seq .skip X) ∧ X.wp P (jumpN J Q) a w) → c.wp P (jumpN J Q) a w) : (Code.scope c).wp P Q a w :=
  wp_scope_many J m (first (fun l a w h => by
    obtain ⟨X, hf, hr⟩ := pass l a w h
    refine ⟨X, hf, wp_mono hr ?_⟩
    intro e a' w' hq
    cases e with
    | goto l' => exact hq.1
    | normal => exact hq
    | exit id => exact hq
    | ret => exact hq
    | panic ch => exact hq
    | outgrown => exact hq)) (fun l a w h => by
    obtain ⟨X, hf, hr⟩ := pass l a w h
    exact ⟨_, hf, wp_seq (wp_skip hr)⟩)
theorem jump_ret {J : Nat → Act → World → Prop} {Q : Exit → Act → World → Prop} {a : Act} {w : World} (h : Q .ret a w) : jumpN J Q .ret a w := h
theorem bar_iff (l : List UInt8) (j : Nat) (h : j < l.length) : (chr l j < 32 ∨ chr l j = 127) ↔ (lo1 l j = true ∨ bt l j < 32 ∨ bt l j = 127) := by
  unfold chr
  rw [if_pos h]
  by_cases hb : bt l j < 128
  · rw [lo1_asc hb, dc_asc hb]
    simp only [Bool.false_eq_true, if_false, false_or]
    omega
  · have := dc_big hb
    cases lo1 l j with
    | true => simp
    | false => simp only [Bool.false_eq_true, if_false, false_or]; omega
theorem escS_drop (l : List UInt8) (j : Nat) (hj : j < l.length) (hb : bt l j = 92) (h : 0 < (escS l j).1) : (chars l j).drop (escS l j).1 = chars l (j + (escS l j).1) := by
  have hc0 : chars l j = (92, j) :: chars l (j + 1) := by rw [chars_asc hj (by omega), hb]; rfl
  have asc : ∀ m, j + m < l.length → bt l (j + m) < 128 → ∃ c, chars l (j + m) = c :: chars l (j + m + 1) := fun m h1 h2 => ⟨_, chars_asc h1 h2⟩
  have two : j + 1 < l.length → bt l (j + 1) < 128 → (chars l j).drop 2 = chars l (j + 2) := fun h1 h2 => by
    obtain ⟨c, hc⟩ := asc 1 h1 h2
    rw [hc0, hc]; rfl
  unfold escS at h ⊢
  split at h
  · simp at h
  rename_i g0
  rw [if_neg g0]
  by_cases g1 : bt l (j + 1) = 34
  · rw [if_pos g1]; exact two (by omega) (by omega)
  rw [if_neg g1] at h ⊢
  by_cases g2 : bt l (j + 1) = 92
  · rw [if_pos g2]; exact two (by omega) (by omega)
  rw [if_neg g2] at h ⊢
  by_cases g3 : bt l (j + 1) = 110
  · rw [if_pos g3]; exact two (by omega) (by omega)
  rw [if_neg g3] at h ⊢
  by_cases g4 : bt l (j + 1) = 114
  · rw [if_pos g4]; exact two (by omega) (by omega)
  rw [if_neg g4] at h ⊢
  by_cases g5 : bt l (j + 1) = 116
  · rw [if_pos g5]; exact two (by omega) (by omega)
  rw [if_neg g5] at h ⊢
  by_cases g6 : bt l (j + 1) = 120
  · rw [if_pos g6] at h ⊢
    have t2 := two (by omega) (by omega)
    rcases hex2 l j with ⟨h3, a, b, ha, hb, hq⟩ | ⟨hq, hno⟩
    · rw [if_pos h3, ha, hb]
      have := drop_hex 2 l (j + 2) 0
      rw [hq] at this
      show (chars l j).drop 4 = chars l (j + 4)
      rw [show 4 = 2 + 2 by rfl, ← List.drop_drop, t2]
      exact this
    · by_cases h3 : j + 3 < l.length
      · rw [if_pos h3] at h
        rcases hno h3 with e | e
        · rw [e] at h; simp at h
        · rw [e] at h
          revert h
          cases hexD (l.getD (j + 2) 0) <;> simp
      · rw [if_neg h3] at h; simp at h
  rw [if_neg g6] at h ⊢
  by_cases g7 : bt l (j + 1) = 117
  · rw [if_pos g7] at h ⊢
    have t2 := two (by omega) (by omega)
    by_cases h0 : 0 < (brS l j).1
    · rw [if_pos h0]
      show (chars l j).drop (brS l j).1 = chars l (j + (brS l j).1)
      unfold brS at h0 ⊢
      split at h0
      · simp at h0
      · split at h0
        · simp at h0
        · rename_i k1 k2
          rw [if_neg k1, if_neg k2]
          have hd := drop_hex 6 l (j + 3) 0
          show (chars l j).drop (4 + (hexRun 6 (l.drop (j + 3)) 0).1) = chars l (j + (4 + (hexRun 6 (l.drop (j + 3)) 0).1))
          obtain ⟨c2, hc2⟩ := asc 2 (by omega) (by omega)
          have t3 : (chars l j).drop 3 = chars l (j + 3) := by
            rw [show 3 = 2 + 1 by rfl, ← List.drop_drop, t2, hc2]; rfl
          obtain ⟨c3, hc3⟩ := asc (3 + (hexRun 6 (l.drop (j + 3)) 0).1) (by omega) (by rw [← Nat.add_assoc]; omega)
          rw [show 4 + (hexRun 6 (l.drop (j + 3)) 0).1 = 3 + ((hexRun 6 (l.drop (j + 3)) 0).1 + 1) by omega, ← List.drop_drop, t3, ← List.drop_drop, hd, Nat.add_assoc, hc3]
          exact congrArg (chars l) (by omega)
    · rw [if_neg h0] at h; simp at h
  · rw [if_neg g7] at h; simp at h
theorem byteCells_append (a b : List UInt8) : Lib.byteCells (a ++ b) = Lib.byteCells a ++ Lib.byteCells b := by simp [Lib.byteCells]
theorem byteCells_one (b : List UInt8) : ∀ u ∈ Lib.byteCells b, u.oneCell' = true := by
  intro u hu
  obtain ⟨c, _, rfl⟩ := List.mem_map.1 hu
  rfl
theorem use_pass {P : Program} {a : Act} {w : World} {R : Exit → Act → World → Prop} {c X : Code} {J : Nat → Act → World → Prop} {l : Nat} (h : ∀ a w, J l a w → ∃ X, findLabel c l = some (.seq .skip X) ∧ X.wp P R a w) (hJ : J l a w) (hf : findLabel c l = some (.seq .skip X)) : X.wp P R a w := by
  obtain ⟨Y, hY, hr⟩ := h a w hJ
  have e := Option.some.inj (hf.symm.trans hY)
  injection e with _ e
  rw [e]
  exact hr
theorem results_pc (tmps : Array Value) (W : World) (a b c : Value) (h : tmps.getD 4 undef = a ∧ tmps.getD 5 undef = b ∧ tmps.getD 6 undef = c) : (results Tryz.f165 tmps).run Tryz.prog W = .ok (.tuple #[a, b, c]) W := by
  obtain ⟨h1, h2, h3⟩ := h
  have h1' : tmps[4]?.getD undef = a := by simpa using h1
  have h2' : tmps[5]?.getD undef = b := by simpa using h2
  have h3' : tmps[6]?.getD undef = c := by simpa using h3
  simp [results, h1', h2', h3', go_sem]
end Go.Proofs.YtfbmagnfgnebdaaGreatDoor
namespace Go.Proofs.YtfbmagnfgnebdaaGreatDoor
open Go.RowKit
end Go.Proofs.YtfbmagnfgnebdaaGreatDoor
namespace Go.Proofs.YtfbmagnfgnebdaaGreatDoor
open Go.RowKit Go.Shelf
theorem add0 (g m : Nat) : (⟨g, 0, none⟩ : Addr).add m = ⟨g, m, none⟩ := by unfold Addr.add; split <;> simp_all
theorem ccels_at (C : List (Int × Nat)) : ∀ (k : Nat) (c : Int × Nat), C[k]? = some c → (ccels C)[k * 2]? = some (.int .i32 c.1) ∧ (ccels C)[k * 2 + 1]? = some (.int .i64 (c.2 : Int)) := by
  induction C with
  | nil => intro k c h; simp at h
  | cons y C ih =>
    intro k c h
    cases k with
    | zero =>
      simp at h
      subst h
      exact ⟨rfl, rfl⟩
    | succ k =>
      have := ih k c (by simpa using h)
      rw [show (k + 1) * 2 = k * 2 + 1 + 1 by omega]
      exact this
theorem own_cap {w : World} {B e sz n m g cap : Nat} {xs : List Value} (h : w.ownsRow B e sz (.slice (some ⟨g, 0, none⟩) m cap) n xs) : n ≤ cap := by
  rcases h.2 with ⟨hh, _⟩ | ⟨g', c, cur, h1, _, _, h4, _⟩
  · cases hh
  · injection h1 with _ _ h1
    omega
theorem conv_own {W : World} {B : Nat} {v : Value} (T : List UInt8) (h : W.ownsRow B 5 1 v T.length (Lib.byteCells T)) : Sem.run Tryz.prog (convert 60 9 v) W = .ok (.string ⟨T.toArray⟩) W := by
  rcases h.2 with ⟨rfl, h0⟩ | ⟨g, c, cur, rfl, _⟩
  · obtain rfl := List.length_eq_zero_iff.1 h0
    rw [run_convert_bytes_string W _ _ 5 _ _ _ Tryz.underlying60 Tryz.underlying5 Tryz.underlying9]
    rfl
  · exact run_convert_bytes_back W _ _ 5 ⟨g, 0, none⟩ c T Tryz.underlying60 Tryz.underlying5 Tryz.underlying9 (fun j hj => h.cells rfl _ _ (by simp [Lib.byteCells, List.getElem?_eq_getElem hj]))
end Go.Proofs.YtfbmagnfgnebdaaGreatDoor
namespace Go.Proofs.YtfbmagnfgnebdaaGreatDoor
open Go.RowKit Go.Shelf
theorem stx_len (L : List (List UInt8)) : (stx L).length = L.length := by simp [stx]
theorem stx_get (L : List (List UInt8)) (i : Nat) (h : i < L.length) : (stx L)[i]? = some (Value.string ⟨(L[i]).toArray⟩) := by simp [stx, List.getElem?_eq_getElem h]
/-- Cover's error -/
def covE (b lo hi : Int) : Nat :=
  if b < 1 ∨ 32 < b then 1
  else if ¬ (0 ≤ lo ∧ lo ≤ ((2 ^ b.toNat - 1 : Nat) : Int)) ∨ ¬ (0 ≤ hi ∧ hi ≤ ((2 ^ b.toNat - 1 : Nat) : Int)) then 42
  else if hi < lo then 43 else 0
def covL (b lo hi : Int) : List (List UInt8) := if covE b lo hi = 0 then cov b.toNat lo.toNat hi.toNat else []
def cvR (w : World) (b lo hi : Int) (e : Ending) (w' : World) : Prop := ∃ v, e = .returned (.tuple #[v, .int .i64 (covE b lo hi : Int)]) ∧ w'.ownsRow w.heap.size 9 1 v (covL b lo hi).length (stx (covL b lo hi)) ∧ Below w.heap.size w w'
theorem cvR_nil {w w' : World} {b lo hi : Int} {n : Nat} {e : Ending} (h : covE b lo hi = n) (hn : n ≠ 0) (he : e = .returned (.tuple #[.slice none 0 0, .int .i64 (n : Int)])) (hb : Below w.heap.size w w') : cvR w b lo hi e w' := by
  refine ⟨.slice none 0 0, by rw [h]; exact he, ?_, hb⟩
  have : covL b lo hi = [] := by unfold covL; rw [if_neg (by rw [h]; exact hn)]
  rw [this]
  exact World.ownsRow_nil _ _ _ _
set_option maxRecDepth 100000 in
set_option maxHeartbeats 1000000 in
theorem cover_any (b lo hi : Int) (w : World) (hdb : DB w) :
    Calls Tryz.prog 33 #[.int .i64 b, .int .i64 lo, .int .i64 hi] w fun e w' => cvR w b lo hi e w' := by
  by_cases h1 : b < 1
  · have hr : Hid (covE b lo hi = 1) := if_pos (.inl h1)
    go_enter Tryz.func33, Tryz.ntmps33
    go_wp2_with fail
    go_ret2
    exact cvR_nil hr.out (by decide) rfl (Below.refl _ _)
  · by_cases h2 : 32 < b
    · have hr : Hid (covE b lo hi = 1) := if_pos (.inr h2)
      go_enter Tryz.func33, Tryz.ntmps33
      go_wp2_with fail
      go_ret2
      exact cvR_nil hr.out (by decide) rfl (Below.refl _ _)
    · obtain ⟨n, rfl⟩ : ∃ n : Nat, b = (n : Int) := ⟨b.toNat, by omega⟩
      have HF := fun v W => fits_any v n (by omega) W
      have hE : covE (n : Int) lo hi = if ¬ (0 ≤ lo ∧ lo ≤ ((2 ^ n - 1 : Nat) : Int)) ∨ ¬ (0 ≤ hi ∧ hi ≤ ((2 ^ n - 1 : Nat) : Int)) then 42 else if hi < lo then 43 else 0 := by
        unfold covE
        rw [if_neg (by omega), Int.toNat_natCast]
      by_cases g1 : 0 ≤ lo ∧ lo ≤ ((2 ^ n - 1 : Nat) : Int)
      · have F1 := fun W => HF lo W
        rw [decide_eq_true g1] at F1
        by_cases g2 : 0 ≤ hi ∧ hi ≤ ((2 ^ n - 1 : Nat) : Int)
        · have F2 := fun W => HF hi W
          rw [decide_eq_true g2] at F2
          rw [if_neg (by rintro (h | h); exact h g1; exact h g2)] at hE
          by_cases g3 : hi < lo
          · rw [if_pos g3] at hE
            have hr : Hid (covE (n : Int) lo hi = 43) := hE
            clear hE HF g1 g2
            go_enter Tryz.func33, Tryz.ntmps33
            go_wp2_with fail
            refine (F1 _).mono ?_
            rintro e w1 ⟨rfl, rfl⟩
            go_wp2_with fail
            refine (F2 _).mono ?_
            rintro e w2 ⟨rfl, rfl⟩
            go_wp2_with fail
            go_ret2
            exact cvR_nil hr.out (by decide) rfl (Below.refl _ _)
          · rw [if_neg g3] at hE
            obtain ⟨l, rfl⟩ : ∃ l : Nat, lo = (l : Int) := ⟨lo.toNat, by omega⟩
            obtain ⟨h, rfl⟩ : ∃ h : Nat, hi = (h : Int) := ⟨hi.toNat, by omega⟩
            have hp0 : 0 < 2 ^ n := Nat.pow_pos (by decide)
            have HP := prefixes_any n l h (by omega) (by omega) (by omega) (by omega) w hdb
            have hcl : covL (n : Int) (l : Int) (h : Int) = cov n l h := by unfold covL; rw [if_pos hE]; simp
            rw [← hcl] at HP
            have hr : Hid (covE (n : Int) (l : Int) (h : Int) = 0) := hE
            clear hE HF g1 g2 hcl hp0 hdb
            go_enter Tryz.func33, Tryz.ntmps33
            go_wp2_with fail
            refine (F1 _).mono ?_
            rintro e w1 ⟨rfl, rfl⟩
            go_wp2_with fail
            refine (F2 _).mono ?_
            rintro e w2 ⟨rfl, rfl⟩
            go_wp2_with fail
            refine HP.mono ?_
            rintro e w3 ⟨v3, rfl, ho3, hb3⟩
            go_wp2_with fail
            go_ret2
            exact ⟨v3, by rw [hr.out]; rfl, ho3, hb3⟩
        · have F2 := fun W => HF hi W
          rw [decide_eq_false g2] at F2
          rw [if_pos (.inr g2)] at hE
          have hr : Hid (covE (n : Int) lo hi = 42) := hE
          clear hE HF g1 g2
          go_enter Tryz.func33, Tryz.ntmps33
          go_wp2_with fail
          refine (F1 _).mono ?_
          rintro e w1 ⟨rfl, rfl⟩
          go_wp2_with fail
          refine (F2 _).mono ?_
          rintro e w2 ⟨rfl, rfl⟩
          go_wp2_with fail
          go_ret2
          exact cvR_nil hr.out (by decide) rfl (Below.refl _ _)
      · have F1 := fun W => HF lo W
        rw [decide_eq_false g1] at F1
        rw [if_pos (.inl g1)] at hE
        have hr : Hid (covE (n : Int) lo hi = 42) := hE
        clear hE HF g1
        go_enter Tryz.func33, Tryz.ntmps33
        go_wp2_with fail
        refine (F1 _).mono ?_
        rintro e w1 ⟨rfl, rfl⟩
        go_wp2_with fail
        go_ret2
        exact cvR_nil hr.out (by decide) rfl (Below.refl _ _)
end Go.Proofs.YtfbmagnfgnebdaaGreatDoor
namespace Go.Proofs.YtfbmagnfgnebdaaGreatDoor
open Go.RowKit Go.Shelf
end Go.Proofs.YtfbmagnfgnebdaaGreatDoor
namespace Go.Proofs.YtfbmagnfgnebdaaGreatDoor
open Go.RowKit Go.Shelf
theorem own_not {W : World} {B g n : Nat} {e e2 : TypeId} {sz : Nat} {v : Value} {xs : List Value} {cs : Array Value} {m : Nat × Nat} (h : W.ownsRow B e sz v n xs) (hk : W.heap[g]? = some (.cells cs e2 m)) (hne : e ≠ e2) : v.ownBlock ≠ some g := by
  intro hb
  rcases h.2 with ⟨rfl, _⟩ | ⟨g2, c2, cur2, rfl, _, hg2, _⟩
  · cases hb
  · have : g2 = g := by injection hb
    subst this
    rw [hk] at hg2
    exact hne (by injection hg2 with hg2; injection hg2 with _ h2 _; exact h2.symm)
/-- a token: its kind, text, line, column -/
abbrev Tok := Nat × List UInt8 × Nat × Nat
def tcel (t : Tok) : List Value := [.int .i64 (t.1 : Int), .string ⟨t.2.1.toArray⟩, .int .i64 (t.2.2.1 : Int), .int .i64 (t.2.2.2 : Int)]
def tcels (L : List Tok) : List Value := L.flatMap tcel
theorem tcels_snoc (L : List Tok) (t : Tok) : tcels (L ++ [t]) = tcels L ++ tcel t := by simp [tcels]
theorem info_tok : (Tryz.prog.info? 125).map (fun i => (i.zero, i.size, i.bytes)) = some (some (.agg #[.int .i64 0, .string ⟨#[]⟩, .int .i64 0, .int .i64 0]), 4, 40) := by kernel_rfl
/-- the signs, the longer ones first -/
abbrev signsL : List (List UInt8) := [[33, 61], [60, 61], [62, 61], [46, 46], [45, 62], [40], [41], [33], [61], [60], [62], [38], [124], [44], [58], [47]]
abbrev signsC : Array Value := #[.string ⟨#[33, 61]⟩, .string ⟨#[60, 61]⟩, .string ⟨#[62, 61]⟩, .string ⟨#[46, 46]⟩, .string ⟨#[45, 62]⟩, .string ⟨#[40]⟩, .string ⟨#[41]⟩, .string ⟨#[33]⟩, .string ⟨#[61]⟩, .string ⟨#[60]⟩, .string ⟨#[62]⟩, .string ⟨#[38]⟩, .string ⟨#[124]⟩, .string ⟨#[44]⟩, .string ⟨#[58]⟩, .string ⟨#[47]⟩]
/-- the table of the signs lies there -/
def SG (w : World) : Prop := ∃ t fr, w.heap[4]? = some (.cells signsC t fr)
theorem SG.below {w W : World} (h : SG w) (hb : Below w.heap.size w W) : SG W := by
  obtain ⟨t, fr, h⟩ := h
  exact ⟨t, fr, (hb.block _ (lt_of_get h)).trans h⟩
theorem SG.cell {w : World} (h : SG w) (j : Nat) : w.cell? ⟨4, j, none⟩ = signsC[j]? := by
  obtain ⟨t, fr, h⟩ := h
  exact cell_of_row w _ j _ _ _ h
/-- where the machine lies -/
structure MX where
  w0 : World
  l : List UInt8
  b : Nat
  g : Nat
  cap : Nat
  gc : Array Value
  gf : Nat × Nat
/-- what does not change while it runs -/
structure MC (X : MX) : Prop where
  gcc : ∀ k c, (chars X.l 0)[k]? = some c → X.gc[k * 2]? = some (.int .i32 c.1) ∧ X.gc[k * 2 + 1]? = some (.int .i64 (c.2 : Int))
  bB : X.w0.heap.size ≤ X.b
  capN : (chars X.l 0).length ≤ X.cap
  len : X.l.length ≤ 16384
  sh : SH X.w0
  sg : SG X.w0
def mcells (X : MX) (now fst line head : Nat) (v : Value) : Array Value := #[.string ⟨X.l.toArray⟩, .slice (some ⟨X.g, 0, none⟩) (chars X.l 0).length X.cap, .int .i64 (now : Int), .int .i64 (fst : Int), .int .i64 (line : Int), .int .i64 (head : Int), v]
/-- the machine's state -/
structure MS (X : MX) (W : World) (now fst line head : Nat) (v : Value) (D : List Tok) : Prop where
  blk : W.heap[X.b]? = some (.cells (mcells X now fst line head v) 156 (0, 0))
  gk : W.heap[X.g]? = some (.cells X.gc 184 X.gf)
  own : W.ownsRow X.w0.heap.size 125 4 v D.length (tcels D)
  bel : Below X.w0.heap.size X.w0 W
theorem MS.bg {X : MX} {W : World} {now fst line head : Nat} {v : Value} {D : List Tok} (h : MS X W now fst line head v D) : X.g ≠ X.b := fun e => by
  have h1 := h.blk
  have h2 := h.gk
  rw [e] at h2
  rw [h1] at h2
  injection h2 with h2
  injection h2 with _ h3 _
  exact absurd h3 (by decide)
theorem MS.below {X : MX} {W W' : World} {now fst line head : Nat} {v : Value} {D : List Tok} (h : MS X W now fst line head v D) (hb : Below W.heap.size W W') : MS X W' now fst line head v D :=
  ⟨keepblk hb h.blk, keepblk hb h.gk, own_below h.own hb, bel0 h.bel hb⟩
theorem MS.drewN {X : MX} {W : World} {now fst line head : Nat} {v : Value} {D : List Tok} (h : MS X W now fst line head v D) (n : Nat) : MS X (W.drewN n) now fst line head v D :=
  h.below (bel_drewN n (Below.refl _ _))
theorem MS.drew {X : MX} {W : World} {now fst line head : Nat} {v : Value} {D : List Tok} (h : MS X W now fst line head v D) : MS X W.drew now fst line head v D :=
  h.below (Below.refl _ _).drew
theorem MS.alloc {X : MX} {W : World} {now fst line head : Nat} {v : Value} {D : List Tok} (h : MS X W now fst line head v D) (o : Obj) : MS X (W.alloc o) now fst line head v D :=
  h.below ((Below.refl _ _).alloc (Nat.le_refl _) _)
theorem MS.set {X : MX} (hC : MC X) {W : World} {now fst line head now' fst' line' head' : Nat} {v : Value} {D : List Tok} (h : MS X W now fst line head v D) (i : Nat) (u : Value) (hc : (mcells X now fst line head v).setIfInBounds i u = mcells X now' fst' line' head' v) : MS X (W.setCell ⟨X.b, i, none⟩ u) now' fst' line' head' v D :=
  ⟨by rw [heap_setCell_same W X.b i _ _ u h.blk, hc], (heap_setCell_other W ⟨X.b, i, none⟩ X.g u h.bg).trans h.gk, ownsRow_setCell_other h.own (a := ⟨X.b, i, none⟩) (own_not h.own h.blk (by decide)) u, h.bel.setCell (p := ⟨X.b, i, none⟩) hC.bB u⟩
theorem MS.setNow {X : MX} (hC : MC X) {W : World} {now fst line head : Nat} {v : Value} {D : List Tok} (h : MS X W now fst line head v D) (n : Nat) {z : Int} (hz : z = (n : Int)) : MS X (W.setCell ⟨X.b, 2, none⟩ (.int .i64 z)) n fst line head v D := h.set hC 2 _ (by rw [hz]; rfl)
theorem MS.setFst {X : MX} (hC : MC X) {W : World} {now fst line head : Nat} {v : Value} {D : List Tok} (h : MS X W now fst line head v D) (n : Nat) {z : Int} (hz : z = (n : Int)) : MS X (W.setCell ⟨X.b, 3, none⟩ (.int .i64 z)) now n line head v D := h.set hC 3 _ (by rw [hz]; rfl)
theorem MS.setLine {X : MX} (hC : MC X) {W : World} {now fst line head : Nat} {v : Value} {D : List Tok} (h : MS X W now fst line head v D) (n : Nat) {z : Int} (hz : z = (n : Int)) : MS X (W.setCell ⟨X.b, 4, none⟩ (.int .i64 z)) now fst n head v D := h.set hC 4 _ (by rw [hz]; rfl)
theorem MS.setHead {X : MX} (hC : MC X) {W : World} {now fst line head : Nat} {v : Value} {D : List Tok} (h : MS X W now fst line head v D) (n : Nat) {z : Int} (hz : z = (n : Int)) : MS X (W.setCell ⟨X.b, 5, none⟩ (.int .i64 z)) now fst line n v D := h.set hC 5 _ (by rw [hz]; rfl)
theorem MS.c {X : MX} {W : World} {now fst line head : Nat} {v : Value} {D : List Tok} (h : MS X W now fst line head v D) (i : Nat) : W.cell? ⟨X.b, i, none⟩ = (mcells X now fst line head v)[i]? := cell_of_row W X.b i _ _ _ h.blk
theorem MS.c0 {X : MX} {W : World} {now fst line head : Nat} {v : Value} {D : List Tok} (h : MS X W now fst line head v D) : W.cell? ⟨X.b, 0, none⟩ = some (.string ⟨X.l.toArray⟩) := h.c 0
theorem MS.c1 {X : MX} {W : World} {now fst line head : Nat} {v : Value} {D : List Tok} (h : MS X W now fst line head v D) : W.cell? ⟨X.b, 1, none⟩ = some (.slice (some ⟨X.g, 0, none⟩) (chars X.l 0).length X.cap) := h.c 1
theorem MS.c2 {X : MX} {W : World} {now fst line head : Nat} {v : Value} {D : List Tok} (h : MS X W now fst line head v D) : W.cell? ⟨X.b, 2, none⟩ = some (.int .i64 (now : Int)) := h.c 2
theorem MS.c3 {X : MX} {W : World} {now fst line head : Nat} {v : Value} {D : List Tok} (h : MS X W now fst line head v D) : W.cell? ⟨X.b, 3, none⟩ = some (.int .i64 (fst : Int)) := h.c 3
theorem MS.c4 {X : MX} {W : World} {now fst line head : Nat} {v : Value} {D : List Tok} (h : MS X W now fst line head v D) : W.cell? ⟨X.b, 4, none⟩ = some (.int .i64 (line : Int)) := h.c 4
theorem MS.c5 {X : MX} {W : World} {now fst line head : Nat} {v : Value} {D : List Tok} (h : MS X W now fst line head v D) : W.cell? ⟨X.b, 5, none⟩ = some (.int .i64 (head : Int)) := h.c 5
theorem MS.c6 {X : MX} {W : World} {now fst line head : Nat} {v : Value} {D : List Tok} (h : MS X W now fst line head v D) : W.cell? ⟨X.b, 6, none⟩ = some v := h.c 6
theorem MS.fz {X : MX} {W : World} {now fst line head : Nat} {v : Value} {D : List Tok} (h : MS X W now fst line head v D) (i : Nat) : W.frozen? ⟨X.b, i, none⟩ = false := by
  have := h.blk
  simp [World.frozen?, this]
/-- the machine looks at the byte j -/
def AT (l : List UInt8) (now j : Nat) : Prop := (chars l 0).drop now = chars l j
theorem MS.cr {X : MX} (hC : MC X) {W : World} {now fst line head : Nat} {v : Value} {D : List Tok} (h : MS X W now fst line head v D) {k j : Nat} (hj : AT X.l k j) : W.cell? ⟨X.g, k * 2, none⟩ = some (.int .i32 (chr X.l j)) :=
  (cell_of_row W X.g _ _ _ _ h.gk).trans (hC.gcc k _ (drop_get hj)).1
theorem MS.ca {X : MX} (hC : MC X) {W : World} {now fst line head : Nat} {v : Value} {D : List Tok} (h : MS X W now fst line head v D) {k j : Nat} (hj : AT X.l k j) (hl : j ≤ X.l.length) : W.cell? ⟨X.g, k * 2 + 1, none⟩ = some (.int .i64 (j : Int)) := by
  have := (cell_of_row W X.g (k * 2 + 1) _ _ _ h.gk).trans (hC.gcc k _ (drop_get hj)).2
  rw [this]
  simp only
  split
  · rfl
  · have : j = X.l.length := by omega
    rw [this]
theorem AT.lt {l : List UInt8} {now j : Nat} (h : AT l now j) : now < (chars l 0).length := drop_lt h
theorem AT.le {l : List UInt8} {now j : Nat} (h : AT l now j) : now ≤ 16384 ∨ 16384 < l.length := by
  have := h.lt
  have := chars_len l _ 0 (Nat.le_refl _)
  omega
theorem AT.asc {l : List UInt8} {now j : Nat} (h : AT l now j) (hj : j < l.length) (hb : bt l j < 128) : AT l (now + 1) (j + 1) := by
  have := drop_next h hj
  rw [dc_asc hb] at this
  exact this
theorem AT.next {l : List UInt8} {now j : Nat} (h : AT l now j) (hj : j < l.length) : AT l (now + 1) (j + (dc l j).2) := drop_next h hj
/-- the number of a character that begins there -/
def ci (l : List UInt8) (j : Nat) : Nat := (chars l 0).length - (chars l j).length
theorem AT.ci {l : List UInt8} {now j : Nat} (h : AT l now j) : now = ci l j := by
  have h1 := h.lt
  have h2 := congrArg List.length h
  rw [List.length_drop] at h2
  unfold Proofs.YtfbmagnfgnebdaaGreatDoor.ci
  omega
/-- the class of a character -/
def cls (r : Int) : Nat :=
  if r = -2 then 0 else if r = 10 then 1 else if r = 32 then 2 else if r = 9 then 2 else if r = 13 then 2 else if r = 46 then 5 else if r = 37 then 6 else if r = 34 then 7 else if r = 35 then 8
  else if (97 ≤ r ∧ r ≤ 122) ∨ (65 ≤ r ∧ r ≤ 90) ∨ r = 95 then 3 else if 48 ≤ r ∧ r ≤ 57 then 4 else 9
def kl (l : List UInt8) (j : Nat) : Nat := cls (chr l j)
end Go.Proofs.YtfbmagnfgnebdaaGreatDoor
