import Derived.Test.YtepokgainceidaaGreatDoorYAE
import Derived.OwnWalk
import Derived.Deep.QuietTactic
import Derived.Test.YtepokgainceidaaGreatDoorYAB
import Derived.Lib.UnsafeStr
import Derived.Deep.AppendLies
namespace Go.Proofs.YtepokgainceidaaGreatDoor
open Go.RowKit Go.Shelf
theorem uncons {n : Nat} {l : List Value} (h : l.length = n + 1) : ∃ a r, l = a :: r ∧ r.length = n := by
  cases l with
  | nil => simp at h
  | cons a r => exact ⟨a, r, rfl, by simpa using h⟩
theorem arr_58 (u : Array Value) (h : u.size = 58) : ∃ u0 u1 u2 u3 u4 u5 u6 u7 u8 u9 u10 u11 u12 u13 u14 u15 u16 u17 u18 u19 u20 u21 u22 u23 u24 u25 u26 u27 u28 u29 u30 u31 u32 u33 u34 u35 u36 u37 u38 u39 u40 u41 u42 u43 u44 u45 u46 u47 u48 u49 u50 u51 u52 u53 u54 u55 u56 u57 : Value, u = #[u0, u1, u2, u3, u4, u5, u6, u7, u8, u9, u10, u11, u12, u13, u14, u15, u16, u17, u18, u19, u20, u21, u22, u23, u24, u25, u26, u27, u28, u29, u30, u31, u32, u33, u34, u35, u36, u37, u38, u39, u40, u41, u42, u43, u44, u45, u46, u47, u48, u49, u50, u51, u52, u53, u54, u55, u56, u57] := by
  obtain ⟨l⟩ := u
  have h' : l.length = 58 := by simpa using h
  obtain ⟨u0, r0, rfl, h0⟩ := uncons h'
  obtain ⟨u1, r1, rfl, h1⟩ := uncons h0
  obtain ⟨u2, r2, rfl, h2⟩ := uncons h1
  obtain ⟨u3, r3, rfl, h3⟩ := uncons h2
  obtain ⟨u4, r4, rfl, h4⟩ := uncons h3
  obtain ⟨u5, r5, rfl, h5⟩ := uncons h4
  obtain ⟨u6, r6, rfl, h6⟩ := uncons h5
  obtain ⟨u7, r7, rfl, h7⟩ := uncons h6
  obtain ⟨u8, r8, rfl, h8⟩ := uncons h7
  obtain ⟨u9, r9, rfl, h9⟩ := uncons h8
  obtain ⟨u10, r10, rfl, h10⟩ := uncons h9
  obtain ⟨u11, r11, rfl, h11⟩ := uncons h10
  obtain ⟨u12, r12, rfl, h12⟩ := uncons h11
  obtain ⟨u13, r13, rfl, h13⟩ := uncons h12
  obtain ⟨u14, r14, rfl, h14⟩ := uncons h13
  obtain ⟨u15, r15, rfl, h15⟩ := uncons h14
  obtain ⟨u16, r16, rfl, h16⟩ := uncons h15
  obtain ⟨u17, r17, rfl, h17⟩ := uncons h16
  obtain ⟨u18, r18, rfl, h18⟩ := uncons h17
  obtain ⟨u19, r19, rfl, h19⟩ := uncons h18
  obtain ⟨u20, r20, rfl, h20⟩ := uncons h19
  obtain ⟨u21, r21, rfl, h21⟩ := uncons h20
  obtain ⟨u22, r22, rfl, h22⟩ := uncons h21
  obtain ⟨u23, r23, rfl, h23⟩ := uncons h22
  obtain ⟨u24, r24, rfl, h24⟩ := uncons h23
  obtain ⟨u25, r25, rfl, h25⟩ := uncons h24
  obtain ⟨u26, r26, rfl, h26⟩ := uncons h25
  obtain ⟨u27, r27, rfl, h27⟩ := uncons h26
  obtain ⟨u28, r28, rfl, h28⟩ := uncons h27
  obtain ⟨u29, r29, rfl, h29⟩ := uncons h28
  obtain ⟨u30, r30, rfl, h30⟩ := uncons h29
  obtain ⟨u31, r31, rfl, h31⟩ := uncons h30
  obtain ⟨u32, r32, rfl, h32⟩ := uncons h31
  obtain ⟨u33, r33, rfl, h33⟩ := uncons h32
  obtain ⟨u34, r34, rfl, h34⟩ := uncons h33
  obtain ⟨u35, r35, rfl, h35⟩ := uncons h34
  obtain ⟨u36, r36, rfl, h36⟩ := uncons h35
  obtain ⟨u37, r37, rfl, h37⟩ := uncons h36
  obtain ⟨u38, r38, rfl, h38⟩ := uncons h37
  obtain ⟨u39, r39, rfl, h39⟩ := uncons h38
  obtain ⟨u40, r40, rfl, h40⟩ := uncons h39
  obtain ⟨u41, r41, rfl, h41⟩ := uncons h40
  obtain ⟨u42, r42, rfl, h42⟩ := uncons h41
  obtain ⟨u43, r43, rfl, h43⟩ := uncons h42
  obtain ⟨u44, r44, rfl, h44⟩ := uncons h43
  obtain ⟨u45, r45, rfl, h45⟩ := uncons h44
  obtain ⟨u46, r46, rfl, h46⟩ := uncons h45
  obtain ⟨u47, r47, rfl, h47⟩ := uncons h46
  obtain ⟨u48, r48, rfl, h48⟩ := uncons h47
  obtain ⟨u49, r49, rfl, h49⟩ := uncons h48
  obtain ⟨u50, r50, rfl, h50⟩ := uncons h49
  obtain ⟨u51, r51, rfl, h51⟩ := uncons h50
  obtain ⟨u52, r52, rfl, h52⟩ := uncons h51
  obtain ⟨u53, r53, rfl, h53⟩ := uncons h52
  obtain ⟨u54, r54, rfl, h54⟩ := uncons h53
  obtain ⟨u55, r55, rfl, h55⟩ := uncons h54
  obtain ⟨u56, r56, rfl, h56⟩ := uncons h55
  obtain ⟨u57, r57, rfl, h57⟩ := uncons h56
  obtain rfl := List.length_eq_zero_iff.1 h57
  exact ⟨u0, u1, u2, u3, u4, u5, u6, u7, u8, u9, u10, u11, u12, u13, u14, u15, u16, u17, u18, u19, u20, u21, u22, u23, u24, u25, u26, u27, u28, u29, u30, u31, u32, u33, u34, u35, u36, u37, u38, u39, u40, u41, u42, u43, u44, u45, u46, u47, u48, u49, u50, u51, u52, u53, u54, u55, u56, u57, rfl⟩
theorem own_below {w W : World} {B e sz n : Nat} {v : Value} {xs : List Value} (h : w.ownsRow B e sz v n xs) (hb : Below w.heap.size w W) : W.ownsRow B e sz v n xs := by
  refine ⟨h.1, ?_⟩
  rcases h.2 with hh | ⟨g, c, cur, h1, h2, h3, h4⟩
  · exact .inl hh
  · exact .inr ⟨g, c, cur, h1, h2, (hb.block _ (lt_of_get h3)).trans h3, h4⟩
theorem own_form {w : World} {B e sz n : Nat} {v : Value} {xs : List Value} (h : w.ownsRow B e sz v n xs) (hn : 0 < n) : ∃ g cap, v = .slice (some ⟨g, 0, none⟩) n cap := by
  rcases h.2 with hh | ⟨g, c, cur, h1, h2, h3, h4⟩
  · omega
  · exact ⟨g, c, h1⟩
set_option maxRecDepth 100000 in
theorem barred_any (r : Int) (w : World) : Calls Tryz.prog 179 #[.int .i32 r] w fun e w' => e = .returned (.bool (decide (r < 32 ∨ r = 127))) ∧ w' = w := by
  by_cases h1 : r < 32
  · have hr : Hid (decide (r < 32 ∨ r = 127) = true) := decide_eq_true (.inl h1)
    rw [hr.out]
    go_enter Tryz.func179, Tryz.ntmps179
    go_wp2
    go_ret
    exact ⟨rfl, rfl⟩
  · by_cases h2 : r = 127
    · have hr : Hid (decide (r < 32 ∨ r = 127) = true) := decide_eq_true (.inr h2)
      rw [hr.out]
      subst h2
      go_enter Tryz.func179, Tryz.ntmps179
      go_wp2
      go_ret
      exact ⟨rfl, rfl⟩
    · have hr : Hid (decide (r < 32 ∨ r = 127) = false) := decide_eq_false (by omega)
      have h3 : (r == 127) = false := beq_eq_false_iff_ne.2 h2
      rw [hr.out]
      go_enter Tryz.func179, Tryz.ntmps179
      go_wp2
      go_ret
      exact ⟨rfl, rfl⟩
theorem utfL_ne (n : Nat) : utfL n ≠ [] := by
  unfold utfL
  repeat' split
  all_goals simp
theorem escS_ne (l : List UInt8) (i : Nat) (h : 0 < (escS l i).1) : (escS l i).2 ≠ [] := by
  unfold escS at h ⊢
  split at h
  · simp at h
  rename_i g0
  rw [if_neg g0]
  repeat' split
  all_goals first
    | (simp; done)
    | (simp_all [utfL_ne]; done)
theorem drop_lt {l : List UInt8} {now j : Nat} (h : (chars l 0).drop now = chars l j) : now < (chars l 0).length := by
  obtain ⟨r, hr⟩ := chars_head l j
  rw [hr] at h
  refine Classical.byContradiction (fun hn => ?_)
  rw [List.drop_eq_nil_of_le (by omega)] at h
  cases h
theorem drop_get {l : List UInt8} {now j : Nat} (h : (chars l 0).drop now = chars l j) : (chars l 0)[now]? = some (chr l j, (if j < l.length then j else l.length)) := by
  obtain ⟨r, hr⟩ := chars_head l j
  have h0 := congrArg (·[0]?) h
  simpa [hr, List.getElem?_drop] using h0
theorem drop_next {l : List UInt8} {now j : Nat} (h : (chars l 0).drop now = chars l j) (hj : j < l.length) : (chars l 0).drop (now + 1) = chars l (j + (dc l j).2) := by
  rw [← List.drop_drop, h, chars_lt hj]
  rfl
theorem wp_scope_many2 {P : Program} {a : Act} {w : World} {Q : Exit → Act → World → Prop} {c : Code} (J : Nat → Act → World → Prop) (m : Nat → Act → World → Nat)
    (pass : ∀ l a w, J l a w → ∃ X, findLabel c l = some (.seq .skip X) ∧ X.wp P (jumpN (fun l' a' w' => J l' a' w' ∧ m l' a' w' < m l a w) Q) a w)
    (first : (∀ l a w, J l a w → ∃ X, findLabel c l = some (.seq .skip X) ∧ X.wp P (jumpN J Q) a w) → c.wp P (jumpN J Q) a w) : (Code.scope c).wp P Q a w :=
  wp_scope_many J m (first (fun l a w h => by
    obtain ⟨X, hf, hr⟩ := pass l a w h
    refine ⟨X, hf, wp_mono hr ?_⟩
    intro e a' w' hq
    cases e with
    | goto l' => exact hq.1
    | normal => exact hq
    | exit id => exact hq
    | ret => exact hq
    | panic ch => exact hq
    | outgrown => exact hq)) (fun l a w h => by
    obtain ⟨X, hf, hr⟩ := pass l a w h
    exact ⟨_, hf, wp_seq (wp_skip hr)⟩)
theorem jump_ret {J : Nat → Act → World → Prop} {Q : Exit → Act → World → Prop} {a : Act} {w : World} (h : Q .ret a w) : jumpN J Q .ret a w := h
theorem bar_iff (l : List UInt8) (j : Nat) (h : j < l.length) : (chr l j < 32 ∨ chr l j = 127) ↔ (lo1 l j = true ∨ bt l j < 32 ∨ bt l j = 127) := by
  unfold chr
  rw [if_pos h]
  by_cases hb : bt l j < 128
  · rw [lo1_asc hb, dc_asc hb]
    simp only [Bool.false_eq_true, if_false, false_or]
    omega
  · have := dc_big hb
    cases lo1 l j with
    | true => simp
    | false => simp only [Bool.false_eq_true, if_false, false_or]; omega
theorem escS_drop (l : List UInt8) (j : Nat) (hj : j < l.length) (hb : bt l j = 92) (h : 0 < (escS l j).1) : (chars l j).drop (escS l j).1 = chars l (j + (escS l j).1) := by
  have hc0 : chars l j = (92, j) :: chars l (j + 1) := by rw [chars_asc hj (by omega), hb]; rfl
  have asc : ∀ m, j + m < l.length → bt l (j + m) < 128 → ∃ c, chars l (j + m) = c :: chars l (j + m + 1) := fun m h1 h2 => ⟨_, chars_asc h1 h2⟩
  have two : j + 1 < l.length → bt l (j + 1) < 128 → (chars l j).drop 2 = chars l (j + 2) := fun h1 h2 => by
    obtain ⟨c, hc⟩ := asc 1 h1 h2
    rw [hc0, hc]; rfl
  unfold escS at h ⊢
  split at h
  · simp at h
  rename_i g0
  rw [if_neg g0]
  by_cases g1 : bt l (j + 1) = 34
  · rw [if_pos g1]; exact two (by omega) (by omega)
  rw [if_neg g1] at h ⊢
  by_cases g2 : bt l (j + 1) = 92
  · rw [if_pos g2]; exact two (by omega) (by omega)
  rw [if_neg g2] at h ⊢
  by_cases g3 : bt l (j + 1) = 110
  · rw [if_pos g3]; exact two (by omega) (by omega)
  rw [if_neg g3] at h ⊢
  by_cases g4 : bt l (j + 1) = 114
  · rw [if_pos g4]; exact two (by omega) (by omega)
  rw [if_neg g4] at h ⊢
  by_cases g5 : bt l (j + 1) = 116
  · rw [if_pos g5]; exact two (by omega) (by omega)
  rw [if_neg g5] at h ⊢
  by_cases g6 : bt l (j + 1) = 120
  · rw [if_pos g6] at h ⊢
    have t2 := two (by omega) (by omega)
    rcases hex2 l j with ⟨h3, a, b, ha, hb, hq⟩ | ⟨hq, hno⟩
    · rw [if_pos h3, ha, hb]
      have := drop_hex 2 l (j + 2) 0
      rw [hq] at this
      show (chars l j).drop 4 = chars l (j + 4)
      rw [show 4 = 2 + 2 by rfl, ← List.drop_drop, t2]
      exact this
    · by_cases h3 : j + 3 < l.length
      · rw [if_pos h3] at h
        rcases hno h3 with e | e
        · rw [e] at h; simp at h
        · rw [e] at h
          revert h
          cases hexD (l.getD (j + 2) 0) <;> simp
      · rw [if_neg h3] at h; simp at h
  rw [if_neg g6] at h ⊢
  by_cases g7 : bt l (j + 1) = 117
  · rw [if_pos g7] at h ⊢
    have t2 := two (by omega) (by omega)
    by_cases h0 : 0 < (brS l j).1
    · rw [if_pos h0]
      show (chars l j).drop (brS l j).1 = chars l (j + (brS l j).1)
      unfold brS at h0 ⊢
      split at h0
      · simp at h0
      · split at h0
        · simp at h0
        · rename_i k1 k2
          rw [if_neg k1, if_neg k2]
          have hd := drop_hex 6 l (j + 3) 0
          show (chars l j).drop (4 + (hexRun 6 (l.drop (j + 3)) 0).1) = chars l (j + (4 + (hexRun 6 (l.drop (j + 3)) 0).1))
          obtain ⟨c2, hc2⟩ := asc 2 (by omega) (by omega)
          have t3 : (chars l j).drop 3 = chars l (j + 3) := by
            rw [show 3 = 2 + 1 by rfl, ← List.drop_drop, t2, hc2]; rfl
          obtain ⟨c3, hc3⟩ := asc (3 + (hexRun 6 (l.drop (j + 3)) 0).1) (by omega) (by rw [← Nat.add_assoc]; omega)
          rw [show 4 + (hexRun 6 (l.drop (j + 3)) 0).1 = 3 + ((hexRun 6 (l.drop (j + 3)) 0).1 + 1) by omega, ← List.drop_drop, t3, ← List.drop_drop, hd, Nat.add_assoc, hc3]
          exact congrArg (chars l) (by omega)
    · rw [if_neg h0] at h; simp at h
  · rw [if_neg g7] at h; simp at h
theorem byteCells_append (a b : List UInt8) : Lib.byteCells (a ++ b) = Lib.byteCells a ++ Lib.byteCells b := by simp [Lib.byteCells]
theorem byteCells_one (b : List UInt8) : ∀ u ∈ Lib.byteCells b, u.oneCell' = true := by
  intro u hu
  obtain ⟨c, _, rfl⟩ := List.mem_map.1 hu
  rfl
theorem use_pass {P : Program} {a : Act} {w : World} {R : Exit → Act → World → Prop} {c X : Code} {J : Nat → Act → World → Prop} {l : Nat} (h : ∀ a w, J l a w → ∃ X, findLabel c l = some (.seq .skip X) ∧ X.wp P R a w) (hJ : J l a w) (hf : findLabel c l = some (.seq .skip X)) : X.wp P R a w := by
  obtain ⟨Y, hY, hr⟩ := h a w hJ
  have e := Option.some.inj (hf.symm.trans hY)
  injection e with _ e
  rw [e]
  exact hr
theorem results_pc (tmps : Array Value) (W : World) (a b c : Value) (h : tmps.getD 4 undef = a ∧ tmps.getD 5 undef = b ∧ tmps.getD 6 undef = c) : (results Tryz.f175 tmps).run Tryz.prog W = .ok (.tuple #[a, b, c]) W := by
  obtain ⟨h1, h2, h3⟩ := h
  have h1' : tmps[4]?.getD undef = a := by simpa using h1
  have h2' : tmps[5]?.getD undef = b := by simpa using h2
  have h3' : tmps[6]?.getD undef = c := by simpa using h3
  simp [results, h1', h2', h3', go_sem]
end Go.Proofs.YtepokgainceidaaGreatDoor
namespace Go.Proofs.YtepokgainceidaaGreatDoor
open Go.RowKit
end Go.Proofs.YtepokgainceidaaGreatDoor
namespace Go.Proofs.YtepokgainceidaaGreatDoor
open Go.RowKit Go.Shelf
theorem add0 (g m : Nat) : (⟨g, 0, none⟩ : Addr).add m = ⟨g, m, none⟩ := by unfold Addr.add; split <;> simp_all
theorem ccels_at (C : List (Int × Nat)) : ∀ (k : Nat) (c : Int × Nat), C[k]? = some c → (ccels C)[k * 2]? = some (.int .i32 c.1) ∧ (ccels C)[k * 2 + 1]? = some (.int .i64 (c.2 : Int)) := by
  induction C with
  | nil => intro k c h; simp at h
  | cons y C ih =>
    intro k c h
    cases k with
    | zero =>
      simp at h
      subst h
      exact ⟨rfl, rfl⟩
    | succ k =>
      have := ih k c (by simpa using h)
      rw [show (k + 1) * 2 = k * 2 + 1 + 1 by omega]
      exact this
theorem own_cap {w : World} {B e sz n m g cap : Nat} {xs : List Value} (h : w.ownsRow B e sz (.slice (some ⟨g, 0, none⟩) m cap) n xs) : n ≤ cap := by
  rcases h.2 with ⟨hh, _⟩ | ⟨g', c, cur, h1, _, _, h4, _⟩
  · cases hh
  · injection h1 with _ _ h1
    omega
theorem conv_own {W : World} {B : Nat} {v : Value} (T : List UInt8) (h : W.ownsRow B 5 1 v T.length (Lib.byteCells T)) : Sem.run Tryz.prog (convert 81 9 v) W = .ok (.string ⟨T.toArray⟩) W := by
  rcases h.2 with ⟨rfl, h0⟩ | ⟨g, c, cur, rfl, _⟩
  · obtain rfl := List.length_eq_zero_iff.1 h0
    rw [run_convert_bytes_string W _ _ 5 _ _ _ Tryz.underlying81 Tryz.underlying5 Tryz.underlying9]
    rfl
  · exact run_convert_bytes_back W _ _ 5 ⟨g, 0, none⟩ c T Tryz.underlying81 Tryz.underlying5 Tryz.underlying9 (fun j hj => h.cells rfl _ _ (by simp [Lib.byteCells, List.getElem?_eq_getElem hj]))
theorem stx_len (L : List (List UInt8)) : (stx L).length = L.length := by simp [stx]
theorem stx_get (L : List (List UInt8)) (i : Nat) (h : i < L.length) : (stx L)[i]? = some (Value.string ⟨(L[i]).toArray⟩) := by simp [stx, List.getElem?_eq_getElem h]
def covE (b lo hi : Int) : Nat :=
  if b < 1 ∨ 32 < b then 1
  else if ¬ (0 ≤ lo ∧ lo ≤ ((2 ^ b.toNat - 1 : Nat) : Int)) ∨ ¬ (0 ≤ hi ∧ hi ≤ ((2 ^ b.toNat - 1 : Nat) : Int)) then 42
  else if hi < lo then 43 else 0
def covL (b lo hi : Int) : List (List UInt8) := if covE b lo hi = 0 then cov b.toNat lo.toNat hi.toNat else []
def cvR (w : World) (b lo hi : Int) (e : Ending) (w' : World) : Prop := ∃ v, e = .returned (.tuple #[v, .int .i64 (covE b lo hi : Int)]) ∧ w'.ownsRow w.heap.size 9 1 v (covL b lo hi).length (stx (covL b lo hi)) ∧ Below w.heap.size w w'
theorem cvR_nil {w w' : World} {b lo hi : Int} {n : Nat} {e : Ending} (h : covE b lo hi = n) (hn : n ≠ 0) (he : e = .returned (.tuple #[.slice none 0 0, .int .i64 (n : Int)])) (hb : Below w.heap.size w w') : cvR w b lo hi e w' := by
  refine ⟨.slice none 0 0, by rw [h]; exact he, ?_, hb⟩
  have : covL b lo hi = [] := by unfold covL; rw [if_neg (by rw [h]; exact hn)]
  rw [this]
  exact World.ownsRow_nil _ _ _ _
set_option maxRecDepth 100000 in
set_option maxHeartbeats 1000000 in
theorem cover_any (b lo hi : Int) (w : World) (hdb : DB w) :
    Calls Tryz.prog 44 #[.int .i64 b, .int .i64 lo, .int .i64 hi] w fun e w' => cvR w b lo hi e w' := by
  by_cases h1 : b < 1
  · have hr : Hid (covE b lo hi = 1) := if_pos (.inl h1)
    go_enter Tryz.func44, Tryz.ntmps44
    go_wp2_with fail
    go_ret2
    exact cvR_nil hr.out (by decide) rfl (Below.refl _ _)
  · by_cases h2 : 32 < b
    · have hr : Hid (covE b lo hi = 1) := if_pos (.inr h2)
      go_enter Tryz.func44, Tryz.ntmps44
      go_wp2_with fail
      go_ret2
      exact cvR_nil hr.out (by decide) rfl (Below.refl _ _)
    · obtain ⟨n, rfl⟩ : ∃ n : Nat, b = (n : Int) := ⟨b.toNat, by omega⟩
      have HF := fun v W => fits_any v n (by omega) W
      have hE : covE (n : Int) lo hi = if ¬ (0 ≤ lo ∧ lo ≤ ((2 ^ n - 1 : Nat) : Int)) ∨ ¬ (0 ≤ hi ∧ hi ≤ ((2 ^ n - 1 : Nat) : Int)) then 42 else if hi < lo then 43 else 0 := by
        unfold covE
        rw [if_neg (by omega), Int.toNat_natCast]
      by_cases g1 : 0 ≤ lo ∧ lo ≤ ((2 ^ n - 1 : Nat) : Int)
      · have F1 := fun W => HF lo W
        rw [decide_eq_true g1] at F1
        by_cases g2 : 0 ≤ hi ∧ hi ≤ ((2 ^ n - 1 : Nat) : Int)
        · have F2 := fun W => HF hi W
          rw [decide_eq_true g2] at F2
          rw [if_neg (by rintro (h | h); exact h g1; exact h g2)] at hE
          by_cases g3 : hi < lo
          · rw [if_pos g3] at hE
            have hr : Hid (covE (n : Int) lo hi = 43) := hE
            clear hE HF g1 g2
            go_enter Tryz.func44, Tryz.ntmps44
            go_wp2_with fail
            refine (F1 _).mono ?_
            rintro e w1 ⟨rfl, rfl⟩
            go_wp2_with fail
            refine (F2 _).mono ?_
            rintro e w2 ⟨rfl, rfl⟩
            go_wp2_with fail
            go_ret2
            exact cvR_nil hr.out (by decide) rfl (Below.refl _ _)
          · rw [if_neg g3] at hE
            obtain ⟨l, rfl⟩ : ∃ l : Nat, lo = (l : Int) := ⟨lo.toNat, by omega⟩
            obtain ⟨h, rfl⟩ : ∃ h : Nat, hi = (h : Int) := ⟨hi.toNat, by omega⟩
            have hp0 : 0 < 2 ^ n := Nat.pow_pos (by decide)
            have HP := prefixes_any n l h (by omega) (by omega) (by omega) (by omega) w hdb
            have hcl : covL (n : Int) (l : Int) (h : Int) = cov n l h := by unfold covL; rw [if_pos hE]; simp
            rw [← hcl] at HP
            have hr : Hid (covE (n : Int) (l : Int) (h : Int) = 0) := hE
            clear hE HF g1 g2 hcl hp0 hdb
            go_enter Tryz.func44, Tryz.ntmps44
            go_wp2_with fail
            refine (F1 _).mono ?_
            rintro e w1 ⟨rfl, rfl⟩
            go_wp2_with fail
            refine (F2 _).mono ?_
            rintro e w2 ⟨rfl, rfl⟩
            go_wp2_with fail
            refine HP.mono ?_
            rintro e w3 ⟨v3, rfl, ho3, hb3⟩
            go_wp2_with fail
            go_ret2
            exact ⟨v3, by rw [hr.out]; rfl, ho3, hb3⟩
        · have F2 := fun W => HF hi W
          rw [decide_eq_false g2] at F2
          rw [if_pos (.inr g2)] at hE
          have hr : Hid (covE (n : Int) lo hi = 42) := hE
          clear hE HF g1 g2
          go_enter Tryz.func44, Tryz.ntmps44
          go_wp2_with fail
          refine (F1 _).mono ?_
          rintro e w1 ⟨rfl, rfl⟩
          go_wp2_with fail
          refine (F2 _).mono ?_
          rintro e w2 ⟨rfl, rfl⟩
          go_wp2_with fail
          go_ret2
          exact cvR_nil hr.out (by decide) rfl (Below.refl _ _)
      · have F1 := fun W => HF lo W
        rw [decide_eq_false g1] at F1
        rw [if_pos (.inl g1)] at hE
        have hr : Hid (covE (n : Int) lo hi = 42) := hE
        clear hE HF g1
        go_enter Tryz.func44, Tryz.ntmps44
        go_wp2_with fail
        refine (F1 _).mono ?_
        rintro e w1 ⟨rfl, rfl⟩
        go_wp2_with fail
        go_ret2
        exact cvR_nil hr.out (by decide) rfl (Below.refl _ _)
set_option maxRecDepth 100000 in
theorem top_any (b : Nat) (hb : b ≤ 32) (w : World) :
    Calls Tryz.prog 69 #[.int .i64 (b : Int)] w fun e w' => e = .returned (.int .i64 ((2 ^ b - 1 : Nat) : Int)) ∧ w' = w := by
  have hp : 2 ^ b ≤ 2 ^ 32 := Nat.pow_le_pow_right (by decide) hb
  have hp0 : 0 < 2 ^ b := Nat.pow_pos (by decide)
  go_enter Tryz.func69, Tryz.ntmps69
  go_wp2_with fail
  go_ret
  refine ⟨?_, rfl⟩
  have e1 : wrap64 (2 ^ b) = ((2 ^ b : Nat) : Int) := by rw [pow_cast]; exact w64 (by omega) (by omega)
  have e2 : wrap64 (wrap64 (2 ^ b) - 1) = ((2 ^ b - 1 : Nat) : Int) := by rw [e1, w64 (by omega) (by omega)]; omega
  exact congrArg (fun z => Ending.returned (Value.int .i64 z)) e2
set_option maxRecDepth 100000 in
set_option maxHeartbeats 1000000 in
theorem xs_any (n : Nat) (hn : n ≤ 1024) (w : World) :
    Calls Tryz.prog 37 #[.int .i64 (n : Int)] w fun e w' => e = .returned (.string ⟨(List.replicate n 120).toArray⟩) ∧ Below w.heap.size w w' := by
  obtain ⟨i0, hi0, hz0, hz1, hz2⟩ := info_parts info_u8
  go_enter Tryz.func37, Tryz.ntmps37
  go_wp2_with fail
  go_loopw [3, 4] (fun v vi wr => ∃ i : Nat, vi = .int .i64 i ∧ i ≤ n ∧ wr.ownsRow w.heap.size 5 1 v (List.replicate i (120 : UInt8)).length (Lib.byteCells (List.replicate i 120)) ∧ Below w.heap.size w wr) (fun _ vi _ => n - (intOf vi).toNat)
  case atStart => exact ⟨0, rfl, Nat.zero_le _, World.ownsRow_nil _ _ _ _, Below.refl _ _⟩
  case round =>
    obtain ⟨i, rfl, hi, hown, hB⟩ := hrel
    have hsz := hB.size
    by_cases hlt : i < n
    · have i1 : (i : Int) < (n : Int) := by omega
      rw [List.length_replicate] at hown
      obtain ⟨qv, cv, rfl⟩ := shapeP hown
      go_wp2_with (at_builtin; refine wpList_append_own _ rfl _ _ 81 rfl w.heap.size 5 i0 _ 1 1 Tryz.underlying81 hi0 hz0 hz1 hz2 rfl (by decide) _ _ _ rfl (hown.alloc _) ⟨wr.heap.size, 0, none⟩ 1 1 [Value.int .u8 120] rfl rfl (World.news_of_block (cs := #[.int .u8 120]) (t := 5) (fr := (0, 0)) (alloc_get _ _)) (by simp [Value.oneCell']) (by unfold maxLen; omega) (by omega) (by simp; omega) ?_; intro v5 w5 oB hg5 _)
      have b5 : Below w.heap.size w w5 := (hB.alloc hsz _).grown hg5 (by simp; omega) (fun k e => (hown.lt k e).1)
      have o5 : w5.ownsRow w.heap.size 5 1 v5 (List.replicate (i + 1) (120 : UInt8)).length (Lib.byteCells (List.replicate (i + 1) 120)) := by
        rw [List.length_replicate, List.replicate_succ', byteCells_append]
        exact oB
      clear oB hg5 hown hB
      go_roundw
      case rel => exact ⟨i + 1, by go_num, by omega, o5, b5⟩
      case measure => simp [intOf]; omega
    · have i1 : ¬ (i : Int) < (n : Int) := by omega
      obtain rfl : i = n := by omega
      have hcv := conv_own _ hown
      obtain ⟨S, hS⟩ : ∃ S : List UInt8, List.replicate i 120 = S := ⟨_, rfl⟩
      rw [hS] at hcv
      have HS : Hid (List.replicate i 120 = S) := hS
      clear hown hS
      go_wp2_with fail
      go_ret
      have hSa : S.toArray = Array.replicate i 120 := by rw [← HS.out]; simp
      exact ⟨congrArg (fun x => Ending.returned (Value.string ⟨x⟩)) hSa, hB⟩
set_option maxRecDepth 100000 in
set_option maxHeartbeats 1000000 in
theorem rdigits_any (v n : Nat) (hn : n ≤ 32) (hv : v < 8589934592) (w : World) :
    Calls Tryz.prog 96 #[.int .i64 (v : Int), .int .i64 (n : Int)] w fun e w' => e = .returned (.string ⟨((List.range n).map (bitB n v)).toArray⟩) ∧ Below w.heap.size w w' := by
  obtain ⟨i0, hi0, hz0, hz1, hz2⟩ := info_parts info_u8
  have e0 : IntKind.i64.wrap ((n : Int) - 1) = (n : Int) - 1 := by rw [IntKind.wrap_i64]; omega
  go_enter Tryz.func96, Tryz.ntmps96
  go_wp2_with fail
  go_loopw [5, 6] (fun vl vi wr => ∃ p : Nat, vi = .int .i64 ((n : Int) - 1 - (p : Int)) ∧ p ≤ n ∧ wr.ownsRow w.heap.size 5 1 vl p (Lib.byteCells ((List.range p).map (bitB n v))) ∧ Below w.heap.size w wr) (fun _ vi _ => (intOf vi + 1).toNat)
  case atStart => exact ⟨0, by simp, Nat.zero_le _, World.ownsRow_nil _ _ _ _, Below.refl _ _⟩
  case round =>
    obtain ⟨p, rfl, hp, hown, hB⟩ := hrel
    have hsz := hB.size
    by_cases hlt : p < n
    · obtain ⟨k, hk⟩ : ∃ k : Nat, n - 1 - p = k := ⟨_, rfl⟩
      have hkk : (n : Int) - 1 - (p : Int) = (k : Int) := by omega
      rw [hkk]
      have i1 : (0 : Int) ≤ (k : Int) := by omega
      have k32 : k ≤ 32 := by omega
      have hd : v / 2 ^ k ≤ v := Nat.div_le_self _ _
      have hand := and1 (v / 2 ^ k) (by omega)
      rw [← div_cast] at hand
      have hbit : bitB n v p = UInt8.ofNat (48 + v / 2 ^ k % 2) := by unfold bitB; rw [hk]
      obtain ⟨d, hdd⟩ : ∃ d, v / 2 ^ k % 2 = d := ⟨_, rfl⟩
      rw [hdd] at hand hbit
      have hd2 : d = 0 ∨ d = 1 := by omega
      have e9 : IntKind.i64.wrap ((k : Int) - 1) = (k : Int) - 1 := by rw [IntKind.wrap_i64]; omega
      obtain ⟨qv, cv, rfl⟩ := shapeP hown
      have hsnoc : ∀ c : UInt8, bitB n v p = c → Lib.byteCells ((List.range (p + 1)).map (bitB n v)) = Lib.byteCells ((List.range p).map (bitB n v)) ++ [Value.int .u8 (c.toNat : Int)] := fun c hc => by
        rw [List.range_succ, List.map_append, byteCells_append]
        show _ ++ [Value.int .u8 ((bitB n v p).toNat : Int)] = _
        rw [hc]
      have HK : Hid ((n : Int) - 1 - (p : Int) = (k : Int)) := hkk
      clear hdd hd hkk
      rcases hd2 with rfl | rfl
      · have hs0 := hsnoc 48 hbit
        clear hsnoc hbit
        go_wp2_with (at_builtin; refine wpList_append_own _ rfl _ _ 81 rfl w.heap.size 5 i0 _ 1 1 Tryz.underlying81 hi0 hz0 hz1 hz2 rfl (by decide) _ _ _ rfl (hown.alloc _) ⟨wr.heap.size, 0, none⟩ 1 1 [Value.int .u8 48] rfl rfl (World.news_of_block (cs := #[.int .u8 48]) (t := 5) (fr := (0, 0)) (alloc_get _ _)) (by simp [Value.oneCell']) (by unfold maxLen; omega) (by omega) (by simp; omega) ?_; intro v5 w5 oB hg5 _)
        have b5 : Below w.heap.size w w5 := (hB.alloc hsz _).grown hg5 (by simp; omega) (fun k e => (hown.lt k e).1)
        have o5 : w5.ownsRow w.heap.size 5 1 v5 (p + 1) (Lib.byteCells ((List.range (p + 1)).map (bitB n v))) := by rw [hs0]; exact oB
        clear oB hg5 hown hB hs0 hand
        go_roundw
        case rel => exact ⟨p + 1, by have := HK.out; go_num, by omega, o5, b5⟩
        case measure => simp [intOf]
      · have hs0 := hsnoc 49 hbit
        clear hsnoc hbit
        go_wp2_with (at_builtin; refine wpList_append_own _ rfl _ _ 81 rfl w.heap.size 5 i0 _ 1 1 Tryz.underlying81 hi0 hz0 hz1 hz2 rfl (by decide) _ _ _ rfl (hown.alloc _) ⟨wr.heap.size, 0, none⟩ 1 1 [Value.int .u8 49] rfl rfl (World.news_of_block (cs := #[.int .u8 49]) (t := 5) (fr := (0, 0)) (alloc_get _ _)) (by simp [Value.oneCell']) (by unfold maxLen; omega) (by omega) (by simp; omega) ?_; intro v5 w5 oB hg5 _)
        have b5 : Below w.heap.size w w5 := (hB.alloc hsz _).grown hg5 (by simp; omega) (fun k e => (hown.lt k e).1)
        have o5 : w5.ownsRow w.heap.size 5 1 v5 (p + 1) (Lib.byteCells ((List.range (p + 1)).map (bitB n v))) := by rw [hs0]; exact oB
        clear oB hg5 hown hB hs0 hand
        go_roundw
        case rel => exact ⟨p + 1, by have := HK.out; go_num, by omega, o5, b5⟩
        case measure => simp [intOf]
    · obtain rfl : p = n := by omega
      have hkk : (p : Int) - 1 - (p : Int) = -1 := by omega
      rw [hkk]
      have hcv := conv_own ((List.range p).map (bitB p v)) (by rw [List.length_map, List.length_range]; exact hown)
      obtain ⟨S, hS⟩ : ∃ S : List UInt8, (List.range p).map (bitB p v) = S := ⟨_, rfl⟩
      rw [hS] at hcv
      have HS : Hid ((List.range p).map (bitB p v) = S) := hS
      clear hown hS
      go_wp2_with fail
      go_ret
      exact ⟨by rw [HS.out]; rfl, hB⟩
end Go.Proofs.YtepokgainceidaaGreatDoor
