import Derived.Test.YtecgjlpmmailjaaGreatDoorXAO
import Derived.Sort.Grow
import Derived.Shelf.SlSortCmp.Whole1
import Derived.Ground.SlsfProg
import Derived.Ground.NamesProg
import Derived.Test.YtecgjlpmmailjaaGreatDoorProg
import Derived.Test.YtecgjlpmmailjaaGreatDoorXAJ
import Derived.Laws.OwnMore
import Derived.Laws.IdiomCopy
import Derived.Deep.AppendLies
import Derived.OwnWalk
import Derived.Deep.DeepCutAuto
namespace Go.Proofs.YtecgjlpmmailjaaGreatDoor
open Go.RowKit Go.Shelf Go.Sort
/-- a line: where it lies, and its texts -/
structure LNE where
  g : Nat
  c : Nat
  S : List (List UInt8)
def LNE.v (x : LNE) : Value := .slice (some ⟨x.g, 0, none⟩) x.S.length x.c
def NM (W : World) (g o : Nat) (t : List UInt8) : Prop := W.cell? ⟨g, o, none⟩ = some (.string ⟨t.toArray⟩) ∧ W.cell? ⟨g, o + 1, none⟩ = some (.int .i64 (t.length : Int)) ∧ W.cell? ⟨g, o + 2, none⟩ = some (.int .u64 (FW t 0 : Int)) ∧ W.cell? ⟨g, o + 3, none⟩ = some (.int .u64 (FW t 1 : Int)) ∧ W.cell? ⟨g, o + 4, none⟩ = some (.int .u64 (FW t 2 : Int)) ∧ W.cell? ⟨g, o + 5, none⟩ = some (.int .u64 (FW t 3 : Int)) ∧ W.cell? ⟨g, o + 6, none⟩ = some (.int .u64 (OW t 0 : Int)) ∧ W.cell? ⟨g, o + 7, none⟩ = some (.int .u64 (OW t 1 : Int)) ∧ W.cell? ⟨g, o + 8, none⟩ = some (.int .u64 (OW t 2 : Int)) ∧ W.cell? ⟨g, o + 9, none⟩ = some (.int .u64 (OW t 3 : Int))
def LNER (w : World) (x : LNE) : Prop := (∀ W, Below w.heap.size w W → ∀ k t, x.S[k]? = some t → NM W x.g (k * 10) t) ∧ x.S.length ≤ 2000000
theorem nm_all {W : World} {B g n cp j : Nat} {S : List (List UInt8)} {t : List UInt8} (h : W.ownsRow B 103 10 (.slice (some ⟨g, 0, none⟩) n cp) n (nms S)) (ht : S[j]? = some t) : NM W g (j * 10) t := by
  have hg : ∀ m, m < 10 → W.cell? ⟨g, j * 10 + m, none⟩ = (nm t)[m]? := fun m hm => by
    have hc := h.cells (g := g) rfl (j * 10 + m)
    have h1 := nms_get S j m hm
    rw [ht] at h1
    have h2 : (nms S)[j * 10 + m]? = (nm t)[m]? := h1
    obtain ⟨v, hv⟩ : ∃ v, (nm t)[m]? = some v := ⟨_, List.getElem?_eq_getElem (by show m < 10; exact hm)⟩
    rw [hv]
    have h4 := hc v (by rw [h2, hv])
    rw [add_plain, Nat.zero_add] at h4
    exact h4
  exact ⟨hg 0 (by omega), hg 1 (by omega), hg 2 (by omega), hg 3 (by omega), hg 4 (by omega), hg 5 (by omega), hg 6 (by omega), hg 7 (by omega), hg 8 (by omega), hg 9 (by omega)⟩
theorem LNER_own {W : World} {B : Nat} {x : LNE} (h : W.ownsRow B 103 10 x.v x.S.length (nms x.S)) (hl : x.S.length ≤ 2000000) : LNER W x := ⟨fun _ hX _ _ ht => nm_all (own_belQ h hX) ht, hl⟩
theorem LNER.later {w W : World} {x : LNE} (h : LNER w x) (hb : Below w.heap.size w W) : LNER W x := ⟨fun X hX k t ht => h.1 X (bel0 hb hX) k t ht, h.2⟩
theorem grow_below (w : World) (os : Array Obj) : Below w.heap.size w (grow w os) := ⟨rfl, rfl, rfl, by simp, fun k hk => by
  show (w.heap ++ os)[k]? = _
  rw [Array.getElem?_append_left hk]⟩
/-- the order of lines -/
def cmpLn : List (List UInt8) → List (List UInt8) → Int
  | [], [] => 0
  | [], _ :: _ => -1
  | _ :: _, [] => 1
  | a :: A, b :: B => if Lib.compareBytes a b = 0 then cmpLn A B else Lib.compareBytes a b
theorem cmpLn_step {A B : List (List UInt8)} {k : Nat} {a b : List UInt8} (ha : A[k]? = some a) (hb : B[k]? = some b) : cmpLn (A.drop k) (B.drop k) = if Lib.compareBytes a b = 0 then cmpLn (A.drop (k + 1)) (B.drop (k + 1)) else Lib.compareBytes a b := by
  obtain ⟨h1, e1⟩ := List.getElem?_eq_some_iff.1 ha
  obtain ⟨h2, e2⟩ := List.getElem?_eq_some_iff.1 hb
  rw [List.drop_eq_getElem_cons h1, e1, List.drop_eq_getElem_cons h2, e2]
  rfl
set_option maxRecDepth 100000 in
set_option maxHeartbeats 4000000 in
theorem cmpF_any (x y : LNE) (w : World) (hx : LNER w x) (hy : LNER w y) : Calls Tryz.prog 47 #[x.v, y.v, .func (.func 48) #[] #[]] w fun e w' => e = .returned (.int .i64 (cmpLn x.S y.S)) ∧ ∃ os, w' = grow w os := by
  obtain ⟨gx, cx, A⟩ := x
  obtain ⟨gy, cy, B⟩ := y
  obtain ⟨hx1, hx2⟩ := hx
  obtain ⟨hy1, hy2⟩ := hy
  simp only at hx1 hx2 hy1 hy2 ⊢
  have HX : Hid (∀ W, Below w.heap.size w W → ∀ k t, A[k]? = some t → NM W gx (k * 10) t) := hx1
  have HY : Hid (∀ W, Below w.heap.size w W → ∀ k t, B[k]? = some t → NM W gy (k * 10) t) := hy1
  obtain ⟨r, hr⟩ : ∃ r, cmpLn A B = r := ⟨_, rfl⟩
  rw [hr]
  have HR : Hid (cmpLn (A.drop 0) (B.drop 0) = r) := hr
  clear hx1 hy1 hr
  unfold LNE.v
  simp only
  go_enter Tryz.func47, Tryz.ntmps47
  go_wp2_with fail
  go_loopw [13] (fun vi wr => ∃ k : Nat, vi = .int .i64 k ∧ k ≤ A.length ∧ k ≤ B.length ∧ Hid (cmpLn (A.drop k) (B.drop k) = r) ∧ Hid (∃ os, wr = grow w os)) (fun vi _ => A.length - (intOf vi).toNat)
  case atStart => exact ⟨0, rfl, Nat.zero_le _, Nat.zero_le _, HR, ⟨#[], by rw [grow_empty]⟩⟩
  case round =>
    clear HR
    obtain ⟨k, rfl, hk, hkb, hcm, hos⟩ := hrel
    have hBr : Below w.heap.size w wr := by
      obtain ⟨os, e⟩ := hos.out
      rw [e]
      exact grow_below w os
    by_cases hlt : k < A.length
    · have j1 : (k : Int) < (A.length : Int) := by omega
      have j0 : (0 : Int) ≤ (k : Int) := by omega
      obtain ⟨a, ha⟩ : ∃ a, A[k]? = some a := ⟨_, List.getElem?_eq_getElem hlt⟩
      obtain ⟨p0, p1, p2, p3, p4, p5, p6, p7, p8, p9⟩ := HX.out wr hBr k a ha
      by_cases hlb : k < B.length
      · have j2 : (k : Int) < (B.length : Int) := by omega
        have j3 : ¬ (B.length : Int) ≤ (k : Int) := by omega
        obtain ⟨b, hb⟩ : ∃ b, B[k]? = some b := ⟨_, List.getElem?_eq_getElem hlb⟩
        have hst := cmpLn_step ha hb
        rw [hcm.out] at hst
        obtain ⟨wa, hwa⟩ : ∃ wa, wr.alloc (.cells #[.string ⟨a.toArray⟩, .int .i64 (a.length : Int), .int .u64 (FW a 0 : Int), .int .u64 (FW a 1 : Int), .int .u64 (FW a 2 : Int), .int .u64 (FW a 3 : Int), .int .u64 (OW a 0 : Int), .int .u64 (OW a 1 : Int), .int .u64 (OW a 2 : Int), .int .u64 (OW a 3 : Int)] 103 (0, 0)) = wa := ⟨_, rfl⟩
        have hal : Below wr.heap.size wr wa := by rw [← hwa]; exact belA (Below.refl _ _) _
        obtain ⟨q0, q1, q2, q3, q4, q5, q6, q7, q8, q9⟩ := HY.out wa (bel0 hBr hal) k b hb
        have hga : wa.heap[wr.heap.size]? = some (.cells #[.string ⟨a.toArray⟩, .int .i64 (a.length : Int), .int .u64 (FW a 0 : Int), .int .u64 (FW a 1 : Int), .int .u64 (FW a 2 : Int), .int .u64 (FW a 3 : Int), .int .u64 (OW a 0 : Int), .int .u64 (OW a 1 : Int), .int .u64 (OW a 2 : Int), .int .u64 (OW a 3 : Int)] 103 (0, 0)) := by rw [← hwa]; exact alloc_get _ _
        obtain ⟨wb, hwb⟩ : ∃ wb, wa.alloc (.cells #[.string ⟨b.toArray⟩, .int .i64 (b.length : Int), .int .u64 (FW b 0 : Int), .int .u64 (FW b 1 : Int), .int .u64 (FW b 2 : Int), .int .u64 (FW b 3 : Int), .int .u64 (OW b 0 : Int), .int .u64 (OW b 1 : Int), .int .u64 (OW b 2 : Int), .int .u64 (OW b 3 : Int)] 103 (0, 0)) = wb := ⟨_, rfl⟩
        have hbl : Below wa.heap.size wa wb := by rw [← hwb]; exact belA (Below.refl _ _) _
        have hgb : wb.heap[wa.heap.size]? = some (.cells #[.string ⟨b.toArray⟩, .int .i64 (b.length : Int), .int .u64 (FW b 0 : Int), .int .u64 (FW b 1 : Int), .int .u64 (FW b 2 : Int), .int .u64 (FW b 3 : Int), .int .u64 (OW b 0 : Int), .int .u64 (OW b 1 : Int), .int .u64 (OW b 2 : Int), .int .u64 (OW b 3 : Int)] 103 (0, 0)) := by rw [← hwb]; exact alloc_get _ _
        have d0 := (cells_block (keepblk3 hbl hga)).1
        have d1 := (cells_block hgb).1
        have HOS : Hid (∀ o1 o2, ∃ os, ((wb.alloc o1).alloc o2) = grow w os) := fun o1 o2 => by
          obtain ⟨os, e⟩ := hos.out
          exact ⟨os ++ #[.cells #[.string ⟨a.toArray⟩, .int .i64 (a.length : Int), .int .u64 (FW a 0 : Int), .int .u64 (FW a 1 : Int), .int .u64 (FW a 2 : Int), .int .u64 (FW a 3 : Int), .int .u64 (OW a 0 : Int), .int .u64 (OW a 1 : Int), .int .u64 (OW a 2 : Int), .int .u64 (OW a 3 : Int)] 103 (0, 0)] ++ #[.cells #[.string ⟨b.toArray⟩, .int .i64 (b.length : Int), .int .u64 (FW b 0 : Int), .int .u64 (FW b 1 : Int), .int .u64 (FW b 2 : Int), .int .u64 (FW b 3 : Int), .int .u64 (OW b 0 : Int), .int .u64 (OW b 1 : Int), .int .u64 (OW b 2 : Int), .int .u64 (OW b 3 : Int)] 103 (0, 0)] ++ #[o1] ++ #[o2], by rw [← hwb, ← hwa, e, alloc_eq_grow, alloc_eq_grow, alloc_eq_grow, alloc_eq_grow, grow_grow, grow_grow, grow_grow, grow_grow]; simp only [Array.append_assoc]⟩
        have HCM : Hid (Calls Tryz.prog 48 #[.agg #[.string ⟨a.toArray⟩, .int .i64 (a.length : Int), .int .u64 (FW a 0 : Int), .int .u64 (FW a 1 : Int), .int .u64 (FW a 2 : Int), .int .u64 (FW a 3 : Int), .int .u64 (OW a 0 : Int), .int .u64 (OW a 1 : Int), .int .u64 (OW a 2 : Int), .int .u64 (OW a 3 : Int)], .agg #[.string ⟨b.toArray⟩, .int .i64 (b.length : Int), .int .u64 (FW b 0 : Int), .int .u64 (FW b 1 : Int), .int .u64 (FW b 2 : Int), .int .u64 (FW b 3 : Int), .int .u64 (OW b 0 : Int), .int .u64 (OW b 1 : Int), .int .u64 (OW b 2 : Int), .int .u64 (OW b 3 : Int)]] wb fun e w' => e = .returned (.int .i64 (Lib.compareBytes a b)) ∧ ∃ os, w' = grow w os) := by
          refine (byText_any a b wb).mono ?_
          rintro e w' ⟨rfl, rfl⟩
          exact ⟨rfl, HOS.out _ _⟩
        obtain ⟨v, hv⟩ : ∃ v, Lib.compareBytes a b = v := ⟨_, rfl⟩
        rw [hv] at hst HCM
        have HST : Hid (r = if v = 0 then cmpLn (A.drop (k + 1)) (B.drop (k + 1)) else v) := hst
        clear hst hv ha hb hga hgb hal hbl HOS hcm hos
        by_cases hv0 : v = 0
        · subst hv0
          go_wp2_with fail
          refine HCM.out.mono ?_
          rintro e W1 ⟨rfl, hos1⟩
          have HO1 : Hid (∃ os, W1 = grow w os) := hos1
          have HX2 : Hid (cmpLn (A.drop (k + 1)) (B.drop (k + 1)) = r) := by
            have h9 := HST.out
            simp only [if_true] at h9
            exact h9.symm
          clear hos1 hwa hwb p0 p1 p2 p3 p4 p5 p6 p7 p8 p9 q0 q1 q2 q3 q4 q5 q6 q7 q8 q9 d0 d1
          go_wp2_with fail
          go_roundw
          case rel => exact ⟨k + 1, by go_num, by omega, by omega, HX2, HO1⟩
          case measure => simp [intOf]; omega
        · have bv : (v != 0) = true := by rw [bne_iff_ne]; exact hv0
          have HX2 : Hid (v = r) := by
            have := HST.out
            rw [if_neg hv0] at this
            exact this.symm
          go_wp2_with fail
          refine HCM.out.mono ?_
          rintro e W1 ⟨rfl, hos1⟩
          clear hwa hwb p0 p1 p2 p3 p4 p5 p6 p7 p8 p9 q0 q1 q2 q3 q4 q5 q6 q7 q8 q9 d0 d1
          go_wp2_with fail
          go_ret
          exact ⟨by rw [← HX2.out]; rfl, hos1⟩
      · have j3 : (B.length : Int) ≤ (k : Int) := by omega
        have HX2 : Hid (1 = r) := by
          unfold Hid
          rw [← hcm.out, List.drop_eq_nil_of_le (by omega : B.length ≤ k), List.drop_eq_getElem_cons hlt]
          rfl
        have HO1 : Hid (∀ o, ∃ os, (wr.alloc o) = grow w os) := fun o => by
          obtain ⟨os, e⟩ := hos.out
          exact ⟨_, by rw [e, alloc_eq_grow, grow_grow]⟩
        clear hcm ha hos
        go_wp2_with fail
        go_ret
        exact ⟨by rw [← HX2.out]; rfl, HO1.out _⟩
    · have j1 : ¬ (k : Int) < (A.length : Int) := by omega
      have hA : A.drop k = [] := List.drop_eq_nil_of_le (by omega)
      by_cases hlb : A.length < B.length
      · have j2 : (A.length : Int) < (B.length : Int) := by omega
        have HX2 : Hid (-1 = r) := by
          unfold Hid
          rw [← hcm.out, hA, List.drop_eq_getElem_cons (show k < B.length by omega)]
          rfl
        clear hcm hA
        go_wp2_with fail
        go_ret
        exact ⟨by rw [← HX2.out]; rfl, hos.out⟩
      · have j2 : ¬ (A.length : Int) < (B.length : Int) := by omega
        have HX2 : Hid (0 = r) := by
          unfold Hid
          rw [← hcm.out, hA, List.drop_eq_nil_of_le (by omega : B.length ≤ k)]
          rfl
        clear hcm hA
        go_wp2_with fail
        go_ret
        exact ⟨by rw [← HX2.out]; rfl, hos.out⟩
theorem cmp1_any (x y : LNE) (w : World) (hx : LNER w x) (hy : LNER w y) : Calls Tryz.prog 46 #[x.v, y.v] w fun e w' => e = .returned (.int .i64 (cmpLn x.S y.S)) ∧ ∃ os, w' = grow w os := by
  have H := cmpF_any x y w hx hy
  unfold LNE.v at H ⊢
  generalize cmpLn x.S y.S = r at H ⊢
  go_enter Tryz.func46, Tryz.ntmps46
  go_wp2_with fail
  refine H.mono ?_
  rintro e W1 ⟨rfl, ho⟩
  go_wp2_with fail
  go_ret
  exact ⟨rfl, ho⟩
theorem cmpLn_self : ∀ A, cmpLn A A = 0
  | [] => rfl
  | a :: A => by simp [cmpLn, cmpB_self, cmpLn_self A]
theorem cmpLn_eq : ∀ A B, cmpLn A B = 0 → A = B
  | [], [], _ => rfl
  | [], _ :: _, h => by simp [cmpLn] at h
  | _ :: _, [], h => by simp [cmpLn] at h
  | a :: A, b :: B, h => by
    unfold cmpLn at h
    split at h
    · rename_i h0
      rw [cmpB_eq a b h0, cmpLn_eq A B h]
    · rename_i h0
      exact absurd h h0
theorem cmpLn_three : ∀ A B, (cmpLn A B < 0 ∧ 0 < cmpLn B A) ∨ (cmpLn A B = 0 ∧ cmpLn B A = 0) ∨ (0 < cmpLn A B ∧ cmpLn B A < 0)
  | [], [] => .inr (.inl ⟨rfl, rfl⟩)
  | [], _ :: _ => .inl ⟨by simp [cmpLn], by simp [cmpLn]⟩
  | _ :: _, [] => .inr (.inr ⟨by simp [cmpLn], by simp [cmpLn]⟩)
  | a :: A, b :: B => by
    unfold cmpLn
    rcases cmpB_three a b with ⟨h1, h2⟩ | ⟨h1, h2⟩ | ⟨h1, h2⟩
    · rw [if_neg (by omega), if_neg (by omega)]; left; omega
    · rw [if_pos h1, if_pos h2]; exact cmpLn_three A B
    · rw [if_neg (by omega), if_neg (by omega)]; right; right; omega
theorem cmpLn_trans : ∀ A B C, cmpLn A B < 0 → cmpLn B C < 0 → cmpLn A C < 0
  | [], [], C, h1, _ => by simp [cmpLn] at h1
  | [], _ :: _, [], _, h2 => by simp [cmpLn] at h2
  | [], _ :: _, _ :: _, _, _ => by simp [cmpLn]
  | _ :: _, [], _, h1, _ => by simp [cmpLn] at h1
  | _ :: _, _ :: _, [], _, h2 => by simp [cmpLn] at h2
  | a :: A, b :: B, c :: C, h1, h2 => by
    unfold cmpLn at h1 h2 ⊢
    split at h1
    · rename_i e1
      obtain rfl := cmpB_eq a b e1
      split at h2
      · rename_i e2
        rw [if_pos e2]
        exact cmpLn_trans A B C h1 h2
      · rename_i e2
        rw [if_neg e2]
        exact h2
    · rename_i e1
      split at h2
      · rename_i e2
        obtain rfl := cmpB_eq b c e2
        rw [if_neg e1]
        exact h1
      · have h3 := cmpB_trans a b c h1 h2
        rw [if_neg (by omega)]
        exact h3
theorem swoLn : SWO (ltOf cmpLn) where
  irrefl x := by simp [ltOf, cmpLn_self]
  trans x y z h1 h2 := by
    simp only [ltOf, decide_eq_true_eq] at *
    exact cmpLn_trans x y z h1 h2
  ntrans x y z h1 h2 := by
    simp only [ltOf, decide_eq_false_iff_not] at *
    intro h
    rcases cmpLn_three x y with ⟨a, -⟩ | ⟨a, -⟩ | ⟨-, a⟩
    · exact h1 a
    · have := cmpLn_eq x y a
      subst this
      exact h2 h
    · have := cmpLn_trans y x z a h
      exact h2 this
end Go.Proofs.YtecgjlpmmailjaaGreatDoor
namespace Go.Proofs
open Go.Shelf
def Tryz.lsl_ren : Go.Shelf.Ren := ⟨fun | 6 => 45 | 15 => 66 | 14 => 65 | 28 => 86 | 29 => 87 | 20 => 78 | 21 => 79 | 22 => 80 | 23 => 81 | 24 => 82 | 25 => 83 | 26 => 84 | 27 => 85 | 46 => 102 | 47 => 103 | 48 => 104 | 49 => 105 | 50 => 106 | 57 => 113 | n => n, fun | 22 => 97 | 24 => 98 | 25 => 105 | 3 => 3 | 39 => 125 | 0 => 0 | 53 => 140 | 55 => 54 | 4 => 4 | 46 => 133 | 45 => 132 | 50 => 137 | 5 => 5 | 9 => 9 | 66 => 153 | 70 => 157 | 76 => 163 | 77 => 164 | n => n, fun | n => n⟩
theorem Tryz.lsl : Go.Proofs.SlLaysF.n6 Tryz.prog Tryz.lsl_ren := {
  mixed := by kernel_rfl
  f6 := ⟨Tryz.f45.name, by decide, Tryz.func45.trans (congrArg some (by kernel_rfl))⟩
  f14 := ⟨Tryz.f65.name, by decide, Tryz.func65.trans (congrArg some (by kernel_rfl))⟩
  f15 := Tryz.func66.trans (congrArg some (by kernel_rfl))
  f20 := ⟨Tryz.f78.name, by decide, Tryz.func78.trans (congrArg some (by kernel_rfl))⟩
  f21 := ⟨Tryz.f79.name, by decide, Tryz.func79.trans (congrArg some (by kernel_rfl))⟩
  f22 := ⟨Tryz.f80.name, by decide, Tryz.func80.trans (congrArg some (by kernel_rfl))⟩
  f23 := ⟨Tryz.f81.name, by decide, Tryz.func81.trans (congrArg some (by kernel_rfl))⟩
  f24 := ⟨Tryz.f82.name, by decide, Tryz.func82.trans (congrArg some (by kernel_rfl))⟩
  f25 := ⟨Tryz.f83.name, by decide, Tryz.func83.trans (congrArg some (by kernel_rfl))⟩
  f26 := ⟨Tryz.f84.name, by decide, Tryz.func84.trans (congrArg some (by kernel_rfl))⟩
  f27 := ⟨Tryz.f85.name, by decide, Tryz.func85.trans (congrArg some (by kernel_rfl))⟩
  f28 := Tryz.func86.trans (congrArg some (by kernel_rfl))
  f29 := Tryz.func87.trans (congrArg some (by kernel_rfl))
  f46 := ⟨Tryz.f102.name, by decide, Tryz.func102.trans (congrArg some (by kernel_rfl))⟩
  f47 := Tryz.func103.trans (congrArg some (by kernel_rfl))
  f48 := Tryz.func104.trans (congrArg some (by kernel_rfl))
  f49 := ⟨Tryz.f105.name, by decide, Tryz.func105.trans (congrArg some (by kernel_rfl))⟩
  f50 := ⟨Tryz.f106.name, by decide, Tryz.func106.trans (congrArg some (by kernel_rfl))⟩
  f57 := ⟨Tryz.f113.name, by decide, Tryz.func113.trans (congrArg some (by kernel_rfl))⟩
  t0 := Tryz.underlying0
  a0 := Tryz.isAgg0
  z0 := Tryz.sizeOf0
  v0 := Tryz.zeroValue0
  t3 := Tryz.underlying3
  a3 := Tryz.isAgg3
  z3 := Tryz.sizeOf3
  v3 := Tryz.zeroValue3
  t4 := Tryz.underlying4
  a4 := Tryz.isAgg4
  z4 := Tryz.sizeOf4
  v4 := Tryz.zeroValue4
  t5 := Tryz.underlying5
  a5 := Tryz.isAgg5
  z5 := Tryz.sizeOf5
  v5 := Tryz.zeroValue5
  t9 := Tryz.underlying9
  a9 := Tryz.isAgg9
  z9 := Tryz.sizeOf9
  v9 := Tryz.zeroValue9
  t22 := Tryz.underlying97
  a22 := Tryz.isAgg97
  z22 := Tryz.sizeOf97
  v22 := Tryz.zeroValue97
  a24 := Tryz.isAgg98
  z24 := Tryz.sizeOf98
  t25 := Tryz.underlying105
  a25 := Tryz.isAgg105
  z25 := Tryz.sizeOf105
  v25 := Tryz.zeroValue105
  t39 := Tryz.underlying125
  a39 := Tryz.isAgg125
  z39 := Tryz.sizeOf125
  v39 := Tryz.zeroValue125
  t45 := Tryz.underlying132
  a45 := Tryz.isAgg132
  z45 := Tryz.sizeOf132
  v45 := Tryz.zeroValue132
  t46 := Tryz.underlying133
  a46 := Tryz.isAgg133
  z46 := Tryz.sizeOf133
  v46 := Tryz.zeroValue133
  t50 := Tryz.underlying137
  a50 := Tryz.isAgg137
  z50 := Tryz.sizeOf137
  v50 := Tryz.zeroValue137
  t53 := Tryz.underlying140
  a53 := Tryz.isAgg140
  z53 := Tryz.sizeOf140
  v53 := Tryz.zeroValue140
  t55 := Tryz.underlying54
  a55 := Tryz.isAgg54
  z55 := Tryz.sizeOf54
  v55 := Tryz.zeroValue54
  t66 := Tryz.underlying153
  a66 := Tryz.isAgg153
  z66 := Tryz.sizeOf153
  v66 := Tryz.zeroValue153
  t70 := Tryz.underlying157
  a70 := Tryz.isAgg157
  z70 := Tryz.sizeOf157
  v70 := Tryz.zeroValue157
  t76 := Tryz.underlying163
  a76 := Tryz.isAgg163
  z76 := Tryz.sizeOf163
  v76 := Tryz.zeroValue163
  t77 := Tryz.underlying164
  a77 := Tryz.isAgg164
  z77 := Tryz.sizeOf164
  v77 := Tryz.zeroValue164 }
end Go.Proofs
namespace Go.Proofs.YtecgjlpmmailjaaGreatDoor
open Go.RowKit Go.Shelf Go.Sort
def lvs (X : List LNE) : List Value := X.map LNE.v
theorem sw_grown {α : Type} [Inhabited α] (enc : α → Value) (W : World) (g m : Nat) (dk : Array α) (os : Array Obj) : W.grownBy (sortWorld enc W g 0 m dk os) (some g) := by
  have hheap : (sortWorld enc W g 0 m dk os).heap = W.heap.modify g (onCells (putCells enc 0 dk)) ++ os := rfl
  refine ⟨rfl, rfl, rfl, by rw [hheap]; simp, fun k hk hne => ?_⟩
  rw [hheap, Array.getElem?_append_left (by simpa using hk), Array.getElem?_modify, if_neg (fun e => hne (by rw [e]))]
theorem sw_own {α : Type} [Inhabited α] (enc : α → Value) {W : World} {B g c n m : Nat} {dk : Array α} {os : Array Obj} {xs : List Value} {e : TypeId} (h : W.ownsRow B e 1 (.slice (some ⟨g, 0, none⟩) n c) n xs) (hD : dk.size = n) :
    (sortWorld enc W g 0 m dk os).ownsRow B e 1 (.slice (some ⟨g, 0, none⟩) n c) n (dk.toList.map enc) := by
  rcases h.2 with ⟨h', _⟩ | ⟨g', cap', cur, h', hb, hg, hnc, hcm, hcs, htake⟩
  · cases h'
  injection h' with a1 _ a3
  injection a1 with a1
  injection a1 with a1
  subst a1 a3
  have hlt := lt_of_get3 hg
  have hheap : (sortWorld enc W g 0 m dk os).heap = W.heap.modify g (onCells (putCells enc 0 dk)) ++ os := rfl
  refine ⟨by simp [hD], .inr ⟨g, c, putCells enc 0 dk cur, rfl, hb, ?_, hnc, hcm, by simp [putCells, hcs], ?_⟩⟩
  · rw [hheap, Array.getElem?_append_left (by simpa using hlt), Array.getElem?_modify, if_pos rfl, hg]
    rfl
  · apply List.ext_getElem?
    intro j
    by_cases hj : j < n
    · rw [List.getElem?_take_of_lt (by omega), Array.getElem?_toList]
      have hjc : j < cur.size := by omega
      unfold putCells
      rw [Array.getElem?_mapIdx, Array.getElem?_eq_getElem hjc]
      simp only [Option.map_some]
      rw [if_pos ⟨Nat.zero_le _, by omega⟩, Nat.sub_zero, List.getElem?_map, Array.getElem?_toList, Array.getElem?_eq_getElem (by omega), getElem!_pos dk j (by omega)]
      rfl
    · rw [List.getElem?_eq_none (by rw [List.length_take]; omega), List.getElem?_eq_none (by simp [hD]; omega)]
theorem sort_lines (X : List LNE) (n g c B : Nat) (W : World) (hX : X.length = n) (hn : n ≤ 1000000) (hn0 : 0 < n) (ho : W.ownsRow B 98 1 (.slice (some ⟨g, 0, none⟩) n c) n (lvs X)) (hl : ∀ x ∈ X, W.ownsRow B 103 10 x.v x.S.length (nms x.S) ∧ x.S.length ≤ 2000000) :
    Calls Tryz.prog 45 #[.slice (some ⟨g, 0, none⟩) n c, .func (.func 46) #[] #[]] W fun e w' => e = .returned (.tuple #[]) ∧ ∃ Y, Y.Perm X ∧ Y.Pairwise (fun a b => cmpLn a.S b.S ≤ 0) ∧ w'.ownsRow B 98 1 (.slice (some ⟨g, 0, none⟩) n c) n (lvs Y) ∧ W.grownBy w' (some g) := by
  have eg : ∀ args w, (callFunc 46 args).run Tryz.prog w = .ok (.enter 46 args) w := enters_of Tryz.func46 (by kernel_rfl) rfl
  have hx0 : X[0]'(by omega) ∈ X := List.getElem_mem _
  haveI : Inhabited { x : LNE // x ∈ X } := ⟨⟨_, hx0⟩⟩
  have hgl : g < W.heap.size := (ho.lt g rfl).2
  obtain ⟨d, hd⟩ : ∃ d : Array { x : LNE // x ∈ X }, X.attach.toArray = d := ⟨_, rfl⟩
  have hds : d.size = n := by rw [← hd]; simp [hX]
  have hSWO : SWO (ltOf (fun (x y : { x : LNE // x ∈ X }) => cmpLn x.1.S y.1.S)) := ⟨fun x => swoLn.irrefl x.1.S, fun x y z h1 h2 => swoLn.trans x.1.S y.1.S z.1.S h1 h2, fun x y z h1 h2 => swoLn.ntrans x.1.S y.1.S z.1.S h1 h2⟩
  have hcmp : CmpLays1 Tryz.prog 46 #[] (fun (x : { x : LNE // x ∈ X }) => x.1.v) (fun x y => cmpLn x.1.S y.1.S) g 0 d.size W := fun m os dk _ x y => by
    have hg := sw_grown (fun (x : { x : LNE // x ∈ X }) => x.1.v) W g m dk os
    have hk : ∀ z : { x : LNE // x ∈ X }, LNER (sortWorld (fun (x : { x : LNE // x ∈ X }) => x.1.v) W g 0 m dk os) z.1 := fun z =>
      LNER_own ((hl z.1 z.2).1.kept hg (own_neQ (hl z.1 z.2).1 ho (by decide))) (hl z.1 z.2).2
    refine (cmp1_any x.1 y.1 _ (hk x) (hk y)).mono ?_
    rintro e w' ⟨rfl, os', rfl⟩
    exact ⟨rfl, 0, os', rfl⟩
  have hH : Holds (fun (x : { x : LNE // x ∈ X }) => x.1.v) W g 0 d := fun j hj => by
    refine ⟨?_, ho.frozenAt _⟩
    rw [ho.cellAt (0 + j) (by omega), Nat.zero_add, lvs, List.getElem?_map, getElem!_pos d j hj]
    have hjX : j < X.length := by omega
    rw [List.getElem?_eq_getElem hjX]
    subst hd
    simp
  have hcon := Any.slices_SortFunc Tryz.lsl (fun (x : { x : LNE // x ∈ X }) => x.1.v) (fun _ => rfl) (fun x y => cmpLn x.1.S y.1.S) hSWO 46 #[] g 0 c d W eg hcmp hH hgl (by omega)
  rw [hds] at hcon
  refine Calls.mono hcon ?_
  rintro e w' ⟨rfl, d', q, os, hp, hs, rfl⟩
  have hsz : d'.size = n := by have := hp.1; omega
  have hperm : d'.toList.Perm X.attach := by
    have h2 := hp.2.2
    rw [show d'.extract 0 n = d' by rw [← hsz]; simp, show d.extract 0 n = d by rw [← hds]; simp] at h2
    rw [← hd] at h2
    simpa using h2
  refine ⟨rfl, d'.toList.map (·.1), ?_, ?_, ?_, sw_grown _ _ _ _ _ _⟩
  · have h3 := hperm.map (·.1)
    have e8 : List.map (fun x : { x : LNE // x ∈ X } => x.1) X.attach = X := by simp
    rw [e8] at h3
    exact h3
  · rw [List.pairwise_map, List.pairwise_iff_getElem]
    intro i j hi hj hij
    have hi' : i < d'.size := by simpa using hi
    have hj' : j < d'.size := by simpa using hj
    have h3 := hs i j (Nat.zero_le _) hij (by omega)
    rw [getElem!_pos d' i hi', getElem!_pos d' j hj'] at h3
    simp only [ltOf, decide_eq_false_iff_not] at h3
    simp only [Array.getElem_toList]
    rcases cmpLn_three d'[i].1.S d'[j].1.S with ⟨a, b⟩ | ⟨a, b⟩ | ⟨a, b⟩ <;> omega
  · have h4 := sw_own (fun (x : { x : LNE // x ∈ X }) => x.1.v) (m := q) (os := os) ho hsz
    rw [lvs, List.map_map]
    exact h4
end Go.Proofs.YtecgjlpmmailjaaGreatDoor
namespace Go.Proofs.YtecgjlpmmailjaaGreatDoor
open Go.RowKit
theorem CZ_of {W : World} {b : Nat} {z : ZT} (h : W.heap[b]? = some (.cells #[.int .i64 (z.c.length : Int), .int .u64 (FW z.c 0 : Int), .int .u64 (FW z.c 1 : Int), .int .u64 (FW z.c 2 : Int), .int .u64 (FW z.c 3 : Int), .int .u64 (OW z.c 0 : Int), .int .u64 (OW z.c 1 : Int), .int .u64 (OW z.c 2 : Int), .int .u64 (OW z.c 3 : Int), .slice z.q z.L.length z.k] 67 (0, 0))) : CZ W b 0 z := by
  obtain ⟨hc, -⟩ := cells_block h
  exact ⟨hc 0, hc 1, hc 2, hc 3, hc 4, hc 5, hc 6, hc 7, hc 8, hc 9⟩
theorem CZ.below {W X : World} {g o : Nat} {z : ZT} (h : CZ W g o z) (hb : Below W.heap.size W X) : CZ X g o z := by
  have hk : ∀ {p : Addr} {v : Value}, W.cell? p = some v → X.cell? p = some v := fun h => (hb.cell (World.block_lt_of_cell? W _ h)).trans h
  obtain ⟨h0, h1, h2, h3, h4, h5, h6, h7, h8, h9⟩ := h
  exact ⟨hk h0, hk h1, hk h2, hk h3, hk h4, hk h5, hk h6, hk h7, hk h8, hk h9⟩
theorem tes_set (K : List ZT) (k : Nat) (M : ZT) (hk : k < K.length) : (((((((((((tes K).set (k * 10) (.int .i64 (M.c.length : Int))).set (k * 10 + 1) (.int .u64 (FW M.c 0 : Int))).set (k * 10 + 2) (.int .u64 (FW M.c 1 : Int))).set (k * 10 + 3) (.int .u64 (FW M.c 2 : Int))).set (k * 10 + 4) (.int .u64 (FW M.c 3 : Int))).set (k * 10 + 5) (.int .u64 (OW M.c 0 : Int))).set (k * 10 + 6) (.int .u64 (OW M.c 1 : Int))).set (k * 10 + 7) (.int .u64 (OW M.c 2 : Int))).set (k * 10 + 8) (.int .u64 (OW M.c 3 : Int))).set (k * 10 + 9) (.slice M.q M.L.length M.k)) = tes (K.set k M) := by
  have hl := tes_len K
  apply List.ext_getElem?
  intro j
  obtain ⟨q, m, hm, rfl⟩ : ∃ q m, m < 10 ∧ j = q * 10 + m := ⟨j / 10, j % 10, by omega, by omega⟩
  rw [tes_get (K.set k M) q m hm]
  by_cases hq : q = k
  · subst hq
    rw [List.getElem?_set_self hk]
    have hc : m = 0 ∨ m = 1 ∨ m = 2 ∨ m = 3 ∨ m = 4 ∨ m = 5 ∨ m = 6 ∨ m = 7 ∨ m = 8 ∨ m = 9 := by omega
    rcases hc with rfl | rfl | rfl | rfl | rfl | rfl | rfl | rfl | rfl | rfl <;>
      (repeat rw [List.getElem?_set_ne (by omega)]) <;>
      (first | (rw [List.getElem?_set_self (by simp only [List.length_set]; omega)]; rfl) | (show (((tes K).set (q * 10) _))[q * 10]? = _; rw [List.getElem?_set_self (by omega)]; rfl))
  · rw [List.getElem?_set_ne (by omega), List.getElem?_set_ne (by omega), List.getElem?_set_ne (by omega), List.getElem?_set_ne (by omega), List.getElem?_set_ne (by omega), List.getElem?_set_ne (by omega), List.getElem?_set_ne (by omega), List.getElem?_set_ne (by omega), List.getElem?_set_ne (by omega), List.getElem?_set_ne (by omega), tes_get K q m hm, List.getElem?_set_ne (fun e => hq e.symm)]
def put10k (W : World) (g k : Nat) (M : ZT) : World := ((((((((((W.setCell ⟨g, k * 10, none⟩ (.int .i64 (M.c.length : Int))).setCell ⟨g, k * 10 + 1, none⟩ (.int .u64 (FW M.c 0 : Int))).setCell ⟨g, k * 10 + 2, none⟩ (.int .u64 (FW M.c 1 : Int))).setCell ⟨g, k * 10 + 3, none⟩ (.int .u64 (FW M.c 2 : Int))).setCell ⟨g, k * 10 + 4, none⟩ (.int .u64 (FW M.c 3 : Int))).setCell ⟨g, k * 10 + 5, none⟩ (.int .u64 (OW M.c 0 : Int))).setCell ⟨g, k * 10 + 6, none⟩ (.int .u64 (OW M.c 1 : Int))).setCell ⟨g, k * 10 + 7, none⟩ (.int .u64 (OW M.c 2 : Int))).setCell ⟨g, k * 10 + 8, none⟩ (.int .u64 (OW M.c 3 : Int))).setCell ⟨g, k * 10 + 9, none⟩ (.slice M.q M.L.length M.k))
theorem put10k_own {W : World} {B g n c k : Nat} {K : List ZT} (M : ZT) (h : W.ownsRow B 67 10 (.slice (some ⟨g, 0, none⟩) n c) n (tes K)) (hk : k < K.length) :
    (put10k W g k M).ownsRow B 67 10 (.slice (some ⟨g, 0, none⟩) n c) n (tes (K.set k M)) ∧ W.grownBy (put10k W g k M) (some g) := by
  have s0 := h.stored (k * 10) (.int .i64 (M.c.length : Int))
  have s1 := s0.1.stored (k * 10 + 1) (.int .u64 (FW M.c 0 : Int))
  have s2 := s1.1.stored (k * 10 + 2) (.int .u64 (FW M.c 1 : Int))
  have s3 := s2.1.stored (k * 10 + 3) (.int .u64 (FW M.c 2 : Int))
  have s4 := s3.1.stored (k * 10 + 4) (.int .u64 (FW M.c 3 : Int))
  have s5 := s4.1.stored (k * 10 + 5) (.int .u64 (OW M.c 0 : Int))
  have s6 := s5.1.stored (k * 10 + 6) (.int .u64 (OW M.c 1 : Int))
  have s7 := s6.1.stored (k * 10 + 7) (.int .u64 (OW M.c 2 : Int))
  have s8 := s7.1.stored (k * 10 + 8) (.int .u64 (OW M.c 3 : Int))
  have s9 := s8.1.stored (k * 10 + 9) (.slice M.q M.L.length M.k)
  rw [← tes_set K k M hk]
  exact ⟨s9.1, grown_trans s0.2 (grown_trans s1.2 (grown_trans s2.2 (grown_trans s3.2 (grown_trans s4.2 (grown_trans s5.2 (grown_trans s6.2 (grown_trans s7.2 (grown_trans s8.2 (s9.2)))))))))⟩
theorem clear10 (w : World) (ty : TypeId) (b o n c : Nat) (hn : 0 < n) (hc : ∀ j, j < n * 10 → (w.cell? ⟨b, o + j, none⟩).isSome = true) (hf : ∀ j, j < n * 10 → w.frozen? ⟨b, o + j, none⟩ = false) :
    ∃ Z : List Value, (Builtin.clear_ #[26] ty #[.slice (some ⟨b, o, none⟩) n c]).run Tryz.prog w = .ok (.tuple #[]) (w.setCells b o Z) := by
  obtain ⟨A, hA⟩ : ∃ A, Builtin.zeroCells (.agg #[.int .i64 0, .int .u64 0, .int .u64 0, .int .u64 0, .int .u64 0, .int .u64 0, .int .u64 0, .int .u64 0, .int .u64 0, .slice none 0 0] : Value).cells n = A := ⟨_, rfl⟩
  have hl : A.toList.length = n * 10 := by
    rw [← hA]
    simp [Builtin.zeroCells, Value.cells]
  have h1 : ∀ v ∈ A.toList, v.oneCell' = true := by
    intro v hv
    rw [← hA] at hv
    simp only [Builtin.zeroCells, Value.cells] at hv
    simp only [Array.toList_map, List.mem_map] at hv
    obtain ⟨i, -, rfl⟩ := hv
    have hi : i % 10 = 0 ∨ i % 10 = 1 ∨ i % 10 = 2 ∨ i % 10 = 3 ∨ i % 10 = 4 ∨ i % 10 = 5 ∨ i % 10 = 6 ∨ i % 10 = 7 ∨ i % 10 = 8 ∨ i % 10 = 9 := by omega
    rcases hi with e | e | e | e | e | e | e | e | e | e <;> simp [e, Value.oneCell']
  have hst := run_storeCells_cells (P := Tryz.prog) b o A.toList 0 w (by rw [hl]; simpa using hc) (by rw [hl]; simpa using hf) h1
  simp only [Nat.add_zero] at hst
  obtain ⟨m, rfl⟩ : ∃ m, n = m + 1 := ⟨n - 1, by omega⟩
  exact ⟨A.toList, by simp [Builtin.clear_, run_underlying Tryz.underlying26, hA, hst]⟩
theorem tes_take (L : List ZT) (i : Nat) : (tes L).take (i * 10) = tes (L.take i) := by
  induction L generalizing i with
  | nil => simp [tes]
  | cons t l ih =>
    have hc : tes (t :: l) = t.cells ++ tes l := rfl
    have hl : t.cells.length = 10 := rfl
    cases i with
    | zero => simp [tes]
    | succ i =>
      rw [hc, List.take_append, hl, List.take_of_length_le (by rw [hl]; omega), show (i + 1) * 10 - 10 = i * 10 by omega, ih]
      rfl
theorem del_yesT {α : Type} {q : α → Bool} {L K : List α} {i j : Nat} {t : α} (h1 : K.take i = (L.take j).filter q) (h2 : ((L.take j).filter q).length = i) (h3 : K.drop j = L.drop j) (h4 : K.length = L.length) (hij : i < j) (ht : L[j]? = some t) (hq : q t = true) : (K.set i t).take (i + 1) = (L.take (j + 1)).filter q ∧ ((L.take (j + 1)).filter q).length = i + 1 ∧ (K.set i t).drop (j + 1) = L.drop (j + 1) ∧ (K.set i t).length = L.length := by
  have hj : j < L.length := (List.getElem?_eq_some_iff.1 ht).1
  have e : (L.take (j + 1)).filter q = (L.take j).filter q ++ [t] := by
    rw [List.take_add_one, ht, List.filter_append]
    simp [hq]
  refine ⟨?_, by rw [e, List.length_append, h2]; rfl, ?_, by rw [List.length_set, h4]⟩
  · rw [e, List.take_add_one, List.take_set, List.set_eq_of_length_le (by rw [List.length_take]; omega), h1, List.getElem?_set_self (by omega)]
    rfl
  · rw [List.drop_set_of_lt (by omega), ← List.drop_drop, h3, List.drop_drop]
theorem del_noT {α : Type} {q : α → Bool} {L K : List α} {i j : Nat} {t : α} (h1 : K.take i = (L.take j).filter q) (h2 : ((L.take j).filter q).length = i) (h3 : K.drop j = L.drop j) (ht : L[j]? = some t) (hq : q t = false) : K.take i = (L.take (j + 1)).filter q ∧ ((L.take (j + 1)).filter q).length = i ∧ K.drop (j + 1) = L.drop (j + 1) := by
  have e : (L.take (j + 1)).filter q = (L.take j).filter q := by
    rw [List.take_add_one, ht, List.filter_append]
    simp [hq]
  rw [e]
  exact ⟨h1, h2, by rw [← List.drop_drop, h3, List.drop_drop]⟩
set_option maxRecDepth 100000 in
set_option maxHeartbeats 4000000 in
theorem delt_any (L : List ZT) (n c g B : Nat) (x : ZT) (bw bx : Nat) (w : World) (hn : L.length = n) (hc : n ≤ 281474976710656) (h : w.ownsRow B 67 10 (.slice (some ⟨g, 0, none⟩) n c) n (tes L)) (gL : ∀ t ∈ L, ZOK w t) (gx : ZOK w x) (hq : WZ w bw bx x) (h1 : bw ≠ g) (h2 : bx ≠ g) (q : ZT → Bool) (hqd : q = fun t => !cvB t x) :
    Calls Tryz.prog 70 #[.slice (some ⟨g, 0, none⟩) n c, .func (.func 71) #[] #[.pointer (some ⟨bw, 0, none⟩), .pointer (some ⟨bx, 0, none⟩)]] w fun e w' => ∃ m, e = .returned (.slice (some ⟨g, 0, none⟩) m c) ∧ (L.filter q).length = m ∧ w'.ownsRow B 67 10 (.slice (some ⟨g, 0, none⟩) m c) m (tes (L.filter q)) ∧ w.grownBy w' (some g) := by
  have hnc : n ≤ c := by
    rcases h.2 with ⟨h', _⟩ | ⟨g', cap', cur, h', _, _, h9, _⟩
    · cases h'
    · injection h' with _ _ a3
      omega
  have H1 := idxt2_any L n (some ⟨g, 0, none⟩) c bw bx (fun t => cvB t x) w hn (by omega) (IRZ_own h hn) (fun W hW t ht => greatt2_any x t bw bx W (gx.later (KC_below hW)) ((gL t ht).later (KC_below hW)) (hq.below hW))
  obtain ⟨i0, hi0⟩ : ∃ i, ixG (fun t => cvB t x) 0 L = i := ⟨_, rfl⟩
  have HIX := ixG_at (fun t => cvB t x) L 0
  rw [hi0] at H1 HIX
  have HN : Hid (L.length = n) := hn
  have HO : Hid (w.ownsRow B 67 10 (.slice (some ⟨g, 0, none⟩) n c) n (tes L)) := h
  have HG : Hid (∀ t ∈ L, ZOK w t) := gL
  have HQ : Hid (WZ w bw bx x ∧ bw ≠ g ∧ bx ≠ g) := ⟨hq, h1, h2⟩
  have HD : Hid (q = fun t => !cvB t x) := hqd
  have HX : Hid (ZOK w x) := gx
  have HKT : Hid (∃ cur, w.heap[g]? = some (.cells cur 67 (0, 0))) := by
    rcases h.2 with ⟨h', _⟩ | ⟨g', cap', cur, h', _, hg', _⟩
    · cases h'
    · injection h' with a1 _ _
      injection a1 with a1
      injection a1 with a1
      subst a1
      exact ⟨cur, hg'⟩
  have HI : Hid ((i0 = -1 ∧ ∀ t ∈ L, cvB t x = false) ∨ ∃ A t R, L = A ++ t :: R ∧ (∀ x_1 ∈ A, cvB x_1 x = false) ∧ cvB t x = true ∧ i0 = ((0 + A.length : Nat) : Int)) := HIX
  clear hn h gL hq h1 h2 hqd gx HIX hi0
  go_enter Tryz.func70, Tryz.ntmps70
  go_wp2_with fail
  refine H1.mono ?_
  rintro e W0 ⟨rfl, hb0⟩
  clear H1
  rcases HI.out with ⟨rfl, hno⟩ | ⟨A, t0, R, hLA, hA, ht0, rfl⟩
  · have HF : Hid (L.filter q = L) := by
      unfold Hid
      rw [HD.out]
      exact List.filter_eq_self.2 (fun t ht => by simp [hno t ht])
    clear hno HI
    go_wp2_with fail
    go_ret
    refine ⟨n, rfl, ?_, ?_, below_grown hb0 _⟩
    · rw [HF.out, HN.out]
    · rw [HF.out]
      exact (HO.out.kept (below_grown hb0 none) (.inr (by intro e; cases e)))
  · obtain ⟨i, hi⟩ : ∃ i, A.length = i := ⟨_, rfl⟩
    have HS : Hid (∃ K : List ZT, K.take i = (L.take (i + 1)).filter q ∧ ((L.take (i + 1)).filter q).length = i ∧ K.drop (i + 1) = L.drop (i + 1) ∧ K.length = L.length ∧ W0.ownsRow B 67 10 (.slice (some ⟨g, 0, none⟩) n c) n (tes K)) := by
      have e : (L.take (i + 1)).filter q = A := by
        rw [hLA, ← hi, List.take_append, List.take_of_length_le (by omega), Nat.add_sub_cancel_left, List.filter_append, HD.out]
        simp only [List.take_succ_cons, List.take_zero]
        rw [List.filter_eq_self.2 (fun t ht => by simp [hA t ht])]
        simp [ht0]
      refine ⟨L, ?_, by rw [e, hi], rfl, rfl, HO.out.kept (below_grown hb0 none) (.inr (by intro e; cases e))⟩
      rw [e, hLA, ← hi, List.take_left']
      rfl
    have hin : i + 1 ≤ n := by
      rw [← HN.out, hLA, List.length_append, List.length_cons, hi]
      omega
    rw [Nat.zero_add, hi]
    have k0 : ((i : Int) == -1) = false := beq_false_of_ne (by omega)
    clear hLA hA ht0 hi HI
    go_wp2_with fail
    go_loopw [5, 6] (fun v5 v6 wr => ∃ i j : Nat, v5 = .int .i64 (i : Int) ∧ v6 = .int .i64 (j : Int) ∧ i < j ∧ j ≤ n ∧ w.grownBy wr (some g) ∧ ∃ K : List ZT, K.take i = (L.take j).filter q ∧ ((L.take j).filter q).length = i ∧ K.drop j = L.drop j ∧ K.length = L.length ∧ wr.ownsRow B 67 10 (.slice (some ⟨g, 0, none⟩) n c) n (tes K)) (fun _ v6 _ => n - (intOf v6).toNat)
    case atStart => exact ⟨i, i + 1, rfl, by go_num, by omega, hin, below_grown hb0 _, HS.out⟩
    case round =>
      clear HS hb0
      obtain ⟨i, j, rfl, rfl, hij, hjn, hg, K, e1, e2, e3, e4, oK⟩ := hrel
      by_cases hlt : j < n
      · have j1 : (j : Int) < (n : Int) := by omega
        have j0 : (0 : Int) ≤ (j : Int) := by omega
        have i0 : (0 : Int) ≤ (i : Int) := by omega
        have i1 : (i : Int) < (n : Int) := by omega
        obtain ⟨t, ht⟩ : ∃ t, L[j]? = some t := ⟨_, List.getElem?_eq_getElem (by rw [HN.out]; exact hlt)⟩
        have hKt : K[j]? = some t := by
          have := congrArg (fun l => l[0]?) e3
          simpa [ht] using this
        have hjK : j < K.length := by rw [e4, HN.out]; exact hlt
        have ce : CZ wr g (j * 10) t := tz_at oK hKt
        have HST : Hid (K.take i = (L.take j).filter q ∧ ((L.take j).filter q).length = i ∧ K.drop j = L.drop j ∧ K.length = L.length ∧ L[j]? = some t) := ⟨e1, e2, e3, e4, ht⟩
        have HOK : Hid (wr.ownsRow B 67 10 (.slice (some ⟨g, 0, none⟩) n c) n (tes K)) := oK
        have HGR : Hid (w.grownBy wr (some g)) := hg
        have hwq : WZ wr bw bx x := ⟨(hg.block bw (lt_of_get3 HQ.out.1.1) (by intro e; injection e with e; exact HQ.out.2.1 e)).trans HQ.out.1.1, (hg.block bx (lt_of_get3 HQ.out.1.2) (by intro e; injection e with e; exact HQ.out.2.2 e)).trans HQ.out.1.2⟩
        have HW : Hid (WZ wr bw bx x) := hwq
        obtain ⟨p0, p1, p2, p3, p4, p5, p6, p7, p8, p9⟩ := ce
        clear e1 e2 e3 e4 oK hg ht hKt hwq
        have hkc : KC w wr := by
          obtain ⟨cur, hcur⟩ := HKT.out
          exact KC_grown HGR.out hcur (by decide)
        have hgd := (HG.out t (List.mem_of_getElem? HST.out.2.2.2.2)).later hkc
        have hxd := HX.out.later hkc
        have HCL : Hid (∀ W, Below wr.heap.size wr W → Calls Tryz.prog 71 #[.agg #[.int .i64 (t.c.length : Int), .int .u64 (FW t.c 0 : Int), .int .u64 (FW t.c 1 : Int), .int .u64 (FW t.c 2 : Int), .int .u64 (FW t.c 3 : Int), .int .u64 (OW t.c 0 : Int), .int .u64 (OW t.c 1 : Int), .int .u64 (OW t.c 2 : Int), .int .u64 (OW t.c 3 : Int), .slice t.q t.L.length t.k], .pointer (some ⟨bw, 0, none⟩), .pointer (some ⟨bx, 0, none⟩)] W fun e w' => e = .returned (.bool (cvB t x)) ∧ Below W.heap.size W w') := fun W hW => greatt2_any x t bw bx W (hxd.later (KC_below hW)) (hgd.later (KC_below hW)) (HW.out.below hW)
        have hal : Below wr.heap.size wr (wr.alloc (.cells #[.int .i64 (t.c.length : Int), .int .u64 (FW t.c 0 : Int), .int .u64 (FW t.c 1 : Int), .int .u64 (FW t.c 2 : Int), .int .u64 (FW t.c 3 : Int), .int .u64 (OW t.c 0 : Int), .int .u64 (OW t.c 1 : Int), .int .u64 (OW t.c 2 : Int), .int .u64 (OW t.c 3 : Int), .slice t.q t.L.length t.k] 67 (0, 0))) := belA (Below.refl _ _) _
        have hcb : CZ (wr.alloc (.cells #[.int .i64 (t.c.length : Int), .int .u64 (FW t.c 0 : Int), .int .u64 (FW t.c 1 : Int), .int .u64 (FW t.c 2 : Int), .int .u64 (FW t.c 3 : Int), .int .u64 (OW t.c 0 : Int), .int .u64 (OW t.c 1 : Int), .int .u64 (OW t.c 2 : Int), .int .u64 (OW t.c 3 : Int), .slice t.q t.L.length t.k] 67 (0, 0))) wr.heap.size 0 t := CZ_of (alloc_get _ _)
        go_wp2_with fail
        refine (HCL.out _ hal).mono ?_
        rintro e W1 ⟨rfl, hb1⟩
        have hB1 := bel0 hal hb1
        have oK1 : W1.ownsRow B 67 10 (.slice (some ⟨g, 0, none⟩) n c) n (tes K) := HOK.out.kept (below_grown hB1 none) (.inr (by intro e; cases e))
        have HG1 : Hid (w.grownBy W1 (some g)) := grown_trans HGR.out (below_grown hB1 _)
        cases hw : cvB t x with
        | true =>
          have HF : Hid (K.take i = (L.take (j + 1)).filter q ∧ ((L.take (j + 1)).filter q).length = i ∧ K.drop (j + 1) = L.drop (j + 1)) := del_noT HST.out.1 HST.out.2.1 HST.out.2.2.1 HST.out.2.2.2.2 (by rw [HD.out]; simp [hw])
          have HO1 : Hid (W1.ownsRow B 67 10 (.slice (some ⟨g, 0, none⟩) n c) n (tes K)) := oK1
          clear oK1 hw
          go_wp2_with fail
          go_roundw
          case rel => exact ⟨i, j + 1, rfl, by go_num, by omega, by omega, HG1.out, K, HF.out.1, HF.out.2.1, HF.out.2.2, HST.out.2.2.2.1, HO1.out⟩
          case measure => simp [intOf]; omega
        | false =>
          have hiK : i < K.length := by rw [HST.out.2.2.2.1, HN.out]; omega
          have HF : Hid ((K.set i t).take (i + 1) = (L.take (j + 1)).filter q ∧ ((L.take (j + 1)).filter q).length = i + 1 ∧ (K.set i t).drop (j + 1) = L.drop (j + 1) ∧ (K.set i t).length = L.length) := del_yesT HST.out.1 HST.out.2.1 HST.out.2.2.1 HST.out.2.2.2.1 hij HST.out.2.2.2.2 (by rw [HD.out]; simp [hw])
          have hp := put10k_own t oK1 hiK
          have HP : Hid ((put10k W1 g i t).ownsRow B 67 10 (.slice (some ⟨g, 0, none⟩) n c) n (tes (K.set i t)) ∧ w.grownBy (put10k W1 g i t) (some g)) := ⟨hp.1, grown_trans HG1.out hp.2⟩
          obtain ⟨c0, c1, c2, c3, c4, c5, c6, c7, c8, c9⟩ := tz_at oK1 (List.getElem?_eq_getElem hiK)
          have fz := oK1.frozenAt
          obtain ⟨d0, d1, d2, d3, d4, d5, d6, d7, d8, d9⟩ := hcb.below hb1
          clear oK1 hw hp
          go_wp2_with fail
          go_roundw
          case rel => exact ⟨i + 1, j + 1, by go_num, by go_num, by omega, by omega, HP.out.2, K.set i t, HF.out.1, HF.out.2.1, HF.out.2.2.1, HF.out.2.2.2, HP.out.1⟩
          case measure => simp [intOf]; omega
      · obtain rfl : j = n := by omega
        have j1 : ¬ (j : Int) < (j : Int) := by omega
        have i0 : (0 : Int) ≤ (i : Int) := by omega
        have i1 : (i : Int) ≤ (j : Int) := by omega
        have i2 : ¬ c = i := by omega
        have i3 : (j : Int) ≤ (c : Int) := by omega
        have i4 : (i : Int) ≤ (c : Int) := by omega
        obtain ⟨Z, hZ⟩ : ∃ Z : List Value, ∀ ty, (Builtin.clear_ #[26] ty #[.slice (some ⟨g, i * 10, none⟩) (j - i) (c - i)]).run Tryz.prog wr = .ok (.tuple #[]) (wr.setCells g (i * 10) Z) := by
          have hce : ∀ m, m < (j - i) * 10 → (wr.cell? ⟨g, i * 10 + m, none⟩).isSome = true := fun m hm => by
            rw [oK.cellAt (i * 10 + m) (by omega)]
            have hl := oK.1
            rw [List.getElem?_eq_getElem (by omega)]
            rfl
          obtain ⟨Z, hZ⟩ := clear10 wr 0 g (i * 10) (j - i) (c - i) (by omega) hce (fun m _ => oK.frozenAt _)
          exact ⟨Z, fun _ => hZ⟩
        obtain ⟨ys, oy, ey, gy⟩ := setCells_own Z (i * 10) oK
        have HE : Hid (((L.filter q).length = i) ∧ (wr.setCells g (i * 10) Z).ownsRow B 67 10 (.slice (some ⟨g, 0, none⟩) i c) i (tes (L.filter q)) ∧ w.grownBy (wr.setCells g (i * 10) Z) (some g)) := by
          have eL : L.take j = L := List.take_of_length_le (by rw [HN.out]; exact Nat.le_refl _)
          rw [eL] at e1 e2
          refine ⟨e2, ?_, grown_trans hg gy⟩
          have := own_cut (i := i) (by omega) oy
          rw [ey, tes_take, e1] at this
          exact this
        clear oK oy ey gy e1 e2 e3 e4 hg
        go_wp2_with fail
        go_ret
        exact ⟨i, rfl, HE.out.1, HE.out.2.1, HE.out.2.2⟩
end Go.Proofs.YtecgjlpmmailjaaGreatDoor
