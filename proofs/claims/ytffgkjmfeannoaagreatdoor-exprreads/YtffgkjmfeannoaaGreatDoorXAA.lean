import Derived.Test.YtffgkjmfeannoaaGreatDoorChecked
import Derived.WalkKit
import Derived.Below
import Derived.BigQuiet
import Derived.OwnWalk
import Derived.Lib.IndexLaws
import Derived.Deep.DeepCutAuto
import Derived.Deep.RegionWith
import Derived.Deep.QuietTactic
import Derived.Lib.DecodeN
import Derived.Lib.MapLaws
namespace Go.Proofs.YtffgkjmfeannoaaGreatDoor
open Go.RowKit
theorem quiet_lit3 {P : Program} {id : Nat} {Q : Exit → Act → World → Prop} {a : Act} {w : World} {l : List Oper} {C : World → Prop} (hm : P.follows .mixedOrders = true) (hB : Region.lexB .any l.toArray = true) (hC : C w.drew)
    (h : wpQuiet P l.toArray C (fun a' => ∀ w', C w' → Q .normal a' w') l a) : (Code.region id l.toArray true).wp P Q a w :=
  wp_region_quiet (C := C) hm hB hC (by simpa using h)

theorem alloc_get (w : World) (o : Obj) : (w.alloc o).heap[w.heap.size]? = some o := by
  show (w.heap.push o)[w.heap.size]? = _
  simp

theorem lt_of_get {w : World} {b : Nat} {o : Obj} (h : w.heap[b]? = some o) : b < w.heap.size := by
  rcases Nat.lt_or_ge b w.heap.size with h1 | h1
  · exact h1
  · rw [Array.getElem?_eq_none h1] at h; cases h

theorem grown_of_below {w w' : World} (h : Below w.heap.size w w') (row : Option Nat) : w.grownBy w' row :=
  ⟨h.os, h.tape, h.output, h.size, fun k hk _ => h.block k hk⟩

theorem owns_below {w w' : World} {base : Nat} {e : TypeId} {size : Nat} {v : Value} {n : Nat} {xs : List Value} (h : w.ownsRow base e size v n xs) (hb : Below w.heap.size w w') : w'.ownsRow base e size v n xs := by
  refine h.kept (grown_of_below hb none) ?_
  cases v.ownBlock <;> simp

theorem bel1 {w w1 : World} {o : Obj} (h : Below (w.alloc o).heap.size (w.alloc o) w1) : Below w.heap.size w w1 :=
  ((Below.refl _ _).alloc (Nat.le_refl _) _).trans (h.mono (by simp))
theorem bel0 {w w1 w2 : World} (h : Below w.heap.size w w1) (h2 : Below w1.heap.size w1 w2) : Below w.heap.size w w2 := h.trans (h2.mono h.size)
theorem keepblk {W w' : World} {b : Nat} {o : Obj} (hb : Below W.heap.size W w') (h : W.heap[b]? = some o) : w'.heap[b]? = some o := (hb.block b (lt_of_get h)).trans h
theorem allocblk {W : World} {b : Nat} {o : Obj} (h : W.heap[b]? = some o) (O : Obj) : (W.alloc O).heap[b]? = some o := (Below.heap_alloc _ _ _ (lt_of_get h)).trans h

theorem shapeP {W : World} {B n : Nat} {e : TypeId} {v : Value} {xs : List Value} {sz : Nat} (h : W.ownsRow B e sz v n xs) : ∃ p c, v = .slice p n c := by
  rcases h.2 with ⟨rfl, rfl⟩ | ⟨g, c, _, rfl, _⟩
  · exact ⟨_, _, rfl⟩
  · exact ⟨_, _, rfl⟩
theorem bel_drewN {B : Nat} {w W : World} (n : Nat) (h : Below B w W) : Below B w (W.drewN n) := h.trans ⟨rfl, rfl, rfl, Nat.le_refl _, fun _ _ => rfl⟩
theorem cat_bytes (a b : List UInt8) : (ByteArray.mk a.toArray) ++ (ByteArray.mk b.toArray) = ⟨(a ++ b).toArray⟩ := ByteArray.ext (by simp)
theorem byte_get (l : List UInt8) (k : Nat) (h : k < l.length) : ∃ c, (∀ h', (ByteArray.mk l.toArray)[k]'h' = c) ∧ l[k]? = some c := ⟨l[k], fun _ => rfl, List.getElem?_eq_getElem h⟩
theorem u8_ne {c d : UInt8} (h : c ≠ d) : ((c.toNat : Int) == (d.toNat : Int)) = false := by
  rw [beq_eq_false_iff_ne]
  intro e
  exact h (UInt8.toNat_inj.1 (by omega))
def optI : Option Nat → Int
  | some v => v
  | none => -1
theorem ext_drop (l : List UInt8) (i : Nat) : (ByteArray.mk l.toArray).extract i l.length = ⟨(l.drop i).toArray⟩ := ByteArray.ext (by simp; exact List.take_of_length_le (by simp))
def bt (l : List UInt8) (i : Nat) : Nat := (l.getD i 0).toNat
def dc (l : List UInt8) (i : Nat) : Nat × Nat := Lib.decodeN (l.length - i) (bt l i) (bt l (i + 1)) (bt l (i + 2)) (bt l (i + 3))
theorem bt_lt (l : List UInt8) (i : Nat) : bt l i < 256 := UInt8.toNat_lt _
theorem bt_of {l : List UInt8} {i : Nat} {c : UInt8} (h : l[i]? = some c) : bt l i = c.toNat := by simp [bt, List.getD, h]
theorem dc_decode (l : List UInt8) (i : Nat) : Utf8.decode ⟨l.toArray⟩ i = dc l i := by
  have hg : ∀ j, (ByteArray.mk l.toArray).get! j = l.getD j 0 := by
    intro j
    simp [ByteArray.get!, List.getD, Array.getElem!_eq_getD]
    rfl
  rw [Lib.decode_at, hg, hg, hg, hg]
  unfold dc bt
  rw [show (ByteArray.mk l.toArray).size = l.length by simp [ByteArray.size]]
def wi (l : List UInt8) (j lo hi : Nat) : Bool := decide (j < l.length) && (decide (lo ≤ bt l j) && decide (bt l j ≤ hi))
set_option maxRecDepth 100000 in
theorem within_any (l : List UInt8) (j lo hi : Nat) (J : Int) (hJ : J = (j : Int)) (w : World) :
    Calls Tryz.prog 85 #[.string ⟨l.toArray⟩, .int .i64 J, .int .u8 (lo : Int), .int .u8 (hi : Int)] w fun e w' => e = .returned (.bool (wi l j lo hi)) ∧ w' = w := by
  subst hJ
  by_cases h1 : j < l.length
  · obtain ⟨c, hc, hlc⟩ := byte_get l j h1
    have hb := bt_of hlc
    have i1 : (j : Int) < (l.length : Int) := by omega
    have i0 : (0 : Int) ≤ (j : Int) := by omega
    by_cases h2 : lo ≤ c.toNat
    · have i2 : (lo : Int) ≤ (c.toNat : Int) := by omega
      by_cases h3 : c.toNat ≤ hi
      · have i3 : (c.toNat : Int) ≤ (hi : Int) := by omega
        have hw : Hid (wi l j lo hi = true) := by unfold Hid wi; rw [hb]; simp [h1, h2, h3]
        clear hb
        go_enter Tryz.func85, Tryz.ntmps85
        go_wp2
        go_ret
        exact ⟨by rw [hw.out]; rfl, rfl⟩
      · have i3 : ¬ (c.toNat : Int) ≤ (hi : Int) := by omega
        have hi3 : Hid (decide ((c.toNat : Int) ≤ (hi : Int)) = false) := decide_eq_false i3
        have hw : Hid (wi l j lo hi = false) := by unfold Hid wi; rw [hb]; simp [h1, h2, h3]
        clear hb
        go_enter Tryz.func85, Tryz.ntmps85
        go_wp2
        go_ret
        exact ⟨by rw [hw.out]; first | rfl | (rw [hi3.out]; rfl), rfl⟩
    · have i2 : ¬ (lo : Int) ≤ (c.toNat : Int) := by omega
      have hw : Hid (wi l j lo hi = false) := by unfold Hid wi; rw [hb]; simp [h2]
      clear hb
      go_enter Tryz.func85, Tryz.ntmps85
      go_wp2
      go_ret
      exact ⟨by rw [hw.out]; rfl, rfl⟩
  · have i1 : ¬ (j : Int) < (l.length : Int) := by omega
    have hw : Hid (wi l j lo hi = false) := by unfold Hid wi; simp [h1]
    go_enter Tryz.func85, Tryz.ntmps85
    go_wp2
    go_ret
    exact ⟨by rw [hw.out]; rfl, rfl⟩
def lo1 (l : List UInt8) (i : Nat) : Bool := decide (dc l i = (65533, 1))
set_option maxRecDepth 100000 in
set_option maxHeartbeats 4000000 in
theorem size_tab (n b0 b1 b2 b3 : Nat) (h0 : b0 < 256) (h1 : b1 < 256) (h2 : b2 < 256) (h3 : b3 < 256) :
    ((Lib.decodeN n b0 b1 b2 b3).2, decide (Lib.decodeN n b0 b1 b2 b3 = (65533, 1))) =
      if b0 < 128 then (1, false)
      else if 194 ≤ b0 ∧ b0 ≤ 223 ∧ (1 < n ∧ 128 ≤ b1 ∧ b1 ≤ 191) then (2, false)
      else if b0 = 224 ∧ (1 < n ∧ 160 ≤ b1 ∧ b1 ≤ 191) ∧ (2 < n ∧ 128 ≤ b2 ∧ b2 ≤ 191) then (3, false)
      else if b0 = 237 ∧ (1 < n ∧ 128 ≤ b1 ∧ b1 ≤ 159) ∧ (2 < n ∧ 128 ≤ b2 ∧ b2 ≤ 191) then (3, false)
      else if 225 ≤ b0 ∧ b0 ≤ 239 ∧ b0 ≠ 237 ∧ (1 < n ∧ 128 ≤ b1 ∧ b1 ≤ 191) ∧ (2 < n ∧ 128 ≤ b2 ∧ b2 ≤ 191) then (3, false)
      else if b0 = 240 ∧ (1 < n ∧ 144 ≤ b1 ∧ b1 ≤ 191) ∧ (2 < n ∧ 128 ≤ b2 ∧ b2 ≤ 191) ∧ (3 < n ∧ 128 ≤ b3 ∧ b3 ≤ 191) then (4, false)
      else if 241 ≤ b0 ∧ b0 ≤ 243 ∧ (1 < n ∧ 128 ≤ b1 ∧ b1 ≤ 191) ∧ (2 < n ∧ 128 ≤ b2 ∧ b2 ≤ 191) ∧ (3 < n ∧ 128 ≤ b3 ∧ b3 ≤ 191) then (4, false)
      else if b0 = 244 ∧ (1 < n ∧ 128 ≤ b1 ∧ b1 ≤ 143) ∧ (2 < n ∧ 128 ≤ b2 ∧ b2 ≤ 191) ∧ (3 < n ∧ 128 ≤ b3 ∧ b3 ≤ 191) then (4, false)
      else (1, true) := by
  have two : ∀ a k : Nat, k ≠ 1 → ((a, k).2, decide ((a, k) = (65533, 1))) = (k, false) := fun a k hk => by simp [hk]
  have bad : (((65533, 1) : Nat × Nat).2, decide (((65533, 1) : Nat × Nat) = (65533, 1))) = (1, true) := by simp
  have asc : ∀ a : Nat, a < 128 → ((a, 1).2, decide ((a, 1) = (65533, 1))) = (1, false) := fun a ha => by simp; omega
  rcases Lib.decodeN_shape n b0 b1 b2 b3 with ⟨a1, e⟩ | ⟨a1, a2, a3, a4, e⟩ | ⟨a1, a2, a3, a4, a5, a6, e⟩ | ⟨a1, a2, a3, a4, a5, a6, a7, e⟩ | e
  · rw [e, if_pos a1, asc _ a1]
  · rw [e, two _ _ (by decide), if_neg (by omega), if_pos (by omega)]
  · rw [e, two _ _ (by decide), if_neg (by omega), if_neg (by omega)]
    repeat' split
    all_goals first | rfl | (exfalso; omega)
  · rw [e, two _ _ (by decide), if_neg (by omega), if_neg (by omega), if_neg (by omega), if_neg (by omega), if_neg (by omega)]
    repeat' split
    all_goals first | rfl | (exfalso; omega)
  · rw [e, bad]
    have hb : ¬ b0 < 128 := fun h => by
      unfold Lib.decodeN at e
      rw [if_pos h] at e
      injection e with e1 _
      omega
    rw [if_neg hb]
    unfold Lib.decodeN at e
    rw [if_neg hb] at e
    repeat' split
    all_goals first | rfl | skip
    all_goals (exfalso; revert e; repeat' split)
    all_goals first | (intro e; injection e with e1 e2; omega) | (intro _; omega)
end Go.Proofs.YtffgkjmfeannoaaGreatDoor
