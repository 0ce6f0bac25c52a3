import Derived.Test.YtkmnonkabekclaaDoorLP
import Derived.RegionIn
import Derived.Deep.RegionHeld3
namespace Go.Proofs.YtkmnonkabekclaaDoor
open Go.RowKit Go.Shelf
theorem info_rec : (Tryd.prog.info? 35).map (fun i => (i.zero, i.size, i.bytes)) = some (some (.agg #[.int .i64 0, .int .i64 0, .string ⟨#[]⟩]), 3, 32) := by kernel_rfl
def rcC (r : Rec) : List Value := [.int .i64 (r.seq : Int), .int .i64 (r.kind : Int), .string ⟨r.text.toArray⟩]
/-- a row of records, cell by cell -/
def rcs (L : List Rec) : List Value := L.flatMap rcC
theorem rcs_snoc (L : List Rec) (r : Rec) : rcs (L ++ [r]) = rcs L ++ rcC r := by simp [rcs]
theorem rcs_len (L : List Rec) : (rcs L).length = 3 * L.length := by
  induction L with
  | nil => rfl
  | cons r L ih =>
    have e : rcs (r :: L) = rcC r ++ rcs L := rfl
    rw [e, List.length_append, ih, List.length_cons]
    show 3 + _ = _
    omega
/-- records of one's own -/
def OR (W : World) (B : Nat) (v : Value) (L : List Rec) : Prop := W.ownsRow B 35 3 v L.length (rcs L)
theorem OR.below {W X : World} {B : Nat} {v : Value} {L : List Rec} (h : OR W B v L) (hb : Below W.heap.size W X) : OR X B v L := own_belZ h hb
theorem OR.base {W : World} {A B : Nat} {v : Value} {L : List Rec} (h : OR W B v L) (hA : A ≤ B) : OR W A v L := own_baseZ h hA
theorem OR.shape {W : World} {B : Nat} {v : Value} {L : List Rec} (h : OR W B v L) : ∃ p c, v = .slice p L.length c := shapeZ h
set_option maxRecDepth 100000 in
set_option maxHeartbeats 1000000000 in
theorem why_any (D : List UInt8) (p : Option Addr) (n c : Nat) (w : World) (hn : D.length = n) (hL : n ≤ 100000000) (hc : n ≤ c) (hr : BR w p D) :
    Calls Tryd.prog 33 #[.slice p n c, .int .i64 (plc D (whL 1 D).length : Int)] w fun e w' => e = .returned (.int .i64 (whE 1 D : Int)) ∧ Below w.heap.size w w' := by
  have hE := whE_at _ 1 D rfl
  have ep : whB (whL 1 D) = plc D (whL 1 D).length := by unfold plc; rw [List.take_length]
  rw [ep, List.length_drop, hn] at hE
  have hrc := rc_at (D := D) (k := (whL 1 D).length) (Nat.le_refl _)
  have hle := plc_le (D := D) (k := (whL 1 D).length) (Nat.le_refl _)
  rw [hn] at hle
  have HRD : Hid (Calls Tryd.prog 13 #[.slice p n c, .int .i64 (plc D (whL 1 D).length : Int)] w (RDQ D (plc D (whL 1 D).length : Int) w)) := read_any D p n c _ w hn (by omega) hc hr
  generalize plc D (whL 1 D).length = a at *
  generalize whE 1 D = F at *
  by_cases h0 : a = n
  · rw [if_pos (by omega)] at hE
    subst hE
    have e0 : ((a : Int) == (n : Int)) = true := by simp [h0]
    clear hr hn ep HRD
    go_enter Tryd.func33, Tryd.ntmps33
    go_wp2_with fail
    go_ret
    exact ⟨rfl, Below.refl _ _⟩
  · rw [if_neg (by omega), ← hrc] at hE
    have e0 : ((a : Int) == (n : Int)) = false := by simp; omega
    obtain ⟨E, hEe⟩ : ∃ E, rcE D a = E := ⟨_, rfl⟩
    obtain ⟨R, hR⟩ : ∃ R, rcR D a = R := ⟨_, rfl⟩
    obtain ⟨NX, hNX⟩ : ∃ NX, rcN D a = NX := ⟨_, rfl⟩
    have HQ : Hid (Calls Tryd.prog 13 #[.slice p n c, .int .i64 a] w fun e w' => e = .returned (.tuple #[.agg #[.int .i64 (R.seq : Int), .int .i64 (R.kind : Int), .string ⟨R.text.toArray⟩], .int .i64 NX, .int .i64 (E : Int)]) ∧ Below w.heap.size w w') := by
      refine HRD.out.mono ?_
      rintro e w' ⟨h1, h2⟩
      rw [hR, hNX, hEe] at h1
      exact ⟨h1, h2⟩
    rw [hEe] at hE
    clear hr hn ep HRD hR hNX hEe hrc
    obtain ⟨rs, rk, rt⟩ := R
    simp only at HQ
    by_cases hE0 : E = 0
    · rw [if_pos hE0] at hE
      subst hE hE0
      go_enter Tryd.func33, Tryd.ntmps33
      go_wp2_with fail
      refine HQ.out.mono ?_
      rintro e W2 ⟨rfl, b2⟩
      go_wp2_with fail
      go_ret
      exact ⟨rfl, belAZ b2 _⟩
    · rw [if_neg hE0] at hE
      subst hE
      have e1 : ((F : Int) != 0) = true := by simp only [bne_iff_ne, ne_eq]; omega
      go_enter Tryd.func33, Tryd.ntmps33
      go_wp2_with fail
      refine HQ.out.mono ?_
      rintro e W2 ⟨rfl, b2⟩
      go_wp2_with fail
      go_ret
      exact ⟨rfl, belAZ b2 _⟩
/-- what lies there while the records are gathered -/
structure XW (w : World) (S : Nat) (D : List UInt8) (p : Option Addr) (n c : Nat) (R : Loop) (k : Nat) (W : World) : Prop where
  bx : ∃ v, W.heap[S]? = some (.cells #[v] 40 (0, 0)) ∧ OR W (S + 1 + 1 + 1 + 1 + 1) v ((whL 1 D).take k)
  bn : W.heap[S + 1]? = some (.cells #[.int .i64 (plc D k : Int)] 3 (0, 0))
  bd : W.heap[S + 1 + 1]? = some (.cells #[.slice p n c] 31 (0, 0))
  a3 : W.heap[S + 1 + 1 + 1]? = some (.deferred (some []))
  a4 : W.heap[S + 1 + 1 + 1 + 1]? = some (.loop R)
  be : Below S w W
  sz : w.heap.size = S
theorem XW.below {w : World} {S : Nat} {D : List UInt8} {p : Option Addr} {n c : Nat} {R : Loop} {k : Nat} {W W' : World} (h : XW w S D p n c R k W) (hb : Below W.heap.size W W') : XW w S D p n c R k W' := by
  obtain ⟨⟨v, h1, h2⟩, bn, bd, a3, a4, be, sz⟩ := h
  refine ⟨⟨v, keepZ hb h1, h2.below hb⟩, keepZ hb bn, keepZ hb bd, keepZ hb a3, keepZ hb a4, ?_, sz⟩
  rw [← sz] at be ⊢
  exact bel0Z be hb
theorem put_otherZ {W : World} {b c : Nat} {o o' : Obj} (h : W.heap[c]? = some o) (hne : c ≠ b) : (W.putObj b o').heap[c]? = some o := (World.putObj_heap_other hne).trans h
theorem XW.loop {w : World} {S : Nat} {D : List UInt8} {p : Option Addr} {n c : Nat} {R : Loop} {k : Nat} {W : World} (h : XW w S D p n c R k W) (R' : Loop) : XW w S D p n c R' k (W.putObj (S + 1 + 1 + 1 + 1) (.loop R')) := by
  obtain ⟨⟨v, h1, h2⟩, bn, bd, a3, a4, be, sz⟩ := h
  have hn : S ≤ W.heap.size := by have := lt_getZ a4; omega
  refine ⟨⟨v, put_otherZ h1 (by omega), World.ownsRow.kept h2 (grownBy_putObj' W _ _) (.inr (fun e => by have := (World.ownsRow.lt h2 _ e).1; omega))⟩, put_otherZ bn (by omega), put_otherZ bd (by omega), put_otherZ a3 (by omega), World.putObj_heap_same (lt_getZ a4), be.grown (grownBy_putObj' W _ _) hn (fun x e => by cases e; omega), sz⟩
end Go.Proofs.YtkmnonkabekclaaDoor
