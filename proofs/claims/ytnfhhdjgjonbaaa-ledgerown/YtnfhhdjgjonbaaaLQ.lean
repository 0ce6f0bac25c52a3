import Derived.Test.YtnfhhdjgjonbaaaLP
import Derived.RegionIn
import Derived.Deep.RegionHeld3
namespace Go.Proofs.Ytnfhhdjgjonbaaa
open Go.RowKit Go.Shelf
theorem info_rec : (Try.prog.info? 29).map (fun i => (i.zero, i.size, i.bytes)) = some (some (.agg #[.int .i64 0, .int .i64 0, .string ⟨#[]⟩]), 3, 32) := by kernel_rfl
def rcC (r : Rec) : List Value := [.int .i64 (r.seq : Int), .int .i64 (r.kind : Int), .string ⟨r.text.toArray⟩]
/-- a row of records, cell by cell -/
def rcs (L : List Rec) : List Value := L.flatMap rcC
theorem rcs_snoc (L : List Rec) (r : Rec) : rcs (L ++ [r]) = rcs L ++ rcC r := by simp [rcs]
theorem rcs_len (L : List Rec) : (rcs L).length = 3 * L.length := by
  induction L with
  | nil => rfl
  | cons r L ih =>
    have e : rcs (r :: L) = rcC r ++ rcs L := rfl
    rw [e, List.length_append, ih, List.length_cons]
    show 3 + _ = _
    omega
/-- records of one's own -/
def OR (W : World) (B : Nat) (v : Value) (L : List Rec) : Prop := W.ownsRow B 29 3 v L.length (rcs L)
theorem OR.below {W X : World} {B : Nat} {v : Value} {L : List Rec} (h : OR W B v L) (hb : Below W.heap.size W X) : OR X B v L := own_belZ h hb
theorem OR.base {W : World} {A B : Nat} {v : Value} {L : List Rec} (h : OR W B v L) (hA : A ≤ B) : OR W A v L := own_baseZ h hA
theorem OR.shape {W : World} {B : Nat} {v : Value} {L : List Rec} (h : OR W B v L) : ∃ p c, v = .slice p L.length c := shapeZ h
/-- what lies there while the records are gathered -/
structure XW (w : World) (S : Nat) (D : List UInt8) (p : Option Addr) (n c : Nat) (R : Loop) (k : Nat) (W : World) : Prop where
  bx : ∃ v, W.heap[S]? = some (.cells #[v] 25 (0, 0)) ∧ OR W (S + 1 + 1 + 1 + 1 + 1) v ((whL 1 D).take k)
  bn : W.heap[S + 1]? = some (.cells #[.int .i64 (plc D k : Int)] 3 (0, 0))
  bd : W.heap[S + 1 + 1]? = some (.cells #[.slice p n c] 30 (0, 0))
  a3 : W.heap[S + 1 + 1 + 1]? = some (.deferred (some []))
  a4 : W.heap[S + 1 + 1 + 1 + 1]? = some (.loop R)
  be : Below S w W
  sz : w.heap.size = S
theorem XW.below {w : World} {S : Nat} {D : List UInt8} {p : Option Addr} {n c : Nat} {R : Loop} {k : Nat} {W W' : World} (h : XW w S D p n c R k W) (hb : Below W.heap.size W W') : XW w S D p n c R k W' := by
  obtain ⟨⟨v, h1, h2⟩, bn, bd, a3, a4, be, sz⟩ := h
  refine ⟨⟨v, keepZ hb h1, h2.below hb⟩, keepZ hb bn, keepZ hb bd, keepZ hb a3, keepZ hb a4, ?_, sz⟩
  rw [← sz] at be ⊢
  exact bel0Z be hb
theorem put_otherZ {W : World} {b c : Nat} {o o' : Obj} (h : W.heap[c]? = some o) (hne : c ≠ b) : (W.putObj b o').heap[c]? = some o := (World.putObj_heap_other hne).trans h
theorem XW.loop {w : World} {S : Nat} {D : List UInt8} {p : Option Addr} {n c : Nat} {R : Loop} {k : Nat} {W : World} (h : XW w S D p n c R k W) (R' : Loop) : XW w S D p n c R' k (W.putObj (S + 1 + 1 + 1 + 1) (.loop R')) := by
  obtain ⟨⟨v, h1, h2⟩, bn, bd, a3, a4, be, sz⟩ := h
  have hn : S ≤ W.heap.size := by have := lt_getZ a4; omega
  refine ⟨⟨v, put_otherZ h1 (by omega), World.ownsRow.kept h2 (grownBy_putObj' W _ _) (.inr (fun e => by have := (World.ownsRow.lt h2 _ e).1; omega))⟩, put_otherZ bn (by omega), put_otherZ bd (by omega), put_otherZ a3 (by omega), World.putObj_heap_same (lt_getZ a4), be.grown (grownBy_putObj' W _ _) hn (fun x e => by cases e; omega), sz⟩
end Go.Proofs.Ytnfhhdjgjonbaaa
