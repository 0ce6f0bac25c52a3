import Derived.Test.YtecgjlpmmailjaaGreatDoorXAI
import Derived.Test.YtecgjlpmmailjaaGreatDoorXAJ
import Derived.Laws.MakeOwn
namespace Go.Proofs.YtecgjlpmmailjaaGreatDoor
open Go.RowKit
theorem down_any {A : List (List UInt8)} {X : Nat → Prop} {J : List (List UInt8) → Option Nat → World → Prop} {Jx : World → Prop} {N0 l m nb bm K nf : Nat} {room : Int} (hJ : JY X N0 J) (hY : YLD A X J Jx l m nb) (hbm : N0 ≤ bm) (hK : K ≤ 100000) (hnf : nf ≤ 4096) : ∀ (L : List (List UInt8)), gdW nb L → L.length < K → DWN A X J Jx nb l bm K nf room L
  | [], _, hl => fun c M o r p k W gc hc h hm hr hMr hrm _ _ hol hpa => down_nil hJ hY hbm hK c M o r p k W gc hc h hm hr hl (few_of hMr hrm 0 (Nat.le_refl _)) (by have := few_of hMr hrm 0 (Nat.le_refl _); omega) hpa
  | d :: L, hg, hl => down_cons hJ hbm hK d L hg hl (down_any hJ hY hbm hK hnf L (fun x hx => hg x (List.mem_cons_of_mem _ hx)) (by rw [List.length_cons] at hl; omega))
theorem YK.fresh {X : Nat → Prop} {r r' : Option Nat} {W W1 W2 : World} {b : Nat} (h1 : YK X r W r W1) (h2 : YK (XB X b) r W1 r' W2) (hb : W.heap.size ≤ b) : YK X r W r' W2 := ⟨Nat.le_trans h1.1 h2.1, fun k hk hx hr => by
  obtain ⟨a1, a2⟩ := h1.2 k hk hx hr
  obtain ⟨b1, b2⟩ := h2.2 k (Nat.lt_of_lt_of_le hk h1.1) (by rintro (h | rfl); exact hx h; omega) a2
  exact ⟨b1.trans a1, b2⟩⟩
/-- a row of terms that is none of the caller's own lies there, their lists too -/
def TRC (W : World) (X : Nat → Prop) (r : Option Nat) (p : Option Addr) (Z : List ZT) : Prop := ∀ (i : Nat) (z : ZT), Z[i]? = some z → ∃ g o0, p = some ⟨g, o0, none⟩ ∧ CZ W g (o0 + i * 10) z ∧ ¬ X g ∧ some g ≠ r ∧ RC W X r z.q z.L ∧ z.L.length ≤ z.k
theorem CZ.same {W X : World} {g o : Nat} {z : ZT} (h : CZ W g o z) (hb : X.heap[g]? = W.heap[g]?) : CZ X g o z := by
  have hk : ∀ j, X.cell? ⟨g, j, none⟩ = W.cell? ⟨g, j, none⟩ := fun j => by unfold World.cell?; rw [hb]
  obtain ⟨a0, a1, a2, a3, a4, a5, a6, a7, a8, a9⟩ := h
  exact ⟨(hk _).trans a0, (hk _).trans a1, (hk _).trans a2, (hk _).trans a3, (hk _).trans a4, (hk _).trans a5, (hk _).trans a6, (hk _).trans a7, (hk _).trans a8, (hk _).trans a9⟩
theorem TRC.keep {W W' : World} {X : Nat → Prop} {r r' : Option Nat} {p : Option Addr} {Z : List ZT} (h : TRC W X r p Z) (hy : YK X r W r' W') : TRC W' X r' p Z := fun i z hz => by
  obtain ⟨g, o0, e, c, h1, h2, h3, h4⟩ := h i z hz
  obtain ⟨k1, k2⟩ := hy.2 g (World.block_lt_of_cell? W _ c.1) h1 h2
  exact ⟨g, o0, e, c.same k1, h1, k2, h3.keep hy, h4⟩
theorem RC.more {W : World} {X : Nat → Prop} {r : Option Nat} {p : Option Addr} {L : List (List UInt8)} {b : Nat} (h : RC W X r p L) (hb : ∀ g, W.heap[g]?.isSome = true → g ≠ b) : RC W (XB X b) r p L := fun i z hz => by
  obtain ⟨g, o0, e, c, h1, h2⟩ := h i z hz
  refine ⟨g, o0, e, c, ?_, h2⟩
  rintro (hx | hx)
  · exact h1 hx
  · refine hb g ?_ hx
    have := World.block_lt_of_cell? W _ c.1
    rw [Array.getElem?_eq_getElem this]
    rfl
theorem RC.ofW {W : World} {X : Nat → Prop} {r : Option Nat} {p : Option Addr} {L : List (List UInt8)} {b : Nat} {W' : World} (h : RC W X r p L) (hy : Below W.heap.size W W') (hb : W.heap.size ≤ b) : RC W' (XB X b) r p L := fun i z hz => by
  obtain ⟨g, o0, e, c, h1, h2⟩ := h i z hz
  have hg := World.block_lt_of_cell? W _ c.1
  refine ⟨g, o0, e, c.below hy, ?_, h2⟩
  rintro (hx | hx)
  · exact h1 hx
  · have : g < W.heap.size := hg
    omega
def ctZ (z : ZT) : List UInt8 × List (List UInt8) := (z.c, z.L)
/-- what going through a space's plain cubes ends with -/
def PP (J : List (List UInt8) → Option Nat → World → Prop) (Jx : World → Prop) (Mx : Nat) (Ts : List (List UInt8 × List (List UInt8))) (e : Ending) (W' : World) : Prop := (∃ v r' R, e = .returned v ∧ exE splT Mx [] Ts = some R ∧ J R r' W') ∨ (∃ v, e = .returned v ∧ Jx W') ∨ (e = .panicked [{ v := .iface 81 (.agg #[]), recovered := false }] ∧ exE splT Mx [] Ts = none ∧ ∃ o' r', J o' r' W')
theorem info_int : (Tryz.prog.info? 3).map (fun i => (i.zero, i.size, i.bytes)) = some (some (.int .i64 0), 1, 8) := by kernel_rfl
theorem made_mt (K : Nat) : madeCells (Value.cells (.int .i64 0)) (K * 1) = mtA K (fun _ => 0) := by
  apply Array.ext
  · simp [madeCells, mtA]
  · intro i h1 h2
    simp [madeCells, mtA, Value.cells, Nat.mod_one]
theorem make_ints (K : Nat) (hK : K ≤ 100000) (w : World) : (Instr.makeSlice 23 (.int .i64 (K : Int)) (.int .i64 (K : Int))).run Tryz.prog w = .ok (.slice (some ⟨w.heap.size, 0, none⟩) K K) (w.alloc (.cells (mtA K (fun _ => 0)) 3)) := by
  obtain ⟨i0, hi, hz0, hz1, hz2⟩ := info_parts info_int
  have h := run_make (P := Tryz.prog) w 23 3 i0 _ Tryz.underlying23 hi hz0 .i64 .i64 (K : Int) (K : Int) (by omega) (Int.le_refl _) (by rw [hz2]; omega) (by omega)
  rw [Int.toNat_natCast, hz1, made_mt] at h
  exact h
theorem put3w {W : World} {b T : Nat} {m : Nat × Nat} {x0 x1 x2 : Value} (v0 v1 v2 : Value) (h : W.heap[b]? = some (.cells #[x0, x1, x2] T m)) : (((W.setCell ⟨b, 0, none⟩ v0).setCell ⟨b, 1, none⟩ v1).setCell ⟨b, 2, none⟩ v2).heap[b]? = some (.cells #[v0, v1, v2] T m) := by
  have h0 := set_get (j := 0) v0 h
  have h1 := set_get (j := 1) v1 h0
  have h2 := set_get (j := 2) v2 h1
  rw [h2]
  simp
theorem far3w {W : World} {b c : Nat} {o : Obj} (v0 v1 v2 : Value) (h : W.heap[c]? = some o) (hne : c ≠ b) : (((W.setCell ⟨b, 0, none⟩ v0).setCell ⟨b, 1, none⟩ v1).setCell ⟨b, 2, none⟩ v2).heap[c]? = some o := by
  have h0 := (Below.heap_setCell W ⟨b, 0, none⟩ v0 c hne).trans h
  have h1 := (Below.heap_setCell _ ⟨b, 1, none⟩ v1 c hne).trans h0
  exact (Below.heap_setCell _ ⟨b, 2, none⟩ v2 c hne).trans h1
theorem dok_up {a b : Int} {M : Nat → Nat} {l L : List (List UInt8)} (h : dok splT a M l L) (hab : a ≤ b) : dok splT b M l L := fun j hj => Int.le_trans (h j hj) hab
end Go.Proofs.YtecgjlpmmailjaaGreatDoor
