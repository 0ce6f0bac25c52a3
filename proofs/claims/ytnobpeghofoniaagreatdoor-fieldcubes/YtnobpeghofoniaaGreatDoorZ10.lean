import Derived.Test.YtnobpeghofoniaaGreatDoorZ9
import Derived.Deep.RegionLaw
import Derived.Deep.AppendLies
namespace Go.Proofs.YtnobpeghofoniaaGreatDoor
open Go.RowKit Go.Shelf
theorem cell4_set (W : World) (b : Nat) (v : Value) : (W.setCell ⟨b, 6, none⟩ v).cell? ⟨b, 4, none⟩ = W.cell? ⟨b, 4, none⟩ := World.cell?_setCell_other _ _ _ _ (by simp)
theorem MS.grb {X : MX} {W W5 : World} {now fst line head : Nat} {v : Value} {D : List Tok} (h : MS X W now fst line head v D) (hg : W.grownBy W5 v.ownBlock) :
    W5.heap[X.b]? = some (.cells (mcells X now fst line head v) 157 (0, 0)) ∧ W5.heap[X.g]? = some (.cells X.gc 178 X.gf) ∧ Below X.w0.heap.size X.w0 W5 :=
  ⟨(hg.block X.b (lt_of_get h.blk) (fun e => own_not h.own h.blk (by decide) e.symm)).trans h.blk, (hg.block X.g (lt_of_get h.gk) (fun e => own_not h.own h.gk (by decide) e.symm)).trans h.gk, h.bel.grown hg h.bel.size (fun k e => (h.own.lt k e).1)⟩
theorem MS.after {X : MX} {W W5 : World} {now fst line head : Nat} {v : Value} {D : List Tok} (h : MS X W now fst line head v D) (hg : W.grownBy W5 v.ownBlock) :
    W5.cell? ⟨X.b, 6, none⟩ = some v ∧ W5.cell? ⟨X.b, 4, none⟩ = some (.int .i64 (line : Int)) ∧ W5.frozen? ⟨X.b, 6, none⟩ = false := by
  have hb := (h.grb hg).1
  exact ⟨cell_of_row W5 X.b 6 _ _ _ hb, cell_of_row W5 X.b 4 _ _ _ hb, by simp [World.frozen?, hb]⟩
theorem MS.hand {X : MX} (hC : MC X) {W W5 : World} {now fst line head : Nat} {v : Value} {D : List Tok} (h : MS X W now fst line head v D) {t : Tok} {g5 c5 : Nat}
    (ho : W5.ownsRow X.w0.heap.size 127 4 (.slice (some ⟨g5, 0, none⟩) (D.length + 1) c5) (D.length + 1) (tcels D ++ tcel t)) (hg : W.grownBy W5 v.ownBlock) :
    MS X (W5.setCell ⟨X.b, 6, none⟩ (.slice (some ⟨g5, 0, none⟩) (D.length + 1) c5)) now fst line head (.slice (some ⟨g5, 0, none⟩) (D.length + 1) c5) (D ++ [t]) := by
  obtain ⟨hb, hgg, hbel⟩ := h.grb hg
  refine ⟨?_, (heap_setCell_other W5 ⟨X.b, 6, none⟩ X.g _ h.bg).trans hgg, ?_, hbel.setCell (p := ⟨X.b, 6, none⟩) hC.bB _⟩
  · rw [heap_setCell_same W5 X.b 6 _ _ _ hb]; rfl
  · rw [List.length_append, tcels_snoc]
    exact ownsRow_setCell_other ho (a := ⟨X.b, 6, none⟩) (own_not ho hb (by decide)) _
set_option maxRecDepth 100000 in
set_option maxHeartbeats 2000000 in
theorem hand_any {X : MX} (hC : MC X) {W : World} {now fst line head : Nat} {v : Value} {D : List Tok} (h : MS X W now fst line head v D) (kind : Nat) (t : List UInt8) (ch : Nat) (hh : head ≤ ch) (hm : ch ≤ 16384) (hD : D.length ≤ 65536) :
    Calls Tryz.prog 153 #[.pointer (some ⟨X.b, 0, none⟩), .int .i64 (kind : Int), .string ⟨t.toArray⟩, .int .i64 (ch : Int)] W fun e w' => e = .returned (.tuple #[]) ∧ ∃ v', MS X w' now fst line head v' (D ++ [(kind, t, line, ch - head + 1)]) := by
  obtain ⟨i0, hi, hz0, hz1, hz2⟩ := info_parts info_tok
  have hc4 := h.c4
  have hc6 := h.c6
  have f6 := h.fz 6
  have HCol := column_any h.drew hh hm
  have hB := h.bel.size
  obtain ⟨c, hc⟩ : ∃ c, ch - head + 1 = c := ⟨_, rfl⟩
  rw [hc] at HCol ⊢
  have hown := h.own
  have hownd := h.drew.own
  obtain ⟨qv, cv, rfl⟩ := shapeP hown
  have hM : Hid (MS X W now fst line head (.slice qv D.length cv) D) := h
  have hbs : X.b < W.heap.size := lt_of_get h.blk
  clear hc h hh hm
  go_enter Tryz.func153, Tryz.ntmps153
  go_wp2_with fail
  go_region_law ((first | (refine step_append_lies _ (by rfl) _ _ 123 (by rfl) X.w0.heap.size 127 i0 _ 4 40 Tryz.underlying123 hi hz0 hz1 hz2 rfl (by decide) _ D.length (tcels D) (by rfl) (by first | exact hownd.alloc _ | exact hown.alloc _) ⟨W.heap.size, 0, none⟩ 1 1 (tcel (kind, t, line, c)) (by rfl) rfl (World.news_of_block (cs := #[.int .i64 (kind : Int), .string ⟨t.toArray⟩, .int .i64 (line : Int), .int .i64 (c : Int)]) (t := 127) (fr := (0, 0)) (heap_alloc_new _ _)) (by simp [tcel, Value.oneCell']) (by decide) (by unfold maxLen; omega) (by omega) (by simp; omega) _ rfl ?_; intro g5 c5 w5 oB hg5 _ _; obtain ⟨y6, y4, z6⟩ := (MS.drew (MS.alloc hM.out _)).after hg5; clear hc4 hc6) | (go_simp; go_at_call 115; refine HCol.mono ?_; rintro e w1 ⟨rfl, rfl⟩)))
  all_goals
    go_wp2_with fail
    go_end0
    exact ⟨rfl, _, MS.hand hC (MS.drew (MS.alloc hM.out _)) oB hg5⟩
end Go.Proofs.YtnobpeghofoniaaGreatDoor
