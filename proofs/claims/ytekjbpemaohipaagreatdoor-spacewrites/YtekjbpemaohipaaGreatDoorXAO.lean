import Derived.Test.YtekjbpemaohipaaGreatDoorXAJ
import Derived.Test.YtekjbpemaohipaaGreatDoorXAN
import Derived.Shelf.Small.Strs
import Derived.Shelf.Small.Bits
import Derived.Ground.NamesProg
import Derived.Test.YtekjbpemaohipaaGreatDoorProg
namespace Go.Proofs.YtekjbpemaohipaaGreatDoor
open Go.RowKit Go.Shelf
/-- a cube with its text -/
def nm (t : List UInt8) : List Value := [.string ⟨t.toArray⟩, .int .i64 (t.length : Int), .int .u64 (FW t 0 : Int), .int .u64 (FW t 1 : Int), .int .u64 (FW t 2 : Int), .int .u64 (FW t 3 : Int), .int .u64 (OW t 0 : Int), .int .u64 (OW t 1 : Int), .int .u64 (OW t 2 : Int), .int .u64 (OW t 3 : Int)]
def nms (l : List (List UInt8)) : List Value := l.flatMap nm
theorem nms_snoc (l : List (List UInt8)) (t : List UInt8) : nms (l ++ [t]) = nms l ++ nm t := by simp [nms]
theorem nms_len (l : List (List UInt8)) : (nms l).length = l.length * 10 := by
  induction l with
  | nil => rfl
  | cons t l ih => simp only [nms, List.flatMap_cons, List.length_append, List.length_cons] at ih ⊢; rw [ih]; simp [nm]; omega
theorem info_named : (Tryz.prog.info? 107).map (fun i => (i.zero, i.size, i.bytes)) = some (some (.agg #[.string ⟨#[]⟩, .int .i64 0, .int .u64 0, .int .u64 0, .int .u64 0, .int .u64 0, .int .u64 0, .int .u64 0, .int .u64 0, .int .u64 0]), 10, 88) := by kernel_rfl
set_option maxRecDepth 100000 in
set_option maxHeartbeats 1000000 in
theorem byText_any (a b : List UInt8) (w : World) : Calls Tryz.prog 62 #[.agg #[.string ⟨a.toArray⟩, .int .i64 (a.length : Int), .int .u64 (FW a 0 : Int), .int .u64 (FW a 1 : Int), .int .u64 (FW a 2 : Int), .int .u64 (FW a 3 : Int), .int .u64 (OW a 0 : Int), .int .u64 (OW a 1 : Int), .int .u64 (OW a 2 : Int), .int .u64 (OW a 3 : Int)], .agg #[.string ⟨b.toArray⟩, .int .i64 (b.length : Int), .int .u64 (FW b 0 : Int), .int .u64 (FW b 1 : Int), .int .u64 (FW b 2 : Int), .int .u64 (FW b 3 : Int), .int .u64 (OW b 0 : Int), .int .u64 (OW b 1 : Int), .int .u64 (OW b 2 : Int), .int .u64 (OW b 3 : Int)]] w fun e w' => e = .returned (.int .i64 (Lib.compareBytes a b)) ∧ w' = (w.alloc (.cells #[.string ⟨a.toArray⟩, .int .i64 (a.length : Int), .int .u64 (FW a 0 : Int), .int .u64 (FW a 1 : Int), .int .u64 (FW a 2 : Int), .int .u64 (FW a 3 : Int), .int .u64 (OW a 0 : Int), .int .u64 (OW a 1 : Int), .int .u64 (OW a 2 : Int), .int .u64 (OW a 3 : Int)] 107 (0, 0))).alloc (.cells #[.string ⟨b.toArray⟩, .int .i64 (b.length : Int), .int .u64 (FW b 0 : Int), .int .u64 (FW b 1 : Int), .int .u64 (FW b 2 : Int), .int .u64 (FW b 3 : Int), .int .u64 (OW b 0 : Int), .int .u64 (OW b 1 : Int), .int .u64 (OW b 2 : Int), .int .u64 (OW b 3 : Int)] 107 (0, 0)) := by
  have H1 : ∀ W', Calls Tryz.prog 81 #[.string ⟨a.toArray⟩, .string ⟨b.toArray⟩] W' fun e w' => e = .returned (.int .i64 (Lib.compareBytes a b)) ∧ w' = W' := fun W' => Any.strings_Compare Tryz.l106 ⟨a.toArray⟩ ⟨b.toArray⟩ W'
  generalize Lib.compareBytes a b = r at H1 ⊢
  go_enter Tryz.func62, Tryz.ntmps62
  go_wp2_with (go_at_call 81; refine (H1 _).mono ?_; rintro e w' ⟨rfl, rfl⟩)
  go_ret
  exact ⟨rfl, rfl⟩
/-- the sort of the line behind its first, as it is asked for -/
def SortOK (srt : List (List UInt8) → List (List UInt8)) : Prop := ∀ (L : List (List UInt8)) (x : List UInt8) (n g c B : Nat) (ad : Addr) (W : World), L.length = n → n ≤ 1000000 → W.ownsRow B 107 10 (.slice (some ⟨g, 0, none⟩) (n + 1) c) (n + 1) (nms (x :: L)) → ((n = 0 ∧ ad = ⟨g, 0, none⟩) ∨ ad = ⟨g, 10, none⟩) → Calls Tryz.prog 78 #[.slice (some ad) n (c - 1), .func (.func 62) #[] #[]] W fun e w' => e = .returned (.tuple #[]) ∧ w'.ownsRow B 107 10 (.slice (some ⟨g, 0, none⟩) (n + 1) c) (n + 1) (nms (x :: srt L)) ∧ W.grownBy w' (some g)
set_option maxRecDepth 100000 in
set_option maxHeartbeats 4000000 in
theorem inLine_any (srt : List (List UInt8) → List (List UInt8)) (hso : SortOK srt) (c : List UInt8) (L : List (List UInt8)) (m k : Nat) (q : Option Addr) (w : World) (hm : L.length = m) (hm2 : m ≤ 1000000) (gc : good c = true) (gL : ∀ t ∈ L, good t = true) (hr : IRC w q L) :
    Calls Tryz.prog 58 #[.agg #[.int .i64 (c.length : Int), .int .u64 (FW c 0 : Int), .int .u64 (FW c 1 : Int), .int .u64 (FW c 2 : Int), .int .u64 (FW c 3 : Int), .int .u64 (OW c 0 : Int), .int .u64 (OW c 1 : Int), .int .u64 (OW c 2 : Int), .int .u64 (OW c 3 : Int), .slice q m k]] w fun e w' => ∃ v, e = .returned v ∧ w'.ownsRow w.heap.size 107 10 v (m + 1) (nms (c :: srt L)) ∧ Below w.heap.size w w' := by
  obtain ⟨i0, hi, hz0, hz1, hz2⟩ := info_parts info_named
  obtain ⟨w2, hw2⟩ : ∃ w2, w.alloc (.cells #[.int .i64 (c.length : Int), .int .u64 (FW c 0 : Int), .int .u64 (FW c 1 : Int), .int .u64 (FW c 2 : Int), .int .u64 (FW c 3 : Int), .int .u64 (OW c 0 : Int), .int .u64 (OW c 1 : Int), .int .u64 (OW c 2 : Int), .int .u64 (OW c 3 : Int), .slice q m k] 62 (0, 0)) = w2 := ⟨_, rfl⟩
  have hA : w2.heap[w.heap.size]? = some (.cells #[.int .i64 (c.length : Int), .int .u64 (FW c 0 : Int), .int .u64 (FW c 1 : Int), .int .u64 (FW c 2 : Int), .int .u64 (FW c 3 : Int), .int .u64 (OW c 0 : Int), .int .u64 (OW c 1 : Int), .int .u64 (OW c 2 : Int), .int .u64 (OW c 3 : Int), .slice q m k] 62 (0, 0)) := by rw [← hw2]; exact alloc_get _ _
  have hB2 : Below w.heap.size w w2 := by rw [← hw2]; exact belA (Below.refl _ _) _
  have HA : Hid (∀ W, Below w2.heap.size w2 W → ∀ j, W.cell? ⟨w.heap.size, j, none⟩ = (#[.int .i64 (c.length : Int), .int .u64 (FW c 0 : Int), .int .u64 (FW c 1 : Int), .int .u64 (FW c 2 : Int), .int .u64 (FW c 3 : Int), .int .u64 (OW c 0 : Int), .int .u64 (OW c 1 : Int), .int .u64 (OW c 2 : Int), .int .u64 (OW c 3 : Int), .slice q m k] : Array Value)[j]?) := fun W hW => (cells_block (keepblk3 hW hA)).1
  have HT : Hid (∀ t, good t = true → ∀ W, Calls Tryz.prog 37 #[.agg #[.int .i64 (t.length : Int), .int .u64 (FW t 0 : Int), .int .u64 (FW t 1 : Int), .int .u64 (FW t 2 : Int), .int .u64 (FW t 3 : Int), .int .u64 (OW t 0 : Int), .int .u64 (OW t 1 : Int), .int .u64 (OW t 2 : Int), .int .u64 (OW t 3 : Int)]] W fun e w' => e = .returned (.string ⟨t.toArray⟩) ∧ Below W.heap.size W w') := fun t gt W => text_any t W gt
  have HR : Hid (IRC w2 q L) := hr.later hB2
  have HN : Hid (L.length = m ∧ (∀ t ∈ L, good t = true) ∧ good c = true ∧ Below w.heap.size w w2) := ⟨hm, gL, gc, hB2⟩
  have HSO : Hid (SortOK srt) := hso
  have hA6 := HA.out w2 (Below.refl _ _)
  have hA6d : ∀ j, w2.drew.cell? ⟨w.heap.size, j, none⟩ = (#[.int .i64 (c.length : Int), .int .u64 (FW c 0 : Int), .int .u64 (FW c 1 : Int), .int .u64 (FW c 2 : Int), .int .u64 (FW c 3 : Int), .int .u64 (OW c 0 : Int), .int .u64 (OW c 1 : Int), .int .u64 (OW c 2 : Int), .int .u64 (OW c 3 : Int), .slice q m k] : Array Value)[j]? := hA6
  clear hA hB2 hr hm gL gc hso
  go_enter Tryz.func58, Tryz.ntmps58
  go_upto_region 1 with fail
  go_region_held3 (fun W => ∀ j, W.cell? ⟨w.heap.size, j, none⟩ = (#[.int .i64 (c.length : Int), .int .u64 (FW c 0 : Int), .int .u64 (FW c 1 : Int), .int .u64 (FW c 2 : Int), .int .u64 (FW c 3 : Int), .int .u64 (OW c 0 : Int), .int .u64 (OW c 1 : Int), .int .u64 (OW c 2 : Int), .int .u64 (OW c 3 : Int), .slice q m k] : Array Value)[j]?) (first | with_reducible exact hA6 | with_reducible exact hA6d | with_reducible exact hk5 | with_reducible exact hk6) (first | (go_at_call 37; refine (HT.out c HN.out.2.2.1 _).mono ?_; rintro e w5 ⟨rfl, hb5⟩; have hb5' : Below w2.heap.size w2 w5 := (by first | exact hb5 | exact und hb5); have hk5 := HA.out w5 hb5'; have hk6 := HA.out (w5.alloc (.cells #[.string ⟨c.toArray⟩, .int .i64 (c.length : Int), .int .u64 (FW c 0 : Int), .int .u64 (FW c 1 : Int), .int .u64 (FW c 2 : Int), .int .u64 (FW c 3 : Int), .int .u64 (OW c 0 : Int), .int .u64 (OW c 1 : Int), .int .u64 (OW c 2 : Int), .int .u64 (OW c 3 : Int)] 107 (0, 0))) (belA hb5' _)))
  have hB5 : Below w2.heap.size w2 (w5.alloc (.cells #[.string ⟨c.toArray⟩, .int .i64 (c.length : Int), .int .u64 (FW c 0 : Int), .int .u64 (FW c 1 : Int), .int .u64 (FW c 2 : Int), .int .u64 (FW c 3 : Int), .int .u64 (OW c 0 : Int), .int .u64 (OW c 1 : Int), .int .u64 (OW c 2 : Int), .int .u64 (OW c 3 : Int)] 107 (0, 0))) := belA hb5' _
  have o1 : (w5.alloc (.cells #[.string ⟨c.toArray⟩, .int .i64 (c.length : Int), .int .u64 (FW c 0 : Int), .int .u64 (FW c 1 : Int), .int .u64 (FW c 2 : Int), .int .u64 (FW c 3 : Int), .int .u64 (OW c 0 : Int), .int .u64 (OW c 1 : Int), .int .u64 (OW c 2 : Int), .int .u64 (OW c 3 : Int)] 107 (0, 0))).ownsRow w2.heap.size 107 10 (.slice (some ⟨w5.heap.size, 0, none⟩) 1 1) 1 (nms [c]) := ⟨rfl, .inr ⟨w5.heap.size, 1, _, rfl, hb5'.size, alloc_get _ _, by omega, by unfold maxLen; omega, rfl, rfl⟩⟩
  have HO1 : Hid ((w5.alloc (.cells #[.string ⟨c.toArray⟩, .int .i64 (c.length : Int), .int .u64 (FW c 0 : Int), .int .u64 (FW c 1 : Int), .int .u64 (FW c 2 : Int), .int .u64 (FW c 3 : Int), .int .u64 (OW c 0 : Int), .int .u64 (OW c 1 : Int), .int .u64 (OW c 2 : Int), .int .u64 (OW c 3 : Int)] 107 (0, 0))).ownsRow w2.heap.size 107 10 (.slice (some ⟨w5.heap.size, 0, none⟩) 1 1) 1 (nms [c]) ∧ Below w2.heap.size w2 (w5.alloc (.cells #[.string ⟨c.toArray⟩, .int .i64 (c.length : Int), .int .u64 (FW c 0 : Int), .int .u64 (FW c 1 : Int), .int .u64 (FW c 2 : Int), .int .u64 (FW c 3 : Int), .int .u64 (OW c 0 : Int), .int .u64 (OW c 1 : Int), .int .u64 (OW c 2 : Int), .int .u64 (OW c 3 : Int)] 107 (0, 0)))) := ⟨o1, hB5⟩
  clear o1 hk5 hA6 hA6d hw2
  go_wp2_with fail
  go_loopw [3, 16] (fun v3 v16 wr => ∃ j : Nat, v16 = .int .i64 (j : Int) ∧ j ≤ m ∧ wr.ownsRow w2.heap.size 107 10 v3 (j + 1) (nms (c :: L.take j)) ∧ Below w2.heap.size w2 wr) (fun _ v16 _ => m - (intOf v16).toNat)
  case atStart => exact ⟨0, rfl, Nat.zero_le _, HO1.out.1, HO1.out.2⟩
  case round =>
    clear HO1 hb5 hb5' hk6 hB5
    obtain ⟨j, rfl, hj, oR, hB⟩ := hrel
    by_cases hlt : j < m
    · have j1 : (j : Int) < (m : Int) := by omega
      have j0 : (0 : Int) ≤ (j : Int) := by omega
      obtain ⟨x, hx⟩ : ∃ x, L[j]? = some x := ⟨_, List.getElem?_eq_getElem (by rw [HN.out.1]; exact hlt)⟩
      obtain ⟨g, o0, rfl, p0, p1, p2, p3, p4, p5, p6, p7, p8⟩ := HR.out wr hB j x hx
      have HST : Hid (nms (c :: L.take (j + 1)) = nms (c :: L.take j) ++ nm x ∧ good x = true) := ⟨by rw [List.take_add_one, hx, ← List.cons_append]; exact nms_snoc _ _, HN.out.2.1 x (List.mem_of_getElem? hx)⟩
      obtain ⟨wa, hwa⟩ : ∃ wa, wr.alloc (.cells #[.int .i64 (x.length : Int), .int .u64 (FW x 0 : Int), .int .u64 (FW x 1 : Int), .int .u64 (FW x 2 : Int), .int .u64 (FW x 3 : Int), .int .u64 (OW x 0 : Int), .int .u64 (OW x 1 : Int), .int .u64 (OW x 2 : Int), .int .u64 (OW x 3 : Int)] 34 (0, 0)) = wa := ⟨_, rfl⟩
      have hal : Below wr.heap.size wr wa := by rw [← hwa]; exact belA (Below.refl _ _) _
      have hgt : wa.heap[wr.heap.size]? = some (.cells #[.int .i64 (x.length : Int), .int .u64 (FW x 0 : Int), .int .u64 (FW x 1 : Int), .int .u64 (FW x 2 : Int), .int .u64 (FW x 3 : Int), .int .u64 (OW x 0 : Int), .int .u64 (OW x 1 : Int), .int .u64 (OW x 2 : Int), .int .u64 (OW x 3 : Int)] 34 (0, 0)) := by rw [← hwa]; exact alloc_get _ _
      have HX : Hid (∀ W, Below wa.heap.size wa W → ∀ j, W.cell? ⟨wr.heap.size, j, none⟩ = (#[.int .i64 (x.length : Int), .int .u64 (FW x 0 : Int), .int .u64 (FW x 1 : Int), .int .u64 (FW x 2 : Int), .int .u64 (FW x 3 : Int), .int .u64 (OW x 0 : Int), .int .u64 (OW x 1 : Int), .int .u64 (OW x 2 : Int), .int .u64 (OW x 3 : Int)] : Array Value)[j]?) := fun W hW => (cells_block (keepblk3 hW hgt)).1
      have hX6 := HX.out wa (Below.refl _ _)
      have hX6d : ∀ j, wa.drew.cell? ⟨wr.heap.size, j, none⟩ = (#[.int .i64 (x.length : Int), .int .u64 (FW x 0 : Int), .int .u64 (FW x 1 : Int), .int .u64 (FW x 2 : Int), .int .u64 (FW x 3 : Int), .int .u64 (OW x 0 : Int), .int .u64 (OW x 1 : Int), .int .u64 (OW x 2 : Int), .int .u64 (OW x 3 : Int)] : Array Value)[j]? := hX6
      have HOR : Hid (wa.ownsRow w2.heap.size 107 10 u3 (j + 1) (nms (c :: L.take j)) ∧ Below w2.heap.size w2 wa) := ⟨own_belQ oR hal, bel0 hB hal⟩
      have HXG : Hid (∀ W X, Below wa.heap.size wa W → W.grownBy X u3.ownBlock → ∀ j, X.cell? ⟨wr.heap.size, j, none⟩ = (#[.int .i64 (x.length : Int), .int .u64 (FW x 0 : Int), .int .u64 (FW x 1 : Int), .int .u64 (FW x 2 : Int), .int .u64 (FW x 3 : Int), .int .u64 (OW x 0 : Int), .int .u64 (OW x 1 : Int), .int .u64 (OW x 2 : Int), .int .u64 (OW x 3 : Int)] : Array Value)[j]?) := fun W X hW hg => by
        have hb := keepblk3 hW hgt
        refine (cells_block ((hg.block _ (lt_of_get3 hb) (fun e => ?_)).trans hb)).1
        have := (oR.lt _ e.symm).2
        omega
      clear hx hgt oR
      go_upto_region 5 with fail
      go_region_held3 (fun W => ∀ j, W.cell? ⟨wr.heap.size, j, none⟩ = (#[.int .i64 (x.length : Int), .int .u64 (FW x 0 : Int), .int .u64 (FW x 1 : Int), .int .u64 (FW x 2 : Int), .int .u64 (FW x 3 : Int), .int .u64 (OW x 0 : Int), .int .u64 (OW x 1 : Int), .int .u64 (OW x 2 : Int), .int .u64 (OW x 3 : Int)] : Array Value)[j]?) (first | with_reducible exact hX6 | with_reducible exact hX6d | with_reducible exact hk5 | with_reducible exact hk6 | with_reducible exact hk7) (first | (go_at_call 37; refine (HT.out x HST.out.2 _).mono ?_; rintro e w5 ⟨rfl, hb5⟩; have hb5' : Below wa.heap.size wa w5 := (by first | exact hb5 | exact und hb5); have hk5 := HX.out w5 hb5'; have hb6 : Below wa.heap.size wa (w5.alloc (.cells #[.string ⟨x.toArray⟩, .int .i64 (x.length : Int), .int .u64 (FW x 0 : Int), .int .u64 (FW x 1 : Int), .int .u64 (FW x 2 : Int), .int .u64 (FW x 3 : Int), .int .u64 (OW x 0 : Int), .int .u64 (OW x 1 : Int), .int .u64 (OW x 2 : Int), .int .u64 (OW x 3 : Int)] 107 (0, 0))) := belA hb5' _; have hk6 := HX.out _ hb6; have o5 := own_belQ HOR.out.1 hb5'; have hs5 := (bel0 HOR.out.2 hb5').size) | (refine step_append_lies _ (by rfl) _ _ _ (by rfl) w2.heap.size 107 i0 _ 10 88 Tryz.underlying102 hi hz0 hz1 hz2 rfl (by decide) u3 (j + 1) (nms (c :: L.take j)) (by rfl) (World.ownsRow.alloc o5 _) ⟨_, 0, none⟩ 1 1 (nm x) (by rfl) (by rfl) (World.news_of_block (cs := #[.string ⟨x.toArray⟩, .int .i64 (x.length : Int), .int .u64 (FW x 0 : Int), .int .u64 (FW x 1 : Int), .int .u64 (FW x 2 : Int), .int .u64 (FW x 3 : Int), .int .u64 (OW x 0 : Int), .int .u64 (OW x 1 : Int), .int .u64 (OW x 2 : Int), .int .u64 (OW x 3 : Int)]) (t := 107) (fr := (0, 0)) (alloc_get w5 _)) (by simp [nm, Value.oneCell']) (by omega) (by unfold maxLen; omega) (by omega) (by simp; omega) _ rfl ?_; intro g9 c9 w7 o7 g7 _ _; have hk7 := HXG.out _ _ hb6 g7))
      have HE : Hid (w7.ownsRow w2.heap.size 107 10 (.slice (some ⟨g9, 0, none⟩) (j + 1 + 1) c9) (j + 1 + 1) (nms (c :: L.take (j + 1))) ∧ Below w2.heap.size w2 w7) := by
        refine ⟨by rw [HST.out.1]; exact o7, (bel0 HOR.out.2 hb6).grown g7 (by simp; omega) (fun b e => (HOR.out.1.lt b e).1)⟩
      clear o7 g7 hk5 hk6 hk7 o5
      go_wp2_with fail
      go_roundw
      case rel => exact ⟨j + 1, by go_num, by omega, HE.out.1, HE.out.2⟩
      case measure => simp [intOf]; omega
    · have j1 : ¬ (j : Int) < (m : Int) := by omega
      obtain rfl : j = m := by omega
      have eL : L.take j = L := List.take_of_length_le (by rw [HN.out.1]; exact Nat.le_refl _)
      rw [eL] at oR
      rcases own_shapeQ oR with ⟨-, h0⟩ | ⟨g, c9, rfl, hc9, -, -, -⟩
      · omega
      have HFI : Hid (∀ W, W.ownsRow w2.heap.size 107 10 (.slice (some ⟨g, 0, none⟩) (j + 1) c9) (j + 1) (nms (c :: srt L)) → wr.grownBy W (some g) → W.ownsRow w.heap.size 107 10 (.slice (some ⟨g, 0, none⟩) (j + 1) c9) (j + 1) (nms (c :: srt L)) ∧ Below w.heap.size w W) := fun W h1 h2 => ⟨own_base h1 HN.out.2.2.2.size, bel0 HN.out.2.2.2 (hB.grown h2 hB.size (fun b e => (oR.lt b e).1))⟩
      have k1 : (1 : Int) ≤ (c9 : Int) := by omega
      have k2 : (j : Int) + 1 ≤ (c9 : Int) := by omega
      have k3 : 1 ≤ c9 := by omega
      by_cases hc1 : c9 = 1
      · have H1 := HSO.out L c j g c9 w2.heap.size ⟨g, 0, none⟩ wr HN.out.1 hm2 oR (.inl ⟨by omega, rfl⟩)
        subst hc1
        obtain rfl : j = 0 := by omega
        clear oR eL
        go_wp2_with fail
        refine H1.mono ?_
        rintro e W1 ⟨rfl, o9, g9⟩
        have HZ := HFI.out W1 o9 g9
        go_wp2_with fail
        go_ret
        exact ⟨_, rfl, HZ.1, HZ.2⟩
      · have H1 := HSO.out L c j g c9 w2.heap.size ⟨g, 10, none⟩ wr HN.out.1 hm2 oR (.inr rfl)
        clear oR eL
        go_wp2_with fail
        refine H1.mono ?_
        rintro e W1 ⟨rfl, o9, g9⟩
        have HZ := HFI.out W1 o9 g9
        go_wp2_with fail
        go_ret
        exact ⟨_, rfl, HZ.1, HZ.2⟩
end Go.Proofs.YtekjbpemaohipaaGreatDoor
namespace Go.Proofs
open Go.Shelf
def Tryz.l125_ren : Go.Shelf.Ren := ⟨fun | 125 => 80 | 128 => 99 | 129 => 100 | n => n, fun | 46 => 128 | 3 => 3 | 51 => 143 | 53 => 30 | 4 => 4 | 5 => 5 | 9 => 9 | n => n, fun | n => n⟩
theorem Tryz.l125 : Go.Proofs.Lays.n125 Tryz.prog Tryz.l125_ren := {
  mixed := by kernel_rfl
  f125 := Tryz.func80.trans (congrArg some (by kernel_rfl))
  f128 := Tryz.func99.trans (congrArg some (by kernel_rfl))
  f129 := Tryz.func100.trans (congrArg some (by kernel_rfl))
  t3 := Tryz.underlying3
  a3 := Tryz.isAgg3
  z3 := Tryz.sizeOf3
  v3 := Tryz.zeroValue3
  t4 := Tryz.underlying4
  a4 := Tryz.isAgg4
  z4 := Tryz.sizeOf4
  v4 := Tryz.zeroValue4
  t5 := Tryz.underlying5
  a5 := Tryz.isAgg5
  z5 := Tryz.sizeOf5
  v5 := Tryz.zeroValue5
  t9 := Tryz.underlying9
  a9 := Tryz.isAgg9
  z9 := Tryz.sizeOf9
  v9 := Tryz.zeroValue9
  t46 := Tryz.underlying128
  a46 := Tryz.isAgg128
  z46 := Tryz.sizeOf128
  v46 := Tryz.zeroValue128
  t51 := Tryz.underlying143
  a51 := Tryz.isAgg143
  z51 := Tryz.sizeOf143
  v51 := Tryz.zeroValue143
  t53 := Tryz.underlying30
  a53 := Tryz.isAgg30
  z53 := Tryz.sizeOf30
  v53 := Tryz.zeroValue30 }
end Go.Proofs
namespace Go.Proofs.YtekjbpemaohipaaGreatDoor
open Go.RowKit Go.Shelf
set_option maxRecDepth 100000 in
set_option maxHeartbeats 1000000 in
theorem ins_le1 (n : Nat) (hn : n ≤ 1) (p : Option Addr) (c : Nat) (w : World) : Calls Tryz.prog 91 #[.slice p n c, .int .i64 0, .int .i64 (n : Int), .func (.func 60) #[] #[]] w fun e w' => e = .returned (.tuple #[]) ∧ Below w.heap.size w w' := by
  have h1 : ¬ (1 : Int) < (n : Int) := by omega
  go_enter Tryz.func91, Tryz.ntmps91
  go_wp2_with fail
  go_loopw [8] (fun v wr => v = .int .i64 1 ∧ Below w.heap.size w wr) (fun _ _ => 0)
  case atStart => exact ⟨rfl, Below.refl _ _⟩
  case round =>
    obtain ⟨rfl, hB⟩ := hrel
    go_wp2_with fail
    exact ⟨rfl, .tuple #[], by simp [results, Tryz.results91], rfl, hB⟩
set_option maxRecDepth 100000 in
set_option maxHeartbeats 2000000 in
theorem pdq_le1 (n : Nat) (hn : n ≤ 1) (p : Option Addr) (c : Nat) (l : Int) (w : World) : Calls Tryz.prog 79 #[.slice p n c, .int .i64 0, .int .i64 (n : Int), .int .i64 l, .func (.func 60) #[] #[]] w fun e w' => e = .returned (.tuple #[]) ∧ Below w.heap.size w w' := by
  have h1 : (n : Int) ≤ 12 := by omega
  have h2 : (0 : Int) ≤ (n : Int) := by omega
  have HI : Hid (∀ W, Calls Tryz.prog 91 #[.slice p n c, .int .i64 0, .int .i64 (n : Int), .func (.func 60) #[] #[]] W fun e w' => e = .returned (.tuple #[]) ∧ Below W.heap.size W w') := fun W => ins_le1 n hn p c W
  go_enter Tryz.func79, Tryz.ntmps79
  go_wp2_with fail
  go_loopw [1, 2, 3] (fun v1 v2 _ wr => v1 = .int .i64 0 ∧ v2 = .int .i64 (n : Int) ∧ Below w.heap.size w wr) (fun _ _ _ _ => 0)
  case atStart => exact ⟨rfl, rfl, Below.refl _ _⟩
  case round =>
    obtain ⟨rfl, rfl, hB⟩ := hrel
    go_wp2_with fail
    refine (HI.out _).mono ?_
    rintro e W1 ⟨rfl, hb1⟩
    go_wp2_with fail
    exact ⟨rfl, .tuple #[], by simp [results, Tryz.results79], rfl, bel0 hB hb1⟩
set_option maxRecDepth 100000 in
set_option maxHeartbeats 1000000 in
theorem sort_le1 (n : Nat) (hn : n ≤ 1) (p : Option Addr) (c : Nat) (w : World) : Calls Tryz.prog 59 #[.slice p n c, .func (.func 60) #[] #[]] w fun e w' => e = .returned (.tuple #[]) ∧ Below w.heap.size w w' := by
  have HL : Hid (∀ W, Calls Tryz.prog 80 #[.int .u64 (n : Int)] W fun e w' => (∃ l : Int, e = .returned (.int .i64 l)) ∧ w' = W) := fun W => (Any.bits_Len Tryz.l125 n W (by omega) (by omega)).mono fun _ _ ⟨he, hw⟩ => ⟨⟨_, he⟩, hw⟩
  have HP : Hid (∀ (l : Int) (W : World), Calls Tryz.prog 79 #[.slice p n c, .int .i64 0, .int .i64 (n : Int), .int .i64 l, .func (.func 60) #[] #[]] W fun e w' => e = .returned (.tuple #[]) ∧ Below W.heap.size W w') := fun l W => pdq_le1 n hn p c l W
  have h3 : IntKind.u64.wrap (n : Int) = (n : Int) := by unfold IntKind.wrap; simp [IntKind.bits]; omega
  go_enter Tryz.func59, Tryz.ntmps59
  go_wp2_with fail
  refine (HL.out _).mono ?_
  rintro e W1 ⟨⟨l, rfl⟩, rfl⟩
  go_wp2_with fail
  refine (HP.out _ _).mono ?_
  rintro e W2 ⟨rfl, hb2⟩
  go_wp2_with fail
  exact ⟨rfl, .tuple #[], by simp [results, Tryz.results59], rfl, hb2⟩
end Go.Proofs.YtekjbpemaohipaaGreatDoor
namespace Go.Proofs.YtekjbpemaohipaaGreatDoor
open Go.RowKit Go.Shelf
theorem nms_get (L : List (List UInt8)) (k m : Nat) (hm : m < 10) : (nms L)[k * 10 + m]? = (L[k]?).bind (fun t => (nm t)[m]?) := by
  induction L generalizing k with
  | nil => simp [nms]
  | cons t l ih =>
    have hc : nms (t :: l) = nm t ++ nms l := rfl
    have hl : (nm t).length = 10 := rfl
    rw [hc]
    cases k with
    | zero =>
      rw [List.getElem?_append_left (by rw [hl]; omega)]
      simp
    | succ k =>
      rw [List.getElem?_append_right (by rw [hl]; omega), hl, show (k + 1) * 10 + m - 10 = k * 10 + m by omega, ih]
      simp
theorem nm_at {W : World} {B g n cp j : Nat} {c t : List UInt8} {S : List (List UInt8)} (h : W.ownsRow B 107 10 (.slice (some ⟨g, 0, none⟩) n cp) n (nms (c :: S))) (hn : S.length + 1 = n) (ht : S[j]? = some t) : W.cell? ⟨g, 10 + j * 10, none⟩ = some (.string ⟨t.toArray⟩) ∧ W.cell? ⟨g, 10 + j * 10 + 1, none⟩ = some (.int .i64 (t.length : Int)) ∧ W.cell? ⟨g, 10 + j * 10 + 2, none⟩ = some (.int .u64 (FW t 0 : Int)) ∧ W.cell? ⟨g, 10 + j * 10 + 3, none⟩ = some (.int .u64 (FW t 1 : Int)) ∧ W.cell? ⟨g, 10 + j * 10 + 4, none⟩ = some (.int .u64 (FW t 2 : Int)) ∧ W.cell? ⟨g, 10 + j * 10 + 5, none⟩ = some (.int .u64 (FW t 3 : Int)) ∧ W.cell? ⟨g, 10 + j * 10 + 6, none⟩ = some (.int .u64 (OW t 0 : Int)) ∧ W.cell? ⟨g, 10 + j * 10 + 7, none⟩ = some (.int .u64 (OW t 1 : Int)) ∧ W.cell? ⟨g, 10 + j * 10 + 8, none⟩ = some (.int .u64 (OW t 2 : Int)) ∧ W.cell? ⟨g, 10 + j * 10 + 9, none⟩ = some (.int .u64 (OW t 3 : Int)) := by
  have hj := (List.getElem?_eq_some_iff.1 ht).1
  have cc : ∀ m, m < 10 → W.cell? ⟨g, 10 + j * 10 + m, none⟩ = (nm t)[m]? := fun m hm => by
    rw [show 10 + j * 10 + m = (j + 1) * 10 + m by omega, h.cellAt ((j + 1) * 10 + m) (by omega), nms_get _ _ _ hm, List.getElem?_cons_succ, ht]
    rfl
  exact ⟨cc 0 (by omega), cc 1 (by omega), cc 2 (by omega), cc 3 (by omega), cc 4 (by omega), cc 5 (by omega), cc 6 (by omega), cc 7 (by omega), cc 8 (by omega), cc 9 (by omega)⟩
theorem nm_at0 {W : World} {B g n cp : Nat} {c : List UInt8} {S : List (List UInt8)} (h : W.ownsRow B 107 10 (.slice (some ⟨g, 0, none⟩) n cp) n (nms (c :: S))) (hn : S.length + 1 = n) : W.cell? ⟨g, 1, none⟩ = some (.int .i64 (c.length : Int)) ∧ W.cell? ⟨g, 2, none⟩ = some (.int .u64 (FW c 0 : Int)) ∧ W.cell? ⟨g, 3, none⟩ = some (.int .u64 (FW c 1 : Int)) ∧ W.cell? ⟨g, 4, none⟩ = some (.int .u64 (FW c 2 : Int)) ∧ W.cell? ⟨g, 5, none⟩ = some (.int .u64 (FW c 3 : Int)) ∧ W.cell? ⟨g, 6, none⟩ = some (.int .u64 (OW c 0 : Int)) ∧ W.cell? ⟨g, 7, none⟩ = some (.int .u64 (OW c 1 : Int)) ∧ W.cell? ⟨g, 8, none⟩ = some (.int .u64 (OW c 2 : Int)) ∧ W.cell? ⟨g, 9, none⟩ = some (.int .u64 (OW c 3 : Int)) := by
  have cc : ∀ m, m < 10 → W.cell? ⟨g, m, none⟩ = (nm c)[m]? := fun m hm => by
    have e := nms_get (c :: S) 0 m hm
    rw [Nat.zero_mul, Nat.zero_add] at e
    rw [h.cellAt m (by omega), e]
    rfl
  exact ⟨cc 1 (by omega), cc 2 (by omega), cc 3 (by omega), cc 4 (by omega), cc 5 (by omega), cc 6 (by omega), cc 7 (by omega), cc 8 (by omega), cc 9 (by omega)⟩
theorem info_nl : (Tryz.prog.info? 102).map (fun i => (i.zero, i.size, i.bytes)) = some (some (.slice none 0 0), 1, 24) := by kernel_rfl
/-- what is there behind the first loop: one line -/
def LN (w2 W : World) (v : Value) (m : Nat) (K : List (List UInt8)) : Prop := ∃ lv, W.ownsRow w2.heap.size 102 1 v 1 [lv] ∧ W.ownsRow w2.heap.size 107 10 lv (m + 1) (nms K)
theorem LN.below {w2 W X : World} {v : Value} {m : Nat} {K : List (List UInt8)} (h : LN w2 W v m K) (hb : Below W.heap.size W X) : LN w2 X v m K := by
  obtain ⟨lv, a, b⟩ := h
  exact ⟨lv, own_belQ a hb, own_belQ b hb⟩
theorem own_neQ {W : World} {B1 B2 : Nat} {e1 e2 : TypeId} {s1 s2 n1 n2 : Nat} {a v : Value} {xs ys : List Value} (h1 : W.ownsRow B1 e1 s1 a n1 xs) (h2 : W.ownsRow B2 e2 s2 v n2 ys) (hne : e1 ≠ e2) : a.ownBlock = none ∨ a.ownBlock ≠ v.ownBlock := by
  rcases h1.2 with ⟨rfl, _⟩ | ⟨g, c, cur, rfl, _, hg, _⟩
  · exact .inl rfl
  · refine .inr (fun e => ?_)
    rcases h2.2 with ⟨rfl, _⟩ | ⟨g2, c2, cur2, rfl, _, hg2, _⟩
    · cases e
    · have : g = g2 := by injection e
      subst this
      rw [hg] at hg2
      injection hg2 with h
      injection h with _ h _
      exact hne h
theorem res_space {fn : Func} {p : Tmp} {m : Nat × Nat} (tmps : Array Value) (W : World) (b : Nat) (v0 v1 v2 : Value) (hr : fn.results = #[.cell p 26]) (hp : tmps.getD p undef = .pointer (some ⟨b, 0, none⟩)) (h : W.heap[b]? = some (.cells #[v0, v1, v2] 26 m)) : (results fn tmps).run Tryz.prog W = .ok (.agg #[v0, v1, v2]) W := by
  have hc : ∀ j, W.cell? ⟨b, j, none⟩ = (#[v0, v1, v2] : Array Value)[j]? := by
    intro j; unfold World.cell?; rw [h]; simp
  have hp' : tmps[p]?.getD undef = .pointer (some ⟨b, 0, none⟩) := by simpa using hp
  simp [results, hr, hp', go_sem, hc]
set_option maxRecDepth 100000 in
set_option maxHeartbeats 8000000 in
theorem inOrder_one (srt : List (List UInt8) → List (List UInt8)) (hso : SortOK srt) (hsl : ∀ L, (srt L).length = L.length) (b : Int) (t : TRM) (L : List (List UInt8)) (p : Option Addr) (cp : Nat) (w : World) (hm : L.length = t.m) (hm2 : t.m ≤ 1000000) (gc : good t.c = true) (gL : ∀ x ∈ L, good x = true) (hr : IRT w p [t]) (hq : IRC w t.q L) :
    Calls Tryz.prog 42 #[.int .i64 b, .slice p 1 cp] w fun e w' => ∃ V v, e = .returned (.agg #[.int .i64 b, V, .bool false]) ∧ w'.ownsRow w.heap.size 62 10 V 1 ([.int .i64 (t.c.length : Int), .int .u64 (FW t.c 0 : Int), .int .u64 (FW t.c 1 : Int), .int .u64 (FW t.c 2 : Int), .int .u64 (FW t.c 3 : Int), .int .u64 (OW t.c 0 : Int), .int .u64 (OW t.c 1 : Int), .int .u64 (OW t.c 2 : Int), .int .u64 (OW t.c 3 : Int), v]) ∧ w'.ownsRow w.heap.size 34 9 v t.m (ces (srt L)) ∧ Below w.heap.size w w' := by
  obtain ⟨i0, hi, hz0, hz1, hz2⟩ := info_parts info_cubeQ
  obtain ⟨i1, hi1, hy0, hy1, hy2⟩ := info_parts info_term
  obtain ⟨i2, hi2, hx0, hx1, hx2⟩ := info_parts info_nl
  obtain ⟨w2, hw2⟩ : ∃ w2, w.alloc (.cells #[.int .i64 0, .slice none 0 0, .bool false] 26 (0, 0)) = w2 := ⟨_, rfl⟩
  have hA : w2.heap[w.heap.size]? = some (.cells #[.int .i64 0, .slice none 0 0, .bool false] 26 (0, 0)) := by rw [← hw2]; exact alloc_get _ _
  have hB2 : Below w.heap.size w w2 := by rw [← hw2]; exact belA (Below.refl _ _) _
  obtain ⟨tc, tq, m, tk⟩ := t
  simp only at hm hm2 gc hq ⊢
  have HA : Hid (w2.heap[w.heap.size]? = some (.cells #[.int .i64 0, .slice none 0 0, .bool false] 26 (0, 0)) ∧ Below w.heap.size w w2) := ⟨hA, hB2⟩
  have HR : Hid (IRT w2 p [⟨tc, tq, m, tk⟩]) := hr.later hB2
  have HIL : Hid (∀ W, Below w2.heap.size w2 W → Calls Tryz.prog 58 #[.agg #[.int .i64 (tc.length : Int), .int .u64 (FW tc 0 : Int), .int .u64 (FW tc 1 : Int), .int .u64 (FW tc 2 : Int), .int .u64 (FW tc 3 : Int), .int .u64 (OW tc 0 : Int), .int .u64 (OW tc 1 : Int), .int .u64 (OW tc 2 : Int), .int .u64 (OW tc 3 : Int), .slice tq m tk]] W fun e w' => ∃ v, e = .returned v ∧ w'.ownsRow W.heap.size 107 10 v (m + 1) (nms (tc :: srt L)) ∧ Below W.heap.size W w') := fun W hW => inLine_any srt hso tc L m tk tq W hm hm2 gc gL (hq.later (bel0 hB2 hW))
  have HS : Hid ((srt L).length = m) := (hsl L).trans hm
  clear hA hB2 hr hq hm gc gL hso hsl
  go_enter Tryz.func42, Tryz.ntmps42
  go_wp2_with fail
  clear hw2
  go_loopw [5, 16] (fun v5 v16 wr => Below w2.heap.size w2 wr ∧ ((v5 = .slice none 0 0 ∧ v16 = .int .i64 0) ∨ (v16 = .int .i64 1 ∧ LN w2 wr v5 m (tc :: srt L)))) (fun _ v16 _ => 1 - (intOf v16).toNat)
  case atStart => exact ⟨Below.refl _ _, .inl ⟨rfl, rfl⟩⟩
  case round =>
    obtain ⟨hB, ⟨rfl, rfl⟩ | ⟨rfl, hL⟩⟩ := hrel
    · obtain ⟨g, o0, rfl, ⟨p0, p1, p2, p3, p4, p5, p6, p7, p8⟩, p9⟩ := HR.out wr hB 0 _ rfl
      simp only at p0 p1 p2 p3 p4 p5 p6 p7 p8 p9
      rw [Nat.zero_mul, Nat.add_zero] at p0 p1 p2 p3 p4 p5 p6 p7 p8 p9
      obtain ⟨wa, hwa⟩ : ∃ wa, wr.alloc (.cells #[.int .i64 (tc.length : Int), .int .u64 (FW tc 0 : Int), .int .u64 (FW tc 1 : Int), .int .u64 (FW tc 2 : Int), .int .u64 (FW tc 3 : Int), .int .u64 (OW tc 0 : Int), .int .u64 (OW tc 1 : Int), .int .u64 (OW tc 2 : Int), .int .u64 (OW tc 3 : Int), .slice tq m tk] 62 (0, 0)) = wa := ⟨_, rfl⟩
      have hal : Below wr.heap.size wr wa := by rw [← hwa]; exact belA (Below.refl _ _) _
      have hgt : wa.heap[wr.heap.size]? = some (.cells #[.int .i64 (tc.length : Int), .int .u64 (FW tc 0 : Int), .int .u64 (FW tc 1 : Int), .int .u64 (FW tc 2 : Int), .int .u64 (FW tc 3 : Int), .int .u64 (OW tc 0 : Int), .int .u64 (OW tc 1 : Int), .int .u64 (OW tc 2 : Int), .int .u64 (OW tc 3 : Int), .slice tq m tk] 62 (0, 0)) := by rw [← hwa]; exact alloc_get _ _
      obtain ⟨hcT, -⟩ := cells_block hgt
      have hBa := bel0 hB hal
      have H1 := HIL.out wa hBa
      clear hgt
      go_wp2_with fail
      refine H1.mono ?_
      rintro e W1 ⟨v1, rfl, o1, hb1⟩
      clear H1 hcT hwa
      have hB1 := bel0 hBa hb1
      have hs1 := hB1.size
      obtain ⟨pv, cv1, rfl⟩ := shapeQ1 o1
      go_wp2_with (at_builtin; refine wpList_append_own _ rfl _ _ 101 rfl w2.heap.size 102 i2 _ 1 24 Tryz.underlying101 hi2 hx0 hx1 hx2 rfl (by decide) _ _ _ rfl (World.ownsRow_nil _ _ _ _) ⟨_, 0, none⟩ 1 1 [.slice pv (m + 1) cv1] rfl rfl (World.news_of_block (cs := #[.slice pv (m + 1) cv1]) (t := 102) (fr := (0, 0)) (alloc_get _ _)) (by simp [Value.oneCell']) (by unfold maxLen; omega) (by omega) (by simp; omega) ?_; intro v4 w4 o4 g4 _)
      have HE : Hid (Below w2.heap.size w2 w4 ∧ LN w2 w4 v4 m (tc :: srt L)) := by
        have hb4 : Below W1.heap.size W1 w4 := (belA (Below.refl _ _) _).grown g4 (by simp) (fun b e => by cases e)
        exact ⟨bel0 hB1 hb4, _, by simpa using o4, own_base (own_belQ o1 hb4) hBa.size⟩
      clear o4 g4 o1
      go_wp2_with fail
      go_roundw
      case rel => exact ⟨HE.out.1, .inr ⟨by go_num, HE.out.2⟩⟩
      case measure => simp [intOf]
    · obtain ⟨wl, rfl⟩ : ∃ wl, wl = wr := ⟨wr, rfl⟩
      have hsh : ∃ p5 c5, u5 = .slice p5 1 c5 := by
        obtain ⟨lv, a, -⟩ := hL
        exact shapeQ1 a
      obtain ⟨p5, c5, rfl⟩ := hsh
      have HL : Hid (LN w2 wl (.slice p5 1 c5) m (tc :: srt L)) := hL
      clear hL
      go_wp2_with fail
      refine (sort_le1 1 (Nat.le_refl _) p5 c5 wl).mono ?_
      rintro e W3 ⟨rfl, hb3⟩
      have hB3 := bel0 hB hb3
      have HL3 : Hid (LN w2 W3 (.slice p5 1 c5) m (tc :: srt L)) := HL.out.below hb3
      clear HL hB
      go_wp2_with fail
      go_loopw [8, 30] (fun v8 v30 wr => Below W3.heap.size W3 wr ∧ ((v8 = .slice none 0 0 ∧ v30 = .int .i64 0) ∨ (v30 = .int .i64 1 ∧ ∃ v, wr.ownsRow W3.heap.size 62 10 v8 1 ([.int .i64 (tc.length : Int), .int .u64 (FW tc 0 : Int), .int .u64 (FW tc 1 : Int), .int .u64 (FW tc 2 : Int), .int .u64 (FW tc 3 : Int), .int .u64 (OW tc 0 : Int), .int .u64 (OW tc 1 : Int), .int .u64 (OW tc 2 : Int), .int .u64 (OW tc 3 : Int), v]) ∧ wr.ownsRow W3.heap.size 34 9 v m (ces (srt L))))) (fun _ v30 _ => 1 - (intOf v30).toNat)
      case atStart => exact ⟨Below.refl _ _, .inl ⟨rfl, rfl⟩⟩
      case round =>
        obtain ⟨hB, ⟨rfl, rfl⟩ | ⟨rfl, hV⟩⟩ := hrel
        · obtain ⟨lv, oL, oV⟩ := HL3.out
          rcases own_shapeQ oL with ⟨-, h0⟩ | ⟨g5, c5', h5, -⟩
          · omega
          injection h5 with h6 _ h7
          subst h6 h7
          rcases own_shapeQ oV with ⟨-, h0⟩ | ⟨gl, cl, rfl, hcl, -⟩
          · omega
          have q0 : wr.cell? ⟨g5, 0, none⟩ = some (.slice (some ⟨gl, 0, none⟩) (m + 1) cl) := (own_belQ oL hB).cellAt 0 (by omega)
          have HLV : Hid (W3.ownsRow w2.heap.size 107 10 (.slice (some ⟨gl, 0, none⟩) (m + 1) cl) (m + 1) (nms (tc :: srt L))) := oV
          clear oL oV HL3
          have k1 : (1 : Int) ≤ (cl : Int) := by omega
          have k2 : (m : Int) + 1 ≤ (cl : Int) := by omega
          have k3 : 1 ≤ cl := by omega
          by_cases hc1 : cl = 1
          · subst hc1
            obtain rfl : m = 0 := by omega
            go_upto_region 14 with fail
            go_loopw [11, 37] (fun v11 v37 wr => ∃ j : Nat, v37 = .int .i64 (j : Int) ∧ j ≤ 0 ∧ wr.ownsRow W3.heap.size 34 9 v11 j (ces ((srt L).take j)) ∧ Below W3.heap.size W3 wr) (fun _ v37 _ => 0 - (intOf v37).toNat)
            case atStart => exact ⟨0, rfl, Nat.zero_le _, World.ownsRow_nil _ _ _ _, hB⟩
            case round =>
              clear q0 hB
              obtain ⟨j, rfl, hj, oj, hB⟩ := hrel
              by_cases hjm : j < 0
              · omega
              · have r1 : ¬ (j : Int) < (0 : Int) := by omega
                obtain rfl : j = 0 := by omega
                rw [List.take_of_length_le (by rw [HS.out]; exact Nat.le_refl _)] at oj
                obtain ⟨p1, p2, p3, p4, p5', p6, p7, p8, p9⟩ := nm_at0 (own_belQ HLV.out hB) (by rw [HS.out])
                obtain ⟨pv, cv1, rfl⟩ := shapeQ1 oj
                have hs3 := hB.size
                have HOJ : Hid (wr.ownsRow W3.heap.size 34 9 (.slice pv 0 cv1) 0 (ces (srt L))) := oj
                clear oj
                go_wp2_with (at_builtin; refine wpList_append_own _ rfl _ _ 24 rfl W3.heap.size 62 i1 _ 10 96 Tryz.underlying24 hi1 hy0 hy1 hy2 rfl (by decide) _ _ _ rfl (World.ownsRow_nil _ _ _ _) ⟨_, 0, none⟩ 1 1 ([.int .i64 (tc.length : Int), .int .u64 (FW tc 0 : Int), .int .u64 (FW tc 1 : Int), .int .u64 (FW tc 2 : Int), .int .u64 (FW tc 3 : Int), .int .u64 (OW tc 0 : Int), .int .u64 (OW tc 1 : Int), .int .u64 (OW tc 2 : Int), .int .u64 (OW tc 3 : Int), .slice pv 0 cv1]) rfl rfl (World.news_of_block (cs := #[.int .i64 (tc.length : Int), .int .u64 (FW tc 0 : Int), .int .u64 (FW tc 1 : Int), .int .u64 (FW tc 2 : Int), .int .u64 (FW tc 3 : Int), .int .u64 (OW tc 0 : Int), .int .u64 (OW tc 1 : Int), .int .u64 (OW tc 2 : Int), .int .u64 (OW tc 3 : Int), .slice pv 0 cv1]) (t := 62) (fr := (0, 0)) (alloc_get _ _)) (by simp [Value.oneCell']) (by unfold maxLen; omega) (by omega) (by simp; omega) ?_; intro v4 w4 o4 g4 _)
                have HE : Hid (Below W3.heap.size W3 w4 ∧ ∃ v, w4.ownsRow W3.heap.size 62 10 v4 1 ([.int .i64 (tc.length : Int), .int .u64 (FW tc 0 : Int), .int .u64 (FW tc 1 : Int), .int .u64 (FW tc 2 : Int), .int .u64 (FW tc 3 : Int), .int .u64 (OW tc 0 : Int), .int .u64 (OW tc 1 : Int), .int .u64 (OW tc 2 : Int), .int .u64 (OW tc 3 : Int), v]) ∧ w4.ownsRow W3.heap.size 34 9 v 0 (ces (srt L))) := by
                  have hb4 : Below wr.heap.size wr w4 := (belA (Below.refl _ _) _).grown g4 (by simp) (fun b e => by cases e)
                  exact ⟨bel0 hB hb4, _, by simpa using o4, own_belQ HOJ.out hb4⟩
                clear o4 g4
                go_wp2_with fail
                go_roundw
                case rel => exact ⟨HE.out.1, .inr ⟨by go_num, HE.out.2⟩⟩
                case measure => simp [intOf]
          · go_upto_region 14 with fail
            go_loopw [11, 37] (fun v11 v37 wr => ∃ j : Nat, v37 = .int .i64 (j : Int) ∧ j ≤ m ∧ wr.ownsRow W3.heap.size 34 9 v11 j (ces ((srt L).take j)) ∧ Below W3.heap.size W3 wr) (fun _ v37 _ => m - (intOf v37).toNat)
            case atStart => exact ⟨0, rfl, Nat.zero_le _, World.ownsRow_nil _ _ _ _, hB⟩
            case round =>
              clear q0 hB
              obtain ⟨j, rfl, hj, oj, hB⟩ := hrel
              by_cases hjm : j < m
              · have r1 : (j : Int) < (m : Int) := by omega
                have r0 : (0 : Int) ≤ (j : Int) := by omega
                obtain ⟨x, hx⟩ : ∃ x, (srt L)[j]? = some x := ⟨_, List.getElem?_eq_getElem (by rw [HS.out]; exact hjm)⟩
                obtain ⟨p0, p1, p2, p3, p4, p5', p6, p7, p8, p9⟩ := nm_at (own_belQ HLV.out hB) (by rw [HS.out]) hx
                obtain ⟨wa, hwa⟩ : ∃ wa, wr.alloc (.cells #[.string ⟨x.toArray⟩, .int .i64 (x.length : Int), .int .u64 (FW x 0 : Int), .int .u64 (FW x 1 : Int), .int .u64 (FW x 2 : Int), .int .u64 (FW x 3 : Int), .int .u64 (OW x 0 : Int), .int .u64 (OW x 1 : Int), .int .u64 (OW x 2 : Int), .int .u64 (OW x 3 : Int)] 107 (0, 0)) = wa := ⟨_, rfl⟩
                have hal : Below wr.heap.size wr wa := by rw [← hwa]; exact belA (Below.refl _ _) _
                have hgt : wa.heap[wr.heap.size]? = some (.cells #[.string ⟨x.toArray⟩, .int .i64 (x.length : Int), .int .u64 (FW x 0 : Int), .int .u64 (FW x 1 : Int), .int .u64 (FW x 2 : Int), .int .u64 (FW x 3 : Int), .int .u64 (OW x 0 : Int), .int .u64 (OW x 1 : Int), .int .u64 (OW x 2 : Int), .int .u64 (OW x 3 : Int)] 107 (0, 0)) := by rw [← hwa]; exact alloc_get _ _
                obtain ⟨hcT, -⟩ := cells_block hgt
                have hBa := bel0 hB hal
                have hsa := hBa.size
                have oa := own_belQ oj hal
                have HX : Hid (ces ((srt L).take (j + 1)) = ces ((srt L).take j) ++ ce9 x) := by
                  unfold Hid
                  rw [List.take_add_one, hx]
                  exact ces_snoc _ _
                clear hgt hx oj
                go_wp2_with (at_builtin; refine wpList_append_own _ rfl _ _ 60 rfl W3.heap.size 34 i0 _ 9 72 Tryz.underlying60 hi hz0 hz1 hz2 rfl (by decide) _ _ _ rfl (oa.alloc _) ⟨_, 0, none⟩ 1 1 (ce9 x) rfl rfl (World.news_of_block (cs := #[.int .i64 (x.length : Int), .int .u64 (FW x 0 : Int), .int .u64 (FW x 1 : Int), .int .u64 (FW x 2 : Int), .int .u64 (FW x 3 : Int), .int .u64 (OW x 0 : Int), .int .u64 (OW x 1 : Int), .int .u64 (OW x 2 : Int), .int .u64 (OW x 3 : Int)]) (t := 34) (fr := (0, 0)) (alloc_get _ _)) (by simp [ce9, Value.oneCell']) (by unfold maxLen; omega) (by omega) (by simp; omega) ?_; intro v4 w4 o4 g4 _)
                have HE : Hid (w4.ownsRow W3.heap.size 34 9 v4 (j + 1) (ces ((srt L).take (j + 1))) ∧ Below W3.heap.size W3 w4) := ⟨by rw [HX.out]; exact o4, (belA hBa _).grown g4 (by simp; omega) (fun b e => (oa.lt b e).1)⟩
                clear o4 g4 oa hcT
                go_wp2_with fail
                go_roundw
                case rel => exact ⟨j + 1, by go_num, by omega, HE.out.1, HE.out.2⟩
                case measure => simp [intOf]; omega
              · have r1 : ¬ (j : Int) < (m : Int) := by omega
                obtain rfl : j = m := by omega
                rw [List.take_of_length_le (by rw [HS.out]; exact Nat.le_refl _)] at oj
                obtain ⟨p1, p2, p3, p4, p5', p6, p7, p8, p9⟩ := nm_at0 (own_belQ HLV.out hB) (by rw [HS.out])
                obtain ⟨pv, cv1, rfl⟩ := shapeQ1 oj
                have hs3 := hB.size
                have HOJ : Hid (wr.ownsRow W3.heap.size 34 9 (.slice pv j cv1) j (ces (srt L))) := oj
                clear oj
                go_wp2_with (at_builtin; refine wpList_append_own _ rfl _ _ 24 rfl W3.heap.size 62 i1 _ 10 96 Tryz.underlying24 hi1 hy0 hy1 hy2 rfl (by decide) _ _ _ rfl (World.ownsRow_nil _ _ _ _) ⟨_, 0, none⟩ 1 1 ([.int .i64 (tc.length : Int), .int .u64 (FW tc 0 : Int), .int .u64 (FW tc 1 : Int), .int .u64 (FW tc 2 : Int), .int .u64 (FW tc 3 : Int), .int .u64 (OW tc 0 : Int), .int .u64 (OW tc 1 : Int), .int .u64 (OW tc 2 : Int), .int .u64 (OW tc 3 : Int), .slice pv j cv1]) rfl rfl (World.news_of_block (cs := #[.int .i64 (tc.length : Int), .int .u64 (FW tc 0 : Int), .int .u64 (FW tc 1 : Int), .int .u64 (FW tc 2 : Int), .int .u64 (FW tc 3 : Int), .int .u64 (OW tc 0 : Int), .int .u64 (OW tc 1 : Int), .int .u64 (OW tc 2 : Int), .int .u64 (OW tc 3 : Int), .slice pv j cv1]) (t := 62) (fr := (0, 0)) (alloc_get _ _)) (by simp [Value.oneCell']) (by unfold maxLen; omega) (by omega) (by simp; omega) ?_; intro v4 w4 o4 g4 _)
                have HE : Hid (Below W3.heap.size W3 w4 ∧ ∃ v, w4.ownsRow W3.heap.size 62 10 v4 1 ([.int .i64 (tc.length : Int), .int .u64 (FW tc 0 : Int), .int .u64 (FW tc 1 : Int), .int .u64 (FW tc 2 : Int), .int .u64 (FW tc 3 : Int), .int .u64 (OW tc 0 : Int), .int .u64 (OW tc 1 : Int), .int .u64 (OW tc 2 : Int), .int .u64 (OW tc 3 : Int), v]) ∧ w4.ownsRow W3.heap.size 34 9 v j (ces (srt L))) := by
                  have hb4 : Below wr.heap.size wr w4 := (belA (Below.refl _ _) _).grown g4 (by simp) (fun b e => by cases e)
                  exact ⟨bel0 hB hb4, _, by simpa using o4, own_belQ HOJ.out hb4⟩
                clear o4 g4
                go_wp2_with fail
                go_roundw
                case rel => exact ⟨HE.out.1, .inr ⟨by go_num, HE.out.2⟩⟩
                case measure => simp [intOf]
        · obtain ⟨v, o8, oc⟩ := hV
          obtain ⟨p8', c8, rfl⟩ := shapeQ1 o8
          have hBt := bel0 hB3 hB
          have hgr := keepblk3 hBt HA.out.1
          obtain ⟨hcR, hfR⟩ := cells_block hgr
          have HP : Hid (Below w.heap.size w (((wr.setCell ⟨w.heap.size, 0, none⟩ (.int .i64 b)).setCell ⟨w.heap.size, 1, none⟩ (.slice p8' 1 c8)).setCell ⟨w.heap.size, 2, none⟩ (.bool false)) ∧ (((wr.setCell ⟨w.heap.size, 0, none⟩ (.int .i64 b)).setCell ⟨w.heap.size, 1, none⟩ (.slice p8' 1 c8)).setCell ⟨w.heap.size, 2, none⟩ (.bool false)).heap[w.heap.size]? = some (.cells #[.int .i64 b, .slice p8' 1 c8, .bool false] 26 (0, 0)) ∧ (((wr.setCell ⟨w.heap.size, 0, none⟩ (.int .i64 b)).setCell ⟨w.heap.size, 1, none⟩ (.slice p8' 1 c8)).setCell ⟨w.heap.size, 2, none⟩ (.bool false)).ownsRow w.heap.size 62 10 (.slice p8' 1 c8) 1 ([.int .i64 (tc.length : Int), .int .u64 (FW tc 0 : Int), .int .u64 (FW tc 1 : Int), .int .u64 (FW tc 2 : Int), .int .u64 (FW tc 3 : Int), .int .u64 (OW tc 0 : Int), .int .u64 (OW tc 1 : Int), .int .u64 (OW tc 2 : Int), .int .u64 (OW tc 3 : Int), v]) ∧ (((wr.setCell ⟨w.heap.size, 0, none⟩ (.int .i64 b)).setCell ⟨w.heap.size, 1, none⟩ (.slice p8' 1 c8)).setCell ⟨w.heap.size, 2, none⟩ (.bool false)).ownsRow w.heap.size 34 9 v m (ces (srt L))) := by
            have one : ∀ (X : World) (k : Nat) (u : Value), X.grownBy (X.setCell ⟨w.heap.size, k, none⟩ u) (some w.heap.size) := fun X k u => ⟨rfl, rfl, rfl, by simp, fun j _ hj => heap_setCell_other X ⟨w.heap.size, k, none⟩ j u (fun e => hj (by simp [e]))⟩
            have hg3 := grown_trans (one wr 0 (.int .i64 b)) (grown_trans (one _ 1 (.slice p8' 1 c8)) (one _ 2 (.bool false)))
            have hlt := lt_of_get3 HA.out.1
            have hs3 := hB3.size
            have hs2 := HA.out.2.size
            have h0 := set_get (j := 0) (.int .i64 b) hgr
            have h1 := set_get (j := 1) (.slice p8' 1 c8) h0
            have h2 := set_get (j := 2) (.bool false) h1
            refine ⟨(((bel0 HA.out.2 hBt).setCell (Nat.le_refl _) _).setCell (Nat.le_refl _) _).setCell (Nat.le_refl _) _, by rw [h2]; simp, own_base (o8.kept hg3 (.inr (fun e => ?_))) (by omega), own_base (oc.kept hg3 (.inr (fun e => ?_))) (by omega)⟩
            · have := (o8.lt _ e).1
              omega
            · have := (oc.lt _ e).1
              omega
          clear o8 oc hgr
          go_wp2_with fail
          refine bodyPost_ret (v := .agg #[.int .i64 b, .slice p8' 1 c8, .bool false]) (res_space _ _ w.heap.size _ _ _ Tryz.results42 rfl HP.out.2.1) rfl ?_
          exact ⟨_, _, rfl, HP.out.2.2.1, HP.out.2.2.2, HP.out.1⟩
end Go.Proofs.YtekjbpemaohipaaGreatDoor
