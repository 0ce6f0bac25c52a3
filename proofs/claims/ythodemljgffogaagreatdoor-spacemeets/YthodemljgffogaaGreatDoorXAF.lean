import Derived.Test.YthodemljgffogaaGreatDoorXAB
import Derived.Test.YthodemljgffogaaGreatDoorXAE
import Derived.Laws.BytesArg
import Derived.Deep.RegionWith
import Derived.Deep.RegionHeld3
namespace Go.Proofs.YthodemljgffogaaGreatDoor
open Go.RowKit

/-- the cells of a cube -/
def ce9 (t : List UInt8) : List Value := [.int .i64 (t.length : Int), .int .u64 (FW t 0 : Int), .int .u64 (FW t 1 : Int), .int .u64 (FW t 2 : Int), .int .u64 (FW t 3 : Int), .int .u64 (OW t 0 : Int), .int .u64 (OW t 1 : Int), .int .u64 (OW t 2 : Int), .int .u64 (OW t 3 : Int)]
/-- the cells of a list of cubes -/
def ces (l : List (List UInt8)) : List Value := l.flatMap ce9
theorem ces_snoc (l : List (List UInt8)) (t : List UInt8) : ces (l ++ [t]) = ces l ++ ce9 t := by simp [ces]
theorem ces_get (L : List (List UInt8)) (k m : Nat) (hm : m < 9) : (ces L)[k * 9 + m]? = (L[k]?).bind (fun t => (ce9 t)[m]?) := by
  induction L generalizing k with
  | nil => simp [ces]
  | cons t l ih =>
    have hc : ces (t :: l) = ce9 t ++ ces l := rfl
    have hl : (ce9 t).length = 9 := rfl
    rw [hc]
    cases k with
    | zero =>
      rw [List.getElem?_append_left (by rw [hl]; omega)]
      simp
    | succ k =>
      rw [List.getElem?_append_right (by rw [hl]; omega), hl, show (k + 1) * 9 + m - 9 = k * 9 + m by omega, ih]
      simp
theorem ce_at {W : World} {B g cap k : Nat} {L : List (List UInt8)} {P : List UInt8} (hown : W.ownsRow B 64 9 (.slice (some ⟨g, 0, none⟩) L.length cap) L.length (ces L)) (hk : k < L.length) (hP : L[k] = P) :
    W.cell? ⟨g, k * 9, none⟩ = some (.int .i64 (P.length : Int)) ∧ W.cell? ⟨g, k * 9 + 1, none⟩ = some (.int .u64 (FW P 0 : Int)) ∧ W.cell? ⟨g, k * 9 + 2, none⟩ = some (.int .u64 (FW P 1 : Int)) ∧ W.cell? ⟨g, k * 9 + 3, none⟩ = some (.int .u64 (FW P 2 : Int)) ∧ W.cell? ⟨g, k * 9 + 4, none⟩ = some (.int .u64 (FW P 3 : Int)) ∧ W.cell? ⟨g, k * 9 + 5, none⟩ = some (.int .u64 (OW P 0 : Int)) ∧ W.cell? ⟨g, k * 9 + 6, none⟩ = some (.int .u64 (OW P 1 : Int)) ∧ W.cell? ⟨g, k * 9 + 7, none⟩ = some (.int .u64 (OW P 2 : Int)) ∧ W.cell? ⟨g, k * 9 + 8, none⟩ = some (.int .u64 (OW P 3 : Int)) := by
  have cc : ∀ m, m < 9 → W.cell? ⟨g, k * 9 + m, none⟩ = (ce9 P)[m]? := by
    intro m hm
    rw [hown.cellAt (k * 9 + m) (by omega), ces_get L k m hm, List.getElem?_eq_getElem hk, ← hP]
    rfl
  exact ⟨cc 0 (by omega), cc 1 (by omega), cc 2 (by omega), cc 3 (by omega), cc 4 (by omega), cc 5 (by omega), cc 6 (by omega), cc 7 (by omega), cc 8 (by omega)⟩

theorem lt_of_get3 {W : World} {b : Nat} {o : Obj} (h : W.heap[b]? = some o) : b < W.heap.size := (Array.getElem?_eq_some_iff.1 h).1
theorem keepblk3 {W w' : World} {b : Nat} {o : Obj} (hb : Below W.heap.size W w') (h : W.heap[b]? = some o) : w'.heap[b]? = some o := (hb.block b (lt_of_get3 h)).trans h
theorem allocblk3 {W : World} {b : Nat} {o : Obj} (h : W.heap[b]? = some o) (O : Obj) : (W.alloc O).heap[b]? = some o := (Below.heap_alloc _ _ _ (lt_of_get3 h)).trans h

/-- the hull, one cube behind the other; none: one does not fit -/
def hulA : List UInt8 → List (List UInt8) → Option (List UInt8)
  | h, [] => some h
  | h, d :: l => if fitB h d = true then hulA (huT h d) l else none
theorem hulA_app (f : List UInt8) (l m : List (List UInt8)) : hulA f (l ++ m) = (hulA f l).bind (fun h => hulA h m) := by
  induction l generalizing f with
  | nil => rfl
  | cons d l ih =>
    show (if fitB f d = true then hulA (huT f d) (l ++ m) else none) = ((if fitB f d = true then hulA (huT f d) l else none)).bind _
    split
    · exact ih _
    · rfl
theorem hulA_step (f : List UInt8) (L : List (List UInt8)) (k : Nat) (hk : k < L.length) (H : List UInt8) (h : hulA f (L.take k) = some H) (hf : fitB H L[k] = true) : hulA f (L.take (k + 1)) = some (huT H L[k]) := by
  rw [List.take_add_one, hulA_app, h, List.getElem?_eq_getElem hk]
  show (if fitB H L[k] = true then some (huT H L[k]) else none) = _
  rw [if_pos hf]
theorem hulA_stop (f : List UInt8) (L : List (List UInt8)) (k : Nat) (hk : k < L.length) (H : List UInt8) (h : hulA f (L.take k) = some H) (hf : fitB H L[k] = false) : hulA f L = none := by
  have e : L = L.take k ++ (L[k] :: L.drop (k + 1)) := by rw [List.getElem_cons_drop, List.take_append_drop]
  have : hulA f (L.take k ++ (L[k] :: L.drop (k + 1))) = none := by
    rw [hulA_app, h]
    show (if fitB H L[k] = true then hulA (huT H L[k]) _ else none) = none
    rw [hf]; rfl
  rw [← e] at this
  exact this
/-- what Hull answers -/
def hulV (o : Option (List UInt8)) : Value := match o with
  | some h => .tuple #[cubeV h, .int .i64 0]
  | none => .tuple #[cubeV [], .int .i64 11]

end Go.Proofs.YthodemljgffogaaGreatDoor
namespace Go.Proofs.YthodemljgffogaaGreatDoor
open Go.RowKit

theorem alloc_get1 (w : World) (o1 o2 : Obj) : ((w.alloc o1).alloc o2).heap[w.heap.size + 1]? = some o2 := by
  have := alloc_get (w.alloc o1) o2
  simpa using this

/-- what Hull answers -/
def hulF (F : List UInt8) (L : List (List UInt8)) : Option (List UInt8) := if F = [] then none else hulA F L

end Go.Proofs.YthodemljgffogaaGreatDoor
namespace Go.Proofs.YthodemljgffogaaGreatDoor
open Go.RowKit

theorem conv_any (W : World) (B : Nat) (v : Value) (t : List UInt8) (hown : W.ownsRow B 5 1 v t.length (bys t)) :
    (convert 95 9 v).run Tryz.prog W = .ok (.string ⟨t.toArray⟩) W := by
  have h0 := hown
  obtain ⟨_, h2⟩ := hown
  rcases h2 with ⟨rfl, h2⟩ | ⟨g, cap, cur, rfl, h2⟩
  · have hz : t = [] := List.eq_nil_of_length_eq_zero (by simpa using h2)
    subst hz
    exact run_convert_bytes_nil W _ 5 Tryz.underlying95 Tryz.underlying5 _ _ _ Tryz.underlying9
  · exact conv_owned W B g cap t h0

theorem bel_app {w wr w1 : World} {o : Obj} {e : TypeId} {size : Nat} {v : Value} {n : Nat} {xs : List Value} (hB : Below w.heap.size w wr) (hown : wr.ownsRow w.heap.size e size v n xs) (hg : (wr.alloc o).grownBy w1 v.ownBlock) : Below w.heap.size w w1 :=
  (belA hB o).grown hg (belA hB o).size (fun k h => (hown.lt k h).1)

theorem bys_snoc (t : List UInt8) (b : UInt8) : bys t ++ [.int .u8 (b.toNat : Int)] = bys (t ++ [b]) := by simp [bys]

/-- the text of All -/
def allT (n : Int) : List UInt8 := if 1 ≤ n ∧ n ≤ 256 then List.replicate n.toNat 120 else []
theorem good_allT (n : Int) : good (allT n) = true := by
  unfold allT
  split
  · exact good_replicate _ (by omega)
  · exact good_nil
theorem allT_len (n : Int) : (allT n).length ≤ 256 := good_len (good_allT n)

theorem allV (n : Int) (w : World) : Calls Tryz.prog 39 #[.int .i64 n] w fun e w' => e = .returned (cubeV (allT n)) ∧ Below w.heap.size w w' := all_any n w

end Go.Proofs.YthodemljgffogaaGreatDoor
namespace Go.Proofs.YthodemljgffogaaGreatDoor
open Go.RowKit
theorem ne_byte' {b : UInt8} {n : Nat} (h : b ≠ UInt8.ofNat n) : ((b.toNat : Int) != ((n : Nat) : Int)) = true := by
  have := ne_byte h
  unfold bne
  rw [this]; rfl

theorem toList_str (s : ByteArray) : (⟨s.data.toList.toArray⟩ : ByteArray) = s := by
  obtain ⟨l⟩ := s; simp

end Go.Proofs.YthodemljgffogaaGreatDoor
namespace Go.Proofs.YthodemljgffogaaGreatDoor
open Go.RowKit
theorem res_put2 {fn : Func} {p u : Tmp} {m : Nat × Nat} {x0 x1 x2 x3 x4 x5 x6 x7 x8 : Value} (tmps : Array Value) (W : World) (b : Nat) (n a1 a2 a3 a4 o1 o2 o3 o4 : Int) (hr : fn.results = #[.cell p 64, .tmp u]) (hp : tmps.getD p undef = .pointer (some ⟨b, 0, none⟩))
    (h : W.heap[b]? = some (.cells #[x0, x1, x2, x3, x4, x5, x6, x7, x8] 64 m)) :
    (results fn tmps).run Tryz.prog (put9 W b (.int .i64 n) (.int .u64 a1) (.int .u64 a2) (.int .u64 a3) (.int .u64 a4) (.int .u64 o1) (.int .u64 o2) (.int .u64 o3) (.int .u64 o4)).drew
      = .ok (.tuple #[cv n a1 a2 a3 a4 o1 o2 o3 o4, tmps.getD u undef]) (put9 W b (.int .i64 n) (.int .u64 a1) (.int .u64 a2) (.int .u64 a3) (.int .u64 a4) (.int .u64 o1) (.int .u64 o2) (.int .u64 o3) (.int .u64 o4)).drew := by
  have hg := put9_get (.int .i64 n) (.int .u64 a1) (.int .u64 a2) (.int .u64 a3) (.int .u64 a4) (.int .u64 o1) (.int .u64 o2) (.int .u64 o3) (.int .u64 o4) h
  generalize put9 W b (.int .i64 n) (.int .u64 a1) (.int .u64 a2) (.int .u64 a3) (.int .u64 a4) (.int .u64 o1) (.int .u64 o2) (.int .u64 o3) (.int .u64 o4) = V at hg ⊢
  exact res_cube2 tmps V.drew b n a1 a2 a3 a4 o1 o2 o3 o4 hr hp hg

theorem undrew {B : Nat} {a w : World} (h : Below B a.drew w) : Below B a w := ⟨h.os, h.tape, h.output, h.size, h.block⟩
theorem blk_keep {w w1 w2 : World} {o O : Obj} (hb1 : Below (w.alloc o).heap.size (w.alloc o) w1) (hb2 : Below (w1.alloc O).heap.size (w1.alloc O) w2) : w2.heap[w.heap.size]? = some o := by
  have hz : w.heap.size < w1.heap.size := by have := hb1.size; simp at this; omega
  rw [hb2.block _ (by simp; omega), Below.heap_alloc _ _ _ hz, hb1.block _ (by simp)]
  exact alloc_get _ _

end Go.Proofs.YthodemljgffogaaGreatDoor
namespace Go.Proofs.YthodemljgffogaaGreatDoor
open Go.RowKit

theorem meet_any (a b : List UInt8) (w : World) (ha : good a = true) :
    Calls Tryz.prog 48 #[cubeV a, cubeV b] w fun e w' => e = .returned (.tuple #[cubeV (mtT a b), .bool (agB a b)]) ∧ Below w.heap.size w w' := by
  unfold mtT
  cases hq : agB a b
  · exact meet_no a b w ha hq
  · have hl := fitB_len (agB_fit hq)
    have hc := agB_cfl hq
    refine (meet_raw _ _ _ _ _ _ _ _ _ _ _ _ _ _ _ _ _ _ w (fun W => agrees_D a b true W ha hq)).mono ?_
    rintro e w' ⟨rfl, hb⟩
    refine ⟨?_, hb⟩
    rw [FW_meet a b hl, FW_meet a b hl, FW_meet a b hl, FW_meet a b hl, OW_meet a b hl hc, OW_meet a b hl hc, OW_meet a b hl hc, OW_meet a b hl hc, if_pos rfl]
    unfold cubeV
    rw [meetT_len a b hl]

theorem meet_D (a b M : List UInt8) (q : Bool) (w : World) (ha : good a = true) (hM : mtT a b = M) (hq : agB a b = q) :
    Calls Tryz.prog 48 #[cubeV a, cubeV b] w fun e w' => e = .returned (.tuple #[cubeV M, .bool q]) ∧ Below w.heap.size w w' := by
  subst hM hq; exact meet_any a b w ha

theorem wi_eq (a b : List UInt8) (ha : good a = true) (hb : good b = true) : (agB a b && (mtT a b == a)) = wiB a b := by
  unfold wiB mtT
  cases hf : fitB a b
  · have : agB a b = false := by unfold agB; rw [hf]; rfl
    rw [this]; rfl
  · have hl := fitB_len hf
    rw [Bool.true_and, Bool.eq_iff_iff, allTo_iff]
    constructor
    · intro h k hk
      simp only [Bool.and_eq_true] at h
      rw [if_pos h.1, beq_iff_eq] at h
      have hm := meetT_get a b hl k hk
      rw [h.2, List.getElem?_eq_getElem hk] at hm
      have hc := agB_cfl h.1 k
      have hkb : k < b.length := by omega
      have ta := good_tri ha k hk
      have tb := good_tri hb k hkb
      simp only [cfl, fx, on, List.getElem?_eq_getElem hk, List.getElem?_eq_getElem hkb] at hc ⊢
      generalize a[k] = x at *
      generalize b[k] = y at *
      simp [tri] at ta tb
      rcases ta with (rfl | rfl) | rfl <;> rcases tb with (rfl | rfl) | rfl <;> simp_all
    · intro h
      have hag : agB a b = true := by
        unfold agB
        rw [hf, Bool.true_and, allTo_iff]
        intro k hk
        have hkb : k < b.length := by omega
        have hh := h k hk
        simp only [cfl, fx, on, List.getElem?_eq_getElem hk, List.getElem?_eq_getElem hkb] at hh ⊢
        generalize a[k] = x at *
        generalize b[k] = y at *
        simp at hh
        rcases hh with rfl | rfl <;> simp
      rw [hag, Bool.true_and, if_pos rfl, beq_iff_eq]
      apply List.ext_getElem?
      intro k
      by_cases hk : k < a.length
      · have hkb : k < b.length := by omega
        have hh := h k hk
        rw [meetT_get a b hl k hk, List.getElem?_eq_getElem hk]
        simp only [List.getElem?_eq_getElem hk, List.getElem?_eq_getElem hkb] at hh
        generalize a[k] = x at *
        generalize b[k] = y at *
        simp at hh
        rcases hh with rfl | rfl <;> by_cases e : x = 120 <;> simp [e]
      · rw [List.getElem?_eq_none (by rw [meetT_len a b hl]; omega), List.getElem?_eq_none (by omega)]

theorem common_any (a b : List UInt8) (w : World) (hq : agB a b = true) :
    Calls Tryz.prog 73 #[cubeV a, cubeV b] w fun e w' => e = .returned (cubeV (mtT a b)) ∧ Below w.heap.size w w' := by
  unfold mtT
  rw [hq]
  have hl := fitB_len (agB_fit hq)
  have hc := agB_cfl hq
  refine (common_raw _ _ _ _ _ _ _ _ _ _ _ _ _ _ _ _ _ _ w).mono ?_
  rintro e w' ⟨rfl, hb⟩
  refine ⟨?_, hb⟩
  rw [FW_meet a b hl, FW_meet a b hl, FW_meet a b hl, FW_meet a b hl, OW_meet a b hl hc, OW_meet a b hl hc, OW_meet a b hl hc, OW_meet a b hl hc, if_pos rfl]
  unfold cubeV
  rw [meetT_len a b hl]

theorem common_D (a b M : List UInt8) (w : World) (hM : mtT a b = M) (hq : agB a b = true) :
    Calls Tryz.prog 73 #[cubeV a, cubeV b] w fun e w' => e = .returned (cubeV M) ∧ Below w.heap.size w w' := by
  subst hM; exact common_any a b w hq

theorem kpb {a W : World} {g : Nat} {o : Obj} (h : Below a.heap.size a W) (hg : a.heap[g]? = some o) : W.heap[g]? = some o := by
  have hlt : g < a.heap.size := by
    rcases Nat.lt_or_ge g a.heap.size with h1 | h1
    · exact h1
    · rw [Array.getElem?_eq_none h1] at hg; cases hg
  rw [h.block g hlt]; exact hg
theorem und {a W : World} (h : Below a.drew.heap.size a.drew W) : Below a.heap.size a W := undrew h

theorem alw_0 (w : World) (o1 o2 : Obj) : ((w.alloc o1).alloc o2).heap[w.heap.size]? = some o1 := by
  rw [Below.heap_alloc _ _ _ (by simp)]
  exact alloc_get _ _
theorem alw_1 (w : World) (o1 o2 : Obj) : ((w.alloc o1).alloc o2).heap[w.heap.size + 1]? = some o2 := by
  have := alloc_get (w.alloc o1) o2
  simpa using this

set_option maxHeartbeats 1000000 in
theorem within_walk (a b M : List UInt8) (q : Bool) (w : World) (ha : good a = true) (hgM : good M = true) (hM0 : mtT a b = M) (hq0 : agB a b = q) :
    Calls Tryz.prog 70 #[cubeV a, cubeV b] w fun e w' => e = .returned (.bool (q && (M == a))) ∧ Below w.heap.size w w' := by
  have hM : Hid (mtT a b = M) := hM0
  have hq : Hid (agB a b = q) := hq0
  clear hM0 hq0
  have hE := eql_cube M a hgM ha
  unfold cubeV cv
  obtain ⟨W2, hW2⟩ : ∃ W2, (w.alloc (.cells #[.int .i64 (a.length : Int), .int .u64 (FW a 0 : Int), .int .u64 (FW a 1 : Int), .int .u64 (FW a 2 : Int), .int .u64 (FW a 3 : Int), .int .u64 (OW a 0 : Int), .int .u64 (OW a 1 : Int), .int .u64 (OW a 2 : Int), .int .u64 (OW a 3 : Int)] 64 (0, 0))).alloc (.cells #[.int .i64 (b.length : Int), .int .u64 (FW b 0 : Int), .int .u64 (FW b 1 : Int), .int .u64 (FW b 2 : Int), .int .u64 (FW b 3 : Int), .int .u64 (OW b 0 : Int), .int .u64 (OW b 1 : Int), .int .u64 (OW b 2 : Int), .int .u64 (OW b 3 : Int)] 64 (0, 0)) = W2 := ⟨_, rfl⟩
  have hA : W2.heap[w.heap.size]? = some (.cells #[.int .i64 (a.length : Int), .int .u64 (FW a 0 : Int), .int .u64 (FW a 1 : Int), .int .u64 (FW a 2 : Int), .int .u64 (FW a 3 : Int), .int .u64 (OW a 0 : Int), .int .u64 (OW a 1 : Int), .int .u64 (OW a 2 : Int), .int .u64 (OW a 3 : Int)] 64 (0, 0)) := by rw [← hW2]; exact alw_0 _ _ _
  have hB : W2.heap[w.heap.size + 1]? = some (.cells #[.int .i64 (b.length : Int), .int .u64 (FW b 0 : Int), .int .u64 (FW b 1 : Int), .int .u64 (FW b 2 : Int), .int .u64 (FW b 3 : Int), .int .u64 (OW b 0 : Int), .int .u64 (OW b 1 : Int), .int .u64 (OW b 2 : Int), .int .u64 (OW b 3 : Int)] 64 (0, 0)) := by rw [← hW2]; exact alw_1 _ _ _
  have hBW : Below w.heap.size w W2 := by rw [← hW2]; exact belA (belA (Below.refl _ _) _) _
  obtain ⟨hcA, hfA⟩ := cells_block hA
  obtain ⟨hcB, hfB⟩ := cells_block hB
  have KA : Hid (∀ W, Below W2.heap.size W2 W → (∀ j, W.cell? ⟨w.heap.size, j, none⟩ = (#[.int .i64 (a.length : Int), .int .u64 (FW a 0 : Int), .int .u64 (FW a 1 : Int), .int .u64 (FW a 2 : Int), .int .u64 (FW a 3 : Int), .int .u64 (OW a 0 : Int), .int .u64 (OW a 1 : Int), .int .u64 (OW a 2 : Int), .int .u64 (OW a 3 : Int)] : Array Value)[j]?) ∧ (∀ j, W.cell? ⟨w.heap.size + 1, j, none⟩ = (#[.int .i64 (b.length : Int), .int .u64 (FW b 0 : Int), .int .u64 (FW b 1 : Int), .int .u64 (FW b 2 : Int), .int .u64 (FW b 3 : Int), .int .u64 (OW b 0 : Int), .int .u64 (OW b 1 : Int), .int .u64 (OW b 2 : Int), .int .u64 (OW b 3 : Int)] : Array Value)[j]?)) := fun W hW => ⟨(cells_block (kpb hW hA)).1, (cells_block (kpb hW hB)).1⟩
  cases q
  · go_enter Tryz.func70, Tryz.ntmps70
    go_wp2
    clear hW2 hA hB
    go_region_with (go_at_call 72; refine (agrees_D a b false _ ha hq.out).mono ?_; rintro e w1 ⟨rfl, hb1⟩)
    all_goals
      go_wp2
      go_ret
      exact ⟨rfl, bel0 hBW (by first | exact und hb1 | exact hb1)⟩
  · go_enter Tryz.func70, Tryz.ntmps70
    go_wp2
    clear hW2 hA hB
    go_region_held3 (fun W => (∀ j, W.cell? ⟨w.heap.size, j, none⟩ = (#[.int .i64 (a.length : Int), .int .u64 (FW a 0 : Int), .int .u64 (FW a 1 : Int), .int .u64 (FW a 2 : Int), .int .u64 (FW a 3 : Int), .int .u64 (OW a 0 : Int), .int .u64 (OW a 1 : Int), .int .u64 (OW a 2 : Int), .int .u64 (OW a 3 : Int)] : Array Value)[j]?) ∧ (∀ j, W.cell? ⟨w.heap.size + 1, j, none⟩ = (#[.int .i64 (b.length : Int), .int .u64 (FW b 0 : Int), .int .u64 (FW b 1 : Int), .int .u64 (FW b 2 : Int), .int .u64 (FW b 3 : Int), .int .u64 (OW b 0 : Int), .int .u64 (OW b 1 : Int), .int .u64 (OW b 2 : Int), .int .u64 (OW b 3 : Int)] : Array Value)[j]?)) (first | exact ⟨hcA, hcB⟩ | exact KA.out _ (bel0 (und hb1) hb2) | exact KA.out _ (und hb1) | exact KA.out _ hb1) (first | (go_at_call 73; refine (common_D a b M _ hM.out hq.out).mono ?_; rintro e w2 ⟨rfl, hb2⟩; unfold cubeV cv) | (go_at_call 72; refine (agrees_D a b true _ ha hq.out).mono ?_; rintro e w1 ⟨rfl, hb1⟩))
    go_wp2
    go_ret
    exact ⟨rfl, bel0 hBW (bel0 (und hb1) hb2)⟩

theorem within_any (a b : List UInt8) (w : World) (ha : good a = true) (hb : good b = true) :
    Calls Tryz.prog 70 #[cubeV a, cubeV b] w fun e w' => e = .returned (.bool (wiB a b)) ∧ Below w.heap.size w w' := by
  refine (within_walk a b _ _ w ha (good_mtT a b ha hb) rfl rfl).mono ?_
  rintro e w' ⟨rfl, h⟩
  exact ⟨by rw [wi_eq a b ha hb], h⟩
theorem within_D (a b : List UInt8) (q : Bool) (w : World) (ha : good a = true) (hb : good b = true) (h : wiB a b = q) :
    Calls Tryz.prog 70 #[cubeV a, cubeV b] w fun e w' => e = .returned (.bool q) ∧ Below w.heap.size w w' := by
  subst h; exact within_any a b w ha hb
end Go.Proofs.YthodemljgffogaaGreatDoor
