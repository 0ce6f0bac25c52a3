import Derived.Test.YtecgjlpmmailjaaGreatDoorXAN
import Derived.Shelf.SlSortCmp.WholeK
import Derived.Ground.SlsfProg
import Derived.Ground.NamesProg
import Derived.Test.YtecgjlpmmailjaaGreatDoorProg
namespace Go.Proofs.YtecgjlpmmailjaaGreatDoor
open Go.RowKit Go.Shelf
theorem nms_get (L : List (List UInt8)) (k m : Nat) (hm : m < 10) : (nms L)[k * 10 + m]? = (L[k]?).bind (fun t => (nm t)[m]?) := by
  induction L generalizing k with
  | nil => simp [nms]
  | cons t l ih =>
    have hc : nms (t :: l) = nm t ++ nms l := rfl
    have hl : (nm t).length = 10 := rfl
    rw [hc]
    cases k with
    | zero =>
      rw [List.getElem?_append_left (by rw [hl]; omega)]
      simp
    | succ k =>
      rw [List.getElem?_append_right (by rw [hl]; omega), hl, show (k + 1) * 10 + m - 10 = k * 10 + m by omega, ih]
      simp
theorem nm_at {W : World} {B g n cp j : Nat} {c t : List UInt8} {S : List (List UInt8)} (h : W.ownsRow B 103 10 (.slice (some ⟨g, 0, none⟩) n cp) n (nms (c :: S))) (hn : S.length + 1 = n) (ht : S[j]? = some t) : W.cell? ⟨g, 10 + j * 10, none⟩ = some (.string ⟨t.toArray⟩) ∧ W.cell? ⟨g, 10 + j * 10 + 1, none⟩ = some (.int .i64 (t.length : Int)) ∧ W.cell? ⟨g, 10 + j * 10 + 2, none⟩ = some (.int .u64 (FW t 0 : Int)) ∧ W.cell? ⟨g, 10 + j * 10 + 3, none⟩ = some (.int .u64 (FW t 1 : Int)) ∧ W.cell? ⟨g, 10 + j * 10 + 4, none⟩ = some (.int .u64 (FW t 2 : Int)) ∧ W.cell? ⟨g, 10 + j * 10 + 5, none⟩ = some (.int .u64 (FW t 3 : Int)) ∧ W.cell? ⟨g, 10 + j * 10 + 6, none⟩ = some (.int .u64 (OW t 0 : Int)) ∧ W.cell? ⟨g, 10 + j * 10 + 7, none⟩ = some (.int .u64 (OW t 1 : Int)) ∧ W.cell? ⟨g, 10 + j * 10 + 8, none⟩ = some (.int .u64 (OW t 2 : Int)) ∧ W.cell? ⟨g, 10 + j * 10 + 9, none⟩ = some (.int .u64 (OW t 3 : Int)) := by
  have hj := (List.getElem?_eq_some_iff.1 ht).1
  have cc : ∀ m, m < 10 → W.cell? ⟨g, 10 + j * 10 + m, none⟩ = (nm t)[m]? := fun m hm => by
    rw [show 10 + j * 10 + m = (j + 1) * 10 + m by omega, h.cellAt ((j + 1) * 10 + m) (by omega), nms_get _ _ _ hm, List.getElem?_cons_succ, ht]
    rfl
  exact ⟨cc 0 (by omega), cc 1 (by omega), cc 2 (by omega), cc 3 (by omega), cc 4 (by omega), cc 5 (by omega), cc 6 (by omega), cc 7 (by omega), cc 8 (by omega), cc 9 (by omega)⟩
theorem nm_at0 {W : World} {B g n cp : Nat} {c : List UInt8} {S : List (List UInt8)} (h : W.ownsRow B 103 10 (.slice (some ⟨g, 0, none⟩) n cp) n (nms (c :: S))) (hn : S.length + 1 = n) : W.cell? ⟨g, 1, none⟩ = some (.int .i64 (c.length : Int)) ∧ W.cell? ⟨g, 2, none⟩ = some (.int .u64 (FW c 0 : Int)) ∧ W.cell? ⟨g, 3, none⟩ = some (.int .u64 (FW c 1 : Int)) ∧ W.cell? ⟨g, 4, none⟩ = some (.int .u64 (FW c 2 : Int)) ∧ W.cell? ⟨g, 5, none⟩ = some (.int .u64 (FW c 3 : Int)) ∧ W.cell? ⟨g, 6, none⟩ = some (.int .u64 (OW c 0 : Int)) ∧ W.cell? ⟨g, 7, none⟩ = some (.int .u64 (OW c 1 : Int)) ∧ W.cell? ⟨g, 8, none⟩ = some (.int .u64 (OW c 2 : Int)) ∧ W.cell? ⟨g, 9, none⟩ = some (.int .u64 (OW c 3 : Int)) := by
  have cc : ∀ m, m < 10 → W.cell? ⟨g, m, none⟩ = (nm c)[m]? := fun m hm => by
    have e := nms_get (c :: S) 0 m hm
    rw [Nat.zero_mul, Nat.zero_add] at e
    rw [h.cellAt m (by omega), e]
    rfl
  exact ⟨cc 1 (by omega), cc 2 (by omega), cc 3 (by omega), cc 4 (by omega), cc 5 (by omega), cc 6 (by omega), cc 7 (by omega), cc 8 (by omega), cc 9 (by omega)⟩
theorem info_nl : (Tryz.prog.info? 98).map (fun i => (i.zero, i.size, i.bytes)) = some (some (.slice none 0 0), 1, 24) := by kernel_rfl
/-- what is there behind the first loop: one line -/
def LN (w2 W : World) (v : Value) (m : Nat) (K : List (List UInt8)) : Prop := ∃ lv, W.ownsRow w2.heap.size 98 1 v 1 [lv] ∧ W.ownsRow w2.heap.size 103 10 lv (m + 1) (nms K)
theorem LN.below {w2 W X : World} {v : Value} {m : Nat} {K : List (List UInt8)} (h : LN w2 W v m K) (hb : Below W.heap.size W X) : LN w2 X v m K := by
  obtain ⟨lv, a, b⟩ := h
  exact ⟨lv, own_belQ a hb, own_belQ b hb⟩
theorem own_neQ {W : World} {B1 B2 : Nat} {e1 e2 : TypeId} {s1 s2 n1 n2 : Nat} {a v : Value} {xs ys : List Value} (h1 : W.ownsRow B1 e1 s1 a n1 xs) (h2 : W.ownsRow B2 e2 s2 v n2 ys) (hne : e1 ≠ e2) : a.ownBlock = none ∨ a.ownBlock ≠ v.ownBlock := by
  rcases h1.2 with ⟨rfl, _⟩ | ⟨g, c, cur, rfl, _, hg, _⟩
  · exact .inl rfl
  · refine .inr (fun e => ?_)
    rcases h2.2 with ⟨rfl, _⟩ | ⟨g2, c2, cur2, rfl, _, hg2, _⟩
    · cases e
    · have : g = g2 := by injection e
      subst this
      rw [hg] at hg2
      injection hg2 with h
      injection h with _ h _
      exact hne h
theorem res_space {fn : Func} {p : Tmp} {m : Nat × Nat} (tmps : Array Value) (W : World) (b : Nat) (v0 v1 v2 : Value) (hr : fn.results = #[.cell p 28]) (hp : tmps.getD p undef = .pointer (some ⟨b, 0, none⟩)) (h : W.heap[b]? = some (.cells #[v0, v1, v2] 28 m)) : (results fn tmps).run Tryz.prog W = .ok (.agg #[v0, v1, v2]) W := by
  have hc : ∀ j, W.cell? ⟨b, j, none⟩ = (#[v0, v1, v2] : Array Value)[j]? := by
    intro j; unfold World.cell?; rw [h]; simp
  have hp' : tmps[p]?.getD undef = .pointer (some ⟨b, 0, none⟩) := by simpa using hp
  simp [results, hr, hp', go_sem, hc]
set_option maxRecDepth 100000 in
set_option maxHeartbeats 8000000 in
theorem inOrder_one (srt : List (List UInt8) → List (List UInt8)) (hso : SortOK srt) (hsl : ∀ L, (srt L).length = L.length) (b : Int) (t : TRM) (L : List (List UInt8)) (p : Option Addr) (cp : Nat) (w : World) (hm : L.length = t.m) (hm2 : t.m ≤ 1000000) (gc : good t.c = true) (gL : ∀ x ∈ L, good x = true) (hr : IRT w p [t]) (hq : IRC w t.q L) :
    Calls Tryz.prog 31 #[.int .i64 b, .slice p 1 cp] w fun e w' => ∃ V v, e = .returned (.agg #[.int .i64 b, V, .bool false]) ∧ w'.ownsRow w.heap.size 67 10 V 1 ([.int .i64 (t.c.length : Int), .int .u64 (FW t.c 0 : Int), .int .u64 (FW t.c 1 : Int), .int .u64 (FW t.c 2 : Int), .int .u64 (FW t.c 3 : Int), .int .u64 (OW t.c 0 : Int), .int .u64 (OW t.c 1 : Int), .int .u64 (OW t.c 2 : Int), .int .u64 (OW t.c 3 : Int), v]) ∧ w'.ownsRow w.heap.size 58 9 v t.m (ces (srt L)) ∧ Below w.heap.size w w' := by
  obtain ⟨i0, hi, hz0, hz1, hz2⟩ := info_parts info_cubeQ
  obtain ⟨i1, hi1, hy0, hy1, hy2⟩ := info_parts info_term
  obtain ⟨i2, hi2, hx0, hx1, hx2⟩ := info_parts info_nl
  obtain ⟨w2, hw2⟩ : ∃ w2, w.alloc (.cells #[.int .i64 0, .slice none 0 0, .bool false] 28 (0, 0)) = w2 := ⟨_, rfl⟩
  have hA : w2.heap[w.heap.size]? = some (.cells #[.int .i64 0, .slice none 0 0, .bool false] 28 (0, 0)) := by rw [← hw2]; exact alloc_get _ _
  have hB2 : Below w.heap.size w w2 := by rw [← hw2]; exact belA (Below.refl _ _) _
  obtain ⟨tc, tq, m, tk⟩ := t
  simp only at hm hm2 gc hq ⊢
  have HA : Hid (w2.heap[w.heap.size]? = some (.cells #[.int .i64 0, .slice none 0 0, .bool false] 28 (0, 0)) ∧ Below w.heap.size w w2) := ⟨hA, hB2⟩
  have HR : Hid (IRT w2 p [⟨tc, tq, m, tk⟩]) := hr.later hB2
  have HIL : Hid (∀ W, Below w2.heap.size w2 W → Calls Tryz.prog 44 #[.agg #[.int .i64 (tc.length : Int), .int .u64 (FW tc 0 : Int), .int .u64 (FW tc 1 : Int), .int .u64 (FW tc 2 : Int), .int .u64 (FW tc 3 : Int), .int .u64 (OW tc 0 : Int), .int .u64 (OW tc 1 : Int), .int .u64 (OW tc 2 : Int), .int .u64 (OW tc 3 : Int), .slice tq m tk]] W fun e w' => ∃ v, e = .returned v ∧ w'.ownsRow W.heap.size 103 10 v (m + 1) (nms (tc :: srt L)) ∧ Below W.heap.size W w') := fun W hW => inLine_any srt hso tc L m tk tq W hm hm2 gc gL (hq.later (bel0 hB2 hW))
  have HS : Hid ((srt L).length = m) := (hsl L).trans hm
  clear hA hB2 hr hq hm gc gL hso hsl
  go_enter Tryz.func31, Tryz.ntmps31
  go_wp2_with fail
  clear hw2
  go_loopw [5, 16] (fun v5 v16 wr => Below w2.heap.size w2 wr ∧ ((v5 = .slice none 0 0 ∧ v16 = .int .i64 0) ∨ (v16 = .int .i64 1 ∧ LN w2 wr v5 m (tc :: srt L)))) (fun _ v16 _ => 1 - (intOf v16).toNat)
  case atStart => exact ⟨Below.refl _ _, .inl ⟨rfl, rfl⟩⟩
  case round =>
    obtain ⟨hB, ⟨rfl, rfl⟩ | ⟨rfl, hL⟩⟩ := hrel
    · obtain ⟨g, o0, rfl, ⟨p0, p1, p2, p3, p4, p5, p6, p7, p8⟩, p9⟩ := HR.out wr hB 0 _ rfl
      simp only at p0 p1 p2 p3 p4 p5 p6 p7 p8 p9
      rw [Nat.zero_mul, Nat.add_zero] at p0 p1 p2 p3 p4 p5 p6 p7 p8 p9
      obtain ⟨wa, hwa⟩ : ∃ wa, wr.alloc (.cells #[.int .i64 (tc.length : Int), .int .u64 (FW tc 0 : Int), .int .u64 (FW tc 1 : Int), .int .u64 (FW tc 2 : Int), .int .u64 (FW tc 3 : Int), .int .u64 (OW tc 0 : Int), .int .u64 (OW tc 1 : Int), .int .u64 (OW tc 2 : Int), .int .u64 (OW tc 3 : Int), .slice tq m tk] 67 (0, 0)) = wa := ⟨_, rfl⟩
      have hal : Below wr.heap.size wr wa := by rw [← hwa]; exact belA (Below.refl _ _) _
      have hgt : wa.heap[wr.heap.size]? = some (.cells #[.int .i64 (tc.length : Int), .int .u64 (FW tc 0 : Int), .int .u64 (FW tc 1 : Int), .int .u64 (FW tc 2 : Int), .int .u64 (FW tc 3 : Int), .int .u64 (OW tc 0 : Int), .int .u64 (OW tc 1 : Int), .int .u64 (OW tc 2 : Int), .int .u64 (OW tc 3 : Int), .slice tq m tk] 67 (0, 0)) := by rw [← hwa]; exact alloc_get _ _
      obtain ⟨hcT, -⟩ := cells_block hgt
      have hBa := bel0 hB hal
      have H1 := HIL.out wa hBa
      clear hgt
      go_wp2_with fail
      refine H1.mono ?_
      rintro e W1 ⟨v1, rfl, o1, hb1⟩
      clear H1 hcT hwa
      have hB1 := bel0 hBa hb1
      have hs1 := hB1.size
      obtain ⟨pv, cv1, rfl⟩ := shapeQ1 o1
      go_wp2_with (at_builtin; refine wpList_append_own _ rfl _ _ 97 rfl w2.heap.size 98 i2 _ 1 24 Tryz.underlying97 hi2 hx0 hx1 hx2 rfl (by decide) _ _ _ rfl (World.ownsRow_nil _ _ _ _) ⟨_, 0, none⟩ 1 1 [.slice pv (m + 1) cv1] rfl rfl (World.news_of_block (cs := #[.slice pv (m + 1) cv1]) (t := 98) (fr := (0, 0)) (alloc_get _ _)) (by simp [Value.oneCell']) (by unfold maxLen; omega) (by omega) (by simp; omega) ?_; intro v4 w4 o4 g4 _)
      have HE : Hid (Below w2.heap.size w2 w4 ∧ LN w2 w4 v4 m (tc :: srt L)) := by
        have hb4 : Below W1.heap.size W1 w4 := (belA (Below.refl _ _) _).grown g4 (by simp) (fun b e => by cases e)
        exact ⟨bel0 hB1 hb4, _, by simpa using o4, own_base (own_belQ o1 hb4) hBa.size⟩
      clear o4 g4 o1
      go_wp2_with fail
      go_roundw
      case rel => exact ⟨HE.out.1, .inr ⟨by go_num, HE.out.2⟩⟩
      case measure => simp [intOf]
    · obtain ⟨wl, rfl⟩ : ∃ wl, wl = wr := ⟨wr, rfl⟩
      have hsh : ∃ p5 c5, u5 = .slice p5 1 c5 := by
        obtain ⟨lv, a, -⟩ := hL
        exact shapeQ1 a
      obtain ⟨p5, c5, rfl⟩ := hsh
      have HL : Hid (LN w2 wl (.slice p5 1 c5) m (tc :: srt L)) := hL
      clear hL
      go_wp2_with fail
      refine (sort_le1 1 (Nat.le_refl _) p5 c5 wl).mono ?_
      rintro e W3 ⟨rfl, hb3⟩
      have hB3 := bel0 hB hb3
      have HL3 : Hid (LN w2 W3 (.slice p5 1 c5) m (tc :: srt L)) := HL.out.below hb3
      clear HL hB
      go_wp2_with fail
      go_loopw [8, 30] (fun v8 v30 wr => Below W3.heap.size W3 wr ∧ ((v8 = .slice none 0 0 ∧ v30 = .int .i64 0) ∨ (v30 = .int .i64 1 ∧ ∃ v, wr.ownsRow W3.heap.size 67 10 v8 1 ([.int .i64 (tc.length : Int), .int .u64 (FW tc 0 : Int), .int .u64 (FW tc 1 : Int), .int .u64 (FW tc 2 : Int), .int .u64 (FW tc 3 : Int), .int .u64 (OW tc 0 : Int), .int .u64 (OW tc 1 : Int), .int .u64 (OW tc 2 : Int), .int .u64 (OW tc 3 : Int), v]) ∧ wr.ownsRow W3.heap.size 58 9 v m (ces (srt L))))) (fun _ v30 _ => 1 - (intOf v30).toNat)
      case atStart => exact ⟨Below.refl _ _, .inl ⟨rfl, rfl⟩⟩
      case round =>
        obtain ⟨hB, ⟨rfl, rfl⟩ | ⟨rfl, hV⟩⟩ := hrel
        · obtain ⟨lv, oL, oV⟩ := HL3.out
          rcases own_shapeQ oL with ⟨-, h0⟩ | ⟨g5, c5', h5, -⟩
          · omega
          injection h5 with h6 _ h7
          subst h6 h7
          rcases own_shapeQ oV with ⟨-, h0⟩ | ⟨gl, cl, rfl, hcl, -⟩
          · omega
          have q0 : wr.cell? ⟨g5, 0, none⟩ = some (.slice (some ⟨gl, 0, none⟩) (m + 1) cl) := (own_belQ oL hB).cellAt 0 (by omega)
          have HLV : Hid (W3.ownsRow w2.heap.size 103 10 (.slice (some ⟨gl, 0, none⟩) (m + 1) cl) (m + 1) (nms (tc :: srt L))) := oV
          clear oL oV HL3
          have k1 : (1 : Int) ≤ (cl : Int) := by omega
          have k2 : (m : Int) + 1 ≤ (cl : Int) := by omega
          have k3 : 1 ≤ cl := by omega
          by_cases hc1 : cl = 1
          · subst hc1
            obtain rfl : m = 0 := by omega
            go_upto_region 14 with fail
            go_loopw [11, 37] (fun v11 v37 wr => ∃ j : Nat, v37 = .int .i64 (j : Int) ∧ j ≤ 0 ∧ wr.ownsRow W3.heap.size 58 9 v11 j (ces ((srt L).take j)) ∧ Below W3.heap.size W3 wr) (fun _ v37 _ => 0 - (intOf v37).toNat)
            case atStart => exact ⟨0, rfl, Nat.zero_le _, World.ownsRow_nil _ _ _ _, hB⟩
            case round =>
              clear q0 hB
              obtain ⟨j, rfl, hj, oj, hB⟩ := hrel
              by_cases hjm : j < 0
              · omega
              · have r1 : ¬ (j : Int) < (0 : Int) := by omega
                obtain rfl : j = 0 := by omega
                rw [List.take_of_length_le (by rw [HS.out]; exact Nat.le_refl _)] at oj
                obtain ⟨p1, p2, p3, p4, p5', p6, p7, p8, p9⟩ := nm_at0 (own_belQ HLV.out hB) (by rw [HS.out])
                obtain ⟨pv, cv1, rfl⟩ := shapeQ1 oj
                have hs3 := hB.size
                have HOJ : Hid (wr.ownsRow W3.heap.size 58 9 (.slice pv 0 cv1) 0 (ces (srt L))) := oj
                clear oj
                go_wp2_with (at_builtin; refine wpList_append_own _ rfl _ _ 26 rfl W3.heap.size 67 i1 _ 10 96 Tryz.underlying26 hi1 hy0 hy1 hy2 rfl (by decide) _ _ _ rfl (World.ownsRow_nil _ _ _ _) ⟨_, 0, none⟩ 1 1 ([.int .i64 (tc.length : Int), .int .u64 (FW tc 0 : Int), .int .u64 (FW tc 1 : Int), .int .u64 (FW tc 2 : Int), .int .u64 (FW tc 3 : Int), .int .u64 (OW tc 0 : Int), .int .u64 (OW tc 1 : Int), .int .u64 (OW tc 2 : Int), .int .u64 (OW tc 3 : Int), .slice pv 0 cv1]) rfl rfl (World.news_of_block (cs := #[.int .i64 (tc.length : Int), .int .u64 (FW tc 0 : Int), .int .u64 (FW tc 1 : Int), .int .u64 (FW tc 2 : Int), .int .u64 (FW tc 3 : Int), .int .u64 (OW tc 0 : Int), .int .u64 (OW tc 1 : Int), .int .u64 (OW tc 2 : Int), .int .u64 (OW tc 3 : Int), .slice pv 0 cv1]) (t := 67) (fr := (0, 0)) (alloc_get _ _)) (by simp [Value.oneCell']) (by unfold maxLen; omega) (by omega) (by simp; omega) ?_; intro v4 w4 o4 g4 _)
                have HE : Hid (Below W3.heap.size W3 w4 ∧ ∃ v, w4.ownsRow W3.heap.size 67 10 v4 1 ([.int .i64 (tc.length : Int), .int .u64 (FW tc 0 : Int), .int .u64 (FW tc 1 : Int), .int .u64 (FW tc 2 : Int), .int .u64 (FW tc 3 : Int), .int .u64 (OW tc 0 : Int), .int .u64 (OW tc 1 : Int), .int .u64 (OW tc 2 : Int), .int .u64 (OW tc 3 : Int), v]) ∧ w4.ownsRow W3.heap.size 58 9 v 0 (ces (srt L))) := by
                  have hb4 : Below wr.heap.size wr w4 := (belA (Below.refl _ _) _).grown g4 (by simp) (fun b e => by cases e)
                  exact ⟨bel0 hB hb4, _, by simpa using o4, own_belQ HOJ.out hb4⟩
                clear o4 g4
                go_wp2_with fail
                go_roundw
                case rel => exact ⟨HE.out.1, .inr ⟨by go_num, HE.out.2⟩⟩
                case measure => simp [intOf]
          · go_upto_region 14 with fail
            go_loopw [11, 37] (fun v11 v37 wr => ∃ j : Nat, v37 = .int .i64 (j : Int) ∧ j ≤ m ∧ wr.ownsRow W3.heap.size 58 9 v11 j (ces ((srt L).take j)) ∧ Below W3.heap.size W3 wr) (fun _ v37 _ => m - (intOf v37).toNat)
            case atStart => exact ⟨0, rfl, Nat.zero_le _, World.ownsRow_nil _ _ _ _, hB⟩
            case round =>
              clear q0 hB
              obtain ⟨j, rfl, hj, oj, hB⟩ := hrel
              by_cases hjm : j < m
              · have r1 : (j : Int) < (m : Int) := by omega
                have r0 : (0 : Int) ≤ (j : Int) := by omega
                obtain ⟨x, hx⟩ : ∃ x, (srt L)[j]? = some x := ⟨_, List.getElem?_eq_getElem (by rw [HS.out]; exact hjm)⟩
                obtain ⟨p0, p1, p2, p3, p4, p5', p6, p7, p8, p9⟩ := nm_at (own_belQ HLV.out hB) (by rw [HS.out]) hx
                obtain ⟨wa, hwa⟩ : ∃ wa, wr.alloc (.cells #[.string ⟨x.toArray⟩, .int .i64 (x.length : Int), .int .u64 (FW x 0 : Int), .int .u64 (FW x 1 : Int), .int .u64 (FW x 2 : Int), .int .u64 (FW x 3 : Int), .int .u64 (OW x 0 : Int), .int .u64 (OW x 1 : Int), .int .u64 (OW x 2 : Int), .int .u64 (OW x 3 : Int)] 103 (0, 0)) = wa := ⟨_, rfl⟩
                have hal : Below wr.heap.size wr wa := by rw [← hwa]; exact belA (Below.refl _ _) _
                have hgt : wa.heap[wr.heap.size]? = some (.cells #[.string ⟨x.toArray⟩, .int .i64 (x.length : Int), .int .u64 (FW x 0 : Int), .int .u64 (FW x 1 : Int), .int .u64 (FW x 2 : Int), .int .u64 (FW x 3 : Int), .int .u64 (OW x 0 : Int), .int .u64 (OW x 1 : Int), .int .u64 (OW x 2 : Int), .int .u64 (OW x 3 : Int)] 103 (0, 0)) := by rw [← hwa]; exact alloc_get _ _
                obtain ⟨hcT, -⟩ := cells_block hgt
                have hBa := bel0 hB hal
                have hsa := hBa.size
                have oa := own_belQ oj hal
                have HX : Hid (ces ((srt L).take (j + 1)) = ces ((srt L).take j) ++ ce9 x) := by
                  unfold Hid
                  rw [List.take_add_one, hx]
                  exact ces_snoc _ _
                clear hgt hx oj
                go_wp2_with (at_builtin; refine wpList_append_own _ rfl _ _ 32 rfl W3.heap.size 58 i0 _ 9 72 Tryz.underlying32 hi hz0 hz1 hz2 rfl (by decide) _ _ _ rfl (oa.alloc _) ⟨_, 0, none⟩ 1 1 (ce9 x) rfl rfl (World.news_of_block (cs := #[.int .i64 (x.length : Int), .int .u64 (FW x 0 : Int), .int .u64 (FW x 1 : Int), .int .u64 (FW x 2 : Int), .int .u64 (FW x 3 : Int), .int .u64 (OW x 0 : Int), .int .u64 (OW x 1 : Int), .int .u64 (OW x 2 : Int), .int .u64 (OW x 3 : Int)]) (t := 58) (fr := (0, 0)) (alloc_get _ _)) (by simp [ce9, Value.oneCell']) (by unfold maxLen; omega) (by omega) (by simp; omega) ?_; intro v4 w4 o4 g4 _)
                have HE : Hid (w4.ownsRow W3.heap.size 58 9 v4 (j + 1) (ces ((srt L).take (j + 1))) ∧ Below W3.heap.size W3 w4) := ⟨by rw [HX.out]; exact o4, (belA hBa _).grown g4 (by simp; omega) (fun b e => (oa.lt b e).1)⟩
                clear o4 g4 oa hcT
                go_wp2_with fail
                go_roundw
                case rel => exact ⟨j + 1, by go_num, by omega, HE.out.1, HE.out.2⟩
                case measure => simp [intOf]; omega
              · have r1 : ¬ (j : Int) < (m : Int) := by omega
                obtain rfl : j = m := by omega
                rw [List.take_of_length_le (by rw [HS.out]; exact Nat.le_refl _)] at oj
                obtain ⟨p1, p2, p3, p4, p5', p6, p7, p8, p9⟩ := nm_at0 (own_belQ HLV.out hB) (by rw [HS.out])
                obtain ⟨pv, cv1, rfl⟩ := shapeQ1 oj
                have hs3 := hB.size
                have HOJ : Hid (wr.ownsRow W3.heap.size 58 9 (.slice pv j cv1) j (ces (srt L))) := oj
                clear oj
                go_wp2_with (at_builtin; refine wpList_append_own _ rfl _ _ 26 rfl W3.heap.size 67 i1 _ 10 96 Tryz.underlying26 hi1 hy0 hy1 hy2 rfl (by decide) _ _ _ rfl (World.ownsRow_nil _ _ _ _) ⟨_, 0, none⟩ 1 1 ([.int .i64 (tc.length : Int), .int .u64 (FW tc 0 : Int), .int .u64 (FW tc 1 : Int), .int .u64 (FW tc 2 : Int), .int .u64 (FW tc 3 : Int), .int .u64 (OW tc 0 : Int), .int .u64 (OW tc 1 : Int), .int .u64 (OW tc 2 : Int), .int .u64 (OW tc 3 : Int), .slice pv j cv1]) rfl rfl (World.news_of_block (cs := #[.int .i64 (tc.length : Int), .int .u64 (FW tc 0 : Int), .int .u64 (FW tc 1 : Int), .int .u64 (FW tc 2 : Int), .int .u64 (FW tc 3 : Int), .int .u64 (OW tc 0 : Int), .int .u64 (OW tc 1 : Int), .int .u64 (OW tc 2 : Int), .int .u64 (OW tc 3 : Int), .slice pv j cv1]) (t := 67) (fr := (0, 0)) (alloc_get _ _)) (by simp [Value.oneCell']) (by unfold maxLen; omega) (by omega) (by simp; omega) ?_; intro v4 w4 o4 g4 _)
                have HE : Hid (Below W3.heap.size W3 w4 ∧ ∃ v, w4.ownsRow W3.heap.size 67 10 v4 1 ([.int .i64 (tc.length : Int), .int .u64 (FW tc 0 : Int), .int .u64 (FW tc 1 : Int), .int .u64 (FW tc 2 : Int), .int .u64 (FW tc 3 : Int), .int .u64 (OW tc 0 : Int), .int .u64 (OW tc 1 : Int), .int .u64 (OW tc 2 : Int), .int .u64 (OW tc 3 : Int), v]) ∧ w4.ownsRow W3.heap.size 58 9 v j (ces (srt L))) := by
                  have hb4 : Below wr.heap.size wr w4 := (belA (Below.refl _ _) _).grown g4 (by simp) (fun b e => by cases e)
                  exact ⟨bel0 hB hb4, _, by simpa using o4, own_belQ HOJ.out hb4⟩
                clear o4 g4
                go_wp2_with fail
                go_roundw
                case rel => exact ⟨HE.out.1, .inr ⟨by go_num, HE.out.2⟩⟩
                case measure => simp [intOf]
        · obtain ⟨v, o8, oc⟩ := hV
          obtain ⟨p8', c8, rfl⟩ := shapeQ1 o8
          have hBt := bel0 hB3 hB
          have hgr := keepblk3 hBt HA.out.1
          obtain ⟨hcR, hfR⟩ := cells_block hgr
          have HP : Hid (Below w.heap.size w (((wr.setCell ⟨w.heap.size, 0, none⟩ (.int .i64 b)).setCell ⟨w.heap.size, 1, none⟩ (.slice p8' 1 c8)).setCell ⟨w.heap.size, 2, none⟩ (.bool false)) ∧ (((wr.setCell ⟨w.heap.size, 0, none⟩ (.int .i64 b)).setCell ⟨w.heap.size, 1, none⟩ (.slice p8' 1 c8)).setCell ⟨w.heap.size, 2, none⟩ (.bool false)).heap[w.heap.size]? = some (.cells #[.int .i64 b, .slice p8' 1 c8, .bool false] 28 (0, 0)) ∧ (((wr.setCell ⟨w.heap.size, 0, none⟩ (.int .i64 b)).setCell ⟨w.heap.size, 1, none⟩ (.slice p8' 1 c8)).setCell ⟨w.heap.size, 2, none⟩ (.bool false)).ownsRow w.heap.size 67 10 (.slice p8' 1 c8) 1 ([.int .i64 (tc.length : Int), .int .u64 (FW tc 0 : Int), .int .u64 (FW tc 1 : Int), .int .u64 (FW tc 2 : Int), .int .u64 (FW tc 3 : Int), .int .u64 (OW tc 0 : Int), .int .u64 (OW tc 1 : Int), .int .u64 (OW tc 2 : Int), .int .u64 (OW tc 3 : Int), v]) ∧ (((wr.setCell ⟨w.heap.size, 0, none⟩ (.int .i64 b)).setCell ⟨w.heap.size, 1, none⟩ (.slice p8' 1 c8)).setCell ⟨w.heap.size, 2, none⟩ (.bool false)).ownsRow w.heap.size 58 9 v m (ces (srt L))) := by
            have one : ∀ (X : World) (k : Nat) (u : Value), X.grownBy (X.setCell ⟨w.heap.size, k, none⟩ u) (some w.heap.size) := fun X k u => ⟨rfl, rfl, rfl, by simp, fun j _ hj => heap_setCell_other X ⟨w.heap.size, k, none⟩ j u (fun e => hj (by simp [e]))⟩
            have hg3 := grown_trans (one wr 0 (.int .i64 b)) (grown_trans (one _ 1 (.slice p8' 1 c8)) (one _ 2 (.bool false)))
            have hlt := lt_of_get3 HA.out.1
            have hs3 := hB3.size
            have hs2 := HA.out.2.size
            have h0 := set_get (j := 0) (.int .i64 b) hgr
            have h1 := set_get (j := 1) (.slice p8' 1 c8) h0
            have h2 := set_get (j := 2) (.bool false) h1
            refine ⟨(((bel0 HA.out.2 hBt).setCell (Nat.le_refl _) _).setCell (Nat.le_refl _) _).setCell (Nat.le_refl _) _, by rw [h2]; simp, own_base (o8.kept hg3 (.inr (fun e => ?_))) (by omega), own_base (oc.kept hg3 (.inr (fun e => ?_))) (by omega)⟩
            · have := (o8.lt _ e).1
              omega
            · have := (oc.lt _ e).1
              omega
          clear o8 oc hgr
          go_wp2_with fail
          refine bodyPost_ret (v := .agg #[.int .i64 b, .slice p8' 1 c8, .bool false]) (res_space _ _ w.heap.size _ _ _ Tryz.results31 rfl HP.out.2.1) rfl ?_
          exact ⟨_, _, rfl, HP.out.2.2.1, HP.out.2.2.2, HP.out.1⟩
end Go.Proofs.YtecgjlpmmailjaaGreatDoor
namespace Go.Proofs.YtecgjlpmmailjaaGreatDoor
open Go.RowKit Go.Shelf
theorem cmpB_self (a : List UInt8) : Lib.compareBytes a a = 0 := by
  induction a with
  | nil => rfl
  | cons x a ih => simp [Lib.compareBytes, ih]
theorem cmpB_eq : ∀ (a b : List UInt8), Lib.compareBytes a b = 0 → a = b
  | [], [], _ => rfl
  | [], y :: b, h => by simp [Lib.compareBytes] at h
  | x :: a, [], h => by simp [Lib.compareBytes] at h
  | x :: a, y :: b, h => by
    simp only [Lib.compareBytes] at h
    split at h
    · cases h
    · split at h
      · cases h
      · rename_i h1 h2
        have e : x = y := UInt8.le_antisymm (UInt8.not_lt.1 h2) (UInt8.not_lt.1 h1)
        rw [e, cmpB_eq a b h]
theorem cmpB_three : ∀ (a b : List UInt8), (Lib.compareBytes a b = -1 ∧ Lib.compareBytes b a = 1) ∨ (Lib.compareBytes a b = 0 ∧ Lib.compareBytes b a = 0) ∨ (Lib.compareBytes a b = 1 ∧ Lib.compareBytes b a = -1)
  | [], [] => .inr (.inl ⟨rfl, rfl⟩)
  | [], y :: b => .inl ⟨rfl, rfl⟩
  | x :: a, [] => .inr (.inr ⟨rfl, rfl⟩)
  | x :: a, y :: b => by
    simp only [Lib.compareBytes]
    by_cases h1 : x < y
    · have h2 : ¬ y < x := UInt8.not_lt.2 (UInt8.le_of_lt h1)
      simp [h1, h2]
    · by_cases h2 : y < x
      · simp [h1, h2]
      · simp only [h1, h2, if_false]
        exact cmpB_three a b
theorem cmpB_trans : ∀ (a b c : List UInt8), Lib.compareBytes a b < 0 → Lib.compareBytes b c < 0 → Lib.compareBytes a c < 0
  | [], [], c, h, _ => by simp [Lib.compareBytes] at h
  | [], y :: b, [], _, h => by simp [Lib.compareBytes] at h
  | [], y :: b, z :: c, _, _ => by simp [Lib.compareBytes]
  | x :: a, [], c, h, _ => by simp [Lib.compareBytes] at h
  | x :: a, y :: b, [], _, h => by simp [Lib.compareBytes] at h
  | x :: a, y :: b, z :: c, h1, h2 => by
    simp only [Lib.compareBytes] at h1 h2 ⊢
    by_cases hxy : x < y
    · by_cases hyz : y < z
      · rw [if_pos (UInt8.lt_trans hxy hyz)]; decide
      · by_cases hzy : z < y
        · simp [hyz, hzy] at h2
        · have e : y = z := UInt8.le_antisymm (UInt8.not_lt.1 hzy) (UInt8.not_lt.1 hyz)
          rw [← e, if_pos hxy]; decide
    · by_cases hyx : y < x
      · simp [hxy, hyx] at h1
      · have e : x = y := UInt8.le_antisymm (UInt8.not_lt.1 hyx) (UInt8.not_lt.1 hxy)
        subst e
        simp only [hxy, if_false] at h1
        by_cases hyz : x < z
        · rw [if_pos hyz]; decide
        · by_cases hzy : z < x
          · simp [hyz, hzy] at h2
          · simp only [hyz, hzy, if_false] at h2 ⊢
            exact cmpB_trans a b c h1 h2
/-- at most, by bytes -/
def leB (a b : List UInt8) : Bool := decide (Lib.compareBytes a b ≤ 0)
theorem leB_trans (a b c : List UInt8) (h1 : leB a b = true) (h2 : leB b c = true) : leB a c = true := by
  unfold leB at *
  simp only [decide_eq_true_eq] at *
  rcases Int.lt_or_eq_of_le h1 with h1 | h1
  · rcases Int.lt_or_eq_of_le h2 with h2 | h2
    · exact Int.le_of_lt (cmpB_trans a b c h1 h2)
    · rw [← cmpB_eq b c h2]; exact Int.le_of_lt h1
  · rw [cmpB_eq a b h1]; exact h2
theorem leB_total (a b : List UInt8) : (leB a b || leB b a) = true := by
  unfold leB
  rcases cmpB_three a b with ⟨h1, h2⟩ | ⟨h1, h2⟩ | ⟨h1, h2⟩ <;> simp [h1, h2]
theorem leB_anti (a b : List UInt8) (h1 : leB a b = true) (h2 : leB b a = true) : a = b := by
  unfold leB at *
  simp only [decide_eq_true_eq] at *
  rcases cmpB_three a b with ⟨h3, h4⟩ | ⟨h3, h4⟩ | ⟨h3, h4⟩
  · omega
  · exact cmpB_eq a b h3
  · omega
/-- the list in the order of its texts -/
def srtT (L : List (List UInt8)) : List (List UInt8) := L.mergeSort leB
theorem srtT_len (L : List (List UInt8)) : (srtT L).length = L.length := List.length_mergeSort L
theorem srtT_perm (L : List (List UInt8)) : (srtT L).Perm L := List.mergeSort_perm L leB
theorem srtT_sorted (L : List (List UInt8)) : (srtT L).Pairwise (fun a b => leB a b = true) := List.pairwise_mergeSort leB_trans leB_total L
/-- there is but one list in order -/
theorem srt_one {A B : List (List UInt8)} (hp : A.Perm B) (hA : A.Pairwise (fun a b => leB a b = true)) (hB : B.Pairwise (fun a b => leB a b = true)) : A = B :=
  List.Perm.eq_of_pairwise (fun a b _ _ h1 h2 => leB_anti a b h1 h2) hA hB hp
theorem srt_eq {A L : List (List UInt8)} (hp : A.Perm L) (hA : A.Pairwise (fun a b => leB a b = true)) : A = srtT L :=
  srt_one (hp.trans (srtT_perm L).symm) hA (srtT_sorted L)
end Go.Proofs.YtecgjlpmmailjaaGreatDoor
namespace Go.Proofs
open Go.Shelf
def Tryz.lsn_ren : Go.Shelf.Ren := ⟨fun | 6 => 64 | 15 => 66 | 14 => 77 | 28 => 86 | 29 => 87 | 20 => 94 | 21 => 95 | 22 => 96 | 23 => 97 | 24 => 98 | 25 => 99 | 26 => 100 | 27 => 101 | 46 => 110 | 47 => 103 | 48 => 104 | 49 => 111 | 50 => 112 | 57 => 114 | n => n, fun | 22 => 98 | 24 => 103 | 25 => 104 | 3 => 3 | 39 => 125 | 0 => 0 | 53 => 140 | 55 => 54 | 4 => 4 | 46 => 133 | 45 => 132 | 50 => 137 | 5 => 5 | 9 => 9 | 66 => 153 | 70 => 157 | 76 => 163 | 77 => 164 | n => n, fun | n => n⟩
theorem Tryz.lsn : Go.Proofs.SlLaysF0.n6 Tryz.prog Tryz.lsn_ren := {
  mixed := by kernel_rfl
  f6 := ⟨Tryz.f64.name, by decide, Tryz.func64.trans (congrArg some (by kernel_rfl))⟩
  f14 := ⟨Tryz.f77.name, by decide, Tryz.func77.trans (congrArg some (by kernel_rfl))⟩
  f15 := Tryz.func66.trans (congrArg some (by kernel_rfl))
  f20 := ⟨Tryz.f94.name, by decide, Tryz.func94.trans (congrArg some (by kernel_rfl))⟩
  f21 := ⟨Tryz.f95.name, by decide, Tryz.func95.trans (congrArg some (by kernel_rfl))⟩
  f22 := ⟨Tryz.f96.name, by decide, Tryz.func96.trans (congrArg some (by kernel_rfl))⟩
  f23 := ⟨Tryz.f97.name, by decide, Tryz.func97.trans (congrArg some (by kernel_rfl))⟩
  f24 := ⟨Tryz.f98.name, by decide, Tryz.func98.trans (congrArg some (by kernel_rfl))⟩
  f25 := ⟨Tryz.f99.name, by decide, Tryz.func99.trans (congrArg some (by kernel_rfl))⟩
  f26 := ⟨Tryz.f100.name, by decide, Tryz.func100.trans (congrArg some (by kernel_rfl))⟩
  f27 := ⟨Tryz.f101.name, by decide, Tryz.func101.trans (congrArg some (by kernel_rfl))⟩
  f28 := Tryz.func86.trans (congrArg some (by kernel_rfl))
  f29 := Tryz.func87.trans (congrArg some (by kernel_rfl))
  f46 := ⟨Tryz.f110.name, by decide, Tryz.func110.trans (congrArg some (by kernel_rfl))⟩
  f47 := Tryz.func103.trans (congrArg some (by kernel_rfl))
  f48 := Tryz.func104.trans (congrArg some (by kernel_rfl))
  f49 := ⟨Tryz.f111.name, by decide, Tryz.func111.trans (congrArg some (by kernel_rfl))⟩
  f50 := ⟨Tryz.f112.name, by decide, Tryz.func112.trans (congrArg some (by kernel_rfl))⟩
  f57 := ⟨Tryz.f114.name, by decide, Tryz.func114.trans (congrArg some (by kernel_rfl))⟩
  t0 := Tryz.underlying0
  a0 := Tryz.isAgg0
  z0 := Tryz.sizeOf0
  v0 := Tryz.zeroValue0
  t3 := Tryz.underlying3
  a3 := Tryz.isAgg3
  z3 := Tryz.sizeOf3
  v3 := Tryz.zeroValue3
  t4 := Tryz.underlying4
  a4 := Tryz.isAgg4
  z4 := Tryz.sizeOf4
  v4 := Tryz.zeroValue4
  t5 := Tryz.underlying5
  a5 := Tryz.isAgg5
  z5 := Tryz.sizeOf5
  v5 := Tryz.zeroValue5
  t9 := Tryz.underlying9
  a9 := Tryz.isAgg9
  z9 := Tryz.sizeOf9
  v9 := Tryz.zeroValue9
  t22 := Tryz.underlying98
  a22 := Tryz.isAgg98
  z22 := Tryz.sizeOf98
  v22 := Tryz.zeroValue98
  t25 := Tryz.underlying104
  a25 := Tryz.isAgg104
  z25 := Tryz.sizeOf104
  v25 := Tryz.zeroValue104
  t39 := Tryz.underlying125
  a39 := Tryz.isAgg125
  z39 := Tryz.sizeOf125
  v39 := Tryz.zeroValue125
  t45 := Tryz.underlying132
  a45 := Tryz.isAgg132
  z45 := Tryz.sizeOf132
  v45 := Tryz.zeroValue132
  t46 := Tryz.underlying133
  a46 := Tryz.isAgg133
  z46 := Tryz.sizeOf133
  v46 := Tryz.zeroValue133
  t50 := Tryz.underlying137
  a50 := Tryz.isAgg137
  z50 := Tryz.sizeOf137
  v50 := Tryz.zeroValue137
  t53 := Tryz.underlying140
  a53 := Tryz.isAgg140
  z53 := Tryz.sizeOf140
  v53 := Tryz.zeroValue140
  t55 := Tryz.underlying54
  a55 := Tryz.isAgg54
  z55 := Tryz.sizeOf54
  v55 := Tryz.zeroValue54
  t66 := Tryz.underlying153
  a66 := Tryz.isAgg153
  z66 := Tryz.sizeOf153
  v66 := Tryz.zeroValue153
  t70 := Tryz.underlying157
  a70 := Tryz.isAgg157
  z70 := Tryz.sizeOf157
  v70 := Tryz.zeroValue157
  t76 := Tryz.underlying163
  a76 := Tryz.isAgg163
  z76 := Tryz.sizeOf163
  v76 := Tryz.zeroValue163
  t77 := Tryz.underlying164
  a77 := Tryz.isAgg164
  z77 := Tryz.sizeOf164
  v77 := Tryz.zeroValue164 }
end Go.Proofs
namespace Go.Proofs.YtecgjlpmmailjaaGreatDoor
open Go.RowKit Go.Shelf Go.Sort
theorem flat_get (L : List (List UInt8)) (j : Nat) (hj : j < L.length * 10) : (nms L)[j]? = some ((flatK nm 10 L.toArray)[j]!) := by
  have hq : j / 10 < L.length := by omega
  have hm : j % 10 < 10 := Nat.mod_lt _ (by omega)
  rw [get_flatK nm 10 L.toArray j (by simpa using hj)]
  have e := nms_get L (j / 10) (j % 10) hm
  rw [show j / 10 * 10 + j % 10 = j by omega] at e
  rw [e, List.getElem?_eq_getElem hq]
  simp only [Option.bind_some]
  have hl : (nm L[j / 10]).length = 10 := rfl
  rw [show (L.toArray)[j / 10]! = L[j / 10] by simp [hq], List.getElem?_eq_getElem (by rw [hl]; exact hm), getElem!_pos _ _ (by rw [hl]; exact hm)]
theorem sort_own {W : World} {B g c n q : Nat} {x : List UInt8} {L D : List (List UInt8)} {os : Array Obj} (h : W.ownsRow B 103 10 (.slice (some ⟨g, 0, none⟩) (n + 1) c) (n + 1) (nms (x :: L))) (hD : D.length = n) :
    (sortWorldK nm 10 W g 10 q D.toArray os).ownsRow B 103 10 (.slice (some ⟨g, 0, none⟩) (n + 1) c) (n + 1) (nms (x :: D)) ∧ W.grownBy (sortWorldK nm 10 W g 10 q D.toArray os) (some g) := by
  rcases h.2 with ⟨h', _⟩ | ⟨g', cap', cur, h', hb, hg, hnc, hcm, hcs, htake⟩
  · cases h'
  injection h' with a1 _ a3
  injection a1 with a1
  injection a1 with a1
  subst a1 a3
  have hlt := lt_of_get3 hg
  have hheap : (sortWorldK nm 10 W g 10 q D.toArray os).heap = W.heap.modify g (onCells (putCells id 10 (flatK nm 10 D.toArray))) ++ os := rfl
  refine ⟨⟨by rw [nms_len, List.length_cons, hD], .inr ⟨g, c, putCells id 10 (flatK nm 10 D.toArray) cur, rfl, hb, ?_, hnc, hcm, by simp [putCells, hcs], ?_⟩⟩, rfl, rfl, rfl, ?_, ?_⟩
  · rw [hheap, Array.getElem?_append_left (by simpa using hlt), Array.getElem?_modify, if_pos rfl, hg]
    rfl
  · apply List.ext_getElem?
    intro j
    have hcur : ∀ i, i < (n + 1) * 10 → cur[i]? = (nms (x :: L))[i]? := fun i hi => by
      rw [← htake, List.getElem?_take_of_lt hi, Array.getElem?_toList]
    by_cases hj : j < (n + 1) * 10
    · rw [List.getElem?_take_of_lt hj, Array.getElem?_toList]
      have hjc : j < cur.size := by omega
      unfold putCells
      rw [Array.getElem?_mapIdx, Array.getElem?_eq_getElem hjc]
      simp only [Option.map_some, size_flatK, List.size_toArray, hD]
      by_cases h10 : 10 ≤ j
      · rw [if_pos ⟨h10, by omega⟩]
        have e1 : nms (x :: D) = nm x ++ nms D := rfl
        have e2 : (nm x).length = 10 := rfl
        rw [e1, List.getElem?_append_right (by rw [e2]; exact h10), e2, flat_get D (j - 10) (by omega)]
        rfl
      · rw [if_neg (fun e => h10 e.1)]
        have e3 := hcur j hj
        rw [Array.getElem?_eq_getElem hjc] at e3
        have e1 : nms (x :: D) = nm x ++ nms D := rfl
        have e4 : nms (x :: L) = nm x ++ nms L := rfl
        have e2 : (nm x).length = 10 := rfl
        rw [e3, e1, e4, List.getElem?_append_left (by rw [e2]; omega), List.getElem?_append_left (by rw [e2]; omega)]
    · rw [List.getElem?_eq_none (by rw [List.length_take]; omega), List.getElem?_eq_none (by rw [nms_len, List.length_cons, hD]; omega)]
  · rw [hheap]
    simp
  · intro k hk hne
    rw [hheap, Array.getElem?_append_left (by simpa using hk), Array.getElem?_modify, if_neg (fun e => hne (by rw [e]))]
theorem swoB : SWO (ltOf Lib.compareBytes) where
  irrefl x := by simp [ltOf, cmpB_self]
  trans x y z h1 h2 := by
    simp only [ltOf, decide_eq_true_eq] at *
    exact cmpB_trans x y z h1 h2
  ntrans x y z h1 h2 := by
    have k1 : leB y x = true := by
      unfold leB
      simp only [ltOf, decide_eq_false_iff_not] at h1
      rcases cmpB_three x y with ⟨a, b⟩ | ⟨a, b⟩ | ⟨a, b⟩ <;> simp [b] <;> omega
    have k2 : leB z y = true := by
      unfold leB
      simp only [ltOf, decide_eq_false_iff_not] at h2
      rcases cmpB_three y z with ⟨a, b⟩ | ⟨a, b⟩ | ⟨a, b⟩ <;> simp [b] <;> omega
    have k3 := leB_trans z y x k2 k1
    unfold leB at k3
    simp only [ltOf, decide_eq_false_iff_not, decide_eq_true_eq] at *
    rcases cmpB_three x z with ⟨a, b⟩ | ⟨a, b⟩ | ⟨a, b⟩ <;> omega
theorem grow_own {W : World} {B n q : Nat} {e : TypeId} {sz : Nat} {v : Value} {xs : List Value} {os : Array Obj} (h : W.ownsRow B e sz v n xs) (row : Option Nat) : (grow (Sort.ahead W q) os).ownsRow B e sz v n xs ∧ W.grownBy (grow (Sort.ahead W q) os) row := by
  have hg : ∀ r, W.grownBy (grow (Sort.ahead W q) os) r := fun r => ⟨rfl, rfl, rfl, by simp [grow, Sort.ahead], fun k hk _ => by
    show (W.heap ++ os)[k]? = _
    rw [Array.getElem?_append_left hk]⟩
  refine ⟨h.kept (hg none) ?_, hg row⟩
  generalize v.ownBlock = b
  cases b with
  | none => exact .inl rfl
  | some b => exact .inr (by intro e; cases e)
theorem cmpLays (blk off size : Nat) (w : World) : CmpLays Tryz.prog 48 #[] nm 10 Lib.compareBytes blk off size w := fun _ _ _ _ x y => by
  refine (byText_any x y _).mono ?_
  rintro e w' ⟨rfl, rfl⟩
  exact ⟨rfl, 0, _, by rw [alloc_eq_grow, alloc_eq_grow, grow_grow]; rfl⟩
theorem sort_ok : SortOK srtT := fun L x n g c B ad W hL hn ho had => by
  have eg : ∀ args w, (callFunc 48 args).run Tryz.prog w = .ok (.enter 48 args) w := enters_of Tryz.func48 (by kernel_rfl) rfl
  have h1 : ∀ t : List UInt8, ∀ v ∈ nm t, v.oneCell' = true := fun t v hv => by
    simp only [nm, List.mem_cons, List.not_mem_nil, or_false] at hv
    rcases hv with rfl | rfl | rfl | rfl | rfl | rfl | rfl | rfl | rfl | rfl <;> rfl
  have hgl : g < W.heap.size := (ho.lt g rfl).2
  rcases had with ⟨h0, rfl⟩ | rfl
  · subst h0
    obtain rfl := List.length_eq_zero_iff.1 hL
    have hH : HoldsK nm 10 W g 0 (#[] : Array (List UInt8)) := fun j hj => by simp at hj
    have hcon := AnyQ.slices_SortFunc Tryz.lsn 10 Tryz.isAgg103 Tryz.sizeOf103 nm (fun _ => rfl) h1 Lib.compareBytes swoB 48 #[] g 0 (c - 1) #[] W eg (cmpLays g 0 _ W) hH hgl (by simp)
    refine Calls.mono hcon ?_
    rintro e w' ⟨rfl, d', q, os, hp, -, rfl⟩
    have hd : d' = #[] := Array.eq_empty_of_size_eq_zero (by simpa using hp.1)
    subst hd
    have e1 : sortWorldK nm 10 W g 0 q (#[] : Array (List UInt8)) os = grow (Sort.ahead W q) os := by
      unfold sortWorldK
      rw [putRowK_self nm 10 (Sort.ahead W q) g 0 #[] hH]
    have e6 : srtT [] = [] := List.length_eq_zero_iff.1 (srtT_len [])
    rw [e1, e6]
    exact ⟨rfl, grow_own ho _⟩
  · have hH : HoldsK nm 10 W g 10 L.toArray := fun j hj => by
      rw [size_flatK, List.size_toArray, hL] at hj
      refine ⟨?_, ho.frozenAt _⟩
      rw [ho.cellAt (10 + j) (by omega)]
      have e1 : nms (x :: L) = nm x ++ nms L := rfl
      have e2 : (nm x).length = 10 := rfl
      rw [e1, List.getElem?_append_right (by rw [e2]; omega), e2, Nat.add_sub_cancel_left, flat_get L j (by omega)]
      rfl
    have hcon := AnyQ.slices_SortFunc Tryz.lsn 10 Tryz.isAgg103 Tryz.sizeOf103 nm (fun _ => rfl) h1 Lib.compareBytes swoB 48 #[] g 10 (c - 1) L.toArray W eg (cmpLays g 10 _ W) hH hgl (by rw [List.size_toArray]; omega)
    rw [List.size_toArray, hL] at hcon
    refine Calls.mono hcon ?_
    rintro e w' ⟨rfl, d', q, os, hp, hs, rfl⟩
    have hsz : d'.size = n := by have := hp.1; simp at this; omega
    have hperm : d'.toList.Perm L := by
      have h2 := hp.2.2
      rw [show d'.extract 0 n = d' by rw [← hsz]; simp, show L.toArray.extract 0 n = L.toArray by rw [← hL]; simp] at h2
      simpa using h2
    have hpw : d'.toList.Pairwise (fun a b => leB a b = true) := by
      rw [List.pairwise_iff_getElem]
      intro i j hi hj hij
      have hi' : i < d'.size := by simpa using hi
      have hj' : j < d'.size := by simpa using hj
      have h3 := hs i j (Nat.zero_le _) hij (by omega)
      rw [getElem!_pos d' i hi', getElem!_pos d' j hj'] at h3
      simp only [ltOf, decide_eq_false_iff_not] at h3
      unfold leB
      simp only [Array.getElem_toList, decide_eq_true_eq]
      rcases cmpB_three d'[i] d'[j] with ⟨a, b⟩ | ⟨a, b⟩ | ⟨a, b⟩ <;> omega
    have hsrt := srt_eq hperm hpw
    have hD : (srtT L).length = n := by rw [srtT_len, hL]
    have e5 : d' = (srtT L).toArray := by rw [← hsrt]
    rw [e5]
    exact ⟨rfl, sort_own ho hD⟩
end Go.Proofs.YtecgjlpmmailjaaGreatDoor
