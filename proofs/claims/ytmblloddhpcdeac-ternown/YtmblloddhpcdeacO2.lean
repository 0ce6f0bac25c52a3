import Derived.Test.YtmblloddhpcdeacO1
import Derived.Test.YtmblloddhpcdeacS4
import Derived.Test.YtmblloddhpcdeacY5
namespace Go.Proofs.Ytmblloddhpcdeac
open Go.RowKit

theorem cels_takeO (L : List (List UInt8)) (k : Nat) (hk : k < L.length) (P : List UInt8) (hP : L[k] = P) : cels (L.take (k + 1)) = cels (L.take k) ++ cel P := by
  rw [List.take_add_one, List.getElem?_eq_getElem hk, hP]
  exact cels_snoc _ _
theorem shapeO {W : World} {B n : Nat} {e : TypeId} {v : Value} {xs : List Value} {sz : Nat} (h : W.ownsRow B e sz v n xs) : (v = .slice none 0 0 ∧ n = 0) ∨ ∃ g c, v = .slice (some ⟨g, 0, none⟩) n c := by
  rcases h.2 with ⟨rfl, rfl⟩ | ⟨g, c, _, rfl, _⟩
  · exact .inl ⟨rfl, rfl⟩
  · exact .inr ⟨g, c, rfl⟩
theorem alloc1O (w : World) (o : Obj) : (w.alloc o).heap[w.heap.size]? = some o := alloc_get w o

set_option maxHeartbeats 1000000 in
theorem copied_any (L : List (List UInt8)) (V : Value) (B : Nat) (w : World) (hl : L.length ≤ 1000) (h1 : w.ownsRow B 26 9 V L.length (cels L)) :
    Calls Try.prog 35 #[V] w fun e w' => ∃ v, e = .returned v ∧ w'.ownsRow w.heap.size 26 9 v L.length (cels L) ∧ Below w.heap.size w w' := by
  obtain ⟨i0, hi, hz0, hz1, hz2⟩ := info_parts info_cube
  rcases shapeO h1 with ⟨rfl, hn⟩ | ⟨g, c, rfl⟩
  · obtain rfl : L = [] := List.eq_nil_of_length_eq_zero hn
    clear h1 hn
    go_enter Try.func35, Try.ntmps35
    go_wp2
    go_loopw [3, 4] (fun v i wr => v = .slice none 0 0 ∧ i = .int .i64 0 ∧ w = wr) (fun _ _ _ => 0)
    case atStart => exact ⟨rfl, rfl, rfl⟩
    case round =>
      obtain ⟨rfl, rfl, rfl⟩ := hrel
      go_wp2
      go_ret
      exact ⟨_, rfl, World.ownsRow_nil _ _ _ _, Below.refl _ _⟩
  · have hgw : g < w.heap.size := (h1.lt g rfl).2
    go_enter Try.func35, Try.ntmps35
    go_wp2
    go_loopw [3, 4] (fun v i wr => ∃ k : Nat, k ≤ L.length ∧ i = .int .i64 k ∧ wr.ownsRow w.heap.size 26 9 v k (cels (L.take k)) ∧ wr.ownsRow B 26 9 (.slice (some ⟨g, 0, none⟩) L.length c) L.length (cels L) ∧ Below w.heap.size w wr) (fun _ i _ => L.length - (intOf i).toNat)
    case atStart => exact ⟨0, Nat.zero_le _, rfl, World.ownsRow_nil _ _ _ _, h1, Below.refl _ _⟩
    case round =>
      clear h1
      obtain ⟨k, hk, rfl, hown, h1, hB⟩ := hrel
      by_cases hlt : k < L.length
      · have j0 : (0 : Int) ≤ (k : Int) := by omega
        have j1 : (k : Int) < (L.length : Int) := by omega
        obtain ⟨P, hP⟩ : ∃ P, L[k] = P := ⟨_, rfl⟩
        obtain ⟨x0, x1, x2, x3, x4, x5, x6, x7, x8⟩ := cub_at h1 hlt hP
        have hs : Hid (cels (L.take (k + 1)) = cels (L.take k) ++ cel P) := cels_takeO L k hlt P hP
        clear hP
        go_wp2_with (at_builtin; refine wpList_append_own _ rfl _ _ 51 rfl w.heap.size 26 i0 _ 9 72 Try.underlying51 hi hz0 hz1 hz2 rfl (by decide) _ _ _ rfl (hown.alloc _) ⟨wr.heap.size, 0, none⟩ 1 1 (cel P) rfl rfl (World.news_of_block (cs := #[.int .i64 (P.length : Int), .int .u64 (FW P 0 : Int), .int .u64 (FW P 1 : Int), .int .u64 (FW P 2 : Int), .int .u64 (FW P 3 : Int), .int .u64 (OW P 0 : Int), .int .u64 (OW P 1 : Int), .int .u64 (OW P 2 : Int), .int .u64 (OW P 3 : Int)]) (t := 26) (fr := (0, 0)) (alloc1O _ _)) (by simp [cel, Value.oneCell']) (by unfold maxLen; omega) (by omega) (by have := hB.size; simp; omega) ?_; intro v' w1 hown' hgrow _)
        go_roundw
        case rel => exact ⟨k + 1, by omega, by go_num, by rw [hs.out]; exact hown', (h1.alloc _).kept hgrow (.inr (fun e => by have := (hown.lt g e.symm).1; omega)), bel_app hB hown hgrow⟩
        case measure => simp [intOf]; omega
      · have j1 : ¬ (k : Int) < (L.length : Int) := by omega
        obtain rfl : k = L.length := by omega
        rw [List.take_length] at hown
        go_wp2
        go_ret
        exact ⟨_, rfl, hown, hB⟩

set_option maxHeartbeats 1000000 in
theorem alike_any (L : List (List UInt8)) (V1 V2 : Value) (B1 B2 : Nat) (w : World) (hl : L.length ≤ 1000) (gL0 : ∀ x ∈ L, good x = true) (h1 : w.ownsRow B1 26 9 V1 L.length (cels L)) (h2 : w.ownsRow B2 26 9 V2 L.length (cels L)) :
    Calls Try.prog 38 #[V1, V2] w fun e w' => e = .returned (.bool true) ∧ Below w.heap.size w w' := by
  have gL : Hid (∀ x ∈ L, good x = true) := gL0
  clear gL0
  have hlen : ((L.length : Int) != (L.length : Int)) = false := by simp
  have hnil : L.length = 0 → ∀ q1 q2 c1 c2, Calls Try.prog 38 #[.slice q1 0 c1, .slice q2 0 c2] w fun e w' => e = .returned (.bool true) ∧ Below w.heap.size w w' := by
    intro _ q1 q2 c1 c2
    clear hlen h1 h2
    go_enter Try.func38, Try.ntmps38
    go_wp2
    go_loopw [5] (fun i wr => i = .int .i64 0 ∧ w = wr) (fun _ _ => 0)
    case atStart => exact ⟨rfl, rfl⟩
    case round =>
      obtain ⟨rfl, rfl⟩ := hrel
      go_wp2
      go_ret
      exact ⟨rfl, Below.refl _ _⟩
  rcases shapeO h1 with ⟨rfl, hn⟩ | ⟨g1, c1, rfl⟩
  · rcases shapeO h2 with ⟨rfl, _⟩ | ⟨g2, c2, rfl⟩
    · exact hnil hn _ _ _ _
    · rw [hn]; exact hnil hn _ _ _ _
  · rcases shapeO h2 with ⟨rfl, hn⟩ | ⟨g2, c2, rfl⟩
    · rw [hn]; exact hnil hn _ _ _ _
    · clear hnil
      have Hc1 : Hid (w.ownsRow B1 26 9 (.slice (some ⟨g1, 0, none⟩) L.length c1) L.length (cels L)) := h1
      have Hc2 : Hid (w.ownsRow B2 26 9 (.slice (some ⟨g2, 0, none⟩) L.length c2) L.length (cels L)) := h2
      clear h1 h2
      go_enter Try.func38, Try.ntmps38
      go_wp2
      go_loopw [5] (fun i wr => ∃ k n : Nat, k ≤ L.length ∧ i = .int .i64 k ∧ wr = w.drewN n) (fun i _ => L.length - (intOf i).toNat)
      case atStart => exact ⟨0, 0, Nat.zero_le _, rfl, rfl⟩
      case round =>
        obtain ⟨k, nn, hk, rfl, rfl⟩ := hrel
        by_cases hlt : k < L.length
        · have j0 : (0 : Int) ≤ (k : Int) := by omega
          have j1 : (k : Int) < (L.length : Int) := by omega
          obtain ⟨P, hP⟩ : ∃ P, L[k] = P := ⟨_, rfl⟩
          have gP : good P = true := gL.out P (by rw [← hP]; exact List.getElem_mem hlt)
          obtain ⟨x0, x1, x2, x3, x4, x5, x6, x7, x8⟩ := cub_at Hc1.out hlt hP
          obtain ⟨y0, y1, y2, y3, y4, y5, y6, y7, y8⟩ := cub_at Hc2.out hlt hP
          have eP : ∀ W, (Op.equalIn 10000 26 (.agg #[.int .i64 (P.length : Int), .int .u64 (FW P 0 : Int), .int .u64 (FW P 1 : Int), .int .u64 (FW P 2 : Int), .int .u64 (FW P 3 : Int), .int .u64 (OW P 0 : Int), .int .u64 (OW P 1 : Int), .int .u64 (OW P 2 : Int), .int .u64 (OW P 3 : Int)]) (.agg #[.int .i64 (P.length : Int), .int .u64 (FW P 0 : Int), .int .u64 (FW P 1 : Int), .int .u64 (FW P 2 : Int), .int .u64 (FW P 3 : Int), .int .u64 (OW P 0 : Int), .int .u64 (OW P 1 : Int), .int .u64 (OW P 2 : Int), .int .u64 (OW P 3 : Int)])).run Try.prog W = .ok true W := fun W => by rw [eql_cube P P gP gP W]; simp
          clear hP gP
          go_wp2
          go_quiet (fail)
          go_wp2
          go_roundw
          case rel => exact ⟨k + 1, nn + nq, by omega, by go_num, rfl⟩
          case measure => simp [intOf]; omega
        · have j1 : ¬ (k : Int) < (L.length : Int) := by omega
          go_wp2
          go_ret
          exact ⟨rfl, below_drewN _ _ _⟩
end Go.Proofs.Ytmblloddhpcdeac
