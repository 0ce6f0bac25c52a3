import Derived.Test.YtdgglglemdbgcaaS2
import Derived.BigQuiet
namespace Go.Proofs.Ytdgglglemdbgcaa
open Go.RowKit

theorem split_any (a b : List UInt8) (L : List (List UInt8)) (w : World) (ha : good a = true) (gb : good b = true) (hL : splT a b = L) :
    Calls Try.prog 21 #[cubeV a, cubeV b] w fun e w' => ∃ v, e = .returned v ∧ w'.ownsRow w.heap.size 26 9 v L.length (cels L) ∧ Below w.heap.size w w' := by
  subst hL
  unfold splT
  cases h : agB a b
  · exact split_no a b w ha h
  · exact split_try a b w ha gb h

theorem cels_get (L : List (List UInt8)) (k m : Nat) (hm : m < 9) : (cels L)[k * 9 + m]? = (L[k]?).bind (fun t => (cel t)[m]?) := by
  induction L generalizing k with
  | nil => simp [cels]
  | cons t l ih =>
    have hc : cels (t :: l) = cel t ++ cels l := rfl
    have hl : (cel t).length = 9 := rfl
    rw [hc]
    cases k with
    | zero =>
      rw [List.getElem?_append_left (by rw [hl]; omega)]
      simp
    | succ k =>
      rw [List.getElem?_append_right (by rw [hl]; omega), hl, show (k + 1) * 9 + m - 9 = k * 9 + m by omega, ih]
      simp

theorem own_cel {W : World} {B g cap k : Nat} {L : List (List UInt8)} (hown : W.ownsRow B 26 9 (.slice (some ⟨g, 0, none⟩) L.length cap) L.length (cels L)) (hk : k < L.length) (m : Nat) (hm : m < 9) : W.cell? ⟨g, k * 9 + m, none⟩ = (cel L[k])[m]? := by
  rw [hown.cellAt (k * 9 + m) (by omega), cels_get L k m hm, List.getElem?_eq_getElem hk]
  rfl

theorem good_set (t : List UInt8) (p : Nat) (x : UInt8) (ht : good t = true) (hx : tri x = true) : good (t.set p x) = true := by
  simp only [good, Bool.and_eq_true, decide_eq_true_eq, List.all_eq_true, List.length_set] at ht ⊢
  refine ⟨ht.1, fun y hy => ?_⟩
  rcases List.mem_or_eq_of_mem_set hy with h | rfl
  · exact ht.2 y h
  · exact hx

theorem good_pcs (a b : List UInt8) (hl : a.length = b.length) (ga : good a = true) (gb : good b = true) (p : Nat) : ∀ x ∈ pcs a b p, good x = true := by
  induction p with
  | zero => intro x hx; simp [pcs] at hx
  | succ p ih =>
    cases hq : qual a b p
    · have hs : ∀ k, p ≤ k → k < p + 1 → qual a b k = false := by
        intro k h1 h2
        have e : k = p := by omega
        subst e
        exact hq
      rw [pcs_skip a b p (p + 1) (by omega) hs]
      exact ih
    · rw [pcs_succ a b p hq]
      intro x hx
      rcases List.mem_append.1 hx with h | h
      · exact ih x h
      · rw [List.mem_singleton] at h
        subst h
        exact good_set _ _ _ (rs_good a b hl ga gb p) (by unfold oth; split <;> decide)

theorem good_spl (a b : List UInt8) (hl : a.length = b.length) (ga : good a = true) (gb : good b = true) : ∀ x ∈ splT a b, good x = true := by
  unfold splT
  split
  · exact good_pcs a b hl ga gb _
  · intro x hx
    rw [List.mem_singleton] at hx
    subst hx
    exact ga

theorem spl_len (a b : List UInt8) (ha : a.length ≤ 256) : (splT a b).length ≤ 256 := by
  unfold splT
  split
  · have := pcs_len a b a.length; omega
  · simp

theorem is_own (a : List UInt8) (w : World) (ha : good a = true) :
    Calls Try.prog 25 #[cubeV a, .string ⟨a.toArray⟩] w fun e w' => e = .returned (.bool true) ∧ Below w.heap.size w w' := by
  have h := is_list a a w ha (good_len ha)
  rw [show (a == a) = true by simp] at h
  exact h

theorem texts_nil (p1 p2 : Option Addr) (c1 c2 : Nat) (w : World) : Calls Try.prog 20 #[.slice p1 0 c1, .slice p2 0 c2] w fun e w' => e = .returned (.bool true) ∧ Below w.heap.size w w' := by
  go_enter Try.func20, Try.ntmps20
  go_wp2
  go_loopw [5] (fun i wr => i = .int .i64 0 ∧ wr = w) (fun _ _ => 0)
  case atStart => exact ⟨rfl, rfl⟩
  case round =>
    obtain ⟨rfl, rfl⟩ := hrel
    go_wp2
    go_ret
    exact ⟨rfl, Below.refl _ _⟩

theorem cub_at {W : World} {B g cap k : Nat} {L : List (List UInt8)} {P : List UInt8} (hown : W.ownsRow B 26 9 (.slice (some ⟨g, 0, none⟩) L.length cap) L.length (cels L)) (hk : k < L.length) (hP : L[k] = P) :
    W.cell? ⟨g, k * 9, none⟩ = some (.int .i64 (P.length : Int)) ∧ W.cell? ⟨g, k * 9 + 1, none⟩ = some (.int .u64 (FW P 0 : Int)) ∧ W.cell? ⟨g, k * 9 + 2, none⟩ = some (.int .u64 (FW P 1 : Int)) ∧ W.cell? ⟨g, k * 9 + 3, none⟩ = some (.int .u64 (FW P 2 : Int)) ∧ W.cell? ⟨g, k * 9 + 4, none⟩ = some (.int .u64 (FW P 3 : Int)) ∧ W.cell? ⟨g, k * 9 + 5, none⟩ = some (.int .u64 (OW P 0 : Int)) ∧ W.cell? ⟨g, k * 9 + 6, none⟩ = some (.int .u64 (OW P 1 : Int)) ∧ W.cell? ⟨g, k * 9 + 7, none⟩ = some (.int .u64 (OW P 2 : Int)) ∧ W.cell? ⟨g, k * 9 + 8, none⟩ = some (.int .u64 (OW P 3 : Int)) := by
  have cc := fun m hm => own_cel hown hk m hm
  rw [hP] at cc
  exact ⟨cc 0 (by omega), cc 1 (by omega), cc 2 (by omega), cc 3 (by omega), cc 4 (by omega), cc 5 (by omega), cc 6 (by omega), cc 7 (by omega), cc 8 (by omega)⟩

theorem st_at {W : World} {B g cap k : Nat} {L : List (List UInt8)} {P : List UInt8} (hown : W.ownsRow B 9 1 (.slice (some ⟨g, 0, none⟩) L.length cap) L.length (sts L)) (hk : k < L.length) (hP : L[k] = P) :
    W.cell? ⟨g, k, none⟩ = some (.string ⟨P.toArray⟩) := by
  rw [hown.cellAt k (by omega)]
  simp [sts, List.getElem?_eq_getElem hk, hP]

theorem quiet_lit3 {P : Program} {id : Nat} {Q : Exit → Act → World → Prop} {a : Act} {w : World} {l : List Oper} {C : World → Prop} (hm : P.follows .mixedOrders = true) (hB : Region.lexB .any l.toArray = true) (hC : C w.drew)
    (h : wpQuiet P l.toArray C (fun a' => ∀ w', C w' → Q .normal a' w') l a) : (Code.region id l.toArray true).wp P Q a w :=
  wp_region_quiet (C := C) hm hB hC (by simpa using h)

/-- the worlds in which the two rows stand -/
def txC (g1 c1 g2 c2 B1 B2 : Nat) (L : List (List UInt8)) (w W : World) : Prop :=
  W.ownsRow B1 26 9 (.slice (some ⟨g1, 0, none⟩) L.length c1) L.length (cels L) ∧ W.ownsRow B2 9 1 (.slice (some ⟨g2, 0, none⟩) L.length c2) L.length (sts L) ∧ Below w.heap.size w W
theorem txC.keep {g1 c1 g2 c2 B1 B2 : Nat} {L : List (List UInt8)} {w W w' : World} (h : txC g1 c1 g2 c2 B1 B2 L w W) (hb : Below W.heap.size W w') : txC g1 c1 g2 c2 B1 B2 L w w' :=
  ⟨owns_below h.1 hb, owns_below h.2.1 hb, bel0 h.2.2 hb⟩

set_option maxHeartbeats 1000000 in
theorem texts_some (L : List (List UInt8)) (g1 c1 g2 c2 B1 B2 : Nat) (w : World) (gL0 : ∀ x ∈ L, good x = true) (hLl : L.length ≤ 256)
    (h1 : w.ownsRow B1 26 9 (.slice (some ⟨g1, 0, none⟩) L.length c1) L.length (cels L)) (h2 : w.ownsRow B2 9 1 (.slice (some ⟨g2, 0, none⟩) L.length c2) L.length (sts L)) :
    Calls Try.prog 20 #[.slice (some ⟨g1, 0, none⟩) L.length c1, .slice (some ⟨g2, 0, none⟩) L.length c2] w fun e w' => e = .returned (.bool true) ∧ Below w.heap.size w w' := by
  have gL : Hid (∀ x ∈ L, good x = true) := gL0
  clear gL0
  go_enter Try.func20, Try.ntmps20
  go_wp2
  go_loopw [5] (fun i wr => ∃ k : Nat, k ≤ L.length ∧ i = .int .i64 k ∧ wr.ownsRow B1 26 9 (.slice (some ⟨g1, 0, none⟩) L.length c1) L.length (cels L) ∧ wr.ownsRow B2 9 1 (.slice (some ⟨g2, 0, none⟩) L.length c2) L.length (sts L) ∧ Below w.heap.size w wr) (fun i _ => L.length - (intOf i).toNat)
  case atStart => exact ⟨0, Nat.zero_le _, rfl, h1, h2, Below.refl _ _⟩
  case round =>
    clear h1 h2
    obtain ⟨k, hk, rfl, h1, h2, hB⟩ := hrel
    by_cases hlt : k < L.length
    · have i0 : (0 : Int) ≤ (k : Int) := by omega
      have i1 : (k : Int) < (L.length : Int) := by omega
      obtain ⟨P, hP⟩ : ∃ P, L[k] = P := ⟨_, rfl⟩
      have gP : good P = true := gL.out P (by rw [← hP]; exact List.getElem_mem hlt)
      have hP' : Hid (L[k] = P) := hP
      clear hP
      go_wp2
      refine quiet_lit3 (C := txC g1 c1 g2 c2 B1 B2 L w) (by kernel_rfl) (by kernel_rfl) ⟨h1.drew, h2.drew, hB.drew⟩ ?_
      clear h1 h2 hB
      go_big_quiet_want
      go_big_quiet_op
      go_big_quiet_on
      go_big_quiet_want
      go_big_quiet_op
      go_big_quiet_on
      go_big_quiet_want
      refine ⟨.pointer (some ⟨g1, k * 9, none⟩), fun W hW => ?_, ?_⟩
      · go_simp
      go_big_quiet_on
      simp only [Act.put, List.setIfInBounds_toArray, List.set_cons_zero, List.set_cons_succ]
      go_big_quiet_want
      refine ⟨.agg #[.int .i64 (P.length : Int), .int .u64 (FW P 0 : Int), .int .u64 (FW P 1 : Int), .int .u64 (FW P 2 : Int), .int .u64 (FW P 3 : Int), .int .u64 (OW P 0 : Int), .int .u64 (OW P 1 : Int), .int .u64 (OW P 2 : Int), .int .u64 (OW P 3 : Int)], fun W hW => ?_, ?_⟩
      · obtain ⟨x0, x1, x2, x3, x4, x5, x6, x7, x8⟩ := cub_at hW.1 hlt hP'.out
        go_simp
      go_big_quiet_on
      simp only [Act.put, List.setIfInBounds_toArray, List.set_cons_zero, List.set_cons_succ]
      go_big_quiet_want
      go_big_quiet_op
      go_big_quiet_on
      go_big_quiet_want
      go_big_quiet_op
      go_big_quiet_on
      go_big_quiet_want
      refine ⟨.pointer (some ⟨g2, k, none⟩), fun W hW => ?_, ?_⟩
      · go_simp
      go_big_quiet_on
      simp only [Act.put, List.setIfInBounds_toArray, List.set_cons_zero, List.set_cons_succ]
      go_big_quiet_want
      refine ⟨.string ⟨P.toArray⟩, fun W hW => ?_, ?_⟩
      · have x0 := st_at hW.2.1 hlt hP'.out
        go_simp
      go_big_quiet_on
      simp only [Act.put, List.setIfInBounds_toArray, List.set_cons_zero, List.set_cons_succ]
      go_big_quiet_want
      refine ⟨.bool true, fun W hW => ?_, ?_⟩
      · go_simp
        refine (is_own P _ gP).mono ?_
        rintro e w' ⟨rfl, hb⟩
        exact ⟨rfl, hW.keep hb⟩
      go_big_quiet_on
      simp only [Act.put, List.setIfInBounds_toArray, List.set_cons_zero, List.set_cons_succ]
      go_big_quiet_want
      go_big_quiet_op
      go_big_quiet_on
      refine wpQuiet_nil ?_
      intro W hW
      go_wp2
      go_roundw
      case rel => exact ⟨k + 1, by omega, by go_num, hW.1, hW.2.1, hW.2.2⟩
      case measure => simp [intOf]; omega
    · have i1 : ¬ (k : Int) < (L.length : Int) := by omega
      go_wp2
      go_ret
      exact ⟨rfl, hB⟩
end Go.Proofs.Ytdgglglemdbgcaa
