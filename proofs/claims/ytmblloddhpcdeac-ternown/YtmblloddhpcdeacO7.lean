import Derived.Test.YtmblloddhpcdeacO6
import Derived.Test.YtmblloddhpcdeacO4
namespace Go.Proofs.Ytmblloddhpcdeac
open Go.RowKit

def ecel (E : Value × Value × List UInt8) : List Value := E.1 :: E.2.1 :: cel E.2.2
def ecels (L : List (Value × Value × List UInt8)) : List Value := L.flatMap ecel
theorem ecels_snoc (l : List (Value × Value × List UInt8)) (t : Value × Value × List UInt8) : ecels (l ++ [t]) = ecels l ++ ecel t := by simp [ecels]
theorem ecels_get (L : List (Value × Value × List UInt8)) (k m : Nat) (hm : m < 11) : (ecels L)[k * 11 + m]? = (L[k]?).bind (fun t => (ecel t)[m]?) := by
  induction L generalizing k with
  | nil => simp [ecels]
  | cons a l ih =>
    have ha : (ecel a).length = 11 := rfl
    show (ecel a ++ ecels l)[k * 11 + m]? = _
    cases k with
    | zero => rw [List.getElem?_append_left (by omega)]; simp
    | succ k =>
      rw [List.getElem?_append_right (by omega), show (k + 1) * 11 + m - (ecel a).length = k * 11 + m by omega, ih]
      simp
def EOK (W : World) (E : Value × Value × List UInt8) : Prop := ∃ n p c B b2, E.1 = .slice p n c ∧ n ≤ 256 ∧ good E.2.2 = true ∧ KG W p c n 64 B b2 E.2.2 E.2.1
theorem KG_below {W X : World} {p : Option Addr} {c k j B b2 : Nat} {M : List UInt8} {G : Value} (h : KG W p c k j B b2 M G) (hb : Below W.heap.size W X) : KG X p c k j B b2 M G := by
  rcases h with ⟨g, e1, e2, o⟩ | ⟨o, v⟩
  · exact .inl ⟨g, e1, e2, owns_below o hb⟩
  · exact .inr ⟨owns_below o hb, owns_below v hb⟩
theorem EOK_below {W X : World} {E : Value × Value × List UInt8} (h : EOK W E) (hb : Below W.heap.size W X) : EOK X E := by
  obtain ⟨n, p, c, B, b2, h1, h2, h3, h4⟩ := h
  exact ⟨n, p, c, B, b2, h1, h2, h3, KG_below h4 hb⟩
theorem EOK_full {W : World} {V G : Value} {M : List UInt8} (h : EOK W (V, G, M)) :
    (∃ p n c, V = .slice p n c) ∧ (∃ p n c, G = .slice p n c) ∧ Calls Try.prog 54 #[V, .agg #[.int .i64 (M.length : Int), .int .u64 (FW M 0 : Int), .int .u64 (FW M 1 : Int), .int .u64 (FW M 2 : Int), .int .u64 (FW M 3 : Int), .int .u64 (OW M 0 : Int), .int .u64 (OW M 1 : Int), .int .u64 (OW M 2 : Int), .int .u64 (OW M 3 : Int)]] W (fun e w' => e = .returned (.bool true) ∧ Below W.heap.size W w') ∧ Calls Try.prog 54 #[G, .agg #[.int .i64 (M.length : Int), .int .u64 (FW M 0 : Int), .int .u64 (FW M 1 : Int), .int .u64 (FW M 2 : Int), .int .u64 (FW M 3 : Int), .int .u64 (OW M 0 : Int), .int .u64 (OW M 1 : Int), .int .u64 (OW M 2 : Int), .int .u64 (OW M 3 : Int)]] W (fun e w' => e = .returned (.bool true) ∧ Below W.heap.size W w') := by
  obtain ⟨n, p, c, B, b2, h1, h2, h3, h4⟩ := h
  simp only at h1 h3 h4
  subst h1
  rcases h4 with ⟨g, rfl, rfl, o⟩ | ⟨o, v⟩
  · have oP : W.ownsRow B 26 9 (.slice (some ⟨g, 0, none⟩) n c) n (cels (List.replicate n M)) := own_preO (m := 64) (by rw [← rep_pre]; exact o) (repO_len _ _)
    exact ⟨⟨_, _, _, rfl⟩, ⟨_, _, _, rfl⟩, full_any M n _ _ W (by omega) h3 oP, full_any M (n + 64) _ _ W (by omega) h3 o⟩
  · obtain ⟨q, c', e⟩ := shapeP o
    exact ⟨⟨_, _, _, rfl⟩, ⟨_, _, _, e⟩, full_any M n _ _ W (by omega) h3 v, full_any M (n + 64) _ _ W (by omega) h3 o⟩

def snC (w W : World) : Prop := Below w.heap.size w W

set_option maxRecDepth 100000 in
set_option maxHeartbeats 4000000 in
theorem seen_any (L : List (Value × Value × List UInt8)) (v : Value) (B : Nat) (w : World) (hl : L.length ≤ 100000) (h1 : w.ownsRow B 65 11 v L.length (ecels L)) (hE0 : ∀ E ∈ L, EOK w E) :
    Calls Try.prog 37 #[v] w fun e w' => e = .returned (.bool true) ∧ Below w.heap.size w w' := by
  have hE : Hid (∀ E ∈ L, EOK w E) := hE0
  obtain ⟨p, c, rfl⟩ := shapeP h1
  have HO : Hid (w.ownsRow B 65 11 (.slice p L.length c) L.length (ecels L)) := h1
  clear hE0 h1
  go_enter Try.func37, Try.ntmps37
  go_wp2
  go_loopw [3] (fun i wr => ∃ k : Nat, k ≤ L.length ∧ i = .int .i64 k ∧ Below w.heap.size w wr) (fun i _ => L.length - (intOf i).toNat)
  case atStart => exact ⟨0, Nat.zero_le _, rfl, Below.refl _ _⟩
  case round =>
    obtain ⟨k, hk, rfl, hB⟩ := hrel
    by_cases hlt : k < L.length
    · have j0 : (0 : Int) ≤ (k : Int) := by omega
      have j1 : (k : Int) < (L.length : Int) := by omega
      obtain ⟨g, rfl⟩ : ∃ g, p = some ⟨g, 0, none⟩ := by
        rcases shapeO HO.out with ⟨_, h⟩ | ⟨g, c', h⟩
        · omega
        · exact ⟨g, by injection h⟩
      obtain ⟨⟨V, G, M⟩, hP⟩ : ∃ P, L[k] = P := ⟨_, rfl⟩
      have hEk : Hid (∀ W, Below w.heap.size w W → EOK W (V, G, M)) := fun W hW => EOK_below (hE.out _ (by rw [← hP]; exact List.getElem_mem hlt)) hW
      have xx : ∀ W, Below w.heap.size w W → ∀ m, m < 11 → W.cell? ⟨g, k * 11 + m, none⟩ = (ecel (V, G, M))[m]? := by
        intro W hW m hm
        rw [(owns_below HO.out hW).cellAt (k * 11 + m) (by omega), ecels_get L k m hm, List.getElem?_eq_getElem hlt, hP]
        rfl
      obtain ⟨⟨p1, n1, c1, rfl⟩, ⟨p2, n2, c2, rfl⟩, -, -⟩ := EOK_full (hEk.out w (Below.refl _ _))
      have XX : Hid (∀ W, Below w.heap.size w W → ∀ m, m < 11 → W.cell? ⟨g, k * 11 + m, none⟩ = (ecel (.slice p1 n1 c1, .slice p2 n2 c2, M))[m]?) := xx
      clear xx hP
      have x0 : wr.cell? ⟨g, k * 11, none⟩ = some (.slice p1 n1 c1) := XX.out wr hB 0 (by omega)
      have x1 : wr.cell? ⟨g, k * 11 + 1, none⟩ = some (.slice p2 n2 c2) := XX.out wr hB 1 (by omega)
      have x2 : wr.cell? ⟨g, k * 11 + 2, none⟩ = some (.int .i64 (M.length : Int)) := XX.out wr hB 2 (by omega)
      have x3 : wr.cell? ⟨g, k * 11 + 3, none⟩ = some (.int .u64 (FW M 0 : Int)) := XX.out wr hB 3 (by omega)
      have x4 : wr.cell? ⟨g, k * 11 + 4, none⟩ = some (.int .u64 (FW M 1 : Int)) := XX.out wr hB 4 (by omega)
      have x5 : wr.cell? ⟨g, k * 11 + 5, none⟩ = some (.int .u64 (FW M 2 : Int)) := XX.out wr hB 5 (by omega)
      have x6 : wr.cell? ⟨g, k * 11 + 6, none⟩ = some (.int .u64 (FW M 3 : Int)) := XX.out wr hB 6 (by omega)
      have x7 : wr.cell? ⟨g, k * 11 + 7, none⟩ = some (.int .u64 (OW M 0 : Int)) := XX.out wr hB 7 (by omega)
      have x8 : wr.cell? ⟨g, k * 11 + 8, none⟩ = some (.int .u64 (OW M 1 : Int)) := XX.out wr hB 8 (by omega)
      have x9 : wr.cell? ⟨g, k * 11 + 9, none⟩ = some (.int .u64 (OW M 2 : Int)) := XX.out wr hB 9 (by omega)
      have x10 : wr.cell? ⟨g, k * 11 + 10, none⟩ = some (.int .u64 (OW M 3 : Int)) := XX.out wr hB 10 (by omega)
      go_wp2_with fail
      have HF : Hid (∀ W, Below w.heap.size w W → Calls Try.prog 54 #[.slice p1 n1 c1, .agg #[.int .i64 (M.length : Int), .int .u64 (FW M 0 : Int), .int .u64 (FW M 1 : Int), .int .u64 (FW M 2 : Int), .int .u64 (FW M 3 : Int), .int .u64 (OW M 0 : Int), .int .u64 (OW M 1 : Int), .int .u64 (OW M 2 : Int), .int .u64 (OW M 3 : Int)]] W (fun e w' => e = .returned (.bool true) ∧ Below w.heap.size w w')) := fun W hW => (EOK_full (hEk.out W hW)).2.2.1.mono (fun e w' h => ⟨h.1, bel0 hW h.2⟩)
      have HG : Hid (∀ W, Below w.heap.size w W → Calls Try.prog 54 #[.slice p2 n2 c2, .agg #[.int .i64 (M.length : Int), .int .u64 (FW M 0 : Int), .int .u64 (FW M 1 : Int), .int .u64 (FW M 2 : Int), .int .u64 (FW M 3 : Int), .int .u64 (OW M 0 : Int), .int .u64 (OW M 1 : Int), .int .u64 (OW M 2 : Int), .int .u64 (OW M 3 : Int)]] W (fun e w' => e = .returned (.bool true) ∧ Below w.heap.size w w')) := fun W hW => (EOK_full (hEk.out W hW)).2.2.2.mono (fun e w' h => ⟨h.1, bel0 hW h.2⟩)
      clear x0 x1 x2 x3 x4 x5 x6 x7 x8 x9 x10
      refine quiet_lit3 (C := snC w) (by kernel_rfl) (by kernel_rfl) (show Below _ _ _ from hB.drew) ?_
      clear hB hEk HO hE
      go_big_quiet_want
      go_big_quiet_op
      go_big_quiet_on
      go_big_quiet_want
      go_big_quiet_op
      go_big_quiet_on
      go_big_quiet_want
      refine ⟨.pointer (some ⟨g, k * 11, none⟩), fun W hW => ?_, ?_⟩
      · go_simp
      go_big_quiet_on
      simp only [Act.put, List.setIfInBounds_toArray, List.set_cons_zero, List.set_cons_succ]
      go_big_quiet_want
      refine ⟨.pointer (some ⟨g, k * 11, none⟩), fun W hW => ?_, ?_⟩
      · go_simp
      go_big_quiet_on
      simp only [Act.put, List.setIfInBounds_toArray, List.set_cons_zero, List.set_cons_succ]
      go_big_quiet_want
      refine ⟨(.slice p1 n1 c1), fun W hW => ?_, ?_⟩
      · have x0 : W.cell? ⟨g, k * 11, none⟩ = some (.slice p1 n1 c1) := XX.out W hW 0 (by omega)
        go_simp
      go_big_quiet_on
      simp only [Act.put, List.setIfInBounds_toArray, List.set_cons_zero, List.set_cons_succ]
      go_big_quiet_want
      go_big_quiet_op
      go_big_quiet_on
      go_big_quiet_want
      go_big_quiet_op
      go_big_quiet_on
      go_big_quiet_want
      refine ⟨.pointer (some ⟨g, k * 11, none⟩), fun W hW => ?_, ?_⟩
      · go_simp
      go_big_quiet_on
      simp only [Act.put, List.setIfInBounds_toArray, List.set_cons_zero, List.set_cons_succ]
      go_big_quiet_want
      refine ⟨.pointer (some ⟨g, k * 11 + 2, none⟩), fun W hW => ?_, ?_⟩
      · go_simp
      go_big_quiet_on
      simp only [Act.put, List.setIfInBounds_toArray, List.set_cons_zero, List.set_cons_succ]
      go_big_quiet_want
      refine ⟨.agg #[.int .i64 (M.length : Int), .int .u64 (FW M 0 : Int), .int .u64 (FW M 1 : Int), .int .u64 (FW M 2 : Int), .int .u64 (FW M 3 : Int), .int .u64 (OW M 0 : Int), .int .u64 (OW M 1 : Int), .int .u64 (OW M 2 : Int), .int .u64 (OW M 3 : Int)], fun W hW => ?_, ?_⟩
      · have x2 : W.cell? ⟨g, k * 11 + 2, none⟩ = some (.int .i64 (M.length : Int)) := XX.out W hW 2 (by omega)
        have x3 : W.cell? ⟨g, k * 11 + 3, none⟩ = some (.int .u64 (FW M 0 : Int)) := XX.out W hW 3 (by omega)
        have x4 : W.cell? ⟨g, k * 11 + 4, none⟩ = some (.int .u64 (FW M 1 : Int)) := XX.out W hW 4 (by omega)
        have x5 : W.cell? ⟨g, k * 11 + 5, none⟩ = some (.int .u64 (FW M 2 : Int)) := XX.out W hW 5 (by omega)
        have x6 : W.cell? ⟨g, k * 11 + 6, none⟩ = some (.int .u64 (FW M 3 : Int)) := XX.out W hW 6 (by omega)
        have x7 : W.cell? ⟨g, k * 11 + 7, none⟩ = some (.int .u64 (OW M 0 : Int)) := XX.out W hW 7 (by omega)
        have x8 : W.cell? ⟨g, k * 11 + 8, none⟩ = some (.int .u64 (OW M 1 : Int)) := XX.out W hW 8 (by omega)
        have x9 : W.cell? ⟨g, k * 11 + 9, none⟩ = some (.int .u64 (OW M 2 : Int)) := XX.out W hW 9 (by omega)
        have x10 : W.cell? ⟨g, k * 11 + 10, none⟩ = some (.int .u64 (OW M 3 : Int)) := XX.out W hW 10 (by omega)
        go_simp
      go_big_quiet_on
      simp only [Act.put, List.setIfInBounds_toArray, List.set_cons_zero, List.set_cons_succ]
      go_big_quiet_want
      refine ⟨.bool true, fun W hW => ?_, ?_⟩
      · go_simp
        refine (HF.out W hW).mono ?_
        rintro e w' ⟨rfl, hb⟩
        exact ⟨rfl, hb⟩
      go_big_quiet_on
      simp only [Act.put, List.setIfInBounds_toArray, List.set_cons_zero, List.set_cons_succ]
      go_big_quiet_want
      refine ⟨.bool false, fun W hW => ?_, ?_⟩
      · go_simp
      go_big_quiet_on
      simp only [Act.put, List.setIfInBounds_toArray, List.set_cons_zero, List.set_cons_succ]
      go_big_quiet_want
      go_big_quiet_op
      go_big_quiet_on
      go_big_quiet_want
      go_big_quiet_op
      go_big_quiet_on
      go_big_quiet_want
      go_big_quiet_op
      go_big_quiet_on
      go_big_quiet_want
      refine ⟨.pointer (some ⟨g, k * 11, none⟩), fun W hW => ?_, ?_⟩
      · go_simp
      go_big_quiet_on
      simp only [Act.put, List.setIfInBounds_toArray, List.set_cons_zero, List.set_cons_succ]
      go_big_quiet_want
      refine ⟨.pointer (some ⟨g, k * 11 + 1, none⟩), fun W hW => ?_, ?_⟩
      · go_simp
      go_big_quiet_on
      simp only [Act.put, List.setIfInBounds_toArray, List.set_cons_zero, List.set_cons_succ]
      go_big_quiet_want
      refine ⟨(.slice p2 n2 c2), fun W hW => ?_, ?_⟩
      · have x1 : W.cell? ⟨g, k * 11 + 1, none⟩ = some (.slice p2 n2 c2) := XX.out W hW 1 (by omega)
        go_simp
      go_big_quiet_on
      simp only [Act.put, List.setIfInBounds_toArray, List.set_cons_zero, List.set_cons_succ]
      go_big_quiet_want
      go_big_quiet_op
      go_big_quiet_on
      go_big_quiet_want
      go_big_quiet_op
      go_big_quiet_on
      go_big_quiet_want
      refine ⟨.pointer (some ⟨g, k * 11, none⟩), fun W hW => ?_, ?_⟩
      · go_simp
      go_big_quiet_on
      simp only [Act.put, List.setIfInBounds_toArray, List.set_cons_zero, List.set_cons_succ]
      go_big_quiet_want
      refine ⟨.pointer (some ⟨g, k * 11 + 2, none⟩), fun W hW => ?_, ?_⟩
      · go_simp
      go_big_quiet_on
      simp only [Act.put, List.setIfInBounds_toArray, List.set_cons_zero, List.set_cons_succ]
      go_big_quiet_want
      refine ⟨.agg #[.int .i64 (M.length : Int), .int .u64 (FW M 0 : Int), .int .u64 (FW M 1 : Int), .int .u64 (FW M 2 : Int), .int .u64 (FW M 3 : Int), .int .u64 (OW M 0 : Int), .int .u64 (OW M 1 : Int), .int .u64 (OW M 2 : Int), .int .u64 (OW M 3 : Int)], fun W hW => ?_, ?_⟩
      · have x2 : W.cell? ⟨g, k * 11 + 2, none⟩ = some (.int .i64 (M.length : Int)) := XX.out W hW 2 (by omega)
        have x3 : W.cell? ⟨g, k * 11 + 3, none⟩ = some (.int .u64 (FW M 0 : Int)) := XX.out W hW 3 (by omega)
        have x4 : W.cell? ⟨g, k * 11 + 4, none⟩ = some (.int .u64 (FW M 1 : Int)) := XX.out W hW 4 (by omega)
        have x5 : W.cell? ⟨g, k * 11 + 5, none⟩ = some (.int .u64 (FW M 2 : Int)) := XX.out W hW 5 (by omega)
        have x6 : W.cell? ⟨g, k * 11 + 6, none⟩ = some (.int .u64 (FW M 3 : Int)) := XX.out W hW 6 (by omega)
        have x7 : W.cell? ⟨g, k * 11 + 7, none⟩ = some (.int .u64 (OW M 0 : Int)) := XX.out W hW 7 (by omega)
        have x8 : W.cell? ⟨g, k * 11 + 8, none⟩ = some (.int .u64 (OW M 1 : Int)) := XX.out W hW 8 (by omega)
        have x9 : W.cell? ⟨g, k * 11 + 9, none⟩ = some (.int .u64 (OW M 2 : Int)) := XX.out W hW 9 (by omega)
        have x10 : W.cell? ⟨g, k * 11 + 10, none⟩ = some (.int .u64 (OW M 3 : Int)) := XX.out W hW 10 (by omega)
        go_simp
      go_big_quiet_on
      simp only [Act.put, List.setIfInBounds_toArray, List.set_cons_zero, List.set_cons_succ]
      go_big_quiet_want
      refine ⟨.bool true, fun W hW => ?_, ?_⟩
      · go_simp
        refine (HG.out W hW).mono ?_
        rintro e w' ⟨rfl, hb⟩
        exact ⟨rfl, hb⟩
      go_big_quiet_on
      simp only [Act.put, List.setIfInBounds_toArray, List.set_cons_zero, List.set_cons_succ]
      go_big_quiet_want
      refine ⟨.bool false, fun W hW => ?_, ?_⟩
      · go_simp
      go_big_quiet_on
      simp only [Act.put, List.setIfInBounds_toArray, List.set_cons_zero, List.set_cons_succ]
      go_big_quiet_want
      refine ⟨.bool false, fun W hW => ?_, ?_⟩
      · go_simp
      go_big_quiet_on
      simp only [Act.put, List.setIfInBounds_toArray, List.set_cons_zero, List.set_cons_succ]
      refine wpQuiet_nil ?_
      intro W hW
      go_wp2
      go_roundw
      case rel => exact ⟨k + 1, by omega, by go_num, hW⟩
      case measure => simp [intOf]; omega
    · have j1 : ¬ (k : Int) < (L.length : Int) := by omega
      go_wp2
      go_ret
      exact ⟨rfl, hB⟩
end Go.Proofs.Ytmblloddhpcdeac
