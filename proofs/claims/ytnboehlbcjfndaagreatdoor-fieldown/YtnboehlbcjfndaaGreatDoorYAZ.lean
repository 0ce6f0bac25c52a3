import Derived.Test.YtnboehlbcjfndaaGreatDoorYAY
import Derived.Test.YtnboehlbcjfndaaGreatDoorYAD
namespace Go.Proofs.YtnboehlbcjfndaaGreatDoor
open Go.RowKit Go.Shelf
open Go.RowKit Go.Shelf
end Go.Proofs.YtnboehlbcjfndaaGreatDoor
namespace Go.Proofs.YtnboehlbcjfndaaGreatDoor
open Go.RowKit Go.Shelf
theorem info_fld : (Tryz.prog.info? 39).map (fun i => (i.zero, i.size, i.bytes)) = some (some (.agg #[.string ⟨#[]⟩, .int .i64 0]), 2, 24) := by kernel_rfl
def fels (L : List IFld) : List Value := L.flatMap fcel
theorem fels_snoc (L : List IFld) (f : IFld) : fels (L ++ [f]) = fels L ++ fcel f := by simp [fels]
theorem fels_at (L : List IFld) : ∀ (k : Nat) (f : IFld), L[k]? = some f → (fels L)[k * 2]? = some (.string ⟨f.1.toArray⟩) ∧ (fels L)[k * 2 + 1]? = some (.int .i64 f.2) := by
  induction L with
  | nil => intro k t h; simp at h
  | cons y L ih =>
    intro k t h
    cases k with
    | zero =>
      simp at h
      subst h
      exact ⟨rfl, rfl⟩
    | succ k =>
      have := ih k t (by simpa using h)
      rw [show (k + 1) * 2 = k * 2 + 2 by omega]
      exact this
theorem IRF_own {W : World} {B n : Nat} {o : Option Addr} {c : Nat} {L : List IFld} (h : W.ownsRow B 39 2 (.slice o n c) n (fels L)) (hn : L.length = n) : IRF W o L := fun W' hW k f hf => by
  have hk := (List.getElem?_eq_some_iff.1 hf).1
  obtain ⟨g, rfl⟩ := own_at h (by omega)
  obtain ⟨a0, a1⟩ := fels_at L k f hf
  have h2 := owns_below h hW
  exact ⟨g, 0, rfl, by rw [Nat.zero_add]; exact (h2.cellAt _ (by omega)).trans a0, by rw [Nat.zero_add]; exact (h2.cellAt _ (by omega)).trans a1⟩
set_option maxRecDepth 100000 in
theorem num_any (n : Int) (w : World) : Calls Tryz.prog 11 #[.int .i64 n] w fun e w' => e = .returned (.int .i64 n) ∧ w' = w := by
  go_enter Tryz.func11, Tryz.ntmps11
  go_wp2_with fail
  go_ret
  exact ⟨rfl, rfl⟩
set_option maxRecDepth 100000 in
set_option maxHeartbeats 1000000 in
theorem same_any (L : List (List UInt8)) (B1 B2 : Nat) (va vb : Value) (w : World) (hL : L.length ≤ 4294967296) (ha : w.ownsRow B1 9 1 va L.length (stx L)) (hb : w.ownsRow B2 9 1 vb L.length (stx L)) :
    Calls Tryz.prog 22 #[va, vb] w fun x w' => x = .returned (.bool true) ∧ Below w.heap.size w w' := by
  have HA : Hid (w.ownsRow B1 9 1 va L.length (stx L)) := ha
  have HB : Hid (w.ownsRow B2 9 1 vb L.length (stx L)) := hb
  obtain ⟨qa, ca, rfl⟩ := shapeP ha
  obtain ⟨qb, cb, rfl⟩ := shapeP hb
  clear ha hb
  go_enter Tryz.func22, Tryz.ntmps22
  go_wp2_with fail
  go_loopw [5] (fun vi wr => ∃ i : Nat, vi = .int .i64 i ∧ i ≤ L.length ∧ Below w.heap.size w wr) (fun vi _ => L.length - (intOf vi).toNat)
  case atStart => exact ⟨0, rfl, Nat.zero_le _, Below.refl _ _⟩
  case round =>
    obtain ⟨i, rfl, hi, hW⟩ := hrel
    by_cases hlt : i < L.length
    · have q1 : (i : Int) < (L.length : Int) := by omega
      have q0 : (0 : Int) ≤ (i : Int) := by omega
      have hA := owns_below HA.out hW
      have hB := owns_below HB.out hW
      obtain ⟨ga, ca2, hfa⟩ := own_form hA (by omega)
      obtain ⟨gb, cb2, hfb⟩ := own_form hB (by omega)
      injection hfa with x1 x2 x3
      injection hfb with y1 y2 y3
      subst x1 x3 y1 y3
      have hx := hA.cells rfl i _ (stx_get L i hlt)
      have hy := hB.cells rfl i _ (stx_get L i hlt)
      rw [add0] at hx hy
      obtain ⟨t, ht⟩ : ∃ t, L[i] = t := ⟨_, rfl⟩
      rw [ht] at hx hy
      clear ht HA HB hA hB
      go_wp2_with fail
      go_quiet (fail)
      go_wp2_with fail
      go_roundw
      case rel => exact ⟨i + 1, by go_num, by omega, bel_drewN _ hW⟩
      case measure => simp [intOf]; omega
    · have q1 : ¬ (i : Int) < (L.length : Int) := by omega
      clear HA HB
      go_wp2_with fail
      go_ret
      exact ⟨rfl, hW⟩
theorem cov_439 : covE 4 3 9 = 0 ∧ covL 4 3 9 = [[48, 48, 49, 49], [48, 49, 120, 120], [49, 48, 48, 120]] := by
  have hE : covE 4 3 9 = 0 := by decide
  refine ⟨hE, ?_⟩
  have f1 : fre 3 9 = 0 := by decide
  have f2 : fre 4 9 = 2 := by decide
  have f3 : fre 8 9 = 1 := by decide
  have h : cov 4 3 9 = [[48, 48, 49, 49], [48, 49, 120, 120], [49, 48, 48, 120]] := by
    rw [cov_le (by decide), f1, show 3 + 2 ^ 0 = 4 by decide, cov_le (by decide), f2, show 4 + 2 ^ 2 = 8 by decide, cov_le (by decide), f3, show 8 + 2 ^ 1 = 10 by decide, cov_end (by decide)]
    decide
  unfold covL
  rw [if_pos hE]
  exact h
set_option maxRecDepth 100000 in
set_option maxHeartbeats 1000000 in
theorem known_any (w : World) (hdb : DB w) : Calls Tryz.prog 15 #[] w fun e w' => e = .returned (.bool true) ∧ Below w.heap.size w w' := by
  have HC := cover_any 4 3 9 w hdb
  obtain ⟨hE, hL⟩ := cov_439
  have HN := fun W => num_any 0 W
  have HS := fun va vb W (h1 : W.ownsRow w.heap.size 9 1 va 3 (stx [[48, 48, 49, 49], [48, 49, 120, 120], [49, 48, 48, 120]])) (h2 : W.ownsRow w.heap.size 9 1 vb 3 (stx [[48, 48, 49, 49], [48, 49, 120, 120], [49, 48, 48, 120]])) => same_any [[48, 48, 49, 49], [48, 49, 120, 120], [49, 48, 48, 120]] w.heap.size w.heap.size va vb W (by decide) h1 h2
  have HS2 : Hid (∀ va vb W, W.ownsRow w.heap.size 9 1 va 3 (stx [[48, 48, 49, 49], [48, 49, 120, 120], [49, 48, 48, 120]]) → W.ownsRow w.heap.size 9 1 vb 3 (stx [[48, 48, 49, 49], [48, 49, 120, 120], [49, 48, 48, 120]]) → Calls Tryz.prog 22 #[va, vb] W fun x w' => x = .returned (.bool true) ∧ Below W.heap.size W w') := HS
  have HE : Hid (covE 4 3 9 = 0) := hE
  have HL : Hid (covL 4 3 9 = [[48, 48, 49, 49], [48, 49, 120, 120], [49, 48, 48, 120]]) := hL
  clear hdb HS hE hL
  go_enter Tryz.func15, Tryz.ntmps15
  go_wp2_with fail
  refine HC.mono ?_
  rintro e w1 ⟨v1, rfl, ho1, hb1⟩
  rw [HL.out] at ho1
  rw [HE.out]
  have ho1' : w1.ownsRow w.heap.size 9 1 v1 3 (stx [[48, 48, 49, 49], [48, 49, 120, 120], [49, 48, 48, 120]]) := ho1
  have HO : Hid (w1.ownsRow w.heap.size 9 1 v1 3 (stx [[48, 48, 49, 49], [48, 49, 120, 120], [49, 48, 48, 120]])) := ho1'
  clear ho1 ho1'
  go_wp2_with fail
  refine (HN _).mono ?_
  rintro e w2 ⟨rfl, rfl⟩
  go_wp2_with fail
  refine (HS2.out _ _ _ (HO.out.alloc _) (World.ownsRow_lit (base := w.heap.size) (e := 9) (size := 1) _ #[.string ⟨#[48, 48, 49, 49]⟩, .string ⟨#[48, 49, 120, 120]⟩, .string ⟨#[49, 48, 48, 120]⟩] 3 hb1.size (by unfold maxLen; omega) rfl)).mono ?_
  rintro e w3 ⟨rfl, hb3⟩
  go_wp2_with fail
  go_ret
  exact ⟨rfl, bel0 (hb1.alloc hb1.size _) hb3⟩
end Go.Proofs.YtnboehlbcjfndaaGreatDoor
