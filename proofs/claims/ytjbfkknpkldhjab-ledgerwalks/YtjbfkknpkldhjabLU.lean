import Derived.Test.YtjbfkknpkldhjabLT
import Derived.Test.YtjbfkknpkldhjabLS
import Derived.Test.YtjbfkknpkldhjabLR
import Derived.Test.YtjbfkknpkldhjabLK
namespace Go.Proofs.Ytjbfkknpkldhjab
open Go.RowKit
set_option maxRecDepth 100000 in
set_option maxHeartbeats 4000000 in
theorem ledgerWholes_walk (l : List UInt8) (p : Option Addr) (n c : Nat) (m : Int) (w : World) (hn : l.length = n) (hc : n ≤ c) (hr : BR w p l) (_ : (Lit.int .i64 m).wf = true) :
    Calls Try.prog 6 #[.slice p n c, .int .i64 m] w fun e w' => e = .returned (.bool true) ∧ Below w.heap.size w w' := by
  have HR : Hid (BR w p l) := hr
  have HN : Hid (l.length = n) := hn
  clear hr hn
  by_cases h1 : 200000 < n
  · have h1' : (200000 : Int) < (n : Int) := by omega
    go_enter Try.func6, Try.ntmps6
    go_wp2_with fail
    go_ret
    exact ⟨rfl, Below.refl _ _⟩
  have h1' : ¬ (200000 : Int) < (n : Int) := by omega
  by_cases h2 : m < 0
  · go_enter Try.func6, Try.ntmps6
    go_wp2_with fail
    go_ret
    exact ⟨rfl, Below.refl _ _⟩
  by_cases h3 : (n : Int) < m
  · go_enter Try.func6, Try.ntmps6
    go_wp2_with fail
    go_ret
    exact ⟨rfl, Below.refl _ _⟩
  obtain ⟨M, rfl⟩ : ∃ M : Nat, m = M := ⟨m.toNat, by omega⟩
  have hA : ∀ o : Obj, Below w.heap.size w (w.alloc o) := fun o => (Below.refl _ _).alloc (Nat.le_refl _) o
  have y0 : (0 : Int) ≤ (M : Int) := by omega
  have y1 : (M : Int) ≤ (c : Int) := by omega
  go_enter Try.func6, Try.ntmps6
  go_wp2_with (at_builtin; refine app_bytes rfl _ _ rfl w.heap.size _ [] rfl (OB_empty (alloc_getZ _ _) (Nat.le_refl _)) _ _ _ l rfl HN.out (HR.out.below (hA _)) (by rw [List.length_nil]; omega) (hA _).size ?_)
  intro v1 W1 o1 g1 _
  have E1_ : ES w W1 v1 l := ⟨o1, bel_grZ (hA _) g1 (fun k e => by cases e; exact Nat.le_refl _)⟩
  clear o1 g1
  obtain ⟨p1, c1, rfl, hc1⟩ := E1_.1.shape
  rw [HN.out] at E1_ hc1
  have E1 : Hid (ES w W1 (.slice p1 n c1) l) := E1_
  rw [HN.out]
  have hML : (l.take M).length = M := by rw [List.length_take, HN.out]; omega
  have HRD := whole_any (l.take M) p M c W1 hML (by omega) (by omega) ((HR.out.below E1_.2).take M)
  have y2 : (M : Int) ≤ (c1 : Int) := by omega
  have HML : Hid ((l.take M).length = M) := hML
  clear E1_ hML hA
  obtain ⟨D, hD⟩ : ∃ D, l.take M = D := ⟨_, rfl⟩
  have HD : Hid (l.take M = D) := hD
  rw [hD] at HRD HML
  clear hD
  have hlb : (whL 1 D).length ≤ 200000 := by
    have h5 := plc_len (D := D) (k := (whL 1 D).length) (Nat.le_refl _)
    have h6 := plc_le (D := D) (k := (whL 1 D).length) (Nat.le_refl _)
    rw [HML.out] at h6
    omega
  obtain ⟨NL, hNL⟩ : ∃ NL, (whL 1 D).length = NL := ⟨_, rfl⟩
  obtain ⟨PE, hPE⟩ : ∃ PE, plc D NL = PE := ⟨_, rfl⟩
  obtain ⟨EE, hEE⟩ : ∃ EE, whE 1 D = EE := ⟨_, rfl⟩
  rw [hNL] at hlb
  have HNL : Hid ((whL 1 D).length = NL) := hNL
  have HQ : Hid (∀ w e w', WHQ D w e w' → ∃ p c, e = .returned (.tuple #[.slice p NL c, .int .i64 (PE : Int), .int .i64 (EE : Int)]) ∧ RR w' p (whL 1 D) ∧ Below w.heap.size w w') := fun w e w' h => by
    obtain ⟨v, h1, h2, h3⟩ := h
    obtain ⟨p, c, rfl⟩ := h2.shape
    rw [hNL, hPE, hEE] at h1
    exact ⟨p, c, h1, h2.rr, h3⟩
  clear hNL hPE hEE
  go_wp2_with fail
  refine (HRD.mono (HQ.out _)).mono ?_
  rintro e W2 ⟨p2, c2, rfl, hr2, b2⟩
  have HR2 : Hid (RR W2 p2 (whL 1 D)) := hr2
  have E2 : Hid (ES w W2 (.slice p1 n c1) l) := E1.out.later b2
  clear hr2 b2 E1 HRD
  have HDR := dwhole_any D p1 M c1 W2 HML.out (by omega) (by omega) (by have := E2.out.1.br.take M; rw [HD.out] at this; exact this)
  go_wp2_with fail
  refine (HDR.mono (HQ.out _)).mono ?_
  rintro e W3 ⟨p3, c3, rfl, hr3, b3⟩
  have HRC := records_any (whL 1 D) p2 p3 c2 c3 NL W3 HNL.out (by omega) (HR2.out.below b3) hr3
  have E3 : Hid (ES w W3 (.slice p1 n c1) l) := E2.out.later b3
  clear hr3 b3 E2 HDR
  go_wp2_with fail
  refine HRC.mono ?_
  rintro e W4 ⟨rfl, b4⟩
  have E4 : Hid (ES w W4 (.slice p1 n c1) l) := E3.out.later b4
  clear E3 b4 HRC
  have HK := kept_any l p p1 c c1 n W4 HN.out (by omega) (HR.out.below E4.out.2) E4.out.1.br
  go_wp2_with fail
  refine HK.mono ?_
  rintro e W6 ⟨rfl, b6⟩
  clear HK
  go_wp2_with fail
  refine (fixed_any W6).mono ?_
  rintro e W7 ⟨rfl, b7⟩
  go_wp2_with fail
  go_ret
  exact ⟨rfl, bel0Z (bel0Z E4.out.2 b6) b7⟩
end Go.Proofs.Ytjbfkknpkldhjab
