import Derived.Test.YtjbfkknpkldhjabLN
import Derived.Test.YtjbfkknpkldhjabLK
namespace Go.Proofs.Ytjbfkknpkldhjab
open Go.RowKit
set_option maxRecDepth 100000 in
set_option maxHeartbeats 4000000 in
theorem ledgerReads_walk (l : List UInt8) (p : Option Addr) (n c : Nat) (m a : Int) (w : World) (hn : l.length = n) (hc : n ≤ c) (hr : BR w p l) (_ : (Lit.int .i64 m).wf = true) (_ : (Lit.int .i64 a).wf = true) :
    Calls Try.prog 3 #[.slice p n c, .int .i64 m, .int .i64 a] w fun e w' => e = .returned (.bool true) ∧ Below w.heap.size w w' := by
  have HR : Hid (BR w p l) := hr
  have HN : Hid (l.length = n) := hn
  clear hr hn
  by_cases h1 : 200000 < n
  · have h1' : (200000 : Int) < (n : Int) := by omega
    go_enter Try.func3, Try.ntmps3
    go_wp2_with fail
    go_ret
    exact ⟨rfl, Below.refl _ _⟩
  have h1' : ¬ (200000 : Int) < (n : Int) := by omega
  by_cases h2 : m < 0
  · go_enter Try.func3, Try.ntmps3
    go_wp2_with fail
    go_ret
    exact ⟨rfl, Below.refl _ _⟩
  by_cases h3 : (n : Int) < m
  · go_enter Try.func3, Try.ntmps3
    go_wp2_with fail
    go_ret
    exact ⟨rfl, Below.refl _ _⟩
  obtain ⟨M, rfl⟩ : ∃ M : Nat, m = M := ⟨m.toNat, by omega⟩
  have hA : ∀ o : Obj, Below w.heap.size w (w.alloc o) := fun o => (Below.refl _ _).alloc (Nat.le_refl _) o
  have y0 : (0 : Int) ≤ (M : Int) := by omega
  have y1 : (M : Int) ≤ (c : Int) := by omega
  go_enter Try.func3, Try.ntmps3
  go_wp2_with (at_builtin; refine app_bytes rfl _ _ rfl w.heap.size _ [] rfl (OB_empty (alloc_getZ _ _) (Nat.le_refl _)) _ _ _ l rfl HN.out (HR.out.below (hA _)) (by rw [List.length_nil]; omega) (hA _).size ?_)
  intro v1 W1 o1 g1 _
  have E1_ : ES w W1 v1 l := ⟨o1, bel_grZ (hA _) g1 (fun k e => by cases e; exact Nat.le_refl _)⟩
  clear o1 g1
  obtain ⟨p1, c1, rfl, hc1⟩ := E1_.1.shape
  rw [HN.out] at E1_ hc1
  have E1 : Hid (ES w W1 (.slice p1 n c1) l) := E1_
  rw [HN.out]
  have hML : (l.take M).length = M := by rw [List.length_take, HN.out]; omega
  have HRD := read_any (l.take M) p M c a W1 hML (by omega) (by omega) ((HR.out.below E1_.2).take M)
  have y2 : (M : Int) ≤ (c1 : Int) := by omega
  have HML : Hid ((l.take M).length = M) := hML
  clear E1_ hML hA
  obtain ⟨R, hR⟩ : ∃ R, rcR (l.take M) a = R := ⟨_, rfl⟩
  obtain ⟨NX, hNX⟩ : ∃ NX, rcN (l.take M) a = NX := ⟨_, rfl⟩
  obtain ⟨E, hE⟩ : ∃ E, rcE (l.take M) a = E := ⟨_, rfl⟩
  have HQ : Hid (∀ w e w', RDQ (l.take M) a w e w' → e = .returned (.tuple #[.agg #[.int .i64 (R.seq : Int), .int .i64 (R.kind : Int), .string ⟨R.text.toArray⟩], .int .i64 NX, .int .i64 (E : Int)]) ∧ Below w.heap.size w w') := fun w e w' h => by
    obtain ⟨h1, h2⟩ := h
    rw [hR, hNX, hE] at h1
    exact ⟨h1, h2⟩
  clear hR hNX hE
  obtain ⟨rs, rk, rt⟩ := R
  simp only at HQ
  go_wp2_with fail
  refine (HRD.mono (HQ.out _)).mono ?_
  rintro e W2 ⟨rfl, b2⟩
  go_upto_region 5 with fail
  obtain ⟨W3, hW3⟩ : ∃ W3, W2.alloc (.cells #[.int .i64 (rs : Int), .int .i64 (rk : Int), .string ⟨rt.toArray⟩] 24 (0, 0)) = W3 := ⟨_, rfl⟩
  have b3 : Below W2.heap.size W2 W3 := by rw [← hW3]; exact (Below.refl _ _).alloc (Nat.le_refl _) _
  have HX3 : Hid (RBX W3 W2.heap.size rs rk rt) := by rw [← hW3]; exact RBX_new (alloc_getZ _ _)
  have E3 : Hid (ES w W3 (.slice p1 n c1) l) := (E1.out.later b2).later b3
  rw [hW3]
  clear hW3 HRD b2 b3 E1
  have HDR := dread_any (l.take M) p1 M c1 a W3 HML.out (by omega) (by omega) (E3.out.1.br.take M)
  go_wp2_with fail
  refine (HDR.mono (HQ.out _)).mono ?_
  rintro e W4 ⟨rfl, b4⟩
  go_upto_region 6 with fail
  obtain ⟨W5, hW5⟩ : ∃ W5, W4.alloc (.cells #[.int .i64 (rs : Int), .int .i64 (rk : Int), .string ⟨rt.toArray⟩] 24 (0, 0)) = W5 := ⟨_, rfl⟩
  have b5 : Below W4.heap.size W4 W5 := by rw [← hW5]; exact (Below.refl _ _).alloc (Nat.le_refl _) _
  obtain ⟨s0, s1, s2⟩ : RBX W5 W4.heap.size rs rk rt := by rw [← hW5]; exact RBX_new (alloc_getZ _ _)
  obtain ⟨r0, r1, r2⟩ := (HX3.out.below b4).below b5
  have E5 : Hid (ES w W5 (.slice p1 n c1) l) := (E3.out.later b4).later b5
  rw [hW5]
  clear hW5 HDR b4 b5 E3 HX3
  have HK := kept_any l p p1 c c1 n W5 HN.out (by omega) (HR.out.below E5.out.2) E5.out.1.br
  go_wp2_with fail
  refine HK.mono ?_
  rintro e W6 ⟨rfl, b6⟩
  clear HK s0 s1 s2 r0 r1 r2
  go_wp2_with fail
  refine (fixed_any W6).mono ?_
  rintro e W7 ⟨rfl, b7⟩
  go_wp2_with fail
  go_ret
  exact ⟨rfl, bel0Z (bel0Z E5.out.2 b6) b7⟩
end Go.Proofs.Ytjbfkknpkldhjab
