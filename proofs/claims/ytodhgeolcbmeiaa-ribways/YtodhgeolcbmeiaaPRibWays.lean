import Derived.Test.YtodhgeolcbmeiaaRows
import Derived.Test.YtodhgeolcbmeiaaD9
import Derived.Test.YtodhgeolcbmeiaaSB
import Derived.ProofKit
import Derived.OpenShut
import Derived.ShutString
import Derived.ChangeOld
import Derived.Below
import Derived.Carry
import Derived.SizedLaws
namespace Go.Proofs.Ytodhgeolcbmeiaa
open Go.ChangeShapes Go.WideShapes Go.ChangeAt Go.RowKit

theorem ribWays_own : ownKnob Try.prog.godebug = none := by kernel_rfl
theorem ribWays_laid : laidOutB Try.prog = true := by kernel_rfl
set_option maxRecDepth 100000 in
theorem ribWays_lifted (os : Os) (started : os.Started) (H : Type) (enc : TypeId × Value → H) :
    ReturnsInHanded {} Try.checked os 5 .any (Rows.ribWaysSpec.pre6 enc Try.prog Try.f5 Rows.ribWaysRow.domain false) (Rows.ribWaysSpec.post enc Try.prog Try.f5 false true false false) := by
  refine returnsInHanded_of_change (C := Try.checked) ribWays_own started (by kernel_rfl) Try.func5
    (ChangeSpec.witness6 (enc := enc) (C := Try.checked) false ⟨#[], #[.int .i64 0, .slice none 0 0, .slice none 0 0], []⟩ 8 (by kernel_rfl) (by kernel_rfl) (by kernel_rfl) (by kernel_rfl)) ?_
  intro W base args ds gs before hval0 hW hcnd _
  have hval : ∀ (j : Nat) t v, Try.f5.params[j]? = some t → args[j]? = some v → Value.okWide Try.prog W .any base t v := hval0
  have hW' := hW
  obtain ⟨p, q, hA0, hV, rfl, hfz, hnd⟩ := hW
  have hA : DataW.TrodAll enc Try.prog W 0 (fun _ => true) true Try.f5.params.toList args.toList ds p := hA0
  rw [Try.params5] at hA hval
  obtain ⟨v0, vs0, d0, ds0, p0, q0, hargs, rfl, rfl, h0, r0⟩ := trodAll_cons hA
  obtain ⟨v1, vs1, d1, ds1, p1, q1, rfl, rfl, rfl, h1, r1⟩ := trodAll_cons r0
  obtain ⟨v2, vs2, d2, ds2, p2, q2, rfl, rfl, rfl, h2, r2⟩ := trodAll_cons r1
  obtain ⟨rfl, rfl, rfl⟩ := trodAll_nil r2
  obtain rfl : args = #[v0, v1, v2] := by cases args; simp_all
  obtain ⟨rfl, rfl⟩ := trodVars_none hV
  obtain ⟨a0, rfl, rfl, rfl, w0⟩ := open_int Try.underlying3 (hval 0 3 v0 rfl rfl) h0
  obtain ⟨ad1, len1, cap1, rfl⟩ := okWide_slice Try.underlying22 (hval 1 22 v1 rfl rfl)
  obtain ⟨ad2, len2, cap2, rfl⟩ := okWide_slice Try.underlying23 (hval 2 23 v2 rfl rfl)
  have k1 := h1
  have k2 := h2
  have lt1 : ∀ x ∈ p1, x.block < W.heap.size := by obtain ⟨m, hm⟩ := k1; exact DataW.trod_lt m _ _ _ hm
  have lt2 : ∀ x ∈ p2, x.block < W.heap.size := by obtain ⟨m, hm⟩ := k2; exact DataW.trod_lt m _ _ _ hm
  clear hA0 hval0
  obtain ⟨L, hLn, hcell⟩ : ∃ L : List IRt, L.length = len1 ∧ IRR W ad1 L := by
    obtain ⟨fuel, hf⟩ := h1
    rcases open_eds hf with ⟨hcs, hx⟩ | ⟨a, l, c, L, spare, hcs, hl, hlc, hx, hc⟩
    · simp [Value.cells] at hcs
      obtain ⟨rfl, rfl, rfl⟩ := hcs
      exact ⟨[], rfl, fun W' hW' k t ht => by simp at ht⟩
    · simp [Value.cells] at hcs
      obtain ⟨rfl, rfl, rfl⟩ := hcs
      refine ⟨L, hl, fun Wz hz k t ht => ?_⟩
      obtain ⟨g, o0, rfl, c0, c1, c2, c3⟩ := hc k t ht
      have hk : ∀ {p : Addr} {v : Value}, W.cell? p = some v → Wz.cell? p = some v := fun h => (hz.cell (World.block_lt_of_cell? W _ h)).trans h
      exact ⟨g, o0, rfl, hk c0, hk c1, hk c2, hk c3⟩
  obtain ⟨V, hVn, hvc⟩ : ∃ V : List Int, V.length = len2 ∧ IRI W ad2 V := by
    obtain ⟨fuel, hf⟩ := h2
    rcases open_ints hf with ⟨hcs, hx⟩ | ⟨a, l, c, V, spare, hcs, hl, hlc, hx, hc⟩
    · simp [Value.cells] at hcs
      obtain ⟨rfl, rfl, rfl⟩ := hcs
      exact ⟨[], rfl, fun W' hW' k t ht => by simp at ht⟩
    · simp [Value.cells] at hcs
      obtain ⟨rfl, rfl, rfl⟩ := hcs
      refine ⟨V, hl, fun Wz hz k t ht => ?_⟩
      obtain ⟨g, o0, rfl, c0⟩ := hc k t ht
      have hk : ∀ {p : Addr} {v : Value}, W.cell? p = some v → Wz.cell? p = some v := fun h => (hz.cell (World.block_lt_of_cell? W _ h)).trans h
      exact ⟨g, o0, rfl, hk c0⟩
  refine (ribWays_walk a0 L V len1 len2 ad1 ad2 cap1 cap2 W hLn hVn hcell hvc).mono fun e W' ⟨he, bel⟩ => ?_
  subst he
  exact ⟨_, rfl, _, _, _, [], _, [], hW', trodAll_mk1 (shut_bool Try.underlying4 _), (trodAll_cons_mk (shut_int Try.underlying3 w0) (trodAll_cons_mk (Below.trod ribWays_laid (by kernel_rfl) (of_decide_eq_true (by kernel_rfl)) k1 bel lt1) (trodAll_cons_mk (Below.trod ribWays_laid (by kernel_rfl) (of_decide_eq_true (by kernel_rfl)) k2 bel lt2) trodAll_mk0))), rfl, bel.frame _, fun h => by cases h⟩

theorem ribWays_holds : Rows.RibWaysSaid :=
  OpenClaim.holds_of_wide 5 Try.f5 rfl rfl rfl rfl rfl rfl rfl ⟨rfl, rfl, rfl, rfl, rfl⟩ rfl rfl rfl rfl rfl (by kernel_rfl) Try.func5 (by kernel_rfl)
    (of_decide_eq_true (by kernel_rfl)) (by unfold Func.isWrapper; first | (rw [if_pos (by decide +kernel)]; kernel_rfl) | (rw [if_neg (by decide +kernel)]; exact ⟨rfl, rfl⟩))
    (fun os started H enc _ => ribWays_lifted os started H enc)
#print axioms ribWays_holds
end Go.Proofs.Ytodhgeolcbmeiaa
