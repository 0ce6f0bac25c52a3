import Derived.Test.YtfcdaljhbeogeaaRows
import Derived.Test.YtfcdaljhbeogeaaD8
import Derived.ProofKit
import Derived.OpenShut
import Derived.ShutString
import Derived.ChangeOld
import Derived.Below
import Derived.Carry
import Derived.SizedLaws
import Derived.JoinedCond
import Derived.Test.YtfcdaljhbeogeaaSG
namespace Go.Proofs.Ytfcdaljhbeogeaa
open Go.ChangeShapes Go.WideShapes Go.ChangeAt Go.RowKit

theorem ribLongest_own : ownKnob Try.prog.godebug = none := by kernel_rfl
theorem ribLongest_laid : laidOutB Try.prog = true := by kernel_rfl
theorem bulk_map {H α : Type} (f : α → DataW H) (hf : ∀ a, 1 ≤ Rows.uptoBulk (f a)) (l : List α) : l.length ≤ Rows.uptoBulkAll (l.map f) := by
  induction l with
  | nil => simp
  | cons a l ih =>
    rw [List.map_cons, Rows.uptoBulkAll, List.length_cons]
    have := hf a
    omega
set_option maxRecDepth 100000 in
theorem ribLongest_lifted (os : Os) (started : os.Started) (H : Type) (enc : TypeId × Value → H) (F : Stop.Interp) :
    ReturnsInHanded {} Try.checked os 6 .any ((Rows.OpenSpec.upto Rows.ribLongestSpec).pre6 enc Try.prog Try.f6 Rows.ribLongestUptoRow.domain false) (((Rows.OpenSpec.upto Rows.ribLongestSpec).at F).post enc Try.prog Try.f6 false true false false) := by
  refine returnsInHanded_of_cond (C := Try.checked) (s := Rows.OpenSpec.upto Rows.ribLongestSpec) (k := Rows.uptoSmall) rfl ribLongest_own started (by kernel_rfl) Try.func6
    (OpenSpec.witness (enc := enc) (C := Try.checked) (s := Rows.OpenSpec.upto Rows.ribLongestSpec) (k := Rows.uptoSmall) rfl false ⟨#[], #[.int .i64 0, .slice none 0 0, .slice none 0 0], []⟩ 8 (by kernel_rfl) (by kernel_rfl) (by kernel_rfl)
      (x := ([.lit (.int .i64 0), .nil, .nil], [], [])) (by kernel_rfl) rfl (by kernel_rfl)) ?_
  intro W base args ds gs before hval0 hW hcnd hk0 _
  have hval : ∀ (j : Nat) t v, Try.f6.params[j]? = some t → args[j]? = some v → Value.okWide Try.prog W .any base t v := hval0
  have hW' := hW
  obtain ⟨p, q, hA0, hV, rfl, hfz, hnd⟩ := hW
  have hA : DataW.TrodAll enc Try.prog W 0 (fun _ => true) true Try.f6.params.toList args.toList ds p := hA0
  rw [Try.params6] at hA hval
  obtain ⟨v0, vs0, d0, ds0, p0, q0, hargs, rfl, rfl, h0, r0⟩ := trodAll_cons hA
  obtain ⟨v1, vs1, d1, ds1, p1, q1, rfl, rfl, rfl, h1, r1⟩ := trodAll_cons r0
  obtain ⟨v2, vs2, d2, ds2, p2, q2, rfl, rfl, rfl, h2, r2⟩ := trodAll_cons r1
  obtain ⟨rfl, rfl, rfl⟩ := trodAll_nil r2
  obtain rfl : args = #[v0, v1, v2] := by cases args; simp_all
  obtain ⟨rfl, rfl⟩ := trodVars_none hV
  obtain ⟨a0, rfl, rfl, rfl, w0⟩ := open_int Try.underlying3 (hval 0 3 v0 rfl rfl) h0
  obtain ⟨ad1, len1, cap1, rfl⟩ := okWide_slice Try.underlying36 (hval 1 36 v1 rfl rfl)
  obtain ⟨ad2, len2, cap2, rfl⟩ := okWide_slice Try.underlying23 (hval 2 23 v2 rfl rfl)
  have k1 := h1
  have k2 := h2
  have lt1 : ∀ x ∈ p1, x.block < W.heap.size := by obtain ⟨m, hm⟩ := k1; exact DataW.trod_lt m _ _ _ hm
  have lt2 : ∀ x ∈ p2, x.block < W.heap.size := by obtain ⟨m, hm⟩ := k2; exact DataW.trod_lt m _ _ _ hm
  have hbk : Rows.uptoBulkAll ([.lit (.int .i64 a0), d1, d2] : List (DataW H)) ≤ 1048576 := of_decide_eq_true hk0
  simp only [Rows.uptoBulkAll, Rows.uptoBulk] at hbk
  clear hA0 hval0
  obtain ⟨L, hLn, hLb, hcell⟩ : ∃ L : List IRt, L.length = len1 ∧ len1 ≤ 1048576 ∧ IRR W ad1 L := by
    obtain ⟨fuel, hf⟩ := h1
    rcases open_rts hf with ⟨hcs, hx⟩ | ⟨a, l, c, L, spare, hcs, hl, hlc, hx, hc⟩
    · simp [Value.cells] at hcs
      obtain ⟨rfl, rfl, rfl⟩ := hcs
      exact ⟨[], rfl, by omega, fun W' hW' k t ht => by simp at ht⟩
    · simp [Value.cells] at hcs
      obtain ⟨rfl, rfl, rfl⟩ := hcs
      have hx1 : d1 = .slice (L.map rtData) spare := hx
      rw [hx1] at hbk
      simp only [Rows.uptoBulk] at hbk
      have hbl := bulk_map (H := H) rtData (fun a => by unfold rtData; rw [Rows.uptoBulk]; omega) L
      refine ⟨L, hl, by omega, fun Wz hz k t ht => ?_⟩
      obtain ⟨g, o0, rfl, c0, c1, c2, c3⟩ := hc k t ht
      have hk : ∀ {p : Addr} {v : Value}, W.cell? p = some v → Wz.cell? p = some v := fun h => (hz.cell (World.block_lt_of_cell? W _ h)).trans h
      exact ⟨g, o0, rfl, hk c0, hk c1, hk c2, hk c3⟩
  obtain ⟨V, hVn, hVb, hov, hvc⟩ : ∃ V : List Int, V.length = len2 ∧ len2 ≤ 1048576 ∧ (ad2 = none → cap2 = 0) ∧ IRI W ad2 V := by
    obtain ⟨fuel, hf⟩ := h2
    rcases open_ints hf with ⟨hcs, hx⟩ | ⟨a, l, c, V, spare, hcs, hl, hlc, hx, hc⟩
    · simp [Value.cells] at hcs
      obtain ⟨rfl, rfl, rfl⟩ := hcs
      exact ⟨[], rfl, by omega, fun _ => rfl, fun W' hW' k t ht => by simp at ht⟩
    · simp [Value.cells] at hcs
      obtain ⟨rfl, rfl, rfl⟩ := hcs
      have hx1 : d2 = .slice (V.map intData) spare := hx
      rw [hx1] at hbk
      simp only [Rows.uptoBulk] at hbk
      have hbl := bulk_map (H := H) intData (fun a => by show 1 ≤ Rows.uptoBulk (DataW.lit (.int .i64 a)); simp only [Rows.uptoBulk]; omega) V
      refine ⟨V, hl, by omega, (fun h => (by cases h)), fun Wz hz k t ht => ?_⟩
      obtain ⟨g, o0, rfl, c0⟩ := hc k t ht
      have hk : ∀ {p : Addr} {v : Value}, W.cell? p = some v → Wz.cell? p = some v := fun h => (hz.cell (World.block_lt_of_cell? W _ h)).trans h
      exact ⟨g, o0, rfl, hk c0⟩
  refine (ribLongest_walk a0 L V len1 len2 ad1 ad2 cap1 cap2 W hLn hVn hVb (by omega) hcell hvc hov).mono fun e W' ⟨he, bel⟩ => ?_
  subst he
  exact ⟨_, rfl, _, _, _, [], _, [], hW', trodAll_mk1 (shut_bool Try.underlying4 _), (trodAll_cons_mk (shut_int Try.underlying3 w0) (trodAll_cons_mk (Below.trod ribLongest_laid (by kernel_rfl) (of_decide_eq_true (by kernel_rfl)) k1 bel lt1) (trodAll_cons_mk (Below.trod ribLongest_laid (by kernel_rfl) (of_decide_eq_true (by kernel_rfl)) k2 bel lt2) trodAll_mk0))), rfl, bel.frame _, fun h => by cases h⟩

theorem ribLongest_holds : Rows.RibLongestUptoSaid :=
  OpenClaim.holds_of_cond 6 Try.f6 rfl rfl rfl rfl rfl rfl rfl ⟨rfl, rfl, rfl, rfl, rfl⟩ rfl rfl rfl rfl rfl (by kernel_rfl) Try.func6 (by kernel_rfl)
    (of_decide_eq_true (by kernel_rfl)) (by unfold Func.isWrapper; first | (rw [if_pos (by decide +kernel)]; kernel_rfl) | (rw [if_neg (by decide +kernel)]; exact ⟨rfl, rfl⟩))
    (fun os started H enc _ F => ribLongest_lifted os started H enc F)
#print axioms ribLongest_holds
end Go.Proofs.Ytfcdaljhbeogeaa
