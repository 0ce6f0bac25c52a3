import Derived.Test.YtfcdaljhbeogeaaBR
namespace Go.Proofs.Ytfcdaljhbeogeaa
open Go.RowKit
/-- what Order answers of routes: in order, or none -/
def ordR (bits : Int) (L O : List IRt) : Prop := if rfit bits L = 0 then OrdOf L O else O = []
theorem ordR_uniq {bits : Int} {L A B : List IRt} (h1 : ordR bits L A) (h2 : ordR bits L B) : A = B := by
  unfold ordR at h1 h2
  split at h1
  · rename_i h
    rw [if_pos h] at h2
    exact ord_uniq h1 h2
  · rename_i h
    rw [if_neg h] at h2
    rw [h1, h2]
theorem ordR_len {bits : Int} {L O : List IRt} (h : ordR bits L O) : O.length ≤ L.length := by
  unfold ordR at h
  split at h
  · exact ord_len h.srt (fun o ho => h.mem ho)
  · rw [h]
    exact Nat.zero_le _
theorem own_base {W : World} {B B' n sz : Nat} {e : TypeId} {v : Value} {xs : List Value} (h : W.ownsRow B' e sz v n xs) (hb : B ≤ B') : W.ownsRow B e sz v n xs := by
  refine ⟨h.1, ?_⟩
  rcases h.2 with hh | ⟨g, c, cur, h1, h2, r⟩
  · exact .inl hh
  · exact .inr ⟨g, c, cur, h1, Nat.le_trans hb h2, r⟩
theorem res_bord (tmps : Array Value) (W : World) (x y : Value) (h : tmps[4]?.getD undef = x ∧ tmps[5]?.getD undef = y) : (results Try.f16 tmps).run Try.prog W = .ok (.tuple #[x, y]) W := by
  simp [results, h.1, h.2, go_sem]
set_option maxRecDepth 100000 in
set_option maxHeartbeats 1000000 in
theorem bord_any (bits : Int) (L : List IRt) (o : Option Addr) (c : Nat) (w : World) (hL : L.length ≤ 281474976710656) (hr : IRR w o L) :
    Calls Try.prog 16 #[.int .i64 bits, .slice o L.length c] w fun e w' => ∃ (O : List IRt) (v : Value), e = .returned (.tuple #[v, .int .i64 (rfit bits L)]) ∧ ordR bits L O ∧ w'.ownsRow w.heap.size 59 4 v O.length (rels O) ∧ Below w.heap.size w w' := by
  have HFT0 := brefusal_any bits L o c w hL hr
  unfold ordR
  obtain ⟨F, hF⟩ : ∃ F, rfit bits L = F := ⟨_, rfl⟩
  simp only [hF]
  rw [hF] at HFT0
  have HFT : Hid (Calls Try.prog 35 #[.int .i64 bits, .slice o L.length c] w fun e w' => e = .returned (.int .i64 F) ∧ Below w.heap.size w w') := HFT0
  clear HFT0
  by_cases f0 : F = 0
  · subst f0
    obtain ⟨b1, b2, b3, b4⟩ := rfit_ok hF
    have HLA : Hid (∀ W : World, Below w.heap.size w W → Calls Try.prog 36 #[.slice o L.length c] W fun e w' => ∃ (O : List IRt) (v : Value), e = .returned v ∧ OrdOf L O ∧ w'.ownsRow W.heap.size 59 4 v O.length (rels O) ∧ Below W.heap.size W w') := fun W hW => blaid_any L o c W b3 (hr.later hW)
    clear hr hF b1 b2 b3 b4 hL
    go_enter Try.func16, Try.ntmps16
    go_wp2_with fail
    refine HFT.out.mono ?_
    rintro e W1 ⟨rfl, hb1⟩
    go_wp2_with fail
    refine (HLA.out _ hb1).mono ?_
    rintro e W2 ⟨O, v, rfl, h1, h2, h3⟩
    go_wp2_with fail
    refine bodyPost_ret (res_bord _ _ _ _ ⟨rfl, rfl⟩) rfl ?_
    exact ⟨O, v, rfl, h1, own_base h2 hb1.size, bel0 hb1 h3⟩
  · have f1 : (F == 0) = false := beq_eq_false_iff_ne.2 f0
    clear hr hF
    go_enter Try.func16, Try.ntmps16
    go_wp2_with fail
    refine HFT.out.mono ?_
    rintro e W1 ⟨rfl, hb1⟩
    go_wp2_with fail
    refine bodyPost_ret (res_bord _ _ _ _ ⟨rfl, rfl⟩) rfl ?_
    exact ⟨[], _, rfl, rfl, World.ownsRow_nil _ _ _ _, hb1⟩
end Go.Proofs.Ytfcdaljhbeogeaa
