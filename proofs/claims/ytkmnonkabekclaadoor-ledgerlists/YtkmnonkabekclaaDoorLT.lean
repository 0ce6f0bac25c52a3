import Derived.Test.YtkmnonkabekclaaDoorLQ
import Derived.Test.YtkmnonkabekclaaDoorLH
namespace Go.Proofs.YtkmnonkabekclaaDoor
open Go.RowKit
/-- records lie there -/
def RR (w : World) (p : Option Addr) (L : List Rec) : Prop := ∀ (k : Nat) (r : Rec), L[k]? = some r → ∃ g o, p = some ⟨g, o, none⟩ ∧ w.cell? ⟨g, o + k * 3, none⟩ = some (.int .i64 (r.seq : Int)) ∧ w.cell? ⟨g, o + k * 3 + 1, none⟩ = some (.int .i64 (r.kind : Int)) ∧ w.cell? ⟨g, o + k * 3 + 2, none⟩ = some (.string ⟨r.text.toArray⟩)
theorem RR.below {w w' : World} {p : Option Addr} {L : List Rec} (h : RR w p L) (hb : Below w.heap.size w w') : RR w' p L := fun k x hx => by
  obtain ⟨g, o, rfl, h0, h1, h2⟩ := h k x hx
  exact ⟨g, o, rfl, (hb.cell (World.block_lt_of_cell? w _ h0)).trans h0, (hb.cell (World.block_lt_of_cell? w _ h1)).trans h1, (hb.cell (World.block_lt_of_cell? w _ h2)).trans h2⟩
theorem rcs_get (L : List Rec) : ∀ (k : Nat) (r : Rec) (m : Nat), L[k]? = some r → m < 3 → (rcs L)[k * 3 + m]? = (rcC r)[m]? := by
  induction L with
  | nil => intro k r m h; simp at h
  | cons x L ih =>
    intro k r m h hm
    have e : rcs (x :: L) = rcC x ++ rcs L := rfl
    have l3 : (rcC x).length = 3 := rfl
    rw [e]
    cases k with
    | zero =>
      obtain rfl : x = r := Option.some.inj h
      rw [List.getElem?_append_left (by rw [l3]; omega), Nat.zero_mul, Nat.zero_add]
    | succ k =>
      rw [List.getElem?_append_right (by rw [l3]; omega), l3, show (k + 1) * 3 + m - 3 = k * 3 + m by omega]
      exact ih k r m h hm
theorem OR.rr {W : World} {B n c : Nat} {p : Option Addr} {L : List Rec} (h : OR W B (.slice p n c) L) : RR W p L := fun k r hr => by
  have hk : k < L.length := (List.getElem?_eq_some_iff.1 hr).1
  obtain ⟨g, rfl⟩ := own_someZ h (by omega)
  refine ⟨g, 0, rfl, ?_, ?_, ?_⟩
  · rw [Nat.zero_add]
    exact own_atZ h ((rcs_get L k r 0 hr (by decide)).trans rfl)
  · rw [Nat.zero_add]
    exact own_atZ h ((rcs_get L k r 1 hr (by decide)).trans rfl)
  · rw [Nat.zero_add]
    exact own_atZ h ((rcs_get L k r 2 hr (by decide)).trans rfl)
theorem RR.take {w : World} {p : Option Addr} {L : List Rec} (h : RR w p L) (i : Nat) : RR w p (L.take i) := fun k x hx => by
  rw [List.getElem?_take] at hx
  split at hx
  · exact h k x hx
  · cases hx
set_option maxRecDepth 100000 in
set_option maxHeartbeats 2000000 in
theorem records_any (L : List Rec) (p1 p2 : Option Addr) (c1 c2 n : Nat) (w : World) (hn : L.length = n) (hL : n ≤ 281474976710656) (h1 : RR w p1 L) (h2 : RR w p2 L) :
    Calls Tryd.prog 17 #[.slice p1 n c1, .slice p2 n c2] w fun e w' => e = .returned (.bool true) ∧ Below w.heap.size w w' := by
  have H1 : Hid (RR w p1 L) := h1
  have H2 : Hid (RR w p2 L) := h2
  have HN : Hid (L.length = n) := hn
  clear h1 h2 hn
  go_enter Tryd.func17, Tryd.ntmps17
  go_wp2_with fail
  go_loopw [5] (fun vi wr => ∃ i : Nat, vi = .int .i64 i ∧ i ≤ n ∧ Below w.heap.size w wr) (fun vi _ => n - (intOf vi).toNat)
  case atStart => exact ⟨0, rfl, Nat.zero_le _, Below.refl _ _⟩
  case round =>
    obtain ⟨i, rfl, hi, hB⟩ := hrel
    by_cases hlt : i < n
    · have j1 : (i : Int) < (n : Int) := by omega
      have j0 : (0 : Int) ≤ (i : Int) := by omega
      obtain ⟨r, hri⟩ : ∃ r, L[i]? = some r := ⟨_, List.getElem?_eq_getElem (by rw [HN.out]; omega)⟩
      obtain ⟨g, o0, rfl, x0, x1, x2⟩ := (H1.out.below hB) i r hri
      obtain ⟨k, q0, rfl, y0, y1, y2⟩ := (H2.out.below hB) i r hri
      obtain ⟨rs, rk, rt⟩ := r
      clear hri
      go_wp2_with fail
      go_quiet (fail)
      go_wp2_with fail
      exact ⟨⟨i + 1, rfl, by omega, bel_drewZ nq hB⟩, by simp only [intOf]; omega⟩
    · go_wp2_with fail
      go_ret
      exact ⟨rfl, hB⟩
end Go.Proofs.YtkmnonkabekclaaDoor
