import Derived.Test.YtfbmagnfgnebdaaGreatDoorYBP
namespace Go.Proofs.YtfbmagnfgnebdaaGreatDoor
open Go.RowKit Go.Shelf
theorem own_capX {W : World} {B n c e sz : Nat} {o : Option Addr} {xs : List Value} (h : W.ownsRow B e sz (.slice o n c) n xs) : n ≤ c := by
  rcases h.2 with ⟨h', hn⟩ | ⟨g, cap, cur, h', _, _, hnc, _⟩
  · injection h' with _ h2 h3
    omega
  · injection h' with _ _ h3
    omega
theorem nm_len {x : List UInt8} (h : nmB x = true) : x.length ≤ 24 := by
  unfold nmB nameB at h
  simp only [Bool.and_eq_true, decide_eq_true_eq] at h
  exact h.1.2.1
end Go.Proofs.YtfbmagnfgnebdaaGreatDoor
