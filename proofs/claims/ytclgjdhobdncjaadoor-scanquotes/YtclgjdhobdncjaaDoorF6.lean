import Derived.Test.YtclgjdhobdncjaaDoorF5
import Derived.Test.YtclgjdhobdncjaaDoorQ5
namespace Go.Proofs.YtclgjdhobdncjaaDoor
open Go.RowKit Go.Shelf
theorem quo_a : quoS [97] = ([34, 97, 34], 0) := by
  have h1 : quoL [97] 1 = [] := quoL_end (by decide)
  have h0 : quoL [97] 0 = [97] := by
    rw [quoL_lt (by decide)]
    have hp : pcS [97] 0 = [97] := by decide
    have hd : (dc [97] 0).2 = 1 := by decide
    rw [hp, hd, h1]
    rfl
  unfold quoS
  rw [if_neg (by decide), h0]
  rfl
set_option maxRecDepth 100000 in
theorem scanQuotes_walk (s : ByteArray) (w : World) (hs : s.size ≤ 281474976710656) (hv1 : SH w) (hv2 : UN w) (hv3 : DB w) :
    Calls Tryd.prog 3 #[.string s] w fun e w' => e = .returned (.bool true) ∧ Below w.heap.size w w' := by
  have hv : Hid (SH w ∧ UN w ∧ DB w) := ⟨hv1, hv2, hv3⟩
  clear hv1 hv2 hv3
  obtain ⟨l, rfl⟩ : ∃ l : List UInt8, s = ⟨l.toArray⟩ := ⟨s.data.toList, by simp⟩
  have hl : l.length ≤ 281474976710656 := by have e : (ByteArray.mk l.toArray).size = l.length := by simp [ByteArray.size]
                                             omega
  obtain ⟨S, hS⟩ : ∃ S, (quoS l).1 = S := ⟨_, rfl⟩
  obtain ⟨E, hE⟩ : ∃ E, (quoS l).2 = E := ⟨_, rfl⟩
  have c1 : Hid (∀ W, Below w.heap.size w W → Calls Tryd.prog 6 #[.string ⟨l.toArray⟩] W fun e w' => e = .returned (.tuple #[.string ⟨S.toArray⟩, .int .i64 E]) ∧ Below w.heap.size w w') := fun W hW => by
    rw [← hS, ← hE]
    exact (quote_any l W hl (hv.out.1.below hW) (hv.out.2.1.below hW) (hv.out.2.2.below hW)).mono (fun e w' h => ⟨h.1, bel0 hW h.2⟩)
  have c2 : Hid (∀ W, Below w.heap.size w W → Calls Tryd.prog 7 #[.string ⟨l.toArray⟩] W fun e w' => e = .returned (.tuple #[.string ⟨S.toArray⟩, .int .i64 E]) ∧ Below w.heap.size w w') := fun W hW => by
    rw [← hS, ← hE]
    exact (refQuote_any l W hl).mono (fun e w' h => ⟨h.1, bel0 hW h.2⟩)
  have c3 : Hid (∀ W, Below w.heap.size w W → Calls Tryd.prog 6 #[.string ⟨#[97]⟩] W fun e w' => e = .returned (.tuple #[.string ⟨#[34, 97, 34]⟩, .int .i64 0]) ∧ Below w.heap.size w w') := fun W hW => by
    have h := quote_any [97] W (by decide) (hv.out.1.below hW) (hv.out.2.1.below hW) (hv.out.2.2.below hW)
    rw [quo_a] at h
    exact h.mono (fun e w' h => ⟨h.1, bel0 hW h.2⟩)
  clear hS hE
  go_enter Tryd.func3, Tryd.ntmps3
  go_wp2_with fail
  refine (c1.out _ (Below.refl _ _)).mono ?_
  rintro e W1 ⟨rfl, hb1⟩
  go_wp2_with fail
  refine (c2.out _ hb1).mono ?_
  rintro e W2 ⟨rfl, hb2⟩
  go_wp2_with fail
  refine (c3.out _ hb2).mono ?_
  rintro e W3 ⟨rfl, hb3⟩
  go_wp2
  go_ret
  exact ⟨rfl, hb3⟩
end Go.Proofs.YtclgjdhobdncjaaDoor
