import Derived.Test.YtclgjdhobdncjaaDoorCE
import Derived.Test.YtclgjdhobdncjaaDoorU6
namespace Go.Proofs.YtclgjdhobdncjaaDoor
open Go.RowKit Go.Shelf
theorem unq_a : unqS [34, 97, 34] = ([97], 0, 0) := by
  have h2 : insS [34, 97, 34] 2 [97] = ([97], 3, 0) := by
    rw [insS, if_pos (by decide), if_pos (by decide)]
  have h1 : insS [34, 97, 34] 1 [] = ([97], 3, 0) := by
    rw [insS, if_pos (by decide), if_neg (by decide), if_neg (by decide), if_neg (by decide)]
    exact h2
  unfold unqS
  rw [if_neg (by decide), if_neg (by decide), h1]
  rfl
set_option maxRecDepth 100000 in
theorem scanUnquotes_walk (s : ByteArray) (w : World) (hs : s.size ≤ 281474976710656) (hv0 : SH w) :
    Calls Tryd.prog 5 #[.string s] w fun e w' => e = .returned (.bool true) ∧ Below w.heap.size w w' := by
  have hv : Hid (SH w) := hv0
  clear hv0
  obtain ⟨l, rfl⟩ : ∃ l : List UInt8, s = ⟨l.toArray⟩ := ⟨s.data.toList, by simp⟩
  have hl : l.length ≤ 281474976710656 := by have e : (ByteArray.mk l.toArray).size = l.length := by simp [ByteArray.size]
                                             omega
  obtain ⟨S, hS⟩ : ∃ S, (unqS l).1 = S := ⟨_, rfl⟩
  obtain ⟨E, hE⟩ : ∃ E, (unqS l).2.1 = E := ⟨_, rfl⟩
  obtain ⟨A, hA⟩ : ∃ A, (unqS l).2.2 = A := ⟨_, rfl⟩
  have c1 : Hid (∀ W, Below w.heap.size w W → Calls Tryd.prog 8 #[.string ⟨l.toArray⟩] W fun e w' => e = .returned (.tuple #[.string ⟨S.toArray⟩, .int .i64 E, .int .i64 A]) ∧ Below w.heap.size w w') := fun W hW => by
    rw [← hS, ← hE, ← hA]
    exact (unquote_any l W hl (hv.out.below hW)).mono (fun e w' h => ⟨h.1, bel0 hW h.2⟩)
  have c2 : Hid (∀ W, Below w.heap.size w W → Calls Tryd.prog 9 #[.string ⟨l.toArray⟩] W fun e w' => e = .returned (.tuple #[.string ⟨S.toArray⟩, .int .i64 E, .int .i64 A]) ∧ Below w.heap.size w w') := fun W hW => by
    rw [← hS, ← hE, ← hA]
    exact (refUnquote_any l W hl (fun h i w hi => refEscape_any l i w h hi)).mono (fun e w' h => ⟨h.1, bel0 hW h.2⟩)
  have c3 : Hid (∀ W, Below w.heap.size w W → Calls Tryd.prog 8 #[.string ⟨#[34, 97, 34]⟩] W fun e w' => e = .returned (.tuple #[.string ⟨#[97]⟩, .int .i64 0, .int .i64 0]) ∧ Below w.heap.size w w') := fun W hW => by
    have h := unquote_any [34, 97, 34] W (by decide) (hv.out.below hW)
    rw [unq_a] at h
    exact h.mono (fun e w' h => ⟨h.1, bel0 hW h.2⟩)
  clear hS hE hA
  go_enter Tryd.func5, Tryd.ntmps5
  go_wp2_with fail
  refine (c1.out _ (Below.refl _ _)).mono ?_
  rintro e W1 ⟨rfl, hb1⟩
  go_wp2_with fail
  refine (c2.out _ hb1).mono ?_
  rintro e W2 ⟨rfl, hb2⟩
  go_wp2_with fail
  refine (c3.out _ hb2).mono ?_
  rintro e W3 ⟨rfl, hb3⟩
  go_wp2
  go_ret
  exact ⟨rfl, hb3⟩
end Go.Proofs.YtclgjdhobdncjaaDoor
