import Derived.Test.YtkmnonkabekclaaDoorPE
namespace Go.Proofs.YtkmnonkabekclaaDoor
open Go.RowKit Go.Shelf
def exL : List (List UInt8) := [[97, 116, 32, 65, 32, 105, 110, 32, 120], []]
theorem ex_S : pkS exL = [57, 58, 97, 116, 32, 65, 32, 105, 110, 32, 120, 48, 58] := by decide +kernel
theorem ex_E : pkE exL = 0 := by decide +kernel
theorem ex_B : LB exL := by unfold LB exL; decide
theorem TR.pre {W : World} {g : Nat} {L M : List (List UInt8)} (h : ∀ (k : Nat) (x : List UInt8), (L ++ M)[k]? = some x → W.cell? ⟨g, k, none⟩ = some (.string ⟨x.toArray⟩)) : TR W (some ⟨g, 0, none⟩) L := fun k x hx =>
  ⟨g, 0, rfl, by rw [Nat.zero_add]; exact h k x (by rw [List.getElem?_append_left (List.getElem?_eq_some_iff.1 hx).1]; exact hx)⟩
set_option maxRecDepth 100000 in
set_option maxHeartbeats 4000000 in
theorem ledgerPacks_walk (L : List (List UInt8)) (p : Option Addr) (n c : Nat) (w : World) (hn : L.length = n) (hr : TR w p L) (hx : LB L) (ht : TBL w) :
    Calls Tryd.prog 3 #[.slice p n c] w fun e w' => e = .returned (.bool true) ∧ Below w.heap.size w w' := by
  have HR : Hid (TR w p L) := hr
  have HN : Hid (L.length = n) := hn
  have HX : Hid (LB L) := hx
  have HT : Hid (∀ W, Below w.heap.size w W → TBL W) := fun W h => ht.below h
  clear hr hn hx ht
  by_cases h1 : 200000 < n
  · have h1' : (200000 : Int) < (n : Int) := by omega
    go_enter Tryd.func3, Tryd.ntmps3
    go_wp2_with fail
    go_ret
    exact ⟨rfl, Below.refl _ _⟩
  have h1' : ¬ (200000 : Int) < (n : Int) := by omega
  have hA : ∀ (W : World) (o : Obj), Below w.heap.size w W → Below w.heap.size w (W.alloc o) := fun W o h => belAZ h o
  go_enter Tryd.func3, Tryd.ntmps3
  go_wp2_with (at_builtin; refine app_strs rfl _ _ rfl w.heap.size _ [] rfl (OS_empty (alloc_getZ _ _) (Nat.le_refl _)) _ _ _ L rfl HN.out (HR.out.below (hA _ _ (Below.refl _ _))) (by rw [List.length_nil]; omega) (hA _ _ (Below.refl _ _)).size ?_)
  intro v1 W1 o1 g1 _
  have b1 : Below w.heap.size w W1 := bel_grZ (hA _ _ (Below.refl _ _)) g1 (fun k e => by cases e; exact Nat.le_refl _)
  obtain ⟨p1, c1, rfl⟩ := shapeZ o1
  have HO1 : Hid (TR W1 p1 L) := OS.tr o1
  have HB1 : Hid (Below w.heap.size w W1) := b1
  clear o1 g1 b1
  simp only [HN.out]
  have HRM := roomy_any L p n c W1 HN.out (by omega) (HR.out.below HB1.out)
  go_wp2_with fail
  refine HRM.mono ?_
  rintro e W2 ⟨g, cap, rfl, hcap, o2, b2⟩
  have HG2 : Hid (∀ W, Below W2.heap.size W2 W → ∀ (k : Nat) (x : List UInt8), (L ++ [behT, farT])[k]? = some x → W.cell? ⟨g, k, none⟩ = some (.string ⟨x.toArray⟩)) := fun W h k x hx => (o2.below h).at hx
  have HO2 : Hid (TR W2 p1 L) := HO1.out.below b2
  have HB2 : Hid (Below w.heap.size w W2) := bel0Z HB1.out b2
  clear o2 b2 HRM HO1 HB1
  have HP := pack_any L (some ⟨g, 0, none⟩) n cap W2 HN.out (by omega) (HT.out W2 HB2.out) (TR.pre (HG2.out W2 (Below.refl _ _))) HX.out
  obtain ⟨PS, hPS⟩ : ∃ PS, pkS L = PS := ⟨_, rfl⟩
  obtain ⟨PE, hPE⟩ : ∃ PE, pkE L = PE := ⟨_, rfl⟩
  have HPQ : Hid (∀ w e w', PKQ L w e w' → e = .returned (.tuple #[.string ⟨PS.toArray⟩, .int .i64 (PE : Int)]) ∧ Below w.heap.size w w') := fun w e w' h => by rw [← hPS, ← hPE]; exact h
  clear hPS hPE
  go_wp2_with fail
  refine (HP.mono (HPQ.out _)).mono ?_
  rintro e W3 ⟨rfl, b3⟩
  have HO3 : Hid (TR W3 p1 L) := HO2.out.below b3
  have HB3 : Hid (Below w.heap.size w W3) := bel0Z HB2.out b3
  have HU := unturned_any L p1 n c1 g cap W3 HN.out (by omega) hcap (HG2.out W3 b3) HO3.out
  clear b3 HP HO2 HB2 HG2
  go_wp2_with fail
  refine HU.mono ?_
  rintro e W4 ⟨rfl, b4⟩
  have HO4 : Hid (TR W4 p1 L) := HO3.out.below b4
  have HB4 : Hid (Below w.heap.size w W4) := bel0Z HB3.out b4
  clear b4 HU HO3 HB3
  have HD := dpack_any L p1 n c1 W4 HN.out (by omega) (HT.out W4 HB4.out) HO4.out HX.out
  go_wp2_with fail
  refine (HD.mono (HPQ.out _)).mono ?_
  rintro e W5 ⟨rfl, b5⟩
  have HB5 : Hid (Below w.heap.size w W5) := bel0Z HB4.out b5
  clear b5 HD HO4 HB4
  have HE := fun cs (W : World) (hW : Below w.heap.size w W) (b : Nat) (h : W.heap[b]? = some (.cells cs 9 (0, 0))) (hc : cs.toList = stZ exL) => pack_any exL (some ⟨b, 0, none⟩) 2 2 W rfl (by decide) (HT.out W hW) (TR_new h hc) ex_B
  have HE2 : Hid (∀ cs (W : World) (_ : Below w.heap.size w W) (b : Nat) (_ : W.heap[b]? = some (.cells cs 9 (0, 0))) (_ : cs.toList = stZ exL), Calls Tryd.prog 9 #[.slice (some ⟨b, 0, none⟩) 2 2] W fun e w' => e = .returned (.tuple #[.string ⟨#[57, 58, 97, 116, 32, 65, 32, 105, 110, 32, 120, 48, 58]⟩, .int .i64 0]) ∧ Below W.heap.size W w') := fun cs W hW b h hc => by
    have := HE cs W hW b h hc
    unfold PKQ at this
    rw [ex_S, ex_E] at this
    exact this
  clear HE
  go_wp2_with fail
  refine (HE2.out _ _ (hA _ _ HB5.out) _ (alloc_getZ _ _) rfl).mono ?_
  rintro e W6 ⟨rfl, b6⟩
  have HB6 : Hid (Below w.heap.size w W6) := bel0Z (hA _ _ HB5.out) b6
  clear b6 HE2 HB5
  go_wp2_with fail
  go_ret
  exact ⟨rfl, HB6.out⟩
end Go.Proofs.YtkmnonkabekclaaDoor
