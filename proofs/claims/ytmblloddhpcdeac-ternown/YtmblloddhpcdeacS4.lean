import Derived.Test.YtmblloddhpcdeacS3
import Derived.Test.YtmblloddhpcdeacW14
namespace Go.Proofs.Ytmblloddhpcdeac
open Go.RowKit

theorem texts_D (L : List (List UInt8)) (V1 V2 : Value) (B1 B2 : Nat) (w : World) (gL : ∀ x ∈ L, good x = true) (hLl : L.length ≤ 256)
    (h1 : w.ownsRow B1 26 9 V1 L.length (cels L)) (h2 : w.ownsRow B2 9 1 V2 L.length (sts L)) :
    Calls Try.prog 24 #[V1, V2] w fun e w' => e = .returned (.bool true) ∧ Below w.heap.size w w' := by
  rcases h1.2 with ⟨rfl, n1⟩ | ⟨g1, c1, _, rfl, _⟩ <;> rcases h2.2 with ⟨rfl, n2⟩ | ⟨g2, c2, _, rfl, _⟩
  · exact texts_nil _ _ _ _ w
  · rw [n1]; exact texts_nil _ _ _ _ w
  · rw [n2]; exact texts_nil _ _ _ _ w
  · exact texts_some L g1 c1 g2 c2 B1 B2 w gL hLl h1 h2

theorem refC_T (s : ByteArray) (D : List UInt8) (w : World) (hs : s.size ≤ maxLen) (h : cubeT s.data.toList = D) :
    Calls Try.prog 20 #[.string s] w fun e w' => e = .returned (.string ⟨D.toArray⟩) ∧ w = w' := (refC_D s D w hs h).mono (fun _ _ h => ⟨h.1, h.2.symm⟩)

set_option maxRecDepth 100000 in
set_option maxHeartbeats 2000000 in
theorem ternSplits_raw (a b : ByteArray) (A B : List UInt8) (L : List (List UInt8)) (w : World) (ha : a.size ≤ maxLen) (hb : b.size ≤ maxLen) (gA : good A = true) (gB : good B = true)
    (hA0 : cubeT a.data.toList = A) (hB0 : cubeT b.data.toList = B) (hL0 : splT A B = L) (gL0 : ∀ x ∈ L, good x = true) (hLl : L.length ≤ 256) :
    Calls Try.prog 5 #[.string a, .string b] w fun e w' => e = .returned (.bool true) ∧ Below w.heap.size w w' := by
  have hA : Hid (cubeT a.data.toList = A) := hA0
  have hB : Hid (cubeT b.data.toList = B) := hB0
  have hL : Hid (splT A B = L) := hL0
  have gL : Hid (∀ x ∈ L, good x = true) := gL0
  clear hA0 hB0 hL0 gL0
  go_enter Try.func5, Try.ntmps5
  go_wp2_with fail
  refine (made_D a A _ ha hA.out).mono ?_
  rintro e w1 ⟨rfl, hb1⟩
  have B1 := hb1
  unfold cubeV cv
  go_wp2_with fail
  refine (made_D b B _ hb hB.out).mono ?_
  rintro e w2 ⟨rfl, hb2⟩
  have kX : w2.heap[w1.heap.size]? = some (.cells (#[.int .i64 (A.length : Int), .int .u64 (FW A 0 : Int), .int .u64 (FW A 1 : Int), .int .u64 (FW A 2 : Int), .int .u64 (FW A 3 : Int), .int .u64 (OW A 0 : Int), .int .u64 (OW A 1 : Int), .int .u64 (OW A 2 : Int), .int .u64 (OW A 3 : Int)]) 26 (0, 0)) := keepblk hb2 (alloc_get _ _)
  have cX_2 := (cells_block kX).1
  have zX_2 := lt_of_get kX
  have B2 := bel0 (belA B1 _) hb2
  unfold cubeV cv
  go_wp2_with fail
  refine (split_any A B L _ gA gB hL.out).mono ?_
  rintro e w3 ⟨V1, rfl, hown1, hb3⟩
  have B3 := bel0 (belA B2 _) hb3
  clear kX cX_2 zX_2 hb1 hb2 hb3 B1 B2
  go_wp2_with fail
  refine (refC_T a A _ ha hA.out).mono ?_
  rintro e w' ⟨rfl, rfl⟩
  go_wp2_with fail
  refine (refC_T b B _ hb hB.out).mono ?_
  rintro e w' ⟨rfl, rfl⟩
  go_wp2_with fail
  refine (rSplit_D A B L _ gA gB hL.out).mono ?_
  rintro e w4 ⟨V2, rfl, hown2, hb4⟩
  have hown1' := owns_below hown1 hb4
  have B4 := bel0 B3 hb4
  clear hown1 hb4 B3
  go_wp2_with fail
  refine (texts_D L V1 V2 _ _ _ gL.out hLl hown1' hown2).mono ?_
  rintro e w5 ⟨rfl, hb5⟩
  have B5 := bel0 B4 hb5
  go_wp2_with fail
  go_ret
  exact ⟨rfl, B5⟩

theorem ternSplits_walk (a b : ByteArray) (w : World) (ha : a.size ≤ maxLen) (hb : b.size ≤ maxLen) :
    Calls Try.prog 5 #[.string a, .string b] w fun e w' => e = .returned (.bool true) ∧ Below w.heap.size w w' := by
  obtain ⟨A, hA⟩ : ∃ A, cubeT a.data.toList = A := ⟨_, rfl⟩
  obtain ⟨B, hB⟩ : ∃ B, cubeT b.data.toList = B := ⟨_, rfl⟩
  have gA : good A = true := by rw [← hA]; exact good_cubeT _
  have gB : good B = true := by rw [← hB]; exact good_cubeT _
  refine ternSplits_raw a b A B (splT A B) w ha hb gA gB hA hB rfl ?_ (spl_len _ _ (good_len gA))
  cases h : agB A B
  · unfold splT
    rw [h]
    intro x hx
    simp at hx
    subst hx
    exact gA
  · exact good_spl _ _ (fitB_len (agB_fit h)) gA gB
end Go.Proofs.Ytmblloddhpcdeac
