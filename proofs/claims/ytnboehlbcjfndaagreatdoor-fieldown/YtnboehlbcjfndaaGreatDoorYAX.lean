import Derived.Test.YtnboehlbcjfndaaGreatDoorYAW
namespace Go.Proofs.YtnboehlbcjfndaaGreatDoor
open Go.RowKit Go.Shelf
def sizB (f : IFld) : Bool := decide (1 ≤ f.2) && decide (f.2 ≤ 32)
set_option maxRecDepth 100000 in
theorem isSized_any (f : IFld) (w : World) : Calls Tryz.prog 46 #[fagg f] w fun e w' => e = .returned (.bool (sizB f)) ∧ Below w.heap.size w w' := by
  obtain ⟨x, b⟩ := f
  show Calls Tryz.prog 46 #[.agg #[.string ⟨x.toArray⟩, .int .i64 b]] w _
  by_cases h1 : 1 ≤ b
  · by_cases h2 : b ≤ 32
    · have hr : Hid (sizB (x, b) = true) := by unfold Hid sizB; simp [h1, h2]
      go_enter Tryz.func46, Tryz.ntmps46
      go_wp2_with fail
      go_ret
      exact ⟨by rw [hr.out]; rfl, (Below.refl _ _).alloc (Nat.le_refl _) _⟩
    · have hr : Hid (sizB (x, b) = false) := by unfold Hid sizB; simp [h2]
      go_enter Tryz.func46, Tryz.ntmps46
      go_wp2_with fail
      go_ret
      exact ⟨by rw [hr.out]; rfl, (Below.refl _ _).alloc (Nat.le_refl _) _⟩
  · have hr : Hid (sizB (x, b) = false) := by unfold Hid sizB; simp [h1]
    go_enter Tryz.func46, Tryz.ntmps46
    go_wp2_with fail
    go_ret
    exact ⟨by rw [hr.out]; rfl, (Below.refl _ _).alloc (Nat.le_refl _) _⟩
def idxG : Nat → List IFld → List UInt8 → Int
  | _, [], _ => -1
  | k, f :: r, x => if f.1 = x then (k : Int) else idxG (k + 1) r x
def idxF (L : List IFld) (x : List UInt8) : Int := idxG 0 L x
theorem idxG_step {L : List IFld} {k : Nat} {f : IFld} (hf : L[k]? = some f) (x : List UInt8) : idxG k (L.drop k) x = if f.1 = x then (k : Int) else idxG (k + 1) (L.drop (k + 1)) x := by
  obtain ⟨hk, e⟩ := List.getElem?_eq_some_iff.1 hf
  rw [List.drop_eq_getElem_cons hk, e]
  rfl
theorem idxG_ge : ∀ (L : List IFld) (k : Nat) (x : List UInt8), idxG k L x = -1 ∨ ∃ j f, idxG k L x = ((k + j : Nat) : Int) ∧ L[j]? = some f ∧ f.1 = x
  | [], k, x => .inl rfl
  | f :: r, k, x => by
    rw [idxG]
    by_cases h : f.1 = x
    · rw [if_pos h]
      exact .inr ⟨0, f, rfl, rfl, h⟩
    · rw [if_neg h]
      rcases idxG_ge r (k + 1) x with e | ⟨j, g, e, h1, h2⟩
      · exact .inl e
      · exact .inr ⟨j + 1, g, by rw [e]; omega, h1, h2⟩
theorem idxF_ge {L : List IFld} {x : List UInt8} : 0 ≤ idxF L x ↔ ∃ f ∈ L, f.1 = x := by
  constructor
  · intro h
    rcases idxG_ge L 0 x with e | ⟨j, f, e, h1, h2⟩
    · unfold idxF at h
      rw [e] at h
      omega
    · exact ⟨f, List.mem_of_getElem? h1, h2⟩
  · rintro ⟨f, hf, hx⟩
    rcases idxG_ge L 0 x with e | ⟨j, g, e, h1, h2⟩
    · exfalso
      obtain ⟨i, hi⟩ := List.getElem?_of_mem hf
      clear hf
      have : ∀ (L : List IFld) (k i : Nat), L[i]? = some f → idxG k L x ≠ -1 := by
        intro L
        induction L with
        | nil => intro k i hi; simp at hi
        | cons g r ih =>
          intro k i hi
          rw [idxG]
          by_cases hg : g.1 = x
          · rw [if_pos hg]; omega
          · rw [if_neg hg]
            cases i with
            | zero =>
              simp at hi
              rw [hi] at hg
              exact absurd hx hg
            | succ i => exact ih (k + 1) i (by simpa using hi)
      exact this L 0 i hi e
    · unfold idxF
      rw [e]
      omega
set_option maxRecDepth 100000 in
theorem find1_any (f : IFld) (x : List UInt8) (b : Nat) (w : World) (hb : w.heap[b]? = some (.cells #[.string ⟨x.toArray⟩] 9)) : Calls Tryz.prog 50 #[fagg f, .pointer (some ⟨b, 0, none⟩)] w fun e w' => e = .returned (.bool (f.1 == x)) ∧ Below w.heap.size w w' := by
  obtain ⟨y, n⟩ := f
  show Calls Tryz.prog 50 #[.agg #[.string ⟨y.toArray⟩, .int .i64 n], .pointer (some ⟨b, 0, none⟩)] w _
  have c0 : (w.alloc (Obj.cells #[.string ⟨y.toArray⟩, .int .i64 n] 39)).cell? ⟨b, 0, none⟩ = some (.string ⟨x.toArray⟩) := cell_of_row _ _ 0 _ _ _ (allocblk hb _)
  have n0 : (w.alloc (Obj.cells #[.string ⟨y.toArray⟩, .int .i64 n] 39)).cell? ⟨w.heap.size, 0, none⟩ = some (.string ⟨y.toArray⟩) := cell_of_row _ _ 0 _ _ _ (alloc_get _ _)
  obtain ⟨V, hV⟩ : ∃ V : World, w.alloc (Obj.cells #[.string ⟨y.toArray⟩, .int .i64 n] 39) = V := ⟨_, rfl⟩
  have vB : Below w.heap.size w V := by rw [← hV]; exact (Below.refl _ _).alloc (Nat.le_refl _) _
  rw [hV] at c0 n0
  clear hb
  go_enter Tryz.func50, Tryz.ntmps50
  go_wp2_with fail
  go_ret
  exact ⟨rfl, vB⟩
set_option maxRecDepth 100000 in
set_option maxHeartbeats 2000000 in
theorem idxf_any (L : List IFld) (o : Option Addr) (c : Nat) (x : List UInt8) (b : Nat) (w : World) (hL : L.length ≤ 281474976710656) (hr : IRF w o L) (hb : w.heap[b]? = some (.cells #[.string ⟨x.toArray⟩] 9)) :
    Calls Tryz.prog 49 #[.slice o L.length c, .func (.func 50) #[] #[.pointer (some ⟨b, 0, none⟩)]] w fun e w' => e = .returned (.int .i64 (idxF L x)) ∧ Below w.heap.size w w' := by
  have HR : Hid (IRF w o L) := hr
  have HB : Hid (w.heap[b]? = some (.cells #[.string ⟨x.toArray⟩] 9)) := hb
  obtain ⟨q, hq⟩ : ∃ q, idxF L x = q := ⟨_, rfl⟩
  rw [hq]
  have HQ : Hid (idxG 0 (L.drop 0) x = q) := hq
  clear hr hb hq
  go_enter Tryz.func49, Tryz.ntmps49
  go_wp2_with fail
  go_loopw [8] (fun vk wr => ∃ k : Nat, vk = .int .i64 k ∧ k ≤ L.length ∧ Hid (idxG k (L.drop k) x = q) ∧ Below w.heap.size w wr) (fun vk _ => L.length - (intOf vk).toNat)
  case atStart => exact ⟨0, rfl, Nat.zero_le _, HQ, Below.refl _ _⟩
  case round =>
    clear HQ
    obtain ⟨k, rfl, hk, hidx, hB⟩ := hrel
    by_cases hlt : k < L.length
    · have j1 : (k : Int) < (L.length : Int) := by omega
      have j0 : (0 : Int) ≤ (k : Int) := by omega
      obtain ⟨f, hf⟩ : ∃ f, L[k]? = some f := ⟨_, List.getElem?_eq_getElem hlt⟩
      obtain ⟨g, o0, rfl, p0, p1⟩ := HR.out wr hB k f hf
      have hx2 := hidx.out
      rw [idxG_step hf] at hx2
      have H1 : Calls Tryz.prog 50 #[fagg f, .pointer (some ⟨b, 0, none⟩)] wr fun e w' => e = .returned (.bool (f.1 == x)) ∧ Below wr.heap.size wr w' := find1_any f x b wr (keepblk hB HB.out)
      obtain ⟨y, n⟩ := f
      simp only at p0 p1 hx2 H1
      clear hf hidx
      by_cases hy : y = x
      · rw [if_pos hy] at hx2
        rw [beq_iff_eq.2 hy] at H1
        have HX2 : Hid ((k : Int) = q) := hx2
        clear hx2 hy
        go_wp2_with fail
        refine H1.mono ?_
        rintro e W1 ⟨rfl, hb1⟩
        go_wp2_with fail
        go_ret
        exact ⟨by rw [← HX2.out]; rfl, bel0 hB hb1⟩
      · rw [if_neg hy] at hx2
        rw [beq_eq_false_iff_ne.2 hy] at H1
        have HX : Hid (idxG (k + 1) (L.drop (k + 1)) x = q) := hx2
        clear hx2
        go_wp2_with fail
        refine H1.mono ?_
        rintro e W1 ⟨rfl, hb1⟩
        go_wp2_with fail
        go_roundw
        case rel => exact ⟨k + 1, by go_num, by omega, HX, bel0 hB hb1⟩
        case measure => simp [intOf]; omega
    · have j1 : ¬ (k : Int) < (L.length : Int) := by omega
      have HX2 : Hid (-1 = q) := by
        unfold Hid
        rw [← hidx.out, List.drop_eq_nil_of_le (by omega)]
        rfl
      clear hidx
      go_wp2_with fail
      go_ret
      exact ⟨by rw [← HX2.out]; rfl, hB⟩
set_option maxRecDepth 100000 in
theorem find_any (L : List IFld) (o : Option Addr) (c : Nat) (x : List UInt8) (w : World) (hL : L.length ≤ 281474976710656) (hr : IRF w o L) :
    Calls Tryz.prog 27 #[.slice o L.length c, .string ⟨x.toArray⟩] w fun e w' => e = .returned (.int .i64 (idxF L x)) ∧ Below w.heap.size w w' := by
  have vB : Below w.heap.size w (w.alloc (Obj.cells #[.string ⟨x.toArray⟩] 9)) := (Below.refl _ _).alloc (Nat.le_refl _) _
  have H1 := idxf_any L o c x w.heap.size (w.alloc (Obj.cells #[.string ⟨x.toArray⟩] 9)) hL (hr.later vB) (alloc_get _ _)
  clear hr
  go_enter Tryz.func27, Tryz.ntmps27
  go_wp2_with fail
  refine H1.mono ?_
  rintro e W1 ⟨rfl, hb1⟩
  go_wp2_with fail
  go_ret
  exact ⟨rfl, bel0 vB hb1⟩
def sumB : List IFld → Int
  | [] => 0
  | f :: r => f.2 + sumB r
theorem sumB_app (a b : List IFld) : sumB (a ++ b) = sumB a + sumB b := by
  induction a with
  | nil => simp [sumB]
  | cons f a ih => rw [List.cons_append, sumB, sumB, ih]; omega
theorem sumB_take {L : List IFld} {k : Nat} {f : IFld} (h : L[k]? = some f) : sumB (L.take (k + 1)) = sumB (L.take k) + f.2 := by
  rw [List.take_add_one, h, sumB_app]
  simp [sumB]
theorem sumB_bound : ∀ L : List IFld, (∀ f ∈ L, 0 ≤ f.2 ∧ f.2 ≤ 32) → 0 ≤ sumB L ∧ sumB L ≤ 32 * (L.length : Int)
  | [], _ => ⟨Int.le_refl _, by simp [sumB]⟩
  | f :: r, h => by
    have h1 := h f (by simp)
    have h2 := sumB_bound r (fun g hg => h g (by simp [hg]))
    rw [sumB, List.length_cons]
    omega
set_option maxRecDepth 100000 in
set_option maxHeartbeats 2000000 in
theorem widthOf_any (L : List IFld) (o : Option Addr) (c : Nat) (w : World) (hL : L.length ≤ 4096) (hf : ∀ f ∈ L, 0 ≤ f.2 ∧ f.2 ≤ 32) (hr : IRF w o L) :
    Calls Tryz.prog 48 #[.slice o L.length c] w fun e w' => e = .returned (.int .i64 (sumB L)) ∧ Below w.heap.size w w' := by
  have HR : Hid (IRF w o L) := hr
  have HF : Hid (∀ f ∈ L, 0 ≤ f.2 ∧ f.2 ≤ 32) := hf
  clear hr hf
  go_enter Tryz.func48, Tryz.ntmps48
  go_wp2_with fail
  go_loopw [3, 8] (fun vs vk wr => ∃ k : Nat, vk = .int .i64 k ∧ k ≤ L.length ∧ vs = .int .i64 (sumB (L.take k)) ∧ Below w.heap.size w wr) (fun _ vk _ => L.length - (intOf vk).toNat)
  case atStart => exact ⟨0, rfl, Nat.zero_le _, rfl, Below.refl _ _⟩
  case round =>
    obtain ⟨k, rfl, hk, rfl, hB⟩ := hrel
    by_cases hlt : k < L.length
    · have j1 : (k : Int) < (L.length : Int) := by omega
      have j0 : (0 : Int) ≤ (k : Int) := by omega
      obtain ⟨f, hf⟩ : ∃ f, L[k]? = some f := ⟨_, List.getElem?_eq_getElem hlt⟩
      obtain ⟨g, o0, rfl, p0, p1⟩ := HR.out wr hB k f hf
      have hs := sumB_take hf
      have hbd := sumB_bound (L.take k) (fun g hg => HF.out g (List.mem_of_mem_take hg))
      have hfb := HF.out f (List.mem_of_getElem? hf)
      have hlen : (L.take k).length = k := by rw [List.length_take]; omega
      rw [hlen] at hbd
      obtain ⟨y, n⟩ := f
      simp only at p0 p1 hs hfb
      obtain ⟨s, hs0⟩ : ∃ s, sumB (L.take k) = s := ⟨_, rfl⟩
      rw [hs0] at hs hbd
      have HS : Hid (sumB (L.take (k + 1)) = s + n) := hs
      rw [hs0]
      clear hf hs hlen hs0
      have e1 : IntKind.i64.wrap (s + n) = s + n := by rw [IntKind.wrap_i64]; omega
      have hBs := hB.size
      go_wp2_with fail
      go_roundw
      case rel => exact ⟨k + 1, by go_num, by omega, by rw [HS.out], hB.alloc hBs _⟩
      case measure => simp [intOf]; omega
    · have j1 : ¬ (k : Int) < (L.length : Int) := by omega
      rw [List.take_of_length_le (by omega)]
      go_wp2_with fail
      go_ret
      exact ⟨rfl, hB⟩
end Go.Proofs.YtnboehlbcjfndaaGreatDoor
