import Derived.Test.YtdgglglemdbgcaaZ1
import Derived.Test.YtdgglglemdbgcaaS4
import Derived.Test.YtdgglglemdbgcaaW19
import Derived.Test.YtdgglglemdbgcaaW15
import Derived.Test.YtdgglglemdbgcaaW12
import Derived.BigQuiet
namespace Go.Proofs.Ytdgglglemdbgcaa
open Go.RowKit

theorem fit_l (T : List UInt8) : fitB [] T = false := by simp [fitB]
theorem fit_r (T : List UInt8) : fitB T [] = false := by cases T <;> simp [fitB]
theorem ag_l (T : List UInt8) : agB [] T = false := agB_nofit _ _ (fit_l T)
theorem ag_r (T : List UInt8) : agB T [] = false := agB_nofit _ _ (fit_r T)
theorem mt_l (T : List UInt8) : mtT [] T = [] := by unfold mtT; rw [ag_l]; rfl
theorem mt_r (T : List UInt8) : mtT T [] = [] := by unfold mtT; rw [ag_r]; rfl
theorem be_l (T : List UInt8) : beT [] T = [] := by unfold beT; rw [ag_l]; rfl
theorem be_r (T : List UInt8) : beT T [] = [] := by unfold beT; rw [ag_r]; rfl
theorem wt_l (T : List UInt8) : wtT [] T = [] := by unfold wtT; rw [fit_l]; rfl
theorem wt_r (T : List UInt8) : wtT T [] = [] := by unfold wtT; rw [fit_r]; rfl
theorem wi_l (T : List UInt8) : wiB [] T = false := by unfold wiB; rw [fit_l]; rfl
theorem wi_r (T : List UInt8) : wiB T [] = false := by unfold wiB; rw [fit_r]; rfl
theorem has_l (h : List UInt8) : hasB [] h = false := by simp [hasB]
theorem spl_l (T : List UInt8) : splT [] T = [[]] := by unfold splT; rw [ag_l]; rfl
theorem spl_r (T : List UInt8) : splT T [] = [T] := by unfold splT; rw [ag_r]; rfl
theorem hul_r (T : List UInt8) : hulF T [[]] = none := by
  unfold hulF
  split
  · rfl
  · show (if fitB T [] = true then _ else none) = none
    rw [fit_r]; rfl
theorem eql00 (w : World) : (Op.equalIn 10000 26 (.agg #[.int .i64 0, .int .u64 0, .int .u64 0, .int .u64 0, .int .u64 0, .int .u64 0, .int .u64 0, .int .u64 0, .int .u64 0]) (.agg #[.int .i64 0, .int .u64 0, .int .u64 0, .int .u64 0, .int .u64 0, .int .u64 0, .int .u64 0, .int .u64 0, .int .u64 0])).run Try.prog w = .ok true w := by rw [cub_eq]; rfl
theorem quiet_lit5 {P : Program} {id : Nat} {Q : Exit → Act → World → Prop} {a : Act} {w : World} {l : List Oper} {C : World → Prop} (hm : P.follows .mixedOrders = true) (hB : Region.lexB .any l.toArray = true) (hC : C w.drew)
    (h : wpQuiet P l.toArray C (fun a' => ∀ w', C w' → Q .normal a' w') l a) : (Code.region id l.toArray true).wp P Q a w :=
  wp_region_quiet (C := C) hm hB hC (by simpa using h)
theorem own_oneC {w : World} (B : Nat) (hB : B ≤ w.heap.size) : (w.alloc (.cells #[.int .i64 0, .int .u64 0, .int .u64 0, .int .u64 0, .int .u64 0, .int .u64 0, .int .u64 0, .int .u64 0, .int .u64 0] 26)).ownsRow B 26 9 (.slice (some ⟨w.heap.size, 0, none⟩) 1 1) 1 (ces [[]]) := by
  refine ⟨rfl, .inr ⟨w.heap.size, 1, _, rfl, hB, alloc_get _ _, by omega, by unfold maxLen; omega, by simp, ?_⟩⟩
  have := cubeV_nil
  unfold cubeV cv at this
  simp only [Value.agg.injEq] at this
  show _ = ce9 [] ++ []
  rw [List.append_nil]
  have h2 := congrArg Array.toList this
  exact h2.symm
theorem own_oneS {w : World} (B : Nat) (t : List UInt8) (hB : B ≤ w.heap.size) : (w.alloc (.cells #[.string ⟨t.toArray⟩] 9)).ownsRow B 9 1 (.slice (some ⟨w.heap.size, 0, none⟩) 1 1) 1 (sts [t]) :=
  ⟨by simp [sts], .inr ⟨w.heap.size, 1, _, rfl, hB, alloc_get _ _, by omega, by unfold maxLen; omega, by simp, by simp [sts]⟩⟩
/-- the worlds in which the six cubes stand -/
def zqC (x z m n b d : Nat) (T : List UInt8) (w W : World) : Prop :=
  W.heap[x]? = some (.cells (#[.int .i64 (T.length : Int), .int .u64 (FW T 0 : Int), .int .u64 (FW T 1 : Int), .int .u64 (FW T 2 : Int), .int .u64 (FW T 3 : Int), .int .u64 (OW T 0 : Int), .int .u64 (OW T 1 : Int), .int .u64 (OW T 2 : Int), .int .u64 (OW T 3 : Int)]) 26 (0, 0)) ∧ W.heap[z]? = some (.cells #[.int .i64 0, .int .u64 0, .int .u64 0, .int .u64 0, .int .u64 0, .int .u64 0, .int .u64 0, .int .u64 0, .int .u64 0] 26 (0, 0)) ∧ W.heap[m]? = some (.cells #[.int .i64 0, .int .u64 0, .int .u64 0, .int .u64 0, .int .u64 0, .int .u64 0, .int .u64 0, .int .u64 0, .int .u64 0] 26 (0, 0)) ∧ W.heap[n]? = some (.cells #[.int .i64 0, .int .u64 0, .int .u64 0, .int .u64 0, .int .u64 0, .int .u64 0, .int .u64 0, .int .u64 0, .int .u64 0] 26 (0, 0)) ∧ W.heap[b]? = some (.cells #[.int .i64 0, .int .u64 0, .int .u64 0, .int .u64 0, .int .u64 0, .int .u64 0, .int .u64 0, .int .u64 0, .int .u64 0] 26 (0, 0)) ∧ W.heap[d]? = some (.cells #[.int .i64 0, .int .u64 0, .int .u64 0, .int .u64 0, .int .u64 0, .int .u64 0, .int .u64 0, .int .u64 0, .int .u64 0] 26 (0, 0)) ∧ Below w.heap.size w W
theorem zqC.keep {x z m n b d : Nat} {T : List UInt8} {w W w' : World} (h : zqC x z m n b d T w W) (hb : Below W.heap.size W w') : zqC x z m n b d T w w' :=
  ⟨keepblk hb h.1, keepblk hb h.2.1, keepblk hb h.2.2.1, keepblk hb h.2.2.2.1, keepblk hb h.2.2.2.2.1, keepblk hb h.2.2.2.2.2.1, bel0 h.2.2.2.2.2.2 hb⟩

set_option maxRecDepth 100000 in
set_option maxHeartbeats 4000000 in
theorem zeros_try (t h : ByteArray) (T : List UInt8) (w : World) (ht : t.size ≤ maxLen) (hh : h.size ≤ maxLen) (hT0 : cubeT t.data.toList = T) (gT : good T = true) :
    Calls Try.prog 4 #[.string t, .string h] w fun e w' => e = .returned (.bool true) ∧ Below w.heap.size w w' := by
  have hT : Hid (cubeT t.data.toList = T) := hT0
  have GT : Hid (good T = true) := gT
  clear hT0
  have HA : Hid (∀ W, Calls Try.prog 11 #[.int .i64 1] W fun e w' => e = .returned (cubeV [120]) ∧ Below W.heap.size W w') := fun W => allV 1 W
  have HT1 : Hid (∀ W, Calls Try.prog 12 #[cubeV [120]] W fun e w' => e = .returned (.string ⟨#[120]⟩) ∧ Below W.heap.size W w') := fun W => text_any [120] W (by decide)
  have HZt : Hid (∀ W, Calls Try.prog 12 #[(.agg #[.int .i64 0, .int .u64 0, .int .u64 0, .int .u64 0, .int .u64 0, .int .u64 0, .int .u64 0, .int .u64 0, .int .u64 0])] W fun e w' => e = .returned (.string ⟨#[]⟩) ∧ Below W.heap.size W w') := by
    intro W
    have q := text_any [] W good_nil
    rw [cubeV_nil] at q
    exact q
  have HZh : Hid (∀ W, Calls Try.prog 13 #[(.agg #[.int .i64 0, .int .u64 0, .int .u64 0, .int .u64 0, .int .u64 0, .int .u64 0, .int .u64 0, .int .u64 0, .int .u64 0]), .string h] W fun e w' => e = .returned (.bool false) ∧ Below W.heap.size W w') := by
    intro W
    have q := has_D [] h false W good_nil hh (has_l _)
    rw [cubeV_nil] at q
    exact q
  have HZe : Hid (∀ W, Calls Try.prog 13 #[(.agg #[.int .i64 0, .int .u64 0, .int .u64 0, .int .u64 0, .int .u64 0, .int .u64 0, .int .u64 0, .int .u64 0, .int .u64 0]), .string ⟨#[]⟩] W fun e w' => e = .returned (.bool false) ∧ Below W.heap.size W w') := by
    intro W
    have q := has_D [] ⟨#[]⟩ false W good_nil (by unfold maxLen; decide) (has_l _)
    rw [cubeV_nil] at q
    exact q
  have HWa : Hid (∀ W, Calls Try.prog 8 #[(.agg #[.int .i64 0, .int .u64 0, .int .u64 0, .int .u64 0, .int .u64 0, .int .u64 0, .int .u64 0, .int .u64 0, .int .u64 0]), (.agg #[.int .i64 (T.length : Int), .int .u64 (FW T 0 : Int), .int .u64 (FW T 1 : Int), .int .u64 (FW T 2 : Int), .int .u64 (FW T 3 : Int), .int .u64 (OW T 0 : Int), .int .u64 (OW T 1 : Int), .int .u64 (OW T 2 : Int), .int .u64 (OW T 3 : Int)])] W fun e w' => e = .returned (.bool false) ∧ Below W.heap.size W w') := by
    intro W
    have q := within_D [] T false W good_nil GT.out (wi_l T)
    rw [cubeV_nil] at q
    exact q
  have HWb : Hid (∀ W, Calls Try.prog 8 #[(.agg #[.int .i64 (T.length : Int), .int .u64 (FW T 0 : Int), .int .u64 (FW T 1 : Int), .int .u64 (FW T 2 : Int), .int .u64 (FW T 3 : Int), .int .u64 (OW T 0 : Int), .int .u64 (OW T 1 : Int), .int .u64 (OW T 2 : Int), .int .u64 (OW T 3 : Int)]), (.agg #[.int .i64 0, .int .u64 0, .int .u64 0, .int .u64 0, .int .u64 0, .int .u64 0, .int .u64 0, .int .u64 0, .int .u64 0])] W fun e w' => e = .returned (.bool false) ∧ Below W.heap.size W w') := by
    intro W
    have q := within_D T [] false W GT.out good_nil (wi_r T)
    rw [cubeV_nil] at q
    exact q
  have HMa : Hid (∀ W, Calls Try.prog 14 #[(.agg #[.int .i64 0, .int .u64 0, .int .u64 0, .int .u64 0, .int .u64 0, .int .u64 0, .int .u64 0, .int .u64 0, .int .u64 0]), (.agg #[.int .i64 (T.length : Int), .int .u64 (FW T 0 : Int), .int .u64 (FW T 1 : Int), .int .u64 (FW T 2 : Int), .int .u64 (FW T 3 : Int), .int .u64 (OW T 0 : Int), .int .u64 (OW T 1 : Int), .int .u64 (OW T 2 : Int), .int .u64 (OW T 3 : Int)])] W fun e w' => e = .returned (.tuple #[(.agg #[.int .i64 0, .int .u64 0, .int .u64 0, .int .u64 0, .int .u64 0, .int .u64 0, .int .u64 0, .int .u64 0, .int .u64 0]), .bool false]) ∧ Below W.heap.size W w') := by
    intro W
    have q := meet_D [] T [] false W good_nil (mt_l T) (ag_l T)
    rw [cubeV_nil] at q
    exact q
  have HMb : Hid (∀ W, Calls Try.prog 14 #[(.agg #[.int .i64 (T.length : Int), .int .u64 (FW T 0 : Int), .int .u64 (FW T 1 : Int), .int .u64 (FW T 2 : Int), .int .u64 (FW T 3 : Int), .int .u64 (OW T 0 : Int), .int .u64 (OW T 1 : Int), .int .u64 (OW T 2 : Int), .int .u64 (OW T 3 : Int)]), (.agg #[.int .i64 0, .int .u64 0, .int .u64 0, .int .u64 0, .int .u64 0, .int .u64 0, .int .u64 0, .int .u64 0, .int .u64 0])] W fun e w' => e = .returned (.tuple #[(.agg #[.int .i64 0, .int .u64 0, .int .u64 0, .int .u64 0, .int .u64 0, .int .u64 0, .int .u64 0, .int .u64 0, .int .u64 0]), .bool false]) ∧ Below W.heap.size W w') := by
    intro W
    have q := meet_D T [] [] false W GT.out (mt_r T) (ag_r T)
    rw [cubeV_nil] at q
    exact q
  have HBa : Hid (∀ W, Calls Try.prog 15 #[(.agg #[.int .i64 0, .int .u64 0, .int .u64 0, .int .u64 0, .int .u64 0, .int .u64 0, .int .u64 0, .int .u64 0, .int .u64 0]), (.agg #[.int .i64 (T.length : Int), .int .u64 (FW T 0 : Int), .int .u64 (FW T 1 : Int), .int .u64 (FW T 2 : Int), .int .u64 (FW T 3 : Int), .int .u64 (OW T 0 : Int), .int .u64 (OW T 1 : Int), .int .u64 (OW T 2 : Int), .int .u64 (OW T 3 : Int)])] W fun e w' => e = .returned (.tuple #[(.agg #[.int .i64 0, .int .u64 0, .int .u64 0, .int .u64 0, .int .u64 0, .int .u64 0, .int .u64 0, .int .u64 0, .int .u64 0]), .bool false]) ∧ Below W.heap.size W w') := by
    intro W
    have q := before_D [] T [] false W good_nil (be_l T) (ag_l T)
    rw [cubeV_nil] at q
    exact q
  have HBb : Hid (∀ W, Calls Try.prog 15 #[(.agg #[.int .i64 (T.length : Int), .int .u64 (FW T 0 : Int), .int .u64 (FW T 1 : Int), .int .u64 (FW T 2 : Int), .int .u64 (FW T 3 : Int), .int .u64 (OW T 0 : Int), .int .u64 (OW T 1 : Int), .int .u64 (OW T 2 : Int), .int .u64 (OW T 3 : Int)]), (.agg #[.int .i64 0, .int .u64 0, .int .u64 0, .int .u64 0, .int .u64 0, .int .u64 0, .int .u64 0, .int .u64 0, .int .u64 0])] W fun e w' => e = .returned (.tuple #[(.agg #[.int .i64 0, .int .u64 0, .int .u64 0, .int .u64 0, .int .u64 0, .int .u64 0, .int .u64 0, .int .u64 0, .int .u64 0]), .bool false]) ∧ Below W.heap.size W w') := by
    intro W
    have q := before_D T [] [] false W GT.out (be_r T) (ag_r T)
    rw [cubeV_nil] at q
    exact q
  have HRa : Hid (∀ W, Calls Try.prog 16 #[(.agg #[.int .i64 0, .int .u64 0, .int .u64 0, .int .u64 0, .int .u64 0, .int .u64 0, .int .u64 0, .int .u64 0, .int .u64 0]), (.agg #[.int .i64 (T.length : Int), .int .u64 (FW T 0 : Int), .int .u64 (FW T 1 : Int), .int .u64 (FW T 2 : Int), .int .u64 (FW T 3 : Int), .int .u64 (OW T 0 : Int), .int .u64 (OW T 1 : Int), .int .u64 (OW T 2 : Int), .int .u64 (OW T 3 : Int)])] W fun e w' => e = .returned (.agg #[.int .i64 0, .int .u64 0, .int .u64 0, .int .u64 0, .int .u64 0, .int .u64 0, .int .u64 0, .int .u64 0, .int .u64 0]) ∧ Below W.heap.size W w') := by
    intro W
    have q := write_D [] T [] W (wt_l T)
    rw [cubeV_nil] at q
    exact q
  have HRb : Hid (∀ W, Calls Try.prog 16 #[(.agg #[.int .i64 (T.length : Int), .int .u64 (FW T 0 : Int), .int .u64 (FW T 1 : Int), .int .u64 (FW T 2 : Int), .int .u64 (FW T 3 : Int), .int .u64 (OW T 0 : Int), .int .u64 (OW T 1 : Int), .int .u64 (OW T 2 : Int), .int .u64 (OW T 3 : Int)]), (.agg #[.int .i64 0, .int .u64 0, .int .u64 0, .int .u64 0, .int .u64 0, .int .u64 0, .int .u64 0, .int .u64 0, .int .u64 0])] W fun e w' => e = .returned (.agg #[.int .i64 0, .int .u64 0, .int .u64 0, .int .u64 0, .int .u64 0, .int .u64 0, .int .u64 0, .int .u64 0, .int .u64 0]) ∧ Below W.heap.size W w') := by
    intro W
    have q := write_D T [] [] W (wt_r T)
    rw [cubeV_nil] at q
    exact q
  have HHa : Hid (∀ W V, Calls Try.prog 17 #[(.agg #[.int .i64 0, .int .u64 0, .int .u64 0, .int .u64 0, .int .u64 0, .int .u64 0, .int .u64 0, .int .u64 0, .int .u64 0]), V] W fun e w' => e = .returned (.tuple #[(.agg #[.int .i64 0, .int .u64 0, .int .u64 0, .int .u64 0, .int .u64 0, .int .u64 0, .int .u64 0, .int .u64 0, .int .u64 0]), .int .i64 11]) ∧ Below W.heap.size W w') := by
    intro W V
    have q := hull_zero V W
    unfold hulV at q
    rw [cubeV_nil] at q
    exact q
  have HHb : Hid (∀ W V B, W.ownsRow B 26 9 V 1 (ces [[]]) → Calls Try.prog 17 #[(.agg #[.int .i64 (T.length : Int), .int .u64 (FW T 0 : Int), .int .u64 (FW T 1 : Int), .int .u64 (FW T 2 : Int), .int .u64 (FW T 3 : Int), .int .u64 (OW T 0 : Int), .int .u64 (OW T 1 : Int), .int .u64 (OW T 2 : Int), .int .u64 (OW T 3 : Int)]), V] W fun e w' => e = .returned (.tuple #[(.agg #[.int .i64 0, .int .u64 0, .int .u64 0, .int .u64 0, .int .u64 0, .int .u64 0, .int .u64 0, .int .u64 0, .int .u64 0]), .int .i64 11]) ∧ Below W.heap.size W w') := by
    intro W V B hW
    have q := hull_any T [[]] V B W GT.out (fun x hx => by rw [List.mem_singleton] at hx; subst hx; exact good_nil) (by decide) hW
    rw [hul_r] at q
    unfold hulV at q
    rw [cubeV_nil] at q
    exact q
  have HSo : Hid (∀ W, Calls Try.prog 19 #[(.agg #[.int .i64 0, .int .u64 0, .int .u64 0, .int .u64 0, .int .u64 0, .int .u64 0, .int .u64 0, .int .u64 0, .int .u64 0]), .int .i64 3] W fun e w' => e = .returned (.slice none 0 0) ∧ Below W.heap.size W w') := fun W => some_zero W
  have HSa : Hid (∀ W, Calls Try.prog 21 #[(.agg #[.int .i64 0, .int .u64 0, .int .u64 0, .int .u64 0, .int .u64 0, .int .u64 0, .int .u64 0, .int .u64 0, .int .u64 0]), (.agg #[.int .i64 (T.length : Int), .int .u64 (FW T 0 : Int), .int .u64 (FW T 1 : Int), .int .u64 (FW T 2 : Int), .int .u64 (FW T 3 : Int), .int .u64 (OW T 0 : Int), .int .u64 (OW T 1 : Int), .int .u64 (OW T 2 : Int), .int .u64 (OW T 3 : Int)])] W fun e w' => ∃ v, e = .returned v ∧ w'.ownsRow W.heap.size 26 9 v 1 (cels [[]]) ∧ Below W.heap.size W w') := by
    intro W
    have q := split_any [] T [[]] W good_nil GT.out (spl_l T)
    rw [cubeV_nil] at q
    exact q
  have HSb : Hid (∀ W, Calls Try.prog 21 #[(.agg #[.int .i64 (T.length : Int), .int .u64 (FW T 0 : Int), .int .u64 (FW T 1 : Int), .int .u64 (FW T 2 : Int), .int .u64 (FW T 3 : Int), .int .u64 (OW T 0 : Int), .int .u64 (OW T 1 : Int), .int .u64 (OW T 2 : Int), .int .u64 (OW T 3 : Int)]), (.agg #[.int .i64 0, .int .u64 0, .int .u64 0, .int .u64 0, .int .u64 0, .int .u64 0, .int .u64 0, .int .u64 0, .int .u64 0])] W fun e w' => ∃ v, e = .returned v ∧ w'.ownsRow W.heap.size 26 9 v 1 (cels [T]) ∧ Below W.heap.size W w') := by
    intro W
    have q := split_any T [] [T] W GT.out good_nil (spl_r T)
    rw [cubeV_nil] at q
    exact q
  have e0 := eql00
  go_enter Try.func4, Try.ntmps4
  have BB : Below w.heap.size w w := Below.refl _ _
  go_wp2_with fail
  refine (made_D t T _ ht hT.out).mono ?_
  rintro e w1 ⟨rfl, hb1⟩
  replace BB := bel0 BB hb1
  clear hb1
  unfold cubeV cv
  have kX : (w1.alloc (.cells #[.int .i64 (T.length : Int), .int .u64 (FW T 0 : Int), .int .u64 (FW T 1 : Int), .int .u64 (FW T 2 : Int), .int .u64 (FW T 3 : Int), .int .u64 (OW T 0 : Int), .int .u64 (OW T 1 : Int), .int .u64 (OW T 2 : Int), .int .u64 (OW T 3 : Int)] 26)).heap[w1.heap.size]? = some (.cells (#[.int .i64 (T.length : Int), .int .u64 (FW T 0 : Int), .int .u64 (FW T 1 : Int), .int .u64 (FW T 2 : Int), .int .u64 (FW T 3 : Int), .int .u64 (OW T 0 : Int), .int .u64 (OW T 1 : Int), .int .u64 (OW T 2 : Int), .int .u64 (OW T 3 : Int)]) 26 (0, 0)) := alloc_get _ _
  replace BB := belA BB (.cells #[.int .i64 (T.length : Int), .int .u64 (FW T 0 : Int), .int .u64 (FW T 1 : Int), .int .u64 (FW T 2 : Int), .int .u64 (FW T 3 : Int), .int .u64 (OW T 0 : Int), .int .u64 (OW T 1 : Int), .int .u64 (OW T 2 : Int), .int .u64 (OW T 3 : Int)] 26)
  have cX := (cells_block kX).1
  go_wp2_with fail
  refine (HA.out _).mono ?_
  rintro e w2 ⟨rfl, hb2⟩
  clear cX
  replace kX := keepblk hb2 kX
  replace BB := bel0 BB hb2
  clear hb2
  have cX := (cells_block kX).1
  go_wp2_with fail
  refine (HT1.out _).mono ?_
  rintro e w3 ⟨rfl, hb3⟩
  clear cX
  replace kX := keepblk hb3 kX
  replace BB := bel0 BB hb3
  clear hb3
  replace kX := allocblk kX (.cells #[.int .i64 0, .int .u64 0, .int .u64 0, .int .u64 0, .int .u64 0, .int .u64 0, .int .u64 0, .int .u64 0, .int .u64 0] 26)
  have kZ : (w3.alloc (.cells #[.int .i64 0, .int .u64 0, .int .u64 0, .int .u64 0, .int .u64 0, .int .u64 0, .int .u64 0, .int .u64 0, .int .u64 0] 26)).heap[w3.heap.size]? = some (.cells (#[.int .i64 0, .int .u64 0, .int .u64 0, .int .u64 0, .int .u64 0, .int .u64 0, .int .u64 0, .int .u64 0, .int .u64 0]) 26 (0, 0)) := alloc_get _ _
  replace BB := belA BB (.cells #[.int .i64 0, .int .u64 0, .int .u64 0, .int .u64 0, .int .u64 0, .int .u64 0, .int .u64 0, .int .u64 0, .int .u64 0] 26)
  have cX := (cells_block kX).1
  have cZ := (cells_block kZ).1
  go_wp2_with fail
  refine (HZt.out _).mono ?_
  rintro e w4 ⟨rfl, hb4⟩
  clear cX cZ
  replace kX := keepblk hb4 kX
  replace kZ := keepblk hb4 kZ
  replace BB := bel0 BB hb4
  clear hb4
  have cX := (cells_block kX).1
  have cZ := (cells_block kZ).1
  go_wp2_with fail
  refine (HZh.out _).mono ?_
  rintro e w5 ⟨rfl, hb5⟩
  clear cX cZ
  replace kX := keepblk hb5 kX
  replace kZ := keepblk hb5 kZ
  replace BB := bel0 BB hb5
  clear hb5
  have cX := (cells_block kX).1
  have cZ := (cells_block kZ).1
  go_wp2_with fail
  refine (HZe.out _).mono ?_
  rintro e w6 ⟨rfl, hb6⟩
  clear cX cZ
  replace kX := keepblk hb6 kX
  replace kZ := keepblk hb6 kZ
  replace BB := bel0 BB hb6
  clear hb6
  have cX := (cells_block kX).1
  have cZ := (cells_block kZ).1
  go_wp2_with fail
  refine (HWa.out _).mono ?_
  rintro e w7 ⟨rfl, hb7⟩
  clear cX cZ
  replace kX := keepblk hb7 kX
  replace kZ := keepblk hb7 kZ
  replace BB := bel0 BB hb7
  clear hb7
  have cX := (cells_block kX).1
  have cZ := (cells_block kZ).1
  go_wp2_with fail
  refine (HWb.out _).mono ?_
  rintro e w8 ⟨rfl, hb8⟩
  clear cX cZ
  replace kX := keepblk hb8 kX
  replace kZ := keepblk hb8 kZ
  replace BB := bel0 BB hb8
  clear hb8
  have cX := (cells_block kX).1
  have cZ := (cells_block kZ).1
  go_wp2_with fail
  refine (HMa.out _).mono ?_
  rintro e w9 ⟨rfl, hb9⟩
  clear cX cZ
  replace kX := keepblk hb9 kX
  replace kZ := keepblk hb9 kZ
  replace BB := bel0 BB hb9
  clear hb9
  replace kX := allocblk kX (.cells #[.int .i64 0, .int .u64 0, .int .u64 0, .int .u64 0, .int .u64 0, .int .u64 0, .int .u64 0, .int .u64 0, .int .u64 0] 26)
  replace kZ := allocblk kZ (.cells #[.int .i64 0, .int .u64 0, .int .u64 0, .int .u64 0, .int .u64 0, .int .u64 0, .int .u64 0, .int .u64 0, .int .u64 0] 26)
  have kM : (w9.alloc (.cells #[.int .i64 0, .int .u64 0, .int .u64 0, .int .u64 0, .int .u64 0, .int .u64 0, .int .u64 0, .int .u64 0, .int .u64 0] 26)).heap[w9.heap.size]? = some (.cells (#[.int .i64 0, .int .u64 0, .int .u64 0, .int .u64 0, .int .u64 0, .int .u64 0, .int .u64 0, .int .u64 0, .int .u64 0]) 26 (0, 0)) := alloc_get _ _
  replace BB := belA BB (.cells #[.int .i64 0, .int .u64 0, .int .u64 0, .int .u64 0, .int .u64 0, .int .u64 0, .int .u64 0, .int .u64 0, .int .u64 0] 26)
  have cX := (cells_block kX).1
  have cZ := (cells_block kZ).1
  have cM := (cells_block kM).1
  go_wp2_with fail
  refine (HMb.out _).mono ?_
  rintro e w10 ⟨rfl, hb10⟩
  clear cX cZ cM
  replace kX := keepblk hb10 kX
  replace kZ := keepblk hb10 kZ
  replace kM := keepblk hb10 kM
  replace BB := bel0 BB hb10
  clear hb10
  replace kX := allocblk kX (.cells #[.int .i64 0, .int .u64 0, .int .u64 0, .int .u64 0, .int .u64 0, .int .u64 0, .int .u64 0, .int .u64 0, .int .u64 0] 26)
  replace kZ := allocblk kZ (.cells #[.int .i64 0, .int .u64 0, .int .u64 0, .int .u64 0, .int .u64 0, .int .u64 0, .int .u64 0, .int .u64 0, .int .u64 0] 26)
  replace kM := allocblk kM (.cells #[.int .i64 0, .int .u64 0, .int .u64 0, .int .u64 0, .int .u64 0, .int .u64 0, .int .u64 0, .int .u64 0, .int .u64 0] 26)
  have kN : (w10.alloc (.cells #[.int .i64 0, .int .u64 0, .int .u64 0, .int .u64 0, .int .u64 0, .int .u64 0, .int .u64 0, .int .u64 0, .int .u64 0] 26)).heap[w10.heap.size]? = some (.cells (#[.int .i64 0, .int .u64 0, .int .u64 0, .int .u64 0, .int .u64 0, .int .u64 0, .int .u64 0, .int .u64 0, .int .u64 0]) 26 (0, 0)) := alloc_get _ _
  replace BB := belA BB (.cells #[.int .i64 0, .int .u64 0, .int .u64 0, .int .u64 0, .int .u64 0, .int .u64 0, .int .u64 0, .int .u64 0, .int .u64 0] 26)
  have cX := (cells_block kX).1
  have cZ := (cells_block kZ).1
  have cM := (cells_block kM).1
  have cN := (cells_block kN).1
  go_wp2_with fail
  refine (HBa.out _).mono ?_
  rintro e w11 ⟨rfl, hb11⟩
  clear cX cZ cM cN
  replace kX := keepblk hb11 kX
  replace kZ := keepblk hb11 kZ
  replace kM := keepblk hb11 kM
  replace kN := keepblk hb11 kN
  replace BB := bel0 BB hb11
  clear hb11
  replace kX := allocblk kX (.cells #[.int .i64 0, .int .u64 0, .int .u64 0, .int .u64 0, .int .u64 0, .int .u64 0, .int .u64 0, .int .u64 0, .int .u64 0] 26)
  replace kZ := allocblk kZ (.cells #[.int .i64 0, .int .u64 0, .int .u64 0, .int .u64 0, .int .u64 0, .int .u64 0, .int .u64 0, .int .u64 0, .int .u64 0] 26)
  replace kM := allocblk kM (.cells #[.int .i64 0, .int .u64 0, .int .u64 0, .int .u64 0, .int .u64 0, .int .u64 0, .int .u64 0, .int .u64 0, .int .u64 0] 26)
  replace kN := allocblk kN (.cells #[.int .i64 0, .int .u64 0, .int .u64 0, .int .u64 0, .int .u64 0, .int .u64 0, .int .u64 0, .int .u64 0, .int .u64 0] 26)
  have kB : (w11.alloc (.cells #[.int .i64 0, .int .u64 0, .int .u64 0, .int .u64 0, .int .u64 0, .int .u64 0, .int .u64 0, .int .u64 0, .int .u64 0] 26)).heap[w11.heap.size]? = some (.cells (#[.int .i64 0, .int .u64 0, .int .u64 0, .int .u64 0, .int .u64 0, .int .u64 0, .int .u64 0, .int .u64 0, .int .u64 0]) 26 (0, 0)) := alloc_get _ _
  replace BB := belA BB (.cells #[.int .i64 0, .int .u64 0, .int .u64 0, .int .u64 0, .int .u64 0, .int .u64 0, .int .u64 0, .int .u64 0, .int .u64 0] 26)
  have cX := (cells_block kX).1
  have cZ := (cells_block kZ).1
  have cM := (cells_block kM).1
  have cN := (cells_block kN).1
  have cB := (cells_block kB).1
  go_wp2_with fail
  refine (HBb.out _).mono ?_
  rintro e w12 ⟨rfl, hb12⟩
  clear cX cZ cM cN cB
  replace kX := keepblk hb12 kX
  replace kZ := keepblk hb12 kZ
  replace kM := keepblk hb12 kM
  replace kN := keepblk hb12 kN
  replace kB := keepblk hb12 kB
  replace BB := bel0 BB hb12
  clear hb12
  replace kX := allocblk kX (.cells #[.int .i64 0, .int .u64 0, .int .u64 0, .int .u64 0, .int .u64 0, .int .u64 0, .int .u64 0, .int .u64 0, .int .u64 0] 26)
  replace kZ := allocblk kZ (.cells #[.int .i64 0, .int .u64 0, .int .u64 0, .int .u64 0, .int .u64 0, .int .u64 0, .int .u64 0, .int .u64 0, .int .u64 0] 26)
  replace kM := allocblk kM (.cells #[.int .i64 0, .int .u64 0, .int .u64 0, .int .u64 0, .int .u64 0, .int .u64 0, .int .u64 0, .int .u64 0, .int .u64 0] 26)
  replace kN := allocblk kN (.cells #[.int .i64 0, .int .u64 0, .int .u64 0, .int .u64 0, .int .u64 0, .int .u64 0, .int .u64 0, .int .u64 0, .int .u64 0] 26)
  replace kB := allocblk kB (.cells #[.int .i64 0, .int .u64 0, .int .u64 0, .int .u64 0, .int .u64 0, .int .u64 0, .int .u64 0, .int .u64 0, .int .u64 0] 26)
  have kD : (w12.alloc (.cells #[.int .i64 0, .int .u64 0, .int .u64 0, .int .u64 0, .int .u64 0, .int .u64 0, .int .u64 0, .int .u64 0, .int .u64 0] 26)).heap[w12.heap.size]? = some (.cells (#[.int .i64 0, .int .u64 0, .int .u64 0, .int .u64 0, .int .u64 0, .int .u64 0, .int .u64 0, .int .u64 0, .int .u64 0]) 26 (0, 0)) := alloc_get _ _
  replace BB := belA BB (.cells #[.int .i64 0, .int .u64 0, .int .u64 0, .int .u64 0, .int .u64 0, .int .u64 0, .int .u64 0, .int .u64 0, .int .u64 0] 26)
  go_wp2_with fail
  refine quiet_lit5 (C := zqC w1.heap.size w3.heap.size w9.heap.size w10.heap.size w11.heap.size w12.heap.size T w) (by kernel_rfl) (by kernel_rfl) ⟨kX, kZ, kM, kN, kB, kD, BB.drew⟩ ?_
  clear kX kZ kM kN kB kD BB
  go_big_quiet_want
  go_big_quiet_op
  go_big_quiet_on
  go_big_quiet_want
  go_big_quiet_op
  go_big_quiet_on
  go_big_quiet_want
  go_big_quiet_op
  go_big_quiet_on
  go_big_quiet_want
  refine ⟨.bool false, fun W hW => ?_, ?_⟩
  · go_simp
  go_big_quiet_on
  simp only [Act.put, List.setIfInBounds_toArray, List.set_cons_zero, List.set_cons_succ]
  go_big_quiet_want
  go_big_quiet_op
  go_big_quiet_on
  go_big_quiet_want
  go_big_quiet_op
  go_big_quiet_on
  go_big_quiet_want
  refine ⟨.bool false, fun W hW => ?_, ?_⟩
  · go_simp
  go_big_quiet_on
  simp only [Act.put, List.setIfInBounds_toArray, List.set_cons_zero, List.set_cons_succ]
  go_big_quiet_want
  go_big_quiet_op
  go_big_quiet_on
  go_big_quiet_want
  go_big_quiet_op
  go_big_quiet_on
  go_big_quiet_want
  refine ⟨.bool false, fun W hW => ?_, ?_⟩
  · go_simp
  go_big_quiet_on
  simp only [Act.put, List.setIfInBounds_toArray, List.set_cons_zero, List.set_cons_succ]
  go_big_quiet_want
  go_big_quiet_op
  go_big_quiet_on
  go_big_quiet_want
  refine ⟨(.agg #[.int .i64 0, .int .u64 0, .int .u64 0, .int .u64 0, .int .u64 0, .int .u64 0, .int .u64 0, .int .u64 0, .int .u64 0]), fun W hW => ?_, ?_⟩
  · have y := (cells_block hW.2.2.1).1
    go_simp
  go_big_quiet_on
  simp only [Act.put, List.setIfInBounds_toArray, List.set_cons_zero, List.set_cons_succ]
  go_big_quiet_want
  refine ⟨(.agg #[.int .i64 0, .int .u64 0, .int .u64 0, .int .u64 0, .int .u64 0, .int .u64 0, .int .u64 0, .int .u64 0, .int .u64 0]), fun W hW => ?_, ?_⟩
  · have y := (cells_block hW.2.1).1
    go_simp
  go_big_quiet_on
  simp only [Act.put, List.setIfInBounds_toArray, List.set_cons_zero, List.set_cons_succ]
  go_big_quiet_want
  refine ⟨.bool false, fun W hW => ?_, ?_⟩
  · go_simp
  go_big_quiet_on
  simp only [Act.put, List.setIfInBounds_toArray, List.set_cons_zero, List.set_cons_succ]
  go_big_quiet_want
  refine ⟨.bool false, fun W hW => ?_, ?_⟩
  · go_simp
  go_big_quiet_on
  simp only [Act.put, List.setIfInBounds_toArray, List.set_cons_zero, List.set_cons_succ]
  go_big_quiet_want
  go_big_quiet_op
  go_big_quiet_on
  go_big_quiet_want
  refine ⟨(.agg #[.int .i64 0, .int .u64 0, .int .u64 0, .int .u64 0, .int .u64 0, .int .u64 0, .int .u64 0, .int .u64 0, .int .u64 0]), fun W hW => ?_, ?_⟩
  · have y := (cells_block hW.2.2.2.1).1
    go_simp
  go_big_quiet_on
  simp only [Act.put, List.setIfInBounds_toArray, List.set_cons_zero, List.set_cons_succ]
  go_big_quiet_want
  refine ⟨(.agg #[.int .i64 0, .int .u64 0, .int .u64 0, .int .u64 0, .int .u64 0, .int .u64 0, .int .u64 0, .int .u64 0, .int .u64 0]), fun W hW => ?_, ?_⟩
  · have y := (cells_block hW.2.1).1
    go_simp
  go_big_quiet_on
  simp only [Act.put, List.setIfInBounds_toArray, List.set_cons_zero, List.set_cons_succ]
  go_big_quiet_want
  refine ⟨.bool false, fun W hW => ?_, ?_⟩
  · go_simp
  go_big_quiet_on
  simp only [Act.put, List.setIfInBounds_toArray, List.set_cons_zero, List.set_cons_succ]
  go_big_quiet_want
  refine ⟨.bool false, fun W hW => ?_, ?_⟩
  · go_simp
  go_big_quiet_on
  simp only [Act.put, List.setIfInBounds_toArray, List.set_cons_zero, List.set_cons_succ]
  go_big_quiet_want
  go_big_quiet_op
  go_big_quiet_on
  go_big_quiet_want
  refine ⟨(.agg #[.int .i64 0, .int .u64 0, .int .u64 0, .int .u64 0, .int .u64 0, .int .u64 0, .int .u64 0, .int .u64 0, .int .u64 0]), fun W hW => ?_, ?_⟩
  · have y := (cells_block hW.2.2.2.2.1).1
    go_simp
  go_big_quiet_on
  simp only [Act.put, List.setIfInBounds_toArray, List.set_cons_zero, List.set_cons_succ]
  go_big_quiet_want
  refine ⟨(.agg #[.int .i64 0, .int .u64 0, .int .u64 0, .int .u64 0, .int .u64 0, .int .u64 0, .int .u64 0, .int .u64 0, .int .u64 0]), fun W hW => ?_, ?_⟩
  · have y := (cells_block hW.2.1).1
    go_simp
  go_big_quiet_on
  simp only [Act.put, List.setIfInBounds_toArray, List.set_cons_zero, List.set_cons_succ]
  go_big_quiet_want
  refine ⟨.bool false, fun W hW => ?_, ?_⟩
  · go_simp
  go_big_quiet_on
  simp only [Act.put, List.setIfInBounds_toArray, List.set_cons_zero, List.set_cons_succ]
  go_big_quiet_want
  refine ⟨.bool false, fun W hW => ?_, ?_⟩
  · go_simp
  go_big_quiet_on
  simp only [Act.put, List.setIfInBounds_toArray, List.set_cons_zero, List.set_cons_succ]
  go_big_quiet_want
  go_big_quiet_op
  go_big_quiet_on
  go_big_quiet_want
  refine ⟨(.agg #[.int .i64 0, .int .u64 0, .int .u64 0, .int .u64 0, .int .u64 0, .int .u64 0, .int .u64 0, .int .u64 0, .int .u64 0]), fun W hW => ?_, ?_⟩
  · have y := (cells_block hW.2.2.2.2.2.1).1
    go_simp
  go_big_quiet_on
  simp only [Act.put, List.setIfInBounds_toArray, List.set_cons_zero, List.set_cons_succ]
  go_big_quiet_want
  refine ⟨(.agg #[.int .i64 0, .int .u64 0, .int .u64 0, .int .u64 0, .int .u64 0, .int .u64 0, .int .u64 0, .int .u64 0, .int .u64 0]), fun W hW => ?_, ?_⟩
  · have y := (cells_block hW.2.1).1
    go_simp
  go_big_quiet_on
  simp only [Act.put, List.setIfInBounds_toArray, List.set_cons_zero, List.set_cons_succ]
  go_big_quiet_want
  refine ⟨.bool false, fun W hW => ?_, ?_⟩
  · go_simp
  go_big_quiet_on
  simp only [Act.put, List.setIfInBounds_toArray, List.set_cons_zero, List.set_cons_succ]
  go_big_quiet_want
  refine ⟨.bool false, fun W hW => ?_, ?_⟩
  · go_simp
  go_big_quiet_on
  simp only [Act.put, List.setIfInBounds_toArray, List.set_cons_zero, List.set_cons_succ]
  go_big_quiet_want
  go_big_quiet_op
  go_big_quiet_on
  go_big_quiet_want
  refine ⟨(.agg #[.int .i64 0, .int .u64 0, .int .u64 0, .int .u64 0, .int .u64 0, .int .u64 0, .int .u64 0, .int .u64 0, .int .u64 0]), fun W hW => ?_, ?_⟩
  · have y := (cells_block hW.2.1).1
    go_simp
  go_big_quiet_on
  simp only [Act.put, List.setIfInBounds_toArray, List.set_cons_zero, List.set_cons_succ]
  go_big_quiet_want
  refine ⟨(.agg #[.int .i64 (T.length : Int), .int .u64 (FW T 0 : Int), .int .u64 (FW T 1 : Int), .int .u64 (FW T 2 : Int), .int .u64 (FW T 3 : Int), .int .u64 (OW T 0 : Int), .int .u64 (OW T 1 : Int), .int .u64 (OW T 2 : Int), .int .u64 (OW T 3 : Int)]), fun W hW => ?_, ?_⟩
  · have y := (cells_block hW.1).1
    go_simp
  go_big_quiet_on
  simp only [Act.put, List.setIfInBounds_toArray, List.set_cons_zero, List.set_cons_succ]
  go_big_quiet_want
  refine ⟨(.agg #[.int .i64 0, .int .u64 0, .int .u64 0, .int .u64 0, .int .u64 0, .int .u64 0, .int .u64 0, .int .u64 0, .int .u64 0]), fun W hW => ?_, ?_⟩
  · go_simp
    refine (HRa.out _).mono ?_
    rintro e w' ⟨rfl, hb⟩
    exact ⟨rfl, hW.keep hb⟩
  go_big_quiet_on
  simp only [Act.put, List.setIfInBounds_toArray, List.set_cons_zero, List.set_cons_succ]
  go_big_quiet_want
  refine ⟨(.agg #[.int .i64 0, .int .u64 0, .int .u64 0, .int .u64 0, .int .u64 0, .int .u64 0, .int .u64 0, .int .u64 0, .int .u64 0]), fun W hW => ?_, ?_⟩
  · have y := (cells_block hW.2.1).1
    go_simp
  go_big_quiet_on
  simp only [Act.put, List.setIfInBounds_toArray, List.set_cons_zero, List.set_cons_succ]
  go_big_quiet_want
  refine ⟨.bool false, fun W hW => ?_, ?_⟩
  · go_simp
  go_big_quiet_on
  simp only [Act.put, List.setIfInBounds_toArray, List.set_cons_zero, List.set_cons_succ]
  go_big_quiet_want
  refine ⟨.bool false, fun W hW => ?_, ?_⟩
  · go_simp
  go_big_quiet_on
  simp only [Act.put, List.setIfInBounds_toArray, List.set_cons_zero, List.set_cons_succ]
  go_big_quiet_want
  go_big_quiet_op
  go_big_quiet_on
  go_big_quiet_want
  refine ⟨(.agg #[.int .i64 (T.length : Int), .int .u64 (FW T 0 : Int), .int .u64 (FW T 1 : Int), .int .u64 (FW T 2 : Int), .int .u64 (FW T 3 : Int), .int .u64 (OW T 0 : Int), .int .u64 (OW T 1 : Int), .int .u64 (OW T 2 : Int), .int .u64 (OW T 3 : Int)]), fun W hW => ?_, ?_⟩
  · have y := (cells_block hW.1).1
    go_simp
  go_big_quiet_on
  simp only [Act.put, List.setIfInBounds_toArray, List.set_cons_zero, List.set_cons_succ]
  go_big_quiet_want
  refine ⟨(.agg #[.int .i64 0, .int .u64 0, .int .u64 0, .int .u64 0, .int .u64 0, .int .u64 0, .int .u64 0, .int .u64 0, .int .u64 0]), fun W hW => ?_, ?_⟩
  · have y := (cells_block hW.2.1).1
    go_simp
  go_big_quiet_on
  simp only [Act.put, List.setIfInBounds_toArray, List.set_cons_zero, List.set_cons_succ]
  go_big_quiet_want
  refine ⟨(.agg #[.int .i64 0, .int .u64 0, .int .u64 0, .int .u64 0, .int .u64 0, .int .u64 0, .int .u64 0, .int .u64 0, .int .u64 0]), fun W hW => ?_, ?_⟩
  · go_simp
    refine (HRb.out _).mono ?_
    rintro e w' ⟨rfl, hb⟩
    exact ⟨rfl, hW.keep hb⟩
  go_big_quiet_on
  simp only [Act.put, List.setIfInBounds_toArray, List.set_cons_zero, List.set_cons_succ]
  go_big_quiet_want
  refine ⟨(.agg #[.int .i64 0, .int .u64 0, .int .u64 0, .int .u64 0, .int .u64 0, .int .u64 0, .int .u64 0, .int .u64 0, .int .u64 0]), fun W hW => ?_, ?_⟩
  · have y := (cells_block hW.2.1).1
    go_simp
  go_big_quiet_on
  simp only [Act.put, List.setIfInBounds_toArray, List.set_cons_zero, List.set_cons_succ]
  go_big_quiet_want
  refine ⟨.bool false, fun W hW => ?_, ?_⟩
  · go_simp
  go_big_quiet_on
  simp only [Act.put, List.setIfInBounds_toArray, List.set_cons_zero, List.set_cons_succ]
  go_big_quiet_want
  refine ⟨.bool false, fun W hW => ?_, ?_⟩
  · go_simp
  go_big_quiet_on
  simp only [Act.put, List.setIfInBounds_toArray, List.set_cons_zero, List.set_cons_succ]
  refine wpQuiet_nil ?_
  intro w13 hW
  obtain ⟨kX, kZ, kM, kN, kB, kD, BB⟩ := hW
  clear kM kN kB kD
  have cX := (cells_block kX).1
  have cZ := (cells_block kZ).1
  go_wp2_with fail
  refine (HHa.out _ _).mono ?_
  rintro e w14 ⟨rfl, hb14⟩
  clear cX cZ
  replace kX := keepblk hb14 (allocblk kX _)
  replace kZ := keepblk hb14 (allocblk kZ _)
  replace BB := bel0 (belA BB _) hb14
  clear hb14
  replace kX := allocblk kX (.cells #[.int .i64 0, .int .u64 0, .int .u64 0, .int .u64 0, .int .u64 0, .int .u64 0, .int .u64 0, .int .u64 0, .int .u64 0] 26)
  replace kZ := allocblk kZ (.cells #[.int .i64 0, .int .u64 0, .int .u64 0, .int .u64 0, .int .u64 0, .int .u64 0, .int .u64 0, .int .u64 0, .int .u64 0] 26)
  have kU : (w14.alloc (.cells #[.int .i64 0, .int .u64 0, .int .u64 0, .int .u64 0, .int .u64 0, .int .u64 0, .int .u64 0, .int .u64 0, .int .u64 0] 26)).heap[w14.heap.size]? = some (.cells (#[.int .i64 0, .int .u64 0, .int .u64 0, .int .u64 0, .int .u64 0, .int .u64 0, .int .u64 0, .int .u64 0, .int .u64 0]) 26 (0, 0)) := alloc_get _ _
  replace BB := belA BB (.cells #[.int .i64 0, .int .u64 0, .int .u64 0, .int .u64 0, .int .u64 0, .int .u64 0, .int .u64 0, .int .u64 0, .int .u64 0] 26)
  have cX := (cells_block kX).1
  have cZ := (cells_block kZ).1
  have cU := (cells_block kU).1
  have o1 := own_oneC (w := w14.alloc (.cells #[.int .i64 0, .int .u64 0, .int .u64 0, .int .u64 0, .int .u64 0, .int .u64 0, .int .u64 0, .int .u64 0, .int .u64 0] 26)) 0 (Nat.zero_le _)
  rw [World.size_alloc] at o1
  go_wp2_with fail
  refine (HHb.out _ _ _ o1).mono ?_
  rintro e w15 ⟨rfl, hb15⟩
  clear cX cZ cU
  replace kX := keepblk hb15 (allocblk kX _)
  replace kZ := keepblk hb15 (allocblk kZ _)
  replace kU := keepblk hb15 (allocblk kU _)
  replace BB := bel0 (belA BB _) hb15
  clear hb15 o1
  replace kX := allocblk kX (.cells #[.int .i64 0, .int .u64 0, .int .u64 0, .int .u64 0, .int .u64 0, .int .u64 0, .int .u64 0, .int .u64 0, .int .u64 0] 26)
  replace kZ := allocblk kZ (.cells #[.int .i64 0, .int .u64 0, .int .u64 0, .int .u64 0, .int .u64 0, .int .u64 0, .int .u64 0, .int .u64 0, .int .u64 0] 26)
  replace kU := allocblk kU (.cells #[.int .i64 0, .int .u64 0, .int .u64 0, .int .u64 0, .int .u64 0, .int .u64 0, .int .u64 0, .int .u64 0, .int .u64 0] 26)
  have kV : (w15.alloc (.cells #[.int .i64 0, .int .u64 0, .int .u64 0, .int .u64 0, .int .u64 0, .int .u64 0, .int .u64 0, .int .u64 0, .int .u64 0] 26)).heap[w15.heap.size]? = some (.cells (#[.int .i64 0, .int .u64 0, .int .u64 0, .int .u64 0, .int .u64 0, .int .u64 0, .int .u64 0, .int .u64 0, .int .u64 0]) 26 (0, 0)) := alloc_get _ _
  replace BB := belA BB (.cells #[.int .i64 0, .int .u64 0, .int .u64 0, .int .u64 0, .int .u64 0, .int .u64 0, .int .u64 0, .int .u64 0, .int .u64 0] 26)
  have cX := (cells_block kX).1
  have cZ := (cells_block kZ).1
  have cU := (cells_block kU).1
  have cV := (cells_block kV).1
  go_wp2_with fail
  refine (num_any 11 _).mono ?_
  rintro e w16 ⟨rfl, rfl⟩
  go_wp2_with fail
  refine (num_any 11 _).mono ?_
  rintro e w17 ⟨rfl, rfl⟩
  go_wp2_with fail
  refine (HSo.out _).mono ?_
  rintro e w18 ⟨rfl, hb18⟩
  clear cX cZ cU cV
  replace kX := keepblk hb18 kX
  replace kZ := keepblk hb18 kZ
  replace BB := bel0 BB hb18
  clear hb18 kU kV
  have cX := (cells_block kX).1
  have cZ := (cells_block kZ).1
  go_wp2_with fail
  refine (HSa.out _).mono ?_
  rintro e w19 ⟨v1, rfl, o1, hb19⟩
  clear cX cZ
  replace kX := keepblk hb19 kX
  replace kZ := keepblk hb19 kZ
  replace BB := bel0 BB hb19
  clear hb19
  have o2 := own_oneS (w := w19) 0 [] (Nat.zero_le _)
  replace kX := allocblk kX (.cells #[.string ⟨#[]⟩] 9)
  replace kZ := allocblk kZ (.cells #[.string ⟨#[]⟩] 9)
  replace BB := belA BB (.cells #[.string ⟨#[]⟩] 9)
  replace o1 := o1.alloc (.cells #[.string ⟨#[]⟩] 9)
  have G0 : Hid (∀ x ∈ [([] : List UInt8)], good x = true) := fun x hx => by rw [List.mem_singleton] at hx; subst hx; exact good_nil
  have G1 : Hid (∀ x ∈ [T], good x = true) := fun x hx => by rw [List.mem_singleton] at hx; subst hx; exact GT.out
  go_wp2_with fail
  refine (texts_D [[]] v1 _ _ _ _ G0.out (by decide) o1 o2).mono ?_
  rintro e w20 ⟨rfl, hb20⟩
  replace kX := keepblk hb20 kX
  replace kZ := keepblk hb20 kZ
  replace BB := bel0 BB hb20
  clear hb20 o1 o2
  have cX := (cells_block kX).1
  have cZ := (cells_block kZ).1
  go_wp2_with fail
  refine (HSb.out _).mono ?_
  rintro e w21 ⟨v2, rfl, o1, hb21⟩
  clear cX cZ
  replace BB := bel0 BB hb21
  clear hb21 kX kZ
  go_wp2_with fail
  refine (refC_T t T _ ht hT.out).mono ?_
  rintro e w' ⟨rfl, rfl⟩
  have o2 := own_oneS (w := w21) 0 T (Nat.zero_le _)
  replace BB := belA BB (.cells #[.string ⟨T.toArray⟩] 9)
  replace o1 := o1.alloc (.cells #[.string ⟨T.toArray⟩] 9)
  go_wp2_with fail
  refine (texts_D [T] v2 _ _ _ _ G1.out (by simp) o1 o2).mono ?_
  rintro e w22 ⟨rfl, hb22⟩
  replace BB := bel0 BB hb22
  go_wp2_with fail
  go_ret
  exact ⟨rfl, BB⟩

theorem ternZeros_walk (t h : ByteArray) (w : World) (ht : t.size ≤ maxLen) (hh : h.size ≤ maxLen) :
    Calls Try.prog 4 #[.string t, .string h] w fun e w' => e = .returned (.bool true) ∧ Below w.heap.size w w' :=
  zeros_try t h _ w ht hh rfl (good_cubeT _)
end Go.Proofs.Ytdgglglemdbgcaa
