import Derived.Test.YtpbbmmkhlpkkbaaGreatDoorXE2
import Derived.Test.YtpbbmmkhlpkkbaaGreatDoorXE1
import Derived.Test.YtpbbmmkhlpkkbaaGreatDoorXBE
import Derived.Test.YtpbbmmkhlpkkbaaGreatDoorXAG
namespace Go.Proofs.YtpbbmmkhlpkkbaaGreatDoor
open Go.RowKit Go.Shelf
theorem cub3 : cubeV [120, 120, 120] = cv 3 0 0 0 0 0 0 0 0 := by
  have h0 : FW [120, 120, 120] 0 = 0 ∧ FW [120, 120, 120] 1 = 0 ∧ FW [120, 120, 120] 2 = 0 ∧ FW [120, 120, 120] 3 = 0 ∧ OW [120, 120, 120] 0 = 0 ∧ OW [120, 120, 120] 1 = 0 ∧ OW [120, 120, 120] 2 = 0 ∧ OW [120, 120, 120] 3 = 0 := by decide +kernel
  obtain ⟨a, b, c, d, e, f, g, h⟩ := h0
  unfold cubeV
  rw [a, b, c, d, e, f, g, h]
  rfl
theorem fw4 : FW [120, 120, 120, 120] 0 = 0 ∧ FW [120, 120, 120, 120] 1 = 0 ∧ FW [120, 120, 120, 120] 2 = 0 ∧ FW [120, 120, 120, 120] 3 = 0 ∧ OW [120, 120, 120, 120] 0 = 0 ∧ OW [120, 120, 120, 120] 1 = 0 ∧ OW [120, 120, 120, 120] 2 = 0 ∧ OW [120, 120, 120, 120] 3 = 0 := by decide +kernel
theorem cub4 : cubeV [120, 120, 120, 120] = cv 4 0 0 0 0 0 0 0 0 := by
  obtain ⟨a, b, c, d, e, f, g, h⟩ := fw4
  unfold cubeV
  rw [a, b, c, d, e, f, g, h]
  rfl
theorem ces4 : ces [[120, 120, 120, 120]] = [.int .i64 4, .int .u64 0, .int .u64 0, .int .u64 0, .int .u64 0, .int .u64 0, .int .u64 0, .int .u64 0, .int .u64 0] := by
  obtain ⟨a, b, c, d, e, f, g, h⟩ := fw4
  show ce9 [120, 120, 120, 120] ++ [] = _
  unfold ce9
  rw [a, b, c, d, e, f, g, h]
  rfl
theorem pr_none1 : prB 1 [110, 111, 110, 101] = 1 ∧ prE 1 [110, 111, 110, 101] = 0 ∧ prT 1 [110, 111, 110, 101] = [] := by
  have h : prE 1 [110, 111, 110, 101] = 0 := by decide +kernel
  exact ⟨by unfold prB; rw [if_pos h], h, by unfold prT; rw [if_pos h, if_pos rfl]⟩
theorem pr_bad {b : Int} {l : List UInt8} (h : prE b l = 1) : prB b l = 0 ∧ prE b l = 1 ∧ prT b l = [] :=
  ⟨by unfold prB; rw [if_neg (by rw [h]; decide)], h, by unfold prT; rw [if_neg (by rw [h]; decide)]⟩
theorem parse_badG (b : Int) (l : List UInt8) (h : prE b l = 1) (hl : l.length ≤ maxLen) (W : World) : Calls Tryz.prog 5 #[.int .i64 b, .string ⟨l.toArray⟩] W fun e w' => ∃ p k c, e = .returned (.tuple #[.agg #[.int .i64 0, .slice p k c, .bool false], .int .i64 1]) ∧ Below W.heap.size W w' := by
  have h1 := sParse_any b l W hl
  obtain ⟨e1, e2, e3⟩ := pr_bad h
  unfold PRS at h1
  rw [e1, e2, e3] at h1
  refine h1.mono ?_
  rintro e w' ⟨V, rfl, sv, hb⟩
  obtain ⟨p, c, rfl⟩ := sv.shape
  exact ⟨p, _, c, rfl, hb⟩
theorem xpL_nil (b lim : Int) : xpL b lim [] = [] := by
  unfold xpL
  split
  · rfl
  · split
    · rfl
    · rfl
theorem all_is (n : Int) (c : List UInt8) (V : Value) (h1 : (if 1 ≤ n ∧ n ≤ 256 then List.replicate n.toNat 120 else []) = c) (h2 : cubeV c = V) (W : World) : Calls Tryz.prog 19 #[.int .i64 n] W fun e w' => e = .returned V ∧ Below W.heap.size W w' := by
  have h := all_any n W
  rw [h1, h2] at h
  exact h
set_option maxRecDepth 100000 in
theorem edges_walk (w : World) : Calls Tryz.prog 3 #[] w fun e w' => e = .returned (.bool true) ∧ Below w.heap.size w w' := by
  refine edges_core (fun W p c => SPL W 0 (.slice p 0 c) []) (fun b lim => xpE b lim []) (by decide) (by decide) (by decide) (by decide) awake_any ?hPa ?hQ ?hQ0 (fun b p c W => bits_any b p 0 c W) ?hTx ?hSz ?hHs
    (fun b b2 p1 p2 c1 c2 W hf => joinW b b2 p1 p2 0 c1 0 c2 W hf) (fun b b2 p1 p2 c1 c2 W hf => meetW b b2 p1 p2 0 c1 0 c2 W hf) (fun b b2 p1 p2 c1 c2 W hf => minusW b b2 p1 p2 0 c1 0 c2 W hf)
    (fun b p c W => beforeW b p 0 c W) (fun b lim p c W => afterW b lim p 0 c W) (fun b b2 lim p1 p2 c1 c2 W hf => withinW b b2 lim p1 p2 0 c1 0 c2 W hf) ?hEx (fun lim p c W => leastW lim p 0 c W) ?hO1
    (fun W => all_is 3 _ _ rfl cub3 W) (fun W => all_is 4 _ _ rfl cub4 W) ?hO2 (fun W => parse_badG 257 [110, 111, 110, 101] (by decide +kernel) (by unfold maxLen; decide) W) (fun W => parse_badG 0 [63] (by decide +kernel) (by unfold maxLen; decide) W) ?hN1 ?hN2 ?hN3 w
  case hPa =>
    intro W
    have h1 := sParse_any 1 [110, 111, 110, 101] W (by unfold maxLen; decide)
    obtain ⟨e1, e2, e3⟩ := pr_none1
    unfold PRS at h1
    rw [e1, e2, e3] at h1
    refine h1.mono ?_
    rintro e w' ⟨V, rfl, sv, hb⟩
    obtain ⟨p, c, rfl⟩ := sv.shape
    exact ⟨p, c, rfl, sv.base (Nat.zero_le _), hb⟩
  case hQ => exact fun W W' p c h hb => SPL.below h hb
  case hQ0 => exact fun W => SPL_nil W 0
  case hTx =>
    intro b p c W h
    exact spText_any b _ [] 0 W h (by decide) (fun t ht => by cases ht)
  case hSz =>
    intro b p c W h
    exact spSize_any b _ [] 0 W h (by decide)
  case hHs =>
    intro b p c s W h hs
    exact sHas_any b _ [] 0 s W h (fun t ht => by cases ht) (Nat.zero_le _) (fun t ht => by cases ht) (by unfold maxLen; omega)
  case hEx =>
    intro b lim E p c W h hE
    have h1 := sExpand_any b lim [] 0 _ W h (by decide) (fun t ht => by cases ht)
    have hE' : xpE b lim [] = E := hE
    rw [hE', xpL_nil] at h1
    refine h1.mono ?_
    rintro e w' ⟨v, rfl, o, hb⟩
    obtain ⟨q, k, rfl⟩ := shapeQ1 o
    exact ⟨q, k, rfl, hb⟩
  case hO1 =>
    intro W
    have h1 : Calls Tryz.prog 18 #[cubeV [], .slice none 0 0] W _ := ofW [] [] none 0 0 0 W rfl (by omega) (by decide) (fun x hx => by cases hx) (World.ownsRow_nil _ _ _ _) rfl
    rw [cubeV_nil] at h1
    exact h1
  case hO2 =>
    intro g W hg
    have ho : W.ownsRow 0 38 9 (.slice (some ⟨g, 0, none⟩) 1 1) 1 (ces [[120, 120, 120, 120]]) := by
      rw [ces4]
      exact ⟨rfl, .inr ⟨g, 1, _, rfl, Nat.zero_le _, hg, Nat.le_refl _, by unfold maxLen; decide, rfl, rfl⟩⟩
    have h1 : Calls Tryz.prog 18 #[cubeV [120, 120, 120], .slice (some ⟨g, 0, none⟩) 1 1] W _ := ofW [120, 120, 120] [[120, 120, 120, 120]] _ 1 1 0 W rfl (by omega) (by decide) (fun x hx => by rw [List.mem_singleton] at hx; subst hx; decide) ho (by decide)
    rw [cub3] at h1
    exact h1
  case hN1 =>
    intro W
    exact none_any (-1) W
  case hN2 =>
    intro W
    exact none_any 256 W
  case hN3 =>
    intro W
    exact none_any 257 W
end Go.Proofs.YtpbbmmkhlpkkbaaGreatDoor
