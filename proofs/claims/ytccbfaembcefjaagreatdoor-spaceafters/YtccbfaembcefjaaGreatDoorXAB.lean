import Derived.Test.YtccbfaembcefjaaGreatDoorRows
import Derived.WalkKit
import Derived.WalkSpells
import Derived.WalkLawsBesides
import Derived.Deep.QuietTactic
import Derived.BigQuiet
import Derived.Test.YtccbfaembcefjaaGreatDoorXAA
import Derived.Laws.IdiomStrings
namespace Go.Proofs.YtccbfaembcefjaaGreatDoor
open Go.RowKit

/-- the value of a cube: its width, the four words of its fixed places, the four words of its ones -/
def cv (n a b c d e f g h : Int) : Value := .agg #[.int .i64 n, .int .u64 a, .int .u64 b, .int .u64 c, .int .u64 d, .int .u64 e, .int .u64 f, .int .u64 g, .int .u64 h]

theorem bcell {W w1 : World} (hb : Below W.heap.size W w1) : (∀ b o, b < W.heap.size → w1.cell? ⟨b, o, none⟩ = W.cell? ⟨b, o, none⟩) ∧ (∀ b o, b < W.heap.size → w1.frozen? ⟨b, o, none⟩ = W.frozen? ⟨b, o, none⟩) :=
  ⟨fun b o h => hb.cell (p := ⟨b, o, none⟩) h, fun b o h => hb.frozen (p := ⟨b, o, none⟩) h⟩

theorem below_drewN (B n : Nat) (w : World) : Below B w (w.drewN n) := by
  induction n with
  | zero => exact Below.refl _ _
  | succ n ih => exact ⟨ih.os, ih.tape, ih.output, ih.size, ih.block⟩

set_option maxHeartbeats 400000 in
theorem all_yes (n : Int) (w : World) (h1 : 1 ≤ n) (h2 : n ≤ 256) :
    Calls Tryz.prog 60 #[.int .i64 n] w fun e w' => e = .returned (cv n 0 0 0 0 0 0 0 0) ∧ Below w.heap.size w w' := by
  go_enter Tryz.func60, Tryz.ntmps60
  go_wp2
  exact bodyPost_ret (v := cv n 0 0 0 0 0 0 0 0) (by simp [results, Tryz.results60, go_sem, cv]) rfl ⟨rfl, (Below.refl _ _).alloc (Nat.le_refl _) _⟩

set_option maxHeartbeats 400000 in
theorem all_no (n : Int) (w : World) (h : n < 1 ∨ 256 < n) :
    Calls Tryz.prog 60 #[.int .i64 n] w fun e w' => e = .returned (cv 0 0 0 0 0 0 0 0 0) ∧ Below w.heap.size w w' := by
  rcases h with h | h
  · go_enter Tryz.func60, Tryz.ntmps60
    go_wp2
    exact bodyPost_ret (v := cv 0 0 0 0 0 0 0 0 0) (by simp [results, Tryz.results60, go_sem, cv]) rfl ⟨rfl, (Below.refl _ _).alloc (Nat.le_refl _) _⟩
  · have h' : ¬ n < 1 := by omega
    go_enter Tryz.func60, Tryz.ntmps60
    go_wp2
    exact bodyPost_ret (v := cv 0 0 0 0 0 0 0 0 0) (by simp [results, Tryz.results60, go_sem, cv]) rfl ⟨rfl, (Below.refl _ _).alloc (Nat.le_refl _) _⟩

theorem wrap_pow (r : Nat) (h : r < 64) : IntKind.u64.wrap ((2 : Int) ^ r) = ((2 ^ r : Nat) : Int) := by
  rw [IntKind.wrap_u64]
  have h1 : 2 ^ r < 2 ^ 64 := Nat.pow_lt_pow_right (by omega) h
  have h2 : ((2 : Int) ^ r) = ((2 ^ r : Nat) : Int) := by simp
  rw [h2]; generalize 2 ^ r = x at h1 ⊢; omega

set_option maxHeartbeats 400000 in
theorem spot_raw (p : Int) (w : World) (h1 : 0 ≤ p) (h2 : p < 256) :
    Calls Tryz.prog 61 #[.int .i64 p] w fun e w' => e = .returned (.tuple #[.int .i64 (p / 64), .int .u64 ((2 ^ (p % 64).toNat : Nat) : Int)]) ∧ ∃ n, w' = w.drewN n := by
  have hm : 0 ≤ p % 64 ∧ p % 64 < 64 := by omega
  go_enter Tryz.func61, Tryz.ntmps61
  go_wp2
  go_quiet (fail)
  go_wp2
  go_ret2
  exact ⟨by rw [wrap_pow _ (by omega)]; rfl, _, rfl⟩

theorem spot_at (p : Int) (k r : Nat) (w : World) (hk : k < 4) (hr : r < 64) (hp : p = ((64 * k + r : Nat) : Int)) :
    Calls Tryz.prog 61 #[.int .i64 p] w fun e w' => e = .returned (.tuple #[.int .i64 k, .int .u64 ((2 ^ r : Nat) : Int)]) ∧ ∃ n, w' = w.drewN n := by
  refine (spot_raw p w (by omega) (by omega)).mono ?_
  rintro e w' ⟨rfl, h⟩
  have e1 : p / 64 = (k : Int) := by omega
  have e2 : (p % 64).toNat = r := by omega
  rw [e1, e2]
  exact ⟨rfl, h⟩

set_option maxHeartbeats 400000 in
theorem fix_0 (n a b c d e f g h bit ds : Int) (w : World) :
    Calls Tryz.prog 108 #[cv n a b c d e f g h, .int .i64 0, .int .u64 bit, .int .u64 ds] w fun e' w' => e' = .returned (cv n (bits .or .u64 a bit) b c d (bits .or .u64 e (bits .and .u64 bit ds)) f g h) ∧ Below w.heap.size w w' := by
  unfold cv
  go_enter Tryz.func108, Tryz.ntmps108
  go_wp2
  exact bodyPost_ret (v := cv n (bits .or .u64 a bit) b c d (bits .or .u64 e (bits .and .u64 bit ds)) f g h) (by simp [results, Tryz.results108, go_sem, cv]) rfl ⟨rfl, ((Below.refl _ _).alloc (Nat.le_refl _) _).alloc (by simp) _⟩

set_option maxHeartbeats 400000 in
theorem at_0 (n a b c d e f g h p : Int) (r : Nat) (w : World) (hr : r < 64) (hp : p = ((64 * 0 + r : Nat) : Int)) :
    Calls Tryz.prog 58 #[cv n a b c d e f g h, .int .i64 p] w fun e' w' => e' = .returned (.int .u8 (if (bits .and .u64 a ((2 ^ r : Nat) : Int) == 0) = true then 120 else if (bits .and .u64 e ((2 ^ r : Nat) : Int) == 0) = true then 48 else 49)) ∧ Below w.heap.size w w' := by
  have HP : Hid (p = ((64 * 0 + r : Nat) : Int)) := hp
  clear hp
  unfold cv
  generalize hX : (2 ^ r : Nat) = X
  have HX : Hid ((2 ^ r : Nat) = X) := hX
  clear hX
  go_enter Tryz.func58, Tryz.ntmps58
  go_wp2_with (go_at_call 61; refine (spot_at p 0 r _ (by decide) hr HP.out).mono ?_; rintro e w' ⟨rfl, nq, rfl⟩; rw [HX.out])
  all_goals go_ret
  all_goals exact ⟨by simp_all, ((Below.refl _ _).alloc (Nat.le_refl _) _).trans (below_drewN _ _ _)⟩

set_option maxHeartbeats 400000 in
theorem fix_1 (n a b c d e f g h bit ds : Int) (w : World) :
    Calls Tryz.prog 108 #[cv n a b c d e f g h, .int .i64 1, .int .u64 bit, .int .u64 ds] w fun e' w' => e' = .returned (cv n a (bits .or .u64 b bit) c d e (bits .or .u64 f (bits .and .u64 bit ds)) g h) ∧ Below w.heap.size w w' := by
  unfold cv
  go_enter Tryz.func108, Tryz.ntmps108
  go_wp2
  exact bodyPost_ret (v := cv n a (bits .or .u64 b bit) c d e (bits .or .u64 f (bits .and .u64 bit ds)) g h) (by simp [results, Tryz.results108, go_sem, cv]) rfl ⟨rfl, ((Below.refl _ _).alloc (Nat.le_refl _) _).alloc (by simp) _⟩

set_option maxHeartbeats 400000 in
theorem at_1 (n a b c d e f g h p : Int) (r : Nat) (w : World) (hr : r < 64) (hp : p = ((64 * 1 + r : Nat) : Int)) :
    Calls Tryz.prog 58 #[cv n a b c d e f g h, .int .i64 p] w fun e' w' => e' = .returned (.int .u8 (if (bits .and .u64 b ((2 ^ r : Nat) : Int) == 0) = true then 120 else if (bits .and .u64 f ((2 ^ r : Nat) : Int) == 0) = true then 48 else 49)) ∧ Below w.heap.size w w' := by
  have HP : Hid (p = ((64 * 1 + r : Nat) : Int)) := hp
  clear hp
  unfold cv
  generalize hX : (2 ^ r : Nat) = X
  have HX : Hid ((2 ^ r : Nat) = X) := hX
  clear hX
  go_enter Tryz.func58, Tryz.ntmps58
  go_wp2_with (go_at_call 61; refine (spot_at p 1 r _ (by decide) hr HP.out).mono ?_; rintro e w' ⟨rfl, nq, rfl⟩; rw [HX.out])
  all_goals go_ret
  all_goals exact ⟨by simp_all, ((Below.refl _ _).alloc (Nat.le_refl _) _).trans (below_drewN _ _ _)⟩

set_option maxHeartbeats 400000 in
theorem fix_2 (n a b c d e f g h bit ds : Int) (w : World) :
    Calls Tryz.prog 108 #[cv n a b c d e f g h, .int .i64 2, .int .u64 bit, .int .u64 ds] w fun e' w' => e' = .returned (cv n a b (bits .or .u64 c bit) d e f (bits .or .u64 g (bits .and .u64 bit ds)) h) ∧ Below w.heap.size w w' := by
  unfold cv
  go_enter Tryz.func108, Tryz.ntmps108
  go_wp2
  exact bodyPost_ret (v := cv n a b (bits .or .u64 c bit) d e f (bits .or .u64 g (bits .and .u64 bit ds)) h) (by simp [results, Tryz.results108, go_sem, cv]) rfl ⟨rfl, ((Below.refl _ _).alloc (Nat.le_refl _) _).alloc (by simp) _⟩

set_option maxHeartbeats 400000 in
theorem at_2 (n a b c d e f g h p : Int) (r : Nat) (w : World) (hr : r < 64) (hp : p = ((64 * 2 + r : Nat) : Int)) :
    Calls Tryz.prog 58 #[cv n a b c d e f g h, .int .i64 p] w fun e' w' => e' = .returned (.int .u8 (if (bits .and .u64 c ((2 ^ r : Nat) : Int) == 0) = true then 120 else if (bits .and .u64 g ((2 ^ r : Nat) : Int) == 0) = true then 48 else 49)) ∧ Below w.heap.size w w' := by
  have HP : Hid (p = ((64 * 2 + r : Nat) : Int)) := hp
  clear hp
  unfold cv
  generalize hX : (2 ^ r : Nat) = X
  have HX : Hid ((2 ^ r : Nat) = X) := hX
  clear hX
  go_enter Tryz.func58, Tryz.ntmps58
  go_wp2_with (go_at_call 61; refine (spot_at p 2 r _ (by decide) hr HP.out).mono ?_; rintro e w' ⟨rfl, nq, rfl⟩; rw [HX.out])
  all_goals go_ret
  all_goals exact ⟨by simp_all, ((Below.refl _ _).alloc (Nat.le_refl _) _).trans (below_drewN _ _ _)⟩

set_option maxHeartbeats 400000 in
theorem fix_3 (n a b c d e f g h bit ds : Int) (w : World) :
    Calls Tryz.prog 108 #[cv n a b c d e f g h, .int .i64 3, .int .u64 bit, .int .u64 ds] w fun e' w' => e' = .returned (cv n a b c (bits .or .u64 d bit) e f g (bits .or .u64 h (bits .and .u64 bit ds))) ∧ Below w.heap.size w w' := by
  unfold cv
  go_enter Tryz.func108, Tryz.ntmps108
  go_wp2
  exact bodyPost_ret (v := cv n a b c (bits .or .u64 d bit) e f g (bits .or .u64 h (bits .and .u64 bit ds))) (by simp [results, Tryz.results108, go_sem, cv]) rfl ⟨rfl, ((Below.refl _ _).alloc (Nat.le_refl _) _).alloc (by simp) _⟩

set_option maxHeartbeats 400000 in
theorem at_3 (n a b c d e f g h p : Int) (r : Nat) (w : World) (hr : r < 64) (hp : p = ((64 * 3 + r : Nat) : Int)) :
    Calls Tryz.prog 58 #[cv n a b c d e f g h, .int .i64 p] w fun e' w' => e' = .returned (.int .u8 (if (bits .and .u64 d ((2 ^ r : Nat) : Int) == 0) = true then 120 else if (bits .and .u64 h ((2 ^ r : Nat) : Int) == 0) = true then 48 else 49)) ∧ Below w.heap.size w w' := by
  have HP : Hid (p = ((64 * 3 + r : Nat) : Int)) := hp
  clear hp
  unfold cv
  generalize hX : (2 ^ r : Nat) = X
  have HX : Hid ((2 ^ r : Nat) = X) := hX
  clear hX
  go_enter Tryz.func58, Tryz.ntmps58
  go_wp2_with (go_at_call 61; refine (spot_at p 3 r _ (by decide) hr HP.out).mono ?_; rintro e w' ⟨rfl, nq, rfl⟩; rw [HX.out])
  all_goals go_ret
  all_goals exact ⟨by simp_all, ((Below.refl _ _).alloc (Nat.le_refl _) _).trans (below_drewN _ _ _)⟩
end Go.Proofs.YtccbfaembcefjaaGreatDoor
namespace Go.Proofs.YtccbfaembcefjaaGreatDoor
open Go.RowKit

/-- the value of the cube of a text -/
def cubeV (t : List UInt8) : Value := cv t.length (FW t 0) (FW t 1) (FW t 2) (FW t 3) (OW t 0) (OW t 1) (OW t 2) (OW t 3)

theorem cubeV_all (n : Nat) : cubeV (List.replicate n 120) = cv n 0 0 0 0 0 0 0 0 := by
  unfold cubeV; simp only [FW_all, OW_all, List.length_replicate]; rfl

theorem all_any (n : Int) (w : World) : Calls Tryz.prog 60 #[.int .i64 n] w fun e w' => e = .returned (cubeV (if 1 ≤ n ∧ n ≤ 256 then List.replicate n.toNat 120 else [])) ∧ Below w.heap.size w w' := by
  by_cases h : 1 ≤ n ∧ n ≤ 256
  · rw [if_pos h]
    refine (all_yes n w h.1 h.2).mono ?_
    rintro e w' ⟨rfl, hb⟩
    refine ⟨?_, hb⟩
    rw [cubeV_all]
    have : ((n.toNat : Nat) : Int) = n := by omega
    rw [this]
  · rw [if_neg h]
    refine (all_no n w (by omega)).mono ?_
    rintro e w' ⟨rfl, hb⟩
    refine ⟨?_, hb⟩
    have := cubeV_all 0
    rw [List.replicate_zero] at this
    rw [this]; rfl

theorem fix_any (t : List UInt8) (k r D : Nat) (w : World) (hk : k < 4) (hr : r < 64) (hD : D < 18446744073709551616) (hp : 64 * k + r < t.length) (hx : t[64 * k + r] = 120) :
    Calls Tryz.prog 108 #[cubeV t, .int .i64 k, .int .u64 ((2 ^ r : Nat) : Int), .int .u64 (D : Int)] w fun e w' => e = .returned (cubeV (t.set (64 * k + r) (dg D r))) ∧ Below w.heap.size w w' := by
  have h1 := FW_set t k r (dg D r) hr (dg_ne D r) hp
  have h2 := OW_set t k r D hr hD hp hx
  have g1 := fun j hj => FW_set_ne t k j r (dg D r) hr (dg_ne D r) hp hj
  have g2 := fun j hj => OW_set_ne t k j r (dg D r) hr hp hx hj
  have hl : (t.set (64 * k + r) (dg D r)).length = t.length := by simp
  match k, hk with
  | 0, _ =>
    refine (fix_0 _ _ _ _ _ _ _ _ _ _ _ w).mono ?_
    rintro e w' ⟨rfl, hb⟩
    refine ⟨?_, hb⟩
    rw [h1, h2]
    unfold cubeV
    rw [g1 1 (by decide), g1 2 (by decide), g1 3 (by decide), g2 1 (by decide), g2 2 (by decide), g2 3 (by decide), hl]
  | 1, _ =>
    refine (fix_1 _ _ _ _ _ _ _ _ _ _ _ w).mono ?_
    rintro e w' ⟨rfl, hb⟩
    refine ⟨?_, hb⟩
    rw [h1, h2]
    unfold cubeV
    rw [g1 0 (by decide), g1 2 (by decide), g1 3 (by decide), g2 0 (by decide), g2 2 (by decide), g2 3 (by decide), hl]
  | 2, _ =>
    refine (fix_2 _ _ _ _ _ _ _ _ _ _ _ w).mono ?_
    rintro e w' ⟨rfl, hb⟩
    refine ⟨?_, hb⟩
    rw [h1, h2]
    unfold cubeV
    rw [g1 0 (by decide), g1 1 (by decide), g1 3 (by decide), g2 0 (by decide), g2 1 (by decide), g2 3 (by decide), hl]
  | 3, _ =>
    refine (fix_3 _ _ _ _ _ _ _ _ _ _ _ w).mono ?_
    rintro e w' ⟨rfl, hb⟩
    refine ⟨?_, hb⟩
    rw [h1, h2]
    unfold cubeV
    rw [g1 0 (by decide), g1 1 (by decide), g1 2 (by decide), g2 0 (by decide), g2 1 (by decide), g2 2 (by decide), hl]

theorem at_any (t : List UInt8) (p : Int) (q : Nat) (w : World) (hg : good t = true) (hp : p = (q : Int)) (hq : q < t.length) :
    Calls Tryz.prog 58 #[cubeV t, .int .i64 p] w fun e w' => e = .returned (.int .u8 (t[q].toNat : Int)) ∧ Below w.heap.size w w' := by
  have hl := good_len hg
  have ht := good_tri hg q hq
  have hkr : ∃ k r, k < 4 ∧ r < 64 ∧ q = 64 * k + r := ⟨q / 64, q % 64, by omega, by omega, by omega⟩
  obtain ⟨k, r, hk, hr, rfl⟩ := hkr
  have e := at_eq t (64 * k + r) hq ht
  rw [← FW_at t k r hr, ← OW_at t k r hr] at e
  match k, hk with
  | 0, _ =>
    refine (at_0 _ _ _ _ _ _ _ _ _ p r w hr hp).mono ?_
    rintro e' w' ⟨rfl, hb⟩
    exact ⟨by rw [e], hb⟩
  | 1, _ =>
    refine (at_1 _ _ _ _ _ _ _ _ _ p r w hr hp).mono ?_
    rintro e' w' ⟨rfl, hb⟩
    exact ⟨by rw [e], hb⟩
  | 2, _ =>
    refine (at_2 _ _ _ _ _ _ _ _ _ p r w hr hp).mono ?_
    rintro e' w' ⟨rfl, hb⟩
    exact ⟨by rw [e], hb⟩
  | 3, _ =>
    refine (at_3 _ _ _ _ _ _ _ _ _ p r w hr hp).mono ?_
    rintro e' w' ⟨rfl, hb⟩
    exact ⟨by rw [e], hb⟩
end Go.Proofs.YtccbfaembcefjaaGreatDoor
namespace Go.Proofs.YtccbfaembcefjaaGreatDoor
open Go.RowKit

theorem info_u8 : (Tryz.prog.info? 5).map (fun i => (i.zero, i.size, i.bytes)) = some (some (.int .u8 0), 1, 1) := by kernel_rfl

theorem grown_of_below {w w' : World} (h : Below w.heap.size w w') (row : Option Nat) : w.grownBy w' row :=
  ⟨h.os, h.tape, h.output, h.size, fun k hk _ => h.block k hk⟩

theorem owns_below {w w' : World} {base : Nat} {e : TypeId} {size : Nat} {v : Value} {n : Nat} {xs : List Value} (h : w.ownsRow base e size v n xs) (hb : Below w.heap.size w w') : w'.ownsRow base e size v n xs := by
  refine h.kept (grown_of_below hb none) ?_
  cases v.ownBlock <;> simp

/-- the cells of a text's bytes -/
def bys (t : List UInt8) : List Value := t.map fun b => .int .u8 (b.toNat : Int)
/-- the row behind k bytes -/
def rowAt (t : List UInt8) (k : Nat) : List Value := bys (t.take k) ++ List.replicate (t.length - k) (.int .u8 0)

theorem rowAt_len (t : List UInt8) (k : Nat) (h : k ≤ t.length) : (rowAt t k).length = t.length := by simp [rowAt, bys]; omega
theorem rowAt_all (t : List UInt8) : rowAt t t.length = bys t := by simp [rowAt]
theorem rowAt_zero (t : List UInt8) : rowAt t 0 = List.replicate t.length (.int .u8 0) := by simp [rowAt, bys]
theorem rowAt_get (t : List UInt8) (k : Nat) (h : k < t.length) : (rowAt t k)[k]? = some (.int .u8 0) := by
  unfold rowAt bys
  rw [List.getElem?_append_right (by simp; omega)]
  have h1 : min k t.length = k := by omega
  have h2 : 0 < t.length - k := by omega
  simp [h1, h2]
theorem rowAt_succ (t : List UInt8) (k : Nat) (h : k < t.length) : (rowAt t k).set k (.int .u8 (t[k].toNat : Int)) = rowAt t (k + 1) := by
  unfold rowAt bys
  have hs : t.take (k + 1) = t.take k ++ [t[k]] := List.take_succ_eq_append_getElem h
  have : t.length - k = (t.length - (k + 1)) + 1 := by omega
  rw [this, List.replicate_succ, List.set_append_right _ _ (by simp; omega), hs, List.map_append]
  simp [Nat.min_eq_left (Nat.le_of_lt h)]

theorem add_plain (b o j : Nat) : (⟨b, o, none⟩ : Addr).add j = ⟨b, o + j, none⟩ := by unfold Addr.add; split <;> simp_all

/-- 'string(b)' of a row of the call's own -/
theorem conv_owned (W : World) (B g cap : Nat) (t : List UInt8) (hown : W.ownsRow B 5 1 (.slice (some ⟨g, 0, none⟩) t.length cap) t.length (bys t)) :
    (convert 111 9 (.slice (some ⟨g, 0, none⟩) t.length cap)).run Tryz.prog W = .ok (.string ⟨t.toArray⟩) W := by
  refine run_convert_bytes_back _ _ _ 5 _ _ t Tryz.underlying111 Tryz.underlying5 Tryz.underlying9 ?_
  intro j hj
  have := hown.cellAt j (by omega)
  rw [add_plain, Nat.zero_add, this]
  simp [bys, List.getElem?_eq_getElem hj]

set_option maxHeartbeats 400000 in
theorem text_any (t : List UInt8) (w : World) (hg : good t = true) :
    Calls Tryz.prog 28 #[cubeV t] w fun e w' => e = .returned (.string ⟨t.toArray⟩) ∧ Below w.heap.size w w' := by
  have hl := good_len hg
  obtain ⟨i0, hi, hz0, hz1, hz2⟩ := info_parts info_u8
  unfold cubeV cv
  go_enter Tryz.func28, Tryz.ntmps28
  go_wp2_with (at_make; refine wpList_make_full _ rfl _ _ 111 rfl (w.heap.size + 1) 5 i0 (.int .u8 0) 1 Tryz.underlying111 hi hz0 hz1 .i64 .i64 _ _ t.length rfl rfl rfl rfl (by rw [hz2]; omega) (by unfold maxLen; omega) (by simp) ?_; intro w1 hown hgrow)
  have hB : Below (w.heap.size + 1) (w.alloc (.cells #[.int .i64 (t.length : Int), .int .u64 (FW t 0 : Int), .int .u64 (FW t 1 : Int), .int .u64 (FW t 2 : Int), .int .u64 (FW t 3 : Int), .int .u64 (OW t 0 : Int), .int .u64 (OW t 1 : Int), .int .u64 (OW t 2 : Int), .int .u64 (OW t 3 : Int)] 50)) w1 := (Below.refl _ _).grown hgrow (by simp) (fun k h => by cases h)
  have hown' : w1.ownsRow (w.heap.size + 1) 5 1 (.slice (some ⟨w.heap.size + 1, 0, none⟩) t.length t.length) t.length (rowAt t 0) := by
    rw [rowAt_zero]
    have h1 : (madeCells (Value.int IntKind.u8 0).cells (t.length * 1)).toList = List.replicate t.length (.int .u8 0) := by rw [Nat.mul_one]; exact toList_madeCells_one _ _
    rw [h1] at hown
    simpa using hown
  clear hown hgrow
  go_loopw [10] (fun i wr => ∃ k : Nat, k ≤ t.length ∧ i = .int .i64 k ∧ wr.ownsRow (w.heap.size + 1) 5 1 (.slice (some ⟨w.heap.size + 1, 0, none⟩) t.length t.length) t.length (rowAt t k) ∧ Below (w.heap.size + 1) (w.alloc (.cells #[.int .i64 (t.length : Int), .int .u64 (FW t 0 : Int), .int .u64 (FW t 1 : Int), .int .u64 (FW t 2 : Int), .int .u64 (FW t 3 : Int), .int .u64 (OW t 0 : Int), .int .u64 (OW t 1 : Int), .int .u64 (OW t 2 : Int), .int .u64 (OW t 3 : Int)] 50)) wr) (fun i _ => t.length - (intOf i).toNat)
  case atStart => exact ⟨0, Nat.zero_le _, rfl, hown', hB⟩
  case round =>
    clear hB hown'
    obtain ⟨k, hk, rfl, hown, hB⟩ := hrel
    have hc : ∀ b o, b < w.heap.size + 1 → wr.cell? ⟨b, o, none⟩ = (w.alloc (.cells #[.int .i64 (t.length : Int), .int .u64 (FW t 0 : Int), .int .u64 (FW t 1 : Int), .int .u64 (FW t 2 : Int), .int .u64 (FW t 3 : Int), .int .u64 (OW t 0 : Int), .int .u64 (OW t 1 : Int), .int .u64 (OW t 2 : Int), .int .u64 (OW t 3 : Int)] 50)).cell? ⟨b, o, none⟩ := fun b o h => hB.cell (p := ⟨b, o, none⟩) h
    have hsz : w.heap.size + 1 ≤ wr.heap.size := by have := hB.size; simpa using this
    by_cases hlt : k < t.length
    · go_wp2_with (go_at_call 58; refine (at_any t _ k _ hg rfl hlt).mono ?_; rintro e w2 ⟨rfl, hb2⟩; have hown2 := owns_below hown hb2; have hc2 := (hown2.cellAt k (by omega)).trans (rowAt_get t k hlt); have hf2 := hown2.frozenAt k)
      go_roundw
      case rel =>
        refine ⟨k + 1, by omega, by go_num, ?_, ?_⟩
        · have := hown2.stored k (.int .u8 (t[k].toNat : Int))
          rw [rowAt_succ t k hlt] at this
          exact this.1
        · exact (hB.trans (hb2.mono hsz)).setCell (Nat.le_refl _) _
      case measure => simp [intOf]; omega
    · have hkn : k = t.length := by omega
      subst hkn
      rw [rowAt_all] at hown
      have hcv := conv_owned wr (w.heap.size + 1) (w.heap.size + 1) t.length t hown
      go_wp2
      go_ret
      exact ⟨rfl, ((Below.refl _ _).alloc (Nat.le_refl _) _).trans (hB.mono (by omega))⟩
end Go.Proofs.YtccbfaembcefjaaGreatDoor
