import Derived.Test.YtkmnonkabekclaaDoorLJ
import Derived.Test.YtkmnonkabekclaaDoorLP0
import Derived.Test.YtkmnonkabekclaaDoorY1
import Derived.Laws.EntriesVeiled
namespace Go.Proofs.YtkmnonkabekclaaDoor
open Go.RowKit Go.Shelf
/-- what a record is handed on as -/
def rcV (r : Rec) : Value := .agg #[.int .i64 (r.seq : Int), .int .i64 (r.kind : Int), .string ⟨r.text.toArray⟩]
theorem rc_at {D : List UInt8} {k : Nat} (h : k ≤ (whL 1 D).length) : rcE D (plc D k) = rdE (D.drop (plc D k)) := by
  have := plc_le h
  unfold rcE
  rw [if_neg (by omega), Int.toNat_natCast]
theorem walk_any (p : Option Addr) (n c : Nat) (w : World) : Calls Tryd.prog 32 #[.slice p n c] w fun e w' => e = .returned (.func (.func 40) #[] #[.pointer (some ⟨w.heap.size, 0, none⟩)]) ∧ w' = w.alloc (.cells #[.slice p n c] 31) := by
  go_enter Tryd.func32, Tryd.ntmps32
  go_wp2
  go_ret
  exact ⟨rfl, rfl⟩
attribute [local go_sem] Oper.semAt_some
set_option maxRecDepth 100000 in
set_option maxHeartbeats 4000000 in
theorem walk1_in (m : Nat) (hm : 1 ≤ m) (l Bc : Nat) (D : List UInt8) (p : Option Addr) (n c : Nat) (hn : D.length = n) (hL : n ≤ 100000000) (hc : n ≤ c) (J : Nat → World → Prop) (Jx : World → Prop) (W0 : World)
    (hJ : ∀ k W W', J k W → Below W.heap.size W W' → J k W') (hD : ∀ k W, J k W → W.cell? ⟨Bc, 0, none⟩ = some (.slice p n c) ∧ BR W p D)
    (hY : ∀ k r W, (whL 1 D)[k]? = some r → J k W → YieldAt Fence.wide (m - 1) Tryd.prog l #[.int .i64 (plc D k : Int), rcV r] W fun e W' => (e = .returned (.bool true) ∧ J (k + 1) W') ∨ (e = .returned (.bool false) ∧ Jx W'))
    (h0 : J 0 W0) :
    CallsIn Fence.wide m Tryd.prog 40 #[.func (.yield l) #[] #[], .pointer (some ⟨Bc, 0, none⟩)] W0 fun e W' => (∃ v, e = .returned v) ∧ (J (whL 1 D).length W' ∨ Jx W') := by
  have HJ : Hid (∀ k W W', J k W → Below W.heap.size W W' → J k W') := hJ
  have HD : Hid (∀ k W, J k W → W.cell? ⟨Bc, 0, none⟩ = some (.slice p n c) ∧ BR W p D) := hD
  have HY : Hid (∀ k r W, (whL 1 D)[k]? = some r → J k W → YieldAt Fence.wide (m - 1) Tryd.prog l #[.int .i64 (plc D k : Int), rcV r] W fun e W' => (e = .returned (.bool true) ∧ J (k + 1) W') ∨ (e = .returned (.bool false) ∧ Jx W')) := hY
  have HN : Hid (D.length = n) := hn
  clear hJ hD hY hn
  refine callsIn_of_wp Tryd.func40 rfl trivial ?_ rfl
  simp only [Tryd.ntmps40, List.size_toArray, List.length_cons, List.length_nil, Nat.reduceAdd, Nat.reduceSub, Array.replicate_succ, Array.replicate_zero, List.push_toArray, List.append_toArray, List.nil_append, List.cons_append]
  gi_wp2
  gi_loopw [3, 4] (fun va vs wr => ∃ k a : Nat, va = .int .i64 a ∧ vs = .int .i64 ((k : Int) + 1) ∧ Hid (a = plc D k) ∧ k ≤ (whL 1 D).length ∧ a ≤ n ∧ Hid (J k wr)) (fun _ vs _ => (whL 1 D).length + 1 - (intOf vs).toNat)
  case atStart => exact ⟨0, 0, rfl, rfl, rfl, Nat.zero_le _, Nat.zero_le _, h0⟩
  case round =>
    obtain ⟨k, a, rfl, rfl, ha, hk, han, hJk⟩ := hrel
    obtain ⟨c0, hbr⟩ := HD.out k wr hJk.out
    have HRD : Hid (Calls Tryd.prog 13 #[.slice p n c, .int .i64 a] wr (RDQ D a wr)) := read_any D p n c a wr HN.out (by omega) hc hbr
    clear hbr
    by_cases hlt : k < (whL 1 D).length
    · obtain ⟨⟨hE, hS⟩, hr, hp⟩ := plc_on hlt
      have hrc := rc_at (D := D) (k := k) hk
      rw [← ha.out] at hE hS hr hp hrc
      rw [hE] at hrc
      have h20 : plc D (k + 1) ≤ n := by rw [← HN.out]; exact plc_le (by omega)
      obtain ⟨K, hK⟩ : ∃ K, rdK (D.drop a) = K := ⟨_, rfl⟩
      obtain ⟨T, hT⟩ : ∃ T, rdT (D.drop a) = T := ⟨_, rfl⟩
      have hr2 : (whL 1 D)[k]? = some ⟨k + 1, K, T⟩ := by rw [hr, rdR, hS, hK, hT]
      obtain ⟨a2, ha2⟩ : ∃ a2, plc D (k + 1) = a2 := ⟨_, rfl⟩
      have HRD2 : Hid (Calls Tryd.prog 13 #[.slice p n c, .int .i64 a] wr fun e w' => e = .returned (.tuple #[.agg #[.int .i64 ((k : Int) + 1), .int .i64 (K : Int), .string ⟨T.toArray⟩], .int .i64 (a2 : Int), .int .i64 0]) ∧ Below wr.heap.size wr w') := by
        refine HRD.out.mono ?_
        rintro e w' ⟨h1, h2⟩
        rw [rcR, rcN, hrc, if_pos rfl, if_pos rfl, Int.toNat_natCast, rdR, hS, hK, hT] at h1
        rw [show (a : Int) + (rdN (D.drop a) : Int) + 20 = (a2 : Int) by rw [← ha2, hp]; omega] at h1
        exact ⟨h1, h2⟩
      have HA2 : Hid (a2 = plc D (k + 1)) := ha2.symm
      have HR2 : Hid ((whL 1 D)[k]? = some ⟨k + 1, K, T⟩) := hr2
      rw [ha2] at h20
      clear hr2 ha2 hT hK hrc hE hS hr hp HRD
      have es : (((k : Int) + 1) != ((k : Int) + 1)) = false := by simp
      have hkb : k ≤ 100000000 := by have h5 := plc_len hk; have h6 := plc_le hk; rw [HN.out] at h6; omega
      have ew : wrap64 ((k : Int) + 1 + 1) = (k : Int) + 1 + 1 := wr_in (by omega)
      gi_wp2_with (refine ⟨trivial, ?_⟩; gi_at_call 13; refine (callsIn_wide.2 HRD2.out).mono ?_)
      rintro e W2 ⟨rfl, b2⟩
      have hJ3 : J k (W2.alloc (.cells #[.int .i64 ((k : Int) + 1), .int .i64 (K : Int), .string ⟨T.toArray⟩] 35)) := HJ.out k wr _ hJk.out (belAZ b2 _)
      obtain ⟨fn, tmps, assign, body, hy, hR⟩ := HY.out k _ _ HR2.out hJ3
      simp only [rcV] at hy
      rw [← ha.out, show (((k + 1 : Nat)) : Int) = (k : Int) + 1 by omega] at hy
      gi_wp2
      refine hR.mono ?_
      rintro e W4 (⟨rfl, hJ4⟩ | ⟨rfl, hJ4⟩)
      · gi_wp2
        exact ⟨⟨k + 1, a2, rfl, by rw [show (((k + 1 : Nat)) : Int) = (k : Int) + 1 by omega], HA2.out, by omega, h20, hJ4⟩, by simp only [intOf]; omega⟩
      · gi_wp2
        refine bodyPost_ret (results_none rfl _ _ _) rfl ?_
        exact ⟨⟨_, rfl⟩, .inr hJ4⟩
    · obtain rfl : k = (whL 1 D).length := by omega
      have hoff := plc_off (D := D)
      have hrc := rc_at (D := D) (k := (whL 1 D).length) (Nat.le_refl _)
      rw [← ha.out] at hoff hrc
      obtain ⟨E, hE⟩ : ∃ E, rcE D a = E := ⟨_, rfl⟩
      obtain ⟨R, hR⟩ : ∃ R, rcR D a = R := ⟨_, rfl⟩
      obtain ⟨NX, hNX⟩ : ∃ NX, rcN D a = NX := ⟨_, rfl⟩
      have HQ : Hid (Calls Tryd.prog 13 #[.slice p n c, .int .i64 a] wr fun e w' => e = .returned (.tuple #[.agg #[.int .i64 (R.seq : Int), .int .i64 (R.kind : Int), .string ⟨R.text.toArray⟩], .int .i64 NX, .int .i64 (E : Int)]) ∧ Below wr.heap.size wr w') := by
        refine HRD.out.mono ?_
        rintro e w' ⟨h1, h2⟩
        rw [hR, hNX, hE] at h1
        exact ⟨h1, h2⟩
      have hs : E = 0 → R.seq ≠ (whL 1 D).length + 1 := fun h0 hs => hoff ⟨by rw [← hrc, hE, h0], by
        rw [← hR, rcR, hE, if_pos h0, Int.toNat_natCast] at hs
        exact hs⟩
      have HJ2 : Hid (∀ X, Below wr.heap.size wr X → J (whL 1 D).length X) := fun X hX => HJ.out _ wr X hJk.out hX
      clear hoff hrc hE hR hNX HRD
      obtain ⟨rs, rk, rt⟩ := R
      simp only at HQ hs
      have HLL : Hid (∀ L, (whL 1 D).length = L → ∀ X, J L X → J (whL 1 D).length X) := fun L hL X h => by rw [hL]; exact h
      obtain ⟨L, hL2⟩ : ∃ L, (whL 1 D).length = L := ⟨_, rfl⟩
      have HL2 := HLL.out L hL2
      rw [hL2] at HJ2 hs
      simp only [hL2]
      have HL3 : Hid (∀ X, J L X → J (whL 1 D).length X) := HL2
      clear HLL HL2 hL2
      by_cases hE0 : E = 0
      · have e1 : ((E : Int) != 0) = false := by simp [hE0]
        have e2 : ((rs : Int) != (L : Int) + 1) = true := by have := hs hE0; simp only [bne_iff_ne, ne_eq]; omega
        clear hE0 hs
        gi_wp2_with (refine ⟨trivial, ?_⟩; gi_at_call 13; refine (callsIn_wide.2 HQ.out).mono ?_)
        rintro e W2 ⟨rfl, b2⟩
        gi_wp2
        refine ⟨fun f h => (by cases h), ?_⟩
        gi_wp2
        refine bodyPost_ret (results_none rfl _ _ _) rfl ?_
        exact ⟨⟨_, rfl⟩, .inl (HL3.out _ (HJ2.out _ (belAZ b2 _)))⟩
      · have e1 : ((E : Int) != 0) = true := by simp only [bne_iff_ne, ne_eq]; omega
        clear hE0 hs
        gi_wp2_with (refine ⟨trivial, ?_⟩; gi_at_call 13; refine (callsIn_wide.2 HQ.out).mono ?_)
        rintro e W2 ⟨rfl, b2⟩
        gi_wp2
        refine ⟨fun f h => (by cases h), ?_⟩
        gi_wp2
        refine bodyPost_ret (results_none rfl _ _ _) rfl ?_
        exact ⟨⟨_, rfl⟩, .inl (HL3.out _ (HJ2.out _ (belAZ b2 _)))⟩
end Go.Proofs.YtkmnonkabekclaaDoor
