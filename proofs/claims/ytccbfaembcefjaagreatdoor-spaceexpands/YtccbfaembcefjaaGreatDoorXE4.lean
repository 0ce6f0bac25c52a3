import Derived.Test.YtccbfaembcefjaaGreatDoorXE3
import Derived.Test.YtccbfaembcefjaaGreatDoorXBE
namespace Go.Proofs.YtccbfaembcefjaaGreatDoor
open Go.RowKit Go.Shelf
theorem exE_ok {lim : Nat} : ∀ (Ts : List (List UInt8 × List (List UInt8))) (out R : List (List UInt8)), gdS Ts → (∀ x ∈ out, good x = true) → out.length ≤ lim → exE splT lim out Ts = some R → (∀ x ∈ R, good x = true) ∧ R.length ≤ lim
  | [], out, R, _, g, h, e => by
    injection e with e
    subst e
    exact ⟨g, h⟩
  | t :: r, out, R, gt, g, h, e => by
    unfold exE at e
    split at e
    · rename_i ho
      obtain ⟨t1, t3⟩ := gt t List.mem_cons_self
      refine exE_ok r _ R (fun x hx => gt x (List.mem_cons_of_mem _ hx)) (fun x hx => ?_) ?_ e
      · rcases List.mem_append.1 hx with hx | hx
        · exact g x hx
        · exact (gdW_exT t.2 [t.1] (fun y hy => by rw [List.mem_singleton] at hy; subst hy; exact ⟨t1, rfl⟩) t3 x hx).1
      · rw [List.length_append]
        exact exO_len splT ho
    · cases e
theorem xpL_ok {b lim : Int} {Ts : List (List UInt8 × List (List UInt8))} (h : gdS Ts) : (∀ x ∈ xpL b lim Ts, good x = true) ∧ (xpL b lim Ts).length ≤ 2048 := by
  unfold xpL
  split
  · exact ⟨(fun x hx => by cases hx), Nat.zero_le _⟩
  · split
    · exact ⟨(fun x hx => by cases hx), Nat.zero_le _⟩
    · rename_i h2
      cases hx : exE splT lim.toNat [] Ts with
      | none => exact ⟨(fun x hx => by cases hx), Nat.zero_le _⟩
      | some R =>
        obtain ⟨h3, h4⟩ := exE_ok Ts [] R h (fun x hx => by cases hx) (Nat.zero_le _) hx
        exact ⟨h3, by show R.length ≤ 2048; omega⟩
set_option maxRecDepth 100000 in
set_option maxHeartbeats 4000000 in
theorem listed_any (L : List (List UInt8)) (n : Nat) (p q : Option Addr) (cp cq : Nat) (w : World) (hn : L.length = n) (hN : n ≤ 4096) (hr : IRC w p L) (hs : IRSt w q L) (hg : ∀ x ∈ L, good x = true) :
    Calls Tryz.prog 11 #[.slice p n cp, .slice q n cq] w fun e w' => e = .returned (.bool true) ∧ Below w.heap.size w w' := by
  have HR : Hid (IRC w p L) := hr
  have HS : Hid (IRSt w q L) := hs
  have HN : Hid (L.length = n ∧ ∀ x ∈ L, good x = true) := ⟨hn, hg⟩
  clear hr hs hn hg
  go_enter Tryz.func11, Tryz.ntmps11
  go_wp2_with fail
  go_loopw [5] (fun v5 wr => ∃ i : Nat, v5 = .int .i64 (i : Int) ∧ i ≤ n ∧ Below w.heap.size w wr) (fun v5 _ => n - (intOf v5).toNat)
  case atStart => exact ⟨0, rfl, Nat.zero_le _, Below.refl _ _⟩
  case round =>
    obtain ⟨i, rfl, hi, hB⟩ := hrel
    by_cases hlt : i < n
    · have i1 : (i : Int) < (n : Int) := by omega
      have i0 : (0 : Int) ≤ (i : Int) := by omega
      obtain ⟨z, hz⟩ : ∃ z, L[i]? = some z := ⟨_, List.getElem?_eq_getElem (by rw [HN.out.1]; exact hlt)⟩
      obtain ⟨g, o0, rfl, -⟩ := HR.out wr hB i z hz
      obtain ⟨g2, o2, rfl, -⟩ := HS.out wr hB i z hz
      have HK : Hid (∀ W, Below wr.heap.size wr W → (W.cell? ⟨g, o0 + i * 9, none⟩ = some (.int .i64 (z.length : Int)) ∧ W.cell? ⟨g, o0 + i * 9 + 1, none⟩ = some (.int .u64 (FW z 0 : Int)) ∧ W.cell? ⟨g, o0 + i * 9 + 2, none⟩ = some (.int .u64 (FW z 1 : Int)) ∧ W.cell? ⟨g, o0 + i * 9 + 3, none⟩ = some (.int .u64 (FW z 2 : Int)) ∧ W.cell? ⟨g, o0 + i * 9 + 4, none⟩ = some (.int .u64 (FW z 3 : Int)) ∧ W.cell? ⟨g, o0 + i * 9 + 5, none⟩ = some (.int .u64 (OW z 0 : Int)) ∧ W.cell? ⟨g, o0 + i * 9 + 6, none⟩ = some (.int .u64 (OW z 1 : Int)) ∧ W.cell? ⟨g, o0 + i * 9 + 7, none⟩ = some (.int .u64 (OW z 2 : Int)) ∧ W.cell? ⟨g, o0 + i * 9 + 8, none⟩ = some (.int .u64 (OW z 3 : Int))) ∧ W.cell? ⟨g2, o2 + i, none⟩ = some (.string ⟨z.toArray⟩)) := fun W hW => by
        obtain ⟨a, b, e1, c1⟩ := HR.out W (bel0 hB hW) i z hz
        obtain ⟨a2, b2, e2, c2⟩ := HS.out W (bel0 hB hW) i z hz
        injection e1 with e1
        injection e1 with x1 x2 _
        injection e2 with e2
        injection e2 with x3 x4 _
        subst x1 x2 x3 x4
        exact ⟨c1, c2⟩
      have HT : Hid (∀ W, Calls Tryz.prog 28 #[.agg #[.int .i64 (z.length : Int), .int .u64 (FW z 0 : Int), .int .u64 (FW z 1 : Int), .int .u64 (FW z 2 : Int), .int .u64 (FW z 3 : Int), .int .u64 (OW z 0 : Int), .int .u64 (OW z 1 : Int), .int .u64 (OW z 2 : Int), .int .u64 (OW z 3 : Int)]] W fun e w' => e = .returned (.string ⟨z.toArray⟩) ∧ Below W.heap.size W w') := fun W => text_any z W (HN.out.2 z (List.mem_of_getElem? hz))
      have hk0 := HK.out wr (Below.refl _ _)
      have hk0d : (wr.drew.cell? ⟨g, o0 + i * 9, none⟩ = some (.int .i64 (z.length : Int)) ∧ wr.drew.cell? ⟨g, o0 + i * 9 + 1, none⟩ = some (.int .u64 (FW z 0 : Int)) ∧ wr.drew.cell? ⟨g, o0 + i * 9 + 2, none⟩ = some (.int .u64 (FW z 1 : Int)) ∧ wr.drew.cell? ⟨g, o0 + i * 9 + 3, none⟩ = some (.int .u64 (FW z 2 : Int)) ∧ wr.drew.cell? ⟨g, o0 + i * 9 + 4, none⟩ = some (.int .u64 (FW z 3 : Int)) ∧ wr.drew.cell? ⟨g, o0 + i * 9 + 5, none⟩ = some (.int .u64 (OW z 0 : Int)) ∧ wr.drew.cell? ⟨g, o0 + i * 9 + 6, none⟩ = some (.int .u64 (OW z 1 : Int)) ∧ wr.drew.cell? ⟨g, o0 + i * 9 + 7, none⟩ = some (.int .u64 (OW z 2 : Int)) ∧ wr.drew.cell? ⟨g, o0 + i * 9 + 8, none⟩ = some (.int .u64 (OW z 3 : Int))) ∧ wr.drew.cell? ⟨g2, o2 + i, none⟩ = some (.string ⟨z.toArray⟩) := hk0
      clear hz
      go_upto_region 6 with fail
      go_region_held3 (fun W => (W.cell? ⟨g, o0 + i * 9, none⟩ = some (.int .i64 (z.length : Int)) ∧ W.cell? ⟨g, o0 + i * 9 + 1, none⟩ = some (.int .u64 (FW z 0 : Int)) ∧ W.cell? ⟨g, o0 + i * 9 + 2, none⟩ = some (.int .u64 (FW z 1 : Int)) ∧ W.cell? ⟨g, o0 + i * 9 + 3, none⟩ = some (.int .u64 (FW z 2 : Int)) ∧ W.cell? ⟨g, o0 + i * 9 + 4, none⟩ = some (.int .u64 (FW z 3 : Int)) ∧ W.cell? ⟨g, o0 + i * 9 + 5, none⟩ = some (.int .u64 (OW z 0 : Int)) ∧ W.cell? ⟨g, o0 + i * 9 + 6, none⟩ = some (.int .u64 (OW z 1 : Int)) ∧ W.cell? ⟨g, o0 + i * 9 + 7, none⟩ = some (.int .u64 (OW z 2 : Int)) ∧ W.cell? ⟨g, o0 + i * 9 + 8, none⟩ = some (.int .u64 (OW z 3 : Int))) ∧ W.cell? ⟨g2, o2 + i, none⟩ = some (.string ⟨z.toArray⟩)) (first | with_reducible exact hk0 | with_reducible exact hk0d | with_reducible exact hk5) (first | (go_at_call 28; refine (HT.out _).mono ?_; rintro e w5 ⟨rfl, hb5⟩; have hb5' : Below wr.heap.size wr w5 := (by first | exact hb5 | exact und hb5); have hk5 := HK.out w5 hb5'))
      have HB5 : Hid (Below w.heap.size w w5) := bel0 hB hb5'
      clear hk0 hk0d hk5 hb5 hb5'
      go_wp2_with fail
      go_roundw
      case rel => exact ⟨i + 1, by go_num, by omega, HB5.out⟩
      case measure => simp [intOf]; omega
    · have i1 : ¬ (i : Int) < (n : Int) := by omega
      obtain rfl : i = n := by omega
      go_wp2_with fail
      go_ret
      exact ⟨rfl, hB⟩
set_option maxRecDepth 100000 in
set_option maxHeartbeats 4000000 in
theorem expands_walk (b : Int) (l : List UInt8) (lim : Int) (w : World) (hl0 : l.length ≤ 281474976710656) : Calls Tryz.prog 3 #[.int .i64 b, .string ⟨l.toArray⟩, .int .i64 lim] w fun e w' => e = .returned (.bool true) ∧ Below w.heap.size w w' := by
  have hla : l.length ≤ maxLen := by unfold maxLen; omega
  have ok1 := prT_ok b l
  have gt1 := gdS_pr b l
  obtain ⟨B1, hB1⟩ : ∃ B, prB b l = B := ⟨_, rfl⟩
  obtain ⟨X1, hX1⟩ : ∃ X, prT b l = X := ⟨_, rfl⟩
  have HR1 : Hid (Calls Tryz.prog 7 #[.int .i64 b, .string ⟨l.toArray⟩] w fun e w' => ∃ V V2, e = .returned (.tuple #[.agg #[.int .i64 B1, V, .bool false], .agg #[.int .i64 B1, V2], .bool true]) ∧ SPL w' w.heap.size V X1 ∧ RSR w' V2 X1 ∧ Below w.heap.size w w') := by
    unfold Hid
    rw [← hB1, ← hX1]
    exact read_any b l w hla
  rw [hX1] at ok1 gt1
  have HJ1 : Hid (∀ (W : World) (V : Value), SPL W 0 V X1 → Calls Tryz.prog 8 #[.agg #[.int .i64 B1, V, .bool false], .int .i64 lim] W fun e w' => ∃ v, e = .returned (.tuple #[v, .int .i64 (xpE B1 lim X1)]) ∧ w'.ownsRow W.heap.size 50 9 v (xpL B1 lim X1).length (ces (xpL B1 lim X1)) ∧ Below W.heap.size W w') := fun W V h => sExpand_any B1 lim X1 0 V W h ok1.2 gt1
  have HJ2 : Hid (∀ (W : World) (V : Value), RSR W V X1 → Calls Tryz.prog 9 #[.agg #[.int .i64 B1, V], .int .i64 lim] W fun e w' => ∃ v, e = .returned (.tuple #[v, .int .i64 (xpE B1 lim X1)]) ∧ w'.ownsRow W.heap.size 9 1 v (xpL B1 lim X1).length (stx (xpL B1 lim X1)) ∧ Below W.heap.size W w') := fun W V h => by
    refine (dExpand_any B1 lim V X1 W h gt1 ok1.2).mono ?_
    rintro e w' ⟨v, E, L, rfl, ⟨rfl, rfl⟩, h1, h2⟩
    exact ⟨v, rfl, h1, h2⟩
  have hxl := xpL_ok (b := B1) (lim := lim) gt1
  obtain ⟨E, hE⟩ : ∃ E, xpE B1 lim X1 = E := ⟨_, rfl⟩
  obtain ⟨L, hL⟩ : ∃ L, xpL B1 lim X1 = L := ⟨_, rfl⟩
  rw [hE, hL] at HJ1 HJ2
  rw [hL] at hxl
  obtain ⟨n, hn⟩ : ∃ n, L.length = n := ⟨_, rfl⟩
  rw [hn] at HJ1 HJ2 hxl
  have HX : Hid (L.length = n ∧ n ≤ 4096 ∧ ∀ x ∈ L, good x = true) := ⟨hn, by omega, hxl.1⟩
  clear hB1 hX1 ok1 gt1 hE hL hxl hn hla
  obtain ⟨n1, hn1⟩ : ∃ n, X1.length = n := ⟨_, rfl⟩
  go_enter Tryz.func3, Tryz.ntmps3
  go_wp2_with fail
  refine HR1.out.mono ?_
  rintro e w1 ⟨V, V2, rfl, sv1, rv1, hb1⟩
  obtain ⟨p1, c1, rfl⟩ := sv1.shape
  obtain ⟨q1, d1, rfl⟩ := rv1.shape
  rw [hn1] at sv1 rv1 ⊢
  obtain ⟨wA, hwA⟩ : ∃ wA, ((w1.alloc (.cells #[.int .i64 B1, .slice p1 n1 c1, .bool false] 24 (0, 0))).alloc (.cells #[.int .i64 B1, .slice q1 n1 d1] 27 (0, 0))) = wA := ⟨_, rfl⟩
  have HF : Hid (∀ W, Below wA.heap.size wA W → ((∀ j, W.cell? ⟨w1.heap.size, j, none⟩ = (#[.int .i64 B1, .slice p1 n1 c1, .bool false] : Array Value)[j]?) ∧ (∀ j, W.cell? ⟨w1.heap.size + 1, j, none⟩ = (#[.int .i64 B1, .slice q1 n1 d1] : Array Value)[j]?) ∧ SPL W 0 (.slice p1 n1 c1) X1 ∧ RSR W (.slice q1 n1 d1) X1 ∧ Below w.heap.size w W)) := fun W hW => by
    rw [← hwA] at hW
    have h1 : Below w1.heap.size w1 W := bel0 (belA (belA (Below.refl _ _) _) _) hW
    exact ⟨(cells_block (keepblk3 hW (alw_0 _ _ _))).1, (cells_block (keepblk3 hW (alw_1 _ _ _))).1, (sv1.below h1).base (Nat.zero_le _), rv1.later h1, bel0 hb1 h1⟩
  obtain ⟨f1, f2, f3, f4, -⟩ := HF.out wA (Below.refl _ _)
  clear sv1 rv1 hb1 HR1
  go_wp2_with fail
  refine (HJ1.out _ _ f3).mono ?_
  rintro e w2 ⟨v2, rfl, o2, hb2⟩
  obtain ⟨p2, c2, rfl⟩ := shapeQ1 o2
  obtain ⟨g1, g2, g3, g4, -⟩ := HF.out w2 hb2
  have HB2 : Hid (Below wA.heap.size wA w2 ∧ w2.ownsRow wA.heap.size 50 9 (.slice p2 n c2) n (ces L)) := ⟨hb2, o2⟩
  clear f1 f2 f3 f4 g1 g3 hwA hb2 o2
  go_wp2_with fail
  refine (HJ2.out _ _ g4).mono ?_
  rintro e w3 ⟨v3, rfl, o3, hb3⟩
  obtain ⟨p3, c3, rfl⟩ := shapeQ1 o3
  have HB3 : Hid (Below w2.heap.size w2 w3 ∧ w3.ownsRow w2.heap.size 9 1 (.slice p3 n c3) n (stx L)) := ⟨hb3, o3⟩
  clear g2 g4 hb3 o3
  go_wp2_with fail
  refine (num_any E _).mono ?_
  rintro e w4 ⟨rfl, hb4⟩
  have HB4 : Hid (Below w3.heap.size w3 w4) := hb4
  clear hb4
  go_wp2_with fail
  refine (listed_any L n p2 p3 c2 c3 w4 HX.out.1 HX.out.2.1 ((IRC_own HB2.out.2 HX.out.1).later (bel0 HB3.out.1 HB4.out)) ((IRSt_own HB3.out.2 HX.out.1).later HB4.out) HX.out.2.2).mono ?_
  rintro e w5 ⟨rfl, hb5⟩
  have HZ : Hid (Below w.heap.size w w5) := (HF.out w5 (bel0 HB2.out.1 (bel0 HB3.out.1 (bel0 HB4.out hb5)))).2.2.2.2
  clear hb5
  go_wp2_with fail
  go_ret
  exact ⟨rfl, HZ.out⟩
end Go.Proofs.YtccbfaembcefjaaGreatDoor
