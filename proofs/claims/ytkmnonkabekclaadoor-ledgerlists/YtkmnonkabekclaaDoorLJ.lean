import Derived.Test.YtkmnonkabekclaaDoorLI
import Derived.Laws.IdiomStrings
import Derived.Deep.CutBlock
namespace Go.Proofs.YtkmnonkabekclaaDoor
open Go.RowKit
theorem readHead_any (d : List UInt8) (p : Option Addr) (c : Nat) (w : World) (hd : d.length = 16) (hc : 16 ≤ c) (hr : BR w p d) :
    Calls Tryd.prog 29 #[.slice p 16 c] w (RHQ d w) := by
  by_cases h : d.getD 0 0 = 82 ∧ d.getD 1 0 = 76 ∧ d.getD 3 0 = 0
  · exact readHead_sum d p c w hd hc hr h.1 h.2.1 h.2.2
  · exact readHead_bad d p c w hd hc hr h
/-- the head is in the first sixteen bytes -/
theorem head16 {d : List UInt8} (h : 16 ≤ d.length) : (hdB (d.take 16) ↔ hdB d) ∧ rdS (d.take 16) = rdS d ∧ rdK (d.take 16) = rdK d ∧ rdN (d.take 16) = rdN d := by
  match d, h with
  | b0 :: b1 :: b2 :: b3 :: b4 :: b5 :: b6 :: b7 :: b8 :: b9 :: b10 :: b11 :: b12 :: b13 :: b14 :: b15 :: r, _ => exact ⟨Iff.rfl, rfl, rfl, rfl⟩
theorem br_drop {w : World} {g o : Nat} {l : List UInt8} (h : BR w (some ⟨g, o, none⟩) l) (i : Nat) : BR w (some ⟨g, o + i, none⟩) (l.drop i) := fun k x hx => by
  rw [List.getElem?_drop] at hx
  refine ⟨g, o + i, rfl, ?_⟩
  rw [Nat.add_assoc]
  exact h.at hx
theorem conv_bytes {w : World} {g o n c : Nat} {l : List UInt8} (hn : l.length = n) (h : BR w (some ⟨g, o, none⟩) l) : (convert 31 9 (.slice (some ⟨g, o, none⟩) n c)).run Tryd.prog w = .ok (.string ⟨l.toArray⟩) w := by
  subst hn
  refine run_convert_bytes_back (P := Tryd.prog) w 31 9 5 ⟨g, o, none⟩ c l Tryd.underlying31 Tryd.underlying5 Tryd.underlying9 (fun j hj => ?_)
  have hadd : (⟨g, o, none⟩ : Addr).add j = ⟨g, o + j, none⟩ := by unfold Addr.add; split <;> simp_all
  rw [hadd]
  exact h.at (List.getElem?_eq_getElem hj)
/-- Read's error -/
def rcE (D : List UInt8) (a : Int) : Nat := if a < 0 ∨ (D.length : Int) < a then 1 else rdE (D.drop a.toNat)
def rcR (D : List UInt8) (a : Int) : Rec := if rcE D a = 0 then rdR (D.drop a.toNat) else ⟨0, 0, []⟩
def rcN (D : List UInt8) (a : Int) : Int := if rcE D a = 0 then a + rdN (D.drop a.toNat) + 20 else 0
/-- what Read answers -/
def RDQ (D : List UInt8) (a : Int) (w : World) (e : Ending) (w' : World) : Prop :=
  e = .returned (.tuple #[.agg #[.int .i64 ((rcR D a).seq : Int), .int .i64 ((rcR D a).kind : Int), .string ⟨(rcR D a).text.toArray⟩], .int .i64 (rcN D a), .int .i64 (rcE D a : Int)]) ∧ Below w.heap.size w w'
theorem rdq_no {D : List UInt8} {a : Int} {w w' : World} {e : Ending} {E : Nat} (hE : rcE D a = E) (h0 : E ≠ 0) (he : e = .returned (.tuple #[.agg #[.int .i64 0, .int .i64 0, .string ⟨#[]⟩], .int .i64 0, .int .i64 (E : Int)])) (hb : Below w.heap.size w w') : RDQ D a w e w' := by
  refine ⟨?_, hb⟩
  rw [rcR, rcN, hE, if_neg h0, if_neg h0, he]
  rfl
theorem res_rd (tmps : Array Value) (W : World) (b : Nat) (s k : Int) (t : List UInt8) (y z : Value) (h : tmps[4]?.getD undef = .pointer (some ⟨b, 0, none⟩) ∧ tmps[5]?.getD undef = y ∧ tmps[6]?.getD undef = z) (hb : RBX W b s k t) : (results Tryd.f13 tmps).run Tryd.prog W = .ok (.tuple #[.agg #[.int .i64 s, .int .i64 k, .string ⟨t.toArray⟩], y, z]) W := by
  obtain ⟨h0, h1, h2⟩ := h
  obtain ⟨c0, c1, c2⟩ := hb
  simp [results, h0, h1, h2, c0, c1, c2, go_sem]
set_option maxRecDepth 100000 in
set_option maxHeartbeats 8000000 in
theorem read_any (D : List UInt8) (p : Option Addr) (n c : Nat) (a : Int) (w : World) (hn : D.length = n) (hL : n ≤ 281474976710656) (hc : n ≤ c) (hr : BR w p D) :
    Calls Tryd.prog 13 #[.slice p n c, .int .i64 a] w (RDQ D a w) := by
  have HBA : Hid (∀ x : Obj, Below w.heap.size w (w.alloc x)) := fun x => (Below.refl _ _).alloc (Nat.le_refl _) x
  by_cases ha : a < 0 ∨ (n : Int) < a
  · have hE : rcE D a = 1 := by unfold rcE; rw [hn, if_pos ha]
    clear hr hn
    rcases ha with ha | ha
    · go_enter Tryd.func13, Tryd.ntmps13
      go_wp2_with fail
      refine bodyPost_ret (res_rd _ _ w.heap.size 0 0 [] _ _ ⟨rfl, rfl, rfl⟩ (RBX_new (alloc_getZ _ _))) rfl ?_
      exact rdq_no hE (by decide) rfl (HBA.out _)
    · have ha0 : ¬ a < 0 := by omega
      go_enter Tryd.func13, Tryd.ntmps13
      go_wp2_with fail
      refine bodyPost_ret (res_rd _ _ w.heap.size 0 0 [] _ _ ⟨rfl, rfl, rfl⟩ (RBX_new (alloc_getZ _ _))) rfl ?_
      exact rdq_no hE (by decide) rfl (HBA.out _)
  · obtain ⟨A, rfl⟩ : ∃ A : Nat, a = A := ⟨a.toNat, by omega⟩
    have hE : rcE D A = rdE (D.drop A) := by unfold rcE; rw [hn, if_neg ha, Int.toNat_natCast]
    have ha0 : ¬ (A : Int) < 0 := by omega
    have ha1 : ¬ (n : Int) < (A : Int) := by omega
    have ha2 : A ≤ n := by omega
    have ha3 : (A : Int) ≤ (n : Int) := by omega
    have ha4 : (0 : Int) ≤ (A : Int) := by omega
    have ha5 : (A : Int) ≤ (c : Int) := by omega
    have hdl : (D.drop A).length = n - A := by rw [List.length_drop, hn]
    by_cases h16 : n - A < 16
    · have hE1 : rcE D A = 191 := by rw [hE]; unfold rdE; rw [hdl, if_pos h16]
      have h16' : ((n - A : Nat) : Int) < 16 := by omega
      clear hr hn hdl ha
      go_enter Tryd.func13, Tryd.ntmps13
      go_wp2_with fail
      all_goals
        refine bodyPost_ret (res_rd _ _ w.heap.size 0 0 [] _ _ ⟨rfl, rfl, rfl⟩ (RBX_new (alloc_getZ _ _))) rfl ?_
        exact rdq_no hE1 (by decide) rfl (HBA.out _)
    · have g1 : ¬ ((n - A : Nat) : Int) < 16 := by omega
      have g2 : A < c := by omega
      have g3 : (16 : Int) ≤ ((c - A : Nat) : Int) := by omega
      obtain ⟨g, o, rfl⟩ := hr.some (by omega)
      obtain ⟨W1, hW1⟩ : ∃ W1, w.alloc (.cells #[.int .i64 0, .int .i64 0, .string ⟨#[]⟩] 35 (0, 0)) = W1 := ⟨_, rfl⟩
      have b1 : Below w.heap.size w W1 := by rw [← hW1]; exact HBA.out _
      have HX1 : Hid (W1.heap[w.heap.size]? = some (.cells #[.int .i64 0, .int .i64 0, .string ⟨#[]⟩] 35 (0, 0))) := by rw [← hW1]; exact alloc_getZ _ _
      have HR : Hid (BR w (some ⟨g, o + A, none⟩) (D.drop A)) := br_drop hr A
      obtain ⟨d, hd⟩ : ∃ d, D.drop A = d := ⟨_, rfl⟩
      rw [hd] at HR hE hdl
      have HD : Hid (D.drop A = d) := hd
      have HLD : Hid (d.length = n - A) := hdl
      have H1 : Hid (Calls Tryd.prog 29 #[.slice (some ⟨g, o + A, none⟩) 16 (c - A)] W1 (RHQ (d.take 16) W1)) := readHead_any (d.take 16) (some ⟨g, o + A, none⟩) (c - A) W1 (by rw [List.length_take, hdl]; omega) (by omega) ((HR.out.below b1).take 16)
      have HEE : Hid (rcE D A = rdE d) := hE
      clear hd hdl hE hr hn
      go_enter Tryd.func13, Tryd.ntmps13
      go_wp2_with fail
      refine H1.out.mono ?_
      rintro e W2 ⟨s, k, N, rfl, hsk, b2⟩
      obtain ⟨x1, x2, x3, x4⟩ := head16 (d := d) (by rw [HLD.out]; omega)
      have hdec : decide (hdB (d.take 16)) = decide (hdB d) := by rw [decide_eq_decide]; exact x1
      rw [hdec]
      obtain ⟨hb, hhb⟩ : ∃ hb, decide (hdB d) = hb := ⟨_, rfl⟩
      rw [hhb]
      have HHB : Hid (decide (hdB d) = hb) := hhb
      clear hhb
      rw [x2, x3, x4] at hsk
      replace hsk := fun h => hsk (x1.2 h)
      clear hdec x1 x2 x3 x4 H1
      go_upto_region 7 with fail
      obtain ⟨W3, hW3⟩ : ∃ W3, W2.alloc (.cells #[.int .i64 (s : Int), .int .i64 (k : Int), .string ⟨#[]⟩] 35 (0, 0)) = W3 := ⟨_, rfl⟩
      rw [hW3]
      have b3 : Below W2.heap.size W2 W3 := by rw [← hW3]; exact (Below.refl _ _).alloc (Nat.le_refl _) _
      have HY3 : Hid (W3.heap[W2.heap.size]? = some (.cells #[.int .i64 (s : Int), .int .i64 (k : Int), .string ⟨#[]⟩] 35 (0, 0))) := by rw [← hW3]; exact alloc_getZ _ _
      have HX3 : Hid (W3.heap[w.heap.size]? = some (.cells #[.int .i64 0, .int .i64 0, .string ⟨#[]⟩] 35 (0, 0))) := keepZ b3 (keepZ b2 HX1.out)
      have B3 : Hid (Below w.heap.size w W3) := bel0Z (bel0Z b1 b2) b3
      have HR3 : Hid (BR W3 (some ⟨g, o + A, none⟩) d) := HR.out.below B3.out
      have hne : w.heap.size < W2.heap.size := Nat.lt_of_lt_of_le (lt_getZ HX1.out) b2.size
      clear hW3
      have f0 := (cellsZ HX3.out).2 0
      have f1 := (cellsZ HX3.out).2 1
      have f2 := (cellsZ HX3.out).2 2
      obtain ⟨q0, q1, q2⟩ := RBX_new (t := []) HX3.out
      cases hb with
      | true =>
        have hh : hdB d := of_decide_eq_true HHB.out
        obtain ⟨rfl, rfl, rfl⟩ := hsk hh
        have HH : Hid (hdB d) := hh
        obtain ⟨N, hN⟩ : ∃ N, rdN d = N := ⟨_, rfl⟩
        have n14 : N ≤ 16384 := by rw [← hN]; exact hh.2.2
        have HNN : Hid (rdN d = N) := hN
        simp only [hN]
        clear hsk hh hN b1 b2 b3 HX1
        by_cases h20 : n - A < N + 20
        · have hE1 : rcE D A = 191 := by rw [HEE.out, rdE, HLD.out, if_neg h16, if_neg (fun h => h HH.out), if_pos (by rw [HNN.out]; exact h20)]
          have g4 : ((n - A : Nat) : Int) < 20 + (N : Int) := by omega
          go_wp2_with fail
          refine bodyPost_ret (res_rd _ _ w.heap.size 0 0 [] _ _ ⟨rfl, rfl, rfl⟩ (RBX_new (put3w _ _ _ HX3.out))) rfl ?_
          exact rdq_no hE1 (by decide) rfl (bel3 B3.out (Nat.le_refl _) _ _ _)
        · have g4 : ¬ ((n - A : Nat) : Int) < 20 + (N : Int) := by omega
          have g5 : (16 : Int) + (N : Int) ≤ ((c - A : Nat) : Int) := by omega
          have g6 : (0 : Int) ≤ 16 + (N : Int) := by omega
          have HS := sum_n (d.take (16 + N)) (some ⟨g, o + A, none⟩) (16 + N) (c - A) W3 (by rw [List.length_take, HLD.out]; omega) (by omega) (HR3.out.take _)
          go_wp2_with fail
          refine HS.mono ?_
          rintro e W4 ⟨rfl, b4⟩
          have HR4 : Hid (BR W4 (some ⟨g, o + A, none⟩) d) := HR3.out.below b4
          have HX4 : Hid (W4.heap[w.heap.size]? = some (.cells #[.int .i64 0, .int .i64 0, .string ⟨#[]⟩] 35 (0, 0))) := keepZ b4 HX3.out
          have HY4 : Hid (W4.heap[W2.heap.size]? = some (.cells #[.int .i64 (rdS d : Int), .int .i64 (rdK d : Int), .string ⟨#[]⟩] 35 (0, 0))) := keepZ b4 HY3.out
          have B4 : Hid (Below w.heap.size w W4) := bel0Z B3.out b4
          have HQ := numAt_any d (some ⟨g, o + A, none⟩) (n - A) (c - A) (16 + N) W4 HLD.out (by omega) (by omega) (by omega) HR4.out
          rw [show (((16 + N : Nat)) : Int) = 16 + (N : Int) by omega] at HQ
          clear HS b4 f0 f1 f2 q0 q1 q2 HX3 HY3 HR3 B3
          go_wp2_with fail
          refine HQ.mono ?_
          rintro e W5 ⟨rfl, rfl⟩
          clear HQ
          have f0 := (cellsZ HX4.out).2 0
          have f1 := (cellsZ HX4.out).2 1
          have f2 := (cellsZ HX4.out).2 2
          obtain ⟨q0, q1, q2⟩ := RBX_new (t := []) HX4.out
          by_cases hs : sumN (d.take (16 + N)) = numL (d.drop (16 + N))
          · have es : ((sumN (d.take (16 + N)) : Int) != (numL (d.drop (16 + N)) : Int)) = false := by rw [hs]; simp
            have hE0 : rcE D A = 0 := by rw [HEE.out, rdE, HLD.out, if_neg h16, if_neg (fun h => h HH.out), if_neg (by rw [HNN.out]; exact h20), if_neg (by rw [HNN.out]; exact fun h => h hs)]
            have h0 := (cellsZ HY4.out).2 2
            obtain ⟨r0, r1, r2⟩ := RBX_new (t := []) HY4.out
            generalize sumN (d.take (16 + N)) = S1 at *
            generalize numL (d.drop (16 + N)) = S2 at *
            have hTl : (rdT d).length = N := by rw [rdT_len (by rw [← HEE.out]; exact hE0), HNN.out]
            have HTB : Hid (BR W5 (some ⟨g, o + A + 16, none⟩) (rdT d)) := by
              unfold rdT
              rw [HNN.out]
              exact (br_drop HR4.out 16).take N
            have kv : ∀ C : Nat, (convert 31 9 (.slice (some ⟨g, o + A + 16, none⟩) (16 + N - 16) C)).run Tryd.prog W5 = .ok (.string ⟨(rdT d).toArray⟩) W5 := fun C => conv_bytes (by omega) HTB.out
            have kv2 : ∀ C : Nat, (convert 31 9 (.slice (some ⟨g, o + A + 16, none⟩) N C)).run Tryd.prog W5 = .ok (.string ⟨(rdT d).toArray⟩) W5 := fun C => conv_bytes hTl HTB.out
            have u1 : (16 : Int) ≤ 16 + (N : Int) := by omega
            have u2 : (16 : Nat) < c - A := by omega
            clear hTl
            go_upto_region 15 with fail
            obtain ⟨W6, hW6⟩ : ∃ W6, W5.setCell ⟨W2.heap.size, 2, none⟩ (.string ⟨(rdT d).toArray⟩) = W6 := ⟨_, rfl⟩
            have HY6 : Hid (W6.heap[W2.heap.size]? = some (.cells #[.int .i64 (rdS d : Int), .int .i64 (rdK d : Int), .string ⟨(rdT d).toArray⟩] 35 (0, 0))) := by
              have := set_getZ (j := 2) (.string ⟨(rdT d).toArray⟩) HY4.out
              rw [← hW6, this]
              rfl
            have HX6 : Hid (W6.heap[w.heap.size]? = some (.cells #[.int .i64 0, .int .i64 0, .string ⟨#[]⟩] 35 (0, 0))) := by
              rw [← hW6, heap_setCell_other _ _ _ _ (by simp; omega)]
              exact HX4.out
            have B6 : Hid (Below w.heap.size w W6) := by
              rw [← hW6]
              exact B4.out.setCell (p := ⟨W2.heap.size, 2, none⟩) (Nat.le_of_lt hne) _
            rw [hW6]
            clear hW6 kv kv2 f0 f1 f2 q0 q1 q2 h0 r0 r1 r2 HX4 HY4 HR4 B4 HTB
            have f0 := (cellsZ HX6.out).2 0
            have f1 := (cellsZ HX6.out).2 1
            have f2 := (cellsZ HX6.out).2 2
            obtain ⟨q0, q1, q2⟩ := RBX_new (t := []) HX6.out
            obtain ⟨r0, r1, r2⟩ := RBX_new HY6.out
            go_wp2_with fail
            refine bodyPost_ret (res_rd _ _ w.heap.size (rdS d) (rdK d) (rdT d) _ _ ⟨rfl, rfl, rfl⟩ (RBX_new (put3w _ _ _ HX6.out))) rfl ?_
            refine ⟨?_, bel3 B6.out (Nat.le_refl _) _ _ _⟩
            have hR : rcR D A = ⟨rdS d, rdK d, rdT d⟩ := by rw [rcR, if_pos hE0, Int.toNat_natCast, HD.out]; rfl
            have hNx : rcN D A = (A : Int) + 20 + (N : Int) := by rw [rcN, if_pos hE0, Int.toNat_natCast, HD.out, HNN.out]; omega
            rw [hR, hNx, hE0]
            rfl
          · have es : ((sumN (d.take (16 + N)) : Int) != (numL (d.drop (16 + N)) : Int)) = true := by simp only [bne_iff_ne, ne_eq]; omega
            have hE1 : rcE D A = 192 := by rw [HEE.out, rdE, HLD.out, if_neg h16, if_neg (fun h => h HH.out), if_neg (by rw [HNN.out]; exact h20), if_pos (by rw [HNN.out]; exact hs)]
            generalize sumN (d.take (16 + N)) = S1 at *
            generalize numL (d.drop (16 + N)) = S2 at *
            go_wp2_with fail
            refine bodyPost_ret (res_rd _ _ w.heap.size 0 0 [] _ _ ⟨rfl, rfl, rfl⟩ (RBX_new (put3w _ _ _ HX4.out))) rfl ?_
            exact rdq_no hE1 (by decide) rfl (bel3 B4.out (Nat.le_refl _) _ _ _)
      | false =>
        have hh : ¬ hdB d := of_decide_eq_false HHB.out
        have hE1 : rcE D A = 192 := by rw [HEE.out, rdE, HLD.out, if_neg h16, if_pos hh]
        clear hsk hh b1 b2 b3 HX1
        go_wp2_with fail
        refine bodyPost_ret (res_rd _ _ w.heap.size 0 0 [] _ _ ⟨rfl, rfl, rfl⟩ (RBX_new (put3w _ _ _ HX3.out))) rfl ?_
        exact rdq_no hE1 (by decide) rfl (bel3 B3.out (Nat.le_refl _) _ _ _)
end Go.Proofs.YtkmnonkabekclaaDoor
