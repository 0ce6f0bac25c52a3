import Derived.Test.YtkmnonkabekclaaDoorLH
import Derived.Test.YtkmnonkabekclaaDoorQL
namespace Go.Proofs.YtkmnonkabekclaaDoor
open Go.RowKit
theorem BR.get {w : World} {g o : Nat} {l : List UInt8} (h : BR w (some ⟨g, o, none⟩) l) {k : Nat} (hk : k < l.length) : w.cell? ⟨g, o + k, none⟩ = some (.int .u8 ((l.getD k 0).toNat : Int)) := by
  have e : l[k]? = some (l.getD k 0) := by simp [List.getD, hk]
  exact h.at e
theorem BR.take {w : World} {p : Option Addr} {l : List UInt8} (h : BR w p l) (i : Nat) : BR w p (l.take i) := fun k x hx => by
  rw [List.getElem?_take] at hx
  split at hx
  · exact h k x hx
  · cases hx
theorem BR.some {w : World} {p : Option Addr} {l : List UInt8} (h : BR w p l) (hl : 0 < l.length) : ∃ g o, p = some ⟨g, o, none⟩ := by
  obtain ⟨g, o, e, -⟩ := h 0 (l[0]) (List.getElem?_eq_getElem hl)
  exact ⟨g, o, e⟩
theorem res_rh (tmps : Array Value) (W : World) (b : Nat) (s k : Int) (y z : Value) (h : tmps[2]?.getD undef = .pointer (some ⟨b, 0, none⟩) ∧ tmps[3]?.getD undef = y ∧ tmps[4]?.getD undef = z) (hb : W.cell? ⟨b, 0, none⟩ = some (.int .i64 s) ∧ W.cell? ⟨b, 1, none⟩ = some (.int .i64 k) ∧ W.cell? ⟨b, 2, none⟩ = some (.string ⟨#[]⟩)) : (results Tryd.f29 tmps).run Tryd.prog W = .ok (.tuple #[.agg #[.int .i64 s, .int .i64 k, .string ⟨#[]⟩], y, z]) W := by
  obtain ⟨h0, h1, h2⟩ := h
  obtain ⟨c0, c1, c2⟩ := hb
  simp [results, h0, h1, h2, c0, c1, c2, go_sem]
/-- what readHead answers -/
def RHQ (d : List UInt8) (w : World) (e : Ending) (w' : World) : Prop :=
  ∃ s k n : Nat, e = .returned (.tuple #[.agg #[.int .i64 s, .int .i64 k, .string ⟨#[]⟩], .int .i64 n, .bool (decide (hdB d))]) ∧ (hdB d → s = rdS d ∧ k = rdK d ∧ n = rdN d) ∧ Below w.heap.size w w'
theorem rhq_no {d : List UInt8} {w w' : World} {e : Ending} (h : ¬ hdB d) (he : e = .returned (.tuple #[.agg #[.int .i64 0, .int .i64 0, .string ⟨#[]⟩], .int .i64 0, .bool false])) (hb : Below w.heap.size w w') : RHQ d w e w' :=
  ⟨0, 0, 0, by rw [he, decide_eq_false h]; rfl, fun h' => absurd h' h, hb⟩
theorem sum_n (l : List UInt8) (p : Option Addr) (n c : Nat) (w : World) (hn : l.length = n) (hL : n ≤ 281474976710656) (hr : BR w p l) :
    Calls Tryd.prog 18 #[.slice p n c] w fun e w' => e = .returned (.int .i64 (sumN l)) ∧ Below w.heap.size w w' := by
  subst hn
  exact sum_any l p c w hL hr
theorem put3w {W : World} {b T : Nat} {m : Nat × Nat} {x0 x1 x2 : Value} (v0 v1 v2 : Value) (h : W.heap[b]? = some (.cells #[x0, x1, x2] T m)) : (((W.setCell ⟨b, 0, none⟩ v0).setCell ⟨b, 1, none⟩ v1).setCell ⟨b, 2, none⟩ v2).heap[b]? = some (.cells #[v0, v1, v2] T m) := by
  have h0 := set_getZ (j := 0) v0 h
  have h1 := set_getZ (j := 1) v1 h0
  have h2 := set_getZ (j := 2) v2 h1
  rw [h2]
  simp
theorem bel3 {B b : Nat} {w W : World} (h : Below B w W) (hb : B ≤ b) (v0 v1 v2 : Value) : Below B w (((W.setCell ⟨b, 0, none⟩ v0).setCell ⟨b, 1, none⟩ v1).setCell ⟨b, 2, none⟩ v2) :=
  ((h.setCell (p := ⟨b, 0, none⟩) hb v0).setCell (p := ⟨b, 1, none⟩) hb v1).setCell (p := ⟨b, 2, none⟩) hb v2
/-- the box of an answer, while a region is under way -/
def SBX (w W : World) (b : Nat) (s k : Int) : Prop := (W.cell? ⟨b, 0, none⟩ = some (.int .i64 s) ∧ W.cell? ⟨b, 1, none⟩ = some (.int .i64 k) ∧ W.cell? ⟨b, 2, none⟩ = some (.string ⟨#[]⟩)) ∧ (W.frozen? ⟨b, 0, none⟩ = false ∧ W.frozen? ⟨b, 1, none⟩ = false ∧ W.frozen? ⟨b, 2, none⟩ = false) ∧ Below w.heap.size w W ∧ W.heap[b]? = some (.cells #[.int .i64 s, .int .i64 k, .string ⟨#[]⟩] 35 (0, 0))
theorem SBX.mk {w W : World} {b : Nat} {s k : Int} (h : W.heap[b]? = some (.cells #[.int .i64 s, .int .i64 k, .string ⟨#[]⟩] 35 (0, 0))) (hb : Below w.heap.size w W) : SBX w W b s k :=
  ⟨RBX_new (t := []) h, ⟨(cellsZ h).2 0, (cellsZ h).2 1, (cellsZ h).2 2⟩, hb, h⟩
theorem SBX.below {w W X : World} {b : Nat} {s k : Int} (h : SBX w W b s k) (hb : Below W.heap.size W X) : SBX w X b s k := .mk (keepZ hb h.2.2.2) (bel0Z h.2.2.1 hb)
theorem SBX.set {w W : World} {b : Nat} {s k : Int} (h : SBX w W b s k) (hb : w.heap.size ≤ b) : SBX w (((W.setCell ⟨b, 0, none⟩ (.int .i64 s)).setCell ⟨b, 1, none⟩ (.int .i64 k)).setCell ⟨b, 2, none⟩ (.string ⟨#[]⟩)) b s k := .mk (put3w _ _ _ h.2.2.2) (bel3 h.2.2.1 hb _ _ _)
theorem RBX.below {W X : World} {b : Nat} {s k : Int} {t : List UInt8} (h : RBX W b s k t) (hb : Below W.heap.size W X) : RBX X b s k t :=
  h.later hb (World.block_lt_of_cell? W _ h.1)
theorem bneN {x y : UInt8} (h : x ≠ y) : ((x.toNat : Int) != (y.toNat : Int)) = true := by
  simp only [bne_iff_ne, ne_eq]
  intro e
  exact h (UInt8.toNat_inj.1 (by omega))
theorem bneY {x y : UInt8} (h : x = y) : ((x.toNat : Int) != (y.toNat : Int)) = false := by rw [h]; simp
set_option maxRecDepth 100000 in
set_option maxHeartbeats 2000000 in
theorem readHead_bad (d : List UInt8) (p : Option Addr) (c : Nat) (w : World) (hd : d.length = 16) (_ : 16 ≤ c) (hr : BR w p d) (hbad : ¬ (d.getD 0 0 = 82 ∧ d.getD 1 0 = 76 ∧ d.getD 3 0 = 0)) :
    Calls Tryd.prog 29 #[.slice p 16 c] w (RHQ d w) := by
  have hno : ¬ hdB d := fun h => hbad ⟨h.1.1, h.1.2.1, h.1.2.2.1⟩
  obtain ⟨g, o, rfl⟩ := hr.some (by omega)
  have bA : ∀ x : Obj, Below w.heap.size w (w.alloc x) := fun x => (Below.refl _ _).alloc (Nat.le_refl _) x
  have c0 := (hr.below (bA (.cells #[.int .i64 0, .int .i64 0, .string ⟨#[]⟩] 35 (0, 0)))).get (k := 0) (by omega)
  have c1 := (hr.below (bA (.cells #[.int .i64 0, .int .i64 0, .string ⟨#[]⟩] 35 (0, 0)))).get (k := 1) (by omega)
  have c3 := (hr.below (bA (.cells #[.int .i64 0, .int .i64 0, .string ⟨#[]⟩] 35 (0, 0)))).get (k := 3) (by omega)
  rw [Nat.add_zero] at c0
  have HBA : Hid (∀ x : Obj, Below w.heap.size w (w.alloc x)) := bA
  clear hr hd bA
  by_cases m0 : d.getD 0 0 = 82
  · by_cases m1 : d.getD 1 0 = 76
    · have m3 : ¬ d.getD 3 0 = 0 := fun m3 => hbad ⟨m0, m1, m3⟩
      have e0 := bneY m0
      have e1 := bneY m1
      have e3 := bneN m3
      clear m0 m1 m3 hbad
      rw [show ((82 : UInt8).toNat : Int) = 82 from rfl] at e0
      rw [show ((76 : UInt8).toNat : Int) = 76 from rfl] at e1
      rw [show ((0 : UInt8).toNat : Int) = 0 from rfl] at e3
      generalize ((d.getD 0 0).toNat : Int) = X0 at *
      generalize ((d.getD 1 0).toNat : Int) = X1 at *
      generalize ((d.getD 3 0).toNat : Int) = X3 at *
      go_enter Tryd.func29, Tryd.ntmps29
      go_wp2_with fail
      refine bodyPost_ret (res_rh _ _ w.heap.size 0 0 _ _ ⟨rfl, rfl, rfl⟩ (RBX_new (alloc_getZ _ _))) rfl ?_
      exact rhq_no hno rfl (HBA.out _)
    · have e0 := bneY m0
      have e1 := bneN m1
      clear m0 m1 hbad c3
      rw [show ((82 : UInt8).toNat : Int) = 82 from rfl] at e0
      rw [show ((76 : UInt8).toNat : Int) = 76 from rfl] at e1
      generalize ((d.getD 0 0).toNat : Int) = X0 at *
      generalize ((d.getD 1 0).toNat : Int) = X1 at *
      go_enter Tryd.func29, Tryd.ntmps29
      go_wp2_with fail
      refine bodyPost_ret (res_rh _ _ w.heap.size 0 0 _ _ ⟨rfl, rfl, rfl⟩ (RBX_new (alloc_getZ _ _))) rfl ?_
      exact rhq_no hno rfl (HBA.out _)
  · have e0 := bneN m0
    clear m0 hbad c1 c3
    rw [show ((82 : UInt8).toNat : Int) = 82 from rfl] at e0
    generalize ((d.getD 0 0).toNat : Int) = X0 at *
    go_enter Tryd.func29, Tryd.ntmps29
    go_wp2_with fail
    refine bodyPost_ret (res_rh _ _ w.heap.size 0 0 _ _ ⟨rfl, rfl, rfl⟩ (RBX_new (alloc_getZ _ _))) rfl ?_
    exact rhq_no hno rfl (HBA.out _)
set_option maxRecDepth 100000 in
set_option maxHeartbeats 16000000 in
theorem readHead_sum (d : List UInt8) (p : Option Addr) (c : Nat) (w : World) (hd : d.length = 16) (hc : 16 ≤ c) (hr : BR w p d) (m0 : d.getD 0 0 = 82) (m1 : d.getD 1 0 = 76) (m3 : d.getD 3 0 = 0) :
    Calls Tryd.prog 29 #[.slice p 16 c] w (RHQ d w) := by
  obtain ⟨g, o, rfl⟩ := hr.some (by omega)
  have bA : ∀ x : Obj, Below w.heap.size w (w.alloc x) := fun x => (Below.refl _ _).alloc (Nat.le_refl _) x
  obtain ⟨W1, hW1⟩ : ∃ W1, w.alloc (.cells #[.int .i64 0, .int .i64 0, .string ⟨#[]⟩] 35 (0, 0)) = W1 := ⟨_, rfl⟩
  have b1 : Below w.heap.size w W1 := by rw [← hW1]; exact bA _
  have HX : Hid (W1.heap[w.heap.size]? = some (.cells #[.int .i64 0, .int .i64 0, .string ⟨#[]⟩] 35 (0, 0))) := by rw [← hW1]; exact alloc_getZ _ _
  have hr1 := hr.below b1
  have c0 := hr1.get (k := 0) (by omega)
  have c1 := hr1.get (k := 1) (by omega)
  have c3 := hr1.get (k := 3) (by omega)
  rw [Nat.add_zero] at c0
  have e0 := bneY m0
  have e1 := bneY m1
  have e3 := bneY m3
  rw [show ((82 : UInt8).toNat : Int) = 82 from rfl] at e0
  rw [show ((76 : UInt8).toNat : Int) = 76 from rfl] at e1
  rw [show ((0 : UInt8).toNat : Int) = 0 from rfl] at e3
  have HS := sum_n (d.take 12) (some ⟨g, o, none⟩) 12 c W1 (by simp [hd]) (by decide) (hr1.take 12)
  have HMK : Hid (d.getD 0 0 = 82 ∧ d.getD 1 0 = 76 ∧ d.getD 3 0 = 0) := ⟨m0, m1, m3⟩
  have HD : Hid (d.length = 16) := hd
  have HR : Hid (BR W1 (some ⟨g, o, none⟩) d) := hr1
  clear hr1 hd m0 m1 m3 bA
  generalize ((d.getD 0 0).toNat : Int) = X0 at *
  generalize ((d.getD 1 0).toNat : Int) = X1 at *
  generalize ((d.getD 3 0).toNat : Int) = X3 at *
  have c12 : (12 : Int) ≤ (c : Int) := by omega
  have c16 : (16 : Int) ≤ (c : Int) := by omega
  go_enter Tryd.func29, Tryd.ntmps29
  go_wp2_with fail
  refine HS.mono ?_
  rintro e W2 ⟨rfl, b2⟩
  have HR2 : Hid (BR W2 (some ⟨g, o, none⟩) d) := HR.out.below b2
  have HX2 : Hid (W2.heap[w.heap.size]? = some (.cells #[.int .i64 0, .int .i64 0, .string ⟨#[]⟩] 35 (0, 0))) := keepZ b2 HX.out
  have N12 := numAt_any d (some ⟨g, o, none⟩) 16 c 12 W2 HD.out (by decide) (by decide) hc HR2.out
  clear HS
  go_wp2_with fail
  refine N12.mono ?_
  rintro e W3 ⟨rfl, rfl⟩
  by_cases hs : sumN (d.take 12) = numL (d.drop 12)
  · have es : ((sumN (d.take 12) : Int) != (numL (d.drop 12) : Int)) = false := by rw [hs]; simp
    obtain ⟨K, hK⟩ : ∃ K, rdK d = K := ⟨_, rfl⟩
    have HK : Hid (rdK d = K) := hK
    have c2 : ∀ W, Below W3.heap.size W3 W → W.cell? ⟨g, o + 2, none⟩ = some (.int .u8 (K : Int)) := fun W hW => by
      have := (HR2.out.below hW).get (k := 2) (by rw [HD.out]; decide)
      rw [← hK]
      exact this
    have k8 : (K : Int) < 256 := by
      have := (d.getD 2 0).toNat_lt
      rw [← hK]
      unfold rdK
      omega
    have C2 : Hid (∀ W, Below W3.heap.size W3 W → W.cell? ⟨g, o + 2, none⟩ = some (.int .u8 (K : Int))) := c2
    have N4 : Hid (∀ W, Below W3.heap.size W3 W → Calls Tryd.prog 30 #[.slice (some ⟨g, o, none⟩) 16 c, .int .i64 4] W fun e w' => e = .returned (.int .i64 (rdS d)) ∧ w' = W) := fun W hW => numAt_any d (some ⟨g, o, none⟩) 16 c 4 W HD.out (by decide) (by decide) hc (HR2.out.below hW)
    have kw : IntKind.i64.wrap (K : Int) = (K : Int) := by rw [IntKind.wrap_i64]; omega
    clear c2 hK N12 c0 c1 c3
    go_wp2_with fail
    refine quiet_last (C := fun W' => Below W3.heap.size W3 W') (by kernel_rfl) (by kernel_rfl) (by kernel_rfl) (by kernel_rfl) (show Below _ _ _ from (Below.refl _ _).drew) ?_
    simp only [List.dropLast_cons_cons, List.dropLast_singleton]
    go_big_quiet_want
    go_big_quiet_op
    go_big_quiet_on
    go_big_quiet_want
    refine ⟨.int .i64 (rdS d : Int), fun W hW => ?_, ?_⟩
    · go_simp
      refine (N4.out W hW).mono ?_
      rintro e w7 ⟨rfl, rfl⟩
      exact ⟨rfl, hW⟩
    go_big_quiet_on
    simp only [Act.put, List.setIfInBounds_toArray, List.set_cons_zero, List.set_cons_succ]
    go_big_quiet_want
    go_big_quiet_op
    go_big_quiet_on
    go_big_quiet_want
    refine ⟨.pointer (some ⟨g, o + 2, none⟩), fun W hW => ?_, ?_⟩
    · go_simp
    go_big_quiet_on
    simp only [Act.put, List.setIfInBounds_toArray, List.set_cons_zero, List.set_cons_succ]
    go_big_quiet_want
    refine ⟨.int .u8 (K : Int), fun W hW => ?_, ?_⟩
    · have z0 := C2.out W hW
      go_simp
    go_big_quiet_on
    simp only [Act.put, List.setIfInBounds_toArray, List.set_cons_zero, List.set_cons_succ]
    go_big_quiet_want
    refine ⟨.int .i64 (K : Int), fun W hW => ?_, ?_⟩
    · go_simp
    go_big_quiet_on
    simp only [Act.put, List.setIfInBounds_toArray, List.set_cons_zero, List.set_cons_succ]
    go_big_quiet_want
    refine ⟨.agg #[.int .i64 (rdS d : Int), .int .i64 (K : Int), .string ⟨#[]⟩], fun W hW => ?_, ?_⟩
    · go_simp
    go_big_quiet_on
    simp only [Act.put, List.setIfInBounds_toArray, List.set_cons_zero, List.set_cons_succ]
    refine wpQuiet_nil ?_
    intro W4 hW4
    refine wpOp_go rfl rfl ?_
    have HX4 : Hid (W4.heap[w.heap.size]? = some (.cells #[.int .i64 0, .int .i64 0, .string ⟨#[]⟩] 35 (0, 0))) := keepZ hW4 HX2.out
    obtain ⟨f0, f1, f2⟩ := RBX_new (t := []) HX4.out
    have fz := (cellsZ HX4.out).2
    have fz0 := fz 0
    have fz1 := fz 1
    have fz2 := fz 2
    clear fz kw
    go_simp
    obtain ⟨W5, hW5⟩ : ∃ W5, (((W4.setCell ⟨w.heap.size, 0, none⟩ (.int .i64 (rdS d : Int))).setCell ⟨w.heap.size, 1, none⟩ (.int .i64 (K : Int))).setCell ⟨w.heap.size, 2, none⟩ (.string ⟨#[]⟩)) = W5 := ⟨_, rfl⟩
    have HX5 : Hid (W5.heap[w.heap.size]? = some (.cells #[.int .i64 (rdS d : Int), .int .i64 (K : Int), .string ⟨#[]⟩] 35 (0, 0))) := by rw [← hW5]; exact put3w _ _ _ HX4.out
    have b5 : Below w.heap.size w W5 := by rw [← hW5]; exact bel3 (bel0Z (bel0Z b1 b2) hW4) (Nat.le_refl _) _ _ _
    have HR5 : Hid (BR W5 (some ⟨g, o, none⟩) d) := by
      have h := hr.below b5
      exact h
    rw [hW5]
    clear hW5 HX4 f0 f1 f2 fz0 fz1 fz2 HX2 HR2 HR HX N4 C2
    have N8 := numAt_any d (some ⟨g, o, none⟩) 16 c 8 W5 HD.out (by decide) (by decide) hc HR5.out
    go_wp2_with fail
    refine N8.mono ?_
    rintro e W6 ⟨rfl, rfl⟩
    clear N8
    obtain ⟨MB, hMB⟩ : ∃ MB, mB (rdS d : Int) (K : Int) = MB := ⟨_, rfl⟩
    have HM : Hid (∀ W, Calls Tryd.prog 38 #[.agg #[.int .i64 (rdS d : Int), .int .i64 (K : Int), .string ⟨#[]⟩]] W fun e w' => e = .returned (.bool MB) ∧ Below W.heap.size W w') := fun W => by
      have := mayBe_any (rdS d) K [] W
      rw [hMB] at this
      exact this
    have HMB : Hid (mB (rdS d : Int) (K : Int) = MB) := hMB
    have s0 : SBX w W6.drew w.heap.size (rdS d) K := .mk HX5.out b5.drew
    clear hMB
    go_wp2_with fail
    generalize hNN : numL (d.drop 8) = NN
    have HNN : Hid (rdN d = NN) := hNN
    clear hNN
    cases MB with
    | false =>
      refine wp_region_held_drew (S := fun U => SBX w U w.heap.size (rdS d) K) (by kernel_rfl) s0 (fun _ => ?_)
      refine wpAnyH_take (i := 0) (v := .agg #[.int .i64 (rdS d : Int), .int .i64 (K : Int), .string ⟨#[]⟩]) rfl (by kernel_rfl) (by kernel_rfl) (by kernel_rfl) (fun _ _ _ h => h) (Or.inl ⟨by rfl, ?_⟩) s0 ?_
      · rintro w0 s9; have z0 := s9.1.1; have z1 := s9.1.2.1; have z2 := s9.1.2.2; go_simp
      refine wpAnyH_take (i := 1) (v := .int .i64 (NN : Int)) rfl (by kernel_rfl) (by kernel_rfl) (by kernel_rfl) (fun _ _ _ h => h) (Or.inl ⟨by rfl, ?_⟩) s0 ?_
      · rintro w0 s9; go_simp
      refine wpAnyH_take (i := 2) (v := .agg #[.int .i64 (rdS d : Int), .int .i64 (K : Int), .string ⟨#[]⟩]) rfl (by kernel_rfl) (by kernel_rfl) (by kernel_rfl) (fun _ _ _ h => h) (Or.inl ⟨by rfl, ?_⟩) s0 ?_
      · rintro w0 s9; have z0 := s9.1.1; have z1 := s9.1.2.1; have z2 := s9.1.2.2; go_simp
      refine wpAnyH_ready (rs := [3]) (by kernel_rfl) (by simp) ?_
      refine AllReadyH.cons rfl (fun KK hKK => ?_) AllReadyH.nil
      go_simp
      refine (HM.out _).mono ?_
      rintro e w7 ⟨rfl, hb7⟩
      have hs7 := SBX.below s0 hb7
      go_simp
      refine hKK.out _ _ hs7 (fun _ => ?_)
      clear hKK KK
      refine wpAnyH_take (i := 4) (v := .bool false) rfl (by kernel_rfl) (by kernel_rfl) (by kernel_rfl) (fun _ _ _ h => h) (Or.inl ⟨by rfl, ?_⟩) hs7 ?_
      · rintro w0 s9; go_simp
      refine wpAnyH_take (i := 5) (v := undef) rfl (by kernel_rfl) (by kernel_rfl) (by kernel_rfl) (fun _ _ _ h => h) (Or.inr ⟨by rfl, rfl⟩) hs7 ?_
      refine wpAnyH_take (i := 6) (v := undef) rfl (by kernel_rfl) (by kernel_rfl) (by kernel_rfl) (fun _ _ _ h => h) (Or.inr ⟨by rfl, rfl⟩) hs7 ?_
      refine wpAnyH_take (i := 7) (v := .bool false) rfl (by kernel_rfl) (by kernel_rfl) (by kernel_rfl) (fun _ _ _ h => h) (Or.inl ⟨by rfl, ?_⟩) hs7 ?_
      · rintro w0 s9; go_simp
      refine wpAnyH_ready (rs := [8]) (by kernel_rfl) (by simp) ?_
      refine AllReadyH.cons rfl (fun KK hKK => ?_) AllReadyH.nil
      have z0 := hs7.1.1
      have z1 := hs7.1.2.1
      have z2 := hs7.1.2.2
      have y0 := hs7.2.1.1
      have y1 := hs7.2.1.2.1
      have y2 := hs7.2.1.2.2
      go_simp
      have hs8 := SBX.set hs7 (Nat.le_refl _)
      refine hKK.out _ _ hs8 (fun _ => ?_)
      clear hKK KK z0 z1 z2 y0 y1 y2
      refine wpAnyH_take (i := 9) (v := .int .i64 (NN : Int)) rfl (by kernel_rfl) (by kernel_rfl) (by kernel_rfl) (fun _ _ _ h => h) (Or.inl ⟨by rfl, ?_⟩) hs8 ?_
      · rintro w0 s9; go_simp
      refine wpAnyH_ready (rs := [10]) (by kernel_rfl) (by simp) ?_
      refine AllReadyH.cons rfl (fun KK hKK => ?_) AllReadyH.nil
      go_simp
      refine hKK.out _ _ hs8 (fun _ => ?_)
      clear hKK KK
      refine wpAnyH_done (by kernel_rfl) ?_ _
      go_wp2_with fail
      refine bodyPost_ret (res_rh _ _ w.heap.size (rdS d) K _ _ ⟨rfl, rfl, rfl⟩ hs8.1) rfl ?_
      have hno : ¬ hdB d := fun h => by
        have h2 := HMB.out
        rw [← HK.out, mB_nat, decide_eq_true h.2.1] at h2
        cases h2
      exact ⟨rdS d, K, NN, by rw [decide_eq_false hno]; rfl, fun h => absurd h hno, hs8.2.2.1⟩
    | true =>
      have hle : decide ((NN : Int) ≤ 16384) = decide (NN ≤ 16384) := by rw [decide_eq_decide]; omega
      refine wp_region_held_drew (S := fun U => SBX w U w.heap.size (rdS d) K) (by kernel_rfl) s0 (fun _ => ?_)
      refine wpAnyH_take (i := 0) (v := .agg #[.int .i64 (rdS d : Int), .int .i64 (K : Int), .string ⟨#[]⟩]) rfl (by kernel_rfl) (by kernel_rfl) (by kernel_rfl) (fun _ _ _ h => h) (Or.inl ⟨by rfl, ?_⟩) s0 ?_
      · rintro w0 s9; have z0 := s9.1.1; have z1 := s9.1.2.1; have z2 := s9.1.2.2; go_simp
      refine wpAnyH_take (i := 1) (v := .int .i64 (NN : Int)) rfl (by kernel_rfl) (by kernel_rfl) (by kernel_rfl) (fun _ _ _ h => h) (Or.inl ⟨by rfl, ?_⟩) s0 ?_
      · rintro w0 s9; go_simp
      refine wpAnyH_take (i := 2) (v := .agg #[.int .i64 (rdS d : Int), .int .i64 (K : Int), .string ⟨#[]⟩]) rfl (by kernel_rfl) (by kernel_rfl) (by kernel_rfl) (fun _ _ _ h => h) (Or.inl ⟨by rfl, ?_⟩) s0 ?_
      · rintro w0 s9; have z0 := s9.1.1; have z1 := s9.1.2.1; have z2 := s9.1.2.2; go_simp
      refine wpAnyH_ready (rs := [3]) (by kernel_rfl) (by simp) ?_
      refine AllReadyH.cons rfl (fun KK hKK => ?_) AllReadyH.nil
      go_simp
      refine (HM.out _).mono ?_
      rintro e w7 ⟨rfl, hb7⟩
      have hs7 := SBX.below s0 hb7
      go_simp
      refine hKK.out _ _ hs7 (fun _ => ?_)
      clear hKK KK
      refine wpAnyH_take (i := 4) (v := .bool true) rfl (by kernel_rfl) (by kernel_rfl) (by kernel_rfl) (fun _ _ _ h => h) (Or.inl ⟨by rfl, ?_⟩) hs7 ?_
      · rintro w0 s9; go_simp
      refine wpAnyH_take (i := 5) (v := .int .i64 (NN : Int)) rfl (by kernel_rfl) (by kernel_rfl) (by kernel_rfl) (fun _ _ _ h => h) (Or.inl ⟨by rfl, ?_⟩) hs7 ?_
      · rintro w0 s9; go_simp
      refine wpAnyH_take (i := 6) (v := .bool (decide (NN ≤ 16384))) rfl (by kernel_rfl) (by kernel_rfl) (by kernel_rfl) (fun _ _ _ h => h) (Or.inl ⟨by rfl, ?_⟩) hs7 ?_
      · rintro w0 s9; go_simp
      refine wpAnyH_take (i := 7) (v := .bool (decide (NN ≤ 16384))) rfl (by kernel_rfl) (by kernel_rfl) (by kernel_rfl) (fun _ _ _ h => h) (Or.inl ⟨by rfl, ?_⟩) hs7 ?_
      · rintro w0 s9; go_simp
      refine wpAnyH_ready (rs := [8]) (by kernel_rfl) (by simp) ?_
      refine AllReadyH.cons rfl (fun KK hKK => ?_) AllReadyH.nil
      have z0 := hs7.1.1
      have z1 := hs7.1.2.1
      have z2 := hs7.1.2.2
      have y0 := hs7.2.1.1
      have y1 := hs7.2.1.2.1
      have y2 := hs7.2.1.2.2
      go_simp
      have hs8 := SBX.set hs7 (Nat.le_refl _)
      refine hKK.out _ _ hs8 (fun _ => ?_)
      clear hKK KK z0 z1 z2 y0 y1 y2
      refine wpAnyH_take (i := 9) (v := .int .i64 (NN : Int)) rfl (by kernel_rfl) (by kernel_rfl) (by kernel_rfl) (fun _ _ _ h => h) (Or.inl ⟨by rfl, ?_⟩) hs8 ?_
      · rintro w0 s9; go_simp
      refine wpAnyH_ready (rs := [10]) (by kernel_rfl) (by simp) ?_
      refine AllReadyH.cons rfl (fun KK hKK => ?_) AllReadyH.nil
      go_simp
      refine hKK.out _ _ hs8 (fun _ => ?_)
      clear hKK KK
      refine wpAnyH_done (by kernel_rfl) ?_ _
      go_wp2_with fail
      refine bodyPost_ret (res_rh _ _ w.heap.size (rdS d) K _ _ ⟨rfl, rfl, rfl⟩ hs8.1) rfl ?_
      have hm : may (rdS d) (rdK d) := by
        have h2 := HMB.out
        rw [← HK.out, mB_nat] at h2
        exact of_decide_eq_true h2
      have hiff : decide (NN ≤ 16384) = decide (hdB d) := by
        rw [decide_eq_decide, ← HNN.out]
        exact ⟨fun h => ⟨⟨HMK.out.1, HMK.out.2.1, HMK.out.2.2, hs⟩, hm, h⟩, fun h => h.2.2⟩
      exact ⟨rdS d, K, NN, by rw [← hiff]; rfl, fun _ => ⟨rfl, HK.out.symm, HNN.out.symm⟩, hs8.2.2.1⟩
  · have es : ((sumN (d.take 12) : Int) != (numL (d.drop 12) : Int)) = true := by simp only [bne_iff_ne, ne_eq]; omega
    have hno : ¬ hdB d := fun h => hs h.1.2.2.2
    obtain ⟨f0, f1, f2⟩ := RBX_new (t := []) HX2.out
    have fz := (cellsZ HX2.out).2
    have fz0 := fz 0
    have fz1 := fz 1
    have fz2 := fz 2
    clear fz
    go_wp2_with fail
    refine bodyPost_ret (res_rh _ _ w.heap.size 0 0 _ _ ⟨rfl, rfl, rfl⟩ (RBX_new (put3w _ _ _ HX2.out))) rfl ?_
    exact rhq_no hno rfl (bel3 (bel0Z b1 b2) (Nat.le_refl _) _ _ _)
end Go.Proofs.YtkmnonkabekclaaDoor
