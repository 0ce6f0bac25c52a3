import Derived.Test.YtecgjlpmmailjaaGreatDoorXAU
namespace Go.Proofs.YtecgjlpmmailjaaGreatDoor
open Go.RowKit Go.Shelf Go.Sort
theorem res_terms (tmps : Array Value) (W : World) (b b2 : Nat) (v : Value) (x : Bool) {m m2 : Nat × Nat} (hp : tmps.getD 4 undef = .pointer (some ⟨b, 0, none⟩)) (hp2 : tmps.getD 5 undef = .pointer (some ⟨b2, 0, none⟩)) (h : W.heap[b]? = some (.cells #[v] 26 m)) (h2 : W.heap[b2]? = some (.cells #[.bool x] 4 m2)) :
    (results Tryz.f16 tmps).run Tryz.prog W = .ok (.tuple #[v, .bool x]) W := by
  have hc : ∀ j, W.cell? ⟨b, j, none⟩ = (#[v] : Array Value)[j]? := by
    intro j; unfold World.cell?; rw [h]; simp
  have hc2 : ∀ j, W.cell? ⟨b2, j, none⟩ = (#[.bool x] : Array Value)[j]? := by
    intro j; unfold World.cell?; rw [h2]; simp
  have hp' : tmps[4]?.getD undef = .pointer (some ⟨b, 0, none⟩) := by simpa using hp
  have hp2' : tmps[5]?.getD undef = .pointer (some ⟨b2, 0, none⟩) := by simpa using hp2
  simp [results, hp', hp2', go_sem, hc, hc2]
theorem ce_at3 {W : World} {B g cap k n : Nat} {R : List (List UInt8)} {P : List UInt8} (hown : W.ownsRow B 58 9 (.slice (some ⟨g, 0, none⟩) n cap) n (ces R)) (hn : R.length = n) (hP : R[k]? = some P) : CB W g (k * 9) P := by
  subst hn
  obtain ⟨h, e⟩ := List.getElem?_eq_some_iff.1 hP
  exact ce_at hown h e
theorem drew_grown {W X : World} {r : Option Nat} (h : W.drew.grownBy X r) : W.grownBy X r := ⟨h.1, h.2, h.3, h.4, h.5⟩
/-- whether none of the operations defers -/
def noDef (ops : Array Oper) : Bool := ops.toList.all (fun o => match o.op with | .defer _ => false | _ => true)
theorem noDef_at {ops : Array Oper} (h : noDef ops = true) {j : Nat} {o : Oper} (ho : ops[j]? = some o) : ∀ c, o.op ≠ .defer c := fun c hc => by
  have h1 := List.all_eq_true.1 h o (by rw [← Array.getElem?_toList] at ho; exact List.mem_of_getElem? ho)
  rw [hc] at h1
  cases h1
/-- in a round a region without a defer goes as it goes outside -/
theorem wpAnyIn_inRound {F : Fence} {n : Nat} {P : Program} {md : Region.Mode} {ops : Array Oper} {Q : Exit → Act → World → Prop} {l : Nat} (hd : noDef ops = true) :
    ∀ {fuel : Nat} {listed : Array Bool} {a : Act} {w : World}, wpAnyIn F n P md ops Q fuel listed a w → wpAnyIn (F.inRound l) n P md ops Q fuel listed a w := by
  intro fuel
  induction fuel with
  | zero => intro listed a w h; exact h
  | succ fuel ih =>
    intro listed a w h
    refine ⟨h.1, fun i hi => ?_⟩
    have h2 : wpOpIn F n P ops Q i (wpAnyIn (F.inRound l) n P md ops Q fuel (listed.setIfInBounds i true)) a w := wpOpIn_mono (fun a' w' h3 => ih h3) (h.2 i hi)
    unfold wpOpIn at h2 ⊢
    cases ho : ops[i]? with
    | none => rw [ho] at h2; exact h2
    | some o =>
      rw [ho] at h2
      simp only at h2 ⊢
      split
      · rename_i hw
        rw [if_pos hw] at h2
        unfold Oper.wpIn at h2 ⊢
        refine ⟨h2.1, ?_⟩
        have h3 := h2.2
        rw [Oper.semAt_plain F _ _ (noDef_at hd ho)] at h3
        rw [Oper.semAt_plain (F.inRound l) _ _ (noDef_at hd ho)]
        exact h3
      · rename_i hw
        rw [if_neg hw] at h2
        exact h2
/-- what a term holds: its cube, and what is taken away -/
def tcon (t : List UInt8) : List UInt8 × List (List UInt8) := ((prts 45 t).headD [], (prts 45 t).tail)
def okT (b : Nat) (t : List UInt8) : Bool := (prts 45 t).all (okP b)
def CJt (w : World) (S b : Nat) (l : List UInt8) (R : Loop) (r : List UInt8) (W : World) : Prop :=
  ∃ v D X, TS w S b v D r R W ∧ r.length ≤ 40000 ∧ X ++ prts 43 r = prts 43 l ∧ X.all (okT b) = true ∧ D.map (fun z => (z.c, z.L)) = X.map tcon
def CXt (w : World) (S b : Nat) (l : List UInt8) (W : World) : Prop :=
  (prts 43 l).all (okT b) = false ∧ ∃ v D r lo, TS w S b v D r lo W ∧ lo.state = .done ∧ lo.pending = some .ret
def CEt (w : World) (S b : Nat) (l : List UInt8) (R : Loop) (W : World) : Prop :=
  CXt w S b l W ∨ ∃ v D r, TS w S b v D r R W ∧ (prts 43 l).all (okT b) = true ∧ D.map (fun z => (z.c, z.L)) = (prts 43 l).map tcon
attribute [local go_sem] Oper.semAt_some
set_option maxRecDepth 100000 in
set_option maxHeartbeats 4000000 in
theorem readTerms_any (b : Nat) (l : List UInt8) (w : World) (hs : l.length ≤ 40000) :
    Calls Tryz.prog 16 #[.int .i64 (b : Int), .string ⟨l.toArray⟩] w fun e w' => Below w.heap.size w w' ∧ (((prts 43 l).all (okT b) = false ∧ e = .returned (.tuple #[.slice none 0 0, .bool false])) ∨ ((prts 43 l).all (okT b) = true ∧ ∃ v D, D.map (fun z => (z.c, z.L)) = (prts 43 l).map tcon ∧ e = .returned (.tuple #[v, .bool true]) ∧ w'.ownsRow w.heap.size 67 10 v D.length (tes D) ∧ ∀ z ∈ D, ZOK w' z)) := by
  obtain ⟨i0, hi, hz0, hz1, hz2⟩ := info_parts info_term
  refine (callsIn_wide (n := 4)).1 ?_
  refine callsIn_of_wp_marks Tryz.func16 rfl trivial ?_ rfl
  simp only [Tryz.ntmps16, List.size_toArray, List.length_cons, List.length_nil, Nat.reduceAdd, Nat.reduceSub, Array.replicate_succ, Array.replicate_zero, List.push_toArray, List.append_toArray, List.nil_append, List.cons_append]
  gi_wp2_with (refine ⟨trivial, ?_⟩; gi_at_call 28; refine (callsIn_wide.2 (splitSeq_in 43 l _)).mono ?_; rintro e w' ⟨rfl, rfl⟩)
  refine range_by rfl (by omega) (gf := 55) (lb := #[.pointer (some ⟨w.heap.size + 1 + 1 + 1 + 1 + 1, 0, none⟩), .pointer (some ⟨w.heap.size + 1 + 1 + 1 + 1, 0, none⟩), .pointer (some ⟨w.heap.size + 1 + 1 + 1 + 1 + 1 + 1, 0, none⟩)]) rfl trivial (enters_of Tryz.func55 (by kernel_rfl) rfl) ?_
  intro fn hfn
  obtain ⟨S, hS⟩ : ∃ S, w.heap.size = S := ⟨_, rfl⟩
  have Hs : Hid (w.heap.size = S) := hS
  simp only [World.size_alloc, hS]
  generalize hR : recOf fn _ _ _ _ _ = R
  have rs : R.state = .ready := by rw [← hR]; rfl
  have rp : R.pending = none := by rw [← hR]; rfl
  have rf : R.fn = fn := by rw [← hR]; rfl
  have rq : R.params = #[12] := by rw [← hR]; rfl
  have q0 := TS_start w S b l R hS
  obtain ⟨W0, hW0⟩ : ∃ W0, (((((((((w.alloc (.cells #[.int .i64 (b : Int)] 3)).alloc (.cells #[.slice none 0 0] 26)).alloc (.cells #[.bool false] 4)).alloc (.cells #[.slice none 0 0] 26)).alloc (.cells #[.string ⟨l.toArray⟩] 9)).alloc (.cells #[.string ⟨#[43]⟩] 9)).alloc (.cells #[.int .i64 0] 3)).alloc (.deferred (some []))).alloc (.loop R)) = W0 := ⟨_, rfl⟩
  rw [hW0] at q0
  have hpl : (prts 43 l).length ≤ 40001 := prts_len 43 40000 l hs
  have HB : ∀ (p : List UInt8) (ps : List (List UInt8)) (r : List UInt8) (v : Value) (D : List ZT) (W : World), TS w S b v D r R W → p.length ≤ 40000 → D.length + (p :: ps).length ≤ 40001 → 
      YieldAt Fence.wide (4 - 1 - 1) Tryz.prog (S + 1 + 1 + 1 + 1 + 1 + 1 + 1 + 1) #[.string ⟨p.toArray⟩] W fun e W' => (e = .returned (.bool true) ∧ okT b p = true ∧ ∃ v' z, TS w S b v' (D ++ [z]) r R W' ∧ (z.c, z.L) = tcon p) ∨ (e = .returned (.bool false) ∧ okT b p = false ∧ ∃ v D r lo, TS w S b v D r lo W' ∧ lo.state = .done ∧ lo.pending = some .ret) := by
    intro p ps r v D W q hp hDl
    have qb := q.loop { R with state := .busy }
    refine (round_by (F := Fence.wide) (m := 4 - 1 - 1) (In := fun W' => okT b p = true ∧ ∃ v' z, TS w S b v' (D ++ [z]) r R W' ∧ (z.c, z.L) = tcon p) (Out := fun _ W' => okT b p = false ∧ ∃ v D r lo, TS w S b v D r lo W' ∧ lo.state = .done ∧ lo.pending = some .ret) (by rw [rf]; exact hfn) q.a8 rs rp (by rw [rq]; rfl) ?a1 ?has ?hb).mono ?_
    case has =>
      intro K hK
      rw [congrArg Loop.assign hR.symm, rq, congrArg Loop.tmps hR.symm]
      simp only [recOf]
      gi_wp2
      exact hK
    case hb =>
      obtain ⟨V, hV⟩ : ∃ V, W.putObj (S + 1 + 1 + 1 + 1 + 1 + 1 + 1 + 1) (.loop { R with state := .busy }) = V := ⟨_, rfl⟩
      rw [hV] at qb ⊢
      rw [congrArg Loop.body hR.symm]
      simp only [recOf]
      clear hV
      have HD0 := readCubes_any b p V hp
      have hok2 : okT b p = false ∨ okT b p = true := by cases okT b p <;> simp
      rcases hok2 with hok | hok
      · have HOK : Hid (okT b p = false) := hok
        have HD : Calls Tryz.prog 29 #[.int .i64 (b : Int), .string ⟨p.toArray⟩] V fun e w' => e = .returned (.tuple #[.slice none 0 0, .bool false]) ∧ Below V.heap.size V w' := HD0.mono (fun e w' h => ⟨(h.2.resolve_right (fun x => by have := x.1; unfold okT at hok; rw [hok] at this; cases this)).2, h.1⟩)
        clear hok HD0
        have c0 := cell_of qb.a0
        gi_wp2_with (refine ⟨trivial, ?_⟩; gi_at_call 29; refine (CallsIn.inRound _ (callsIn_wide.2 HD)).mono ?_; rintro e V2 ⟨rfl, hb2⟩; have q3 := qb.below hb2; have c1 := cell_of q3.a1; have f1 := froz_of q3.a1; have c2 := cell_of q3.a2; have f2 := froz_of q3.a2)
        have q4 := q3.same0
        exact ⟨q4.a8, HOK.out, _, _, _, _, q4.loop _, rfl, rfl⟩
      · obtain ⟨c0, cr, hcr⟩ : ∃ c0 cr, prts 45 p = c0 :: cr := by
          have := prts_ne 45 p
          cases h : prts 45 p with
          | nil => rw [h] at this; exact absurd this (by simp)
          | cons x y => exact ⟨x, y, rfl⟩
        have HC : Hid (prts 45 p = c0 :: cr ∧ okT b p = true) := ⟨hcr, hok⟩
        have HD : Calls Tryz.prog 29 #[.int .i64 (b : Int), .string ⟨p.toArray⟩] V fun e w' => ∃ g N C : Nat, e = .returned (.tuple #[.slice (some ⟨g, 0, none⟩) N C, .bool true]) ∧ Hid (N = cr.length + 1) ∧ N ≤ C ∧ C ≤ maxLen ∧ 0 < N ∧ w'.ownsRow V.heap.size 58 9 (.slice (some ⟨g, 0, none⟩) N C) N (ces (c0 :: cr)) ∧ Below V.heap.size V w' := by
          refine HD0.mono ?_
          rintro e w' ⟨hb, h⟩
          obtain ⟨_, v0, he, ho⟩ := h.resolve_left (fun x => by have := x.1; unfold okT at hok; rw [hok] at this; cases this)
          rw [hcr] at ho
          rcases ho.2 with h2 | ⟨g, cap, cur, e1, h2⟩
          · exact absurd h2.2 (by simp)
          · subst e1
            exact ⟨g, _, cap, he, rfl, h2.2.2.1, h2.2.2.2.1, by simp, ho, hb⟩
        clear hok HD0 hcr
        have c0' := cell_of qb.a0
        obtain ⟨pv, cv, rfl⟩ := shapeQ1 qb.ow
        have HFIN : True := trivial
        have HCASE : ∀ (g N C : Nat) (V2 : World), True := fun _ _ _ _ => trivial
        gi_wp2_with (refine ⟨trivial, ?_⟩; gi_at_call 29; refine (CallsIn.inRound _ (callsIn_wide.2 HD)).mono ?_; rintro e V2 ⟨g, N, C, rfl, hN, hNC, hcm, hN0, ho, hb2⟩; have q2 := qb.below hb2; have q3 : TS w S b _ D r _ V2.drew := q2.below (Below.refl _ _).drew; have c3 := cell_of q3.a3; have f3 := froz_of q3.a3)
        obtain ⟨pc0, pc1, pc2, pc3, pc4, pc5, pc6, pc7, pc8⟩ := CB.below (ce_at3 (k := 0) ho hN.out.symm rfl) (show Below V2.heap.size V2 V2.drew from (Below.refl _ _).drew)
        have j0 : (0 : Int) < (N : Int) := by omega
        have j1 : (1 : Int) ≤ (N : Int) := by omega
        have c3a : ∀ o, (V2.alloc o).drew.cell? ⟨S + 1 + 1 + 1, 0, none⟩ = some (.slice pv D.length cv) := fun o => cell_of (W := V2.alloc o) (allocblk3 q2.a3 o)
        refine wpIn_region_any (by kernel_rfl) ?_
        change wpAnyIn _ _ _ _ _ _ _ _ _ (World.drew _)
        have hs4 := lt_of_get3 q2.a8
        have HST : ∀ w4, (V2.alloc (.cells #[.int .i64 (c0.length : Int), .int .u64 (FW c0 0 : Int), .int .u64 (FW c0 1 : Int), .int .u64 (FW c0 2 : Int), .int .u64 (FW c0 3 : Int), .int .u64 (OW c0 0 : Int), .int .u64 (OW c0 1 : Int), .int .u64 (OW c0 2 : Int), .int .u64 (OW c0 3 : Int), .slice (if C = 1 then some ⟨g, 0, none⟩ else some ⟨g, 9, none⟩) (N - 1) (C - 1)] 67 (0, 0))).drew.grownBy w4 (Value.ownBlock (.slice pv D.length cv)) → w4.cell? ⟨S + 1 + 1 + 1, 0, none⟩ = some (.slice pv D.length cv) ∧ w4.frozen? ⟨S + 1 + 1 + 1, 0, none⟩ = false := by
          intro w4 g4
          have k3 := grow_block q2.a3 (drew_grown g4) (fun k e => by have := (q2.ow.lt k e).1; omega)
          exact ⟨cell_of k3, froz_of k3⟩
        have HFIN : ∀ (w4 : World) (p4 : Option Addr) (c4 : Nat), w4.ownsRow (S + 1 + 1 + 1 + 1 + 1 + 1 + 1 + 1 + 1) 67 10 (.slice p4 (D.length + 1) c4) (D.length + 1) (tes D ++ [.int .i64 (c0.length : Int), .int .u64 (FW c0 0 : Int), .int .u64 (FW c0 1 : Int), .int .u64 (FW c0 2 : Int), .int .u64 (FW c0 3 : Int), .int .u64 (OW c0 0 : Int), .int .u64 (OW c0 1 : Int), .int .u64 (OW c0 2 : Int), .int .u64 (OW c0 3 : Int), .slice (if C = 1 then some ⟨g, 0, none⟩ else some ⟨g, 9, none⟩) (N - 1) (C - 1)]) → (V2.alloc (.cells #[.int .i64 (c0.length : Int), .int .u64 (FW c0 0 : Int), .int .u64 (FW c0 1 : Int), .int .u64 (FW c0 2 : Int), .int .u64 (FW c0 3 : Int), .int .u64 (OW c0 0 : Int), .int .u64 (OW c0 1 : Int), .int .u64 (OW c0 2 : Int), .int .u64 (OW c0 3 : Int), .slice (if C = 1 then some ⟨g, 0, none⟩ else some ⟨g, 9, none⟩) (N - 1) (C - 1)] 67 (0, 0))).drew.grownBy w4 (Value.ownBlock (.slice pv D.length cv)) → (w4.setCell ⟨S + 1 + 1 + 1, 0, none⟩ (.slice p4 (D.length + 1) c4)).heap[S + 1 + 1 + 1 + 1 + 1 + 1 + 1 + 1]? = some (.loop { R with state := .busy }) ∧ okT b p = true ∧ ∃ v' z, TS w S b v' (D ++ [z]) r R ((w4.setCell ⟨S + 1 + 1 + 1, 0, none⟩ (.slice p4 (D.length + 1) c4)).putObj (S + 1 + 1 + 1 + 1 + 1 + 1 + 1 + 1) (.loop R)) ∧ (z.c, z.L) = tcon p := by
          intro w4 p4 c4 o4 g4
          have g5 := drew_grown g4
          have ge : ∀ k, Value.ownBlock (.slice pv D.length cv) = some k → S + 1 + 1 + 1 + 1 + 1 + 1 + 1 + 1 < k := fun k e => by have := (q2.ow.lt k e).1; omega
          have k3 := grow_block q2.a3 g5 (fun k e => by have := ge k e; omega)
          have k8 := grow_block q2.a8 g5 (fun k e => by have := ge k e; omega)
          obtain ⟨hC, hK⟩ := HC.out
          have hNl : N - 1 = cr.length := by rw [hN.out]; rfl
          have hgd : ∀ x ∈ c0 :: cr, good x = true := fun x hx => by
            have h1 : (prts 45 p).all (okP b) = true := hK
            rw [hC] at h1
            have h2 := List.all_eq_true.1 h1 x hx
            unfold okP at h2
            have h3 : refP x = 0 := of_decide_eq_true (Bool.and_eq_true_iff.1 h2).1
            rw [← cubeT_self x h3]
            exact good_cubeT _
          have hcl : cr.length ≤ 1000000 := by
            have h1 := prts_len 45 40000 p hp
            rw [hC, List.length_cons] at h1
            omega
          have kk : KC V2 (w4.setCell ⟨S + 1 + 1 + 1, 0, none⟩ (.slice p4 (D.length + 1) c4)) := ((KC_below (belA (Below.refl _ _) _)).trans (KC_own (q2.ow.alloc _) g5)).trans (KC_grown (set_grS _ _ _ _) k3 (by decide))
          have hir : IRK V2 (if C = 1 then some ⟨g, 0, none⟩ else some ⟨g, 9, none⟩) cr := fun Y hY k t ht => by
            obtain ⟨g', o', e, h⟩ := (IRK_own ho hN.out.symm) Y hY (k + 1) t (by rw [List.getElem?_cons_succ]; exact ht)
            injection e with e
            injection e with e1 e2 _
            subst e1
            subst e2
            have hC1 : C ≠ 1 := by
              have := (List.getElem?_eq_some_iff.1 ht).1
              omega
            refine ⟨g, 9, if_neg hC1, ?_⟩
            have e3 : 0 + (k + 1) * 9 = 9 + k * 9 := by omega
            rw [e3] at h
            exact h
          refine ⟨set_other k8 (by omega), hK, _, ⟨c0, (if C = 1 then some ⟨g, 0, none⟩ else some ⟨g, 9, none⟩), C - 1, cr⟩, TS.loop (lo := { R with state := .busy }) ⟨set_other (grow_block q2.a0 g5 (fun k e => by have := ge k e; omega)) (by omega), set_other (grow_block q2.a1 g5 (fun k e => by have := ge k e; omega)) (by omega), set_other (grow_block q2.a2 g5 (fun k e => by have := ge k e; omega)) (by omega), set_one _ k3, set_other (grow_block q2.a4 g5 (fun k e => by have := ge k e; omega)) (by omega), set_other (grow_block q2.a5 g5 (fun k e => by have := ge k e; omega)) (by omega), set_other (grow_block q2.a6 g5 (fun k e => by have := ge k e; omega)) (by omega), set_other (grow_block q2.a7 g5 (fun k e => by have := ge k e; omega)) (by omega), set_other k8 (by omega), ?_, ?_, ?_, q2.sz⟩ R, ?_⟩
          · have o5 := o4.kept (set_grS w4 (S + 1 + 1 + 1) 0 (.slice p4 (D.length + 1) c4)) (.inr (fun e => by have := (o4.lt _ e).1; omega))
            rw [tes_snoc, List.length_append]
            rw [hNl] at o5
            exact o5
          · intro z hz
            rcases List.mem_append.1 hz with hz | hz
            · exact (q2.zo z hz).later kk
            · obtain rfl := List.mem_singleton.1 hz
              exact ⟨hir.later kk, hcl, hgd _ List.mem_cons_self, fun x hx => hgd _ (List.mem_cons_of_mem _ hx)⟩
          · refine ((q2.be.alloc (by omega) _).grown g5 (by simp; omega) (fun k e => by have := ge k e; omega)).setCell (p := ⟨S + 1 + 1 + 1, 0, none⟩) (by show S ≤ S + 1 + 1 + 1; omega) _
          · unfold tcon
            rw [hC]
            rfl
        refine wpAnyIn_inRound (by kernel_rfl) ?_
        refine wpAnyIn_take (i := 1) (v := ?_) rfl rfl (by kernel_rfl) (by kernel_rfl) (by kernel_rfl) (fun _ _ _ h => h) ⟨Or.inl ⟨by rfl, ?_⟩, fun _ => rfl⟩ ?_
        rotate_left 1
        · intro w; go_simp; try with_reducible rfl
        refine wpAnyIn_take (i := 2) (v := ?_) rfl rfl (by kernel_rfl) (by kernel_rfl) (by kernel_rfl) (fun _ _ _ h => h) ⟨Or.inl ⟨by rfl, ?_⟩, fun _ => rfl⟩ ?_
        rotate_left 1
        · intro w; go_simp; try with_reducible rfl
        refine wpAnyIn_take (i := 4) (v := ?_) rfl rfl (by kernel_rfl) (by kernel_rfl) (by kernel_rfl) (fun _ _ _ h => h) ⟨Or.inl ⟨by rfl, ?_⟩, fun _ => rfl⟩ ?_
        rotate_left 1
        · intro w; go_simp; try with_reducible rfl
        refine wpAnyIn_take (i := 5) (v := ?_) rfl rfl (by kernel_rfl) (by kernel_rfl) (by kernel_rfl) (fun _ _ _ h => h) ⟨Or.inl ⟨by rfl, ?_⟩, fun _ => rfl⟩ ?_
        rotate_left 1
        · intro w; go_simp; try with_reducible rfl
        refine wpAnyIn_ready (rs := [0, 3]) (by kernel_rfl) (by simp) ?_
        refine AllReadyIn.cons rfl (fun K hK => ?_) ?_
        · go_simp
          refine hK _ _ ?_
          clear hK K
          refine wpAnyIn_ready (rs := [3]) (by kernel_rfl) (by simp) ?_
          refine AllReadyIn.cons rfl (fun K hK => ?_) ?_
          · go_simp
            refine hK _ _ ?_
            clear hK K
            refine wpAnyIn_ready (rs := [6]) (by kernel_rfl) (by simp) ?_
            refine AllReadyIn.cons rfl (fun K hK => ?_) ?_
            · go_simp
              refine hK _ _ ?_
              clear hK K
              refine wpAnyIn_ready (rs := [7]) (by kernel_rfl) (by simp) ?_
              refine AllReadyIn.cons rfl (fun K hK => ?_) ?_
              · go_simp
                refine hK _ _ ?_
                clear hK K
                refine wpAnyIn_ready (rs := [8]) (by kernel_rfl) (by simp) ?_
                refine AllReadyIn.cons rfl (fun K hK => ?_) ?_
                · refine stepIn_append_own (by rfl) _ _ 26 (by rfl) (S + 1 + 1 + 1 + 1 + 1 + 1 + 1 + 1 + 1) 67 i0 _ 10 96 Tryz.underlying26 hi hz0 hz1 hz2 rfl (by decide) (.slice pv D.length cv) D.length (tes D) (by rfl) (q2.ow.alloc _) ⟨V2.heap.size, 0, none⟩ 1 1 [.int .i64 (c0.length : Int), .int .u64 (FW c0 0 : Int), .int .u64 (FW c0 1 : Int), .int .u64 (FW c0 2 : Int), .int .u64 (FW c0 3 : Int), .int .u64 (OW c0 0 : Int), .int .u64 (OW c0 1 : Int), .int .u64 (OW c0 2 : Int), .int .u64 (OW c0 3 : Int), .slice (if C = 1 then some ⟨g, 0, none⟩ else some ⟨g, 9, none⟩) (N - 1) (C - 1)] (by rfl) rfl (World.news_of_block (w := V2.alloc (.cells #[.int .i64 (c0.length : Int), .int .u64 (FW c0 0 : Int), .int .u64 (FW c0 1 : Int), .int .u64 (FW c0 2 : Int), .int .u64 (FW c0 3 : Int), .int .u64 (OW c0 0 : Int), .int .u64 (OW c0 1 : Int), .int .u64 (OW c0 2 : Int), .int .u64 (OW c0 3 : Int), .slice (if C = 1 then some ⟨g, 0, none⟩ else some ⟨g, 9, none⟩) (N - 1) (C - 1)] 67 (0, 0))) (cs := #[.int .i64 (c0.length : Int), .int .u64 (FW c0 0 : Int), .int .u64 (FW c0 1 : Int), .int .u64 (FW c0 2 : Int), .int .u64 (FW c0 3 : Int), .int .u64 (OW c0 0 : Int), .int .u64 (OW c0 1 : Int), .int .u64 (OW c0 2 : Int), .int .u64 (OW c0 3 : Int), .slice (if C = 1 then some ⟨g, 0, none⟩ else some ⟨g, 9, none⟩) (N - 1) (C - 1)]) (t := 67) (fr := (0, 0)) (alloc_get _ _)) (by simp [Value.oneCell']) (by unfold maxLen; omega) (by omega) (by simp; omega) ?_
                  intro v4 w4 o4 g4 _
                  obtain ⟨p4, c4, rfl⟩ := shapeQ1 o4
                  obtain ⟨e3, h3⟩ := HST w4 g4
                  refine hK _ _ ?_
                  clear hK K
                  refine wpAnyIn_ready (rs := [9]) (by kernel_rfl) (by simp) ?_
                  refine AllReadyIn.cons rfl (fun K hK => ?_) ?_
                  · go_simp
                    refine hK _ _ ?_
                    clear hK K
                    refine wpAnyIn_done (by kernel_rfl) ?_ _
                    first | exact HFIN _ _ _ o4 g4 | (go_simp; exact HFIN _ _ _ o4 g4) | (gi_wp2; exact HFIN _ _ _ o4 g4)
                  exact AllReadyIn.nil
                exact AllReadyIn.nil
              exact AllReadyIn.nil
            exact AllReadyIn.nil
          exact AllReadyIn.nil
        refine AllReadyIn.cons rfl (fun K hK => ?_) ?_
        · go_simp
          refine hK _ _ ?_
          clear hK K
          refine wpAnyIn_ready (rs := [0, 6]) (by kernel_rfl) (by simp) ?_
          refine AllReadyIn.cons rfl (fun K hK => ?_) ?_
          · go_simp
            refine hK _ _ ?_
            clear hK K
            refine wpAnyIn_ready (rs := [6]) (by kernel_rfl) (by simp) ?_
            refine AllReadyIn.cons rfl (fun K hK => ?_) ?_
            · go_simp
              refine hK _ _ ?_
              clear hK K
              refine wpAnyIn_ready (rs := [7]) (by kernel_rfl) (by simp) ?_
              refine AllReadyIn.cons rfl (fun K hK => ?_) ?_
              · go_simp
                refine hK _ _ ?_
                clear hK K
                refine wpAnyIn_ready (rs := [8]) (by kernel_rfl) (by simp) ?_
                refine AllReadyIn.cons rfl (fun K hK => ?_) ?_
                · refine stepIn_append_own (by rfl) _ _ 26 (by rfl) (S + 1 + 1 + 1 + 1 + 1 + 1 + 1 + 1 + 1) 67 i0 _ 10 96 Tryz.underlying26 hi hz0 hz1 hz2 rfl (by decide) (.slice pv D.length cv) D.length (tes D) (by rfl) (q2.ow.alloc _) ⟨V2.heap.size, 0, none⟩ 1 1 [.int .i64 (c0.length : Int), .int .u64 (FW c0 0 : Int), .int .u64 (FW c0 1 : Int), .int .u64 (FW c0 2 : Int), .int .u64 (FW c0 3 : Int), .int .u64 (OW c0 0 : Int), .int .u64 (OW c0 1 : Int), .int .u64 (OW c0 2 : Int), .int .u64 (OW c0 3 : Int), .slice (if C = 1 then some ⟨g, 0, none⟩ else some ⟨g, 9, none⟩) (N - 1) (C - 1)] (by rfl) rfl (World.news_of_block (w := V2.alloc (.cells #[.int .i64 (c0.length : Int), .int .u64 (FW c0 0 : Int), .int .u64 (FW c0 1 : Int), .int .u64 (FW c0 2 : Int), .int .u64 (FW c0 3 : Int), .int .u64 (OW c0 0 : Int), .int .u64 (OW c0 1 : Int), .int .u64 (OW c0 2 : Int), .int .u64 (OW c0 3 : Int), .slice (if C = 1 then some ⟨g, 0, none⟩ else some ⟨g, 9, none⟩) (N - 1) (C - 1)] 67 (0, 0))) (cs := #[.int .i64 (c0.length : Int), .int .u64 (FW c0 0 : Int), .int .u64 (FW c0 1 : Int), .int .u64 (FW c0 2 : Int), .int .u64 (FW c0 3 : Int), .int .u64 (OW c0 0 : Int), .int .u64 (OW c0 1 : Int), .int .u64 (OW c0 2 : Int), .int .u64 (OW c0 3 : Int), .slice (if C = 1 then some ⟨g, 0, none⟩ else some ⟨g, 9, none⟩) (N - 1) (C - 1)]) (t := 67) (fr := (0, 0)) (alloc_get _ _)) (by simp [Value.oneCell']) (by unfold maxLen; omega) (by omega) (by simp; omega) ?_
                  intro v4 w4 o4 g4 _
                  obtain ⟨p4, c4, rfl⟩ := shapeQ1 o4
                  obtain ⟨e3, h3⟩ := HST w4 g4
                  refine hK _ _ ?_
                  clear hK K
                  refine wpAnyIn_ready (rs := [9]) (by kernel_rfl) (by simp) ?_
                  refine AllReadyIn.cons rfl (fun K hK => ?_) ?_
                  · go_simp
                    refine hK _ _ ?_
                    clear hK K
                    refine wpAnyIn_done (by kernel_rfl) ?_ _
                    first | exact HFIN _ _ _ o4 g4 | (go_simp; exact HFIN _ _ _ o4 g4) | (gi_wp2; exact HFIN _ _ _ o4 g4)
                  exact AllReadyIn.nil
                exact AllReadyIn.nil
              exact AllReadyIn.nil
            exact AllReadyIn.nil
          refine AllReadyIn.cons rfl (fun K hK => ?_) ?_
          · go_simp
            refine hK _ _ ?_
            clear hK K
            refine wpAnyIn_ready (rs := [0, 7]) (by kernel_rfl) (by simp) ?_
            refine AllReadyIn.cons rfl (fun K hK => ?_) ?_
            · go_simp
              refine hK _ _ ?_
              clear hK K
              refine wpAnyIn_ready (rs := [7]) (by kernel_rfl) (by simp) ?_
              refine AllReadyIn.cons rfl (fun K hK => ?_) ?_
              · go_simp
                refine hK _ _ ?_
                clear hK K
                refine wpAnyIn_ready (rs := [8]) (by kernel_rfl) (by simp) ?_
                refine AllReadyIn.cons rfl (fun K hK => ?_) ?_
                · refine stepIn_append_own (by rfl) _ _ 26 (by rfl) (S + 1 + 1 + 1 + 1 + 1 + 1 + 1 + 1 + 1) 67 i0 _ 10 96 Tryz.underlying26 hi hz0 hz1 hz2 rfl (by decide) (.slice pv D.length cv) D.length (tes D) (by rfl) (q2.ow.alloc _) ⟨V2.heap.size, 0, none⟩ 1 1 [.int .i64 (c0.length : Int), .int .u64 (FW c0 0 : Int), .int .u64 (FW c0 1 : Int), .int .u64 (FW c0 2 : Int), .int .u64 (FW c0 3 : Int), .int .u64 (OW c0 0 : Int), .int .u64 (OW c0 1 : Int), .int .u64 (OW c0 2 : Int), .int .u64 (OW c0 3 : Int), .slice (if C = 1 then some ⟨g, 0, none⟩ else some ⟨g, 9, none⟩) (N - 1) (C - 1)] (by rfl) rfl (World.news_of_block (w := V2.alloc (.cells #[.int .i64 (c0.length : Int), .int .u64 (FW c0 0 : Int), .int .u64 (FW c0 1 : Int), .int .u64 (FW c0 2 : Int), .int .u64 (FW c0 3 : Int), .int .u64 (OW c0 0 : Int), .int .u64 (OW c0 1 : Int), .int .u64 (OW c0 2 : Int), .int .u64 (OW c0 3 : Int), .slice (if C = 1 then some ⟨g, 0, none⟩ else some ⟨g, 9, none⟩) (N - 1) (C - 1)] 67 (0, 0))) (cs := #[.int .i64 (c0.length : Int), .int .u64 (FW c0 0 : Int), .int .u64 (FW c0 1 : Int), .int .u64 (FW c0 2 : Int), .int .u64 (FW c0 3 : Int), .int .u64 (OW c0 0 : Int), .int .u64 (OW c0 1 : Int), .int .u64 (OW c0 2 : Int), .int .u64 (OW c0 3 : Int), .slice (if C = 1 then some ⟨g, 0, none⟩ else some ⟨g, 9, none⟩) (N - 1) (C - 1)]) (t := 67) (fr := (0, 0)) (alloc_get _ _)) (by simp [Value.oneCell']) (by unfold maxLen; omega) (by omega) (by simp; omega) ?_
                  intro v4 w4 o4 g4 _
                  obtain ⟨p4, c4, rfl⟩ := shapeQ1 o4
                  obtain ⟨e3, h3⟩ := HST w4 g4
                  refine hK _ _ ?_
                  clear hK K
                  refine wpAnyIn_ready (rs := [9]) (by kernel_rfl) (by simp) ?_
                  refine AllReadyIn.cons rfl (fun K hK => ?_) ?_
                  · go_simp
                    refine hK _ _ ?_
                    clear hK K
                    refine wpAnyIn_done (by kernel_rfl) ?_ _
                    first | exact HFIN _ _ _ o4 g4 | (go_simp; exact HFIN _ _ _ o4 g4) | (gi_wp2; exact HFIN _ _ _ o4 g4)
                  exact AllReadyIn.nil
                exact AllReadyIn.nil
              exact AllReadyIn.nil
            refine AllReadyIn.cons rfl (fun K hK => ?_) ?_
            · go_simp
              refine hK _ _ ?_
              clear hK K
              refine wpAnyIn_ready (rs := [0]) (by kernel_rfl) (by simp) ?_
              refine AllReadyIn.cons rfl (fun K hK => ?_) ?_
              · go_simp
                refine hK _ _ ?_
                clear hK K
                refine wpAnyIn_ready (rs := [8]) (by kernel_rfl) (by simp) ?_
                refine AllReadyIn.cons rfl (fun K hK => ?_) ?_
                · refine stepIn_append_own (by rfl) _ _ 26 (by rfl) (S + 1 + 1 + 1 + 1 + 1 + 1 + 1 + 1 + 1) 67 i0 _ 10 96 Tryz.underlying26 hi hz0 hz1 hz2 rfl (by decide) (.slice pv D.length cv) D.length (tes D) (by rfl) (q2.ow.alloc _) ⟨V2.heap.size, 0, none⟩ 1 1 [.int .i64 (c0.length : Int), .int .u64 (FW c0 0 : Int), .int .u64 (FW c0 1 : Int), .int .u64 (FW c0 2 : Int), .int .u64 (FW c0 3 : Int), .int .u64 (OW c0 0 : Int), .int .u64 (OW c0 1 : Int), .int .u64 (OW c0 2 : Int), .int .u64 (OW c0 3 : Int), .slice (if C = 1 then some ⟨g, 0, none⟩ else some ⟨g, 9, none⟩) (N - 1) (C - 1)] (by rfl) rfl (World.news_of_block (w := V2.alloc (.cells #[.int .i64 (c0.length : Int), .int .u64 (FW c0 0 : Int), .int .u64 (FW c0 1 : Int), .int .u64 (FW c0 2 : Int), .int .u64 (FW c0 3 : Int), .int .u64 (OW c0 0 : Int), .int .u64 (OW c0 1 : Int), .int .u64 (OW c0 2 : Int), .int .u64 (OW c0 3 : Int), .slice (if C = 1 then some ⟨g, 0, none⟩ else some ⟨g, 9, none⟩) (N - 1) (C - 1)] 67 (0, 0))) (cs := #[.int .i64 (c0.length : Int), .int .u64 (FW c0 0 : Int), .int .u64 (FW c0 1 : Int), .int .u64 (FW c0 2 : Int), .int .u64 (FW c0 3 : Int), .int .u64 (OW c0 0 : Int), .int .u64 (OW c0 1 : Int), .int .u64 (OW c0 2 : Int), .int .u64 (OW c0 3 : Int), .slice (if C = 1 then some ⟨g, 0, none⟩ else some ⟨g, 9, none⟩) (N - 1) (C - 1)]) (t := 67) (fr := (0, 0)) (alloc_get _ _)) (by simp [Value.oneCell']) (by unfold maxLen; omega) (by omega) (by simp; omega) ?_
                  intro v4 w4 o4 g4 _
                  obtain ⟨p4, c4, rfl⟩ := shapeQ1 o4
                  obtain ⟨e3, h3⟩ := HST w4 g4
                  refine hK _ _ ?_
                  clear hK K
                  refine wpAnyIn_ready (rs := [9]) (by kernel_rfl) (by simp) ?_
                  refine AllReadyIn.cons rfl (fun K hK => ?_) ?_
                  · go_simp
                    refine hK _ _ ?_
                    clear hK K
                    refine wpAnyIn_done (by kernel_rfl) ?_ _
                    first | exact HFIN _ _ _ o4 g4 | (go_simp; exact HFIN _ _ _ o4 g4) | (gi_wp2; exact HFIN _ _ _ o4 g4)
                  exact AllReadyIn.nil
                exact AllReadyIn.nil
              exact AllReadyIn.nil
            exact AllReadyIn.nil
          exact AllReadyIn.nil
        exact AllReadyIn.nil
    rintro e W' h
    rcases h with ⟨he, h⟩ | ⟨he, c, h⟩
    · exact .inl ⟨he, h⟩
    · exact .inr ⟨he, h⟩
  have hgo : CallsIn Fence.wide (4 - 1) Tryz.prog 55 #[.func (.yield (S + 1 + 1 + 1 + 1 + 1 + 1 + 1 + 1)) #[] #[], .pointer (some ⟨S + 1 + 1 + 1 + 1 + 1, 0, none⟩), .pointer (some ⟨S + 1 + 1 + 1 + 1, 0, none⟩), .pointer (some ⟨S + 1 + 1 + 1 + 1 + 1 + 1, 0, none⟩)] W0 fun e W' => (∃ v, e = .returned v) ∧ (CXt w S b l W' ∨ CEt w S b l R W') := by
    refine split_in 43 (4 - 1) (by omega) (S + 1 + 1 + 1 + 1 + 1 + 1 + 1 + 1) (S + 1 + 1 + 1 + 1) (CJt w S b l R) (CXt w S b l) (CEt w S b l R) ?hbox ?hY1 ?hY2 l W0 ⟨_, [], [], q0, hs, rfl, rfl, rfl⟩
    case hbox =>
      rintro r W ⟨v, D, X, q, hr, _, _, _⟩
      exact ⟨q.a4, q.a5, q.a6, hr⟩
    case hY1 =>
      rintro r W i ⟨v, D, X, q, hr, hc, hX, hm⟩ hi
      rw [prts_pos hi] at hc
      have hlen : D.length + (r.take i :: prts 43 (r.drop (i + 1))).length ≤ 40001 := by
        have h1 := congrArg List.length hc
        have h2 := congrArg List.length hm
        rw [List.length_append] at h1
        rw [List.length_map, List.length_map] at h2
        omega
      refine (HB (r.take i) (prts 43 (r.drop (i + 1))) r v D W q (by simp; omega) hlen).mono ?_
      rintro e W' (⟨he, hok, v', z, q', hz⟩ | ⟨he, hok, hx⟩)
      · refine .inl ⟨he, q'.a4, q'.a5, v', D ++ [z], X ++ [r.take i], q'.sets _, by simp; omega, ?_, ?_, ?_⟩
        · rw [List.append_assoc]; exact hc
        · rw [List.all_append, hX]; simp [hok]
        · rw [List.map_append, List.map_append, hm]; simp [hz]
      · refine .inr ⟨he, ?_, hx⟩
        rw [← hc, List.all_append, List.all_cons, hok]
        simp
    case hY2 =>
      rintro r W ⟨v, D, X, q, hr, hc, hX, hm⟩ hi
      rw [prts_neg hi] at hc
      have hlen : D.length + [r].length ≤ 40001 := by
        have h1 := congrArg List.length hc
        have h2 := congrArg List.length hm
        rw [List.length_append] at h1
        rw [List.length_map, List.length_map] at h2
        omega
      refine (HB r [] r v D W q hr hlen).mono ?_
      rintro e W' (⟨he, hok, v', z, q', hz⟩ | ⟨he, hok, hx⟩)
      · refine ⟨⟨_, he⟩, .inr ⟨v', D ++ [z], r, q', ?_, ?_⟩⟩
        · rw [← hc, List.all_append, hX]; simp [hok]
        · rw [← hc, List.map_append, List.map_append, hm]; simp [hz]
      · refine ⟨⟨_, he⟩, .inl ⟨?_, hx⟩⟩
        rw [← hc, List.all_append, List.all_cons, hok]
        simp
  rw [hW0]
  refine hgo.mono ?_
  rintro e W ⟨hv1, hJ⟩
  refine ⟨hv1, ?_⟩
  have hJ2 : CXt w S b l W ∨ ∃ v D r, TS w S b v D r R W ∧ (prts 43 l).all (okT b) = true ∧ D.map (fun z => (z.c, z.L)) = (prts 43 l).map tcon := by
    rcases hJ with h | h
    · exact .inl h
    · exact h
  rcases hJ2 with ⟨hq, v, D, r, lo, q, h1, h2⟩ | ⟨v, D, r, q, hf, hm⟩
  · refine ⟨lo, q.a8, (fun e => by rw [h1] at e; cases e), .inr ⟨_, h2, ?_⟩⟩
    have q2 := q.loop { lo with state := .exhausted }
    have HQ : Hid ((prts 43 l).all (okT b) = false) := hq
    obtain ⟨V, hV⟩ : ∃ V, W.putObj (S + 1 + 1 + 1 + 1 + 1 + 1 + 1 + 1) (.loop { lo with state := .exhausted }) = V := ⟨_, rfl⟩
    rw [hV] at q2 ⊢
    clear hV hq
    have c1 := cell_of q2.a1
    have c2 := cell_of q2.a2
    gi_wp2
    refine ⟨by simp, .inl ⟨_, _, rfl, run_takeDeferred q2.a7, ?_⟩⟩
    refine ⟨_, res_terms _ _ (S + 1) (S + 1 + 1) (.slice none 0 0) false rfl rfl (put_other q2.a1 (by omega)) (put_other q2.a2 (by omega)), done_be Hs.out q2.be _ (by omega), .inl ⟨HQ.out, rfl⟩⟩
  · refine ⟨R, q.a8, (fun e => by rw [rs] at e; cases e), .inl ⟨rp, ?_⟩⟩
    have q2 := q.loop { R with state := .exhausted }
    obtain ⟨V, hV⟩ : ∃ V, W.putObj (S + 1 + 1 + 1 + 1 + 1 + 1 + 1 + 1) (.loop { R with state := .exhausted }) = V := ⟨_, rfl⟩
    rw [hV] at q2 ⊢
    clear hV
    obtain ⟨pv, cv, rfl⟩ := shapeQ1 q2.ow
    have c1 := cell_of q2.a1
    have c2 := cell_of q2.a2
    have c3 := cell_of q2.a3
    have f1 := froz_of q2.a1
    have f2 := froz_of q2.a2
    have HQ : Hid ((prts 43 l).all (okT b) = true ∧ D.map (fun z => (z.c, z.L)) = (prts 43 l).map tcon) := ⟨hf, hm⟩
    clear hf hm
    gi_wp2
    have k7 : ((V.setCell ⟨S + 1, 0, none⟩ (.slice pv D.length cv)).setCell ⟨S + 1 + 1, 0, none⟩ (.bool true)).heap[S + 1 + 1 + 1 + 1 + 1 + 1 + 1]? = some (.deferred (some [])) := set_other (set_other q2.a7 (by omega)) (by omega)
    have k1 : ((V.setCell ⟨S + 1, 0, none⟩ (.slice pv D.length cv)).setCell ⟨S + 1 + 1, 0, none⟩ (.bool true)).heap[S + 1]? = some (.cells #[.slice pv D.length cv] 26 (0, 0)) := set_other (set_one _ q2.a1) (by omega)
    have k2 : ((V.setCell ⟨S + 1, 0, none⟩ (.slice pv D.length cv)).setCell ⟨S + 1 + 1, 0, none⟩ (.bool true)).heap[S + 1 + 1]? = some (.cells #[.bool true] 4 (0, 0)) := set_one _ (set_other q2.a2 (by omega))
    have kb : Below S w ((V.setCell ⟨S + 1, 0, none⟩ (.slice pv D.length cv)).setCell ⟨S + 1 + 1, 0, none⟩ (.bool true)) := (q2.be.setCell (p := ⟨S + 1, 0, none⟩) (by show S ≤ S + 1; omega) _).setCell (p := ⟨S + 1 + 1, 0, none⟩) (by show S ≤ S + 1 + 1; omega) _
    have ko := (q2.ow.kept (set_grS V (S + 1) 0 (.slice pv D.length cv)) (.inr (fun e => by have := (q2.ow.lt _ e).1; omega))).kept (set_grS _ (S + 1 + 1) 0 (.bool true)) (.inr (fun e => by have := (q2.ow.lt _ e).1; omega))
    have kz : KC V ((V.setCell ⟨S + 1, 0, none⟩ (.slice pv D.length cv)).setCell ⟨S + 1 + 1, 0, none⟩ (.bool true)) := (KC_grown (set_grS _ _ _ _) q2.a1 (by decide)).trans (KC_grown (set_grS _ _ _ _) (set_other q2.a2 (by omega)) (by decide))
    refine ⟨by simp, .inl ⟨_, _, rfl, run_takeDeferred k7, ?_⟩⟩
    refine ⟨_, res_terms _ _ (S + 1) (S + 1 + 1) (.slice pv D.length cv) true rfl rfl (put_other k1 (by omega)) (put_other k2 (by omega)), done_be Hs.out kb _ (by omega), .inr ⟨HQ.out.1, _, D, HQ.out.2, rfl, ?_, ?_⟩⟩
    · have := Hs.out
      exact own_base (ko.kept (grownBy_putObj' _ _ _) (.inr (fun e => by have := (ko.lt _ e).1; omega))) (by omega)
    · intro z hz
      refine (q2.zo z hz).later (kz.trans ?_)
      exact fun j cs fr hj => put_other hj (fun e => by rw [e, k7] at hj; cases hj)
end Go.Proofs.YtecgjlpmmailjaaGreatDoor
