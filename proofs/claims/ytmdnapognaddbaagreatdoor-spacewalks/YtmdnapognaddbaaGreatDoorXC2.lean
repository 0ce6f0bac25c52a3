import Derived.Test.YtmdnapognaddbaaGreatDoorXC1
import Derived.Test.YtmdnapognaddbaaGreatDoorXBH
import Derived.Sort.CutIn
namespace Go.Proofs.YtmdnapognaddbaaGreatDoor
open Go.RowKit Go.Shelf
/-- where there is no error -/
def FE (F : Int) (P : Prop) : Prop := F = 0 → P
/-- in the midst of a round -/
structure MR (X1 X W : World) (N bk l k : Nat) (R : Loop) (U : World) : Prop where
  bx : U.heap[bk]? = some (.cells #[.int .i64 (k : Int)] 3 (0, 0))
  lp : U.heap[l]? = some (.loop R)
  fr : FRM N bk l X U
  be : Below X1.heap.size X1 U
  yk : YK (WX bk l) none W none U
theorem MR.keep {X1 X W U V : World} {N bk l k : Nat} {R : Loop} (h : MR X1 X W N bk l k R U) (hs : U.heap.size ≤ V.heap.size) (hk : ∀ j, j < U.heap.size → V.heap[j]? = U.heap[j]?) (be : Below X1.heap.size X1 V) : MR X1 X W N bk l k R V :=
  ⟨(hk _ (lt_of_get3 h.bx)).trans h.bx, (hk _ (lt_of_get3 h.lp)).trans h.lp, ⟨Nat.le_trans h.fr.1 hs, fun j h1 h2 h3 => (hk j (Nat.lt_of_lt_of_le h1 h.fr.1)).trans (h.fr.2 j h1 h2 h3)⟩, be, h.yk.trans ⟨hs, fun j h1 _ _ => ⟨hk j h1, by simp⟩⟩⟩
theorem MR.below {X1 X W U V : World} {N bk l k : Nat} {R : Loop} (h : MR X1 X W N bk l k R U) (hb : Below U.heap.size U V) : MR X1 X W N bk l k R V := h.keep hb.size hb.block (bel0 h.be hb)
theorem MR.set {X1 X W U : World} {N bk l k : Nat} {R : Loop} (h : MR X1 X W N bk l k R U) (hne : l ≠ bk) (hb : X1.heap.size ≤ bk) (k1 : Nat) : MR X1 X W N bk l k1 R (U.setCell ⟨bk, 0, none⟩ (.int .i64 (k1 : Int))) :=
  ⟨set_oneE _ h.bx, (Below.heap_setCell _ _ _ _ (by show l ≠ bk; exact hne)).trans h.lp, h.fr.set (.inl rfl), h.be.setCell (p := ⟨bk, 0, none⟩) hb _, h.yk.trans (YK.set _ _ _ (.inl rfl))⟩
theorem YK.putl {W : World} {bk l : Nat} (o : Obj) : YK (WX bk l) none W none (W.putObj l o) := ⟨by simp, fun k _ hx _ => ⟨World.putObj_heap_other (fun e => hx (.inr e)), by simp⟩⟩
theorem be_put {X1 U : World} {l : Nat} {o : Obj} (h : Below X1.heap.size X1 U) (hl : X1.heap.size ≤ l) : Below X1.heap.size X1 (U.putObj l o) := h.grown (grownBy_putObj' U l _) h.size (fun x e => by cases e; exact hl)
/-- a round that goes on -/
theorem MR.on {X1 X W U : World} {N bk l k : Nat} {R R1 : Loop} {o : List (List UInt8)} (h : MR X1 X W N bk l k R1 U) (hne : bk ≠ l) (hl : X1.heap.size ≤ l) (hk : o.length = k) : WS X1 X N bk l R o none (U.putObj l (.loop R)) ∧ YK (WX bk l) none W none (U.putObj l (.loop R)) :=
  ⟨⟨rfl, by rw [hk]; exact put_otherE h.bx hne, World.putObj_heap_same (lt_of_get3 h.lp), h.fr.put, be_put h.be hl⟩, h.yk.trans (YK.putl _)⟩
/-- a loop that was left -/
def JX (X1 X : World) (N bk l id nm : Nat) (lim : Int) (W : World) : Prop := ∃ (r : Loop) (k : Nat), W.heap[l]? = some (.loop r) ∧ r.state = .done ∧ r.pending = some (.exit id) ∧ W.heap[bk]? = some (.cells #[.int .i64 (k : Int)] 3 (0, 0)) ∧ lim ≤ (k : Int) ∧ k ≤ nm ∧ FRM N bk l X W ∧ Below X1.heap.size X1 W
theorem MR.off {X1 X W U : World} {N bk l k id nm : Nat} {lim : Int} {R R1 : Loop} (h : MR X1 X W N bk l k R1 U) (hne : bk ≠ l) (hl : X1.heap.size ≤ l) (h1 : lim ≤ (k : Int)) (h2 : k ≤ nm) : JX X1 X N bk l id nm lim (U.putObj l (.loop { R with state := .done, pending := some (.exit id) })) ∧ YK (WX bk l) none W none (U.putObj l (.loop { R with state := .done, pending := some (.exit id) })) :=
  ⟨⟨_, k, World.putObj_heap_same (lt_of_get3 h.lp), rfl, rfl, put_otherE h.bx hne, h1, h2, h.fr.put, be_put h.be hl⟩, h.yk.trans (YK.putl _)⟩
/-- what the function holds while its loops go -/
structure BS (Ts : List (List UInt8 × List (List UInt8))) (M : List (List UInt8)) (nm : Nat) (up ag b : Int) (bU bA bR bQ bM Sp : Nat) (pm : Option Addr) (cm : Nat) (p : Option Addr) (n cp : Nat) (Z : List ZT) (X : World) : Prop where
  u : X.heap[bU]? = some (.cells #[.int .i64 up] 3 (0, 0))
  a : X.heap[bA]? = some (.cells #[.int .i64 ag] 3 (0, 0))
  r : X.heap[bR]? = some (.cells #[.bool false] 4 (0, 0))
  q : X.heap[bQ]? = some (.cells #[.func (.func 52) #[] #[.pointer (some ⟨Sp, 0, none⟩), .pointer (some ⟨Sp + 1, 0, none⟩)]] 31 (0, 0))
  s1 : X.heap[Sp]? = some (.cells #[.int .i64 b, .slice p n cp, .bool false] 24 (0, 0))
  s2 : X.heap[Sp + 1]? = some (.cells #[.int .i64 9223372036854775807] 3 (0, 0))
  m : X.heap[bM]? = some (.cells #[.slice pm nm cm] 33 (0, 0))
  mc : ∀ (i : Nat) (x : List UInt8), M[i]? = some x → ∃ g o, pm = some ⟨g, o, none⟩ ∧ X.cell? ⟨g, o + i, none⟩ = some (.string ⟨x.toArray⟩)
  t : TRC X (fun _ => False) none p Z
  zt : Z.map ctZ = Ts ∧ Z.length = n
theorem BS.below {Ts : List (List UInt8 × List (List UInt8))} {M : List (List UInt8)} {nm : Nat} {up ag b : Int} {bU bA bR bQ bM Sp : Nat} {pm : Option Addr} {cm : Nat} {p : Option Addr} {n cp : Nat} {Z : List ZT} {X W : World} (h : BS Ts M nm up ag b bU bA bR bQ bM Sp pm cm p n cp Z X) (hb : Below X.heap.size X W) : BS Ts M nm up ag b bU bA bR bQ bM Sp pm cm p n cp Z W :=
  ⟨keepblk3 hb h.u, keepblk3 hb h.a, keepblk3 hb h.r, keepblk3 hb h.q, keepblk3 hb h.s1, keepblk3 hb h.s2, keepblk3 hb h.m, fun i x hx => by
    obtain ⟨g, o, e, c⟩ := h.mc i x hx
    exact ⟨g, o, e, (hb.cell (World.block_lt_of_cell? X _ c)).trans c⟩, h.t.ofW hb (fun _ h => h.elim), h.zt⟩
theorem pre_at {A o : List (List UInt8)} {x : List UInt8} (h : (o ++ [x]) <+: A) : A[o.length]? = some x := by
  obtain ⟨t, rfl⟩ := h
  simp
theorem res_boolK {fn : Func} {p : Tmp} {m : Nat × Nat} (tmps : Array Value) (W : World) (b : Nat) (v : Bool) (hr : fn.results = #[.cell p 4]) (hp : tmps.getD p undef = .pointer (some ⟨b, 0, none⟩)) (h : W.heap[b]? = some (.cells #[.bool v] 4 m)) :
    (results fn tmps).run Tryz.prog W = .ok (.bool v) W := by
  have hc : ∀ j, W.cell? ⟨b, j, none⟩ = (#[.bool v] : Array Value)[j]? := by
    intro j; unfold World.cell?; rw [h]; simp
  have hp' : tmps[p]?.getD undef = .pointer (some ⟨b, 0, none⟩) := by simpa using hp
  simp [results, hr, hp', go_sem, hc]
/-- going through all the cubes -/
theorem goes_K (hin : ∀ (b : Int) (p : Option Addr) (n cp : Nat) (w : World), Calls Tryz.prog 37 #[.agg #[.int .i64 b, .slice p n cp, .bool false]] w fun e w' => e = .returned (.agg #[.int .i64 b, .slice p n cp, .bool false]) ∧ Below w.heap.size w w')
    {Ts : List (List UInt8 × List (List UInt8))} {M : List (List UInt8)} {nm : Nat} {up ag b : Int} {bU bA bR bQ bM Sp : Nat} {pm : Option Addr} {cm : Nat} {p : Option Addr} {n cp : Nat} {Z : List ZT} {X1 X : World} {N bk l m : Nat} {R : Loop} {Jx : World → Prop}
    (hb : BS Ts M nm up ag b bU bA bR bQ bM Sp pm cm p n cp Z X1) (hn : n ≤ 128) (hT : ∀ t ∈ Ts, good t.1 = true ∧ gdW t.1.length t.2 ∧ t.2.length ≤ 128) (hM : exE splT 2048 [] Ts = some M) (h1 : bk < N) (h2 : l < N) (h3 : X1.heap.size ≤ bk) (h4 : X1.heap.size ≤ l) (h5 : X1.heap.size ≤ N)
    (hY : ∀ nb, YLD M (WX bk l) (WS X1 X N bk l R) Jx l m nb) (h : WS X1 X N bk l R [] none X) :
    Calls Tryz.prog 52 #[.func (.yield l) #[] #[], .pointer (some ⟨Sp, 0, none⟩), .pointer (some ⟨Sp + 1, 0, none⟩)] X fun e W => (∃ v, e = .returned v) ∧ (WS X1 X N bk l R M none W ∨ Jx W) := by
  have e1 : flT Ts = M := (exE_fl Ts [] M hM).symm
  have hx := hb.below h.be
  have hz : ∀ z ∈ Z, good z.c = true ∧ gdW z.c.length z.L ∧ z.L.length ≤ 128 := fun z hz => hT (ctZ z) (by rw [← hb.zt.1]; exact List.mem_map_of_mem hz)
  have hs2 : X.heap[Sp + 1]? = some (.cells #[.int .i64 ((9223372036854775807 : Nat) : Int)] 3 (0, 0)) := hx.s2
  refine (plain1_any (A := M) (WS.jy h1 h2 h5) hin b Z n p cp Sp (Sp + 1) 9223372036854775807 none X (by rw [hb.zt.1, e1]; exact List.prefix_rfl) (fun z _ => hY _) hb.zt.2 hn (Nat.le_refl _) (.inr ⟨M, by rw [hb.zt.1]; exact hM⟩) h hx.s1 hs2 ?_ (by simp) (hb.t.ofW h.be (by rintro k (rfl | rfl) <;> assumption)) hz).mono ?_
  · rintro (e | e)
    · have := lt_of_get3 hb.s2; omega
    · have := lt_of_get3 hb.s2; omega
  · rintro e W (⟨v, r', R', rfl, hR, q⟩ | ⟨v, rfl, hf⟩ | ⟨rfl, hR, o', r', q⟩)
    · obtain rfl := q.no
      rw [hb.zt.1, exE_up (by omega) Ts [] M hM] at hR
      injection hR with hR
      subst hR
      exact ⟨⟨v, rfl⟩, .inl q⟩
    · exact ⟨⟨v, rfl⟩, .inr hf⟩
    · rw [hb.zt.1, exE_up (by omega) Ts [] M hM] at hR
      cases hR
attribute [local go_sem] Oper.semAt_some
set_option maxRecDepth 100000 in
set_option maxHeartbeats 16000000 in
theorem walks_core (hin : ∀ (b : Int) (p : Option Addr) (n cp : Nat) (w : World), Calls Tryz.prog 37 #[.agg #[.int .i64 b, .slice p n cp, .bool false]] w fun e w' => e = .returned (.agg #[.int .i64 b, .slice p n cp, .bool false]) ∧ Below w.heap.size w w')
    (b B1 up ag E : Int) (l : List UInt8) (Ts : List (List UInt8 × List (List UInt8))) (M : List (List UInt8)) (nm n : Nat) (w : World) (hn : n ≤ 128) (hnm : nm ≤ 2048) (hMl : M.length = nm) (hT : ∀ t ∈ Ts, good t.1 = true ∧ gdW t.1.length t.2 ∧ t.2.length ≤ 128)
    (hB0 : B1 = 0 → exE splT 2048 [] Ts = some M ∧ M = []) (hB1 : ¬ B1 = 0 → 0 < B1 ∧ (E = 0 → exE splT 2048 [] Ts = some M))
    (HR : Hid (∀ W, Calls Tryz.prog 5 #[.int .i64 b, .string ⟨l.toArray⟩] W fun e w' => ∃ p c q d Z, e = .returned (.tuple #[.agg #[.int .i64 B1, .slice p n c, .bool false], .agg #[.int .i64 B1, .slice q n d], .bool true]) ∧ Z.map ctZ = Ts ∧ Z.length = n ∧ TRC w' (fun _ => False) none p Z ∧ Below W.heap.size W w' ∧ (∀ W', Below w'.heap.size w' W' → Calls Tryz.prog 7 #[.agg #[.int .i64 B1, .slice q n d], .int .i64 2048] W' fun e2 w2 => ∃ pm cm, e2 = .returned (.tuple #[.slice pm nm cm, .int .i64 E]) ∧ (∀ (i : Nat) (x : List UInt8), M[i]? = some x → ∃ g o, pm = some ⟨g, o, none⟩ ∧ w2.cell? ⟨g, o + i, none⟩ = some (.string ⟨x.toArray⟩)) ∧ Below W'.heap.size W' w2))) : Calls Tryz.prog 3 #[.int .i64 b, .string ⟨l.toArray⟩, .int .i64 up, .int .i64 ag] w fun e w' => e = .returned (.bool true) ∧ Below w.heap.size w w' := by
  have HIN : Hid (∀ (b : Int) (p : Option Addr) (n cp : Nat) (w : World), Calls Tryz.prog 37 #[.agg #[.int .i64 b, .slice p n cp, .bool false]] w fun e w' => e = .returned (.agg #[.int .i64 b, .slice p n cp, .bool false]) ∧ Below w.heap.size w w') := hin
  have HMT : Hid (n ≤ 128 ∧ M.length = nm ∧ (∀ t ∈ Ts, good t.1 = true ∧ gdW t.1.length t.2 ∧ t.2.length ≤ 128)) := ⟨hn, hMl, hT⟩
  have HCU : Hid (∀ p cp W, Calls Tryz.prog 6 #[.agg #[.int .i64 B1, .slice p n cp, .bool false]] W fun e w' => ∃ S, e = .returned (.func (.func 52) #[] #[.pointer (some ⟨S, 0, none⟩), .pointer (some ⟨S + 1, 0, none⟩)]) ∧ w'.heap[S]? = some (.cells #[.int .i64 B1, .slice p n cp, .bool false] 24 (0, 0)) ∧ w'.heap[S + 1]? = some (.cells #[.int .i64 9223372036854775807] 3 (0, 0)) ∧ Below W.heap.size W w') := fun p cp W => cubes_any B1 p n cp W
  have hsn := seq_nilC
  clear hin hn hMl hT
  obtain ⟨S, hS⟩ : ∃ S, w.heap.size = S := ⟨_, rfl⟩
  obtain ⟨w0, hw0⟩ : ∃ w0, ((w.alloc (.cells #[.int .i64 up] 3)).alloc (.cells #[.int .i64 ag] 3)).alloc (.cells #[.bool false] 4) = w0 := ⟨_, rfl⟩
  have HW0 : Hid (w0.heap[S]? = some (.cells #[.int .i64 up] 3 (0, 0)) ∧ w0.heap[S + 1]? = some (.cells #[.int .i64 ag] 3 (0, 0)) ∧ w0.heap[S + 1 + 1]? = some (.cells #[.bool false] 4 (0, 0)) ∧ Below w.heap.size w w0) := by
    have k1 := alloc_get (w.alloc (.cells #[.int .i64 up] 3)) (.cells #[.int .i64 ag] 3)
    have k2 := alloc_get ((w.alloc (.cells #[.int .i64 up] 3)).alloc (.cells #[.int .i64 ag] 3)) (.cells #[.bool false] 4)
    simp only [World.size_alloc, hS] at k1 k2
    rw [← hw0]
    exact ⟨by rw [← hS]; exact allocblk3 (allocblk3 (alloc_get _ _) _) _, allocblk3 k1 _, k2, belA (belA (belA (Below.refl _ _) _) _) _⟩
  refine (callsIn_wide (n := 8)).1 ?_
  refine callsIn_of_wp_marks Tryz.func3 rfl trivial ?_ rfl
  simp only [Tryz.ntmps3, List.size_toArray, List.length_cons, List.length_nil, Nat.reduceAdd, Nat.reduceSub, Array.replicate_succ, Array.replicate_zero, List.push_toArray, List.append_toArray, List.nil_append, List.cons_append]
  gi_wp2_with fail

  refine ⟨trivial, (callsIn_wide.2 (HR.out _)).mono ?_⟩
  rintro e w1 ⟨p, c, q, d, Z, rfl, hz1, hz2, ht1, hb1, hex⟩
  have HB1 : Hid (Z.map ctZ = Ts ∧ Z.length = n ∧ TRC w1 (fun _ => False) none p Z ∧ Below w0.heap.size w0 w1) := ⟨hz1, hz2, ht1, hb1⟩
  have HEX : Hid (∀ W', Below w1.heap.size w1 W' → Calls Tryz.prog 7 #[.agg #[.int .i64 B1, .slice q n d], .int .i64 2048] W' fun e2 w2 => ∃ pm cm, e2 = .returned (.tuple #[.slice pm nm cm, .int .i64 E]) ∧ (∀ (i : Nat) (x : List UInt8), M[i]? = some x → ∃ g o, pm = some ⟨g, o, none⟩ ∧ w2.cell? ⟨g, o + i, none⟩ = some (.string ⟨x.toArray⟩)) ∧ Below W'.heap.size W' w2) := hex
  clear hz1 hz2 ht1 hb1 hex hw0 HR
  have c1 := (cells_block (alw_0 w1 (.cells #[.int .i64 B1, .slice p n c, .bool false] 24 (0, 0)) (.cells #[.int .i64 B1, .slice q n d] 27 (0, 0)))).1
  gi_wp2_with fail
  refine ⟨trivial, (callsIn_wide.2 (HCU.out _ _ _)).mono ?_⟩
  rintro e w2 ⟨Sp, rfl, hs1, hs2, hb2⟩
  have k10 := keepblk3 hb2 (alw_1 w1 (.cells #[.int .i64 B1, .slice p n c, .bool false] 24 (0, 0)) (.cells #[.int .i64 B1, .slice q n d] 27 (0, 0)))
  have hB2 : Below w1.heap.size w1 w2 := bel0 (belA (belA (Below.refl _ _) _) _) hb2
  obtain ⟨s10, hs10⟩ : ∃ s, w1.heap.size + 1 = s := ⟨_, rfl⟩
  simp only [hs10] at k10 ⊢
  obtain ⟨S2, hS2⟩ : ∃ s, w2.heap.size = s := ⟨_, rfl⟩
  obtain ⟨w3, hw3⟩ : ∃ w3, (w2.alloc (.cells #[.func (.func 52) #[] #[.pointer (some ⟨Sp, 0, none⟩), .pointer (some ⟨Sp + 1, 0, none⟩)]] 31 (0, 0))).alloc (.cells #[.slice none 0 0] 33 (0, 0)) = w3 := ⟨_, rfl⟩
  have q3 : w3.heap[S2]? = some (.cells #[.func (.func 52) #[] #[.pointer (some ⟨Sp, 0, none⟩), .pointer (some ⟨Sp + 1, 0, none⟩)]] 31 (0, 0)) := by rw [← hw3, ← hS2]; exact alw_0 _ _ _
  have m3 : w3.heap[S2 + 1]? = some (.cells #[.slice none 0 0] 33 (0, 0)) := by rw [← hw3, ← hS2]; exact alw_1 _ _ _
  have B3 : Below w2.heap.size w2 w3 := by rw [← hw3]; exact belA (belA (Below.refl _ _) _) _
  have HB3 : Hid (w3.heap[S2]? = some (.cells #[.func (.func 52) #[] #[.pointer (some ⟨Sp, 0, none⟩), .pointer (some ⟨Sp + 1, 0, none⟩)]] 31 (0, 0)) ∧ w3.heap[S2 + 1]? = some (.cells #[.slice none 0 0] 33 (0, 0)) ∧ Below w1.heap.size w1 w3 ∧ w3.heap[Sp]? = some (.cells #[.int .i64 B1, .slice p n c, .bool false] 24 (0, 0)) ∧ w3.heap[Sp + 1]? = some (.cells #[.int .i64 9223372036854775807] 3 (0, 0))) := ⟨q3, m3, bel0 hB2 B3, keepblk3 B3 hs1, keepblk3 B3 hs2⟩
  have cq2 := cell_ofE (alloc_get w2 (.cells #[.func (.func 52) #[] #[.pointer (some ⟨Sp, 0, none⟩), .pointer (some ⟨Sp + 1, 0, none⟩)]] 31 (0, 0)))
  have k10' := (cells_block (keepblk3 B3 k10)).1
  have hs12 : w1.heap.size ≤ S2 := by rw [← hS2]; exact hB2.size
  clear hs1 hs2 hb2 k10 hB2 q3 m3 B3 c1
  gi_upto_if 37 with fail
  gi_cut [14] from 20 (fun v14 wc => ∃ (F : Int) (pm : Option Addr) (cm : Nat), v14 = .int .i64 F ∧ Hid (FE F (exE splT 2048 [] Ts = some M) ∧ BS Ts M nm up ag B1 S (S + 1) (S + 1 + 1) S2 (S2 + 1) Sp pm cm p n c Z wc ∧ Below w.heap.size w wc))
  case first =>
    have HBS : Hid (∀ (W : World) (pm : Option Addr) (cm : Nat), W.heap[S2 + 1]? = some (.cells #[.slice pm nm cm] 33 (0, 0)) → (∀ (i : Nat) (x : List UInt8), M[i]? = some x → ∃ g o, pm = some ⟨g, o, none⟩ ∧ W.cell? ⟨g, o + i, none⟩ = some (.string ⟨x.toArray⟩)) → (∀ k, k < w3.heap.size → k ≠ S2 + 1 → W.heap[k]? = w3.heap[k]?) → Below w1.heap.size w1 W → BS Ts M nm up ag B1 S (S + 1) (S + 1 + 1) S2 (S2 + 1) Sp pm cm p n c Z W ∧ Below w.heap.size w W) := fun W pm cm h1 h2 h3 h4 => by
      have f0 : Below w0.heap.size w0 W := bel0 HB1.out.2.2.2 h4
      have e1 := lt_of_get3 HB3.out.1
      have e2 : ∀ k o, w3.heap[k]? = some o → k ≠ S2 + 1 → W.heap[k]? = some o := fun k o hk hne => (h3 k (lt_of_get3 hk) hne).trans hk
      have e3 : ∀ k (cs : Array Value) (T : TypeId), w3.heap[k]? = some (.cells cs T (0, 0)) → ¬ T = 33 → k ≠ S2 + 1 := fun k cs T hk hT e => by
        rw [e, HB3.out.2.1] at hk
        injection hk with hk
        injection hk with _ hk _
        exact hT hk.symm
      exact ⟨⟨keepblk3 f0 HW0.out.1, keepblk3 f0 HW0.out.2.1, keepblk3 f0 HW0.out.2.2.1, e2 _ _ HB3.out.1 (by omega), e2 _ _ HB3.out.2.2.2.1 (e3 _ _ _ HB3.out.2.2.2.1 (by decide)), e2 _ _ HB3.out.2.2.2.2 (e3 _ _ _ HB3.out.2.2.2.2 (by decide)), h1, h2, HB1.out.2.2.1.ofW h4 (fun _ h => h.elim), HB1.out.1, HB1.out.2.1⟩, bel0 HW0.out.2.2.2 f0⟩
    by_cases hB : B1 = 0
    · obtain ⟨x1, x2⟩ := hB0 hB
      have HZ : Hid (FE 0 (exE splT 2048 [] Ts = some M) ∧ BS Ts M nm up ag B1 S (S + 1) (S + 1 + 1) S2 (S2 + 1) Sp none 0 p n c Z w3 ∧ Below w.heap.size w w3) := by
        have e0 : nm = 0 := by rw [← HMT.out.2.1, x2]; rfl
        exact ⟨fun _ => x1, HBS.out w3 none 0 (by rw [e0]; exact HB3.out.2.1) (fun i x hx => by rw [x2] at hx; cases hx) (fun _ _ _ => rfl) HB3.out.2.2.1⟩
      have i1 : ¬ B1 > 0 := by omega
      clear x1 x2 hB
      gi_wp2_with fail
      gi_meet
      exact ⟨0, none, 0, rfl, HZ⟩
    · obtain ⟨i1, x1⟩ := hB1 hB
      have HX1 : Hid (E = 0 → exE splT 2048 [] Ts = some M) := x1
      have HE := HEX.out w3 HB3.out.2.2.1
      have i1' : B1 > 0 := i1
      clear x1 hB i1
      gi_wp2_with fail
      refine ⟨trivial, (callsIn_wide.2 HE).mono ?_⟩
      rintro e w4 ⟨pm, cm, rfl, hmc, hb4⟩
      have m4 := keepblk3 hb4 HB3.out.2.1
      have cm4 := (cells_block m4)
      have HZ : Hid (FE E (exE splT 2048 [] Ts = some M) ∧ BS Ts M nm up ag B1 S (S + 1) (S + 1 + 1) S2 (S2 + 1) Sp pm cm p n c Z (w4.setCell ⟨S2 + 1, 0, none⟩ (.slice pm nm cm)) ∧ Below w.heap.size w (w4.setCell ⟨S2 + 1, 0, none⟩ (.slice pm nm cm))) := by
        refine ⟨HX1.out, HBS.out _ pm cm (set_oneE _ m4) (fun i x hx => ?_) (fun k h1 h2 => ?_) ?_⟩
        · obtain ⟨g, o, e, cc⟩ := hmc i x hx
          refine ⟨g, o, e, ?_⟩
          have hg : g ≠ S2 + 1 := fun e => by
            rw [e, (cells_block m4).1] at cc
            cases hj : o + i with
            | zero => rw [hj] at cc; simp at cc
            | succ j => rw [hj] at cc; simp at cc
          exact (World.cell?_of_block (a := ⟨g, o + i, none⟩) (Below.heap_setCell _ _ _ _ hg)).trans cc
        · exact (Below.heap_setCell _ _ _ _ h2).trans (hb4.block k h1)
        · exact (bel0 HB3.out.2.2.1 hb4).setCell (p := ⟨S2 + 1, 0, none⟩) (by show w1.heap.size ≤ S2 + 1; omega) _
      clear HE hmc hb4 m4
      obtain ⟨cm5, cm6⟩ := cm4
      gi_wp2_with fail
      gi_meet
      exact ⟨E, pm, cm, rfl, HZ⟩
  case rest =>
    obtain ⟨F, pm, cm, rfl, HF⟩ := hcut
    rename World => wc
    clear HEX HB3 HB1 HW0 HCU hsn cq2 k10' hB0 hB1
    by_cases hF : F = 0
    · subst hF
      have HM : Hid (exE splT 2048 [] Ts = some M) := HF.out.1 rfl
      have cq := cell_ofE (allocblk3 HF.out.2.1.q (.cells #[.int .i64 0] 3 (0, 0)))
      gi_wp2_with fail
      clear cq
      obtain ⟨bk, hbk⟩ : ∃ s, wc.heap.size = s := ⟨_, rfl⟩
      have HSB : Hid (S + 1 + 1 < bk ∧ S2 + 1 < bk ∧ Sp + 1 < bk ∧ w.heap.size = S ∧ S2 < bk) := by
        have h1 := lt_of_get3 HF.out.2.1.r
        have h2 := lt_of_get3 HF.out.2.1.m
        have h3 := lt_of_get3 HF.out.2.1.s2
        exact ⟨by omega, by omega, by omega, hS, by omega⟩
      clear hs10 hS2 hw3 hs12 hS
      refine range_by1 (id := 0) rfl (by omega) (gf := 52) (lb := #[.pointer (some ⟨Sp, 0, none⟩), .pointer (some ⟨Sp + 1, 0, none⟩)]) rfl trivial (enters_of Tryz.func52 (by kernel_rfl) rfl) (fun _ _ h => wpIn_exit h) ?_
      intro fn hfn
      simp only [World.size_alloc, hbk]
      generalize hR : recOf fn _ _ _ _ _ = R
      have rs : R.state = .ready := by rw [← hR]; rfl
      have rp : R.pending = none := by rw [← hR]; rfl
      have rf : R.fn = fn := by rw [← hR]; rfl
      have rq : R.params = #[46] := by rw [← hR]; rfl
      obtain ⟨X, hX⟩ : ∃ X, ((wc.alloc (.cells #[.int .i64 0] 3 (0, 0))).alloc (.deferred (some []))).alloc (.loop R) = X := ⟨_, rfl⟩
      have x0 : X.heap[bk]? = some (.cells #[.int .i64 ((0 : Nat) : Int)] 3 (0, 0)) := by rw [← hX, ← hbk]; exact allocblk3 (allocblk3 (alloc_get _ _) _) _
      have x1 : X.heap[bk + 1]? = some (.deferred (some [])) := by
        have := alloc_get (wc.alloc (.cells #[.int .i64 0] 3 (0, 0))) (.deferred (some []))
        simp only [World.size_alloc, hbk] at this
        rw [← hX]
        exact allocblk3 this _
      have x2 : X.heap[bk + 1 + 1]? = some (.loop R) := by
        have := alloc_get ((wc.alloc (.cells #[.int .i64 0] 3 (0, 0))).alloc (.deferred (some []))) (.loop R)
        simp only [World.size_alloc, hbk] at this
        rw [← hX]
        exact this
      have xb : Below wc.heap.size wc X := by rw [← hX]; exact belA (belA (belA (Below.refl _ _) _) _) _
      have xs : X.heap.size = bk + 1 + 1 + 1 := by rw [← hX]; simp [hbk]
      rw [hX]
      clear hX
      have q0 : WS wc X (bk + 1 + 1 + 1) bk (bk + 1 + 1) R [] none X := ⟨rfl, x0, x2, ⟨Nat.le_of_eq xs.symm, fun _ _ _ _ => rfl⟩, xb⟩
      have HY : ∀ nb, YLD M (WX bk (bk + 1 + 1)) (WS wc X (bk + 1 + 1 + 1) bk (bk + 1 + 1) R) (JX wc X (bk + 1 + 1 + 1) bk (bk + 1 + 1) 0 nm up) ((bk + 1 + 1)) 6 nb := by
        intro nb o r W x q hol gx hx hpa
        obtain rfl := q.no
        have hMx := pre_at hpa
        obtain ⟨k, hk⟩ : ∃ k, o.length = k := ⟨_, rfl⟩
        rw [hk] at hMx
        have hkn : k < nm := by rw [← HMT.out.2.1]; exact (List.getElem?_eq_some_iff.1 hMx).1
        have HO : Hid (o.length = k ∧ good x = true ∧ M[k]? = some x) := ⟨hk, gx, hMx⟩
        have qbx := q.bx
        rw [hk] at qbx
        obtain ⟨W1, hW1⟩ : ∃ W1, W.alloc (.cells #[.int .i64 (x.length : Int), .int .u64 (FW x 0 : Int), .int .u64 (FW x 1 : Int), .int .u64 (FW x 2 : Int), .int .u64 (FW x 3 : Int), .int .u64 (OW x 0 : Int), .int .u64 (OW x 1 : Int), .int .u64 (OW x 2 : Int), .int .u64 (OW x 3 : Int)] 40 (0, 0)) = W1 := ⟨_, rfl⟩
        have hB1 : Below W.heap.size W W1 := by rw [← hW1]; exact belA (Below.refl _ _) _
        have hg1 : W1.heap[W.heap.size]? = some (.cells #[.int .i64 (x.length : Int), .int .u64 (FW x 0 : Int), .int .u64 (FW x 1 : Int), .int .u64 (FW x 2 : Int), .int .u64 (FW x 3 : Int), .int .u64 (OW x 0 : Int), .int .u64 (OW x 1 : Int), .int .u64 (OW x 2 : Int), .int .u64 (OW x 3 : Int)] 40 (0, 0)) := by rw [← hW1]; exact alloc_get _ _
        have hlW : (bk + 1 + 1) < W.heap.size := lt_of_get3 q.lp
        have mr0 : MR wc X W (bk + 1 + 1 + 1) bk (bk + 1 + 1) k { R with state := .busy } (W1.putObj ((bk + 1 + 1)) (.loop { R with state := .busy })) := ⟨put_otherE (keepblk3 hB1 qbx) (by omega), World.putObj_heap_same (by have := hB1.size; omega), (q.fr.below hB1).put, be_put (bel0 q.be hB1) (by omega), (YK.below hB1).trans (YK.putl _)⟩
        have hgb : (W1.putObj ((bk + 1 + 1)) (.loop { R with state := .busy })).heap[W.heap.size]? = some (.cells #[.int .i64 (x.length : Int), .int .u64 (FW x 0 : Int), .int .u64 (FW x 1 : Int), .int .u64 (FW x 2 : Int), .int .u64 (FW x 3 : Int), .int .u64 (OW x 0 : Int), .int .u64 (OW x 1 : Int), .int .u64 (OW x 2 : Int), .int .u64 (OW x 3 : Int)] 40 (0, 0)) := put_otherE hg1 (by omega)
        have ql := q.lp
        have ql1 := keepblk3 hB1 q.lp
        clear hol gx hx hpa hMx hk qbx q hB1 hg1
        refine (round_byA (F := Fence.wide) (m := 6) (In := fun W' => WS wc X (bk + 1 + 1 + 1) bk (bk + 1 + 1) R (o ++ [x]) none W' ∧ YK (WX bk (bk + 1 + 1)) none W none W') (Out := fun _ W' => JX wc X (bk + 1 + 1 + 1) bk (bk + 1 + 1) 0 nm up W' ∧ YK (WX bk (bk + 1 + 1)) none W none W') (by rw [rf]; exact hfn) ql rs rp (by rw [rq]; rfl) ?aHY W1 ql1 ?hasHY ?hbHY).mono ?_
        case hasHY =>
          intro K hK
          rw [congrArg Loop.assign hR.symm, rq, congrArg Loop.tmps hR.symm]
          simp only [recOf, List.zip_toArray, List.zip_cons_cons, List.zip_nil_right, List.foldl_toArray', List.foldl_cons, List.foldl_nil, List.setIfInBounds_toArray, List.size_toArray, List.length_cons, List.length_nil, List.set_cons_zero, List.set_cons_succ]

          gi_wp2
          exact hK
        case hbHY =>
          obtain ⟨V, hV⟩ : ∃ V, W1.putObj ((bk + 1 + 1)) (.loop { R with state := .busy }) = V := ⟨_, rfl⟩
          rw [hV] at mr0 hgb ⊢
          rw [congrArg Loop.body hR.symm]
          simp only [recOf]
          clear hV hW1 ql ql1
          obtain ⟨g, o2, hpm, hgc⟩ := HF.out.2.1.mc k x HO.out.2.2
          have HK : Hid (∀ U, Below V.heap.size V U → U.cell? ⟨bk, 0, none⟩ = some (.int .i64 (k : Int)) ∧ U.cell? ⟨S2 + 1, 0, none⟩ = some (.slice (some ⟨g, o2, none⟩) nm cm) ∧ (∀ j, U.cell? ⟨W.heap.size, j, none⟩ = (#[.int .i64 (x.length : Int), .int .u64 (FW x 0 : Int), .int .u64 (FW x 1 : Int), .int .u64 (FW x 2 : Int), .int .u64 (FW x 3 : Int), .int .u64 (OW x 0 : Int), .int .u64 (OW x 1 : Int), .int .u64 (OW x 2 : Int), .int .u64 (OW x 3 : Int)] : Array Value)[j]?) ∧ U.cell? ⟨g, o2 + k, none⟩ = some (.string ⟨x.toArray⟩)) := fun U hU => by
            have be := bel0 mr0.be hU
            exact ⟨cell_ofE (keepblk3 hU mr0.bx), (by rw [← hpm]; exact cell_ofE (keepblk3 be HF.out.2.1.m)), (cells_block (keepblk3 hU hgb)).1, (be.cell (World.block_lt_of_cell? wc _ hgc)).trans hgc⟩
          have HT : Hid (∀ W, Calls Tryz.prog 8 #[.agg #[.int .i64 (x.length : Int), .int .u64 (FW x 0 : Int), .int .u64 (FW x 1 : Int), .int .u64 (FW x 2 : Int), .int .u64 (FW x 3 : Int), .int .u64 (OW x 0 : Int), .int .u64 (OW x 1 : Int), .int .u64 (OW x 2 : Int), .int .u64 (OW x 3 : Int)]] W fun e w' => e = .returned (.string ⟨x.toArray⟩) ∧ Below W.heap.size W w') := fun W => text_any x W HO.out.2.1
          have HV : Hid (MR wc X W (bk + 1 + 1 + 1) bk (bk + 1 + 1) k { R with state := .busy } V) := mr0
          have i0 : (0 : Int) ≤ (k : Int) := by omega
          have i1 : (k : Int) < (nm : Int) := by omega
          have i2 : ¬ (k : Int) ≥ (nm : Int) := by omega
          clear hgb mr0 hgc hpm
          gi_wp2_with fail
          refine quiet_in3 (C := fun U => Below V.heap.size V U) (by kernel_rfl) (by kernel_rfl) (by kernel_rfl) (show Below _ _ _ from (Below.refl _ _).drew) ?_
          go_big_quiet_want
          refine ⟨.int .i64 (k : Int), fun W hW => ?_, ?_⟩
          · obtain ⟨s1, s2, s3, s4⟩ := HK.out W hW
            go_simp
          go_big_quiet_on
          simp only [Act.put, List.setIfInBounds_toArray, List.set_cons_zero, List.set_cons_succ]
          go_big_quiet_want
          refine ⟨.slice (some ⟨g, o2, none⟩) nm cm, fun W hW => ?_, ?_⟩
          · obtain ⟨s1, s2, s3, s4⟩ := HK.out W hW
            go_simp
          go_big_quiet_on
          simp only [Act.put, List.setIfInBounds_toArray, List.set_cons_zero, List.set_cons_succ]
          go_big_quiet_want
          refine ⟨.int .i64 (nm : Int), fun W hW => ?_, ?_⟩
          · go_simp
          go_big_quiet_on
          simp only [Act.put, List.setIfInBounds_toArray, List.set_cons_zero, List.set_cons_succ]
          go_big_quiet_want
          refine ⟨.bool false, fun W hW => ?_, ?_⟩
          · go_simp
          go_big_quiet_on
          simp only [Act.put, List.setIfInBounds_toArray, List.set_cons_zero, List.set_cons_succ]
          go_big_quiet_want
          go_big_quiet_op
          go_big_quiet_on
          go_big_quiet_want
          refine ⟨.agg #[.int .i64 (x.length : Int), .int .u64 (FW x 0 : Int), .int .u64 (FW x 1 : Int), .int .u64 (FW x 2 : Int), .int .u64 (FW x 3 : Int), .int .u64 (OW x 0 : Int), .int .u64 (OW x 1 : Int), .int .u64 (OW x 2 : Int), .int .u64 (OW x 3 : Int)], fun W hW => ?_, ?_⟩
          · obtain ⟨s1, s2, s3, s4⟩ := HK.out W hW
            go_simp
          go_big_quiet_on
          simp only [Act.put, List.setIfInBounds_toArray, List.set_cons_zero, List.set_cons_succ]
          go_big_quiet_want
          refine ⟨.string ⟨x.toArray⟩, fun W hW => ?_, ?_⟩
          · go_simp
            refine (HT.out W).mono ?_
            rintro e w7 ⟨rfl, hb⟩
            exact ⟨rfl, bel0 hW hb⟩
          go_big_quiet_on
          simp only [Act.put, List.setIfInBounds_toArray, List.set_cons_zero, List.set_cons_succ]
          go_big_quiet_want
          refine ⟨.slice (some ⟨g, o2, none⟩) nm cm, fun W hW => ?_, ?_⟩
          · obtain ⟨s1, s2, s3, s4⟩ := HK.out W hW
            go_simp
          go_big_quiet_on
          simp only [Act.put, List.setIfInBounds_toArray, List.set_cons_zero, List.set_cons_succ]
          go_big_quiet_want
          refine ⟨.int .i64 (k : Int), fun W hW => ?_, ?_⟩
          · obtain ⟨s1, s2, s3, s4⟩ := HK.out W hW
            go_simp
          go_big_quiet_on
          simp only [Act.put, List.setIfInBounds_toArray, List.set_cons_zero, List.set_cons_succ]
          go_big_quiet_want
          refine ⟨.pointer (some ⟨g, o2 + k, none⟩), fun W hW => ?_, ?_⟩
          · go_simp
          go_big_quiet_on
          simp only [Act.put, List.setIfInBounds_toArray, List.set_cons_zero, List.set_cons_succ]
          go_big_quiet_want
          refine ⟨.string ⟨x.toArray⟩, fun W hW => ?_, ?_⟩
          · obtain ⟨s1, s2, s3, s4⟩ := HK.out W hW
            go_simp
          go_big_quiet_on
          simp only [Act.put, List.setIfInBounds_toArray, List.set_cons_zero, List.set_cons_succ]
          go_big_quiet_want
          refine ⟨.bool false, fun W hW => ?_, ?_⟩
          · go_simp
          go_big_quiet_on
          simp only [Act.put, List.setIfInBounds_toArray, List.set_cons_zero, List.set_cons_succ]
          go_big_quiet_want
          refine ⟨.bool false, fun W hW => ?_, ?_⟩
          · go_simp
          go_big_quiet_on
          simp only [Act.put, List.setIfInBounds_toArray, List.set_cons_zero, List.set_cons_succ]
          refine wpQuiet_nil ?_
          intro W5 hW5
          have HM5 : Hid (MR wc X W (bk + 1 + 1 + 1) bk (bk + 1 + 1) k { R with state := .busy } W5) := HV.out.below hW5
          clear hW5 HK HT HV i2
          have HC16 : Hid (W5.cell? ⟨bk, 0, none⟩ = some (.int .i64 (k : Int)) ∧ W5.cell? ⟨S, 0, none⟩ = some (.int .i64 up)) := ⟨cell_ofE HM5.out.bx, cell_ofE (keepblk3 HM5.out.be HF.out.2.1.u)⟩
          gi_upto_region 16 with fail
          gi_cut [66] from 131 (fun v66 wd => ∃ tb : Bool, v66 = .bool tb ∧ Hid (MR wc X W (bk + 1 + 1 + 1) bk (bk + 1 + 1) k { R with state := .busy } wd))
          case first =>
            obtain ⟨c1, c2⟩ := HC16.out
            obtain ⟨tb, htb⟩ : ∃ tb, ((k : Int) == up) = tb := ⟨_, rfl⟩
            by_cases h3 : (k : Int) < 3
            · gi_wp2_with fail
              gi_meet
              exact ⟨true, rfl, HM5⟩
            · gi_wp2_with fail
              gi_meet
              exact ⟨tb, rfl, HM5⟩
          case rest =>
            obtain ⟨tb, rfl, HM6⟩ := hcut
            rename World => wd
            clear HM5 HC16
            gi_upto_if 66 with fail
            gi_cut [] from 131 (fun we => Hid (MR wc X W (bk + 1 + 1 + 1) bk (bk + 1 + 1) k { R with state := .busy } we))
            case first =>
              cases tb
              · gi_wp2_with fail
                gi_meet
                exact HM6
              · have hHid : True := trivial
                have cq2 := cell_ofE (allocblk3 (keepblk3 HM6.out.be HF.out.2.1.q) (.cells #[.int .i64 0] 3 (0, 0)))
                gi_wp2_with fail
                clear cq2
                obtain ⟨bj, hbj⟩ : ∃ s, wd.heap.size = s := ⟨_, rfl⟩
                refine range_in1 (F := Fence.wide.inRound (bk + 1 + 1)) (n := 6) (id := 2) (l0 := bk + 1 + 1) rfl (allocblk3 HM6.out.lp _) (by omega) (gf := 52) (lb := #[.pointer (some ⟨Sp, 0, none⟩), .pointer (some ⟨Sp + 1, 0, none⟩)]) rfl trivial (enters_of Tryz.func52 (by kernel_rfl) rfl) (fun _ _ h => wpIn_exit h) ?_
                intro fn2 hfn2
                simp only [World.size_alloc, hbj]
                generalize hR2 : recOf fn2 _ _ _ _ _ = R2
                have rs2 : R2.state = .ready := by rw [← hR2]; rfl
                have rp2 : R2.pending = none := by rw [← hR2]; rfl
                have rf2 : R2.fn = fn2 := by rw [← hR2]; rfl
                have rq2 : R2.params = #[68] := by rw [← hR2]; rfl
                obtain ⟨X2, hX2⟩ : ∃ X2, (wd.alloc (.cells #[.int .i64 0] 3 (0, 0))).alloc (.loop R2) = X2 := ⟨_, rfl⟩
                have y0 : X2.heap[bj]? = some (.cells #[.int .i64 ((0 : Nat) : Int)] 3 (0, 0)) := by rw [← hX2, ← hbj]; exact alw_0 _ _ _
                have y2 : X2.heap[bj + 1]? = some (.loop R2) := by rw [← hX2, ← hbj]; exact alw_1 _ _ _
                have yb : Below wd.heap.size wd X2 := by rw [← hX2]; exact belA (belA (Below.refl _ _) _) _
                have ys : X2.heap.size = bj + 1 + 1 := by rw [← hX2]; simp [hbj]
                rw [hX2]
                clear hX2
                have hwd : bk + 1 + 1 < bj := by rw [← hbj]; exact lt_of_get3 HM6.out.lp
                have p0 : WS wc X2 (bj + 1 + 1) bj (bj + 1) R2 [] none X2 := ⟨rfl, y0, y2, ⟨Nat.le_of_eq ys.symm, fun _ _ _ _ => rfl⟩, bel0 HM6.out.be yb⟩
                have HY2 : ∀ nb, YLD M (WX bj (bj + 1)) (WS wc X2 (bj + 1 + 1) bj (bj + 1) R2) (JX wc X2 (bj + 1 + 1) bj (bj + 1) 2 nm ag) ((bj + 1)) 4 nb := by
                  intro nb o r W x q hol gx hx hpa
                  obtain rfl := q.no
                  have hMx := pre_at hpa
                  obtain ⟨k, hk⟩ : ∃ k, o.length = k := ⟨_, rfl⟩
                  rw [hk] at hMx
                  have hkn : k < nm := by rw [← HMT.out.2.1]; exact (List.getElem?_eq_some_iff.1 hMx).1
                  have HO : Hid (o.length = k ∧ good x = true ∧ M[k]? = some x) := ⟨hk, gx, hMx⟩
                  have qbx := q.bx
                  rw [hk] at qbx
                  obtain ⟨W1, hW1⟩ : ∃ W1, W.alloc (.cells #[.int .i64 (x.length : Int), .int .u64 (FW x 0 : Int), .int .u64 (FW x 1 : Int), .int .u64 (FW x 2 : Int), .int .u64 (FW x 3 : Int), .int .u64 (OW x 0 : Int), .int .u64 (OW x 1 : Int), .int .u64 (OW x 2 : Int), .int .u64 (OW x 3 : Int)] 40 (0, 0)) = W1 := ⟨_, rfl⟩
                  have hB1 : Below W.heap.size W W1 := by rw [← hW1]; exact belA (Below.refl _ _) _
                  have hg1 : W1.heap[W.heap.size]? = some (.cells #[.int .i64 (x.length : Int), .int .u64 (FW x 0 : Int), .int .u64 (FW x 1 : Int), .int .u64 (FW x 2 : Int), .int .u64 (FW x 3 : Int), .int .u64 (OW x 0 : Int), .int .u64 (OW x 1 : Int), .int .u64 (OW x 2 : Int), .int .u64 (OW x 3 : Int)] 40 (0, 0)) := by rw [← hW1]; exact alloc_get _ _
                  have hlW : (bj + 1) < W.heap.size := lt_of_get3 q.lp
                  have mr0 : MR wc X2 W (bj + 1 + 1) bj (bj + 1) k { R2 with state := .busy } (W1.putObj ((bj + 1)) (.loop { R2 with state := .busy })) := ⟨put_otherE (keepblk3 hB1 qbx) (by omega), World.putObj_heap_same (by have := hB1.size; omega), (q.fr.below hB1).put, be_put (bel0 q.be hB1) (by omega), (YK.below hB1).trans (YK.putl _)⟩
                  have hgb : (W1.putObj ((bj + 1)) (.loop { R2 with state := .busy })).heap[W.heap.size]? = some (.cells #[.int .i64 (x.length : Int), .int .u64 (FW x 0 : Int), .int .u64 (FW x 1 : Int), .int .u64 (FW x 2 : Int), .int .u64 (FW x 3 : Int), .int .u64 (OW x 0 : Int), .int .u64 (OW x 1 : Int), .int .u64 (OW x 2 : Int), .int .u64 (OW x 3 : Int)] 40 (0, 0)) := put_otherE hg1 (by omega)
                  have ql := q.lp
                  have ql1 := keepblk3 hB1 q.lp
                  clear hol gx hx hpa hMx hk qbx q hB1 hg1
                  refine (round_byA (F := Fence.wide) (m := 4) (In := fun W' => WS wc X2 (bj + 1 + 1) bj (bj + 1) R2 (o ++ [x]) none W' ∧ YK (WX bj (bj + 1)) none W none W') (Out := fun _ W' => JX wc X2 (bj + 1 + 1) bj (bj + 1) 2 nm ag W' ∧ YK (WX bj (bj + 1)) none W none W') (by rw [rf2]; exact hfn2) ql rs2 rp2 (by rw [rq2]; rfl) ?aHY2 W1 ql1 ?hasHY2 ?hbHY2).mono ?_
                  case hasHY2 =>
                    intro K hK
                    rw [congrArg Loop.assign hR2.symm, rq2, congrArg Loop.tmps hR2.symm]
                    simp only [recOf, List.zip_toArray, List.zip_cons_cons, List.zip_nil_right, List.foldl_toArray', List.foldl_cons, List.foldl_nil, List.setIfInBounds_toArray, List.size_toArray, List.length_cons, List.length_nil, List.set_cons_zero, List.set_cons_succ]

                    gi_wp2
                    exact hK
                  case hbHY2 =>
                    obtain ⟨V, hV⟩ : ∃ V, W1.putObj ((bj + 1)) (.loop { R2 with state := .busy }) = V := ⟨_, rfl⟩
                    rw [hV] at mr0 hgb ⊢
                    rw [congrArg Loop.body hR2.symm]
                    simp only [recOf]
                    clear hV hW1 ql ql1
                    obtain ⟨g, o2, hpm, hgc⟩ := HF.out.2.1.mc k x HO.out.2.2
                    have HK : Hid (∀ U, Below V.heap.size V U → U.cell? ⟨bj, 0, none⟩ = some (.int .i64 (k : Int)) ∧ U.cell? ⟨S2 + 1, 0, none⟩ = some (.slice (some ⟨g, o2, none⟩) nm cm) ∧ (∀ j, U.cell? ⟨W.heap.size, j, none⟩ = (#[.int .i64 (x.length : Int), .int .u64 (FW x 0 : Int), .int .u64 (FW x 1 : Int), .int .u64 (FW x 2 : Int), .int .u64 (FW x 3 : Int), .int .u64 (OW x 0 : Int), .int .u64 (OW x 1 : Int), .int .u64 (OW x 2 : Int), .int .u64 (OW x 3 : Int)] : Array Value)[j]?) ∧ U.cell? ⟨g, o2 + k, none⟩ = some (.string ⟨x.toArray⟩)) := fun U hU => by
                      have be := bel0 mr0.be hU
                      exact ⟨cell_ofE (keepblk3 hU mr0.bx), (by rw [← hpm]; exact cell_ofE (keepblk3 be HF.out.2.1.m)), (cells_block (keepblk3 hU hgb)).1, (be.cell (World.block_lt_of_cell? wc _ hgc)).trans hgc⟩
                    have HT : Hid (∀ W, Calls Tryz.prog 8 #[.agg #[.int .i64 (x.length : Int), .int .u64 (FW x 0 : Int), .int .u64 (FW x 1 : Int), .int .u64 (FW x 2 : Int), .int .u64 (FW x 3 : Int), .int .u64 (OW x 0 : Int), .int .u64 (OW x 1 : Int), .int .u64 (OW x 2 : Int), .int .u64 (OW x 3 : Int)]] W fun e w' => e = .returned (.string ⟨x.toArray⟩) ∧ Below W.heap.size W w') := fun W => text_any x W HO.out.2.1
                    have HV : Hid (MR wc X2 W (bj + 1 + 1) bj (bj + 1) k { R2 with state := .busy } V) := mr0
                    have i0 : (0 : Int) ≤ (k : Int) := by omega
                    have i1 : (k : Int) < (nm : Int) := by omega
                    have i2 : ¬ (k : Int) ≥ (nm : Int) := by omega
                    clear hgb mr0 hgc hpm
                    gi_wp2_with fail
                    refine quiet_in3 (C := fun U => Below V.heap.size V U) (by kernel_rfl) (by kernel_rfl) (by kernel_rfl) (show Below _ _ _ from (Below.refl _ _).drew) ?_
                    go_big_quiet_want
                    refine ⟨.int .i64 (k : Int), fun W hW => ?_, ?_⟩
                    · obtain ⟨s1, s2, s3, s4⟩ := HK.out W hW
                      go_simp
                    go_big_quiet_on
                    simp only [Act.put, List.setIfInBounds_toArray, List.set_cons_zero, List.set_cons_succ]
                    go_big_quiet_want
                    refine ⟨.slice (some ⟨g, o2, none⟩) nm cm, fun W hW => ?_, ?_⟩
                    · obtain ⟨s1, s2, s3, s4⟩ := HK.out W hW
                      go_simp
                    go_big_quiet_on
                    simp only [Act.put, List.setIfInBounds_toArray, List.set_cons_zero, List.set_cons_succ]
                    go_big_quiet_want
                    refine ⟨.int .i64 (nm : Int), fun W hW => ?_, ?_⟩
                    · go_simp
                    go_big_quiet_on
                    simp only [Act.put, List.setIfInBounds_toArray, List.set_cons_zero, List.set_cons_succ]
                    go_big_quiet_want
                    refine ⟨.bool false, fun W hW => ?_, ?_⟩
                    · go_simp
                    go_big_quiet_on
                    simp only [Act.put, List.setIfInBounds_toArray, List.set_cons_zero, List.set_cons_succ]
                    go_big_quiet_want
                    go_big_quiet_op
                    go_big_quiet_on
                    go_big_quiet_want
                    refine ⟨.agg #[.int .i64 (x.length : Int), .int .u64 (FW x 0 : Int), .int .u64 (FW x 1 : Int), .int .u64 (FW x 2 : Int), .int .u64 (FW x 3 : Int), .int .u64 (OW x 0 : Int), .int .u64 (OW x 1 : Int), .int .u64 (OW x 2 : Int), .int .u64 (OW x 3 : Int)], fun W hW => ?_, ?_⟩
                    · obtain ⟨s1, s2, s3, s4⟩ := HK.out W hW
                      go_simp
                    go_big_quiet_on
                    simp only [Act.put, List.setIfInBounds_toArray, List.set_cons_zero, List.set_cons_succ]
                    go_big_quiet_want
                    refine ⟨.string ⟨x.toArray⟩, fun W hW => ?_, ?_⟩
                    · go_simp
                      refine (HT.out W).mono ?_
                      rintro e w7 ⟨rfl, hb⟩
                      exact ⟨rfl, bel0 hW hb⟩
                    go_big_quiet_on
                    simp only [Act.put, List.setIfInBounds_toArray, List.set_cons_zero, List.set_cons_succ]
                    go_big_quiet_want
                    refine ⟨.slice (some ⟨g, o2, none⟩) nm cm, fun W hW => ?_, ?_⟩
                    · obtain ⟨s1, s2, s3, s4⟩ := HK.out W hW
                      go_simp
                    go_big_quiet_on
                    simp only [Act.put, List.setIfInBounds_toArray, List.set_cons_zero, List.set_cons_succ]
                    go_big_quiet_want
                    refine ⟨.int .i64 (k : Int), fun W hW => ?_, ?_⟩
                    · obtain ⟨s1, s2, s3, s4⟩ := HK.out W hW
                      go_simp
                    go_big_quiet_on
                    simp only [Act.put, List.setIfInBounds_toArray, List.set_cons_zero, List.set_cons_succ]
                    go_big_quiet_want
                    refine ⟨.pointer (some ⟨g, o2 + k, none⟩), fun W hW => ?_, ?_⟩
                    · go_simp
                    go_big_quiet_on
                    simp only [Act.put, List.setIfInBounds_toArray, List.set_cons_zero, List.set_cons_succ]
                    go_big_quiet_want
                    refine ⟨.string ⟨x.toArray⟩, fun W hW => ?_, ?_⟩
                    · obtain ⟨s1, s2, s3, s4⟩ := HK.out W hW
                      go_simp
                    go_big_quiet_on
                    simp only [Act.put, List.setIfInBounds_toArray, List.set_cons_zero, List.set_cons_succ]
                    go_big_quiet_want
                    refine ⟨.bool false, fun W hW => ?_, ?_⟩
                    · go_simp
                    go_big_quiet_on
                    simp only [Act.put, List.setIfInBounds_toArray, List.set_cons_zero, List.set_cons_succ]
                    go_big_quiet_want
                    refine ⟨.bool false, fun W hW => ?_, ?_⟩
                    · go_simp
                    go_big_quiet_on
                    simp only [Act.put, List.setIfInBounds_toArray, List.set_cons_zero, List.set_cons_succ]
                    refine wpQuiet_nil ?_
                    intro W5 hW5
                    have HM5 : Hid (MR wc X2 W (bj + 1 + 1) bj (bj + 1) k { R2 with state := .busy } W5) := HV.out.below hW5
                    clear hW5 HK HT HV i2
                    obtain ⟨k1, hk1⟩ : ∃ k1 : Nat, k + 1 = k1 := ⟨_, rfl⟩
                    have Hk1 : Hid (k + 1 = k1) := hk1
                    have i3 : (k : Int) + 1 = (k1 : Int) := by omega
                    have i4 : IntKind.i64.wrap (k1 : Int) = (k1 : Int) := by rw [IntKind.wrap_i64]; omega
                    have i5 : k1 ≤ nm := by omega
                    have i6 : wc.heap.size ≤ bj := by omega
                    have i7 : wc.heap.size ≤ (bj + 1) := by omega
                    clear hk1
                    obtain ⟨c7, f7⟩ := cells_block HM5.out.bx
                    obtain ⟨W8, hW8⟩ : ∃ W8, W5.setCell ⟨bj, 0, none⟩ (.int .i64 (k1 : Int)) = W8 := ⟨_, rfl⟩
                    have HM8 : Hid (MR wc X2 W (bj + 1 + 1) bj (bj + 1) k1 { R2 with state := .busy } W8) := by rw [← hW8]; exact HM5.out.set (by omega) i6 k1
                    have c8 := cell_ofE HM8.out.bx
                    have u8 := cell_ofE (keepblk3 HM8.out.be HF.out.2.1.a)
                    by_cases h9 : (k1 : Int) ≥ ag
                    · gi_wp2_with fail
                      exact ⟨HM8.out.lp, HM8.out.off (by omega) i7 h9 i5⟩
                    · gi_wp2_with fail
                      exact ⟨HM8.out.lp, HM8.out.on (by omega) i7 (by rw [List.length_append, HO.out.1]; exact Hk1.out)⟩
                  rintro e W' (⟨he, h1, h2⟩ | ⟨he, c, h⟩)
                  · exact ⟨none, h2, .inl ⟨he, h1⟩⟩
                  · exact ⟨none, h.2, .inr ⟨he, h.1⟩⟩
                refine (CallsIn.inRound _ (callsIn_wide.2 (goes_K HIN.out HF.out.2.1 HMT.out.1 HMT.out.2.2 HM.out (by omega) (by omega) (by omega) (by omega) (by omega) HY2 p0))).mono ?_
                rintro e Wi ⟨hv, hq⟩
                refine ⟨hv, ?_⟩
                have COM : ∃ (r : Loop) (kf : Nat), Wi.heap[(bj + 1)]? = some (.loop r) ∧ r.state ≠ .busy ∧ (r.pending = none ∨ r.pending = some (.exit 2)) ∧ Hid (Wi.heap[bj]? = some (.cells #[.int .i64 (kf : Int)] 3 (0, 0)) ∧ (kf = nm ∨ ag ≤ (kf : Int)) ∧ kf ≤ nm ∧ FRM (bj + 1 + 1) bj (bj + 1) X2 Wi ∧ Below wc.heap.size wc Wi) := by
                  rcases hq with hq | ⟨r, kf, h1, h2, h3, h4, h5, h6, h7, h8⟩
                  · have hbx := hq.bx
                    rw [HMT.out.2.1] at hbx
                    exact ⟨R2, nm, hq.lp, (fun e => by rw [rs2] at e; cases e), .inl rp2, hbx, .inl rfl, Nat.le_refl _, hq.fr, hq.be⟩
                  · exact ⟨r, kf, h1, (fun e => by rw [h2] at e; cases e), .inr h3, h4, .inr h5, h6, h7, h8⟩
                obtain ⟨r2, jf, hr1, hr2, hr3, HC⟩ := COM
                refine ⟨r2, hr1, hr2, hr3, ?_⟩
                have vj := put_otherE (o' := .loop { r2 with state := .exhausted }) HC.out.1 (show bj ≠ bj + 1 by omega)
                have vb := be_put (l := bj + 1) (o := .loop { r2 with state := .exhausted }) HC.out.2.2.2.2 (by omega)
                have vm : MR wc X W (bk + 1 + 1 + 1) bk (bk + 1 + 1) k { R with state := .busy } (Wi.putObj (bj + 1) (.loop { r2 with state := .exhausted })) := HM6.out.keep (by have h1 := HC.out.2.2.2.1.1; simp; omega) (fun j hj => (World.putObj_heap_other (by omega)).trans ((HC.out.2.2.2.1.2 j (by omega) (by omega) (by omega)).trans (yb.block j hj))) vb
                obtain ⟨Vi, hVi⟩ : ∃ Vi, Wi.putObj (bj + 1) (.loop { r2 with state := .exhausted }) = Vi := ⟨_, rfl⟩
                rw [hVi] at vj vb vm ⊢
                have HVM : Hid (MR wc X W (bk + 1 + 1 + 1) bk (bk + 1 + 1) k { R with state := .busy } Vi) := vm
                have d1 := cell_ofE vj
                have d2 := cell_ofE (keepblk3 vb HF.out.2.1.a)
                have d3 := cell_ofE (keepblk3 vb HF.out.2.1.m)
                have HCJ : Hid (jf = nm ∨ ag ≤ (jf : Int)) := HC.out.2.1
                clear hVi vj vb vm hr1 hr2 hr3 HC HY2 p0 y0 y2 yb ys hq hR2 rs2 rp2 rf2 rq2
                by_cases h5 : (jf : Int) < ag
                · have h6 : ¬ (jf : Int) < (nm : Int) := by rcases HCJ.out with h | h <;> omega
                  gi_wp2_with fail
                  gi_meet
                  exact HVM
                · gi_wp2_with fail
                  gi_meet
                  exact HVM
            case rest =>
              rename World => we
              have HM7 : Hid (MR wc X W (bk + 1 + 1 + 1) bk (bk + 1 + 1) k { R with state := .busy } we) := hcut
              clear HM6 hcut
              obtain ⟨k1, hk1⟩ : ∃ k1 : Nat, k + 1 = k1 := ⟨_, rfl⟩
              have Hk1 : Hid (k + 1 = k1) := hk1
              have i3 : (k : Int) + 1 = (k1 : Int) := by omega
              have i4 : IntKind.i64.wrap (k1 : Int) = (k1 : Int) := by rw [IntKind.wrap_i64]; omega
              have i5 : k1 ≤ nm := by omega
              have i6 : wc.heap.size ≤ bk := by omega
              have i7 : wc.heap.size ≤ (bk + 1 + 1) := by omega
              clear hk1
              obtain ⟨c7, f7⟩ := cells_block HM7.out.bx
              obtain ⟨W8, hW8⟩ : ∃ W8, we.setCell ⟨bk, 0, none⟩ (.int .i64 (k1 : Int)) = W8 := ⟨_, rfl⟩
              have HM8 : Hid (MR wc X W (bk + 1 + 1 + 1) bk (bk + 1 + 1) k1 { R with state := .busy } W8) := by rw [← hW8]; exact HM7.out.set (by omega) i6 k1
              have c8 := cell_ofE HM8.out.bx
              have u8 := cell_ofE (keepblk3 HM8.out.be HF.out.2.1.u)
              by_cases h9 : (k1 : Int) ≥ up
              · gi_wp2_with fail
                exact ⟨HM8.out.lp, HM8.out.off (by omega) i7 h9 i5⟩
              · gi_wp2_with fail
                exact ⟨HM8.out.lp, HM8.out.on (by omega) i7 (by rw [List.length_append, HO.out.1]; exact Hk1.out)⟩
        rintro e W' (⟨he, h1, h2⟩ | ⟨he, c, h⟩)
        · exact ⟨none, h2, .inl ⟨he, h1⟩⟩
        · exact ⟨none, h.2, .inr ⟨he, h.1⟩⟩
      refine (callsIn_wide.2 (goes_K HIN.out HF.out.2.1 HMT.out.1 HMT.out.2.2 HM.out (by omega) (by omega) (by omega) (by omega) (by omega) HY q0)).mono ?_
      rintro e Wa ⟨hv, hq⟩
      refine ⟨hv, ?_⟩
      have COM : ∃ (r : Loop) (kf : Nat), Wa.heap[(bk + 1 + 1)]? = some (.loop r) ∧ r.state ≠ .busy ∧ (r.pending = none ∨ r.pending = some (.exit 0)) ∧ Hid (Wa.heap[bk]? = some (.cells #[.int .i64 (kf : Int)] 3 (0, 0)) ∧ (kf = nm ∨ up ≤ (kf : Int)) ∧ kf ≤ nm ∧ FRM (bk + 1 + 1 + 1) bk (bk + 1 + 1) X Wa ∧ Below wc.heap.size wc Wa) := by
        rcases hq with hq | ⟨r, kf, h1, h2, h3, h4, h5, h6, h7, h8⟩
        · have hbx := hq.bx
          rw [HMT.out.2.1] at hbx
          exact ⟨R, nm, hq.lp, (fun e => by rw [rs] at e; cases e), .inl rp, hbx, .inl rfl, Nat.le_refl _, hq.fr, hq.be⟩
        · exact ⟨r, kf, h1, (fun e => by rw [h2] at e; cases e), .inr h3, h4, .inr h5, h6, h7, h8⟩
      obtain ⟨ra, kf, hr1, hr2, hr3, HC⟩ := COM
      refine ⟨ra, hr1, hr2, hr3, ?_⟩
      have vk := put_otherE (o' := .loop { ra with state := .exhausted }) HC.out.1 (show bk ≠ bk + 1 + 1 by omega)
      have vb := be_put (l := bk + 1 + 1) (o := .loop { ra with state := .exhausted }) HC.out.2.2.2.2 (by omega)
      have vd : (Wa.putObj (bk + 1 + 1) (.loop { ra with state := .exhausted })).heap[bk + 1]? = some (.deferred (some [])) := put_otherE (HC.out.2.2.2.1.get (by omega) (by omega) (by omega) x1) (by omega)
      obtain ⟨Va, hVa⟩ : ∃ Va, Wa.putObj (bk + 1 + 1) (.loop { ra with state := .exhausted }) = Va := ⟨_, rfl⟩
      rw [hVa] at vk vb vd ⊢
      have HCK : Hid (kf = nm ∨ up ≤ (kf : Int)) := HC.out.2.1
      have d1 := cells_block vk
      have d2 := cell_ofE (keepblk3 vb HF.out.2.1.u)
      have d3 := cell_ofE (keepblk3 vb HF.out.2.1.m)
      obtain ⟨d4, d5⟩ := d1
      have HVA : Hid (Va.heap[bk]? = some (.cells #[.int .i64 (kf : Int)] 3 (0, 0)) ∧ Va.heap[bk + 1]? = some (.deferred (some [])) ∧ Below wc.heap.size wc Va) := ⟨vk, vd, vb⟩
      clear hVa vk vb vd hr1 hr2 hr3 HC HY q0 x0 x1 x2 xb xs hq hR rs rp rf rq
      gi_upto_region 28 with fail
      gi_cut [109] from 131 (fun v109 wz => v109 = .bool false ∧ Hid (wz.heap[bk]? = some (.cells #[.int .i64 (kf : Int)] 3 (0, 0)) ∧ wz.heap[bk + 1]? = some (.deferred (some [])) ∧ Below wc.heap.size wc wz))
      case first =>
        by_cases h5 : (kf : Int) < up
        · have h6 : ¬ (kf : Int) < (nm : Int) := by rcases HCK.out with h | h <;> omega
          gi_wp2_with fail
          gi_meet
          exact ⟨rfl, HVA⟩
        · gi_wp2_with fail
          gi_meet
          exact ⟨rfl, HVA⟩
      case rest =>
        obtain ⟨rfl, HVZ⟩ := hcut
        rename World => Vz
        clear HVA d2 d3 d4 d5
        obtain ⟨d4, d5⟩ := cells_block HVZ.out.1
        obtain ⟨Vb, hVb⟩ : ∃ Vb, Vz.setCell ⟨bk, 0, none⟩ (.int .i64 0) = Vb := ⟨_, rfl⟩
        have HVB : Hid (Vb.heap[bk]? = some (.cells #[.int .i64 ((0 : Nat) : Int)] 3 (0, 0)) ∧ Vb.heap[bk + 1]? = some (.deferred (some [])) ∧ Below wc.heap.size wc Vb) := by
          rw [← hVb]
          exact ⟨set_oneE _ HVZ.out.1, (Below.heap_setCell _ _ _ _ (by show bk + 1 ≠ bk; omega)).trans HVZ.out.2.1, HVZ.out.2.2.setCell (p := ⟨bk, 0, none⟩) (by show wc.heap.size ≤ bk; omega) _⟩
        have cqb := cell_ofE (keepblk3 HVB.out.2.2 HF.out.2.1.q)
        gi_wp2_with fail
        clear cqb d4 d5 hVb HVZ
        obtain ⟨z, hz⟩ : ∃ s, Vb.heap.size = s := ⟨_, rfl⟩
        refine range_by1 (id := 4) rfl (by omega) (gf := 52) (lb := #[.pointer (some ⟨Sp, 0, none⟩), .pointer (some ⟨Sp + 1, 0, none⟩)]) rfl trivial (enters_of Tryz.func52 (by kernel_rfl) rfl) (fun _ _ h => wpIn_exit h) ?_
        intro fn3 hfn3
        simp only [hz]
        generalize hR3 : recOf fn3 _ _ _ _ _ = R3
        have rs3 : R3.state = .ready := by rw [← hR3]; rfl
        have rp3 : R3.pending = none := by rw [← hR3]; rfl
        have rf3 : R3.fn = fn3 := by rw [← hR3]; rfl
        have rq3 : R3.params = #[111] := by rw [← hR3]; rfl
        obtain ⟨X3, hX3⟩ : ∃ X3, (Vb.alloc (.deferred (some []))).alloc (.loop R3) = X3 := ⟨_, rfl⟩
        have x1 : X3.heap[z]? = some (.deferred (some [])) := by rw [← hX3, ← hz]; exact alw_0 _ _ _
        have x2 : X3.heap[z + 1]? = some (.loop R3) := by rw [← hX3, ← hz]; exact alw_1 _ _ _
        have xb : Below Vb.heap.size Vb X3 := by rw [← hX3]; exact belA (belA (Below.refl _ _) _) _
        have xs : X3.heap.size = z + 1 + 1 := by rw [← hX3]; simp [hz]
        rw [hX3]
        clear hX3
        have hzb : bk + 1 < z := by rw [← hz]; exact lt_of_get3 HVB.out.2.1
        have x0 := keepblk3 xb HVB.out.2.1
        have q0 : WS wc X3 (z + 1 + 1) bk (z + 1) R3 [] none X3 := ⟨rfl, keepblk3 xb HVB.out.1, x2, ⟨Nat.le_of_eq xs.symm, fun _ _ _ _ => rfl⟩, bel0 HVB.out.2.2 xb⟩
        have HY3 : ∀ nb, YLD M (WX bk (z + 1)) (WS wc X3 (z + 1 + 1) bk (z + 1) R3) ((fun _ => False)) ((z + 1)) 6 nb := by
          intro nb o r W x q hol gx hx hpa
          obtain rfl := q.no
          have hMx := pre_at hpa
          obtain ⟨k, hk⟩ : ∃ k, o.length = k := ⟨_, rfl⟩
          rw [hk] at hMx
          have hkn : k < nm := by rw [← HMT.out.2.1]; exact (List.getElem?_eq_some_iff.1 hMx).1
          have HO : Hid (o.length = k ∧ good x = true ∧ M[k]? = some x) := ⟨hk, gx, hMx⟩
          have qbx := q.bx
          rw [hk] at qbx
          obtain ⟨W1, hW1⟩ : ∃ W1, W.alloc (.cells #[.int .i64 (x.length : Int), .int .u64 (FW x 0 : Int), .int .u64 (FW x 1 : Int), .int .u64 (FW x 2 : Int), .int .u64 (FW x 3 : Int), .int .u64 (OW x 0 : Int), .int .u64 (OW x 1 : Int), .int .u64 (OW x 2 : Int), .int .u64 (OW x 3 : Int)] 40 (0, 0)) = W1 := ⟨_, rfl⟩
          have hB1 : Below W.heap.size W W1 := by rw [← hW1]; exact belA (Below.refl _ _) _
          have hg1 : W1.heap[W.heap.size]? = some (.cells #[.int .i64 (x.length : Int), .int .u64 (FW x 0 : Int), .int .u64 (FW x 1 : Int), .int .u64 (FW x 2 : Int), .int .u64 (FW x 3 : Int), .int .u64 (OW x 0 : Int), .int .u64 (OW x 1 : Int), .int .u64 (OW x 2 : Int), .int .u64 (OW x 3 : Int)] 40 (0, 0)) := by rw [← hW1]; exact alloc_get _ _
          have hlW : (z + 1) < W.heap.size := lt_of_get3 q.lp
          have mr0 : MR wc X3 W (z + 1 + 1) bk (z + 1) k { R3 with state := .busy } (W1.putObj ((z + 1)) (.loop { R3 with state := .busy })) := ⟨put_otherE (keepblk3 hB1 qbx) (by omega), World.putObj_heap_same (by have := hB1.size; omega), (q.fr.below hB1).put, be_put (bel0 q.be hB1) (by omega), (YK.below hB1).trans (YK.putl _)⟩
          have hgb : (W1.putObj ((z + 1)) (.loop { R3 with state := .busy })).heap[W.heap.size]? = some (.cells #[.int .i64 (x.length : Int), .int .u64 (FW x 0 : Int), .int .u64 (FW x 1 : Int), .int .u64 (FW x 2 : Int), .int .u64 (FW x 3 : Int), .int .u64 (OW x 0 : Int), .int .u64 (OW x 1 : Int), .int .u64 (OW x 2 : Int), .int .u64 (OW x 3 : Int)] 40 (0, 0)) := put_otherE hg1 (by omega)
          have ql := q.lp
          have ql1 := keepblk3 hB1 q.lp
          clear hol gx hx hpa hMx hk qbx q hB1 hg1
          refine (round_byA (F := Fence.wide) (m := 6) (In := fun W' => WS wc X3 (z + 1 + 1) bk (z + 1) R3 (o ++ [x]) none W' ∧ YK (WX bk (z + 1)) none W none W') (Out := fun _ _ => False) (by rw [rf3]; exact hfn3) ql rs3 rp3 (by rw [rq3]; rfl) ?aHY3 W1 ql1 ?hasHY3 ?hbHY3).mono ?_
          case hasHY3 =>
            intro K hK
            rw [congrArg Loop.assign hR3.symm, rq3, congrArg Loop.tmps hR3.symm]
            simp only [recOf, List.zip_toArray, List.zip_cons_cons, List.zip_nil_right, List.foldl_toArray', List.foldl_cons, List.foldl_nil, List.setIfInBounds_toArray, List.size_toArray, List.length_cons, List.length_nil, List.set_cons_zero, List.set_cons_succ]

            gi_wp2
            exact hK
          case hbHY3 =>
            obtain ⟨V, hV⟩ : ∃ V, W1.putObj ((z + 1)) (.loop { R3 with state := .busy }) = V := ⟨_, rfl⟩
            rw [hV] at mr0 hgb ⊢
            rw [congrArg Loop.body hR3.symm]
            simp only [recOf]
            clear hV hW1 ql ql1
            obtain ⟨g, o2, hpm, hgc⟩ := HF.out.2.1.mc k x HO.out.2.2
            have HK : Hid (∀ U, Below V.heap.size V U → U.cell? ⟨bk, 0, none⟩ = some (.int .i64 (k : Int)) ∧ U.cell? ⟨S2 + 1, 0, none⟩ = some (.slice (some ⟨g, o2, none⟩) nm cm) ∧ (∀ j, U.cell? ⟨W.heap.size, j, none⟩ = (#[.int .i64 (x.length : Int), .int .u64 (FW x 0 : Int), .int .u64 (FW x 1 : Int), .int .u64 (FW x 2 : Int), .int .u64 (FW x 3 : Int), .int .u64 (OW x 0 : Int), .int .u64 (OW x 1 : Int), .int .u64 (OW x 2 : Int), .int .u64 (OW x 3 : Int)] : Array Value)[j]?) ∧ U.cell? ⟨g, o2 + k, none⟩ = some (.string ⟨x.toArray⟩)) := fun U hU => by
              have be := bel0 mr0.be hU
              exact ⟨cell_ofE (keepblk3 hU mr0.bx), (by rw [← hpm]; exact cell_ofE (keepblk3 be HF.out.2.1.m)), (cells_block (keepblk3 hU hgb)).1, (be.cell (World.block_lt_of_cell? wc _ hgc)).trans hgc⟩
            have HT : Hid (∀ W, Calls Tryz.prog 8 #[.agg #[.int .i64 (x.length : Int), .int .u64 (FW x 0 : Int), .int .u64 (FW x 1 : Int), .int .u64 (FW x 2 : Int), .int .u64 (FW x 3 : Int), .int .u64 (OW x 0 : Int), .int .u64 (OW x 1 : Int), .int .u64 (OW x 2 : Int), .int .u64 (OW x 3 : Int)]] W fun e w' => e = .returned (.string ⟨x.toArray⟩) ∧ Below W.heap.size W w') := fun W => text_any x W HO.out.2.1
            have HV : Hid (MR wc X3 W (z + 1 + 1) bk (z + 1) k { R3 with state := .busy } V) := mr0
            have i0 : (0 : Int) ≤ (k : Int) := by omega
            have i1 : (k : Int) < (nm : Int) := by omega
            have i2 : ¬ (k : Int) ≥ (nm : Int) := by omega
            clear hgb mr0 hgc hpm
            gi_wp2_with fail
            refine quiet_in3 (C := fun U => Below V.heap.size V U) (by kernel_rfl) (by kernel_rfl) (by kernel_rfl) (show Below _ _ _ from (Below.refl _ _).drew) ?_
            go_big_quiet_want
            refine ⟨.int .i64 (k : Int), fun W hW => ?_, ?_⟩
            · obtain ⟨s1, s2, s3, s4⟩ := HK.out W hW
              go_simp
            go_big_quiet_on
            simp only [Act.put, List.setIfInBounds_toArray, List.set_cons_zero, List.set_cons_succ]
            go_big_quiet_want
            refine ⟨.slice (some ⟨g, o2, none⟩) nm cm, fun W hW => ?_, ?_⟩
            · obtain ⟨s1, s2, s3, s4⟩ := HK.out W hW
              go_simp
            go_big_quiet_on
            simp only [Act.put, List.setIfInBounds_toArray, List.set_cons_zero, List.set_cons_succ]
            go_big_quiet_want
            refine ⟨.int .i64 (nm : Int), fun W hW => ?_, ?_⟩
            · go_simp
            go_big_quiet_on
            simp only [Act.put, List.setIfInBounds_toArray, List.set_cons_zero, List.set_cons_succ]
            go_big_quiet_want
            refine ⟨.bool false, fun W hW => ?_, ?_⟩
            · go_simp
            go_big_quiet_on
            simp only [Act.put, List.setIfInBounds_toArray, List.set_cons_zero, List.set_cons_succ]
            go_big_quiet_want
            go_big_quiet_op
            go_big_quiet_on
            go_big_quiet_want
            refine ⟨.agg #[.int .i64 (x.length : Int), .int .u64 (FW x 0 : Int), .int .u64 (FW x 1 : Int), .int .u64 (FW x 2 : Int), .int .u64 (FW x 3 : Int), .int .u64 (OW x 0 : Int), .int .u64 (OW x 1 : Int), .int .u64 (OW x 2 : Int), .int .u64 (OW x 3 : Int)], fun W hW => ?_, ?_⟩
            · obtain ⟨s1, s2, s3, s4⟩ := HK.out W hW
              go_simp
            go_big_quiet_on
            simp only [Act.put, List.setIfInBounds_toArray, List.set_cons_zero, List.set_cons_succ]
            go_big_quiet_want
            refine ⟨.string ⟨x.toArray⟩, fun W hW => ?_, ?_⟩
            · go_simp
              refine (HT.out W).mono ?_
              rintro e w7 ⟨rfl, hb⟩
              exact ⟨rfl, bel0 hW hb⟩
            go_big_quiet_on
            simp only [Act.put, List.setIfInBounds_toArray, List.set_cons_zero, List.set_cons_succ]
            go_big_quiet_want
            refine ⟨.slice (some ⟨g, o2, none⟩) nm cm, fun W hW => ?_, ?_⟩
            · obtain ⟨s1, s2, s3, s4⟩ := HK.out W hW
              go_simp
            go_big_quiet_on
            simp only [Act.put, List.setIfInBounds_toArray, List.set_cons_zero, List.set_cons_succ]
            go_big_quiet_want
            refine ⟨.int .i64 (k : Int), fun W hW => ?_, ?_⟩
            · obtain ⟨s1, s2, s3, s4⟩ := HK.out W hW
              go_simp
            go_big_quiet_on
            simp only [Act.put, List.setIfInBounds_toArray, List.set_cons_zero, List.set_cons_succ]
            go_big_quiet_want
            refine ⟨.pointer (some ⟨g, o2 + k, none⟩), fun W hW => ?_, ?_⟩
            · go_simp
            go_big_quiet_on
            simp only [Act.put, List.setIfInBounds_toArray, List.set_cons_zero, List.set_cons_succ]
            go_big_quiet_want
            refine ⟨.string ⟨x.toArray⟩, fun W hW => ?_, ?_⟩
            · obtain ⟨s1, s2, s3, s4⟩ := HK.out W hW
              go_simp
            go_big_quiet_on
            simp only [Act.put, List.setIfInBounds_toArray, List.set_cons_zero, List.set_cons_succ]
            go_big_quiet_want
            refine ⟨.bool false, fun W hW => ?_, ?_⟩
            · go_simp
            go_big_quiet_on
            simp only [Act.put, List.setIfInBounds_toArray, List.set_cons_zero, List.set_cons_succ]
            go_big_quiet_want
            refine ⟨.bool false, fun W hW => ?_, ?_⟩
            · go_simp
            go_big_quiet_on
            simp only [Act.put, List.setIfInBounds_toArray, List.set_cons_zero, List.set_cons_succ]
            refine wpQuiet_nil ?_
            intro W5 hW5
            have HM5 : Hid (MR wc X3 W (z + 1 + 1) bk (z + 1) k { R3 with state := .busy } W5) := HV.out.below hW5
            clear hW5 HK HT HV i2
            obtain ⟨k1, hk1⟩ : ∃ k1 : Nat, k + 1 = k1 := ⟨_, rfl⟩
            have Hk1 : Hid (k + 1 = k1) := hk1
            have i3 : (k : Int) + 1 = (k1 : Int) := by omega
            have i4 : IntKind.i64.wrap (k1 : Int) = (k1 : Int) := by rw [IntKind.wrap_i64]; omega
            have i5 : k1 ≤ nm := by omega
            have i6 : wc.heap.size ≤ bk := by omega
            have i7 : wc.heap.size ≤ (z + 1) := by omega
            clear hk1
            obtain ⟨c7, f7⟩ := cells_block HM5.out.bx
            obtain ⟨W8, hW8⟩ : ∃ W8, W5.setCell ⟨bk, 0, none⟩ (.int .i64 (k1 : Int)) = W8 := ⟨_, rfl⟩
            have HM8 : Hid (MR wc X3 W (z + 1 + 1) bk (z + 1) k1 { R3 with state := .busy } W8) := by rw [← hW8]; exact HM5.out.set (by omega) i6 k1
            gi_wp2_with fail
            exact ⟨HM8.out.lp, HM8.out.on (by omega) i7 (by rw [List.length_append, HO.out.1]; exact Hk1.out)⟩
          rintro e W' (⟨he, h1, h2⟩ | ⟨he, c, h⟩)
          · exact ⟨none, h2, .inl ⟨he, h1⟩⟩
          · exact h.elim
        refine (callsIn_wide.2 (goes_K HIN.out HF.out.2.1 HMT.out.1 HMT.out.2.2 HM.out (by omega) (by omega) (by omega) (by omega) (by omega) HY3 q0)).mono ?_
        rintro e Wc ⟨hv, hq | hq⟩
        · have hbx := hq.bx
          rw [HMT.out.2.1] at hbx
          refine ⟨hv, R3, hq.lp, (fun e => by rw [rs3] at e; cases e), .inl rp3, ?_⟩
          have vk := put_otherE (o' := .loop { R3 with state := .exhausted }) hbx (show bk ≠ z + 1 by omega)
          have vb := be_put (l := z + 1) (o := .loop { R3 with state := .exhausted }) hq.be (by omega)
          have vd : (Wc.putObj (z + 1) (.loop { R3 with state := .exhausted })).heap[bk + 1]? = some (.deferred (some [])) := put_otherE (hq.fr.get (by omega) (by omega) (by omega) x0) (by omega)
          have ve : (Wc.putObj (z + 1) (.loop { R3 with state := .exhausted })).heap[z]? = some (.deferred (some [])) := put_otherE (hq.fr.get (by omega) (by omega) (by omega) x1) (by omega)
          obtain ⟨Vc, hVc⟩ : ∃ Vc, Wc.putObj (z + 1) (.loop { R3 with state := .exhausted }) = Vc := ⟨_, rfl⟩
          rw [hVc] at vk vb vd ve ⊢
          have HVC : Hid (Vc.heap[bk + 1]? = some (.deferred (some [])) ∧ Vc.heap[z]? = some (.deferred (some [])) ∧ Below wc.heap.size wc Vc) := ⟨vd, ve, vb⟩
          have d1 := cell_ofE vk
          have d3 := cell_ofE (keepblk3 vb HF.out.2.1.m)
          obtain ⟨d6, d7⟩ := cells_block (keepblk3 vb HF.out.2.1.r)
          have enn : ((nm : Int) == (nm : Int)) = true := by simp
          clear hVc vk vb vd ve hbx hq q0 HY3 x0 x1 x2 xb xs hR3 rs3 rp3 rf3 rq3
          gi_wp2_with fail
          have hS9 := HSB.out
          have kR := keepblk3 HVC.out.2.2 HF.out.2.1.r
          have kD2 : (Vc.setCell ⟨S + 1 + 1, 0, none⟩ (.bool true)).heap[z]? = some (.deferred (some [])) := (Below.heap_setCell _ _ _ _ (by show z ≠ S + 1 + 1; omega)).trans HVC.out.2.1
          have kD1 : ((Vc.setCell ⟨S + 1 + 1, 0, none⟩ (.bool true)).putObj z (.deferred none)).heap[bk + 1]? = some (.deferred (some [])) := put_otherE ((Below.heap_setCell _ _ _ _ (by show bk + 1 ≠ S + 1 + 1; omega)).trans HVC.out.1) (by omega)
          have kR' : (((Vc.setCell ⟨S + 1 + 1, 0, none⟩ (.bool true)).putObj z (.deferred none)).putObj (bk + 1) (.deferred none)).heap[S + 1 + 1]? = some (.cells #[.bool true] 4 (0, 0)) := put_otherE (put_otherE (set_oneE _ kR) (by omega)) (by omega)
          refine ⟨by simp, .inl ⟨_, _, rfl, run_takeDeferred kD2, ?_⟩⟩
          refine ⟨by simp, .inl ⟨_, _, rfl, run_takeDeferred kD1, ?_⟩⟩
          refine ⟨_, res_boolK _ _ (S + 1 + 1) true rfl rfl kR', rfl, ?_⟩
          have b0 : Below w.heap.size w Vc := bel0 HF.out.2.2 HVC.out.2.2
          have b1 := b0.setCell (p := ⟨S + 1 + 1, 0, none⟩) (by show w.heap.size ≤ S + 1 + 1; omega) (.bool true)
          have b2 := b1.grown (grownBy_putObj' _ z (.deferred none)) b1.size (fun x e => by cases e; omega)
          exact b2.grown (grownBy_putObj' _ (bk + 1) (.deferred none)) b2.size (fun x e => by cases e; omega)
        · exact hq.elim
    · have cr := cells_block HF.out.2.1.r
      obtain ⟨cr1, cr2⟩ := cr
      have HRT : Hid ((wc.setCell ⟨S + 1 + 1, 0, none⟩ (.bool true)).heap[S + 1 + 1]? = some (.cells #[.bool true] 4 (0, 0)) ∧ Below w.heap.size w (wc.setCell ⟨S + 1 + 1, 0, none⟩ (.bool true))) := ⟨set_oneE _ HF.out.2.1.r, HF.out.2.2.setCell (p := ⟨S + 1 + 1, 0, none⟩) (by show w.heap.size ≤ S + 1 + 1; omega) _⟩
      gi_wp2_with fail
      exact ⟨_, res_boolK _ _ (S + 1 + 1) true rfl rfl HRT.out.1, rfl, HRT.out.2⟩
end Go.Proofs.YtmdnapognaddbaaGreatDoor
