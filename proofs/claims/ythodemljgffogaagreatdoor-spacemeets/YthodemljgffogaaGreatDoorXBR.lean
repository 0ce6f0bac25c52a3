import Derived.Test.YthodemljgffogaaGreatDoorXBQ
import Derived.Defers
import Derived.Recover
import Derived.Laws.Pointers
import Derived.Test.YthodemljgffogaaGreatDoorProg
import Derived.Laws.AppendOwnNone
import Derived.Test.YthodemljgffogaaGreatDoorXAV
import Derived.Deep.RegionHeld3
import Derived.Test.YthodemljgffogaaGreatDoorXAQ
import Derived.Test.YthodemljgffogaaGreatDoorXAT
import Derived.Test.YthodemljgffogaaGreatDoorXBE
import Derived.Test.YthodemljgffogaaGreatDoorXBI
namespace Go.Proofs.YthodemljgffogaaGreatDoor
open Go.RowKit Go.Shelf
theorem put3_get {W : World} {b : Nat} {x0 x1 x2 : Value} {T : TypeId} {m : Nat × Nat} (v0 v1 v2 : Value) (h : W.heap[b]? = some (.cells #[x0, x1, x2] T m)) : (((W.setCell ⟨b, 0, none⟩ v0).setCell ⟨b, 1, none⟩ v1).setCell ⟨b, 2, none⟩ v2).heap[b]? = some (.cells #[v0, v1, v2] T m) := by
  have h0 := set_get (j := 0) v0 h
  have h1 := set_get (j := 1) v1 h0
  have h2 := set_get (j := 2) v2 h1
  rw [h2]
  simp
theorem SPL_put {W : World} {B b : Nat} {V x0 x1 x2 : Value} {y : Int} {X : List (List UInt8 × List (List UInt8))} (h : W.heap[b]? = some (.cells #[x0, x1, x2] 24 (0, 0))) (hs : SPL W B V X) (hb : b < B) : (((W.setCell ⟨b, 0, none⟩ (.int .i64 y)).setCell ⟨b, 1, none⟩ V).setCell ⟨b, 2, none⟩ (.bool false)).heap[b]? = some (.cells #[.int .i64 y, V, .bool false] 24 (0, 0)) ∧ SPL (((W.setCell ⟨b, 0, none⟩ (.int .i64 y)).setCell ⟨b, 1, none⟩ V).setCell ⟨b, 2, none⟩ (.bool false)) 0 V X :=
  ⟨put3_get _ _ _ h, (hs.kept (gr3 _ _ _ _ _) hb).base (Nat.zero_le _)⟩
theorem num_le (b : Int) (l : List UInt8) (h : prE b l = 0) : (prB b l == 0) = false ∧ prB b l = b := by
  have h1 := prE_zero h
  have e : prB b l = b := by unfold prB; rw [if_pos h]
  refine ⟨?_, e⟩
  rw [e]
  simp
  omega
end Go.Proofs.YthodemljgffogaaGreatDoor
namespace Go.Proofs.YthodemljgffogaaGreatDoor
open Go.RowKit Go.Shelf
set_option maxRecDepth 100000 in
theorem eq_over (w : World) : (binOp BinOp.eql 20 (.iface 78 (.agg #[])) (.iface 78 (.agg #[]))).run Tryz.prog w = .ok (.bool true) w := by
  first | rfl | kernel_rfl | simp [go_sem]
set_option maxRecDepth 100000 in
theorem caught (b : Nat) (x : Int) (older : List PanicEntry) (w : World) (hc : w.cell? ⟨b, 0, none⟩ = some (.int .i64 x)) (hz : w.frozen? ⟨b, 0, none⟩ = false) :
    CallsD Tryz.prog 40 #[.pointer (some ⟨b, 0, none⟩)] (.panicking ({ v := .iface 78 (.agg #[]), recovered := false } :: older)) w fun e u' w' =>
      e = .returned (.tuple #[]) ∧ u' = .panicking ({ v := .iface 78 (.agg #[]), recovered := true } :: older) ∧ w' = w.setCell ⟨b, 0, none⟩ (.int .i64 3) := by
  refine callsD_of_wpS Tryz.func40 rfl fun c₀ cs hu => ?_
  apply wpS_seq
  apply wpS_region
  simp [wpOpsS, go_sem, recoverD, hu, Tryz.ntmps40, Exit.thenS]
  refine wpS_of_wp ?_
  have hE := eq_over
  go_wp2_with fail
  simp [bodyPostS, results, Tryz.results40]
set_option maxRecDepth 100000 in
theorem idle (b : Nat) (w : World) :
    CallsD Tryz.prog 40 #[.pointer (some ⟨b, 0, none⟩)] .returning w fun e u' w' => e = .returned (.tuple #[]) ∧ u' = .returning ∧ w' = w := by
  refine callsD_of_wpS Tryz.func40 rfl fun c₀ cs hu => ?_
  apply wpS_seq
  apply wpS_region
  simp [wpOpsS, go_sem, recoverD, hu, Tryz.ntmps40, Exit.thenS]
  refine wpS_of_wp ?_
  go_wp2_with fail
  cases c₀
  simp_all [bodyPostS, results, Tryz.results40]
end Go.Proofs.YthodemljgffogaaGreatDoor
namespace Go.Proofs
end Go.Proofs
namespace Go.Proofs.YthodemljgffogaaGreatDoor
open Go.RowKit Go.Shelf
theorem tes_len10 (L : List ZT) : (tes L).length = L.length * 10 := by
  induction L with
  | nil => rfl
  | cons z l ih =>
    have e : tes (z :: l) = z.cells ++ tes l := rfl
    rw [e, List.length_append, ih, List.length_cons]
    have : z.cells.length = 10 := rfl
    omega
theorem tes_one (L : List ZT) : ∀ v ∈ tes L, v.oneCell' = true := fun v hv => by
  obtain ⟨z, _, hz⟩ := List.mem_flatMap.1 hv
  simp only [ZT.cells, List.mem_cons, List.not_mem_nil, or_false] at hz
  rcases hz with rfl | rfl | rfl | rfl | rfl | rfl | rfl | rfl | rfl | rfl <;> rfl
theorem app_belC {w W X : World} {n : Nat} {e : TypeId} {sz : Nat} {v : Value} {xs : List Value} (hB : Below w.heap.size w W) (h : W.ownsRow w.heap.size e sz v n xs) (hg : W.grownBy X v.ownBlock) : Below w.heap.size w X :=
  hB.grown hg hB.size (fun k hk => (h.lt k hk).1)
end Go.Proofs.YthodemljgffogaaGreatDoor
namespace Go.Proofs.YthodemljgffogaaGreatDoor
open Go.RowKit Go.Shelf
/-- an operation that ends the region leaves nothing to walk -/
theorem dummyQ {X : Prop} {P : Program} {md : Region.Mode} {a : Act} {w : World} (hx : X) (_ : wpAny P md #[] (fun _ _ _ => True) 0 #[] a w) : X := hx
end Go.Proofs.YthodemljgffogaaGreatDoor
namespace Go.Proofs.YthodemljgffogaaGreatDoor
open Go.RowKit Go.Shelf
theorem res_sp2 {fn : Func} (tmps : Array Value) (W : World) (b : Nat) (v0 v1 v2 x : Value) {m : Nat × Nat} (hr : fn.results = #[.cell 4 24, .tmp 5]) (hp : tmps.getD 4 undef = .pointer (some ⟨b, 0, none⟩)) (hx : tmps.getD 5 undef = x) (h : W.heap[b]? = some (.cells #[v0, v1, v2] 24 m)) :
    (results fn tmps).run Tryz.prog W = .ok (.tuple #[.agg #[v0, v1, v2], x]) W := by
  have hc : ∀ j, W.cell? ⟨b, j, none⟩ = (#[v0, v1, v2] : Array Value)[j]? := by
    intro j; unfold World.cell?; rw [h]; simp
  have hp' : tmps[4]?.getD undef = .pointer (some ⟨b, 0, none⟩) := by simpa using hp
  have hx' : tmps[5]?.getD undef = x := by simpa using hx
  simp [results, hr, hp', hx', go_sem, hc]
theorem fits_any2 (b x : Int) (p : Option Addr) (n c : Nat) (w : World) : Calls Tryz.prog 13 #[.agg #[.int .i64 b, .slice p n c, .bool false], .int .i64 x] w fun e w' => e = .returned (.bool (!(b == 0) && (b == x))) ∧ Below w.heap.size w w' := by
  obtain ⟨w2, hw2⟩ : ∃ w2, w.alloc (.cells #[.int .i64 b, .slice p n c, .bool false] 24 (0, 0)) = w2 := ⟨_, rfl⟩
  have h0 : w2.heap[w.heap.size]? = some (.cells #[.int .i64 b, .slice p n c, .bool false] 24 (0, 0)) := by rw [← hw2]; exact alloc_get _ _
  have hB : Below w.heap.size w w2 := by rw [← hw2]; exact belA (Below.refl _ _) _
  obtain ⟨hc0, -⟩ := cells_block h0
  have HB : Hid (Below w.heap.size w w2) := hB
  clear h0 hB
  by_cases hz : b = 0
  · have m1 : (b != 0) = false := by simpa using hz
    have m2 : (b == 0) = true := by simpa using hz
    have HR : Hid ((!(b == 0) && (b == x)) = false) := by unfold Hid; rw [m2]; rfl
    clear hz m2
    go_enter Tryz.func13, Tryz.ntmps13
    go_wp2_with fail
    go_ret
    exact ⟨by rw [HR.out]; rfl, HB.out⟩
  · have m1 : (b != 0) = true := by simpa using hz
    have m2 : (b == 0) = false := by simpa using hz
    obtain ⟨q, hq⟩ : ∃ q, (b == x) = q := ⟨_, rfl⟩
    have HR : Hid ((!(b == 0) && (b == x)) = q) := by unfold Hid; rw [m2, hq]; rfl
    clear hz m2
    go_enter Tryz.func13, Tryz.ntmps13
    go_wp2_with fail
    go_ret
    exact ⟨by rw [HR.out]; rfl, HB.out⟩
def jnE (b b2 : Int) (A C : List (List UInt8 × List (List UInt8))) : Int := if (!(b == 0) && (b == b2)) = false then 11 else if szC (topC (A ++ C)) ≤ 128 then 0 else 3
def jnB (b b2 : Int) (A C : List (List UInt8 × List (List UInt8))) : Int := if jnE b b2 A C = 0 then b else 0
def jnT (b b2 : Int) (A C : List (List UInt8 × List (List UInt8))) : List (List UInt8 × List (List UInt8)) := if jnE b b2 A C = 0 then ordT (topC (A ++ C)) else []
end Go.Proofs.YthodemljgffogaaGreatDoor
namespace Go.Proofs.YthodemljgffogaaGreatDoor
open Go.RowKit Go.Shelf
/-- append of no elements, whatever room the slice says it has -/
theorem app_none0 {P : Program} {w : World} {ops : Array Oper} {rest : List Oper} {o : Oper} {a : Act} {Q : Exit → Act → World → Prop} (hgd : o.guard = none) (s x : Operand) (t : TypeId)
    (ho : o.op = .call { callee := .builtin .append, args := #[s, x], argTypes := #[t, t] })
    (base : Nat) (e : TypeId) (i : TypeInfo) (size : Nat) (ht : P.underlying t = some (.slice e)) (hi : P.info? e = some i)
    (v : Value) (n c : Nat) (xs : List Value) (hs : a.eval s = v) (hown : w.ownsRow base e size v n xs) (hx : a.eval x = .slice none 0 c)
    (h : wpList P ops Q rest (a.put o.dst v) w) : wpList P ops Q (o :: rest) a w := by
  refine wpList_plain hgd fun K hK => ?_
  have hrun : (Builtin.append_ #[t, t] o.type #[v, .slice none 0 c]).run P w = .ok v w := by
    rcases hown.2 with ⟨rfl, rfl⟩ | ⟨g, cap, cur, rfl, _, _, hnc, _⟩
    · simp [Builtin.append_, run_underlying ht, sizeOf, typeInfo, hi, Builtin.lenOf, Builtin.firstCells]
    · simp [Builtin.append_, run_underlying ht, sizeOf, typeInfo, hi, Builtin.lenOf, Builtin.firstCells, hnc, storeCells]
  unfold Oper.wp
  simp [execOp, ho, resolve, invoke, builtin, hs, hx, hrun, Result.andThen]
  exact hK _ _ h
theorem rts_one (L : List ZT) : ∀ v ∈ rts L, v.oneCell' = true := fun v hv => by
  obtain ⟨z, _, hz⟩ := List.mem_flatMap.1 hv
  simp only [rtc, List.mem_cons, List.not_mem_nil, or_false] at hz
  rcases hz with rfl | rfl <;> rfl
theorem rts_news {W : World} {ad : Addr} {Z : List ZT} (h : IRR W (some ad) Z) : ∀ j u, (rts Z)[j]? = some u → W.cell? (ad.add j) = some u := fun j u hu => by
  have hm : j % 2 < 2 := Nat.mod_lt _ (by omega)
  have e := rts_get Z (j / 2) (j % 2) hm
  rw [show j / 2 * 2 + j % 2 = j by omega, hu] at e
  cases hz : Z[j / 2]? with
  | none => rw [hz] at e; cases e
  | some z =>
    rw [hz] at e
    obtain ⟨g, o0, e1, c0, c1⟩ := h W (Below.refl _ _) _ z hz
    injection e1 with e1
    subst e1
    have ea : (⟨g, o0, none⟩ : Addr).add j = ⟨g, o0 + j, none⟩ := by simp [Addr.add]
    rw [ea]
    rcases (show j % 2 = 0 ∨ j % 2 = 1 by omega) with h0 | h0
    · rw [h0] at e
      rw [show o0 + j = o0 + j / 2 * 2 by omega, c0]
      exact e.symm
    · rw [h0] at e
      rw [show o0 + j = o0 + j / 2 * 2 + 1 by omega, c1]
      exact e.symm
set_option maxRecDepth 100000 in
set_option maxHeartbeats 2000000 in
theorem dbound2 (b : Int) (V : Value) (Ts : List (List UInt8 × List (List UInt8))) (w : World) (h : RSR w V Ts) (ho : szC Ts ≤ 1000000) : Calls Tryz.prog 26 #[.agg #[.int .i64 b, V]] w fun e w' => ((128 < szC Ts ∧ e = .returned (.tuple #[.agg #[.int .i64 0, .slice none 0 0], .int .i64 3])) ∨ (¬ 128 < szC Ts ∧ e = .returned (.tuple #[.agg #[.int .i64 b, V], .int .i64 0]))) ∧ Below w.heap.size w w' := by
  obtain ⟨p, cp, rfl⟩ := h.shape
  obtain ⟨w2, hw2⟩ : ∃ w2, (w.alloc (.cells #[.int .i64 b, .slice p (Ts.length) cp] 27 (0, 0))).alloc (.cells #[.int .i64 0, .slice none 0 0] 27 (0, 0)) = w2 := ⟨_, rfl⟩
  have h0 : w2.heap[w.heap.size]? = some (.cells #[.int .i64 b, .slice p (Ts.length) cp] 27 (0, 0)) := by rw [← hw2]; exact alw_0 _ _ _
  have h1 : w2.heap[w.heap.size + 1]? = some (.cells #[.int .i64 0, .slice none 0 0] 27 (0, 0)) := by rw [← hw2]; exact alw_1 _ _ _
  have hB : Below w.heap.size w w2 := by rw [← hw2]; exact belA (belA (Below.refl _ _) _) _
  obtain ⟨hc0, -⟩ := cells_block h0
  have HS : Hid (Calls Tryz.prog 51 #[.agg #[.int .i64 b, .slice p (Ts.length) cp]] w2 fun e w' => e = .returned (.int .i64 (szC Ts : Int)) ∧ Below w2.heap.size w2 w') := dSizeL_any b _ Ts w2 (h.later hB) ho
  have HA : Hid (w2.heap[w.heap.size]? = some (.cells #[.int .i64 b, .slice p (Ts.length) cp] 27 (0, 0)) ∧ w2.heap[w.heap.size + 1]? = some (.cells #[.int .i64 0, .slice none 0 0] 27 (0, 0)) ∧ Below w.heap.size w w2) := ⟨h0, h1, hB⟩
  clear h0 h1 hB h
  by_cases hgt : (128 : Int) < (szC Ts : Int)
  · go_enter Tryz.func26, Tryz.ntmps26
    go_wp2_with fail
    refine HS.out.mono ?_
    rintro e W1 ⟨rfl, hb1⟩
    have k1 := keepblk3 hb1 HA.out.2.1
    obtain ⟨hcE, hfE⟩ := cells_block k1
    have HF : Hid (_ = _) := set2_get (.int .i64 0) (.slice none 0 0) k1
    have HBB : Hid (Below w.heap.size w ((W1.setCell ⟨w.heap.size + 1, 0, none⟩ (.int .i64 0)).setCell ⟨w.heap.size + 1, 1, none⟩ (.slice none 0 0))) := ((bel0 HA.out.2.2 hb1).setCell (Nat.le_succ _) _).setCell (Nat.le_succ _) _
    clear k1 hb1 hc0 hw2
    go_wp2_with fail
    refine bodyPost_ret (v := .tuple #[.agg #[.int .i64 0, .slice none 0 0], .int .i64 3]) (res_rs2 _ _ (w.heap.size + 1) _ _ Tryz.results26 rfl HF.out) rfl ?_
    exact ⟨.inl ⟨by omega, rfl⟩, HBB.out⟩
  · go_enter Tryz.func26, Tryz.ntmps26
    go_wp2_with fail
    refine HS.out.mono ?_
    rintro e W1 ⟨rfl, hb1⟩
    have k1 := keepblk3 hb1 HA.out.2.1
    have k0 := keepblk3 hb1 HA.out.1
    obtain ⟨hcE, hfE⟩ := cells_block k1
    obtain ⟨hcD, -⟩ := cells_block k0
    have HF : Hid (_ = _) := set2_get (.int .i64 b) (.slice p (Ts.length) cp) k1
    have HBB : Hid (Below w.heap.size w ((W1.setCell ⟨w.heap.size + 1, 0, none⟩ (.int .i64 b)).setCell ⟨w.heap.size + 1, 1, none⟩ (.slice p (Ts.length) cp))) := ((bel0 HA.out.2.2 hb1).setCell (Nat.le_succ _) _).setCell (Nat.le_succ _) _
    clear k1 k0 hb1 hc0 hw2
    go_wp2_with fail
    refine bodyPost_ret (v := .tuple #[.agg #[.int .i64 b, .slice p (Ts.length) cp], .int .i64 0]) (res_rs2 _ _ (w.heap.size + 1) _ _ Tryz.results26 rfl HF.out) rfl ?_
    exact ⟨.inr ⟨by omega, rfl⟩, HBB.out⟩
theorem dfit_any (b b2 : Int) (p1 p2 : Option Addr) (n1 n2 k1 k2 : Nat) (w : World) (hb : 0 ≤ b) : Calls Tryz.prog 22 #[.agg #[.int .i64 b, .slice p1 n1 k1], .agg #[.int .i64 b2, .slice p2 n2 k2]] w fun e w' => e = .returned (.bool (!(b == 0) && (b == b2))) ∧ Below w.heap.size w w' := by
  obtain ⟨w2, hw2⟩ : ∃ w2, (w.alloc (.cells #[.int .i64 b, .slice p1 n1 k1] 27 (0, 0))).alloc (.cells #[.int .i64 b2, .slice p2 n2 k2] 27 (0, 0)) = w2 := ⟨_, rfl⟩
  have h0 : w2.heap[w.heap.size]? = some (.cells #[.int .i64 b, .slice p1 n1 k1] 27 (0, 0)) := by rw [← hw2]; exact alw_0 _ _ _
  have h1 : w2.heap[w.heap.size + 1]? = some (.cells #[.int .i64 b2, .slice p2 n2 k2] 27 (0, 0)) := by rw [← hw2]; exact alw_1 _ _ _
  have hB : Below w.heap.size w w2 := by rw [← hw2]; exact belA (belA (Below.refl _ _) _) _
  obtain ⟨hc0, -⟩ := cells_block h0
  obtain ⟨hc1, -⟩ := cells_block h1
  have HB : Hid (Below w.heap.size w w2) := hB
  clear h0 h1 hB
  by_cases hz : b = 0
  · have m1 : ¬ (b > 0) := by omega
    have HR : Hid ((!(b == 0) && (b == b2)) = false) := by unfold Hid; rw [show (b == 0) = true by simpa using hz]; rfl
    clear hz hb
    go_enter Tryz.func22, Tryz.ntmps22
    go_wp2_with fail
    go_ret
    exact ⟨by rw [HR.out]; rfl, HB.out⟩
  · have m1 : b > 0 := by omega
    obtain ⟨q, hq⟩ : ∃ q, (b == b2) = q := ⟨_, rfl⟩
    have HR : Hid ((!(b == 0) && (b == b2)) = q) := by unfold Hid; rw [show (b == 0) = false by simpa using hz, hq]; rfl
    clear hz hb
    go_enter Tryz.func22, Tryz.ntmps22
    go_wp2_with fail
    go_ret
    exact ⟨by rw [HR.out]; rfl, HB.out⟩
theorem frm_ord {X : List (List UInt8 × List (List UInt8))} (h : ∀ t ∈ X, t.2.Pairwise (fun a b => leB a b = true)) : frmD (topC X) = ordT (topC X) := by
  unfold frmD ordT
  congr 2
  refine List.map_congr_left (fun t ht => ?_)
  rcases topCF_mem X [] t ht with h1 | h1
  · cases h1
  · rw [srtT_id (h t h1)]
end Go.Proofs.YthodemljgffogaaGreatDoor
namespace Go.Proofs.YthodemljgffogaaGreatDoor
open Go.RowKit Go.Shelf
theorem app_rt {ops : Array Oper} {rest : List Oper} {o : Oper} {a : Act} {Q : Exit → Act → World → Prop} {w : World} (hgd : o.guard = none) (s x : Operand)
    (ho : o.op = .call { callee := .builtin .append, args := #[s, x], argTypes := #[25, 25] }) (base : Nat) (v : Value) (m : Nat) (xs : List Value) (hs : a.eval s = v) (hown : w.ownsRow base 52 2 v m xs)
    (p : Option Addr) (n k : Nat) (Z : List ZT) (hx : a.eval x = .slice p n k) (hZ : Z.length = n) (hr : IRR w p Z) (hm : m + n ≤ 100000) (hbase : base ≤ w.heap.size)
    (h : ∀ v' w', w'.ownsRow base 52 2 v' (m + n) (xs ++ rts Z) → w.grownBy w' v.ownBlock → wpList Tryz.prog ops Q rest (a.put o.dst v') w') : wpList Tryz.prog ops Q (o :: rest) a w := by
  obtain ⟨iT, hiT, hzT0, hzT1, hzT2⟩ := info_parts info_rtm
  cases p with
  | none =>
    have hz : Z = [] := by
      cases hc : Z with
      | nil => rfl
      | cons z l =>
        obtain ⟨g, o0, e, -⟩ := hr w (Below.refl _ _) 0 z (by rw [hc]; rfl)
        cases e
    subst hz
    have hn : n = 0 := hZ.symm
    subst hn
    refine app_none0 hgd s x 25 ho base 52 iT 2 Tryz.underlying25 hiT v m k xs hs hown hx (h v w ?_ ⟨rfl, rfl, rfl, Nat.le_refl _, fun _ _ _ => rfl⟩)
    have e : xs ++ rts [] = xs := by simp [rts]
    rw [e]
    exact hown
  | some ad =>
    exact wpList_append_own _ hgd s x 25 ho base 52 iT _ 2 40 Tryz.underlying25 hiT hzT0 hzT1 hzT2 rfl (by decide) v m xs hs hown ad n k (rts Z) hx (by rw [rts_len, hZ]) (rts_news hr) (rts_one Z) (by unfold maxLen; omega) (by omega) hbase (fun v' w' h1 h2 _ => h v' w' h1 h2)
end Go.Proofs.YthodemljgffogaaGreatDoor
namespace Go.Proofs.YthodemljgffogaaGreatDoor
open Go.RowKit

/-- place k of a header suits a cube's -/
def okH (t h : List UInt8) (k : Nat) : Bool := match t[k]?, h[k]? with | some x, some d => (d == 48 || d == 49) && (x == 120 || x == d) | _, _ => true
/-- P1.4 -/
def hasB (t h : List UInt8) : Bool := !t.isEmpty && (t.length == h.length) && allTo (okH t h) t.length

theorem byteH_bne (x : UInt8) (n : Nat) (hn : n < 256) : ((x.toNat : Int) != (n : Int)) = !(x == UInt8.ofNat n) := by
  unfold bne
  congr 1
  rw [Bool.eq_iff_iff, beq_iff_eq, beq_iff_eq]
  constructor
  · intro e
    have : x.toNat = n := by omega
    rw [← this]; simp
  · intro e; subst e
    simp [UInt8.toNat_ofNat', Nat.mod_eq_of_lt hn]

theorem byteH_bne2 (x y : UInt8) : ((x.toNat : Int) != (y.toNat : Int)) = !(x == y) := by
  unfold bne
  congr 1
  rw [Bool.eq_iff_iff, beq_iff_eq, beq_iff_eq]
  constructor
  · intro e; exact UInt8.toNat_inj.1 (by omega)
  · intro e; subst e; rfl

theorem okH_eq (t : List UInt8) (s : ByteArray) (k : Nat) (hk : k < t.length) (hks : k < s.size) (p1 p2 p3 p4 : Bool) (n1 : ((s[k].toNat : Int) != 48) = p1) (n2 : ((s[k].toNat : Int) != 49) = p2) (n3 : ((t[k].toNat : Int) != 120) = p3) (n4 : ((t[k].toNat : Int) != (s[k].toNat : Int)) = p4) :
    okH t s.data.toList k = !((p1 && p2) || (p3 && p4)) := by
  have e1 := byteH_bne s[k] 48 (by decide)
  have e2 := byteH_bne s[k] 49 (by decide)
  have e3 := byteH_bne t[k] 120 (by decide)
  have e4 := byteH_bne2 t[k] s[k]
  have hs : s.data.toList[k]? = some s[k] := by rw [List.getElem?_eq_getElem (by simpa using hks)]; rfl
  simp only [okH, hs, List.getElem?_eq_getElem hk]
  subst n1 n2 n3 n4
  have f1 : ((s[k].toNat : Int) != 48) = !(s[k] == 48) := e1
  have f2 : ((s[k].toNat : Int) != 49) = !(s[k] == 49) := e2
  have f3 : ((t[k].toNat : Int) != 120) = !(t[k] == 120) := e3
  rw [f1, f2, f3, e4]
  cases (s[k] == 48) <;> cases (s[k] == 49) <;> cases (t[k] == 120) <;> cases (t[k] == s[k]) <;> rfl

theorem okH_succ {p : Nat → Bool} {k : Nat} {q : Bool} (h : ∀ j, j < k → p j = true) (hk : p k = q) (hq : q = true := by rfl) : ∀ j, j < k + 1 → p j = true := by
  intro j hj
  by_cases e : j = k
  · subst e; rw [hk, hq]
  · exact h j (by omega)

end Go.Proofs.YthodemljgffogaaGreatDoor
namespace Go.Proofs.YthodemljgffogaaGreatDoor
open Go.RowKit
/-- a header is in a term -/
def thB (c : List UInt8) (L : List (List UInt8)) (h : List UInt8) : Bool := hasB c h && L.all (fun m => !hasB m h)
end Go.Proofs.YthodemljgffogaaGreatDoor
namespace Go.Proofs.YthodemljgffogaaGreatDoor
open Go.RowKit
/-- a header is in one of the terms -/
def hsB (Ts : List (List UInt8 × List (List UInt8))) (h : List UInt8) : Bool := Ts.any (fun t => thB t.1 t.2 h)
theorem any_noV {α : Type} {L : List α} {p : α → Bool} {n : Nat} (hn : L.length ≤ n) (h : ∀ j t, j < n → L[j]? = some t → p t = false) : L.any p = false := by
  rw [List.any_eq_false]
  intro t ht
  obtain ⟨j, hj, he⟩ := List.getElem_of_mem ht
  rw [h j t (by omega) (by rw [List.getElem?_eq_getElem hj, he])]
  simp
end Go.Proofs.YthodemljgffogaaGreatDoor
namespace Go.Proofs.YthodemljgffogaaGreatDoor
open Go.RowKit Go.Shelf
def digB (d : UInt8) : Bool := d == 48 || d == 49
/-- a header of that width -/
def hdB (b : Int) (l : List UInt8) : Bool := ((l.length : Int) == b) && !(b == 0) && l.all digB
theorem dig_succ {s : ByteArray} {k : Nat} (hk : k < s.size) (h : ∀ j (h : j < s.data.toList.length), j < k → digB s.data.toList[j] = true) (c : s[k] = 48 ∨ s[k] = 49) : ∀ j (h : j < s.data.toList.length), j < k + 1 → digB s.data.toList[j] = true := by
  intro j hj hlt
  by_cases e : j < k
  · exact h j hj e
  · obtain rfl : j = k := by omega
    have e2 : s.data.toList[j] = s[j] := rfl
    rw [e2]
    unfold digB
    rcases c with c | c <;> rw [c] <;> rfl
end Go.Proofs.YthodemljgffogaaGreatDoor
namespace Go.Proofs.YthodemljgffogaaGreatDoor
open Go.RowKit Go.Shelf
/-- the document's: a header is in a term -/
def tdB (c : List UInt8) (L : List (List UInt8)) (h : List UInt8) : Bool := wiB h c && L.all (fun m => !wiB h m)
theorem good_hd {b : Int} {l : List UInt8} (h : hdB b l = true) (hb : b ≤ 256) : good l = true := by
  unfold hdB at h
  obtain ⟨h1, h2⟩ := Bool.and_eq_true_iff.1 h
  have h3 : (l.length : Int) = b := by simpa using (Bool.and_eq_true_iff.1 h1).1
  have h4 := List.all_eq_true.1 h2
  unfold good
  rw [Bool.and_eq_true, List.all_eq_true]
  refine ⟨by simp; omega, fun x hx => ?_⟩
  have h5 := h4 x hx
  unfold digB at h5
  unfold tri
  rcases Bool.or_eq_true_iff.1 h5 with h5 | h5 <;> rw [h5] <;> simp
end Go.Proofs.YthodemljgffogaaGreatDoor
