import Derived.Test.YtfhghplplkkpmaaGreatDoorXAU
import Derived.Defers
import Derived.Recover
import Derived.Laws.Pointers
import Derived.Test.YtfhghplplkkpmaaGreatDoorChecked
import Derived.Test.YtfhghplplkkpmaaGreatDoorXAE
import Derived.Deep.AppendLies
import Derived.Laws.OwnMore
import Derived.Laws.AppendOwnNone
import Derived.Test.YtfhghplplkkpmaaGreatDoorXAN
import Derived.Deep.RegionHeld3
import Derived.Test.YtfhghplplkkpmaaGreatDoorXAK
import Derived.Test.YtfhghplplkkpmaaGreatDoorXAM
import Derived.Test.YtfhghplplkkpmaaGreatDoorXAT
namespace Go.Proofs.YtfhghplplkkpmaaGreatDoor
open Go.RowKit Go.Shelf
def RDS (w w' : World) (b : Int) (l : List UInt8) (e : Ending) : Prop := ∃ V V2, e = .returned (.tuple #[.agg #[.int .i64 (prB b l), V, .bool false], .agg #[.int .i64 (prB b l), V2], .bool true]) ∧ SPL w' w.heap.size V (prT b l) ∧ RSR w' V2 (prT b l) ∧ Below w.heap.size w w'
theorem put5_get {W : World} {a c : Nat} {x0 x1 x2 y0 y1 : Value} {T U : TypeId} {m m2 : Nat × Nat} (v0 v1 v2 u0 u1 : Value) (hne : a ≠ c) (h : W.heap[a]? = some (.cells #[x0, x1, x2] T m)) (h2 : W.heap[c]? = some (.cells #[y0, y1] U m2)) :
    (((((W.setCell ⟨a, 0, none⟩ v0).setCell ⟨a, 1, none⟩ v1).setCell ⟨a, 2, none⟩ v2).setCell ⟨c, 0, none⟩ u0).setCell ⟨c, 1, none⟩ u1).heap[a]? = some (.cells #[v0, v1, v2] T m) ∧ (((((W.setCell ⟨a, 0, none⟩ v0).setCell ⟨a, 1, none⟩ v1).setCell ⟨a, 2, none⟩ v2).setCell ⟨c, 0, none⟩ u0).setCell ⟨c, 1, none⟩ u1).heap[c]? = some (.cells #[u0, u1] U m2) := by
  constructor
  · rw [heap_setCell_other _ _ _ _ (fun e => hne e), heap_setCell_other _ _ _ _ (fun e => hne e)]
    have h0 := set_get (j := 0) v0 h
    have h1 := set_get (j := 1) v1 h0
    have h2 := set_get (j := 2) v2 h1
    rw [h2]
    simp
  · have k : (((W.setCell ⟨a, 0, none⟩ v0).setCell ⟨a, 1, none⟩ v1).setCell ⟨a, 2, none⟩ v2).heap[c]? = some (.cells #[y0, y1] U m2) := by
      rw [heap_setCell_other _ _ _ _ (fun e => hne e.symm), heap_setCell_other _ _ _ _ (fun e => hne e.symm), heap_setCell_other _ _ _ _ (fun e => hne e.symm)]
      exact h2
    have h0 := set_get (j := 0) u0 k
    have h1 := set_get (j := 1) u1 h0
    rw [h1]
    simp
theorem gr3 (X : World) (b : Nat) (u0 u1 u2 : Value) : X.grownBy (((X.setCell ⟨b, 0, none⟩ u0).setCell ⟨b, 1, none⟩ u1).setCell ⟨b, 2, none⟩ u2) (some b) := ⟨rfl, rfl, rfl, by simp, fun j _ hj => by
  rw [heap_setCell_other _ _ _ _ (fun e => hj (by rw [e])), heap_setCell_other _ _ _ _ (fun e => hj (by rw [e])), heap_setCell_other _ _ _ _ (fun e => hj (by rw [e]))]⟩
theorem gr2 (X : World) (b : Nat) (u0 u1 : Value) : X.grownBy ((X.setCell ⟨b, 0, none⟩ u0).setCell ⟨b, 1, none⟩ u1) (some b) := ⟨rfl, rfl, rfl, by simp, fun j _ hj => by
  rw [heap_setCell_other _ _ _ _ (fun e => hj (by rw [e])), heap_setCell_other _ _ _ _ (fun e => hj (by rw [e]))]⟩
theorem far3h {W : World} {a b : Nat} (v0 v1 v2 : Value) (hne : a ≠ b) : (((W.setCell ⟨b, 0, none⟩ v0).setCell ⟨b, 1, none⟩ v1).setCell ⟨b, 2, none⟩ v2).heap[a]? = W.heap[a]? := by
  rw [heap_setCell_other _ _ _ _ (fun e => hne e), heap_setCell_other _ _ _ _ (fun e => hne e), heap_setCell_other _ _ _ _ (fun e => hne e)]
theorem far3c {W : World} {a b : Nat} {cs : Array Value} (v0 v1 v2 : Value) (hne : a ≠ b) (h : ∀ j, W.cell? ⟨a, j, none⟩ = cs[j]?) : ∀ j, (((W.setCell ⟨b, 0, none⟩ v0).setCell ⟨b, 1, none⟩ v1).setCell ⟨b, 2, none⟩ v2).cell? ⟨a, j, none⟩ = cs[j]? := fun j => by
  rw [World.cell?_of_block (a := ⟨a, j, none⟩) (far3h v0 v1 v2 hne)]
  exact h j
theorem far2c {W : World} {a b : Nat} {cs : Array Value} (v0 v1 : Value) (hne : a ≠ b) (h : ∀ j, W.cell? ⟨a, j, none⟩ = cs[j]?) : ∀ j, ((W.setCell ⟨b, 0, none⟩ v0).setCell ⟨b, 1, none⟩ v1).cell? ⟨a, j, none⟩ = cs[j]? := fun j => by
  rw [World.cell?_of_block (a := ⟨a, j, none⟩) (show _ = W.heap[a]? by rw [heap_setCell_other _ _ _ _ (fun e => hne e), heap_setCell_other _ _ _ _ (fun e => hne e)])]
  exact h j
end Go.Proofs.YtfhghplplkkpmaaGreatDoor
namespace Go.Proofs.YtfhghplplkkpmaaGreatDoor
open Go.RowKit Go.Shelf
theorem put3_get {W : World} {b : Nat} {x0 x1 x2 : Value} {T : TypeId} {m : Nat × Nat} (v0 v1 v2 : Value) (h : W.heap[b]? = some (.cells #[x0, x1, x2] T m)) : (((W.setCell ⟨b, 0, none⟩ v0).setCell ⟨b, 1, none⟩ v1).setCell ⟨b, 2, none⟩ v2).heap[b]? = some (.cells #[v0, v1, v2] T m) := by
  have h0 := set_get (j := 0) v0 h
  have h1 := set_get (j := 1) v1 h0
  have h2 := set_get (j := 2) v2 h1
  rw [h2]
  simp
theorem SPL_put {W : World} {B b : Nat} {V x0 x1 x2 : Value} {y : Int} {X : List (List UInt8 × List (List UInt8))} (h : W.heap[b]? = some (.cells #[x0, x1, x2] 26 (0, 0))) (hs : SPL W B V X) (hb : b < B) : (((W.setCell ⟨b, 0, none⟩ (.int .i64 y)).setCell ⟨b, 1, none⟩ V).setCell ⟨b, 2, none⟩ (.bool false)).heap[b]? = some (.cells #[.int .i64 y, V, .bool false] 26 (0, 0)) ∧ SPL (((W.setCell ⟨b, 0, none⟩ (.int .i64 y)).setCell ⟨b, 1, none⟩ V).setCell ⟨b, 2, none⟩ (.bool false)) 0 V X :=
  ⟨put3_get _ _ _ h, (hs.kept (gr3 _ _ _ _ _) hb).base (Nat.zero_le _)⟩
theorem num_le (b : Int) (l : List UInt8) (h : prE b l = 0) : (prB b l == 0) = false ∧ prB b l = b := by
  have h1 := prE_zero h
  have e : prB b l = b := by unfold prB; rw [if_pos h]
  refine ⟨?_, e⟩
  rw [e]
  simp
  omega
end Go.Proofs.YtfhghplplkkpmaaGreatDoor
namespace Go.Proofs.YtfhghplplkkpmaaGreatDoor
open Go.RowKit Go.Shelf
set_option maxRecDepth 100000 in
theorem eq_over (w : World) : (binOp BinOp.eql 20 (.iface 89 (.agg #[])) (.iface 89 (.agg #[]))).run Tryz.prog w = .ok (.bool true) w := by
  first | rfl | kernel_rfl | simp [go_sem]
set_option maxRecDepth 100000 in
theorem caught (b : Nat) (x : Int) (older : List PanicEntry) (w : World) (hc : w.cell? ⟨b, 0, none⟩ = some (.int .i64 x)) (hz : w.frozen? ⟨b, 0, none⟩ = false) :
    CallsD Tryz.prog 48 #[.pointer (some ⟨b, 0, none⟩)] (.panicking ({ v := .iface 89 (.agg #[]), recovered := false } :: older)) w fun e u' w' =>
      e = .returned (.tuple #[]) ∧ u' = .panicking ({ v := .iface 89 (.agg #[]), recovered := true } :: older) ∧ w' = w.setCell ⟨b, 0, none⟩ (.int .i64 3) := by
  refine callsD_of_wpS Tryz.func48 rfl fun c₀ cs hu => ?_
  apply wpS_seq
  apply wpS_region
  simp [wpOpsS, go_sem, recoverD, hu, Tryz.ntmps48, Exit.thenS]
  refine wpS_of_wp ?_
  have hE := eq_over
  go_wp2_with fail
  simp [bodyPostS, results, Tryz.results48]
set_option maxRecDepth 100000 in
theorem idle (b : Nat) (w : World) :
    CallsD Tryz.prog 48 #[.pointer (some ⟨b, 0, none⟩)] .returning w fun e u' w' => e = .returned (.tuple #[]) ∧ u' = .returning ∧ w' = w := by
  refine callsD_of_wpS Tryz.func48 rfl fun c₀ cs hu => ?_
  apply wpS_seq
  apply wpS_region
  simp [wpOpsS, go_sem, recoverD, hu, Tryz.ntmps48, Exit.thenS]
  refine wpS_of_wp ?_
  go_wp2_with fail
  cases c₀
  simp_all [bodyPostS, results, Tryz.results48]
end Go.Proofs.YtfhghplplkkpmaaGreatDoor
namespace Go.Proofs.YtfhghplplkkpmaaGreatDoor
end Go.Proofs.YtfhghplplkkpmaaGreatDoor
namespace Go.Proofs.YtfhghplplkkpmaaGreatDoor
open Go.RowKit Go.Shelf
theorem app_none0 {P : Program} {w : World} {ops : Array Oper} {rest : List Oper} {o : Oper} {a : Act} {Q : Exit → Act → World → Prop} (hgd : o.guard = none) (s x : Operand) (t : TypeId)
    (ho : o.op = .call { callee := .builtin .append, args := #[s, x], argTypes := #[t, t] })
    (base : Nat) (e : TypeId) (i : TypeInfo) (size : Nat) (ht : P.underlying t = some (.slice e)) (hi : P.info? e = some i)
    (v : Value) (n c : Nat) (xs : List Value) (hs : a.eval s = v) (hown : w.ownsRow base e size v n xs) (hx : a.eval x = .slice none 0 c)
    (h : wpList P ops Q rest (a.put o.dst v) w) : wpList P ops Q (o :: rest) a w := by
  refine wpList_plain hgd fun K hK => ?_
  have hrun : (Builtin.append_ #[t, t] o.type #[v, .slice none 0 c]).run P w = .ok v w := by
    rcases hown.2 with ⟨rfl, rfl⟩ | ⟨g, cap, cur, rfl, _, _, hnc, _⟩
    · simp [Builtin.append_, run_underlying ht, sizeOf, typeInfo, hi, Builtin.lenOf, Builtin.firstCells]
    · simp [Builtin.append_, run_underlying ht, sizeOf, typeInfo, hi, Builtin.lenOf, Builtin.firstCells, hnc, storeCells]
  unfold Oper.wp
  simp [execOp, ho, resolve, invoke, builtin, hs, hx, hrun, Result.andThen]
  exact hK _ _ h
theorem app_belC {w W X : World} {n : Nat} {e : TypeId} {sz : Nat} {v : Value} {xs : List Value} (hB : Below w.heap.size w W) (h : W.ownsRow w.heap.size e sz v n xs) (hg : W.grownBy X v.ownBlock) : Below w.heap.size w X :=
  hB.grown hg hB.size (fun k hk => (h.lt k hk).1)
theorem info_strY : (Tryz.prog.info? 9).map (fun i => (i.zero, i.size, i.bytes)) = some (some (.string ⟨#[]⟩), 1, 16) := by kernel_rfl
theorem stx_one (L : List (List UInt8)) : ∀ v ∈ stx L, v.oneCell' = true := fun v hv => by
  obtain ⟨z, _, rfl⟩ := List.mem_map.1 hv
  rfl
theorem stx_news {W : World} {ad : Addr} {L : List (List UInt8)} (h : IRSt W (some ad) L) : ∀ j u, (stx L)[j]? = some u → W.cell? (ad.add j) = some u := fun j u hu => by
  unfold stx at hu
  rw [List.getElem?_map] at hu
  cases hz : L[j]? with
  | none => rw [hz] at hu; cases hu
  | some t =>
    rw [hz] at hu
    obtain ⟨g, o0, e1, c0⟩ := h W (Below.refl _ _) j t hz
    injection e1 with e1
    subst e1
    have ea : (⟨g, o0, none⟩ : Addr).add j = ⟨g, o0 + j, none⟩ := by simp [Addr.add]
    rw [ea, c0]
    exact hu
theorem app_st {ops : Array Oper} {rest : List Oper} {o : Oper} {a : Act} {Q : Exit → Act → World → Prop} {w : World} (hgd : o.guard = none) (s x : Operand)
    (ho : o.op = .call { callee := .builtin .append, args := #[s, x], argTypes := #[22, 22] }) (base : Nat) (v : Value) (m : Nat) (xs : List Value) (hs : a.eval s = v) (hown : w.ownsRow base 9 1 v m xs)
    (p : Option Addr) (n k : Nat) (L : List (List UInt8)) (hx : a.eval x = .slice p n k) (hL : L.length = n) (hr : IRSt w p L) (hm : m + n ≤ 10000000) (hbase : base ≤ w.heap.size)
    (h : ∀ v' w', w'.ownsRow base 9 1 v' (m + n) (xs ++ stx L) → w.grownBy w' v.ownBlock → wpList Tryz.prog ops Q rest (a.put o.dst v') w') : wpList Tryz.prog ops Q (o :: rest) a w := by
  obtain ⟨iT, hiT, hzT0, hzT1, hzT2⟩ := info_parts info_strY
  cases p with
  | none =>
    have hz : L = [] := by
      cases hc : L with
      | nil => rfl
      | cons z l =>
        obtain ⟨g, o0, e, -⟩ := hr w (Below.refl _ _) 0 z (by rw [hc]; rfl)
        cases e
    subst hz
    have hn : n = 0 := hL.symm
    subst hn
    refine app_none0 hgd s x 22 ho base 9 iT 1 Tryz.underlying22 hiT v m k xs hs hown hx (h v w ?_ ⟨rfl, rfl, rfl, Nat.le_refl _, fun _ _ _ => rfl⟩)
    have e : xs ++ stx [] = xs := by simp [stx]
    rw [e]
    exact hown
  | some ad =>
    exact wpList_append_own _ hgd s x 22 ho base 9 iT _ 1 16 Tryz.underlying22 hiT hzT0 hzT1 hzT2 rfl (by decide) v m xs hs hown ad n k (stx L) hx (by simp [stx, hL]) (stx_news hr) (stx_one L) (by unfold maxLen; omega) (by omega) hbase (fun v' w' h1 h2 _ => h v' w' h1 h2)
end Go.Proofs.YtfhghplplkkpmaaGreatDoor
namespace Go.Proofs.YtfhghplplkkpmaaGreatDoor
open Go.RowKit Go.Shelf
theorem tes_len10 (L : List ZT) : (tes L).length = L.length * 10 := by
  induction L with
  | nil => rfl
  | cons z l ih =>
    have e : tes (z :: l) = z.cells ++ tes l := rfl
    rw [e, List.length_append, ih, List.length_cons]
    have : z.cells.length = 10 := rfl
    omega
theorem tes_one (L : List ZT) : ∀ v ∈ tes L, v.oneCell' = true := fun v hv => by
  obtain ⟨z, _, hz⟩ := List.mem_flatMap.1 hv
  simp only [ZT.cells, List.mem_cons, List.not_mem_nil, or_false] at hz
  rcases hz with rfl | rfl | rfl | rfl | rfl | rfl | rfl | rfl | rfl | rfl <;> rfl
end Go.Proofs.YtfhghplplkkpmaaGreatDoor
namespace Go.Proofs.YtfhghplplkkpmaaGreatDoor
open Go.RowKit Go.Shelf
/-- an operation that ends the region leaves nothing to walk -/
theorem dummyQ {X : Prop} {P : Program} {md : Region.Mode} {a : Act} {w : World} (hx : X) (_ : wpAny P md #[] (fun _ _ _ => True) 0 #[] a w) : X := hx
end Go.Proofs.YtfhghplplkkpmaaGreatDoor
namespace Go.Proofs.YtfhghplplkkpmaaGreatDoor
open Go.RowKit Go.Shelf
theorem res_sp2 {fn : Func} (tmps : Array Value) (W : World) (b : Nat) (v0 v1 v2 x : Value) {m : Nat × Nat} (hr : fn.results = #[.cell 4 26, .tmp 5]) (hp : tmps.getD 4 undef = .pointer (some ⟨b, 0, none⟩)) (hx : tmps.getD 5 undef = x) (h : W.heap[b]? = some (.cells #[v0, v1, v2] 26 m)) :
    (results fn tmps).run Tryz.prog W = .ok (.tuple #[.agg #[v0, v1, v2], x]) W := by
  have hc : ∀ j, W.cell? ⟨b, j, none⟩ = (#[v0, v1, v2] : Array Value)[j]? := by
    intro j; unfold World.cell?; rw [h]; simp
  have hp' : tmps[4]?.getD undef = .pointer (some ⟨b, 0, none⟩) := by simpa using hp
  have hx' : tmps[5]?.getD undef = x := by simpa using hx
  simp [results, hr, hp', hx', go_sem, hc]
theorem fits_any2 (b x : Int) (p : Option Addr) (n c : Nat) (w : World) : Calls Tryz.prog 20 #[.agg #[.int .i64 b, .slice p n c, .bool false], .int .i64 x] w fun e w' => e = .returned (.bool (!(b == 0) && (b == x))) ∧ Below w.heap.size w w' := by
  obtain ⟨w2, hw2⟩ : ∃ w2, w.alloc (.cells #[.int .i64 b, .slice p n c, .bool false] 26 (0, 0)) = w2 := ⟨_, rfl⟩
  have h0 : w2.heap[w.heap.size]? = some (.cells #[.int .i64 b, .slice p n c, .bool false] 26 (0, 0)) := by rw [← hw2]; exact alloc_get _ _
  have hB : Below w.heap.size w w2 := by rw [← hw2]; exact belA (Below.refl _ _) _
  obtain ⟨hc0, -⟩ := cells_block h0
  have HB : Hid (Below w.heap.size w w2) := hB
  clear h0 hB
  by_cases hz : b = 0
  · have m1 : (b != 0) = false := by simpa using hz
    have m2 : (b == 0) = true := by simpa using hz
    have HR : Hid ((!(b == 0) && (b == x)) = false) := by unfold Hid; rw [m2]; rfl
    clear hz m2
    go_enter Tryz.func20, Tryz.ntmps20
    go_wp2_with fail
    go_ret
    exact ⟨by rw [HR.out]; rfl, HB.out⟩
  · have m1 : (b != 0) = true := by simpa using hz
    have m2 : (b == 0) = false := by simpa using hz
    obtain ⟨q, hq⟩ : ∃ q, (b == x) = q := ⟨_, rfl⟩
    have HR : Hid ((!(b == 0) && (b == x)) = q) := by unfold Hid; rw [m2, hq]; rfl
    clear hz m2
    go_enter Tryz.func20, Tryz.ntmps20
    go_wp2_with fail
    go_ret
    exact ⟨by rw [HR.out]; rfl, HB.out⟩
def jnE (b b2 : Int) (A C : List (List UInt8 × List (List UInt8))) : Int := if (!(b == 0) && (b == b2)) = false then 11 else if szC (topC (A ++ C)) ≤ 128 then 0 else 3
def jnB (b b2 : Int) (A C : List (List UInt8 × List (List UInt8))) : Int := if jnE b b2 A C = 0 then b else 0
def jnT (b b2 : Int) (A C : List (List UInt8 × List (List UInt8))) : List (List UInt8 × List (List UInt8)) := if jnE b b2 A C = 0 then ordT (topC (A ++ C)) else []
end Go.Proofs.YtfhghplplkkpmaaGreatDoor
namespace Go.Proofs.YtfhghplplkkpmaaGreatDoor
open Go.RowKit Go.Shelf
/-- append of no elements, whatever room the slice says it has -/
theorem rts_one (L : List ZT) : ∀ v ∈ rts L, v.oneCell' = true := fun v hv => by
  obtain ⟨z, _, hz⟩ := List.mem_flatMap.1 hv
  simp only [rtc, List.mem_cons, List.not_mem_nil, or_false] at hz
  rcases hz with rfl | rfl <;> rfl
theorem rts_news {W : World} {ad : Addr} {Z : List ZT} (h : IRR W (some ad) Z) : ∀ j u, (rts Z)[j]? = some u → W.cell? (ad.add j) = some u := fun j u hu => by
  have hm : j % 2 < 2 := Nat.mod_lt _ (by omega)
  have e := rts_get Z (j / 2) (j % 2) hm
  rw [show j / 2 * 2 + j % 2 = j by omega, hu] at e
  cases hz : Z[j / 2]? with
  | none => rw [hz] at e; cases e
  | some z =>
    rw [hz] at e
    obtain ⟨g, o0, e1, c0, c1⟩ := h W (Below.refl _ _) _ z hz
    injection e1 with e1
    subst e1
    have ea : (⟨g, o0, none⟩ : Addr).add j = ⟨g, o0 + j, none⟩ := by simp [Addr.add]
    rw [ea]
    rcases (show j % 2 = 0 ∨ j % 2 = 1 by omega) with h0 | h0
    · rw [h0] at e
      rw [show o0 + j = o0 + j / 2 * 2 by omega, c0]
      exact e.symm
    · rw [h0] at e
      rw [show o0 + j = o0 + j / 2 * 2 + 1 by omega, c1]
      exact e.symm
theorem frm_ord {X : List (List UInt8 × List (List UInt8))} (h : ∀ t ∈ X, t.2.Pairwise (fun a b => leB a b = true)) : frmD (topC X) = ordT (topC X) := by
  unfold frmD ordT
  congr 2
  refine List.map_congr_left (fun t ht => ?_)
  rcases topCF_mem X [] t ht with h1 | h1
  · cases h1
  · rw [srtT_id (h t h1)]
end Go.Proofs.YtfhghplplkkpmaaGreatDoor
namespace Go.Proofs.YtfhghplplkkpmaaGreatDoor
open Go.RowKit Go.Shelf
end Go.Proofs.YtfhghplplkkpmaaGreatDoor
namespace Go.Proofs.YtfhghplplkkpmaaGreatDoor
open Go.RowKit

/-- place k of a header suits a cube's -/
def okH (t h : List UInt8) (k : Nat) : Bool := match t[k]?, h[k]? with | some x, some d => (d == 48 || d == 49) && (x == 120 || x == d) | _, _ => true
/-- P1.4 -/
def hasB (t h : List UInt8) : Bool := !t.isEmpty && (t.length == h.length) && allTo (okH t h) t.length

theorem byteH_bne (x : UInt8) (n : Nat) (hn : n < 256) : ((x.toNat : Int) != (n : Int)) = !(x == UInt8.ofNat n) := by
  unfold bne
  congr 1
  rw [Bool.eq_iff_iff, beq_iff_eq, beq_iff_eq]
  constructor
  · intro e
    have : x.toNat = n := by omega
    rw [← this]; simp
  · intro e; subst e
    simp [UInt8.toNat_ofNat', Nat.mod_eq_of_lt hn]

theorem byteH_bne2 (x y : UInt8) : ((x.toNat : Int) != (y.toNat : Int)) = !(x == y) := by
  unfold bne
  congr 1
  rw [Bool.eq_iff_iff, beq_iff_eq, beq_iff_eq]
  constructor
  · intro e; exact UInt8.toNat_inj.1 (by omega)
  · intro e; subst e; rfl

theorem okH_eq (t : List UInt8) (s : ByteArray) (k : Nat) (hk : k < t.length) (hks : k < s.size) (p1 p2 p3 p4 : Bool) (n1 : ((s[k].toNat : Int) != 48) = p1) (n2 : ((s[k].toNat : Int) != 49) = p2) (n3 : ((t[k].toNat : Int) != 120) = p3) (n4 : ((t[k].toNat : Int) != (s[k].toNat : Int)) = p4) :
    okH t s.data.toList k = !((p1 && p2) || (p3 && p4)) := by
  have e1 := byteH_bne s[k] 48 (by decide)
  have e2 := byteH_bne s[k] 49 (by decide)
  have e3 := byteH_bne t[k] 120 (by decide)
  have e4 := byteH_bne2 t[k] s[k]
  have hs : s.data.toList[k]? = some s[k] := by rw [List.getElem?_eq_getElem (by simpa using hks)]; rfl
  simp only [okH, hs, List.getElem?_eq_getElem hk]
  subst n1 n2 n3 n4
  have f1 : ((s[k].toNat : Int) != 48) = !(s[k] == 48) := e1
  have f2 : ((s[k].toNat : Int) != 49) = !(s[k] == 49) := e2
  have f3 : ((t[k].toNat : Int) != 120) = !(t[k] == 120) := e3
  rw [f1, f2, f3, e4]
  cases (s[k] == 48) <;> cases (s[k] == 49) <;> cases (t[k] == 120) <;> cases (t[k] == s[k]) <;> rfl

theorem okH_succ {p : Nat → Bool} {k : Nat} {q : Bool} (h : ∀ j, j < k → p j = true) (hk : p k = q) (hq : q = true := by rfl) : ∀ j, j < k + 1 → p j = true := by
  intro j hj
  by_cases e : j = k
  · subst e; rw [hk, hq]
  · exact h j (by omega)

end Go.Proofs.YtfhghplplkkpmaaGreatDoor
namespace Go.Proofs.YtfhghplplkkpmaaGreatDoor
open Go.RowKit
/-- a header is in a term -/
def thB (c : List UInt8) (L : List (List UInt8)) (h : List UInt8) : Bool := hasB c h && L.all (fun m => !hasB m h)
end Go.Proofs.YtfhghplplkkpmaaGreatDoor
namespace Go.Proofs.YtfhghplplkkpmaaGreatDoor
open Go.RowKit
/-- a header is in one of the terms -/
def hsB (Ts : List (List UInt8 × List (List UInt8))) (h : List UInt8) : Bool := Ts.any (fun t => thB t.1 t.2 h)
theorem any_noV {α : Type} {L : List α} {p : α → Bool} {n : Nat} (hn : L.length ≤ n) (h : ∀ j t, j < n → L[j]? = some t → p t = false) : L.any p = false := by
  rw [List.any_eq_false]
  intro t ht
  obtain ⟨j, hj, he⟩ := List.getElem_of_mem ht
  rw [h j t (by omega) (by rw [List.getElem?_eq_getElem hj, he])]
  simp
end Go.Proofs.YtfhghplplkkpmaaGreatDoor
namespace Go.Proofs.YtfhghplplkkpmaaGreatDoor
open Go.RowKit Go.Shelf
def digB (d : UInt8) : Bool := d == 48 || d == 49
/-- a header of that width -/
def hdB (b : Int) (l : List UInt8) : Bool := ((l.length : Int) == b) && !(b == 0) && l.all digB
theorem dig_succ {s : ByteArray} {k : Nat} (hk : k < s.size) (h : ∀ j (h : j < s.data.toList.length), j < k → digB s.data.toList[j] = true) (c : s[k] = 48 ∨ s[k] = 49) : ∀ j (h : j < s.data.toList.length), j < k + 1 → digB s.data.toList[j] = true := by
  intro j hj hlt
  by_cases e : j < k
  · exact h j hj e
  · obtain rfl : j = k := by omega
    have e2 : s.data.toList[j] = s[j] := rfl
    rw [e2]
    unfold digB
    rcases c with c | c <;> rw [c] <;> rfl
end Go.Proofs.YtfhghplplkkpmaaGreatDoor
namespace Go.Proofs.YtfhghplplkkpmaaGreatDoor
open Go.RowKit Go.Shelf
/-- the document's: a header is in a term -/
def tdB (c : List UInt8) (L : List (List UInt8)) (h : List UInt8) : Bool := wiB h c && L.all (fun m => !wiB h m)
theorem good_hd {b : Int} {l : List UInt8} (h : hdB b l = true) (hb : b ≤ 256) : good l = true := by
  unfold hdB at h
  obtain ⟨h1, h2⟩ := Bool.and_eq_true_iff.1 h
  have h3 : (l.length : Int) = b := by simpa using (Bool.and_eq_true_iff.1 h1).1
  have h4 := List.all_eq_true.1 h2
  unfold good
  rw [Bool.and_eq_true, List.all_eq_true]
  refine ⟨by simp; omega, fun x hx => ?_⟩
  have h5 := h4 x hx
  unfold digB at h5
  unfold tri
  rcases Bool.or_eq_true_iff.1 h5 with h5 | h5 <;> rw [h5] <;> simp
end Go.Proofs.YtfhghplplkkpmaaGreatDoor
namespace Go.Proofs.YtfhghplplkkpmaaGreatDoor
open Go.RowKit Go.Shelf
/-- every term of what is read has its form, and its width -/
theorem prT_ft (b : Int) (l : List UInt8) : ∀ t ∈ prT b l, FTm t ∧ (t.1.length : Int) = b ∧ 1 ≤ b ∧ b ≤ 256 ∧ prE b l = 0 := fun t ht => by
  unfold prT at ht
  split at ht
  · rename_i h0
    obtain ⟨h1, h2, h3⟩ := prE_zero h0
    split at ht
    · cases ht
    · rename_i hn
      rcases h3 with h3 | h3
      · exact absurd h3 hn
      · obtain ⟨hf, y, hy, he⟩ := FTm_form (gdC_tcon h3) t ht
        refine ⟨hf, ?_, h1, h2, h0⟩
        obtain ⟨p, hp, rfl⟩ := List.mem_map.1 hy
        have h4 := List.all_eq_true.1 h3 p hp
        have hne := prts_ne 45 p
        have : (tcon p).1.length = b.toNat := by
          unfold tcon
          unfold okT at h4
          cases hc : prts 45 p with
          | nil => rw [hc] at hne; exact absurd hne (by simp)
          | cons c r =>
            rw [hc] at h4
            have h5 := List.all_eq_true.1 h4 c List.mem_cons_self
            unfold okP at h5
            simpa using (Bool.and_eq_true_iff.1 h5).2
        rw [← he, this]
        omega
  · cases ht
theorem okH_at {t h : List UInt8} {k : Nat} (hk : k < t.length) (hk2 : k < h.length) : okH t h k = ((h[k] == 48 || h[k] == 49) && (t[k] == 120 || t[k] == h[k])) := by
  unfold okH
  rw [List.getElem?_eq_getElem hk, List.getElem?_eq_getElem hk2]
theorem has_wi {t h : List UInt8} (hl : t.length = h.length) (hd : h.all digB = true) : hasB t h = wiB h t := by
  have hd' := List.all_eq_true.1 hd
  unfold hasB wiB fitB
  have e1 : t.isEmpty = h.isEmpty := by
    cases t <;> cases h <;> first | rfl | (simp at hl)
  rw [e1, hl, Bool.eq_iff_iff]
  simp only [Bool.and_eq_true, allTo_iff]
  refine and_congr (by simp) (forall_congr' fun k => forall_congr' fun hk => ?_)
  rw [okH_at (by omega) hk, List.getElem?_eq_getElem hk, List.getElem?_eq_getElem (show k < t.length by omega)]
  have h1 := hd' _ (List.getElem_mem hk)
  unfold digB at h1
  rw [h1, Bool.true_and]
  simp only [Bool.or_eq_true, beq_iff_eq]
  exact ⟨fun h => h.imp id Eq.symm, fun h => h.imp id Eq.symm⟩
theorem has_hd {b : Int} {t h : List UInt8} (hb : (t.length : Int) = b) (h1 : 1 ≤ b) (hh : hdB b h = false) : hasB t h = false := by
  cases hc : hasB t h with
  | false => rfl
  | true =>
    unfold hasB at hc
    obtain ⟨h2, h3⟩ := Bool.and_eq_true_iff.1 hc
    have h4 : t.length = h.length := by simpa using (Bool.and_eq_true_iff.1 h2).2
    have h5 := (allTo_iff _ _).1 h3
    have : hdB b h = true := by
      unfold hdB
      rw [← h4, show ((t.length : Int) == b) = true by simpa using hb, show (b == 0) = false by simp; omega]
      simp only [Bool.not_false, Bool.and_true, Bool.true_and]
      refine List.all_eq_true.2 (fun x hx => ?_)
      obtain ⟨k, hk, rfl⟩ := List.getElem_of_mem hx
      have h6 := h5 k (by omega)
      rw [okH_at (by omega) hk] at h6
      exact (Bool.and_eq_true_iff.1 h6).1
    rw [this] at hh
    cases hh
theorem any_congrB {α : Type} {L : List α} {p q : α → Bool} (h : ∀ t ∈ L, p t = q t) : L.any p = L.any q := by
  induction L with
  | nil => rfl
  | cons x l ih => rw [List.any_cons, List.any_cons, h x List.mem_cons_self, ih (fun t ht => h t (List.mem_cons_of_mem _ ht))]
theorem all_congrB {α : Type} {L : List α} {p q : α → Bool} (h : ∀ t ∈ L, p t = q t) : L.all p = L.all q := by
  induction L with
  | nil => rfl
  | cons x l ih => rw [List.all_cons, List.all_cons, h x List.mem_cons_self, ih (fun t ht => h t (List.mem_cons_of_mem _ ht))]
/-- the program's Has is the document's -/
theorem hs_eq (b : Int) (l h : List UInt8) : hsB (prT b l) h = (hdB (prB b l) h && (prT b l).any (fun t => tdB t.1 t.2 h)) := by
  have hF := prT_ft b l
  unfold hsB
  by_cases hX : prT b l = []
  · rw [hX]; simp
  · obtain ⟨t0, ht0⟩ : ∃ t, t ∈ prT b l := by
      cases hx : prT b l with
      | nil => exact absurd hx hX
      | cons t r => exact ⟨t, List.mem_cons_self⟩
    have e0 : prB b l = b := by unfold prB; rw [if_pos (hF t0 ht0).2.2.2.2]
    rw [e0]
    cases hh : hdB b h with
    | false =>
      rw [Bool.false_and, List.any_eq_false]
      intro t ht
      obtain ⟨hf, hl, h1, h2, -⟩ := hF t ht
      unfold thB
      rw [has_hd hl h1 hh]
      simp
    | true =>
      rw [Bool.true_and]
      refine any_congrB (fun t ht => ?_)
      obtain ⟨hf, hl, h1, h2, -⟩ := hF t ht
      have hd : h.all digB = true := (Bool.and_eq_true_iff.1 hh).2
      have hln : (h.length : Int) = b := by simpa using (Bool.and_eq_true_iff.1 (Bool.and_eq_true_iff.1 hh).1).1
      unfold thB tdB
      rw [has_wi (by omega) hd]
      congr 1
      refine all_congrB (fun m hm => ?_)
      have h3 := hf.wi m hm
      unfold wiB at h3
      have h4 := fitB_len (Bool.and_eq_true_iff.1 h3).1
      rw [has_wi (by omega) hd]
end Go.Proofs.YtfhghplplkkpmaaGreatDoor
namespace Go.Proofs.YtfhghplplkkpmaaGreatDoor
open Go.RowKit Go.Shelf
theorem jn_ok (b b2 : Int) (A C : List (List UInt8 × List (List UInt8))) (hg1 : gdC A) (hg2 : gdC C) : gdC (jnT b b2 A C) ∧ szC (jnT b b2 A C) ≤ 128 := by
  unfold jnT
  split
  · rename_i h
    have h2 : szC (topC (A ++ C)) ≤ 128 := by
      unfold jnE at h
      split at h
      · exact absurd h (by decide)
      · split at h
        · assumption
        · exact absurd h (by decide)
    refine ⟨gdC_ord (gdC_top (fun t ht => ?_)), by rw [szC_ord]; exact h2⟩
    rcases List.mem_append.1 ht with ht | ht
    · exact hg1 t ht
    · exact hg2 t ht
  · exact ⟨(fun t h => by cases h), Nat.zero_le _⟩
theorem prB_ge (b : Int) (l : List UInt8) : 0 ≤ prB b l := by
  unfold prB
  split
  · rename_i h
    have := (prE_zero h).1
    omega
  · exact Int.le_refl _
end Go.Proofs.YtfhghplplkkpmaaGreatDoor
namespace Go.Proofs.YtfhghplplkkpmaaGreatDoor
open Go.RowKit Go.Shelf
/-- what each two terms have in common, not yet in its form -/
def cmN (A C : List (List UInt8 × List (List UInt8))) : List (List UInt8 × List (List UInt8)) := A.flatMap (fun a => C.filterMap (fun c => if agB a.1 c.1 = true then some (mtT a.1 c.1, a.2 ++ c.2) else none))
theorem cmN_step {A C : List (List UInt8 × List (List UInt8))} {i : Nat} {a : List UInt8 × List (List UInt8)} (h : A[i]? = some a) : cmN (A.take (i + 1)) C = cmN (A.take i) C ++ cmN [a] C := by
  unfold cmN
  rw [List.take_add_one, h, List.flatMap_append]
  rfl
theorem cmN_sing (a : List UInt8 × List (List UInt8)) (C : List (List UInt8 × List (List UInt8))) : cmN [a] C = C.filterMap (fun c => if agB a.1 c.1 = true then some (mtT a.1 c.1, a.2 ++ c.2) else none) := by
  unfold cmN
  rw [List.flatMap_cons, List.flatMap_nil, List.append_nil]
theorem cmN_one {C : List (List UInt8 × List (List UInt8))} {j : Nat} {a c : List UInt8 × List (List UInt8)} (h : C[j]? = some c) : cmN [a] (C.take (j + 1)) = cmN [a] (C.take j) ++ (if agB a.1 c.1 = true then [(mtT a.1 c.1, a.2 ++ c.2)] else []) := by
  rw [cmN_sing, cmN_sing, List.take_add_one, h, List.filterMap_append]
  congr 1
  by_cases hq : agB a.1 c.1 = true
  · simp [hq]
  · simp [hq]
theorem prT_fix (b : Int) (l : List UInt8) : ordT (topC (stl (prT b l))) = prT b l := by
  by_cases hX : prT b l = []
  · rw [hX]; simp [ordT, srtLn, topC, stl]
  · have h0 : prE b l = 0 := by
      by_cases h : prE b l = 0
      · exact h
      · exact absurd (by unfold prT; rw [if_neg h]) hX
    have hn : ¬ l = [110, 111, 110, 101] := fun hc => hX (by unfold prT; rw [if_pos h0, if_pos hc])
    have hT : prT b l = ordT (topC (stl ((prts 43 l).map tcon))) := by unfold prT; rw [if_pos h0, if_neg hn]
    rw [hT]
    exact form_id (gdC_tcon ((prE_zero h0).2.2.resolve_left hn))
theorem rep_get (n k : Nat) (hk : k < n) : (List.replicate n (120 : UInt8))[k]? = some 120 := by rw [List.getElem?_replicate, if_pos hk]
theorem rep_good (n : Nat) (hn : n ≤ 256) : good (List.replicate n 120) = true := by
  unfold good
  rw [Bool.and_eq_true, List.all_eq_true]
  refine ⟨by simpa using hn, fun x hx => ?_⟩
  rw [(List.mem_replicate.1 hx).2]
  rfl
theorem wi_rep {c : List UInt8} (h : c ≠ []) : wiB c (List.replicate c.length 120) = true := by
  unfold wiB
  rw [Bool.and_eq_true, allTo_iff]
  refine ⟨fit_of h (by simp), fun k hk => ?_⟩
  rw [rep_get _ _ hk, List.getElem?_eq_getElem hk]
  rfl
/-- all headers leave a cube as it is -/
theorem mt_rep {c : List UInt8} (h : c ≠ []) (gc : good c = true) : agB c (List.replicate c.length 120) = true ∧ mtT c (List.replicate c.length 120) = c := by
  have h1 := wi_eq c (List.replicate c.length 120) gc (rep_good _ (good_le gc))
  rw [wi_rep h] at h1
  obtain ⟨h2, h3⟩ := Bool.and_eq_true_iff.1 h1
  exact ⟨h2, by simpa using h3⟩
theorem mt_rep2 {c : List UInt8} (h : c ≠ []) : agB (List.replicate c.length 120) c = true ∧ mtT (List.replicate c.length 120) c = c := by
  have hf : fitB (List.replicate c.length 120) c = true := fit_of (by intro e; apply h; have := congrArg List.length e; simpa using this) (by simp)
  have ha : agB (List.replicate c.length 120) c = true := agB_all _ _ hf (fun k hk => by
    unfold cfl fx
    rw [rep_get _ _ (by simpa using hk)]
    simp)
  refine ⟨ha, ?_⟩
  unfold mtT
  rw [if_pos ha]
  apply List.ext_getElem?
  intro k
  by_cases hk : k < c.length
  · rw [meetT_get _ _ (by simp) k (by simpa using hk), List.getElem?_eq_getElem hk]
    simp
  · rw [List.getElem?_eq_none (by rw [meetT_len _ _ (by simp)]; simp; omega), List.getElem?_eq_none (by omega)]
theorem cm_all1 {C : List (List UInt8 × List (List UInt8))} {n : Nat} (h : ∀ t ∈ C, t.1.length = n ∧ t.1 ≠ []) : cmN [(List.replicate n 120, [])] C = C := by
  rw [cmN_sing]
  induction C with
  | nil => rfl
  | cons c l ih =>
    have h1 := h c List.mem_cons_self
    have h2 := mt_rep2 h1.2
    rw [h1.1] at h2
    have ih' := ih (fun t ht => h t (List.mem_cons_of_mem _ ht))
    rw [List.filterMap_cons_some (b := c) (by rw [if_pos h2.1, h2.2]; rfl), ih']
theorem cm_all2 {A : List (List UInt8 × List (List UInt8))} {n : Nat} (h : ∀ t ∈ A, t.1.length = n ∧ t.1 ≠ [] ∧ good t.1 = true) : cmN A [(List.replicate n 120, [])] = A := by
  induction A with
  | nil => rfl
  | cons a l ih =>
    have h1 := h a List.mem_cons_self
    have h2 := mt_rep h1.2.1 h1.2.2
    rw [h1.1] at h2
    have ih' := ih (fun t ht => h t (List.mem_cons_of_mem _ ht))
    have e : cmN (a :: l) [(List.replicate n 120, [])] = cmN [a] [(List.replicate n 120, [])] ++ cmN l [(List.replicate n 120, [])] := by
      unfold cmN
      simp only [List.flatMap_cons, List.flatMap_nil, List.append_nil]
    rw [e, ih', cmN_sing, List.filterMap_cons_some (b := a) (by rw [if_pos h2.1, h2.2, List.append_nil])]
    rfl
theorem gdC_cm {A C : List (List UInt8 × List (List UInt8))} (h1 : gdC A) (h2 : gdC C) : gdC (cmN A C) := fun t ht => by
  unfold cmN at ht
  obtain ⟨a, ha, ht⟩ := List.mem_flatMap.1 ht
  obtain ⟨c, hc, he⟩ := List.mem_filterMap.1 ht
  split at he
  · obtain rfl := Option.some.inj he
    refine ⟨good_mtT _ _ (h1 a ha).1 (h2 c hc).1, fun x hx => ?_⟩
    rcases List.mem_append.1 hx with hx | hx
    · exact (h1 a ha).2 x hx
    · exact (h2 c hc).2 x hx
  · cases he
end Go.Proofs.YtfhghplplkkpmaaGreatDoor
namespace Go.Proofs.YtfhghplplkkpmaaGreatDoor
open Go.RowKit Go.Shelf
end Go.Proofs.YtfhghplplkkpmaaGreatDoor
namespace Go.Proofs.YtfhghplplkkpmaaGreatDoor
open Go.RowKit Go.Shelf
def mnE (b b2 : Int) (A C : List (List UInt8 × List (List UInt8))) : Int := if (!(b == 0) && (b == b2)) = false then 11 else if 2048 < A.length * C.length then 3 else if szC (topC (stl (cmN A C))) ≤ 128 then 0 else 3
def mnB (b b2 : Int) (A C : List (List UInt8 × List (List UInt8))) : Int := if mnE b b2 A C = 0 then b else 0
def mnT (b b2 : Int) (A C : List (List UInt8 × List (List UInt8))) : List (List UInt8 × List (List UInt8)) := if mnE b b2 A C = 0 then ordT (topC (stl (cmN A C))) else []
theorem stD_app (X Y : List (List UInt8 × List (List UInt8))) : stD (X ++ Y) = stD X ++ stD Y := by unfold stD; rw [List.filterMap_append]
theorem stD_sing (c : List UInt8) (L : List (List UInt8)) : stD [(c, L)] = match setO c L with | none => [] | some R => [(c, srtT R)] := by
  unfold stD
  cases h : setO c L <;> simp [h]
theorem stD_len (X : List (List UInt8 × List (List UInt8))) : (stD X).length ≤ X.length := List.length_filterMap_le _ _
theorem cmN_len2 (A C : List (List UInt8 × List (List UInt8))) : (cmN A C).length ≤ A.length * C.length := by
  induction A with
  | nil => simp [cmN]
  | cons a l ih =>
    have e : cmN (a :: l) C = cmN [a] C ++ cmN l C := by
      unfold cmN
      simp only [List.flatMap_cons, List.flatMap_nil, List.append_nil]
    have h1 : (cmN [a] C).length ≤ C.length := by rw [cmN_sing]; exact List.length_filterMap_le _ _
    rw [e, List.length_append, List.length_cons, Nat.succ_mul]
    omega
theorem cm_most (Z1 Z2 : List ZT) (k j : Nat) (x : List UInt8 × List (List UInt8)) (h1 : Z1.length ≤ 128) (h2 : Z2.length ≤ 128) : (stD (cmN ((Z1.take k).map ZT.cont) (Z2.map ZT.cont) ++ cmN [x] ((Z2.take j).map ZT.cont))).length ≤ 16512 := by
  have h3 := stD_len (cmN ((Z1.take k).map ZT.cont) (Z2.map ZT.cont) ++ cmN [x] ((Z2.take j).map ZT.cont))
  rw [List.length_append] at h3
  have h4 := cmN_len2 ((Z1.take k).map ZT.cont) (Z2.map ZT.cont)
  have h5 := cmN_len2 [x] ((Z2.take j).map ZT.cont)
  rw [List.length_map, List.length_take, List.length_map] at h4
  rw [List.length_map, List.length_take, List.length_singleton] at h5
  have h6 : min k Z1.length * Z2.length ≤ 128 * 128 := Nat.mul_le_mul (by omega) h2
  omega
end Go.Proofs.YtfhghplplkkpmaaGreatDoor
namespace Go.Proofs.YtfhghplplkkpmaaGreatDoor
open Go.RowKit Go.Shelf
/-- what of a term lies in the list of what is taken away -/
def wtI (x : List UInt8 × List (List UInt8)) (L : List (List UInt8)) : List (List UInt8 × List (List UInt8)) := L.filterMap (fun n => if agB x.1 n = true then some (mtT x.1 n, x.2) else none)
/-- the terms less one more, raw -/
def wtN (X : List (List UInt8 × List (List UInt8))) (c : List UInt8) (L : List (List UInt8)) : List (List UInt8 × List (List UInt8)) := X.flatMap (fun x => (x.1, x.2 ++ [c]) :: wtI x L)
def tkE (X : List (List UInt8 × List (List UInt8))) (c : List UInt8) (L : List (List UInt8)) : Int := if 2048 < X.length * (1 + L.length) then 3 else if szC (topC (stl (wtN X c L))) ≤ 128 then 0 else 3
def tkB (b : Int) (X : List (List UInt8 × List (List UInt8))) (c : List UInt8) (L : List (List UInt8)) : Int := if tkE X c L = 0 then b else 0
def tkT (X : List (List UInt8 × List (List UInt8))) (c : List UInt8) (L : List (List UInt8)) : List (List UInt8 × List (List UInt8)) := if tkE X c L = 0 then ordT (topC (stl (wtN X c L))) else []
theorem wtN_step {X : List (List UInt8 × List (List UInt8))} {c : List UInt8} {L : List (List UInt8)} {i : Nat} {a : List UInt8 × List (List UInt8)} (h : X[i]? = some a) : wtN (X.take (i + 1)) c L = wtN (X.take i) c L ++ ((a.1, a.2 ++ [c]) :: wtI a L) := by
  unfold wtN
  rw [List.take_add_one, h, List.flatMap_append]
  simp
theorem wtI_step {x : List UInt8 × List (List UInt8)} {L : List (List UInt8)} {j : Nat} {n : List UInt8} (h : L[j]? = some n) : wtI x (L.take (j + 1)) = wtI x (L.take j) ++ (if agB x.1 n = true then [(mtT x.1 n, x.2)] else []) := by
  unfold wtI
  rw [List.take_add_one, h, List.filterMap_append]
  congr 1
  by_cases hq : agB x.1 n = true <;> simp [hq]
theorem wtI_len (x : List UInt8 × List (List UInt8)) (L : List (List UInt8)) : (wtI x L).length ≤ L.length := List.length_filterMap_le _ _
theorem wtN_cons (x : List UInt8 × List (List UInt8)) (X : List (List UInt8 × List (List UInt8))) (c : List UInt8) (L : List (List UInt8)) : wtN (x :: X) c L = ((x.1, x.2 ++ [c]) :: wtI x L) ++ wtN X c L := by
  unfold wtN
  rw [List.flatMap_cons]
theorem wtN_len (X : List (List UInt8 × List (List UInt8))) (c : List UInt8) (L : List (List UInt8)) : (wtN X c L).length ≤ X.length * (1 + L.length) := by
  induction X with
  | nil => simp [wtN]
  | cons x r ih =>
    have h := wtI_len x L
    rw [wtN_cons, List.length_append, List.length_cons, List.length_cons, Nat.succ_mul]
    omega
theorem wt_most (Z1 : List ZT) (c : List UInt8) (L : List (List UInt8)) (k j : Nat) (x y : List UInt8 × List (List UInt8)) (h1 : Z1.length ≤ 128) (h2 : L.length ≤ 128) : (stD (wtN ((Z1.take k).map ZT.cont) c L ++ (y :: wtI x (L.take j)))).length ≤ 20000 := by
  have h3 := stD_len (wtN ((Z1.take k).map ZT.cont) c L ++ (y :: wtI x (L.take j)))
  rw [List.length_append, List.length_cons] at h3
  have h4 := wtN_len ((Z1.take k).map ZT.cont) c L
  have h5 := wtI_len x (L.take j)
  rw [List.length_map, List.length_take] at h4
  rw [List.length_take] at h5
  have h6 : min k Z1.length * (1 + L.length) ≤ 128 * 129 := Nat.mul_le_mul (by omega) (by omega)
  omega
theorem wt_all (X : List (List UInt8 × List (List UInt8))) (c : List UInt8) (L : List (List UInt8)) (h1 : X.length ≤ 128) (h2 : L.length ≤ 128) : (stD (wtN X c L)).length ≤ 20000 := by
  have h3 := stD_len (wtN X c L)
  have h4 := wtN_len X c L
  have h6 : X.length * (1 + L.length) ≤ 128 * 129 := Nat.mul_le_mul h1 (by omega)
  omega
theorem wtI_sz (x : List UInt8 × List (List UInt8)) (L : List (List UInt8)) : szC (wtI x L) ≤ L.length * (1 + x.2.length) := by
  unfold wtI
  induction L with
  | nil => simp [szC]
  | cons n r ih =>
    rw [List.filterMap_cons, List.length_cons, Nat.succ_mul]
    by_cases hq : agB x.1 n = true
    · rw [if_pos hq]
      simp only [szC]
      omega
    · rw [if_neg hq]
      simp only
      omega
theorem wtN_sz (X : List (List UInt8 × List (List UInt8))) (c : List UInt8) (L : List (List UInt8)) : szC (wtN X c L) ≤ (2 + L.length) * szC X := by
  induction X with
  | nil => simp [wtN, szC]
  | cons x r ih =>
    have h := wtI_sz x L
    have e : (2 + L.length) * (1 + x.2.length) = 2 * (1 + x.2.length) + L.length * (1 + x.2.length) := Nat.add_mul _ _ _
    rw [wtN_cons, szC_append, szC, szC, Nat.mul_add, e]
    simp only [List.length_append, List.length_singleton]
    omega
theorem wt_sz (X : List (List UInt8 × List (List UInt8))) (c : List UInt8) (L : List (List UInt8)) (h1 : szC X ≤ 128) (h2 : L.length ≤ 128) : szC (topC (stl (wtN X c L))) ≤ 1000000 := by
  have h3 := szC_top (wtN X c L)
  have h4 := wtN_sz X c L
  have h5 : (2 + L.length) * szC X ≤ 130 * 128 := Nat.mul_le_mul (by omega) h1
  omega
theorem IRSt_blk {W : World} {g : Nat} {u : List UInt8} (h : W.heap[g]? = some (.cells #[.string ⟨u.toArray⟩] 9 (0, 0))) : IRSt W (some ⟨g, 0, none⟩) [u] := fun X hX k t ht => by
  have hb := keepblk3 hX h
  refine ⟨g, 0, rfl, ?_⟩
  match k, ht with
  | 0, ht =>
    have e : u = t := by simpa using ht
    subst e
    have := (cells_block hb).1 0
    rw [this]
    rfl
  | k + 1, ht => simp at ht
end Go.Proofs.YtfhghplplkkpmaaGreatDoor
