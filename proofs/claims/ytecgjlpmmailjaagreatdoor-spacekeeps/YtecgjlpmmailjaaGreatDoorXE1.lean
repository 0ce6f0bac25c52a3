import Derived.Test.YtecgjlpmmailjaaGreatDoorXAH
import Derived.Laws.OwnMore
import Derived.ArgAppend
import Derived.OwnWalk
import Derived.Maps.AppendAt
import Derived.Deep.AppendLies
import Derived.Lib.AppendStr
import Derived.Laws.EntriesVeiled
import Derived.BigQuiet
import Derived.Deep.RegionHeld3
namespace Go.Proofs.YtecgjlpmmailjaaGreatDoor
open Go.RowKit
/-- the mark of the k-th of the n-th list -/
def mkC (n k : Nat) : List UInt8 := List.replicate (1 + (37 * n + k) % 256) 120
theorem mkC_good (n k : Nat) : good (mkC n k) = true := good_replicate _ (by omega)
def mks (n m : Nat) : List (List UInt8) := (List.range m).map (mkC n)
def mkG (n j : Nat) : List (List UInt8) := (List.range j).map (fun k => mkC n (131 + k))
theorem mks_len (n m : Nat) : (mks n m).length = m := by simp [mks]
theorem mkG_len (n m : Nat) : (mkG n m).length = m := by simp [mkG]
theorem mkG_succ (n j : Nat) : mkG n (j + 1) = mkG n j ++ [mkC n (131 + j)] := by simp [mkG, List.range_succ]
theorem mks_at (n : Nat) {m k : Nat} (h : k < m) : (mks n m)[k]? = some (mkC n k) := by simp [mks, h]
theorem mkG_at (n : Nat) {m k : Nat} (h : k < m) : (mkG n m)[k]? = some (mkC n (131 + k)) := by simp [mkG, h]
theorem quiet_litL {P : Program} {id : Nat} {Q : Exit → Act → World → Prop} {a : Act} {w : World} {l : List Oper} {C : World → Prop} (hm : P.follows .mixedOrders = true) (hB : Region.lexB .any l.toArray = true) (hC : C w.drew)
    (h : wpQuiet P l.toArray C (fun a' => ∀ w', C w' → Q .normal a' w') l a) : (Code.region id l.toArray true).wp P Q a w :=
  wp_region_quiet (C := C) hm hB hC (by simpa using h)
theorem res_cubeL {fn : Func} {p : Tmp} {m : Nat × Nat} (tmps : Array Value) (W : World) (b : Nat) (x : List UInt8) (hr : fn.results = #[.cell p 58]) (hp : tmps.getD p undef = .pointer (some ⟨b, 0, none⟩)) (h : W.heap[b]? = some (.cells #[.int .i64 (x.length : Int), .int .u64 (FW x 0 : Int), .int .u64 (FW x 1 : Int), .int .u64 (FW x 2 : Int), .int .u64 (FW x 3 : Int), .int .u64 (OW x 0 : Int), .int .u64 (OW x 1 : Int), .int .u64 (OW x 2 : Int), .int .u64 (OW x 3 : Int)] 58 m)) :
    (results fn tmps).run Tryz.prog W = .ok (.agg #[.int .i64 (x.length : Int), .int .u64 (FW x 0 : Int), .int .u64 (FW x 1 : Int), .int .u64 (FW x 2 : Int), .int .u64 (FW x 3 : Int), .int .u64 (OW x 0 : Int), .int .u64 (OW x 1 : Int), .int .u64 (OW x 2 : Int), .int .u64 (OW x 3 : Int)]) W := by
  have hc : ∀ j, W.cell? ⟨b, j, none⟩ = (#[.int .i64 (x.length : Int), .int .u64 (FW x 0 : Int), .int .u64 (FW x 1 : Int), .int .u64 (FW x 2 : Int), .int .u64 (FW x 3 : Int), .int .u64 (OW x 0 : Int), .int .u64 (OW x 1 : Int), .int .u64 (OW x 2 : Int), .int .u64 (OW x 3 : Int)] : Array Value)[j]? := by
    intro j; unfold World.cell?; rw [h]; simp
  have hp' : tmps[p]?.getD undef = .pointer (some ⟨b, 0, none⟩) := by simpa using hp
  simp [results, hr, hp', go_sem, hc]
theorem put9L {W : World} {b T : Nat} {m : Nat × Nat} {x0 x1 x2 x3 x4 x5 x6 x7 x8 : Value} (v0 v1 v2 v3 v4 v5 v6 v7 v8 : Value) (h : W.heap[b]? = some (.cells #[x0, x1, x2, x3, x4, x5, x6, x7, x8] T m)) :
    (((((((((W.setCell ⟨b, 0, none⟩ v0).setCell ⟨b, 1, none⟩ v1).setCell ⟨b, 2, none⟩ v2).setCell ⟨b, 3, none⟩ v3).setCell ⟨b, 4, none⟩ v4).setCell ⟨b, 5, none⟩ v5).setCell ⟨b, 6, none⟩ v6).setCell ⟨b, 7, none⟩ v7).setCell ⟨b, 8, none⟩ v8).heap[b]? = some (.cells #[v0, v1, v2, v3, v4, v5, v6, v7, v8] T m) := by
  have h0 := set_get (j := 0) v0 h
  have h1 := set_get (j := 1) v1 h0
  have h2 := set_get (j := 2) v2 h1
  have h3 := set_get (j := 3) v3 h2
  have h4 := set_get (j := 4) v4 h3
  have h5 := set_get (j := 5) v5 h4
  have h6 := set_get (j := 6) v6 h5
  have h7 := set_get (j := 7) v7 h6
  have h8 := set_get (j := 8) v8 h7
  simpa using h8
set_option maxRecDepth 100000 in
set_option maxHeartbeats 4000000 in
theorem mark_any (n k : Nat) (w : World) (hn : n ≤ 1000) (hk : k ≤ 100000) : Calls Tryz.prog 24 #[.int .i64 (n : Int), .int .i64 (k : Int)] w fun e w' => e = .returned (.agg #[.int .i64 ((mkC n k).length : Int), .int .u64 (FW (mkC n k) 0 : Int), .int .u64 (FW (mkC n k) 1 : Int), .int .u64 (FW (mkC n k) 2 : Int), .int .u64 (FW (mkC n k) 3 : Int), .int .u64 (OW (mkC n k) 0 : Int), .int .u64 (OW (mkC n k) 1 : Int), .int .u64 (OW (mkC n k) 2 : Int), .int .u64 (OW (mkC n k) 3 : Int)]) ∧ Below w.heap.size w w' := by
  obtain ⟨x, hx⟩ : ∃ x, mkC n k = x := ⟨_, rfl⟩
  obtain ⟨q, hq⟩ : ∃ q : Nat, 37 * n + k = q := ⟨_, rfl⟩
  have e1 : IntKind.i64.wrap (37 * (n : Int)) = 37 * (n : Int) := by rw [IntKind.wrap_i64]; omega
  have e2 : 37 * (n : Int) + (k : Int) = (q : Int) := by omega
  have e3 : IntKind.i64.wrap (q : Int) = (q : Int) := by rw [IntKind.wrap_i64]; omega
  obtain ⟨m, hm⟩ : ∃ m : Nat, q % 256 = m := ⟨_, rfl⟩
  have e4 : (q : Int).tmod 256 = (m : Int) := by rw [← hm]; rfl
  have e5 : IntKind.i64.wrap (m : Int) = (m : Int) := by rw [IntKind.wrap_i64]; omega
  obtain ⟨m1, hm1⟩ : ∃ m1 : Nat, 1 + m = m1 := ⟨_, rfl⟩
  have e6 : (1 : Int) + (m : Int) = (m1 : Int) := by omega
  have e7 : IntKind.i64.wrap (m1 : Int) = (m1 : Int) := by rw [IntKind.wrap_i64]; omega
  have HA : Hid (∀ W, Calls Tryz.prog 37 #[.int .i64 (m1 : Int)] W fun e w' => e = .returned (.agg #[.int .i64 (x.length : Int), .int .u64 (FW x 0 : Int), .int .u64 (FW x 1 : Int), .int .u64 (FW x 2 : Int), .int .u64 (FW x 3 : Int), .int .u64 (OW x 0 : Int), .int .u64 (OW x 1 : Int), .int .u64 (OW x 2 : Int), .int .u64 (OW x 3 : Int)]) ∧ Below W.heap.size W w') := fun W => by
    refine (all_any (m1 : Int) W).mono ?_
    rintro e w' ⟨rfl, hb⟩
    refine ⟨?_, hb⟩
    rw [if_pos ⟨by omega, by omega⟩, ← hx, Int.toNat_natCast]
    unfold mkC
    rw [hq, hm, hm1]
    rfl
  rw [hx]
  clear hx hq hm hm1
  have hk0 := alloc_get w (.cells #[.int .i64 0, .int .u64 0, .int .u64 0, .int .u64 0, .int .u64 0, .int .u64 0, .int .u64 0, .int .u64 0, .int .u64 0] 58 (0, 0))
  go_enter Tryz.func24, Tryz.ntmps24
  go_wp2_with fail
  refine (HA.out _).mono ?_
  rintro e w1 ⟨rfl, hb1⟩
  have hk1 := keepblk3 hb1 hk0
  obtain ⟨c1, c2⟩ := cells_block hk1
  have hp := put9L (.int .i64 (x.length : Int)) (.int .u64 (FW x 0 : Int)) (.int .u64 (FW x 1 : Int)) (.int .u64 (FW x 2 : Int)) (.int .u64 (FW x 3 : Int)) (.int .u64 (OW x 0 : Int)) (.int .u64 (OW x 1 : Int)) (.int .u64 (OW x 2 : Int)) (.int .u64 (OW x 3 : Int)) hk1
  have hB : Below w.heap.size w ((((((((((w1.setCell ⟨w.heap.size, 0, none⟩ (.int .i64 (x.length : Int))).setCell ⟨w.heap.size, 1, none⟩ (.int .u64 (FW x 0 : Int))).setCell ⟨w.heap.size, 2, none⟩ (.int .u64 (FW x 1 : Int))).setCell ⟨w.heap.size, 3, none⟩ (.int .u64 (FW x 2 : Int))).setCell ⟨w.heap.size, 4, none⟩ (.int .u64 (FW x 3 : Int))).setCell ⟨w.heap.size, 5, none⟩ (.int .u64 (OW x 0 : Int))).setCell ⟨w.heap.size, 6, none⟩ (.int .u64 (OW x 1 : Int))).setCell ⟨w.heap.size, 7, none⟩ (.int .u64 (OW x 2 : Int))).setCell ⟨w.heap.size, 8, none⟩ (.int .u64 (OW x 3 : Int)))) := (((((((((bel0 (belA (Below.refl _ _) _) hb1).setCell (p := ⟨w.heap.size, 0, none⟩) (by show w.heap.size ≤ w.heap.size; exact Nat.le_refl _) _).setCell (p := ⟨w.heap.size, 1, none⟩) (by show w.heap.size ≤ w.heap.size; exact Nat.le_refl _) _).setCell (p := ⟨w.heap.size, 2, none⟩) (by show w.heap.size ≤ w.heap.size; exact Nat.le_refl _) _).setCell (p := ⟨w.heap.size, 3, none⟩) (by show w.heap.size ≤ w.heap.size; exact Nat.le_refl _) _).setCell (p := ⟨w.heap.size, 4, none⟩) (by show w.heap.size ≤ w.heap.size; exact Nat.le_refl _) _).setCell (p := ⟨w.heap.size, 5, none⟩) (by show w.heap.size ≤ w.heap.size; exact Nat.le_refl _) _).setCell (p := ⟨w.heap.size, 6, none⟩) (by show w.heap.size ≤ w.heap.size; exact Nat.le_refl _) _).setCell (p := ⟨w.heap.size, 7, none⟩) (by show w.heap.size ≤ w.heap.size; exact Nat.le_refl _) _).setCell (p := ⟨w.heap.size, 8, none⟩) (by show w.heap.size ≤ w.heap.size; exact Nat.le_refl _) _
  go_wp2_with fail
  refine bodyPost_ret (v := .agg #[.int .i64 (x.length : Int), .int .u64 (FW x 0 : Int), .int .u64 (FW x 1 : Int), .int .u64 (FW x 2 : Int), .int .u64 (FW x 3 : Int), .int .u64 (OW x 0 : Int), .int .u64 (OW x 1 : Int), .int .u64 (OW x 2 : Int), .int .u64 (OW x 3 : Int)]) (res_cubeL _ _ w.heap.size x Tryz.results24 rfl hp) rfl ⟨rfl, hB⟩
/-- what an answer tells -/
def tdC (L : List (List UInt8)) : List UInt8 := L.flatMap (fun x => x ++ [32])
def tdT (E : Int) (L : List (List UInt8)) : List UInt8 := if E = 0 then tdC L else [114, 101, 102, 117, 115, 101, 100]
theorem tdC_succ {L : List (List UInt8)} {i : Nat} {x : List UInt8} (h : L[i]? = some x) : tdC (L.take (i + 1)) = tdC (L.take i) ++ x ++ [32] := by
  unfold tdC
  rw [List.take_add_one, h, List.flatMap_append]
  simp
theorem tdC_len : ∀ (L : List (List UInt8)), (∀ x ∈ L, good x = true) → (tdC L).length ≤ L.length * 257
  | [], _ => Nat.zero_le _
  | x :: L, h => by
    have h1 := good_len (h x List.mem_cons_self)
    have h2 := tdC_len L (fun y hy => h y (List.mem_cons_of_mem _ hy))
    have e : tdC (x :: L) = (x ++ [32]) ++ tdC L := rfl
    rw [e, List.length_append, List.length_append]
    simp only [List.length_cons, List.length_nil]
    omega
set_option maxRecDepth 100000 in
set_option maxHeartbeats 4000000 in
theorem told_any (L : List (List UInt8)) (n : Nat) (p : Option Addr) (cp : Nat) (E : Int) (w : World) (hn : L.length = n) (hN : n ≤ 4096) (hr : IRC w p L) (hg : ∀ x ∈ L, good x = true) : Calls Tryz.prog 7 #[.slice p n cp, .int .i64 E] w fun e w' => e = .returned (.string ⟨(tdT E L).toArray⟩) ∧ Below w.heap.size w w' := by
  obtain ⟨i0, hi, hz0, hz1, hz2⟩ := info_parts info_u8
  have HR : Hid (IRC w p L) := hr
  have HG : Hid (L.length = n ∧ ∀ x ∈ L, good x = true) := ⟨hn, hg⟩
  clear hr hn hg
  by_cases hE : E = 0
  · subst hE
    have e0 : tdT 0 L = tdC L := by unfold tdT; rw [if_pos rfl]
    rw [e0]
    clear e0
    go_enter Tryz.func7, Tryz.ntmps7
    go_wp2_with fail
    go_loopw [5, 6] (fun v5 v6 wr => ∃ (i tl cv : Nat) (pv : Option Addr), v6 = .int .i64 (i : Int) ∧ v5 = .slice pv tl cv ∧ i ≤ n ∧ Hid ((tdC (L.take i)).length = tl ∧ wr.ownsRow w.heap.size 5 1 (.slice pv tl cv) tl (bys (tdC (L.take i))) ∧ Below w.heap.size w wr)) (fun _ v6 _ => n - (intOf v6).toNat)
    case atStart => exact ⟨0, 0, 0, none, rfl, rfl, Nat.zero_le _, rfl, World.ownsRow_nil _ _ _ _, Below.refl _ _⟩
    case round =>
      obtain ⟨i, tl, cv, pv, rfl, rfl, hin, HI⟩ := hrel
      by_cases hlt : i < n
      · have j1 : (i : Int) < (n : Int) := by omega
        have j0 : (0 : Int) ≤ (i : Int) := by omega
        obtain ⟨x, hx⟩ : ∃ x, L[i]? = some x := ⟨_, List.getElem?_eq_getElem (by rw [HG.out.1]; exact hlt)⟩
        obtain ⟨g, o0, rfl, p0, p1, p2, p3, p4, p5, p6, p7, p8⟩ := HR.out wr HI.out.2.2 i x hx
        have gx := HG.out.2 x (List.mem_of_getElem? hx)
        have HTX : Hid (Calls Tryz.prog 23 #[.agg #[.int .i64 (x.length : Int), .int .u64 (FW x 0 : Int), .int .u64 (FW x 1 : Int), .int .u64 (FW x 2 : Int), .int .u64 (FW x 3 : Int), .int .u64 (OW x 0 : Int), .int .u64 (OW x 1 : Int), .int .u64 (OW x 2 : Int), .int .u64 (OW x 3 : Int)]] wr fun e w' => e = .returned (.string ⟨x.toArray⟩) ∧ Below wr.heap.size wr w') := text_any x wr gx
        have HO : Hid ((∃ T, T.length = tl ∧ wr.ownsRow w.heap.size 5 1 (.slice pv tl cv) tl (bys T) ∧ tdC (L.take (i + 1)) = T ++ x ++ [32]) ∧ Below w.heap.size w wr ∧ tl ≤ i * 257 ∧ x.length ≤ 256) := by
          obtain ⟨h1, h2, h3⟩ := HI.out
          refine ⟨⟨_, h1, h2, tdC_succ hx⟩, h3, ?_, good_len gx⟩
          have := tdC_len (L.take i) (fun y hy => HG.out.2 y (List.mem_of_mem_take hy))
          rw [h1, List.length_take] at this
          have h2 : min i L.length * 257 ≤ i * 257 := Nat.mul_le_mul_right _ (Nat.min_le_left _ _)
          omega
        clear hx HI gx
        go_wp2_with fail
        refine HTX.out.mono ?_
        rintro e w3 ⟨rfl, hb3⟩
        clear p0 p1 p2 p3 p4 p5 p6 p7 p8 HTX
        obtain ⟨⟨T, hTl, ho, hS⟩, hB, htl, hxl⟩ := HO.out
        have o3 := own_belQ ho hb3
        have hB3 := bel0 hB hb3
        have hs3 := hB3.size
        have hsz : (⟨x.toArray⟩ : ByteArray).size = x.length := by simp [ByteArray.size]
        have HB3 : Hid (Below w.heap.size w w3) := hB3
        have HS : Hid (tdC (L.take (i + 1)) = T ++ x ++ [32] ∧ T.length = tl) := ⟨hS, hTl⟩
        clear ho hB hb3 hB3 HO hS hTl
        obtain ⟨xl, hxs⟩ : ∃ xl, x.length = xl := ⟨_, rfl⟩
        rw [hxs] at hsz hxl
        have HXS : Hid (x.length = xl) := hxs
        clear hxs
        go_wp2_with (at_builtin; first | (refine Lib.wpList_append_own_string _ rfl _ _ 60 9 rfl w.heap.size 5 i0 Tryz.underlying60 Tryz.underlying9 hi hz0 hz1 hz2 _ _ _ rfl o3 ⟨x.toArray⟩ rfl (by rw [hsz]; unfold maxLen; omega) (by rw [hsz]; omega) hs3 ?_; intro v5 w5 o5 g5 _; rw [hsz] at o5; have hs5 : w.heap.size ≤ w5.heap.size := (Nat.le_trans hs3 g5.size); have HB5 : Hid (Below w.heap.size w w5) := (HB3.out.grown g5 hs3 (fun k e => (o3.lt k e).1)); obtain ⟨p5, c5, rfl⟩ := shapeQ1 o5; clear o3 g5) | (refine wpList_append_own _ rfl _ _ 60 rfl w.heap.size 5 i0 _ 1 1 Tryz.underlying60 hi hz0 hz1 hz2 rfl (by decide) _ _ _ rfl (o5.alloc _) ⟨_, 0, none⟩ 1 1 [.int .u8 32] rfl rfl (World.news_of_block (cs := #[.int .u8 32]) (t := 5) (fr := (0, 0)) (alloc_get _ _)) (by simp [Value.oneCell']) (by unfold maxLen; omega) (by omega) (by simp; omega) ?_; intro v9 w9 o9 g9 _; obtain ⟨p9, c9, rfl⟩ := shapeQ1 o9))
        have HX : Hid ((tdC (L.take (i + 1))).length = tl + xl + 1 ∧ w9.ownsRow w.heap.size 5 1 (.slice p9 (tl + xl + 1) c9) (tl + xl + 1) (bys (tdC (L.take (i + 1)))) ∧ Below w.heap.size w w9) := by
          obtain ⟨h1, h2⟩ := HS.out
          refine ⟨?_, ?_, (belA HB5.out _).grown g9 (by simp; omega) (fun k e => (o5.lt k e).1)⟩
          · rw [h1, List.length_append, List.length_append, h2, HXS.out]; rfl
          · have e : bys (tdC (L.take (i + 1))) = (bys T ++ Lib.strCells ⟨x.toArray⟩) ++ [.int .u8 32] := by
              rw [h1]
              unfold bys
              rw [List.map_append, List.map_append]
              rfl
            rw [e]
            exact o9
        clear o5 o9 g9
        go_wp2_with fail
        go_roundw
        case rel => exact ⟨i + 1, tl + xl + 1, c9, p9, by go_num, rfl, by omega, HX⟩
        case measure => simp [intOf]; omega
      · have j1 : ¬ (i : Int) < (n : Int) := by omega
        have HE : Hid ((tdC L).length = tl ∧ wr.ownsRow w.heap.size 5 1 (.slice pv tl cv) tl (bys (tdC L)) ∧ Below w.heap.size w wr) := by
          have e : L.take i = L := List.take_of_length_le (by rw [HG.out.1]; omega)
          have := HI.out
          rw [e] at this
          exact this
        have hcv := conv_any wr w.heap.size (.slice pv tl cv) (tdC L) (by rw [HE.out.1]; exact HE.out.2.1)
        clear HI
        go_wp2_with fail
        go_ret
        exact ⟨rfl, HE.out.2.2⟩
  · have hE2 : (E != 0) = true := by simpa using hE
    have e0 : tdT E L = [114, 101, 102, 117, 115, 101, 100] := by unfold tdT; rw [if_neg hE]
    rw [e0]
    go_enter Tryz.func7, Tryz.ntmps7
    go_wp2_with fail
    go_ret
    exact ⟨rfl, Below.refl _ _⟩
end Go.Proofs.YtecgjlpmmailjaaGreatDoor
namespace Go.Proofs.YtecgjlpmmailjaaGreatDoor
open Go.RowKit
/-- an owned row of cubes -/
def OWC (W : World) (B : Nat) (v : Value) (L : List (List UInt8)) : Prop := W.ownsRow B 58 9 v L.length (ces L)
/-- a value's block is not the one that is written -/
def offK (row : Option Nat) (v : Value) : Prop := v.ownBlock = none ∨ v.ownBlock ≠ row
theorem OWC.kept {W X : World} {B : Nat} {v : Value} {L : List (List UInt8)} {row : Option Nat} (h : OWC W B v L) (hg : W.grownBy X row) (ho : offK row v) : OWC X B v L := World.ownsRow.kept h hg ho
theorem OWC.below {W X : World} {B : Nat} {v : Value} {L : List (List UInt8)} (h : OWC W B v L) (hb : Below W.heap.size W X) : OWC X B v L := own_belQ h hb
theorem OWC.lt {W : World} {B : Nat} {v : Value} {L : List (List UInt8)} (h : OWC W B v L) : ∀ b, v.ownBlock = some b → B ≤ b ∧ b < W.heap.size := World.ownsRow.lt h
/-- a row of cubes that is read -/
def RDC (W : World) (v : Value) (L : List (List UInt8)) : Prop := ∃ p c, v = .slice p L.length c ∧ ∀ (i : Nat) (x : List UInt8), L[i]? = some x → ∃ g, p = some ⟨g, 0, none⟩ ∧ CB W g (i * 9) x
theorem OWC.rd {W : World} {B : Nat} {v : Value} {L : List (List UInt8)} (h : OWC W B v L) : RDC W v L := by
  have h0 := h
  rcases own_shapeQ h0 with ⟨e, hn⟩ | ⟨g, c, e, -⟩
  · have hL := List.eq_nil_of_length_eq_zero hn
    subst hL
    exact ⟨none, 0, e, fun i x hx => by cases hx⟩
  · subst e
    refine ⟨some ⟨g, 0, none⟩, c, rfl, fun i x hx => ⟨g, rfl, ?_⟩⟩
    obtain ⟨hi, he⟩ := List.getElem?_eq_some_iff.1 hx
    exact ce_at h0 hi he
theorem RDC.below {W X : World} {v : Value} {L : List (List UInt8)} (h : RDC W v L) (hb : Below W.heap.size W X) : RDC X v L := by
  obtain ⟨p, c, e, hc⟩ := h
  exact ⟨p, c, e, fun i x hx => by
    obtain ⟨g, e1, h1⟩ := hc i x hx
    exact ⟨g, e1, h1.below hb⟩⟩
theorem ces_appL (A S : List (List UInt8)) : ces (A ++ S) = ces A ++ ces S := List.flatMap_append
theorem ces_lenL (L : List (List UInt8)) : (ces L).length = L.length * 9 := by
  induction L with
  | nil => rfl
  | cons a r ih =>
    show (ce9 a ++ ces r).length = _
    rw [List.length_append, ih, List.length_cons]
    simp [ce9]
    omega
/-- a list, and what goes on from it: in its own block, or in a block of its own -/
def GRK (W : World) (B N2 : Nat) (v : Value) (A : List (List UInt8)) (G : Value) (S : List (List UInt8)) : Prop :=
  (∃ g c, v = .slice (some ⟨g, 0, none⟩) A.length c ∧ G = .slice (some ⟨g, 0, none⟩) (A ++ S).length c ∧ OWC W B G (A ++ S)) ∨ (OWC W N2 G (A ++ S) ∧ OWC W B v A)
theorem GRK.start {W : World} {B N2 : Nat} {v : Value} {A : List (List UInt8)} (h : OWC W B v A) : GRK W B N2 v A v [] := by
  have h0 := h
  rcases own_shapeQ h0 with ⟨e, hn⟩ | ⟨g, c, e, -⟩
  · have hL := List.eq_nil_of_length_eq_zero hn
    subst hL e
    exact .inr ⟨World.ownsRow_nil _ _ _ _, h⟩
  · refine .inl ⟨g, c, e, ?_, ?_⟩
    · rw [List.append_nil]; exact e
    · rw [List.append_nil]; exact h
theorem GRK.blk {W : World} {B N2 : Nat} {v G : Value} {A S : List (List UInt8)} (h : GRK W B N2 v A G S) : G.ownBlock = v.ownBlock ∨ ∀ b, G.ownBlock = some b → N2 ≤ b := by
  rcases h with ⟨g, c, rfl, rfl, -⟩ | ⟨h, -⟩
  · exact .inl rfl
  · exact .inr (fun b e => (h.lt b e).1)
theorem GRK.lt {W : World} {B N2 : Nat} {v G : Value} {A S : List (List UInt8)} (h : GRK W B N2 v A G S) : (∀ b, G.ownBlock = some b → b < W.heap.size) ∧ (∀ b, v.ownBlock = some b → b < W.heap.size) := by
  rcases h with ⟨g, c, rfl, rfl, o⟩ | ⟨h, h2⟩
  · exact ⟨fun b e => (o.lt b e).2, fun b e => (o.lt b e).2⟩
  · exact ⟨fun b e => (h.lt b e).2, fun b e => (h2.lt b e).2⟩
theorem GRK.shape {W : World} {B N2 : Nat} {v G : Value} {A S : List (List UInt8)} (h : GRK W B N2 v A G S) : ∃ q c, G = .slice q (A ++ S).length c := by
  rcases h with ⟨g, c, rfl, rfl, o⟩ | ⟨h, h2⟩
  · exact ⟨_, _, rfl⟩
  · exact shapeQ1 h
theorem GRK.kept {W X : World} {B N2 : Nat} {v G : Value} {A S : List (List UInt8)} {row : Option Nat} (h : GRK W B N2 v A G S) (hg : W.grownBy X row) (h1 : offK row v) (h2 : offK row G) : GRK X B N2 v A G S := by
  rcases h with ⟨g, c, e1, e2, o⟩ | ⟨a, b⟩
  · exact .inl ⟨g, c, e1, e2, o.kept hg h2⟩
  · exact .inr ⟨a.kept hg h2, b.kept hg h1⟩
theorem GRK.below {W X : World} {B N2 : Nat} {v G : Value} {A S : List (List UInt8)} (h : GRK W B N2 v A G S) (hb : Below W.heap.size W X) : GRK X B N2 v A G S := by
  rcases h with ⟨g, c, e1, e2, o⟩ | ⟨a, b⟩
  · exact .inl ⟨g, c, e1, e2, o.below hb⟩
  · exact .inr ⟨a.below hb, b.below hb⟩
theorem OWC.pre {W : World} {B g c : Nat} {A S : List (List UInt8)} (o : OWC W B (.slice (some ⟨g, 0, none⟩) (A ++ S).length c) (A ++ S)) : OWC W B (.slice (some ⟨g, 0, none⟩) A.length c) A := by
  have h := own_cut (i := A.length) (by rw [List.length_append]; omega) o
  rw [ces_appL, ← ces_lenL, List.take_left] at h
  exact h
theorem GRK.rd {W : World} {B N2 : Nat} {v G : Value} {A S : List (List UInt8)} (h : GRK W B N2 v A G S) : RDC W v A ∧ RDC W G (A ++ S) := by
  rcases h with ⟨g, c, rfl, rfl, o⟩ | ⟨a, b⟩
  · exact ⟨o.pre.rd, o.rd⟩
  · exact ⟨b.rd, a.rd⟩
/-- one cube more -/
theorem grow1 {W : World} {B N2 nb : Nat} {v G : Value} {A S : List (List UInt8)} (x : List UInt8) (ty : TypeId) (h : GRK W B N2 v A G S) (hnb : W.heap[nb]? = some (.cells #[.int .i64 (x.length : Int), .int .u64 (FW x 0 : Int), .int .u64 (FW x 1 : Int), .int .u64 (FW x 2 : Int), .int .u64 (FW x 3 : Int), .int .u64 (OW x 0 : Int), .int .u64 (OW x 1 : Int), .int .u64 (OW x 2 : Int), .int .u64 (OW x 3 : Int)] 58 (0, 0))) (hN : N2 ≤ W.heap.size) (hv : ∀ b, v.ownBlock = some b → b < N2) (hlen : (A ++ S).length ≤ 10000) :
    ∃ G' W', (Builtin.append_ #[32, 32] ty #[G, .slice (some ⟨nb, 0, none⟩) 1 1]).run Tryz.prog W = .ok G' W' ∧ GRK W' B N2 v A G' (S ++ [x]) ∧ W.grownBy W' G.ownBlock := by
  obtain ⟨i0, hi, hz0, hz1, hz2⟩ := info_parts info_cubeQ
  have hnews := World.news_of_block hnb
  have hone : ∀ u ∈ ce9 x, u.oneCell' = true := by simp [ce9, Value.oneCell']
  have eA : A ++ (S ++ [x]) = (A ++ S) ++ [x] := (List.append_assoc _ _ _).symm
  have eL : (A ++ (S ++ [x])).length = (A ++ S).length + 1 := by rw [eA, List.length_append]; rfl
  have eC : ces (A ++ (S ++ [x])) = ces (A ++ S) ++ ce9 x := by rw [eA, ces_snoc]
  rcases h with ⟨g, c, rfl, rfl, o⟩ | ⟨a, b⟩
  · by_cases room : (A ++ S).length + 1 ≤ c
    · obtain ⟨W', hr, o2, g2⟩ := run_append_fits (P := Tryz.prog) W B 32 ty 58 i0 9 Tryz.underlying32 hi hz1 g _ c _ o ⟨nb, 0, none⟩ 1 1 (ce9 x) rfl hnews hone room
      refine ⟨_, W', hr, .inl ⟨g, c, rfl, by rw [eL], ?_⟩, g2⟩
      unfold OWC
      rw [eL, eC]
      exact o2
    · obtain ⟨v', W', hr, o2, g2⟩ := run_append_arg_grows (P := Tryz.prog) W 32 ty 58 i0 _ 9 72 Tryz.underlying32 hi hz0 hz1 hz2 rfl (by decide) ⟨g, 0, none⟩ (A ++ S).length c (ces (A ++ S)) (ces_lenL _) (World.ownsRow.cells o rfl) ⟨nb, 0, none⟩ 1 1 (ce9 x) rfl hnews (by omega) (by unfold maxLen; omega) (by omega)
      have o3 : OWC W' N2 v' (A ++ (S ++ [x])) := by
        unfold OWC
        rw [eL, eC]
        exact own_base o2 hN
      refine ⟨v', W', hr, .inr ⟨o3, o.pre.kept g2 (.inr (by simp [Value.ownBlock]))⟩, ⟨g2.1, g2.2, g2.3, g2.4, fun k hk _ => g2.5 k hk (by simp)⟩⟩
  · obtain ⟨v', W', hr, o2, g2, -⟩ := run_append_own_at (P := Tryz.prog) W N2 32 ty 58 i0 _ 9 72 Tryz.underlying32 hi hz0 hz1 hz2 rfl (by decide) G _ _ a ⟨nb, 0, none⟩ 1 1 (ce9 x) rfl hnews hone (by unfold maxLen; omega) (by omega) hN
    have o3 : OWC W' N2 v' (A ++ (S ++ [x])) := by
      unfold OWC
      rw [eL, eC]
      exact o2
    refine ⟨v', W', hr, .inr ⟨o3, b.kept g2 ?_⟩, g2⟩
    cases hvb : v.ownBlock with
    | none => exact .inl hvb
    | some b1 =>
      refine .inr (fun e => ?_)
      rw [hvb] at e
      have := (a.lt b1 e.symm).1
      have := hv b1 hvb
      omega
end Go.Proofs.YtecgjlpmmailjaaGreatDoor
