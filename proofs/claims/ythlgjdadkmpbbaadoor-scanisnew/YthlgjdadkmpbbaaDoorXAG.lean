import Derived.Test.YthlgjdadkmpbbaaDoorXAF
import Derived.Laws.Rows
import Derived.Shelf.Utf8.AppendRunePlain
import Derived.Ground.NamesProg
import Derived.Test.YthlgjdadkmpbbaaDoorProg
import Derived.Test.YthlgjdadkmpbbaaDoorXAC
import Derived.Laws.OwnMore
namespace Go.Proofs.YthlgjdadkmpbbaaDoor
open Go.RowKit
/-- the escapes of one letter -/
abbrev shortsL : List (Int × Int) := [(34, 34), (92, 92), (110, 10), (114, 13), (116, 9)]
abbrev shortsC : Array Value := #[.int .i32 34, .int .i32 34, .int .i32 92, .int .i32 92, .int .i32 110, .int .i32 10, .int .i32 114, .int .i32 13, .int .i32 116, .int .i32 9]
/-- the table of the escapes lies there -/
def SH (w : World) : Prop := ∃ t fr, w.heap[1]? = some (.cells shortsC t fr)
theorem SH.below {w W : World} (h : SH w) (hb : Below w.heap.size w W) : SH W := by
  obtain ⟨t, fr, h⟩ := h
  exact ⟨t, fr, (hb.block _ (lt_of_get h)).trans h⟩
/-- what the escape of that letter says -/
def shO (x : Int) : Option Int := if x = 34 then some 34 else if x = 92 then some 92 else if x = 110 then some 10 else if x = 114 then some 13 else if x = 116 then some 9 else none
set_option maxRecDepth 100000 in
theorem idx_short (k : Nat) (z : Int × Int) (h : shortsL[k]? = some z) (W : World) : Sem.run Tryd.prog (Instr.index 82 (.agg shortsC) (.int .i64 (k : Int))) W = .ok (.agg #[.int .i32 z.1, .int .i32 z.2]) W := by
  match k, h with
  | 0, h => obtain rfl := Option.some.inj h; rfl
  | 1, h => obtain rfl := Option.some.inj h; rfl
  | 2, h => obtain rfl := Option.some.inj h; rfl
  | 3, h => obtain rfl := Option.some.inj h; rfl
  | 4, h => obtain rfl := Option.some.inj h; rfl
  | k + 5, h => simp at h
theorem SH.cell {w : World} (h : SH w) (j : Nat) : w.cell? ⟨1, j, none⟩ = shortsC[j]? := by
  obtain ⟨t, fr, h⟩ := h
  exact cell_of_row w _ j _ _ _ h
end Go.Proofs.YthlgjdadkmpbbaaDoor
namespace Go.Proofs
open Go.Shelf
def Tryd.l242_ren : Go.Shelf.Ren := ⟨fun | 242 => 31 | 278 => 42 | n => n, fun | 37 => 46 | 21 => 21 | 51 => 78 | 4 => 4 | 5 => 5 | 46 => 92 | n => n, fun | n => n⟩
theorem Tryd.l242 : Go.Proofs.Lays.n242 Tryd.prog Tryd.l242_ren := {
  mixed := by kernel_rfl
  f242 := Tryd.func31.trans (congrArg some (by kernel_rfl))
  f278 := Tryd.func42.trans (congrArg some (by kernel_rfl))
  t4 := Tryd.underlying4
  a4 := Tryd.isAgg4
  z4 := Tryd.sizeOf4
  v4 := Tryd.zeroValue4
  t5 := Tryd.underlying5
  a5 := Tryd.isAgg5
  z5 := Tryd.sizeOf5
  v5 := Tryd.zeroValue5
  t21 := Tryd.underlying21
  a21 := Tryd.isAgg21
  z21 := Tryd.sizeOf21
  v21 := Tryd.zeroValue21
  t37 := Tryd.underlying46
  a37 := Tryd.isAgg46
  z37 := Tryd.sizeOf46
  v37 := Tryd.zeroValue46
  t46 := Tryd.underlying92
  a46 := Tryd.isAgg92
  z46 := Tryd.sizeOf92
  v46 := Tryd.zeroValue92
  t51 := Tryd.underlying78
  a51 := Tryd.isAgg78
  z51 := Tryd.sizeOf78
  v51 := Tryd.zeroValue78 }
end Go.Proofs
namespace Go.Proofs.YthlgjdadkmpbbaaDoor
open Go.RowKit Go.Shelf
theorem shO_some {x y : Int} (h : shO x = some y) : 0 ≤ y ∧ y < 256 := by
  unfold shO at h
  repeat' split at h
  all_goals first
    | (injection h with h; omega)
    | cases h
theorem shO_of {k : Nat} {z : Int × Int} (hz : shortsL[k]? = some z) : shO z.1 = some z.2 := by
  match k, hz with
  | 0, hz => obtain rfl := Option.some.inj hz; rfl
  | 1, hz => obtain rfl := Option.some.inj hz; rfl
  | 2, hz => obtain rfl := Option.some.inj hz; rfl
  | 3, hz => obtain rfl := Option.some.inj hz; rfl
  | 4, hz => obtain rfl := Option.some.inj hz; rfl
  | k + 5, hz => simp at hz
/-- what escapeAt answers: how many characters, and a row of its own with what is said -/
def escR (w : World) (m : Nat) (b : List UInt8) (e : Ending) (w' : World) : Prop := ∃ v, e = .returned (.tuple #[v, .int .i64 (m : Int)]) ∧ w'.ownsRow w.heap.size 5 1 v b.length (Lib.byteCells b) ∧ Below w.heap.size w w'
set_option maxRecDepth 100000 in
set_option maxHeartbeats 1000000 in
theorem esc_short (ad : Addr) (n cap : Nat) (r : Int) (w : World) (hn : 2 ≤ n) (hn2 : n ≤ 16385) (h1 : w.cell? (ad.add 2) = some (.int .i32 r)) (g1 : r ≠ 120) (g2 : r ≠ 117) (hsh : SH w) :
    Calls Tryd.prog 32 #[.slice (some ad) n cap] w fun e w' => escR w (if shO r = none then 0 else 2) ((shO r).elim [] (fun y => [UInt8.ofNat y.toNat])) e w' := by
  have h1' : w.cell? ⟨ad.block, ad.off + 2, none⟩ = some (.int .i32 r) := by simpa [Addr.add] using h1
  have c0 : w.cell? ⟨1, 0, none⟩ = some (.int .i32 34) := hsh.cell 0
  have c1 : w.cell? ⟨1, 1, none⟩ = some (.int .i32 34) := hsh.cell 1
  have c2 : w.cell? ⟨1, 2, none⟩ = some (.int .i32 92) := hsh.cell 2
  have c3 : w.cell? ⟨1, 3, none⟩ = some (.int .i32 92) := hsh.cell 3
  have c4 : w.cell? ⟨1, 4, none⟩ = some (.int .i32 110) := hsh.cell 4
  have c5 : w.cell? ⟨1, 5, none⟩ = some (.int .i32 10) := hsh.cell 5
  have c6 : w.cell? ⟨1, 6, none⟩ = some (.int .i32 114) := hsh.cell 6
  have c7 : w.cell? ⟨1, 7, none⟩ = some (.int .i32 13) := hsh.cell 7
  have c8 : w.cell? ⟨1, 8, none⟩ = some (.int .i32 116) := hsh.cell 8
  have c9 : w.cell? ⟨1, 9, none⟩ = some (.int .i32 9) := hsh.cell 9
  have hix := fun k z h W => idx_short k z h W
  have e1 : (r == 120) = false := beq_eq_false_iff_ne.2 g1
  have e2 : (r == 117) = false := beq_eq_false_iff_ne.2 g2
  have i1 : (1 : Int) < (n : Int) := by omega
  clear hsh
  obtain ⟨M, hM0⟩ : ∃ M, (if shO r = none then 0 else 2) = M := ⟨_, rfl⟩
  obtain ⟨B, hB0⟩ : ∃ B, ((shO r).elim [] (fun y => [UInt8.ofNat y.toNat])) = B := ⟨_, rfl⟩
  rw [hM0, hB0]
  have hM : Hid ((if shO r = none then 0 else 2) = M) := hM0
  have hBB : Hid (((shO r).elim [] (fun y => [UInt8.ofNat y.toNat])) = B) := hB0
  clear hM0 hB0
  go_enter Tryd.func32, Tryd.ntmps32
  go_wp2_with fail
  go_loopw [17] (fun vk wr => ∃ k : Nat, vk = .int .i64 k ∧ k ≤ 5 ∧ (∀ (j : Nat) (z : Int × Int), j < k → shortsL[j]? = some z → z.1 ≠ r) ∧ Below w.heap.size w wr) (fun vk _ => 5 - (intOf vk).toNat)
  case atStart => exact ⟨0, rfl, by omega, fun j z hj => by omega, Below.refl _ _⟩
  case round =>
    clear c0 c1 c2 c3 c4 c5 c6 c7 c8 c9 h1 h1'
    obtain ⟨k, rfl, hk, hno, hB⟩ := hrel
    by_cases hk5 : k < 5
    · have hk5' : (k : Int) < 5 := by omega
      obtain ⟨z, hz⟩ : ∃ z, shortsL[k]? = some z := ⟨_, List.getElem?_eq_getElem hk5⟩
      have hx := fun W => hix k z hz W
      obtain ⟨z1, z2⟩ := z
      simp only at hx
      have HN : Hid (∀ (j : Nat) (z : Int × Int), j < k → shortsL[j]? = some z → z.1 ≠ r) := hno
      have HZ : Hid (shortsL[k]? = some (z1, z2)) := hz
      clear hix hno hz
      by_cases hzr : z1 = r
      · subst hzr
        have ho := shO_of HZ.out
        have hq := shO_some ho
        have hm : M = 2 := by rw [← hM.out, ho]; rfl
        have hb : B = [UInt8.ofNat z2.toNat] := by rw [← hBB.out, ho]; rfl
        subst hm hb
        clear hM hBB HN HZ
        have hsz := hB.size
        go_wp2_with fail
        go_ret2
        refine ⟨_, rfl, ?_, (hB.alloc hsz _).alloc (by simp; omega) _⟩
        have := World.ownsRow_lit (base := w.heap.size) (e := 5) (size := 1) (wr.alloc (Obj.cells #[Value.int IntKind.i32 z1, Value.int IntKind.i32 z2] 81)) #[Value.int .u8 z2] 1 (by simp; omega) (by unfold maxLen; omega) rfl
        have e : [Value.int .u8 z2] = Lib.byteCells [UInt8.ofNat z2.toNat] := congrArg (fun x => [x]) (hv8 _ _ (by omega) (by omega))
        rw [← e]
        simpa using this
      · have hzr' : (z1 == r) = false := beq_eq_false_iff_ne.2 hzr
        have hsz := hB.size
        have HN2 : Hid (∀ (j : Nat) (z : Int × Int), j < k + 1 → shortsL[j]? = some z → z.1 ≠ r) := fun j z hj hz => by
          by_cases h : j = k
          · subst h
            rw [HZ.out] at hz
            rw [← Option.some.inj hz]
            exact hzr
          · exact HN.out j z (by omega) hz
        clear HN HZ
        go_wp2_with fail
        go_roundw
        case rel => exact ⟨k + 1, by go_num, by omega, HN2.out, hB.alloc hsz _⟩
        case measure => simp [intOf]; omega
    · have hk5' : ¬ (k : Int) < 5 := by omega
      have ho : shO r = none := by
        cases h : shO r with
        | none => rfl
        | some y =>
          refine absurd h ?_
          have hn0 := hno 0 _ (by omega) rfl
          have hn1 := hno 1 _ (by omega) rfl
          have hn2 := hno 2 _ (by omega) rfl
          have hn3 := hno 3 _ (by omega) rfl
          have hn4 := hno 4 _ (by omega) rfl
          simp only at hn0 hn1 hn2 hn3 hn4
          unfold shO
          rw [if_neg (fun e => hn0 e.symm), if_neg (fun e => hn1 e.symm), if_neg (fun e => hn2 e.symm), if_neg (fun e => hn3 e.symm), if_neg (fun e => hn4 e.symm)]
          intro h
          cases h
      have hm : M = 0 := by rw [← hM.out, ho]; rfl
      have hb : B = [] := by rw [← hBB.out, ho]; rfl
      subst hm hb
      clear hix hM hBB ho hno
      go_wp2_with fail
      go_ret2
      exact ⟨_, rfl, World.ownsRow_nil _ _ _ _, hB⟩
end Go.Proofs.YthlgjdadkmpbbaaDoor
namespace Go.Proofs.YthlgjdadkmpbbaaDoor
open Go.RowKit Go.Shelf
theorem hex2 (l : List UInt8) (i : Nat) : (i + 3 < l.length ∧ ∃ a b, hexD (l.getD (i + 2) 0) = some a ∧ hexD (l.getD (i + 3) 0) = some b ∧ hexRun 2 (l.drop (i + 2)) 0 = (2, 16 * a + b)) ∨ ((hexRun 2 (l.drop (i + 2)) 0).1 ≠ 2 ∧ (i + 3 < l.length → hexD (l.getD (i + 2) 0) = none ∨ hexD (l.getD (i + 3) 0) = none)) := by
  by_cases h2 : i + 2 < l.length
  · rw [getD_drop h2, hexRun]
    cases h : hexD (l.getD (i + 2) 0) with
    | none => exact .inr ⟨(by decide : (0 : Nat) ≠ 2), fun _ => .inl rfl⟩
    | some a =>
      by_cases h3 : i + 3 < l.length
      · rw [getD_drop h3]
        cases hb : hexD (l.getD (i + 3) 0) with
        | none =>
          refine .inr ⟨?_, fun _ => .inr rfl⟩
          show (hexRun 1 (l.getD (i + 3) 0 :: l.drop (i + 3 + 1)) (16 * 0 + a)).1 + 1 ≠ 2
          rw [hexRun, hb]
          exact (by decide : (0 : Nat) + 1 ≠ 2)
        | some b =>
          refine .inl ⟨h3, a, b, rfl, rfl, ?_⟩
          show ((hexRun 1 (l.getD (i + 3) 0 :: l.drop (i + 3 + 1)) (16 * 0 + a)).1 + 1, (hexRun 1 (l.getD (i + 3) 0 :: l.drop (i + 3 + 1)) (16 * 0 + a)).2) = _
          rw [hexRun, hb]
          show ((0 : Nat) + 1 + 1, 16 * (16 * 0 + a) + b) = _
          simp
      · rw [List.drop_eq_nil_of_le (by omega)]
        refine .inr ⟨?_, fun h => absurd h h3⟩
        show (hexRun 1 [] _).1 + 1 ≠ 2
        rw [hexRun]
        exact (by decide : (0 : Nat) + 1 ≠ 2)
  · rw [List.drop_eq_nil_of_le (by omega), hexRun]
    exact .inr ⟨by decide, fun h => by omega⟩
theorem hexRun_lt (f : Nat) : ∀ (r : List UInt8) (n : Nat), (hexRun f r n).2 < (n + 1) * 16 ^ f := by
  induction f with
  | zero => intro r n; rw [hexRun]; simp
  | succ f ih =>
    intro r n
    have h0 : n < (n + 1) * 16 ^ (f + 1) := by
      have : 1 ≤ 16 ^ (f + 1) := Nat.pos_of_ne_zero (by simp)
      have := Nat.mul_le_mul_left (n + 1) this
      omega
    cases r with
    | nil => rw [hexRun]; exact h0
    | cons c r =>
      rw [hexRun]
      cases hc : hexD c with
      | none => exact h0
      | some d =>
        have hd := hexD_lt hc
        have := ih r (16 * n + d)
        show (hexRun f r (16 * n + d)).2 < _
        refine Nat.lt_of_lt_of_le this ?_
        rw [Nat.pow_succ, Nat.mul_comm (16 ^ f) 16, ← Nat.mul_assoc]
        exact Nat.mul_le_mul_right _ (by omega)
end Go.Proofs.YthlgjdadkmpbbaaDoor
namespace Go.Proofs.YthlgjdadkmpbbaaDoor
open Go.RowKit Go.Shelf
set_option maxRecDepth 100000 in
set_option maxHeartbeats 1000000 in
theorem esc_x (l : List UInt8) (i : Nat) (ad : Addr) (cap : Nat) (w : World) (hs : l.length ≤ 16384) (hi : i + 1 < l.length) (b0 : bt l i = 92) (b1 : bt l (i + 1) = 120) (hcap0 : (chars l i).length ≤ cap) (hC0 : CH w ad (chars l i)) :
    Calls Tryd.prog 32 #[.slice (some ad) (chars l i).length cap] w fun e w' => escR w (escS l i).1 (escS l i).2 e w' := by
  have hc0 : chars l i = (92, i) :: (120, i + 1) :: chars l (i + 2) := by
    rw [chars_asc (by omega) (by omega), b0, chars_asc hi (by omega), b1]; rfl
  have hC2 := hC0.drop 2
  have hr := chars_range l _ (i + 2) (Nat.le_refl _)
  have he := chars_no l _ (i + 2) (Nat.le_refl _)
  have h1 := (hC0 1 (120, i + 1) (by rw [hc0]; rfl)).1
  rw [hc0] at hC2
  simp only [List.drop_succ_cons, List.drop_zero] at hC2
  have h1' : w.cell? ⟨ad.block, ad.off + 2, none⟩ = some (.int .i32 120) := by simpa [Addr.add] using h1
  have hlen : (chars l i).length = (chars l (i + 2)).length + 2 := by rw [hc0]; rfl
  have hpos : 0 < (chars l (i + 2)).length := by
    obtain ⟨r, hr⟩ := chars_head l (i + 2)
    rw [hr]; simp
  have hlm := chars_len l _ (i + 2) (Nat.le_refl _)
  have HX := fun W => hexAt_any (chars l (i + 2)) (ad.add 4) (cap - 2) 2 W (by decide)
  have hadd : ad.add 4 = ⟨ad.block, ad.off + 4, none⟩ := by simp [Addr.add]
  have HX2 := HX w hC2 hr he
  rw [hexC_chars, hadd] at HX2
  rw [hlen]
  rw [hlen] at hcap0
  obtain ⟨m, hm⟩ : ∃ m, (chars l (i + 2)).length = m := ⟨_, rfl⟩
  rw [hm] at HX2 hcap0 hpos hlm ⊢
  have e0 : IntKind.i64.wrap ((m : Int) + 2) = (m : Int) + 2 := by rw [IntKind.wrap_i64]; omega
  clear HX hr he h1 hm hlen hC2 hc0 hadd
  rcases hex2 l i with ⟨h3, a, b, ha, hb, hq⟩ | ⟨hq, hno⟩
  · rw [hq] at HX2
    have hr : Hid (escS l i = (4, [UInt8.ofNat (16 * a + b)])) := by
      unfold Hid escS
      rw [if_neg (by omega), if_neg (by omega), if_neg (by omega), if_neg (by omega), if_neg (by omega), if_neg (by omega), if_pos b1, if_pos h3, ha, hb]
    have la := hexD_lt ha
    have lb := hexD_lt hb
    clear ha hb hq
    rw [hr.out]
    have hmod : (((16 * a + b : Nat) : Int)) % 256 = ((16 * a + b : Nat) : Int) := by omega
    obtain ⟨V, hV⟩ : ∃ V, 16 * a + b = V := ⟨_, rfl⟩
    rw [hV] at hmod HX2 ⊢
    have hV2 : V < 256 := by omega
    clear hr la lb hV
    go_enter Tryd.func32, Tryd.ntmps32
    go_wp2_with fail
    refine HX2.mono ?_
    rintro e w2 ⟨rfl, rfl⟩
    go_wp2_with fail
    go_ret2
    refine ⟨_, rfl, ?_, (Below.refl _ _).alloc (Nat.le_refl _) _⟩
    have := World.ownsRow_lit (base := w2.heap.size) (e := 5) (size := 1) w2 #[Value.int .u8 ((V : Nat) : Int)] 1 (Nat.le_refl _) (by unfold maxLen; omega) rfl
    have e : [Value.int .u8 ((V : Nat) : Int)] = Lib.byteCells [UInt8.ofNat V] := congrArg (fun x => [x]) (hv8 _ _ hV2 rfl)
    rw [← e]
    simpa using this
  · have hr : Hid (escS l i = (0, [])) := by
      unfold Hid escS
      rw [if_neg (by omega), if_neg (by omega), if_neg (by omega), if_neg (by omega), if_neg (by omega), if_neg (by omega), if_pos b1]
      by_cases h3 : i + 3 < l.length
      · rw [if_pos h3]
        rcases hno h3 with h | h
        · rw [h]
        · rw [h]
          cases hexD (l.getD (i + 2) 0) <;> rfl
      · rw [if_neg h3]
    rw [hr.out]
    obtain ⟨V, hV⟩ : ∃ V, hexRun 2 (l.drop (i + 2)) 0 = V := ⟨_, rfl⟩
    rw [hV] at hq HX2
    obtain ⟨k, v⟩ := V
    have kq : ((k : Int) == 2) = false := by rw [beq_eq_false_iff_ne]; simp only at hq; omega
    clear hno hq hV hr
    go_enter Tryd.func32, Tryd.ntmps32
    go_wp2_with fail
    refine HX2.mono ?_
    rintro e w2 ⟨rfl, rfl⟩
    go_wp2_with fail
    go_ret2
    exact ⟨_, rfl, World.ownsRow_nil _ _ _ _, Below.refl _ _⟩
end Go.Proofs.YthlgjdadkmpbbaaDoor
