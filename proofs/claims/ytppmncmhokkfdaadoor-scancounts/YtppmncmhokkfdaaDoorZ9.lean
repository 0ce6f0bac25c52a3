import Derived.Test.YtppmncmhokkfdaaDoorZ8
import Derived.Test.YtppmncmhokkfdaaDoorZ1
import Derived.Deep.OwnRows
import Derived.Laws.Bits64
import Derived.Lib.AppendStr
import Derived.Deep.RegionWith
import Derived.Deep.RegionHeldLaw
namespace Go.Proofs.YtppmncmhokkfdaaDoor
open Go.RowKit
theorem looS_len (x : Nat) : (looS x).length = 4 := rfl
theorem hexN_le (n : Nat) (h : n < 65536 * 65536) : (hexN n).length ≤ 8 := by
  have step : ∀ k m, m < 16 ^ (k + 1) → (hexN m).length ≤ k + 1 := by
    intro k
    induction k with
    | zero => intro m hm; rw [hexN, if_pos (by omega)]; simp
    | succ k ih =>
      intro m hm
      rw [hexN]
      split
      · simp
      · have := ih (m / 16) (by rw [Nat.pow_succ] at hm; omega)
        rw [List.length_append, List.length_singleton]
        omega
  exact step 7 n (by omega)
theorem saiS_len (s : List UInt8) (n : Nat) (hn : n < 65536 * 65536) (h4 : s.length ≤ 4) : (saiS s n).length ≤ 12 := by
  have := hexN_le n hn
  unfold saiS
  repeat' split
  all_goals simp [looS_len]
  all_goals omega
theorem pcS_len (l : List UInt8) (i : Nat) (h : i < l.length) : (pcS l i).length ≤ 12 := by
  unfold pcS
  split
  · rw [looS_len]; decide
  · have hw := dc_wid l i
    refine saiS_len _ _ ?_ (by rw [own_len l i h]; exact hw)
    by_cases hb : bt l i < 128
    · rw [dc_asc hb]; simp only; omega
    · have := dc_big hb; omega
end Go.Proofs.YtppmncmhokkfdaaDoor
namespace Go.Proofs.YtppmncmhokkfdaaDoor
open Go.RowKit Go.Shelf
/-- all rows of characters stay -/
def Ch (w w' : World) : Prop := ∀ (k : Nat) (c : Array Value) (fr : Nat × Nat), w.heap[k]? = some (.cells c 54 fr) → w'.heap[k]? = some (.cells c 54 fr)
theorem Ch.trans {a b c : World} (h : Ch a b) (g : Ch b c) : Ch a c := fun k x fr e => g k x fr (h k x fr e)
theorem Ch.below {w W : World} (hb : Below w.heap.size w W) : Ch w W := fun k _ _ h => (hb.block k (lt_of_get h)).trans h
theorem Ch.alloc (w : World) (o : Obj) : Ch w (w.alloc o) := Ch.below ((Below.refl _ _).alloc (Nat.le_refl _) o)
theorem Ch.drew (w : World) : Ch w w.drew := fun _ _ _ h => h
theorem Ch.grown {w w' : World} {B n : Nat} {v : Value} {xs : List Value} (hown : w.ownsRow B 5 1 v n xs) (hg : w.grownBy w' v.ownBlock) : Ch w w' := fun k c fr h => by
  refine (hg.block k (lt_of_get h) (fun e => ?_)).trans h
  rcases hown.2 with ⟨rfl, _⟩ | ⟨g, c', cur, rfl, _, hh, _⟩
  · cases e
  · obtain rfl : k = g := Option.some.inj e
    rw [h] at hh
    injection hh with hh
    injection hh with _ hh _
    exact absurd hh (by decide)
/-- the table of math/bits lies there -/
def DB (w : World) : Prop := TabAt 8 Lib.deBruijn64tab w
theorem DB.below {w W : World} (h : DB w) (hb : Below w.heap.size w W) : DB W := fun j hj => (hb.cell (World.block_lt_of_cell? w _ (h j hj))).trans (h j hj)
theorem tz16 (w : World) (h : DB w) : Calls Tryd.prog 75 #[.int .u64 16] w fun e w' => e = .returned (.int .i64 4) ∧ w' = w := by
  have := Any7.bits_TrailingZeros Tryd.l7n27 16 (by decide) w (fun _ => h)
  rw [show Lib.ctz 64 16 = 4 by decide] at this
  exact this
set_option maxRecDepth 100000 in
theorem pow2_16 (w : World) : Calls Tryd.prog 74 #[.int .i64 16] w fun e w' => e = .returned (.bool true) ∧ w' = w := by
  go_enter Tryd.func74, Tryd.ntmps74
  go_wp2
  go_ret
  exact ⟨rfl, rfl⟩
abbrev digT : ByteArray := { data := #[48, 49, 50, 51, 52, 53, 54, 55, 56, 57, 97, 98, 99, 100, 101, 102, 103, 104, 105, 106, 107, 108, 109, 110, 111, 112, 113, 114, 115, 116, 117, 118, 119, 120, 121, 122] }
theorem dig_idx (d : Nat) (hd : d < 16) (W : World) : Sem.run Tryd.prog (Instr.index 9 (.string digT) (.int .u64 (d : Int))) W = .ok (.int .u8 ((hx d).toNat : Int)) W := by
  have h : ∀ d : Fin 16, digT.data[d.val]? = some (hx d.val) := by decide
  have hd2 := h ⟨d, hd⟩
  simp only at hd2
  obtain ⟨hlt, hv⟩ := Array.getElem?_eq_some_iff.1 hd2
  have u := Tryd.underlying9
  have h0 : (0 : Int) ≤ (d : Int) := by omega
  have h1 : (d : Int) < 36 := by omega
  have hg : ∀ h', (digT)[d]'h' = hx d := fun _ => hv
  simp [go_sem, u, h1, hg]
theorem and15 (m : Nat) (hm : m < 4294967296) : bits .and .u64 (m : Int) 15 = ((m % 16 : Nat) : Int) := by
  have a1 : (BitVec.ofInt 64 (m : Int)).toNat = m := by
    rw [BitVec.ofInt_natCast, BitVec.toNat_ofNat]; exact Nat.mod_eq_of_lt (by omega)
  have a2 : (BitVec.ofInt 64 (15 : Int)).toNat = 15 := by decide
  have a3 : m &&& 15 = m % 16 := Nat.and_two_pow_sub_one_eq_mod m 4
  show IntKind.u64.wrap ((BitVec.ofInt 64 (m : Int) &&& BitVec.ofInt 64 (15 : Int)).toNat : Int) = _
  rw [BitVec.toNat_and, a1, a2, a3, IntKind.wrap_u64]
  omega
abbrev Z65 : Array Value := Array.replicate 65 (.int .u8 0)
theorem info_65 : (Tryd.prog.info? 112).map (fun i => i.zero) = some (some (.agg Z65)) := by kernel_rfl
theorem zero_65 (W : World) : Sem.run Tryd.prog (zeroValue 112) W = .ok (.agg Z65) W := by
  cases h : Tryd.prog.info? 112 with
  | none => have := info_65; rw [h] at this; cases this
  | some i =>
    have := info_65
    rw [h] at this
    have hz : i.zero = some (.agg Z65) := Option.some.inj this
    simp [zeroValue, typeInfo, h, hz, go_sem]
theorem slice_65 (K i : Nat) (hi : i < 65) (W : World) : (Instr.sliceAt 112 (.pointer (some ⟨K, 0, none⟩)) (some (.int .i64 (i : Int))) none none).run Tryd.prog W = .ok (.slice (some ⟨K, i, none⟩) (65 - i) (65 - i)) W := by
  have u := Tryd.underlying112
  have hal : Tryd.prog.arrayLen 112 = 65 := by simp [Program.arrayLen, u]
  have hel : Tryd.prog.elem 112 = 5 := by simp [Program.elem, u]
  rw [run_sliceAt_array_l W 112 ⟨K, 0, none⟩ (by simp [Program.arrayLen, Program.elem, u]) .i64 (i : Int) (by omega) (by rw [hal]; omega)]
  obtain ⟨i0, hi0, hz0, hz1, hz2⟩ := info_parts info_u8
  rw [hal, hel]
  have hne : ¬ 65 = i := by omega
  simp [sizeOf, typeInfo, hi0, hz1, slicedAt, hne, Addr.add]
  omega
set_option maxRecDepth 100000 in
set_option maxHeartbeats 1000000 in
theorem formatBits_16 (u : Nat) (hu : u < 4294967296) (B n : Nat) (sv : Value) (xs : List Value) (w : World) (hdb : DB w) (hown : w.ownsRow B 5 1 sv n xs) (hBw : B ≤ w.heap.size) (hlim : n + 70 ≤ 140737488355328) :
    Calls Tryd.prog 64 #[sv, .int .u64 (u : Int), .int .i64 16, .bool false, .bool true] w fun e w' => ∃ v', e = .returned (.tuple #[v', .string ⟨#[]⟩]) ∧ w'.ownsRow B 5 1 v' (n + (hexN u).length) (xs ++ Lib.byteCells (hexN u)) ∧ Below B w w' ∧ Ch w w' := by
  have HP := fun W => pow2_16 W
  have HT := fun W h => tz16 W h
  have hz65 := zero_65
  obtain ⟨Z, hZ⟩ : ∃ Z, Z65 = Z := ⟨_, rfl⟩
  rw [hZ] at hz65
  go_enter Tryd.func64, Tryd.ntmps64
  go_wp2_with fail
  refine (HP _).mono ?_
  rintro e w1 ⟨rfl, rfl⟩
  go_wp2_with fail
  refine (HT _ ?_).mono ?_
  · exact hdb.below ((Below.refl _ _).alloc (Nat.le_refl _) _)
  rintro e w2 ⟨rfl, rfl⟩
  clear HP HT hz65
  have hrow : (w.alloc (.cells Z 112)).rowIs w.heap.size 112 65 (fun _ => .int .u8 0) := by
    have := World.rowIs_alloc w Z 112 (fun _ => .int .u8 0) (by rw [← hZ]; intro i hi; simp at hi; simp [hi])
    rw [← hZ] at this ⊢
    simpa using this
  have hB0 : Below w.heap.size w (w.alloc (.cells Z 112)) := (Below.refl _ _).alloc (Nat.le_refl _) _
  have hlen8 := hexN_le u hu
  obtain ⟨W0, hW0⟩ : ∃ W0, w.alloc (.cells Z 112) = W0 := ⟨_, rfl⟩
  rw [hW0] at hrow hB0
  obtain ⟨K, hK⟩ : ∃ K, w.heap.size = K := ⟨_, rfl⟩
  have HK : Hid (w.heap.size = K) := hK
  rw [hK] at hrow hB0
  rw [hW0]
  simp only [hK]
  clear hW0 hZ hK hdb
  go_wp2_with fail
  go_loopw [1, 13] (fun vu vi wr => ∃ (m i : Nat) (D : List UInt8) (f : Nat → Value), vu = .int .u64 m ∧ vi = .int .i64 i ∧ i + D.length = 65 ∧ hexN m ++ D = hexN u ∧ m < 4294967296 ∧ wr.rowIs K 112 65 f ∧ (∀ (j : Nat) (b : UInt8), D[j]? = some b → f (i + j) = .int .u8 b.toNat) ∧ Below K w wr) (fun vu _ _ => (intOf vu).toNat)
  case atStart => exact ⟨u, 65, [], _, rfl, rfl, rfl, by simp, hu, hrow, fun j b h => by simp at h, hB0⟩
  case round =>
    clear hrow hB0
    obtain ⟨m, i, D, f, rfl, rfl, hiD, hhx, hm, hrow, hf, hB⟩ := hrel
    have hDl : (hexN m).length + D.length ≤ 8 := by rw [← List.length_append, hhx]; exact hlen8
    have hl1 : 1 ≤ (hexN m).length := by rw [hexN]; split <;> simp
    obtain ⟨i', rfl⟩ : ∃ i', i = i' + 1 := ⟨i - 1, by omega⟩
    have hcell := hrow.cell (i := i') (by omega)
    have hfz := hrow.frozen i'
    have q0 : (0 : Int) ≤ (i' : Int) := by omega
    have q1 : (i' : Int) < 65 := by omega
    have q2 : IntKind.i64.wrap (((i' + 1 : Nat) : Int) - 1) = (i' : Int) := by rw [IntKind.wrap_i64]; omega
    by_cases h16 : 16 ≤ m
    · have j1 : (16 : Int) ≤ (m : Int) := by omega
      obtain ⟨d, hd⟩ : ∃ d, m % 16 = d := ⟨_, rfl⟩
      have hd16 : d < 16 := by omega
      have hand := and15 m hm
      rw [hd] at hand
      have hix := fun W => dig_idx d hd16 W
      have HX : Hid (hexN (m / 16) ++ (hx d :: D) = hexN u) := by
        unfold Hid
        rw [← hhx, hexN.eq_def m, if_neg (by omega), hd]
        simp
      have hdl : (hx d :: D).length = D.length + 1 := rfl
      have hrow2 := hrow.set i' (.int .u8 ((hx d).toNat : Int))
      have hB2 := hB.setCell (p := ⟨K, i', none⟩) (Nat.le_refl _) (.int .u8 ((hx d).toNat : Int))
      have HF : Hid (∀ (j : Nat) (b : UInt8), (hx d :: D)[j]? = some b → (fun j => if j = i' then Value.int .u8 ((hx d).toNat : Int) else f j) (i' + j) = .int .u8 b.toNat) := fun j b hj => by
        cases j with
        | zero =>
          simp at hj
          subst hj
          simp
        | succ j =>
          have := hf j b (by simpa using hj)
          show (if i' + (j + 1) = i' then _ else f (i' + (j + 1))) = _
          rw [if_neg (by omega), show i' + (j + 1) = i' + 1 + j by omega]
          exact this
      have HLn : Hid (i' + (hx d :: D).length = 65) := by unfold Hid; rw [hdl]; omega
      clear hhx hf hdl hd hrow hB hDl hl1 hiD
      obtain ⟨D2, hD2⟩ : ∃ D2, hx d :: D = D2 := ⟨_, rfl⟩
      rw [hD2] at HX HF HLn
      clear hD2
      go_wp2_with fail
      go_roundw
      case rel => exact ⟨m / 16, i', D2, _, by go_num, rfl, HLn.out, HX.out, by omega, hrow2, HF.out, hB2⟩
      case measure => simp [intOf]; omega
    · have j1 : ¬ (16 : Int) ≤ (m : Int) := by omega
      have hix := fun W => dig_idx m (by omega) W
      have hX : hx m :: D = hexN u := by
        rw [← hhx, hexN.eq_def m, if_pos (by omega)]
        rfl
      have hrow2 := hrow.set i' (.int .u8 ((hx m).toNat : Int))
      have hB2 := hB.setCell (p := ⟨K, i', none⟩) (Nat.le_refl _) (.int .u8 ((hx m).toNat : Int))
      have hF : ∀ (j : Nat) (b : UInt8), (hx m :: D)[j]? = some b → (fun j => if j = i' then Value.int .u8 ((hx m).toNat : Int) else f j) (i' + j) = .int .u8 b.toNat := fun j b hj => by
        cases j with
        | zero =>
          simp at hj
          subst hj
          simp
        | succ j =>
          have := hf j b (by simpa using hj)
          show (if i' + (j + 1) = i' then _ else f (i' + (j + 1))) = _
          rw [if_neg (by omega), show i' + (j + 1) = i' + 1 + j by omega]
          exact this
      rw [hX] at hF
      have hLn : i' + (hexN u).length = 65 := by rw [← hX, List.length_cons]; omega
      clear hhx hf hrow hB hDl hl1 hiD hX
      obtain ⟨W2, hW2⟩ : ∃ W2, wr.setCell ⟨K, i', none⟩ (.int .u8 ((hx m).toNat : Int)) = W2 := ⟨_, rfl⟩
      rw [hW2] at hrow2 hB2
      have HW2 : Hid (wr.setCell ⟨K, i', none⟩ (.int .u8 ((hx m).toNat : Int)) = W2) := hW2
      clear hW2
      have hsl := fun W => slice_65 K i' (by omega) W
      have hwK : w.heap.size = K := HK.out
      have hbB : Below B w W2 := { hB2 with block := fun k hk => hB2.block k (by omega) }
      have hown2 : W2.ownsRow B 5 1 sv n xs := own_below hown (by rw [hwK]; exact hB2)
      have hB2s : B ≤ W2.heap.size := by have := hB2.size; omega
      have hnews : ∀ j u', (Lib.byteCells (hexN u))[j]? = some u' → W2.cell? ((⟨K, i', none⟩ : Addr).add j) = some u' := fun j u' hj => by
        have hjl : j < (hexN u).length := by
          have := (List.getElem?_eq_some_iff.1 hj).1
          rwa [Lib.byteCells_length] at this
        obtain ⟨b, hb⟩ : ∃ b, (hexN u)[j]? = some b := ⟨_, List.getElem?_eq_getElem hjl⟩
        have hadd : (⟨K, i', none⟩ : Addr).add j = ⟨K, i' + j, none⟩ := by unfold Addr.add; split <;> simp_all
        have hfj := hF j b hb
        simp only at hfj
        rw [hadd, hrow2.cell (by omega), hfj]
        simp [Lib.byteCells, hb] at hj
        rw [hj]
      obtain ⟨i0, hi, hz0, hz1, hz2⟩ := info_parts info_u8
      obtain ⟨qv, cv, rfl⟩ := shapeP hown2
      have hch2 : Ch w W2 := Ch.below (by rw [hwK]; exact hB2)
      clear hF hown hrow2 hwK
      go_wp2_with (at_builtin; rw [HW2.out]; refine wpList_append_own _ rfl _ _ 52 rfl B 5 i0 _ 1 1 Tryd.underlying52 hi hz0 hz1 hz2 rfl (by decide) _ _ _ rfl hown2 ⟨K, i', none⟩ (65 - i') (65 - i') (Lib.byteCells (hexN u)) rfl (by rw [Lib.byteCells_length]; omega) hnews (byteCells_one _) (by unfold maxLen; omega) (by omega) hB2s ?_; intro v5 w5 oB hg5 _)
      go_ret2
      refine ⟨v5, rfl, ?_, hbB.grown hg5 hB2s (fun k e => (hown2.lt k e).1), hch2.trans (Ch.grown hown2 hg5)⟩
      rw [show (hexN u).length = 65 - i' by omega]
      exact oB
end Go.Proofs.YtppmncmhokkfdaaDoor
namespace Go.Proofs.YtppmncmhokkfdaaDoor
open Go.RowKit Go.Shelf
set_option maxRecDepth 100000 in
theorem appendUint_16 (u : Nat) (hu : u < 4294967296) (B n : Nat) (sv : Value) (xs : List Value) (w : World) (hdb : DB w) (hown : w.ownsRow B 5 1 sv n xs) (hBw : B ≤ w.heap.size) (hlim : n + 70 ≤ 140737488355328) :
    Calls Tryd.prog 59 #[sv, .int .u64 (u : Int), .int .i64 16] w fun e w' => ∃ v', e = .returned v' ∧ w'.ownsRow B 5 1 v' (n + (hexN u).length) (xs ++ Lib.byteCells (hexN u)) ∧ Below B w w' ∧ Ch w w' := by
  have HF := formatBits_16 u hu B n sv xs w hdb hown hBw hlim
  clear hdb hown hBw hlim
  go_enter Tryd.func59, Tryd.ntmps59
  go_wp2_with fail
  refine HF.mono ?_
  rintro e w1 ⟨v1, rfl, ho1, hb1⟩
  go_wp2_with fail
  go_ret
  exact ⟨v1, rfl, ho1, hb1⟩
set_option maxRecDepth 100000 in
theorem appendInt_16i (u : Nat) (hu : u < 4294967296) (B n : Nat) (sv : Value) (xs : List Value) (w : World) (hdb : DB w) (hown : w.ownsRow B 5 1 sv n xs) (hBw : B ≤ w.heap.size) (hlim : n + 70 ≤ 140737488355328) :
    Calls Tryd.prog 48 #[sv, .int .i64 (u : Int), .int .i64 16] w fun e w' => ∃ v', e = .returned v' ∧ w'.ownsRow B 5 1 v' (n + (hexN u).length) (xs ++ Lib.byteCells (hexN u)) ∧ Below B w w' ∧ Ch w w' := by
  have HF := appendUint_16 u hu B n sv xs w hdb hown hBw hlim
  have i1 : ¬ (u : Int) < 0 := by omega
  have e1 : IntKind.u64.wrap (u : Int) = (u : Int) := by rw [IntKind.wrap_u64]; omega
  clear hdb hown hBw hlim
  go_enter Tryd.func48, Tryd.ntmps48
  go_wp2_with fail
  refine HF.mono ?_
  rintro e w1 ⟨v1, rfl, ho1, hb1⟩
  go_wp2_with fail
  go_ret
  exact ⟨v1, rfl, ho1, hb1⟩
set_option maxRecDepth 100000 in
theorem appendInt_16 (u : Nat) (hu : u < 4294967296) (B n : Nat) (sv : Value) (xs : List Value) (w : World) (hdb : DB w) (hown : w.ownsRow B 5 1 sv n xs) (hBw : B ≤ w.heap.size) (hlim : n + 70 ≤ 140737488355328) :
    Calls Tryd.prog 31 #[sv, .int .i64 (u : Int), .int .i64 16] w fun e w' => ∃ v', e = .returned v' ∧ w'.ownsRow B 5 1 v' (n + (hexN u).length) (xs ++ Lib.byteCells (hexN u)) ∧ Below B w w' ∧ Ch w w' := by
  have HF := appendInt_16i u hu B n sv xs w hdb hown hBw hlim
  clear hdb hown hBw hlim
  go_enter Tryd.func31, Tryd.ntmps31
  go_wp2_with fail
  refine HF.mono ?_
  rintro e w1 ⟨v1, rfl, ho1, hb1⟩
  go_wp2_with fail
  go_ret
  exact ⟨v1, rfl, ho1, hb1⟩
/-- the table of what is not seen lies there -/
abbrev unseenL : List (Int × Int) := [(128, 159), (8203, 8207), (8232, 8238), (65279, 65279)]
abbrev unseenC : Array Value := #[.int .i32 128, .int .i32 159, .int .i32 8203, .int .i32 8207, .int .i32 8232, .int .i32 8238, .int .i32 65279, .int .i32 65279]
def UN (w : World) : Prop := ∃ t fr, w.heap[1]? = some (.cells unseenC t fr)
theorem UN.below {w W : World} (h : UN w) (hb : Below w.heap.size w W) : UN W := by
  obtain ⟨t, fr, h⟩ := h
  exact ⟨t, fr, (hb.block _ (lt_of_get h)).trans h⟩
theorem UN.cell {w : World} (h : UN w) (j : Nat) : w.cell? ⟨1, j, none⟩ = unseenC[j]? := by
  obtain ⟨t, fr, h⟩ := h
  exact cell_of_row w _ j _ _ _ h
set_option maxRecDepth 100000 in
theorem idx_unseen (k : Nat) (z : Int × Int) (h : unseenL[k]? = some z) (W : World) : Sem.run Tryd.prog (Instr.index 69 (.agg unseenC) (.int .i64 (k : Int))) W = .ok (.agg #[.int .i32 z.1, .int .i32 z.2]) W := by
  match k, h with
  | 0, h => obtain rfl := Option.some.inj h; rfl
  | 1, h => obtain rfl := Option.some.inj h; rfl
  | 2, h => obtain rfl := Option.some.inj h; rfl
  | 3, h => obtain rfl := Option.some.inj h; rfl
  | k + 4, h => simp at h
theorem uns_of {k : Nat} {z : Int × Int} (h : unseenL[k]? = some z) {n : Nat} (h1 : z.1 ≤ (n : Int)) (h2 : (n : Int) ≤ z.2) : unsN n = true := by
  unfold unsN
  match k, h with
  | 0, h => obtain rfl := Option.some.inj h; simp only at h1 h2; exact decide_eq_true (by omega)
  | 1, h => obtain rfl := Option.some.inj h; simp only at h1 h2; exact decide_eq_true (by omega)
  | 2, h => obtain rfl := Option.some.inj h; simp only at h1 h2; exact decide_eq_true (by omega)
  | 3, h => obtain rfl := Option.some.inj h; simp only at h1 h2; exact decide_eq_true (by omega)
  | k + 4, h => simp at h
theorem uns_not {n : Nat} (h : ∀ (j : Nat) (z : Int × Int), j < 4 → unseenL[j]? = some z → ¬ (z.1 ≤ (n : Int) ∧ (n : Int) ≤ z.2)) : unsN n = false := by
  unfold unsN
  have h0 := h 0 _ (by decide) rfl
  have h1 := h 1 _ (by decide) rfl
  have h2 := h 2 _ (by decide) rfl
  have h3 := h 3 _ (by decide) rfl
  simp only at h0 h1 h2 h3
  exact decide_eq_false (by omega)
end Go.Proofs.YtppmncmhokkfdaaDoor
namespace Go.Proofs.YtppmncmhokkfdaaDoor
open Go.RowKit Go.Shelf
/-- the letter of the escape that says it -/
def shL (x : Int) : Option Int := if x = 34 then some 34 else if x = 92 then some 92 else if x = 10 then some 110 else if x = 13 then some 114 else if x = 9 then some 116 else none
/-- how a character is told -/
def apT (r : Int) (b : Nat) : List UInt8 :=
  match shL r with
  | some y => [92, UInt8.ofNat y.toNat]
  | none => if r < 32 ∨ r = 127 then looS b else if unsN r.toNat = true then [92, 117, 123] ++ hexN r.toNat ++ [125] else Lib.encodeRune r
theorem shL_of {k : Nat} {z : Int × Int} (hz : shortsL[k]? = some z) : shL z.2 = some z.1 := by
  match k, hz with
  | 0, hz => obtain rfl := Option.some.inj hz; rfl
  | 1, hz => obtain rfl := Option.some.inj hz; rfl
  | 2, hz => obtain rfl := Option.some.inj hz; rfl
  | 3, hz => obtain rfl := Option.some.inj hz; rfl
  | 4, hz => obtain rfl := Option.some.inj hz; rfl
  | k + 5, hz => simp at hz
theorem shL_none {x : Int} (h : ∀ (j : Nat) (z : Int × Int), j < 5 → shortsL[j]? = some z → z.2 ≠ x) : shL x = none := by
  have h0 := h 0 _ (by decide) rfl
  have h1 := h 1 _ (by decide) rfl
  have h2 := h 2 _ (by decide) rfl
  have h3 := h 3 _ (by decide) rfl
  have h4 := h 4 _ (by decide) rfl
  simp only at h0 h1 h2 h3 h4
  unfold shL
  rw [if_neg (fun e => h0 e.symm), if_neg (fun e => h1 e.symm), if_neg (fun e => h2 e.symm), if_neg (fun e => h3 e.symm), if_neg (fun e => h4 e.symm)]
theorem sh_small {k : Nat} {z : Int × Int} (hz : shortsL[k]? = some z) : 0 ≤ z.1 ∧ z.1 < 256 := by
  match k, hz with
  | 0, hz => obtain rfl := Option.some.inj hz; decide
  | 1, hz => obtain rfl := Option.some.inj hz; decide
  | 2, hz => obtain rfl := Option.some.inj hz; decide
  | 3, hz => obtain rfl := Option.some.inj hz; decide
  | 4, hz => obtain rfl := Option.some.inj hz; decide
  | k + 5, hz => simp at hz
theorem byteCells_inj : ∀ {a b : List UInt8}, Lib.byteCells a = Lib.byteCells b → a = b
  | [], [], _ => rfl
  | [], _ :: _, h => by simp [Lib.byteCells] at h
  | _ :: _, [], h => by simp [Lib.byteCells] at h
  | x :: a, y :: b, h => by
    have h1 : Value.int .u8 (x.toNat : Int) :: Lib.byteCells a = Value.int .u8 (y.toNat : Int) :: Lib.byteCells b := h
    injection h1 with h2 h3
    injection h2 with _ h4
    rw [byteCells_inj h3, UInt8.toNat_inj.1 (show x.toNat = y.toNat by omega)]
theorem own_asc (l : List UInt8) (i : Nat) (h : i < l.length) (hb : bt l i < 128) : own l i = [l.getD i 0] := by
  unfold own
  rw [dc_asc hb, getD_drop h]
  rfl
theorem own_eq (l : List UInt8) (i : Nat) (h : i < l.length) (c : UInt8) (hc : c.toNat < 128) : own l i = [c] ↔ bt l i = c.toNat := by
  constructor
  · intro e
    by_cases hb : bt l i < 128
    · rw [own_asc l i h hb] at e
      injection e with e
      unfold bt
      rw [e]
    · have hp := dc_pos l i
      have h0 := own_get l i 0 (by omega)
      rw [e] at h0
      have h1 : l.getD i 0 = c := by simpa using h0.symm
      unfold bt
      rw [h1]
  · intro e
    rw [own_asc l i h (by omega)]
    exact congrArg (fun x => [x]) (UInt8.toNat_inj.1 e)
/-- the document's and the program's way to tell a character are one -/
theorem pcS_ap (l : List UInt8) (i : Nat) (h : i < l.length) : pcS l i = apT (chr l i) (bt l i) := by
  unfold pcS
  cases hlo : lo1 l i with
  | true =>
    have hc : chr l i = -1 := by unfold chr; rw [if_pos h, if_pos hlo]
    rw [if_pos rfl, hc]
    rfl
  | false =>
    have hc : chr l i = ((dc l i).1 : Int) := by unfold chr; rw [if_pos h, if_neg (by rw [hlo]; decide)]
    have ht := take_own l i h hlo
    rw [if_neg (by decide)]
    have key : ∀ k : Nat, k < 128 → ((chr l i = (k : Int)) ↔ own l i = [UInt8.ofNat k]) := fun k hk => by
      rw [chr_asc l i k hk, own_eq l i h _ (by rw [UInt8.toNat_ofNat']; omega), UInt8.toNat_ofNat', Nat.mod_eq_of_lt (by omega)]
      exact ⟨fun e => e.2, fun e => ⟨h, e⟩⟩
    have k34 : chr l i = 34 ↔ own l i = [34] := key 34 (by decide)
    have k92 : chr l i = 92 ↔ own l i = [92] := key 92 (by decide)
    have k10 : chr l i = 10 ↔ own l i = [10] := key 10 (by decide)
    have k13 : chr l i = 13 ↔ own l i = [13] := key 13 (by decide)
    have k9 : chr l i = 9 ↔ own l i = [9] := key 9 (by decide)
    have henc : Lib.encodeRune (chr l i) = own l i := by
      have h1 := Lib.byteCells_encodeRune (chr l i)
      rw [hc, ht] at h1
      rw [hc]
      exact byteCells_inj h1
    unfold saiS apT shL
    by_cases g34 : chr l i = 34
    · rw [if_pos (k34.1 g34), if_pos g34]; rfl
    rw [if_neg (fun e => g34 (k34.2 e)), if_neg g34]
    by_cases g92 : chr l i = 92
    · rw [if_pos (k92.1 g92), if_pos g92]; rfl
    rw [if_neg (fun e => g92 (k92.2 e)), if_neg g92]
    by_cases g10 : chr l i = 10
    · rw [if_pos (k10.1 g10), if_pos g10]; rfl
    rw [if_neg (fun e => g10 (k10.2 e)), if_neg g10]
    by_cases g13 : chr l i = 13
    · rw [if_pos (k13.1 g13), if_pos g13]; rfl
    rw [if_neg (fun e => g13 (k13.2 e)), if_neg g13]
    by_cases g9 : chr l i = 9
    · rw [if_pos (k9.1 g9), if_pos g9]; rfl
    rw [if_neg (fun e => g9 (k9.2 e)), if_neg g9]
    show _ = if chr l i < 32 ∨ chr l i = 127 then looS (bt l i) else if unsN (chr l i).toNat = true then [92, 117, 123] ++ hexN (chr l i).toNat ++ [125] else Lib.encodeRune (chr l i)
    rw [henc, hc, Int.toNat_natCast]
    by_cases hb : (dc l i).1 < 32 ∨ (dc l i).1 = 127
    · rw [if_pos hb, if_pos (by omega)]
      have : bt l i < 128 := Classical.byContradiction (fun hn => by have := dc_big hn; omega)
      rw [dc_asc this]
    · rw [if_neg hb, if_neg (show ¬ (((dc l i).1 : Int) < 32 ∨ ((dc l i).1 : Int) = 127) by omega)]
end Go.Proofs.YtppmncmhokkfdaaDoor
namespace Go.Proofs.YtppmncmhokkfdaaDoor
open Go.RowKit Go.Shelf
/-- a row with so much behind it -/
def apR (w : World) (B n : Nat) (xs : List Value) (T : List UInt8) (e : Ending) (w' : World) : Prop := ∃ v', e = .returned v' ∧ w'.ownsRow B 5 1 v' (n + T.length) (xs ++ Lib.byteCells T) ∧ Below B w w' ∧ Ch w w'
theorem DB.keep {w W : World} {B : Nat} (h : DB w) (hG : 8 < B) (hb : Below B w W) : DB W := fun j hj => (World.cell?_of_block (hb.block _ hG)).trans (h j hj)
theorem appendRune_ch (B : Nat) (v : Value) (n : Nat) (xs : List Value) (r : Int) (w : World) (hr0 : -2147483648 ≤ r) (hr1 : r ≤ 2147483647) (hown : w.ownsRow B 5 1 v n xs) (hlen : n + 4 ≤ 140737488355328) (hBw : B ≤ w.heap.size) :
    Calls Tryd.prog 32 #[v, .int .i32 r] w fun e w' => ∃ v', e = .returned v' ∧ w'.ownsRow B 5 1 v' (n + (Lib.runeCells r).length) (xs ++ Lib.runeCells r) ∧ Below B w w' ∧ Ch w w' := by
  refine (Any.utf8_AppendRune_plain Tryd.l242 info_u8 B v n xs r hr0 hr1 w hown hlen hBw).mono ?_
  rintro e w' ⟨v', rfl, ho, o, hg⟩
  exact ⟨v', rfl, ho, ((Below.refl _ _).alloc hBw _).grown hg (by simp; omega) (fun k e => (hown.lt k e).1), (Ch.alloc _ _).trans (Ch.grown (hown.alloc _) hg)⟩
theorem own_drew {w : World} {B n : Nat} {v : Value} {xs : List Value} (h : w.ownsRow B 5 1 v n xs) : w.drew.ownsRow B 5 1 v n xs := h
theorem and15_8 (m : Nat) (hm : m < 256) : bits .and .u8 (m : Int) 15 = ((m % 16 : Nat) : Int) := by
  have a1 : (BitVec.ofInt 8 (m : Int)).toNat = m := by
    rw [BitVec.ofInt_natCast, BitVec.toNat_ofNat]; exact Nat.mod_eq_of_lt (by omega)
  have a2 : (BitVec.ofInt 8 (15 : Int)).toNat = 15 := by decide
  have a3 : m &&& 15 = m % 16 := Nat.and_two_pow_sub_one_eq_mod m 4
  show IntKind.u8.wrap ((BitVec.ofInt 8 (m : Int) &&& BitVec.ofInt 8 (15 : Int)).toNat : Int) = _
  rw [BitVec.toNat_and, a1, a2, a3, IntKind.wrap_u8]
  omega
theorem hex_idx (d : Nat) (hd : d < 16) (W : World) : Sem.run Tryd.prog (Instr.index 9 (.string hexT) (.int .u8 (d : Int))) W = .ok (.int .u8 ((hx d).toNat : Int)) W := by
  have hd2 := hx_get d hd
  obtain ⟨hlt, hv⟩ := Array.getElem?_eq_some_iff.1 hd2
  have u := Tryd.underlying9
  have h0 : (0 : Int) ≤ (d : Int) := by omega
  have h1 : (d : Int) < 16 := by omega
  have hg : ∀ h', (hexT)[d]'h' = hx d := fun _ => hv
  simp [go_sem, u, h1, hg]
set_option maxRecDepth 100000 in
set_option maxHeartbeats 2000000 in
theorem appendPiece_any (r : Int) (b : Nat) (hb : b < 256) (hr0 : -1 ≤ r) (hr1 : r ≤ 1114111) (B n : Nat) (sv : Value) (xs : List Value) (w : World) (hsh : SH w) (hun0 : UN w) (hdb0 : DB w) (hown : w.ownsRow B 5 1 sv n xs) (hBw : B ≤ w.heap.size) (hlim : n + 100 ≤ 140737488355328) (hG : 8 < B) :
    Calls Tryd.prog 21 #[sv, .int .i32 r, .int .u8 (b : Int)] w fun e w' => apR w B n xs (apT r b) e w' := by
  obtain ⟨i0, hi, hz0, hz1, hz2⟩ := info_parts info_u8
  have c0 : w.cell? ⟨0, 0, none⟩ = some (.int .i32 34) := hsh.cell 0
  have c1 : w.cell? ⟨0, 1, none⟩ = some (.int .i32 34) := hsh.cell 1
  have c2 : w.cell? ⟨0, 2, none⟩ = some (.int .i32 92) := hsh.cell 2
  have c3 : w.cell? ⟨0, 3, none⟩ = some (.int .i32 92) := hsh.cell 3
  have c4 : w.cell? ⟨0, 4, none⟩ = some (.int .i32 110) := hsh.cell 4
  have c5 : w.cell? ⟨0, 5, none⟩ = some (.int .i32 10) := hsh.cell 5
  have c6 : w.cell? ⟨0, 6, none⟩ = some (.int .i32 114) := hsh.cell 6
  have c7 : w.cell? ⟨0, 7, none⟩ = some (.int .i32 13) := hsh.cell 7
  have c8 : w.cell? ⟨0, 8, none⟩ = some (.int .i32 116) := hsh.cell 8
  have c9 : w.cell? ⟨0, 9, none⟩ = some (.int .i32 9) := hsh.cell 9
  have hun : Hid (UN w) := hun0
  have hdb : Hid (DB w) := hdb0
  have hix := fun k z h W => idx_short k z h W
  obtain ⟨T, hT0⟩ : ∃ T, apT r b = T := ⟨_, rfl⟩
  rw [hT0]
  have hT : Hid (apT r b = T) := hT0
  clear hsh hun0 hdb0 hT0
  obtain ⟨qv, cv, rfl⟩ := shapeP hown
  go_enter Tryd.func21, Tryd.ntmps21
  go_wp2_with fail
  go_loopw [12] (fun vk wr => ∃ k : Nat, vk = .int .i64 k ∧ k ≤ 5 ∧ (∀ (j : Nat) (z : Int × Int), j < k → shortsL[j]? = some z → z.2 ≠ r) ∧ Below w.heap.size w wr) (fun vk _ => 5 - (intOf vk).toNat)
  case atStart => exact ⟨0, rfl, by omega, fun j z hj => by omega, Below.refl _ _⟩
  case round =>
    clear c0 c1 c2 c3 c4 c5 c6 c7 c8 c9
    obtain ⟨k, rfl, hk, hno, hB⟩ := hrel
    have hsz := hB.size
    by_cases hk5 : k < 5
    · have hk5' : (k : Int) < 5 := by omega
      obtain ⟨z, hz⟩ : ∃ z, shortsL[k]? = some z := ⟨_, List.getElem?_eq_getElem hk5⟩
      have hx := fun W => hix k z hz W
      obtain ⟨z1, z2⟩ := z
      simp only at hx
      have HN : Hid (∀ (j : Nat) (z : Int × Int), j < k → shortsL[j]? = some z → z.2 ≠ r) := hno
      have HZ : Hid (shortsL[k]? = some (z1, z2)) := hz
      clear hix hno hz
      by_cases hzr : z2 = r
      · subst hzr
        have ho := shL_of HZ.out
        have hq := sh_small HZ.out
        have ht : T = [92, UInt8.ofNat z1.toNat] := by rw [← hT.out]; unfold apT; rw [ho]
        subst ht
        have hmod : z1 % 256 = z1 := by simp only at hq; omega
        have hown2 : (wr.alloc (Obj.cells #[Value.int IntKind.i32 z1, Value.int IntKind.i32 z2] 65)).ownsRow B 5 1 (.slice qv n cv) n xs := (own_below hown hB).alloc _
        have hb2 : Below B w (wr.alloc (Obj.cells #[Value.int IntKind.i32 z1, Value.int IntKind.i32 z2] 65)) := (hB.mono hBw).alloc (by omega) _
        have ecs : Hid ([Value.int .u8 92, Value.int .u8 z1] = Lib.byteCells [92, UInt8.ofNat z1.toNat]) := by
          show [_, _] = [_, Value.int .u8 ((UInt8.ofNat z1.toNat).toNat : Int)]
          rw [hv8 z1 z1.toNat (by simp only at hq; omega) (by simp only at hq; omega)]
          rfl
        have hchA : Ch w (wr.alloc (Obj.cells #[Value.int IntKind.i32 z1, Value.int IntKind.i32 z2] 65)) := (Ch.below hB).trans (Ch.alloc _ _)
        have hget : ((wr.alloc (Obj.cells #[Value.int IntKind.i32 z1, Value.int IntKind.i32 z2] 65)).alloc (Obj.cells #[Value.int .u8 92, Value.int .u8 z1] 5)).heap[wr.heap.size + 1]? = some (Obj.cells #[Value.int .u8 92, Value.int .u8 z1] 5) := by
          have := alloc_get (wr.alloc (Obj.cells #[Value.int IntKind.i32 z1, Value.int IntKind.i32 z2] 65)) (Obj.cells #[Value.int .u8 92, Value.int .u8 z1] 5)
          simpa using this
        have hnews := World.news_of_block hget
        clear hT HN HZ hown hB ho hget
        go_wp2_with (at_builtin; refine wpList_append_own _ rfl _ _ 52 rfl B 5 i0 _ 1 1 Tryd.underlying52 hi hz0 hz1 hz2 rfl (by decide) _ _ _ rfl (hown2.alloc _) ⟨wr.heap.size + 1, 0, none⟩ 2 2 [Value.int .u8 92, Value.int .u8 z1] rfl rfl hnews (by simp [Value.oneCell']) (by unfold maxLen; omega) (by omega) (by simp; omega) ?_; intro v5 w5 oB hg5 _)
        go_ret
        refine ⟨v5, rfl, ?_, (hb2.alloc (by simp; omega) _).grown hg5 (by simp; omega) (fun k e => (hown2.lt k e).1), (hchA.trans (Ch.alloc _ _)).trans (Ch.grown (hown2.alloc _) hg5)⟩
        rw [← ecs.out]
        exact oB
      · have hzr' : (z2 == r) = false := beq_eq_false_iff_ne.2 hzr
        have HN2 : Hid (∀ (j : Nat) (z : Int × Int), j < k + 1 → shortsL[j]? = some z → z.2 ≠ r) := fun j z hj hz => by
          by_cases h : j = k
          · subst h
            rw [HZ.out] at hz
            rw [← Option.some.inj hz]
            exact hzr
          · exact HN.out j z (by omega) hz
        clear HN HZ
        go_wp2_with fail
        go_roundw
        case rel => exact ⟨k + 1, by go_num, by omega, HN2.out, hB.alloc hsz _⟩
        case measure => simp [intOf]; omega
    · have hk5' : ¬ (k : Int) < 5 := by omega
      have ho : shL r = none := shL_none (fun j z hj hz => hno j z (by omega) hz)
      have hT2 : (if r < 32 ∨ r = 127 then looS b else if unsN r.toNat = true then [92, 117, 123] ++ hexN r.toNat ++ [125] else Lib.encodeRune r) = T := by rw [← hT.out]; unfold apT; rw [ho]
      have HBA := fun W => barred_any r W
      clear hix hT ho hno
      by_cases hbar : r < 32 ∨ r = 127
      · rw [if_pos hbar] at hT2
        rw [decide_eq_true hbar] at HBA
        have hbd := and15_8 b hb
        obtain ⟨a, ha⟩ : ∃ a, b / 16 = a := ⟨_, rfl⟩
        obtain ⟨d, hd⟩ : ∃ d, b % 16 = d := ⟨_, rfl⟩
        rw [hd] at hbd
        have hba : (b : Int) / 16 = (a : Int) := by omega
        have hi1 := fun W => hex_idx a (by omega) W
        have hi2 := fun W => hex_idx d (by omega) W
        have hTT : Hid (T = [92, 120, hx a, hx d]) := by unfold Hid; rw [← hT2, looS, ha, hd]
        clear hT2 ha hd
        go_wp2_with fail
        refine (HBA _).mono ?_
        rintro e w2 ⟨rfl, rfl⟩
        go_wp2_with fail
        have hown2 : w2.ownsRow B 5 1 (.slice qv n cv) n xs := own_below hown hB
        have hb2 : Below B w w2 := hB.mono hBw
        have hchB : Ch w w2 := Ch.below hB
        go_region_held_law (fun _ => True) (trivial) ((refine step_append_lies _ (by rfl) _ _ 52 (by rfl) B 5 i0 _ 1 1 Tryd.underlying52 hi hz0 hz1 hz2 rfl (by decide) _ n xs (by rfl) (hown2.alloc _) ⟨w2.heap.size, 0, none⟩ 4 4 [Value.int .u8 92, Value.int .u8 120, Value.int .u8 ((hx a).toNat : Int), Value.int .u8 ((hx d).toNat : Int)] (by rfl) rfl (World.news_of_block (cs := #[Value.int .u8 92, Value.int .u8 120, Value.int .u8 ((hx a).toNat : Int), Value.int .u8 ((hx d).toNat : Int)]) (t := 5) (fr := (0, 0)) (heap_alloc_new _ _)) (by simp [Value.oneCell']) (by decide) (by unfold maxLen; omega) (by omega) (by simp; omega) _ rfl ?_; intro g5 c5 w5 oB hg5 _ _))
        all_goals
          simp only [List.getElem_toArray, List.getElem_cons_succ, List.getElem_cons_zero, List.setIfInBounds_toArray, List.set_cons_succ, List.set_cons_zero]
          go_wp2_with fail
          go_ret
          refine ⟨.slice (some ⟨g5, 0, none⟩) (n + 4) c5, rfl, ?_, (hb2.alloc (by omega) _).drew.grown hg5 (by show B ≤ (w2.alloc _).heap.size; simp; omega) (fun k e => (hown2.lt k e).1), ((hchB.trans (Ch.alloc _ _)).trans (Ch.drew _)).trans (Ch.grown (own_drew (hown2.alloc _)) hg5)⟩
          rw [hTT.out]
          exact oB
      · rw [if_neg hbar] at hT2
        rw [decide_eq_false hbar] at HBA
        obtain ⟨m, rfl⟩ : ∃ m : Nat, r = (m : Int) := ⟨r.toNat, by omega⟩
        rw [Int.toNat_natCast] at hT2
        have hT3 : Hid ((if unsN m = true then [92, 117, 123] ++ hexN m ++ [125] else Lib.encodeRune (m : Int)) = T) := hT2
        clear hT2
        go_wp2_with fail
        refine (HBA _).mono ?_
        rintro e w2 ⟨rfl, rfl⟩
        have hun2 := hun.out.below hB
        have d0 : w2.cell? ⟨1, 0, none⟩ = some (.int .i32 128) := hun2.cell 0
        have d1 : w2.cell? ⟨1, 1, none⟩ = some (.int .i32 159) := hun2.cell 1
        have d2 : w2.cell? ⟨1, 2, none⟩ = some (.int .i32 8203) := hun2.cell 2
        have d3 : w2.cell? ⟨1, 3, none⟩ = some (.int .i32 8207) := hun2.cell 3
        have d4 : w2.cell? ⟨1, 4, none⟩ = some (.int .i32 8232) := hun2.cell 4
        have d5 : w2.cell? ⟨1, 5, none⟩ = some (.int .i32 8238) := hun2.cell 5
        have d6 : w2.cell? ⟨1, 6, none⟩ = some (.int .i32 65279) := hun2.cell 6
        have d7 : w2.cell? ⟨1, 7, none⟩ = some (.int .i32 65279) := hun2.cell 7
        have hiu := fun k z h W => idx_unseen k z h W
        clear hun2 hun HBA
        go_wp2_with fail
        go_loopw [0, 38] (fun v0 vk wr => ∃ k : Nat, v0 = .slice qv n cv ∧ vk = .int .i64 k ∧ k ≤ 4 ∧ (∀ (j : Nat) (z : Int × Int), j < k → unseenL[j]? = some z → ¬ (z.1 ≤ (m : Int) ∧ (m : Int) ≤ z.2)) ∧ Below w.heap.size w wr) (fun _ vk _ => 4 - (intOf vk).toNat)
        case atStart => exact ⟨0, rfl, rfl, by omega, fun j z hj => by omega, hB⟩
        case round =>
          clear d0 d1 d2 d3 d4 d5 d6 d7 hB hsz
          obtain ⟨k2, rfl, rfl, hk2, hno, hB⟩ := hrel
          have hsz := hB.size
          by_cases hk4 : k2 < 4
          · have hk4' : (k2 : Int) < 4 := by omega
            obtain ⟨z, hz⟩ : ∃ z, unseenL[k2]? = some z := ⟨_, List.getElem?_eq_getElem hk4⟩
            have hx := fun W => hiu k2 z hz W
            have hin := fun h1 h2 => uns_of hz (n := m) h1 h2
            obtain ⟨z1, z2⟩ := z
            simp only at hx hin
            have HN : Hid (∀ (j : Nat) (z : Int × Int), j < k2 → unseenL[j]? = some z → ¬ (z.1 ≤ (m : Int) ∧ (m : Int) ≤ z.2)) := hno
            have HZ : Hid (unseenL[k2]? = some (z1, z2)) := hz
            clear hiu hno hz
            by_cases hzr : z1 ≤ (m : Int) ∧ (m : Int) ≤ z2
            · obtain ⟨f1, f2⟩ := hzr
              have hu := hin f1 f2
              have ht := hT3.out
              rw [if_pos hu] at ht
              have HT : Hid ([92, 117, 123] ++ hexN m ++ [125] = T) := ht
              have hlo : m < 4294967296 := by omega
              obtain ⟨O, hO⟩ : ∃ O, Obj.cells #[Value.int IntKind.i32 z1, Value.int IntKind.i32 z2] 68 = O := ⟨_, rfl⟩
              have hown2 : (wr.alloc O).ownsRow B 5 1 (.slice qv n cv) n xs := (own_below hown hB).alloc _
              have hb2 : Below B w (wr.alloc O) := (hB.mono hBw).alloc (by omega) _
              have hbs : B ≤ (wr.alloc O).heap.size := by simp; omega
              rw [← hO] at hown2 hb2 hbs
              have h8 := hexN_le m (by omega)
              have hchC : Ch w (wr.alloc (Obj.cells #[Value.int IntKind.i32 z1, Value.int IntKind.i32 z2] 68)) := (Ch.below hB).trans (Ch.alloc _ _)
              clear ht hT3 hin HN HZ hu hB hO hsz hown
              go_wp2_with (at_builtin; refine Lib.wpList_append_own_string _ rfl _ _ 52 9 rfl B 5 i0 Tryd.underlying52 Tryd.underlying9 hi hz0 hz1 hz2 _ _ _ rfl hown2 ⟨#[92, 117, 123]⟩ rfl (by unfold maxLen; show n + 3 ≤ _; omega) (by show n + 3 ≤ _; omega) hbs ?_; intro v5 w5 oB5 hg5 _)
              have b5 : Below B w w5 := hb2.grown hg5 hbs (fun k e => (hown2.lt k e).1)
              have s5 : B ≤ w5.heap.size := Nat.le_trans hBw b5.size
              have HA := appendInt_16 m hlo B (n + 3) v5 _ w5 (hdb.out.keep hG b5) oB5 s5 (by omega)
              have ch5 : Ch w w5 := hchC.trans (Ch.grown hown2 hg5)
              obtain ⟨q5, c5, rfl⟩ := shapeP oB5
              clear hg5 oB5 hown2 hb2 hbs
              go_wp2_with fail
              refine HA.mono ?_
              rintro e w6 ⟨v6, rfl, oB6, b6, ch6⟩
              have b6' := b5.trans b6
              have s6 : B ≤ w6.heap.size := Nat.le_trans hBw b6'.size
              obtain ⟨q6, c6, rfl⟩ := shapeP oB6
              clear HA b5 b6
              go_wp2_with (at_builtin; refine wpList_append_own _ rfl _ _ 52 rfl B 5 i0 _ 1 1 Tryd.underlying52 hi hz0 hz1 hz2 rfl (by decide) _ _ _ rfl (oB6.alloc _) ⟨w6.heap.size, 0, none⟩ 1 1 [Value.int .u8 125] rfl rfl (World.news_of_block (cs := #[.int .u8 125]) (t := 5) (fr := (0, 0)) (alloc_get _ _)) (by simp [Value.oneCell']) (by unfold maxLen; omega) (by omega) (by simp; omega) ?_; intro v7 w7 oB7 hg7 _)
              go_ret
              refine ⟨v7, rfl, ?_, (b6'.alloc s6 _).grown hg7 (by simp; omega) (fun k e => (oB6.lt k e).1), ((ch5.trans ch6).trans (Ch.alloc _ _)).trans (Ch.grown (oB6.alloc _) hg7)⟩
              rw [← HT.out, byteCells_append, byteCells_append, List.length_append, List.length_append]
              have e1 : n + (([92, 117, 123] : List UInt8).length + (hexN m).length + ([125] : List UInt8).length) = n + 3 + (hexN m).length + 1 := by simp; omega
              rw [e1]
              have e2 : xs ++ (Lib.byteCells [92, 117, 123] ++ Lib.byteCells (hexN m) ++ Lib.byteCells [125]) = xs ++ Lib.strCells ⟨#[92, 117, 123]⟩ ++ Lib.byteCells (hexN m) ++ [Value.int .u8 125] := by
                rw [← List.append_assoc, ← List.append_assoc]
                rfl
              rw [e2]
              exact oB7
            · have hcase : (¬ z1 ≤ (m : Int)) ∨ (z1 ≤ (m : Int) ∧ ¬ (m : Int) ≤ z2) := by omega
              have HN2 : Hid (∀ (j : Nat) (z : Int × Int), j < k2 + 1 → unseenL[j]? = some z → ¬ (z.1 ≤ (m : Int) ∧ (m : Int) ≤ z.2)) := fun j z hj hz => by
                by_cases h : j = k2
                · subst h
                  rw [HZ.out] at hz
                  rw [← Option.some.inj hz]
                  exact hzr
                · exact HN.out j z (by omega) hz
              clear HN HZ hin hzr
              rcases hcase with f1 | ⟨f1, f2⟩
              · go_wp2_with fail
                go_roundw
                case rel => exact ⟨k2 + 1, rfl, by go_num, by omega, HN2.out, hB.alloc hsz _⟩
                case measure => simp [intOf]; omega
              · go_wp2_with fail
                go_roundw
                case rel => exact ⟨k2 + 1, rfl, by go_num, by omega, HN2.out, hB.alloc hsz _⟩
                case measure => simp [intOf]; omega
          · have hk4' : ¬ (k2 : Int) < 4 := by omega
            have hu : unsN m = false := uns_not (fun j z hj hz => hno j z (by omega) hz)
            have ht := hT3.out
            rw [if_neg (by rw [hu]; decide)] at ht
            have HT : Hid (Lib.encodeRune (m : Int) = T) := ht
            have hown2 := own_below hown hB
            have hchD : Ch w wr := Ch.below hB
            have HA := appendRune_ch B (.slice qv n cv) n xs (m : Int) wr (by omega) (by omega) hown2 (by omega) (by omega)
            have hb2 : Below B w wr := hB.mono hBw
            clear ht hT3 hu hno hiu hB hown hown2
            go_wp2_with fail
            refine HA.mono ?_
            rintro e w6 ⟨v6, rfl, oB6, b6, ch6⟩
            go_wp2_with fail
            go_ret
            refine ⟨v6, rfl, ?_, hb2.trans b6, hchD.trans ch6⟩
            rw [← HT.out, Lib.byteCells_encodeRune, ← Lib.runeCells_length]
            exact oB6
end Go.Proofs.YtppmncmhokkfdaaDoor
