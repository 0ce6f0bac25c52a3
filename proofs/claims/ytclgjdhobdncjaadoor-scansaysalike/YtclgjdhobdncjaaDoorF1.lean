import Derived.Test.YtclgjdhobdncjaaDoorQ1
import Derived.Test.YtclgjdhobdncjaaDoorCD
import Derived.Test.YtclgjdhobdncjaaDoorTL
import Derived.Test.YtclgjdhobdncjaaDoorQ5
import Derived.Deep.OwnRows
import Derived.Laws.Bits64
namespace Go.Proofs.YtclgjdhobdncjaaDoor
open Go.RowKit Go.Shelf
/-- all rows of characters stay -/
def Ch (w w' : World) : Prop := ∀ (k : Nat) (c : Array Value) (fr : Nat × Nat), w.heap[k]? = some (.cells c 36 fr) → w'.heap[k]? = some (.cells c 36 fr)
theorem Ch.trans {a b c : World} (h : Ch a b) (g : Ch b c) : Ch a c := fun k x fr e => g k x fr (h k x fr e)
theorem Ch.below {w W : World} (hb : Below w.heap.size w W) : Ch w W := fun k _ _ h => (hb.block k (lt_of_get h)).trans h
theorem Ch.alloc (w : World) (o : Obj) : Ch w (w.alloc o) := Ch.below ((Below.refl _ _).alloc (Nat.le_refl _) o)
theorem Ch.drew (w : World) : Ch w w.drew := fun _ _ _ h => h
theorem Ch.grown {w w' : World} {B n : Nat} {v : Value} {xs : List Value} (hown : w.ownsRow B 5 1 v n xs) (hg : w.grownBy w' v.ownBlock) : Ch w w' := fun k c fr h => by
  refine (hg.block k (lt_of_get h) (fun e => ?_)).trans h
  rcases hown.2 with ⟨rfl, _⟩ | ⟨g, c', cur, rfl, _, hh, _⟩
  · cases e
  · obtain rfl : k = g := Option.some.inj e
    rw [h] at hh
    injection hh with hh
    injection hh with _ hh _
    exact absurd hh (by decide)
/-- the table of math/bits lies there -/
def DB (w : World) : Prop := TabAt 4 Lib.deBruijn64tab w
theorem DB.below {w W : World} (h : DB w) (hb : Below w.heap.size w W) : DB W := fun j hj => (hb.cell (World.block_lt_of_cell? w _ (h j hj))).trans (h j hj)
theorem tz16 (w : World) (h : DB w) : Calls Tryd.prog 46 #[.int .u64 16] w fun e w' => e = .returned (.int .i64 4) ∧ w' = w := by
  have := Any7.bits_TrailingZeros Tryd.l7n27 16 (by decide) w (fun _ => h)
  rw [show Lib.ctz 64 16 = 4 by decide] at this
  exact this
set_option maxRecDepth 100000 in
theorem pow2_16 (w : World) : Calls Tryd.prog 45 #[.int .i64 16] w fun e w' => e = .returned (.bool true) ∧ w' = w := by
  go_enter Tryd.func45, Tryd.ntmps45
  go_wp2
  go_ret
  exact ⟨rfl, rfl⟩
abbrev digT : ByteArray := { data := #[48, 49, 50, 51, 52, 53, 54, 55, 56, 57, 97, 98, 99, 100, 101, 102, 103, 104, 105, 106, 107, 108, 109, 110, 111, 112, 113, 114, 115, 116, 117, 118, 119, 120, 121, 122] }
theorem dig_idx (d : Nat) (hd : d < 16) (W : World) : Sem.run Tryd.prog (Instr.index 9 (.string digT) (.int .u64 (d : Int))) W = .ok (.int .u8 ((hx d).toNat : Int)) W := by
  have h : ∀ d : Fin 16, digT.data[d.val]? = some (hx d.val) := by decide
  have hd2 := h ⟨d, hd⟩
  simp only at hd2
  obtain ⟨hlt, hv⟩ := Array.getElem?_eq_some_iff.1 hd2
  have u := Tryd.underlying9
  have h0 : (0 : Int) ≤ (d : Int) := by omega
  have h1 : (d : Int) < 36 := by omega
  have hg : ∀ h', (digT)[d]'h' = hx d := fun _ => hv
  simp [go_sem, u, h1, hg]
theorem and15 (m : Nat) (hm : m < 4294967296) : bits .and .u64 (m : Int) 15 = ((m % 16 : Nat) : Int) := by
  have a1 : (BitVec.ofInt 64 (m : Int)).toNat = m := by
    rw [BitVec.ofInt_natCast, BitVec.toNat_ofNat]; exact Nat.mod_eq_of_lt (by omega)
  have a2 : (BitVec.ofInt 64 (15 : Int)).toNat = 15 := by decide
  have a3 : m &&& 15 = m % 16 := Nat.and_two_pow_sub_one_eq_mod m 4
  show IntKind.u64.wrap ((BitVec.ofInt 64 (m : Int) &&& BitVec.ofInt 64 (15 : Int)).toNat : Int) = _
  rw [BitVec.toNat_and, a1, a2, a3, IntKind.wrap_u64]
  omega
abbrev Z65 : Array Value := Array.replicate 65 (.int .u8 0)
theorem info_65 : (Tryd.prog.info? 80).map (fun i => i.zero) = some (some (.agg Z65)) := by kernel_rfl
theorem zero_65 (W : World) : Sem.run Tryd.prog (zeroValue 80) W = .ok (.agg Z65) W := by
  cases h : Tryd.prog.info? 80 with
  | none => have := info_65; rw [h] at this; cases this
  | some i =>
    have := info_65
    rw [h] at this
    have hz : i.zero = some (.agg Z65) := Option.some.inj this
    simp [zeroValue, typeInfo, h, hz, go_sem]
theorem slice_65 (K i : Nat) (hi : i < 65) (W : World) : (Instr.sliceAt 80 (.pointer (some ⟨K, 0, none⟩)) (some (.int .i64 (i : Int))) none none).run Tryd.prog W = .ok (.slice (some ⟨K, i, none⟩) (65 - i) (65 - i)) W := by
  have u := Tryd.underlying80
  have hal : Tryd.prog.arrayLen 80 = 65 := by simp [Program.arrayLen, u]
  have hel : Tryd.prog.elem 80 = 5 := by simp [Program.elem, u]
  rw [run_sliceAt_array_l W 80 ⟨K, 0, none⟩ (by simp [Program.arrayLen, Program.elem, u]) .i64 (i : Int) (by omega) (by rw [hal]; omega)]
  obtain ⟨i0, hi0, hz0, hz1, hz2⟩ := info_parts info_u8
  rw [hal, hel]
  have hne : ¬ 65 = i := by omega
  simp [sizeOf, typeInfo, hi0, hz1, slicedAt, hne, Addr.add]
  omega
set_option maxRecDepth 100000 in
set_option maxHeartbeats 1000000 in
theorem formatBits_16 (u : Nat) (hu : u < 4294967296) (B n : Nat) (sv : Value) (xs : List Value) (w : World) (hdb : DB w) (hown : w.ownsRow B 5 1 sv n xs) (hBw : B ≤ w.heap.size) (hlim : n + 70 ≤ 140737488355328) :
    Calls Tryd.prog 41 #[sv, .int .u64 (u : Int), .int .i64 16, .bool false, .bool true] w fun e w' => ∃ v', e = .returned (.tuple #[v', .string ⟨#[]⟩]) ∧ w'.ownsRow B 5 1 v' (n + (hexN u).length) (xs ++ Lib.byteCells (hexN u)) ∧ Below B w w' ∧ Ch w w' := by
  have HP := fun W => pow2_16 W
  have HT := fun W h => tz16 W h
  have hz65 := zero_65
  obtain ⟨Z, hZ⟩ : ∃ Z, Z65 = Z := ⟨_, rfl⟩
  rw [hZ] at hz65
  go_enter Tryd.func41, Tryd.ntmps41
  go_wp2_with fail
  refine (HP _).mono ?_
  rintro e w1 ⟨rfl, rfl⟩
  go_wp2_with fail
  refine (HT _ ?_).mono ?_
  · exact hdb.below ((Below.refl _ _).alloc (Nat.le_refl _) _)
  rintro e w2 ⟨rfl, rfl⟩
  clear HP HT hz65
  have hrow : (w.alloc (.cells Z 80)).rowIs w.heap.size 80 65 (fun _ => .int .u8 0) := by
    have := World.rowIs_alloc w Z 80 (fun _ => .int .u8 0) (by rw [← hZ]; intro i hi; simp at hi; simp [hi])
    rw [← hZ] at this ⊢
    simpa using this
  have hB0 : Below w.heap.size w (w.alloc (.cells Z 80)) := (Below.refl _ _).alloc (Nat.le_refl _) _
  have hlen8 := hexN_le u hu
  obtain ⟨W0, hW0⟩ : ∃ W0, w.alloc (.cells Z 80) = W0 := ⟨_, rfl⟩
  rw [hW0] at hrow hB0
  obtain ⟨K, hK⟩ : ∃ K, w.heap.size = K := ⟨_, rfl⟩
  have HK : Hid (w.heap.size = K) := hK
  rw [hK] at hrow hB0
  rw [hW0]
  simp only [hK]
  clear hW0 hZ hK hdb
  go_wp2_with fail
  go_loopw [1, 13] (fun vu vi wr => ∃ (m i : Nat) (D : List UInt8) (f : Nat → Value), vu = .int .u64 m ∧ vi = .int .i64 i ∧ i + D.length = 65 ∧ hexN m ++ D = hexN u ∧ m < 4294967296 ∧ wr.rowIs K 80 65 f ∧ (∀ (j : Nat) (b : UInt8), D[j]? = some b → f (i + j) = .int .u8 b.toNat) ∧ Below K w wr) (fun vu _ _ => (intOf vu).toNat)
  case atStart => exact ⟨u, 65, [], _, rfl, rfl, rfl, by simp, hu, hrow, fun j b h => by simp at h, hB0⟩
  case round =>
    clear hrow hB0
    obtain ⟨m, i, D, f, rfl, rfl, hiD, hhx, hm, hrow, hf, hB⟩ := hrel
    have hDl : (hexN m).length + D.length ≤ 8 := by rw [← List.length_append, hhx]; exact hlen8
    have hl1 : 1 ≤ (hexN m).length := by rw [hexN]; split <;> simp
    obtain ⟨i', rfl⟩ : ∃ i', i = i' + 1 := ⟨i - 1, by omega⟩
    have hcell := hrow.cell (i := i') (by omega)
    have hfz := hrow.frozen i'
    have q0 : (0 : Int) ≤ (i' : Int) := by omega
    have q1 : (i' : Int) < 65 := by omega
    have q2 : IntKind.i64.wrap (((i' + 1 : Nat) : Int) - 1) = (i' : Int) := by rw [IntKind.wrap_i64]; omega
    by_cases h16 : 16 ≤ m
    · have j1 : (16 : Int) ≤ (m : Int) := by omega
      obtain ⟨d, hd⟩ : ∃ d, m % 16 = d := ⟨_, rfl⟩
      have hd16 : d < 16 := by omega
      have hand := and15 m hm
      rw [hd] at hand
      have hix := fun W => dig_idx d hd16 W
      have HX : Hid (hexN (m / 16) ++ (hx d :: D) = hexN u) := by
        unfold Hid
        rw [← hhx, hexN.eq_def m, if_neg (by omega), hd]
        simp
      have hdl : (hx d :: D).length = D.length + 1 := rfl
      have hrow2 := hrow.set i' (.int .u8 ((hx d).toNat : Int))
      have hB2 := hB.setCell (p := ⟨K, i', none⟩) (Nat.le_refl _) (.int .u8 ((hx d).toNat : Int))
      have HF : Hid (∀ (j : Nat) (b : UInt8), (hx d :: D)[j]? = some b → (fun j => if j = i' then Value.int .u8 ((hx d).toNat : Int) else f j) (i' + j) = .int .u8 b.toNat) := fun j b hj => by
        cases j with
        | zero =>
          simp at hj
          subst hj
          simp
        | succ j =>
          have := hf j b (by simpa using hj)
          show (if i' + (j + 1) = i' then _ else f (i' + (j + 1))) = _
          rw [if_neg (by omega), show i' + (j + 1) = i' + 1 + j by omega]
          exact this
      have HLn : Hid (i' + (hx d :: D).length = 65) := by unfold Hid; rw [hdl]; omega
      clear hhx hf hdl hd hrow hB hDl hl1 hiD
      obtain ⟨D2, hD2⟩ : ∃ D2, hx d :: D = D2 := ⟨_, rfl⟩
      rw [hD2] at HX HF HLn
      clear hD2
      go_wp2_with fail
      go_roundw
      case rel => exact ⟨m / 16, i', D2, _, by go_num, rfl, HLn.out, HX.out, by omega, hrow2, HF.out, hB2⟩
      case measure => simp [intOf]; omega
    · have j1 : ¬ (16 : Int) ≤ (m : Int) := by omega
      have hix := fun W => dig_idx m (by omega) W
      have hX : hx m :: D = hexN u := by
        rw [← hhx, hexN.eq_def m, if_pos (by omega)]
        rfl
      have hrow2 := hrow.set i' (.int .u8 ((hx m).toNat : Int))
      have hB2 := hB.setCell (p := ⟨K, i', none⟩) (Nat.le_refl _) (.int .u8 ((hx m).toNat : Int))
      have hF : ∀ (j : Nat) (b : UInt8), (hx m :: D)[j]? = some b → (fun j => if j = i' then Value.int .u8 ((hx m).toNat : Int) else f j) (i' + j) = .int .u8 b.toNat := fun j b hj => by
        cases j with
        | zero =>
          simp at hj
          subst hj
          simp
        | succ j =>
          have := hf j b (by simpa using hj)
          show (if i' + (j + 1) = i' then _ else f (i' + (j + 1))) = _
          rw [if_neg (by omega), show i' + (j + 1) = i' + 1 + j by omega]
          exact this
      rw [hX] at hF
      have hLn : i' + (hexN u).length = 65 := by rw [← hX, List.length_cons]; omega
      clear hhx hf hrow hB hDl hl1 hiD hX
      obtain ⟨W2, hW2⟩ : ∃ W2, wr.setCell ⟨K, i', none⟩ (.int .u8 ((hx m).toNat : Int)) = W2 := ⟨_, rfl⟩
      rw [hW2] at hrow2 hB2
      have HW2 : Hid (wr.setCell ⟨K, i', none⟩ (.int .u8 ((hx m).toNat : Int)) = W2) := hW2
      clear hW2
      have hsl := fun W => slice_65 K i' (by omega) W
      have hwK : w.heap.size = K := HK.out
      have hbB : Below B w W2 := { hB2 with block := fun k hk => hB2.block k (by omega) }
      have hown2 : W2.ownsRow B 5 1 sv n xs := own_below hown (by rw [hwK]; exact hB2)
      have hB2s : B ≤ W2.heap.size := by have := hB2.size; omega
      have hnews : ∀ j u', (Lib.byteCells (hexN u))[j]? = some u' → W2.cell? ((⟨K, i', none⟩ : Addr).add j) = some u' := fun j u' hj => by
        have hjl : j < (hexN u).length := by
          have := (List.getElem?_eq_some_iff.1 hj).1
          rwa [Lib.byteCells_length] at this
        obtain ⟨b, hb⟩ : ∃ b, (hexN u)[j]? = some b := ⟨_, List.getElem?_eq_getElem hjl⟩
        have hadd : (⟨K, i', none⟩ : Addr).add j = ⟨K, i' + j, none⟩ := by unfold Addr.add; split <;> simp_all
        have hfj := hF j b hb
        simp only at hfj
        rw [hadd, hrow2.cell (by omega), hfj]
        simp [Lib.byteCells, hb] at hj
        rw [hj]
      obtain ⟨i0, hi, hz0, hz1, hz2⟩ := info_parts info_u8
      obtain ⟨qv, cv, rfl⟩ := shapeP hown2
      have hch2 : Ch w W2 := Ch.below (by rw [hwK]; exact hB2)
      clear hF hown hrow2 hwK
      go_wp2_with (at_builtin; rw [HW2.out]; refine wpList_append_own _ rfl _ _ 32 rfl B 5 i0 _ 1 1 Tryd.underlying32 hi hz0 hz1 hz2 rfl (by decide) _ _ _ rfl hown2 ⟨K, i', none⟩ (65 - i') (65 - i') (Lib.byteCells (hexN u)) rfl (by rw [Lib.byteCells_length]; omega) hnews (byteCells_one _) (by unfold maxLen; omega) (by omega) hB2s ?_; intro v5 w5 oB hg5 _)
      go_ret2
      refine ⟨v5, rfl, ?_, hbB.grown hg5 hB2s (fun k e => (hown2.lt k e).1), hch2.trans (Ch.grown hown2 hg5)⟩
      rw [show (hexN u).length = 65 - i' by omega]
      exact oB
end Go.Proofs.YtclgjdhobdncjaaDoor
