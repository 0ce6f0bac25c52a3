import Derived.Test.YtclgjdhobdncjaaDoorF3
import Derived.Deep.RegionHeldLaw
namespace Go.Proofs.YtclgjdhobdncjaaDoor
open Go.RowKit Go.Shelf
/-- a row with so much behind it -/
def apR (w : World) (B n : Nat) (xs : List Value) (T : List UInt8) (e : Ending) (w' : World) : Prop := ∃ v', e = .returned v' ∧ w'.ownsRow B 5 1 v' (n + T.length) (xs ++ Lib.byteCells T) ∧ Below B w w' ∧ Ch w w'
theorem DB.keep {w W : World} {B : Nat} (h : DB w) (hG : 4 < B) (hb : Below B w W) : DB W := fun j hj => (World.cell?_of_block (hb.block _ hG)).trans (h j hj)
theorem appendRune_ch (B : Nat) (v : Value) (n : Nat) (xs : List Value) (r : Int) (w : World) (hr0 : -2147483648 ≤ r) (hr1 : r ≤ 2147483647) (hown : w.ownsRow B 5 1 v n xs) (hlen : n + 4 ≤ 140737488355328) (hBw : B ≤ w.heap.size) :
    Calls Tryd.prog 20 #[v, .int .i32 r] w fun e w' => ∃ v', e = .returned v' ∧ w'.ownsRow B 5 1 v' (n + (Lib.runeCells r).length) (xs ++ Lib.runeCells r) ∧ Below B w w' ∧ Ch w w' := by
  refine (Any.utf8_AppendRune_plain Tryd.l242 info_u8 B v n xs r hr0 hr1 w hown hlen hBw).mono ?_
  rintro e w' ⟨v', rfl, ho, o, hg⟩
  exact ⟨v', rfl, ho, ((Below.refl _ _).alloc hBw _).grown hg (by simp; omega) (fun k e => (hown.lt k e).1), (Ch.alloc _ _).trans (Ch.grown (hown.alloc _) hg)⟩
theorem own_drew {w : World} {B n : Nat} {v : Value} {xs : List Value} (h : w.ownsRow B 5 1 v n xs) : w.drew.ownsRow B 5 1 v n xs := h
theorem and15_8 (m : Nat) (hm : m < 256) : bits .and .u8 (m : Int) 15 = ((m % 16 : Nat) : Int) := by
  have a1 : (BitVec.ofInt 8 (m : Int)).toNat = m := by
    rw [BitVec.ofInt_natCast, BitVec.toNat_ofNat]; exact Nat.mod_eq_of_lt (by omega)
  have a2 : (BitVec.ofInt 8 (15 : Int)).toNat = 15 := by decide
  have a3 : m &&& 15 = m % 16 := Nat.and_two_pow_sub_one_eq_mod m 4
  show IntKind.u8.wrap ((BitVec.ofInt 8 (m : Int) &&& BitVec.ofInt 8 (15 : Int)).toNat : Int) = _
  rw [BitVec.toNat_and, a1, a2, a3, IntKind.wrap_u8]
  omega
theorem hex_idx (d : Nat) (hd : d < 16) (W : World) : Sem.run Tryd.prog (Instr.index 9 (.string hexT) (.int .u8 (d : Int))) W = .ok (.int .u8 ((hx d).toNat : Int)) W := by
  have hd2 := hx_get d hd
  obtain ⟨hlt, hv⟩ := Array.getElem?_eq_some_iff.1 hd2
  have u := Tryd.underlying9
  have h0 : (0 : Int) ≤ (d : Int) := by omega
  have h1 : (d : Int) < 16 := by omega
  have hg : ∀ h', (hexT)[d]'h' = hx d := fun _ => hv
  simp [go_sem, u, h1, hg]
set_option maxRecDepth 100000 in
set_option maxHeartbeats 2000000 in
theorem appendPiece_any (r : Int) (b : Nat) (hb : b < 256) (hr0 : -1 ≤ r) (hr1 : r ≤ 1114111) (B n : Nat) (sv : Value) (xs : List Value) (w : World) (hsh : SH w) (hun0 : UN w) (hdb0 : DB w) (hown : w.ownsRow B 5 1 sv n xs) (hBw : B ≤ w.heap.size) (hlim : n + 100 ≤ 140737488355328) (hG : 4 < B) :
    Calls Tryd.prog 11 #[sv, .int .i32 r, .int .u8 (b : Int)] w fun e w' => apR w B n xs (apT r b) e w' := by
  obtain ⟨i0, hi, hz0, hz1, hz2⟩ := info_parts info_u8
  have c0 : w.cell? ⟨0, 0, none⟩ = some (.int .i32 34) := hsh.cell 0
  have c1 : w.cell? ⟨0, 1, none⟩ = some (.int .i32 34) := hsh.cell 1
  have c2 : w.cell? ⟨0, 2, none⟩ = some (.int .i32 92) := hsh.cell 2
  have c3 : w.cell? ⟨0, 3, none⟩ = some (.int .i32 92) := hsh.cell 3
  have c4 : w.cell? ⟨0, 4, none⟩ = some (.int .i32 110) := hsh.cell 4
  have c5 : w.cell? ⟨0, 5, none⟩ = some (.int .i32 10) := hsh.cell 5
  have c6 : w.cell? ⟨0, 6, none⟩ = some (.int .i32 114) := hsh.cell 6
  have c7 : w.cell? ⟨0, 7, none⟩ = some (.int .i32 13) := hsh.cell 7
  have c8 : w.cell? ⟨0, 8, none⟩ = some (.int .i32 116) := hsh.cell 8
  have c9 : w.cell? ⟨0, 9, none⟩ = some (.int .i32 9) := hsh.cell 9
  have hun : Hid (UN w) := hun0
  have hdb : Hid (DB w) := hdb0
  have hix := fun k z h W => idx_short k z h W
  obtain ⟨T, hT0⟩ : ∃ T, apT r b = T := ⟨_, rfl⟩
  rw [hT0]
  have hT : Hid (apT r b = T) := hT0
  clear hsh hun0 hdb0 hT0
  obtain ⟨qv, cv, rfl⟩ := shapeP hown
  go_enter Tryd.func11, Tryd.ntmps11
  go_wp2_with fail
  go_loopw [12] (fun vk wr => ∃ k : Nat, vk = .int .i64 k ∧ k ≤ 5 ∧ (∀ (j : Nat) (z : Int × Int), j < k → shortsL[j]? = some z → z.2 ≠ r) ∧ Below w.heap.size w wr) (fun vk _ => 5 - (intOf vk).toNat)
  case atStart => exact ⟨0, rfl, by omega, fun j z hj => by omega, Below.refl _ _⟩
  case round =>
    clear c0 c1 c2 c3 c4 c5 c6 c7 c8 c9
    obtain ⟨k, rfl, hk, hno, hB⟩ := hrel
    have hsz := hB.size
    by_cases hk5 : k < 5
    · have hk5' : (k : Int) < 5 := by omega
      obtain ⟨z, hz⟩ : ∃ z, shortsL[k]? = some z := ⟨_, List.getElem?_eq_getElem hk5⟩
      have hx := fun W => hix k z hz W
      obtain ⟨z1, z2⟩ := z
      simp only at hx
      have HN : Hid (∀ (j : Nat) (z : Int × Int), j < k → shortsL[j]? = some z → z.2 ≠ r) := hno
      have HZ : Hid (shortsL[k]? = some (z1, z2)) := hz
      clear hix hno hz
      by_cases hzr : z2 = r
      · subst hzr
        have ho := shL_of HZ.out
        have hq := sh_small HZ.out
        have ht : T = [92, UInt8.ofNat z1.toNat] := by rw [← hT.out]; unfold apT; rw [ho]
        subst ht
        have hmod : z1 % 256 = z1 := by simp only at hq; omega
        have hown2 : (wr.alloc (Obj.cells #[Value.int IntKind.i32 z1, Value.int IntKind.i32 z2] 46)).ownsRow B 5 1 (.slice qv n cv) n xs := (own_below hown hB).alloc _
        have hb2 : Below B w (wr.alloc (Obj.cells #[Value.int IntKind.i32 z1, Value.int IntKind.i32 z2] 46)) := (hB.mono hBw).alloc (by omega) _
        have ecs : Hid ([Value.int .u8 92, Value.int .u8 z1] = Lib.byteCells [92, UInt8.ofNat z1.toNat]) := by
          show [_, _] = [_, Value.int .u8 ((UInt8.ofNat z1.toNat).toNat : Int)]
          rw [hv8 z1 z1.toNat (by simp only at hq; omega) (by simp only at hq; omega)]
          rfl
        have hchA : Ch w (wr.alloc (Obj.cells #[Value.int IntKind.i32 z1, Value.int IntKind.i32 z2] 46)) := (Ch.below hB).trans (Ch.alloc _ _)
        have hget : ((wr.alloc (Obj.cells #[Value.int IntKind.i32 z1, Value.int IntKind.i32 z2] 46)).alloc (Obj.cells #[Value.int .u8 92, Value.int .u8 z1] 5)).heap[wr.heap.size + 1]? = some (Obj.cells #[Value.int .u8 92, Value.int .u8 z1] 5) := by
          have := alloc_get (wr.alloc (Obj.cells #[Value.int IntKind.i32 z1, Value.int IntKind.i32 z2] 46)) (Obj.cells #[Value.int .u8 92, Value.int .u8 z1] 5)
          simpa using this
        have hnews := World.news_of_block hget
        clear hT HN HZ hown hB ho hget
        go_wp2_with (at_builtin; refine wpList_append_own _ rfl _ _ 32 rfl B 5 i0 _ 1 1 Tryd.underlying32 hi hz0 hz1 hz2 rfl (by decide) _ _ _ rfl (hown2.alloc _) ⟨wr.heap.size + 1, 0, none⟩ 2 2 [Value.int .u8 92, Value.int .u8 z1] rfl rfl hnews (by simp [Value.oneCell']) (by unfold maxLen; omega) (by omega) (by simp; omega) ?_; intro v5 w5 oB hg5 _)
        go_ret
        refine ⟨v5, rfl, ?_, (hb2.alloc (by simp; omega) _).grown hg5 (by simp; omega) (fun k e => (hown2.lt k e).1), (hchA.trans (Ch.alloc _ _)).trans (Ch.grown (hown2.alloc _) hg5)⟩
        rw [← ecs.out]
        exact oB
      · have hzr' : (z2 == r) = false := beq_eq_false_iff_ne.2 hzr
        have HN2 : Hid (∀ (j : Nat) (z : Int × Int), j < k + 1 → shortsL[j]? = some z → z.2 ≠ r) := fun j z hj hz => by
          by_cases h : j = k
          · subst h
            rw [HZ.out] at hz
            rw [← Option.some.inj hz]
            exact hzr
          · exact HN.out j z (by omega) hz
        clear HN HZ
        go_wp2_with fail
        go_roundw
        case rel => exact ⟨k + 1, by go_num, by omega, HN2.out, hB.alloc hsz _⟩
        case measure => simp [intOf]; omega
    · have hk5' : ¬ (k : Int) < 5 := by omega
      have ho : shL r = none := shL_none (fun j z hj hz => hno j z (by omega) hz)
      have hT2 : (if r < 32 ∨ r = 127 then looS b else if unsN r.toNat = true then [92, 117, 123] ++ hexN r.toNat ++ [125] else Lib.encodeRune r) = T := by rw [← hT.out]; unfold apT; rw [ho]
      have HBA := fun W => barred_any r W
      clear hix hT ho hno
      by_cases hbar : r < 32 ∨ r = 127
      · rw [if_pos hbar] at hT2
        rw [decide_eq_true hbar] at HBA
        have hbd := and15_8 b hb
        obtain ⟨a, ha⟩ : ∃ a, b / 16 = a := ⟨_, rfl⟩
        obtain ⟨d, hd⟩ : ∃ d, b % 16 = d := ⟨_, rfl⟩
        rw [hd] at hbd
        have hba : (b : Int) / 16 = (a : Int) := by omega
        have hi1 := fun W => hex_idx a (by omega) W
        have hi2 := fun W => hex_idx d (by omega) W
        have hTT : Hid (T = [92, 120, hx a, hx d]) := by unfold Hid; rw [← hT2, looS, ha, hd]
        clear hT2 ha hd
        go_wp2_with fail
        refine (HBA _).mono ?_
        rintro e w2 ⟨rfl, rfl⟩
        go_wp2_with fail
        have hown2 : w2.ownsRow B 5 1 (.slice qv n cv) n xs := own_below hown hB
        have hb2 : Below B w w2 := hB.mono hBw
        have hchB : Ch w w2 := Ch.below hB
        go_region_held_law (fun _ => True) (trivial) ((refine step_append_lies _ (by rfl) _ _ 32 (by rfl) B 5 i0 _ 1 1 Tryd.underlying32 hi hz0 hz1 hz2 rfl (by decide) _ n xs (by rfl) (hown2.alloc _) ⟨w2.heap.size, 0, none⟩ 4 4 [Value.int .u8 92, Value.int .u8 120, Value.int .u8 ((hx a).toNat : Int), Value.int .u8 ((hx d).toNat : Int)] (by rfl) rfl (World.news_of_block (cs := #[Value.int .u8 92, Value.int .u8 120, Value.int .u8 ((hx a).toNat : Int), Value.int .u8 ((hx d).toNat : Int)]) (t := 5) (fr := (0, 0)) (heap_alloc_new _ _)) (by simp [Value.oneCell']) (by decide) (by unfold maxLen; omega) (by omega) (by simp; omega) _ rfl ?_; intro g5 c5 w5 oB hg5 _ _))
        all_goals
          simp only [List.getElem_toArray, List.getElem_cons_succ, List.getElem_cons_zero, List.setIfInBounds_toArray, List.set_cons_succ, List.set_cons_zero]
          go_wp2_with fail
          go_ret
          refine ⟨.slice (some ⟨g5, 0, none⟩) (n + 4) c5, rfl, ?_, (hb2.alloc (by omega) _).drew.grown hg5 (by show B ≤ (w2.alloc _).heap.size; simp; omega) (fun k e => (hown2.lt k e).1), ((hchB.trans (Ch.alloc _ _)).trans (Ch.drew _)).trans (Ch.grown (own_drew (hown2.alloc _)) hg5)⟩
          rw [hTT.out]
          exact oB
      · rw [if_neg hbar] at hT2
        rw [decide_eq_false hbar] at HBA
        obtain ⟨m, rfl⟩ : ∃ m : Nat, r = (m : Int) := ⟨r.toNat, by omega⟩
        rw [Int.toNat_natCast] at hT2
        have hT3 : Hid ((if unsN m = true then [92, 117, 123] ++ hexN m ++ [125] else Lib.encodeRune (m : Int)) = T) := hT2
        clear hT2
        go_wp2_with fail
        refine (HBA _).mono ?_
        rintro e w2 ⟨rfl, rfl⟩
        have hun2 := hun.out.below hB
        have d0 : w2.cell? ⟨1, 0, none⟩ = some (.int .i32 128) := hun2.cell 0
        have d1 : w2.cell? ⟨1, 1, none⟩ = some (.int .i32 159) := hun2.cell 1
        have d2 : w2.cell? ⟨1, 2, none⟩ = some (.int .i32 8203) := hun2.cell 2
        have d3 : w2.cell? ⟨1, 3, none⟩ = some (.int .i32 8207) := hun2.cell 3
        have d4 : w2.cell? ⟨1, 4, none⟩ = some (.int .i32 8232) := hun2.cell 4
        have d5 : w2.cell? ⟨1, 5, none⟩ = some (.int .i32 8238) := hun2.cell 5
        have d6 : w2.cell? ⟨1, 6, none⟩ = some (.int .i32 65279) := hun2.cell 6
        have d7 : w2.cell? ⟨1, 7, none⟩ = some (.int .i32 65279) := hun2.cell 7
        have hiu := fun k z h W => idx_unseen k z h W
        clear hun2 hun HBA
        go_wp2_with fail
        go_loopw [0, 38] (fun v0 vk wr => ∃ k : Nat, v0 = .slice qv n cv ∧ vk = .int .i64 k ∧ k ≤ 4 ∧ (∀ (j : Nat) (z : Int × Int), j < k → unseenL[j]? = some z → ¬ (z.1 ≤ (m : Int) ∧ (m : Int) ≤ z.2)) ∧ Below w.heap.size w wr) (fun _ vk _ => 4 - (intOf vk).toNat)
        case atStart => exact ⟨0, rfl, rfl, by omega, fun j z hj => by omega, hB⟩
        case round =>
          clear d0 d1 d2 d3 d4 d5 d6 d7 hB hsz
          obtain ⟨k2, rfl, rfl, hk2, hno, hB⟩ := hrel
          have hsz := hB.size
          by_cases hk4 : k2 < 4
          · have hk4' : (k2 : Int) < 4 := by omega
            obtain ⟨z, hz⟩ : ∃ z, unseenL[k2]? = some z := ⟨_, List.getElem?_eq_getElem hk4⟩
            have hx := fun W => hiu k2 z hz W
            have hin := fun h1 h2 => uns_of hz (n := m) h1 h2
            obtain ⟨z1, z2⟩ := z
            simp only at hx hin
            have HN : Hid (∀ (j : Nat) (z : Int × Int), j < k2 → unseenL[j]? = some z → ¬ (z.1 ≤ (m : Int) ∧ (m : Int) ≤ z.2)) := hno
            have HZ : Hid (unseenL[k2]? = some (z1, z2)) := hz
            clear hiu hno hz
            by_cases hzr : z1 ≤ (m : Int) ∧ (m : Int) ≤ z2
            · obtain ⟨f1, f2⟩ := hzr
              have hu := hin f1 f2
              have ht := hT3.out
              rw [if_pos hu] at ht
              have HT : Hid ([92, 117, 123] ++ hexN m ++ [125] = T) := ht
              have hlo : m < 4294967296 := by omega
              obtain ⟨O, hO⟩ : ∃ O, Obj.cells #[Value.int IntKind.i32 z1, Value.int IntKind.i32 z2] 50 = O := ⟨_, rfl⟩
              have hown2 : (wr.alloc O).ownsRow B 5 1 (.slice qv n cv) n xs := (own_below hown hB).alloc _
              have hb2 : Below B w (wr.alloc O) := (hB.mono hBw).alloc (by omega) _
              have hbs : B ≤ (wr.alloc O).heap.size := by simp; omega
              rw [← hO] at hown2 hb2 hbs
              have h8 := hexN_le m (by omega)
              have hchC : Ch w (wr.alloc (Obj.cells #[Value.int IntKind.i32 z1, Value.int IntKind.i32 z2] 50)) := (Ch.below hB).trans (Ch.alloc _ _)
              clear ht hT3 hin HN HZ hu hB hO hsz hown
              go_wp2_with (at_builtin; refine Lib.wpList_append_own_string _ rfl _ _ 32 9 rfl B 5 i0 Tryd.underlying32 Tryd.underlying9 hi hz0 hz1 hz2 _ _ _ rfl hown2 ⟨#[92, 117, 123]⟩ rfl (by unfold maxLen; show n + 3 ≤ _; omega) (by show n + 3 ≤ _; omega) hbs ?_; intro v5 w5 oB5 hg5 _)
              have b5 : Below B w w5 := hb2.grown hg5 hbs (fun k e => (hown2.lt k e).1)
              have s5 : B ≤ w5.heap.size := Nat.le_trans hBw b5.size
              have HA := appendInt_16 m hlo B (n + 3) v5 _ w5 (hdb.out.keep hG b5) oB5 s5 (by omega)
              have ch5 : Ch w w5 := hchC.trans (Ch.grown hown2 hg5)
              obtain ⟨q5, c5, rfl⟩ := shapeP oB5
              clear hg5 oB5 hown2 hb2 hbs
              go_wp2_with fail
              refine HA.mono ?_
              rintro e w6 ⟨v6, rfl, oB6, b6, ch6⟩
              have b6' := b5.trans b6
              have s6 : B ≤ w6.heap.size := Nat.le_trans hBw b6'.size
              obtain ⟨q6, c6, rfl⟩ := shapeP oB6
              clear HA b5 b6
              go_wp2_with (at_builtin; refine wpList_append_own _ rfl _ _ 32 rfl B 5 i0 _ 1 1 Tryd.underlying32 hi hz0 hz1 hz2 rfl (by decide) _ _ _ rfl (oB6.alloc _) ⟨w6.heap.size, 0, none⟩ 1 1 [Value.int .u8 125] rfl rfl (World.news_of_block (cs := #[.int .u8 125]) (t := 5) (fr := (0, 0)) (alloc_get _ _)) (by simp [Value.oneCell']) (by unfold maxLen; omega) (by omega) (by simp; omega) ?_; intro v7 w7 oB7 hg7 _)
              go_ret
              refine ⟨v7, rfl, ?_, (b6'.alloc s6 _).grown hg7 (by simp; omega) (fun k e => (oB6.lt k e).1), ((ch5.trans ch6).trans (Ch.alloc _ _)).trans (Ch.grown (oB6.alloc _) hg7)⟩
              rw [← HT.out, byteCells_append, byteCells_append, List.length_append, List.length_append]
              have e1 : n + (([92, 117, 123] : List UInt8).length + (hexN m).length + ([125] : List UInt8).length) = n + 3 + (hexN m).length + 1 := by simp; omega
              rw [e1]
              have e2 : xs ++ (Lib.byteCells [92, 117, 123] ++ Lib.byteCells (hexN m) ++ Lib.byteCells [125]) = xs ++ Lib.strCells ⟨#[92, 117, 123]⟩ ++ Lib.byteCells (hexN m) ++ [Value.int .u8 125] := by
                rw [← List.append_assoc, ← List.append_assoc]
                rfl
              rw [e2]
              exact oB7
            · have hcase : (¬ z1 ≤ (m : Int)) ∨ (z1 ≤ (m : Int) ∧ ¬ (m : Int) ≤ z2) := by omega
              have HN2 : Hid (∀ (j : Nat) (z : Int × Int), j < k2 + 1 → unseenL[j]? = some z → ¬ (z.1 ≤ (m : Int) ∧ (m : Int) ≤ z.2)) := fun j z hj hz => by
                by_cases h : j = k2
                · subst h
                  rw [HZ.out] at hz
                  rw [← Option.some.inj hz]
                  exact hzr
                · exact HN.out j z (by omega) hz
              clear HN HZ hin hzr
              rcases hcase with f1 | ⟨f1, f2⟩
              · go_wp2_with fail
                go_roundw
                case rel => exact ⟨k2 + 1, rfl, by go_num, by omega, HN2.out, hB.alloc hsz _⟩
                case measure => simp [intOf]; omega
              · go_wp2_with fail
                go_roundw
                case rel => exact ⟨k2 + 1, rfl, by go_num, by omega, HN2.out, hB.alloc hsz _⟩
                case measure => simp [intOf]; omega
          · have hk4' : ¬ (k2 : Int) < 4 := by omega
            have hu : unsN m = false := uns_not (fun j z hj hz => hno j z (by omega) hz)
            have ht := hT3.out
            rw [if_neg (by rw [hu]; decide)] at ht
            have HT : Hid (Lib.encodeRune (m : Int) = T) := ht
            have hown2 := own_below hown hB
            have hchD : Ch w wr := Ch.below hB
            have HA := appendRune_ch B (.slice qv n cv) n xs (m : Int) wr (by omega) (by omega) hown2 (by omega) (by omega)
            have hb2 : Below B w wr := hB.mono hBw
            clear ht hT3 hu hno hiu hB hown hown2
            go_wp2_with fail
            refine HA.mono ?_
            rintro e w6 ⟨v6, rfl, oB6, b6, ch6⟩
            go_wp2_with fail
            go_ret
            refine ⟨v6, rfl, ?_, hb2.trans b6, hchD.trans ch6⟩
            rw [← HT.out, Lib.byteCells_encodeRune, ← Lib.runeCells_length]
            exact oB6
end Go.Proofs.YtclgjdhobdncjaaDoor
