import Derived.Test.YtppmncmhokkfdaaDoorZ7
import Derived.OwnWalk
import Derived.Shelf.Spec.TrailingZeros
import Derived.Shelf.Lays7
import Derived.Test.YtppmncmhokkfdaaDoorProg
import Derived.Test.YtppmncmhokkfdaaDoorZ1
import Derived.Test.YtppmncmhokkfdaaDoorZ5
import Derived.Deep.QuietTactic
namespace Go.Proofs.YtppmncmhokkfdaaDoor
open Go.RowKit Go.Shelf
theorem wp_scope_many2 {P : Program} {a : Act} {w : World} {Q : Exit → Act → World → Prop} {c : Code} (J : Nat → Act → World → Prop) (m : Nat → Act → World → Nat)
    (pass : ∀ l a w, J l a w → ∃ X, findLabel c l = some (.seq .skip X) ∧ X.wp P (jumpN (fun l' a' w' => J l' a' w' ∧ m l' a' w' < m l a w) Q) a w)
    (first : (∀ l a w, J l a w → ∃ X, findLabel c l = some (.seq .skip X) ∧ X.wp P (jumpN J Q) a w) → c.wp P (jumpN J Q) a w) : (Code.scope c).wp P Q a w :=
  wp_scope_many J m (first (fun l a w h => by
    obtain ⟨X, hf, hr⟩ := pass l a w h
    refine ⟨X, hf, wp_mono hr ?_⟩
    intro e a' w' hq
    cases e with
    | goto l' => exact hq.1
    | normal => exact hq
    | exit id => exact hq
    | ret => exact hq
    | panic ch => exact hq
    | outgrown => exact hq)) (fun l a w h => by
    obtain ⟨X, hf, hr⟩ := pass l a w h
    exact ⟨_, hf, wp_seq (wp_skip hr)⟩)
theorem jump_ret {J : Nat → Act → World → Prop} {Q : Exit → Act → World → Prop} {a : Act} {w : World} (h : Q .ret a w) : jumpN J Q .ret a w := h
theorem jump_goto {J : Nat → Act → World → Prop} {Q : Exit → Act → World → Prop} {a : Act} {w : World} {l : Nat} (h : J l a w) : jumpN J Q (.goto l) a w := h
theorem bar_iff (l : List UInt8) (j : Nat) (h : j < l.length) : (chr l j < 32 ∨ chr l j = 127) ↔ (lo1 l j = true ∨ bt l j < 32 ∨ bt l j = 127) := by
  unfold chr
  rw [if_pos h]
  by_cases hb : bt l j < 128
  · rw [lo1_asc hb, dc_asc hb]
    simp only [Bool.false_eq_true, if_false, false_or]
    omega
  · have := dc_big hb
    cases lo1 l j with
    | true => simp
    | false => simp only [Bool.false_eq_true, if_false, false_or]; omega
theorem escS_drop (l : List UInt8) (j : Nat) (hj : j < l.length) (hb : bt l j = 92) (h : 0 < (escS l j).1) : (chars l j).drop (escS l j).1 = chars l (j + (escS l j).1) := by
  have hc0 : chars l j = (92, j) :: chars l (j + 1) := by rw [chars_asc hj (by omega), hb]; rfl
  have asc : ∀ m, j + m < l.length → bt l (j + m) < 128 → ∃ c, chars l (j + m) = c :: chars l (j + m + 1) := fun m h1 h2 => ⟨_, chars_asc h1 h2⟩
  have two : j + 1 < l.length → bt l (j + 1) < 128 → (chars l j).drop 2 = chars l (j + 2) := fun h1 h2 => by
    obtain ⟨c, hc⟩ := asc 1 h1 h2
    rw [hc0, hc]; rfl
  unfold escS at h ⊢
  split at h
  · simp at h
  rename_i g0
  rw [if_neg g0]
  by_cases g1 : bt l (j + 1) = 34
  · rw [if_pos g1]; exact two (by omega) (by omega)
  rw [if_neg g1] at h ⊢
  by_cases g2 : bt l (j + 1) = 92
  · rw [if_pos g2]; exact two (by omega) (by omega)
  rw [if_neg g2] at h ⊢
  by_cases g3 : bt l (j + 1) = 110
  · rw [if_pos g3]; exact two (by omega) (by omega)
  rw [if_neg g3] at h ⊢
  by_cases g4 : bt l (j + 1) = 114
  · rw [if_pos g4]; exact two (by omega) (by omega)
  rw [if_neg g4] at h ⊢
  by_cases g5 : bt l (j + 1) = 116
  · rw [if_pos g5]; exact two (by omega) (by omega)
  rw [if_neg g5] at h ⊢
  by_cases g6 : bt l (j + 1) = 120
  · rw [if_pos g6] at h ⊢
    have t2 := two (by omega) (by omega)
    rcases hex2 l j with ⟨h3, a, b, ha, hb, hq⟩ | ⟨hq, hno⟩
    · rw [if_pos h3, ha, hb]
      have := drop_hex 2 l (j + 2) 0
      rw [hq] at this
      show (chars l j).drop 4 = chars l (j + 4)
      rw [show 4 = 2 + 2 by rfl, ← List.drop_drop, t2]
      exact this
    · by_cases h3 : j + 3 < l.length
      · rw [if_pos h3] at h
        rcases hno h3 with e | e
        · rw [e] at h; simp at h
        · rw [e] at h
          revert h
          cases hexD (l.getD (j + 2) 0) <;> simp
      · rw [if_neg h3] at h; simp at h
  rw [if_neg g6] at h ⊢
  by_cases g7 : bt l (j + 1) = 117
  · rw [if_pos g7] at h ⊢
    have t2 := two (by omega) (by omega)
    by_cases h0 : 0 < (brS l j).1
    · rw [if_pos h0]
      show (chars l j).drop (brS l j).1 = chars l (j + (brS l j).1)
      unfold brS at h0 ⊢
      split at h0
      · simp at h0
      · split at h0
        · simp at h0
        · rename_i k1 k2
          rw [if_neg k1, if_neg k2]
          have hd := drop_hex 6 l (j + 3) 0
          show (chars l j).drop (4 + (hexRun 6 (l.drop (j + 3)) 0).1) = chars l (j + (4 + (hexRun 6 (l.drop (j + 3)) 0).1))
          obtain ⟨c2, hc2⟩ := asc 2 (by omega) (by omega)
          have t3 : (chars l j).drop 3 = chars l (j + 3) := by
            rw [show 3 = 2 + 1 by rfl, ← List.drop_drop, t2, hc2]; rfl
          obtain ⟨c3, hc3⟩ := asc (3 + (hexRun 6 (l.drop (j + 3)) 0).1) (by omega) (by rw [← Nat.add_assoc]; omega)
          rw [show 4 + (hexRun 6 (l.drop (j + 3)) 0).1 = 3 + ((hexRun 6 (l.drop (j + 3)) 0).1 + 1) by omega, ← List.drop_drop, t3, ← List.drop_drop, hd, Nat.add_assoc, hc3]
          exact congrArg (chars l) (by omega)
    · rw [if_neg h0] at h; simp at h
  · rw [if_neg g7] at h; simp at h
theorem byteCells_append (a b : List UInt8) : Lib.byteCells (a ++ b) = Lib.byteCells a ++ Lib.byteCells b := by simp [Lib.byteCells]
theorem byteCells_one (b : List UInt8) : ∀ u ∈ Lib.byteCells b, u.oneCell' = true := by
  intro u hu
  obtain ⟨c, _, rfl⟩ := List.mem_map.1 hu
  rfl
theorem use_pass {P : Program} {a : Act} {w : World} {R : Exit → Act → World → Prop} {c X : Code} {J : Nat → Act → World → Prop} {l : Nat} (h : ∀ a w, J l a w → ∃ X, findLabel c l = some (.seq .skip X) ∧ X.wp P R a w) (hJ : J l a w) (hf : findLabel c l = some (.seq .skip X)) : X.wp P R a w := by
  obtain ⟨Y, hY, hr⟩ := h a w hJ
  have e := Option.some.inj (hf.symm.trans hY)
  injection e with _ e
  rw [e]
  exact hr
theorem results_pc (tmps : Array Value) (W : World) (a b c : Value) (h : tmps.getD 4 undef = a ∧ tmps.getD 5 undef = b ∧ tmps.getD 6 undef = c) : (results Tryd.f22 tmps).run Tryd.prog W = .ok (.tuple #[a, b, c]) W := by
  obtain ⟨h1, h2, h3⟩ := h
  have h1' : tmps[4]?.getD undef = a := by simpa using h1
  have h2' : tmps[5]?.getD undef = b := by simpa using h2
  have h3' : tmps[6]?.getD undef = c := by simpa using h3
  simp [results, h1', h2', h3', go_sem]
/-- what pieces answers: what is said, the error, the number of the character -/
def pcR (l : List UInt8) (w : World) (e : Ending) (w' : World) : Prop := ∃ v k, e = .returned (.tuple #[v, .int .i64 ((insS l 1 []).2.2 : Int), .int .i64 ((k : Nat) : Int)]) ∧ (chars l 0).drop k = chars l (insS l 1 []).2.1 ∧ (insS l 1 []).2.1 ≤ l.length ∧ w'.ownsRow w.heap.size 5 1 v (insS l 1 []).1.length (Lib.byteCells (insS l 1 []).1) ∧ Below w.heap.size w w'
set_option maxRecDepth 100000 in
set_option maxHeartbeats 2000000 in
theorem pieces_any (l : List UInt8) (ad : Addr) (cap : Nat) (w : World) (hs : l.length ≤ 16384) (h34 : 0 < l.length) (hb0 : bt l 0 = 34) (hcap : (chars l 0).length ≤ cap) (hC0 : CH w ad (chars l 0)) (hsh0 : SH w) :
    Calls Tryd.prog 22 #[.slice (some ad) (chars l 0).length cap, .int .i64 1] w fun e w' => pcR l w e w' := by
  have hC : Hid (CH w ad (chars l 0)) := hC0
  have hsh : Hid (SH w) := hsh0
  have hNm := chars_len l _ 0 (Nat.le_refl _)
  have start : Hid ((chars l 0).drop 1 = chars l 1) := by unfold Hid; rw [chars_asc h34 (by omega)]; rfl
  clear hC0 hsh0 hb0
  obtain ⟨i0, hi, hz0, hz1, hz2⟩ := info_parts info_u8
  go_enter Tryd.func22, Tryd.ntmps22
  go_wp2_with fail
  refine wp_scope_many2 (PJ l w ad (chars l 0).length cap) (fun lab a _ => 2 * ((chars l 0).length - (intOf (a.tmps.getD 1 undef)).toNat) + (if lab = 1 then 1 else 0)) ?pass ?first
  case first =>
    intro pass
    go_wp2_with fail
    go_step3
    simp only [Exit.then]
    rename_i hK
    refine hK _ _ ?_
    exact use_pass (pass 1) ⟨1, 1, [], .slice none 0 0, _, rfl, rfl, rfl, rfl, rfl, .inr rfl, start.out, by omega, rfl, Nat.zero_le _, World.ownsRow_nil _ _ _ _, Below.refl _ _, fun h => by cases h⟩ rfl
  case pass =>
    intro lab a wr hJ
    have hlab : lab = 0 ∨ lab = 1 := by
      obtain ⟨_, _, _, _, _, _, _, _, _, _, HF⟩ := hJ
      exact HF.out.1
    rcases hlab with rfl | rfl
    · refine ⟨_, rfl, ?_⟩
      obtain ⟨now, j, said, v, u, rfl, hu, h0, h1, h7, HF⟩ := hJ
      obtain ⟨u0, u1, u2, u3, u4, u5, u6, u7, u8, u9, u10, u11, u12, u13, u14, u15, u16, u17, u18, u19, u20, u21, u22, u23, u24, u25, u26, u27, u28, u29, u30, u31, u32, u33, u34, u35, u36, u37, u38, u39, u40, u41, u42, u43, u44, u45, u46, u47, u48, u49, u50, u51, u52, u53, u54, u55, u56, u57, rfl⟩ := arr_58 u hu
      have e0 : u0 = .slice (some ad) (chars l 0).length cap := h0
      have e1 : u1 = .int .i64 now := h1
      have e7 : u7 = v := h7
      subst e0 e1 e7
      clear hu h0 h1 h7
      obtain ⟨-, hdr, hjl, hins, hsj, hown, hB, h92⟩ := HF.out
      clear HF
      obtain ⟨hlt, g92⟩ := h92 rfl
      have hnow := drop_lt hdr
      have n0 : (0 : Int) ≤ (now : Int) := by omega
      have n1 : (now : Int) ≤ ((chars l 0).length : Int) := by omega
      have hsz := hB.size
      have hlen : (chars l j).length = (chars l 0).length - now := by rw [← hdr]; simp
      have hCj := (hC.out.below hB).drop now
      rw [hdr] at hCj
      have HE := escapeAt_any l j (ad.add (now * 2)) (cap - now) wr hs hlt g92 (by omega) hCj (hsh.out.below hB)
      rw [hlen] at HE
      rw [insS, if_pos hlt, if_neg (by omega), if_pos g92] at hins
      by_cases hz : (escS l j).1 = 0
      · rw [if_pos hz] at hins
        have HR : Hid (insS l 1 [] = ([], j, 34)) := hins.symm
        have HN : Hid ((chars l 0).drop now = chars l j) := hdr
        rw [hz] at HE
        obtain ⟨b, hb⟩ : ∃ b, (escS l j).2 = b := ⟨_, rfl⟩
        rw [hb] at HE
        clear hins hdr hCj hb hlen hz
        go_wp2_with fail
        refine HE.mono ?_
        rintro e w2 ⟨v2, rfl, ho2, hb2⟩
        go_wp2_with fail
        refine jump_ret (bodyPost_ret (results_pc _ _ _ _ _ ⟨rfl, rfl, rfl⟩) rfl ?_)
        refine ⟨.slice none 0 0, now, ?_⟩
        rw [HR.out]
        exact ⟨rfl, HN.out, hjl, World.ownsRow_nil _ _ _ _, bel0 hB hb2⟩
      · rw [if_neg hz] at hins
        obtain ⟨hq1, hq2⟩ := escS_end l j (by omega)
        have hbne := escS_ne l j (by omega)
        have hdr2 := escS_drop l j hlt g92 (by omega)
        obtain ⟨k, hk⟩ : ∃ k, (escS l j).1 = k := ⟨_, rfl⟩
        obtain ⟨b, hb⟩ : ∃ b, (escS l j).2 = b := ⟨_, rfl⟩
        rw [hk] at hz hq1 hq2 hins HE hdr2
        rw [hb] at hq2 hins HE hbne
        have hbl : 0 < b.length := List.length_pos_iff.2 hbne
        have kz : (0 : Int) < (k : Int) := by omega
        have HF : ∀ (v5 : Value) (w5 : World), w5.ownsRow w.heap.size 5 1 v5 (said ++ b).length (Lib.byteCells (said ++ b)) → Below w.heap.size w w5 → Hid (PF l w 1 (now + k) (j + k) (said ++ b) v5 w5) := fun v5 w5 ho hb => ⟨.inr rfl, by rw [← List.drop_drop, hdr, hdr2], hq1, hins, by rw [List.length_append]; omega, ho, hb, fun h => by cases h⟩
        have hkN : now + k < (chars l 0).length := drop_lt (j := j + k) (by rw [← List.drop_drop, hdr, hdr2])
        clear hins hdr hCj hk hb hlen hdr2 hbne
        go_wp2_with fail
        refine HE.mono ?_
        rintro e w2 ⟨v2, rfl, ho2, hb2⟩
        have hB2 := bel0 hB hb2
        have hown2 := own_below hown hb2
        have hsz2 := hB2.size
        obtain ⟨g, c, rfl⟩ := own_form ho2 hbl
        have hnews := ho2.cells (g := g) rfl
        clear hown HE hB
        go_wp2_with (at_builtin; refine wpList_append_own _ rfl _ _ 52 rfl w.heap.size 5 i0 _ 1 1 Tryd.underlying52 hi hz0 hz1 hz2 rfl (by decide) _ _ _ rfl hown2 ⟨g, 0, none⟩ b.length c (Lib.byteCells b) rfl (by rw [Lib.byteCells_length, Nat.mul_one]) hnews (byteCells_one b) (by unfold maxLen; omega) (by omega) hsz2 ?_; intro v5 w5 oB hg5 _)
        have b5 : Below w.heap.size w w5 := hB2.grown hg5 hsz2 (fun k e => (hown2.lt k e).1)
        have HF5 := HF v5 w5 (by rw [List.length_append, byteCells_append]; exact oB) b5
        clear HF hg5 oB b5 hown2 ho2 hnews
        go_wp2_with fail
        go_step3
        simp only [Exit.then]
        refine And.intro ⟨now + k, _, _, v5, _, rfl, rfl, rfl, by go_num, rfl, HF5⟩ ?_
        simp [intOf]
        omega
    · refine ⟨_, rfl, ?_⟩
      obtain ⟨now, j, said, v, u, rfl, hu, h0, h1, h7, HF⟩ := hJ
      obtain ⟨u0, u1, u2, u3, u4, u5, u6, u7, u8, u9, u10, u11, u12, u13, u14, u15, u16, u17, u18, u19, u20, u21, u22, u23, u24, u25, u26, u27, u28, u29, u30, u31, u32, u33, u34, u35, u36, u37, u38, u39, u40, u41, u42, u43, u44, u45, u46, u47, u48, u49, u50, u51, u52, u53, u54, u55, u56, u57, rfl⟩ := arr_58 u hu
      have e0 : u0 = .slice (some ad) (chars l 0).length cap := h0
      have e1 : u1 = .int .i64 now := h1
      have e7 : u7 = v := h7
      subst e0 e1 e7
      clear hu h0 h1 h7
      obtain ⟨-, hdr, hjl, hins, hsj, hown, hB, -⟩ := HF.out
      clear HF
      have hnow := drop_lt hdr
      have hget := drop_get hdr
      have hx := ((hC.out.below hB) _ _ hget).1
      simp only at hx
      have n0 : (0 : Int) ≤ (now : Int) := by omega
      have n1 : (now : Int) < ((chars l 0).length : Int) := by omega
      have hsz := hB.size
      by_cases hlt : j < l.length
      · have hnx := drop_next hdr hlt
        rw [insS, if_pos hlt] at hins
        by_cases g34 : bt l j = 34
        · rw [(chr_asc l j 34 (by decide)).2 ⟨hlt, g34⟩] at hx
          rw [if_pos g34] at hins
          rw [dc_asc (by omega)] at hnx
          have HR : Hid (insS l 1 [] = (said, j + 1, 0)) := hins.symm
          have HN : Hid ((chars l 0).drop (now + 1) = chars l (j + 1)) := hnx
          clear hins hnx hdr hget
          go_wp2_with fail
          refine jump_ret (bodyPost_ret (results_pc _ _ _ _ _ ⟨rfl, rfl, rfl⟩) rfl ?_)
          refine ⟨u7, now + 1, ?_⟩
          rw [HR.out]
          exact ⟨rfl, HN.out, (by omega : j + 1 ≤ l.length), hown, hB⟩
        · rw [if_neg g34] at hins
          have c34 : chr l j ≠ 34 := fun e => g34 ((chr_asc l j 34 (by decide)).1 e).2
          by_cases g92 : bt l j = 92
          · rw [(chr_asc l j 92 (by decide)).2 ⟨hlt, g92⟩] at hx
            have HF : Hid (PF l w 0 now j said u7 wr) := ⟨.inl rfl, hdr, hjl, by rw [insS, if_pos hlt, if_neg g34]; exact hins, hsj, hown, hB, fun _ => ⟨hlt, g92⟩⟩
            clear hins hnx hdr hget
            go_wp2_with fail
            go_step3
            simp only [Exit.inBlock, Exit.then]
            refine And.intro ⟨now, j, said, u7, _, rfl, rfl, rfl, rfl, rfl, HF⟩ ?_
            simp
          · rw [if_neg g92] at hins
            have c92 : chr l j ≠ 92 := fun e => g92 ((chr_asc l j 92 (by decide)).1 e).2
            have cm2 : chr l j ≠ -2 := by unfold chr; rw [if_pos hlt]; split <;> omega
            have HB := fun W => barred_any (chr l j) W
            have hbi := bar_iff l j hlt
            have d34 : (chr l j == 34) = false := beq_eq_false_iff_ne.2 c34
            have d92 : (chr l j == 92) = false := beq_eq_false_iff_ne.2 c92
            have dm2 : (chr l j == -2) = false := beq_eq_false_iff_ne.2 cm2
            by_cases hbad : lo1 l j = true ∨ bt l j < 32 ∨ bt l j = 127
            · rw [if_pos hbad] at hins
              rw [decide_eq_true (hbi.2 hbad)] at HB
              have HR : Hid (insS l 1 [] = ([], j, 33)) := hins.symm
              have HN : Hid ((chars l 0).drop now = chars l j) := hdr
              obtain ⟨R, hR⟩ : ∃ R, chr l j = R := ⟨_, rfl⟩
              rw [hR] at hx HB d34 d92 dm2
              clear hins hnx hdr hget c34 c92 cm2 hbi hbad hR
              go_wp2_with fail
              refine (HB _).mono ?_
              rintro e w2 ⟨rfl, rfl⟩
              go_wp2_with fail
              refine jump_ret (bodyPost_ret (results_pc _ _ _ _ _ ⟨rfl, rfl, rfl⟩) rfl ?_)
              refine ⟨.slice none 0 0, now, ?_⟩
              rw [HR.out]
              exact ⟨rfl, HN.out, hjl, World.ownsRow_nil _ _ _ _, hB⟩
            · rw [if_neg hbad] at hins
              rw [decide_eq_false (fun e => hbad (hbi.1 e))] at HB
              have hlo : lo1 l j = false := Bool.eq_false_iff.2 (fun h => hbad (.inl h))
              have hcr : chr l j = ((dc l j).1 : Int) := by unfold chr; rw [if_pos hlt, hlo]; rfl
              have htk := take_own l j hlt hlo
              have hle := dc_le l j hlt
              have hp := dc_pos l j
              have hrg := chr_range l j
              rw [← hcr] at htk
              have HR := fun hl => appendRune_any w.heap.size u7 said.length (Lib.byteCells said) (chr l j) wr (by omega) (by omega) hown hl hsz
              have HR2 := HR (by omega)
              rw [htk, ← byteCells_append, Lib.byteCells_length] at HR2
              have hTl : ((l.drop j).take (dc l j).2).length = (dc l j).2 := by simp; omega
              have HF : ∀ (v5 : Value) (w5 : World), w5.ownsRow w.heap.size 5 1 v5 (said ++ (l.drop j).take (dc l j).2).length (Lib.byteCells (said ++ (l.drop j).take (dc l j).2)) → Below w.heap.size w w5 → Hid (PF l w 1 (now + 1) (j + (dc l j).2) (said ++ (l.drop j).take (dc l j).2) v5 w5) := fun v5 w5 ho hb => ⟨.inr rfl, hnx, hle, hins, by rw [List.length_append, hTl]; omega, ho, hb, fun h => by cases h⟩
              rw [← List.length_append] at HR2
              obtain ⟨R, hR⟩ : ∃ R, chr l j = R := ⟨_, rfl⟩
              rw [hR] at hx HB d34 d92 dm2 HR2
              obtain ⟨S, hS⟩ : ∃ S, said ++ (l.drop j).take (dc l j).2 = S := ⟨_, rfl⟩
              rw [hS] at HR2 HF
              have hbel : ∀ w5, Below w.heap.size wr w5 → Below w.heap.size w w5 := fun w5 h => hB.trans h
              clear hins hnx hdr hget c34 c92 cm2 hbi hbad hR hS htk hTl HR hcr hlo hrg
              go_wp2_with fail
              refine (HB _).mono ?_
              rintro e w2 ⟨rfl, rfl⟩
              go_wp2_with fail
              refine HR2.mono ?_
              rintro e w3 ⟨v3, rfl, ho3, hb3⟩
              have HF3 := HF v3 w3 ho3 (hbel _ hb3)
              clear HF HR2 HB hbel
              go_wp2_with fail
              go_step3
              simp only [Exit.then]
              refine And.intro ⟨now + 1, _, _, v3, _, rfl, rfl, rfl, by go_num, rfl, HF3⟩ ?_
              simp [intOf]
              omega
      · have hcr : chr l j = -2 := by unfold chr; rw [if_neg hlt]
        rw [hcr] at hx
        rw [insS, if_neg hlt] at hins
        obtain rfl : j = l.length := by omega
        have HR : Hid (insS l 1 [] = ([], l.length, 32)) := hins.symm
        have HN : Hid ((chars l 0).drop now = chars l l.length) := hdr
        clear hins hdr hget hcr
        go_wp2_with fail
        refine jump_ret (bodyPost_ret (results_pc _ _ _ _ _ ⟨rfl, rfl, rfl⟩) rfl ?_)
        refine ⟨.slice none 0 0, now, ?_⟩
        rw [HR.out]
        exact ⟨rfl, HN.out, Nat.le_refl _, World.ownsRow_nil _ _ _ _, hB⟩
end Go.Proofs.YtppmncmhokkfdaaDoor
namespace Go.Proofs
open Go.Shelf
def Tryd.l7n27_ren : Go.Shelf.Ren := ⟨fun | 27 => 75 | 28 => 96 | 29 => 97 | n => n, fun | 25 => 59 | 3 => 3 | 27 => 83 | 22 => 87 | 4 => 4 | 53 => 138 | 0 => 0 | 5 => 5 | 54 => 139 | n => n, fun | 0 => 7 | 1 => 8 | n => n⟩
theorem Tryd.l7n27 : Go.Proofs.Lays7.n27 Tryd.prog Tryd.l7n27_ren := {
  mixed := by kernel_rfl
  f27 := Tryd.func75.trans (congrArg some (by kernel_rfl))
  f28 := Tryd.func96.trans (congrArg some (by kernel_rfl))
  f29 := Tryd.func97.trans (congrArg some (by kernel_rfl))
  t0 := Tryd.underlying0
  a0 := Tryd.isAgg0
  z0 := Tryd.sizeOf0
  v0 := Tryd.zeroValue0
  i0 := by kernel_rfl
  t3 := Tryd.underlying3
  a3 := Tryd.isAgg3
  z3 := Tryd.sizeOf3
  v3 := Tryd.zeroValue3
  i3 := by kernel_rfl
  t4 := Tryd.underlying4
  a4 := Tryd.isAgg4
  z4 := Tryd.sizeOf4
  v4 := Tryd.zeroValue4
  i4 := by kernel_rfl
  t5 := Tryd.underlying5
  a5 := Tryd.isAgg5
  z5 := Tryd.sizeOf5
  v5 := Tryd.zeroValue5
  i5 := by kernel_rfl
  t22 := Tryd.underlying87
  a22 := Tryd.isAgg87
  z22 := Tryd.sizeOf87
  v22 := Tryd.zeroValue87
  i22 := by kernel_rfl
  t25 := Tryd.underlying59
  a25 := Tryd.isAgg59
  z25 := Tryd.sizeOf59
  v25 := Tryd.zeroValue59
  i25 := by kernel_rfl
  t27 := Tryd.underlying83
  a27 := Tryd.isAgg83
  z27 := Tryd.sizeOf83
  v27 := Tryd.zeroValue83
  i27 := by kernel_rfl
  t53 := Tryd.underlying138
  a53 := Tryd.isAgg138
  z53 := Tryd.sizeOf138
  v53 := Tryd.zeroValue138
  i53 := by kernel_rfl
  t54 := Tryd.underlying139
  a54 := Tryd.isAgg139
  z54 := Tryd.sizeOf139
  g0 := by kernel_rfl
  g1 := by kernel_rfl }
end Go.Proofs
namespace Go.Proofs.YtppmncmhokkfdaaDoor
open Go.RowKit
/-- a byte, told by its number -/
def looS (x : Nat) : List UInt8 := [92, 120, hx (x / 16), hx (x % 16)]
theorem hx_slice8 (d : Nat) (hd : d < 16) (W : World) : Sem.run Tryd.prog (Instr.slice 9 (Value.string { data := #[48, 49, 50, 51, 52, 53, 54, 55, 56, 57, 97, 98, 99, 100, 101, 102] }) (some (.int .u8 (d : Int))) (some (.int .u8 ((d : Int) + 1))) none) W = .ok (.string ⟨#[hx d]⟩) W := by
  rw [run_slice_string _ _ _ _ _ _ _ Tryd.underlying9 (by omega) (by omega) (by show _ ≤ (16 : Int); omega)]
  have h2 : ((d : Int) + 1).toNat = d + 1 := by omega
  have h3 : ((d : Int)).toNat = d := by omega
  rw [h2, h3]
  exact congrArg (fun x => Result.ok (Value.string x) W) (hx_ext d hd)
/-- characters that are not seen -/
def unsN (n : Nat) : Bool := decide ((128 ≤ n ∧ n ≤ 159) ∨ (8203 ≤ n ∧ n ≤ 8207) ∨ (8232 ≤ n ∧ n ≤ 8238) ∨ n = 65279)
/-- the number of a character by its bytes -/
def codI (s : List UInt8) : Nat → Int
  | 0 => ((s.getD 0 0).toNat : Int) - (if s.length = 2 then 192 else if s.length = 3 then 224 else if s.length = 4 then 240 else 0)
  | j + 1 => 64 * codI s j + ((s.getD (j + 1) 0).toNat : Int) - 128
theorem codI_le (s : List UInt8) (j : Nat) (hj : j ≤ 3) : -1000000000 ≤ codI s j ∧ codI s j ≤ 1000000000 := by
  have b : ∀ i, ((s.getD i 0).toNat : Int) < 256 := fun i => by have := (s.getD i 0).toNat_lt; omega
  have b0 := b 0
  have b1 := b 1
  have b2 := b 2
  have b3 := b 3
  have h0 : -240 ≤ codI s 0 ∧ codI s 0 < 256 := by
    simp only [codI]
    by_cases h2 : s.length = 2
    · rw [if_pos h2]; omega
    · rw [if_neg h2]
      by_cases h3 : s.length = 3
      · rw [if_pos h3]; omega
      · rw [if_neg h3]
        by_cases h4 : s.length = 4
        · rw [if_pos h4]; omega
        · rw [if_neg h4]; omega
  have e1 : codI s 1 = 64 * codI s 0 + ((s.getD 1 0).toNat : Int) - 128 := rfl
  have e2 : codI s 2 = 64 * codI s 1 + ((s.getD 2 0).toNat : Int) - 128 := rfl
  have e3 : codI s 3 = 64 * codI s 2 + ((s.getD 3 0).toNat : Int) - 128 := rfl
  match j, hj with
  | 0, _ => omega
  | 1, _ => omega
  | 2, _ => omega
  | 3, _ => omega
end Go.Proofs.YtppmncmhokkfdaaDoor
namespace Go.Proofs.YtppmncmhokkfdaaDoor
open Go.RowKit
/-- the bytes of the character at a place -/
def own (l : List UInt8) (i : Nat) : List UInt8 := (l.drop i).take (dc l i).2
theorem own_len (l : List UInt8) (i : Nat) (h : i < l.length) : (own l i).length = (dc l i).2 := by
  have := dc_le l i h
  unfold own
  simp
  omega
theorem own_get (l : List UInt8) (i j : Nat) (h : j < (dc l i).2) : (own l i).getD j 0 = l.getD (i + j) 0 := by
  unfold own
  simp [List.getD, h, List.getElem?_drop]
theorem dc_wid (l : List UInt8) (i : Nat) : (dc l i).2 ≤ 4 := by
  unfold dc
  rcases Lib.decodeN_shape (l.length - i) (bt l i) (bt l (i + 1)) (bt l (i + 2)) (bt l (i + 3)) with ⟨a1, e⟩ | ⟨a1, a2, a3, a4, e⟩ | ⟨a1, a2, a3, a4, a5, a6, e⟩ | ⟨a1, a2, a3, a4, a5, a6, a7, e⟩ | e
  all_goals rw [e]
  all_goals simp
/-- the number by the bytes is the character's -/
theorem cod_dc (l : List UInt8) (i : Nat) (h : i < l.length) (hlo : lo1 l i = false) : codI (own l i) ((own l i).length - 1) = ((dc l i).1 : Int) := by
  have hne : ¬ (dc l i = (65533, 1)) := of_decide_eq_false hlo
  have hol := own_len l i h
  rw [hol]
  have hg := own_get l i
  have hb : ∀ j, ((l.getD (i + j) 0).toNat : Int) = (bt l (i + j) : Int) := fun j => rfl
  have hd : dc l i = Lib.decodeN (l.length - i) (bt l i) (bt l (i + 1)) (bt l (i + 2)) (bt l (i + 3)) := rfl
  rcases Lib.decodeN_shape (l.length - i) (bt l i) (bt l (i + 1)) (bt l (i + 2)) (bt l (i + 3)) with ⟨a1, e⟩ | ⟨a1, a2, a3, a4, e⟩ | ⟨a1, a2, a3, a4, a5, a6, e⟩ | ⟨a1, a2, a3, a4, a5, a6, a7, e⟩ | e
  all_goals rw [e] at hd
  all_goals rw [hd] at hg hol
  all_goals simp only at hg hol
  · rw [hd]
    show codI (own l i) 0 = _
    rw [codI, hol, hg 0 (by omega), hb]
    simp
  · rw [hd]
    simp only [codI, hol]
    rw [hg 0 (by omega), hg 1 (by omega), hb, hb]
    simp only [Nat.add_zero, if_true]
    omega
  · rw [hd]
    simp only [codI, hol]
    rw [hg 0 (by omega), hg 1 (by omega), hg 2 (by omega), hb, hb, hb]
    simp only [Nat.add_zero, if_true, Nat.reduceEqDiff, if_false]
    omega
  · rw [hd]
    simp only [codI, hol]
    rw [hg 0 (by omega), hg 1 (by omega), hg 2 (by omega), hg 3 (by omega), hb, hb, hb, hb]
    simp only [Nat.add_zero, if_true, Nat.reduceEqDiff, if_false]
    omega
  · exact absurd hd hne
/-- how a character is told in a quoted text -/
def saiS (s : List UInt8) (n : Nat) : List UInt8 :=
  if s = [34] then [92, 34] else if s = [92] then [92, 92] else if s = [10] then [92, 110] else if s = [13] then [92, 114] else if s = [9] then [92, 116]
  else if n < 32 ∨ n = 127 then looS n
  else if unsN n = true then [92, 117, 123] ++ hexN n ++ [125] else s
theorem codI_small (s : List UInt8) (n : Nat) (h : codI s (s.length - 1) = (n : Int)) (h1 : 1 ≤ s.length) (h4 : s.length ≤ 4) : n ≤ 1000000000 := by
  have := codI_le s (s.length - 1) (by omega)
  omega
end Go.Proofs.YtppmncmhokkfdaaDoor
namespace Go.Proofs.YtppmncmhokkfdaaDoor
open Go.RowKit
/-- how the character at a place is told -/
def pcS (l : List UInt8) (i : Nat) : List UInt8 := if lo1 l i = true then looS (bt l i) else saiS (own l i) (dc l i).1
def quoL (l : List UInt8) (i : Nat) : List UInt8 := if i < l.length then pcS l i ++ quoL l (i + (dc l i).2) else []
termination_by l.length - i
decreasing_by
  have := dc_pos l i
  omega
theorem quoL_lt {l : List UInt8} {i : Nat} (h : i < l.length) : quoL l i = pcS l i ++ quoL l (i + (dc l i).2) := by rw [quoL, if_pos h]
theorem quoL_end {l : List UInt8} {i : Nat} (h : ¬ i < l.length) : quoL l i = [] := by rw [quoL, if_neg h]
/-- what Quote answers -/
def quoS (l : List UInt8) : List UInt8 × Nat := if 256 < l.length then ([], 37) else ([34] ++ quoL l 0 ++ [34], 0)
end Go.Proofs.YtppmncmhokkfdaaDoor
