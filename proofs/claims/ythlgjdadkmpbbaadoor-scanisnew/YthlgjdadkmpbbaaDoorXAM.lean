import Derived.Test.YthlgjdadkmpbbaaDoorXAL
import Derived.OwnWalk
namespace Go.Proofs.YthlgjdadkmpbbaaDoor
open Go.RowKit Go.Shelf
/-- what stands at a label of pieces -/
def PF2 (l : List UInt8) (p : Nat) (w : World) (lab now j : Nat) (said : List UInt8) (v : Value) (wr : World) : Prop :=
  (lab = 0 ∨ lab = 1) ∧ (chars l 0).drop now = chars l j ∧ j ≤ l.length ∧ insS l j said = insS l p [] ∧ said.length ≤ j ∧ wr.ownsRow w.heap.size 5 1 v said.length (Lib.byteCells said) ∧ Below w.heap.size w wr ∧ (lab = 0 → j < l.length ∧ bt l j = 92)
def PJ2 (l : List UInt8) (p : Nat) (w : World) (ad : Addr) (N cap : Nat) (lab : Nat) (a : Act) (wr : World) : Prop :=
  ∃ (now j : Nat) (said : List UInt8) (v : Value) (u : Array Value), a = { tmps := u, defers := [] } ∧ u.size = 58 ∧ u.getD 0 undef = .slice (some ad) N cap ∧ u.getD 1 undef = .int .i64 now ∧ u.getD 7 undef = v ∧ Hid (PF2 l p w lab now j said v wr)
/-- what pieces answers: what is said, the error, the number of the character -/
def pcR2 (l : List UInt8) (p : Nat) (w : World) (e : Ending) (w' : World) : Prop := ∃ v k, e = .returned (.tuple #[v, .int .i64 ((insS l p []).2.2 : Int), .int .i64 ((k : Nat) : Int)]) ∧ (chars l 0).drop k = chars l (insS l p []).2.1 ∧ (insS l p []).2.1 ≤ l.length ∧ w'.ownsRow w.heap.size 5 1 v (insS l p []).1.length (Lib.byteCells (insS l p []).1) ∧ Below w.heap.size w w'
set_option maxRecDepth 100000 in
set_option maxHeartbeats 2000000 in
theorem pieces_at (l : List UInt8) (k0 p : Nat) (ad : Addr) (cap : Nat) (w : World) (hs : l.length ≤ 16384) (hp : p ≤ l.length) (start0 : (chars l 0).drop k0 = chars l p) (hcap : (chars l 0).length ≤ cap) (hC0 : CH w ad (chars l 0)) (hsh0 : SH w) :
    Calls Tryd.prog 26 #[.slice (some ad) (chars l 0).length cap, .int .i64 (k0 : Int)] w fun e w' => pcR2 l p w e w' := by
  have hC : Hid (CH w ad (chars l 0)) := hC0
  have hsh : Hid (SH w) := hsh0
  have hNm := chars_len l _ 0 (Nat.le_refl _)
  have start : Hid ((chars l 0).drop k0 = chars l p) := start0
  clear hC0 hsh0 start0
  obtain ⟨i0, hi, hz0, hz1, hz2⟩ := info_parts info_u8
  go_enter Tryd.func26, Tryd.ntmps26
  go_wp2_with fail
  refine wp_scope_many2 (PJ2 l p w ad (chars l 0).length cap) (fun lab a _ => 2 * ((chars l 0).length - (intOf (a.tmps.getD 1 undef)).toNat) + (if lab = 1 then 1 else 0)) ?pass ?first
  case first =>
    intro pass
    go_wp2_with fail
    go_step3
    simp only [Exit.then]
    rename_i hK
    refine hK _ _ ?_
    exact use_pass (pass 1) ⟨k0, p, [], .slice none 0 0, _, rfl, rfl, rfl, rfl, rfl, .inr rfl, start.out, hp, rfl, Nat.zero_le _, World.ownsRow_nil _ _ _ _, Below.refl _ _, fun h => by cases h⟩ rfl
  case pass =>
    intro lab a wr hJ
    have hlab : lab = 0 ∨ lab = 1 := by
      obtain ⟨_, _, _, _, _, _, _, _, _, _, HF⟩ := hJ
      exact HF.out.1
    rcases hlab with rfl | rfl
    · refine ⟨_, rfl, ?_⟩
      obtain ⟨now, j, said, v, u, rfl, hu, h0, h1, h7, HF⟩ := hJ
      obtain ⟨u0, u1, u2, u3, u4, u5, u6, u7, u8, u9, u10, u11, u12, u13, u14, u15, u16, u17, u18, u19, u20, u21, u22, u23, u24, u25, u26, u27, u28, u29, u30, u31, u32, u33, u34, u35, u36, u37, u38, u39, u40, u41, u42, u43, u44, u45, u46, u47, u48, u49, u50, u51, u52, u53, u54, u55, u56, u57, rfl⟩ := arr_58 u hu
      have e0 : u0 = .slice (some ad) (chars l 0).length cap := h0
      have e1 : u1 = .int .i64 now := h1
      have e7 : u7 = v := h7
      subst e0 e1 e7
      clear hu h0 h1 h7
      obtain ⟨-, hdr, hjl, hins, hsj, hown, hB, h92⟩ := HF.out
      clear HF
      obtain ⟨hlt, g92⟩ := h92 rfl
      have hnow := drop_lt hdr
      have n0 : (0 : Int) ≤ (now : Int) := by omega
      have n1 : (now : Int) ≤ ((chars l 0).length : Int) := by omega
      have hsz := hB.size
      have hlen : (chars l j).length = (chars l 0).length - now := by rw [← hdr]; simp
      have hCj := (hC.out.below hB).drop now
      rw [hdr] at hCj
      have HE := escapeAt_any l j (ad.add (now * 2)) (cap - now) wr hs hlt g92 (by omega) hCj (hsh.out.below hB)
      rw [hlen] at HE
      rw [insS, if_pos hlt, if_neg (by omega), if_pos g92] at hins
      by_cases hz : (escS l j).1 = 0
      · rw [if_pos hz] at hins
        have HR : Hid (insS l p [] = ([], j, 34)) := hins.symm
        have HN : Hid ((chars l 0).drop now = chars l j) := hdr
        rw [hz] at HE
        obtain ⟨b, hb⟩ : ∃ b, (escS l j).2 = b := ⟨_, rfl⟩
        rw [hb] at HE
        clear hins hdr hCj hb hlen hz
        go_wp2_with fail
        refine HE.mono ?_
        rintro e w2 ⟨v2, rfl, ho2, hb2⟩
        go_wp2_with fail
        refine jump_ret (bodyPost_ret (results_pc _ _ _ _ _ ⟨rfl, rfl, rfl⟩) rfl ?_)
        refine ⟨.slice none 0 0, now, ?_⟩
        rw [HR.out]
        exact ⟨rfl, HN.out, hjl, World.ownsRow_nil _ _ _ _, bel0 hB hb2⟩
      · rw [if_neg hz] at hins
        obtain ⟨hq1, hq2⟩ := escS_end l j (by omega)
        have hbne := escS_ne l j (by omega)
        have hdr2 := escS_drop l j hlt g92 (by omega)
        obtain ⟨k, hk⟩ : ∃ k, (escS l j).1 = k := ⟨_, rfl⟩
        obtain ⟨b, hb⟩ : ∃ b, (escS l j).2 = b := ⟨_, rfl⟩
        rw [hk] at hz hq1 hq2 hins HE hdr2
        rw [hb] at hq2 hins HE hbne
        have hbl : 0 < b.length := List.length_pos_iff.2 hbne
        have kz : (0 : Int) < (k : Int) := by omega
        have HF : ∀ (v5 : Value) (w5 : World), w5.ownsRow w.heap.size 5 1 v5 (said ++ b).length (Lib.byteCells (said ++ b)) → Below w.heap.size w w5 → Hid (PF2 l p w 1 (now + k) (j + k) (said ++ b) v5 w5) := fun v5 w5 ho hb => ⟨.inr rfl, by rw [← List.drop_drop, hdr, hdr2], hq1, hins, by rw [List.length_append]; omega, ho, hb, fun h => by cases h⟩
        have hkN : now + k < (chars l 0).length := drop_lt (j := j + k) (by rw [← List.drop_drop, hdr, hdr2])
        clear hins hdr hCj hk hb hlen hdr2 hbne
        go_wp2_with fail
        refine HE.mono ?_
        rintro e w2 ⟨v2, rfl, ho2, hb2⟩
        have hB2 := bel0 hB hb2
        have hown2 := own_below hown hb2
        have hsz2 := hB2.size
        obtain ⟨g, c, rfl⟩ := own_form ho2 hbl
        have hnews := ho2.cells (g := g) rfl
        clear hown HE hB
        go_wp2_with (at_builtin; refine wpList_append_own _ rfl _ _ 46 rfl w.heap.size 5 i0 _ 1 1 Tryd.underlying46 hi hz0 hz1 hz2 rfl (by decide) _ _ _ rfl hown2 ⟨g, 0, none⟩ b.length c (Lib.byteCells b) rfl (by rw [Lib.byteCells_length, Nat.mul_one]) hnews (byteCells_one b) (by unfold maxLen; omega) (by omega) hsz2 ?_; intro v5 w5 oB hg5 _)
        have b5 : Below w.heap.size w w5 := hB2.grown hg5 hsz2 (fun k e => (hown2.lt k e).1)
        have HF5 := HF v5 w5 (by rw [List.length_append, byteCells_append]; exact oB) b5
        clear HF hg5 oB b5 hown2 ho2 hnews
        go_wp2_with fail
        go_step3
        simp only [Exit.then]
        refine And.intro ⟨now + k, _, _, v5, _, rfl, rfl, rfl, by go_num, rfl, HF5⟩ ?_
        simp [intOf]
        omega
    · refine ⟨_, rfl, ?_⟩
      obtain ⟨now, j, said, v, u, rfl, hu, h0, h1, h7, HF⟩ := hJ
      obtain ⟨u0, u1, u2, u3, u4, u5, u6, u7, u8, u9, u10, u11, u12, u13, u14, u15, u16, u17, u18, u19, u20, u21, u22, u23, u24, u25, u26, u27, u28, u29, u30, u31, u32, u33, u34, u35, u36, u37, u38, u39, u40, u41, u42, u43, u44, u45, u46, u47, u48, u49, u50, u51, u52, u53, u54, u55, u56, u57, rfl⟩ := arr_58 u hu
      have e0 : u0 = .slice (some ad) (chars l 0).length cap := h0
      have e1 : u1 = .int .i64 now := h1
      have e7 : u7 = v := h7
      subst e0 e1 e7
      clear hu h0 h1 h7
      obtain ⟨-, hdr, hjl, hins, hsj, hown, hB, -⟩ := HF.out
      clear HF
      have hnow := drop_lt hdr
      have hget := drop_get hdr
      have hx := ((hC.out.below hB) _ _ hget).1
      simp only at hx
      have n0 : (0 : Int) ≤ (now : Int) := by omega
      have n1 : (now : Int) < ((chars l 0).length : Int) := by omega
      have hsz := hB.size
      by_cases hlt : j < l.length
      · have hnx := drop_next hdr hlt
        rw [insS, if_pos hlt] at hins
        by_cases g34 : bt l j = 34
        · rw [(chr_asc l j 34 (by decide)).2 ⟨hlt, g34⟩] at hx
          rw [if_pos g34] at hins
          rw [dc_asc (by omega)] at hnx
          have HR : Hid (insS l p [] = (said, j + 1, 0)) := hins.symm
          have HN : Hid ((chars l 0).drop (now + 1) = chars l (j + 1)) := hnx
          clear hins hnx hdr hget
          go_wp2_with fail
          refine jump_ret (bodyPost_ret (results_pc _ _ _ _ _ ⟨rfl, rfl, rfl⟩) rfl ?_)
          refine ⟨u7, now + 1, ?_⟩
          rw [HR.out]
          exact ⟨rfl, HN.out, (by omega : j + 1 ≤ l.length), hown, hB⟩
        · rw [if_neg g34] at hins
          have c34 : chr l j ≠ 34 := fun e => g34 ((chr_asc l j 34 (by decide)).1 e).2
          by_cases g92 : bt l j = 92
          · rw [(chr_asc l j 92 (by decide)).2 ⟨hlt, g92⟩] at hx
            have HF : Hid (PF2 l p w 0 now j said u7 wr) := ⟨.inl rfl, hdr, hjl, by rw [insS, if_pos hlt, if_neg g34]; exact hins, hsj, hown, hB, fun _ => ⟨hlt, g92⟩⟩
            clear hins hnx hdr hget
            go_wp2_with fail
            go_step3
            simp only [Exit.inBlock, Exit.then]
            refine And.intro ⟨now, j, said, u7, _, rfl, rfl, rfl, rfl, rfl, HF⟩ ?_
            simp
          · rw [if_neg g92] at hins
            have c92 : chr l j ≠ 92 := fun e => g92 ((chr_asc l j 92 (by decide)).1 e).2
            have cm2 : chr l j ≠ -2 := by unfold chr; rw [if_pos hlt]; split <;> omega
            have HB := fun W => barred_any (chr l j) W
            have hbi := bar_iff l j hlt
            have d34 : (chr l j == 34) = false := beq_eq_false_iff_ne.2 c34
            have d92 : (chr l j == 92) = false := beq_eq_false_iff_ne.2 c92
            have dm2 : (chr l j == -2) = false := beq_eq_false_iff_ne.2 cm2
            by_cases hbad : lo1 l j = true ∨ bt l j < 32 ∨ bt l j = 127
            · rw [if_pos hbad] at hins
              rw [decide_eq_true (hbi.2 hbad)] at HB
              have HR : Hid (insS l p [] = ([], j, 33)) := hins.symm
              have HN : Hid ((chars l 0).drop now = chars l j) := hdr
              obtain ⟨R, hR⟩ : ∃ R, chr l j = R := ⟨_, rfl⟩
              rw [hR] at hx HB d34 d92 dm2
              clear hins hnx hdr hget c34 c92 cm2 hbi hbad hR
              go_wp2_with fail
              refine (HB _).mono ?_
              rintro e w2 ⟨rfl, rfl⟩
              go_wp2_with fail
              refine jump_ret (bodyPost_ret (results_pc _ _ _ _ _ ⟨rfl, rfl, rfl⟩) rfl ?_)
              refine ⟨.slice none 0 0, now, ?_⟩
              rw [HR.out]
              exact ⟨rfl, HN.out, hjl, World.ownsRow_nil _ _ _ _, hB⟩
            · rw [if_neg hbad] at hins
              rw [decide_eq_false (fun e => hbad (hbi.1 e))] at HB
              have hlo : lo1 l j = false := Bool.eq_false_iff.2 (fun h => hbad (.inl h))
              have hcr : chr l j = ((dc l j).1 : Int) := by unfold chr; rw [if_pos hlt, hlo]; rfl
              have htk := take_own l j hlt hlo
              have hle := dc_le l j hlt
              have hp := dc_pos l j
              have hrg := chr_range l j
              rw [← hcr] at htk
              have HR := fun hl => appendRune_any w.heap.size u7 said.length (Lib.byteCells said) (chr l j) wr (by omega) (by omega) hown hl hsz
              have HR2 := HR (by omega)
              rw [htk, ← byteCells_append, Lib.byteCells_length] at HR2
              have hTl : ((l.drop j).take (dc l j).2).length = (dc l j).2 := by simp; omega
              have HF : ∀ (v5 : Value) (w5 : World), w5.ownsRow w.heap.size 5 1 v5 (said ++ (l.drop j).take (dc l j).2).length (Lib.byteCells (said ++ (l.drop j).take (dc l j).2)) → Below w.heap.size w w5 → Hid (PF2 l p w 1 (now + 1) (j + (dc l j).2) (said ++ (l.drop j).take (dc l j).2) v5 w5) := fun v5 w5 ho hb => ⟨.inr rfl, hnx, hle, hins, by rw [List.length_append, hTl]; omega, ho, hb, fun h => by cases h⟩
              rw [← List.length_append] at HR2
              obtain ⟨R, hR⟩ : ∃ R, chr l j = R := ⟨_, rfl⟩
              rw [hR] at hx HB d34 d92 dm2 HR2
              obtain ⟨S, hS⟩ : ∃ S, said ++ (l.drop j).take (dc l j).2 = S := ⟨_, rfl⟩
              rw [hS] at HR2 HF
              have hbel : ∀ w5, Below w.heap.size wr w5 → Below w.heap.size w w5 := fun w5 h => hB.trans h
              clear hins hnx hdr hget c34 c92 cm2 hbi hbad hR hS htk hTl HR hcr hlo hrg
              go_wp2_with fail
              refine (HB _).mono ?_
              rintro e w2 ⟨rfl, rfl⟩
              go_wp2_with fail
              refine HR2.mono ?_
              rintro e w3 ⟨v3, rfl, ho3, hb3⟩
              have HF3 := HF v3 w3 ho3 (hbel _ hb3)
              clear HF HR2 HB hbel
              go_wp2_with fail
              go_step3
              simp only [Exit.then]
              refine And.intro ⟨now + 1, _, _, v3, _, rfl, rfl, rfl, by go_num, rfl, HF3⟩ ?_
              simp [intOf]
              omega
      · have hcr : chr l j = -2 := by unfold chr; rw [if_neg hlt]
        rw [hcr] at hx
        rw [insS, if_neg hlt] at hins
        obtain rfl : j = l.length := by omega
        have HR : Hid (insS l p [] = ([], l.length, 32)) := hins.symm
        have HN : Hid ((chars l 0).drop now = chars l l.length) := hdr
        clear hins hdr hget hcr
        go_wp2_with fail
        refine jump_ret (bodyPost_ret (results_pc _ _ _ _ _ ⟨rfl, rfl, rfl⟩) rfl ?_)
        refine ⟨.slice none 0 0, now, ?_⟩
        rw [HR.out]
        exact ⟨rfl, HN.out, Nat.le_refl _, World.ownsRow_nil _ _ _ _, hB⟩
end Go.Proofs.YthlgjdadkmpbbaaDoor
