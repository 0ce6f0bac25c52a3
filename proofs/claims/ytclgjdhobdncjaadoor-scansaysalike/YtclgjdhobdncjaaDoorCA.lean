import Derived.Test.YtclgjdhobdncjaaDoorC9
namespace Go.Proofs.YtclgjdhobdncjaaDoor
open Go.RowKit Go.Shelf
theorem info_u8 : (Tryd.prog.info? 5).map (fun i => (i.zero, i.size, i.bytes)) = some (some (.int .u8 0), 1, 1) := by kernel_rfl
theorem appendRune_any (B : Nat) (v : Value) (n : Nat) (xs : List Value) (r : Int) (w : World) (hr0 : -2147483648 ≤ r) (hr1 : r ≤ 2147483647) (hown : w.ownsRow B 5 1 v n xs) (hlen : n + 4 ≤ 140737488355328) (hBw : B ≤ w.heap.size) :
    Calls Tryd.prog 20 #[v, .int .i32 r] w fun e w' => ∃ v', e = .returned v' ∧ w'.ownsRow B 5 1 v' (n + (Lib.runeCells r).length) (xs ++ Lib.runeCells r) ∧ Below B w w' := by
  refine (Any.utf8_AppendRune_plain Tryd.l242 info_u8 B v n xs r hr0 hr1 w hown hlen hBw).mono ?_
  rintro e w' ⟨v', rfl, ho, o, hg⟩
  exact ⟨v', rfl, ho, ((Below.refl _ _).alloc hBw _).grown hg (by simp; omega) (fun k e => (hown.lt k e).1)⟩
theorem validRune_any (r : Int) (w : World) : Calls Tryd.prog 31 #[.int .i32 r] w fun e w' => e = .returned (.bool (Lib.validRune r)) ∧ w' = w := Any.utf8_ValidRune Tryd.l119 r w
set_option maxRecDepth 100000 in
set_option maxHeartbeats 1000000 in
theorem esc_u (l : List UInt8) (i : Nat) (ad : Addr) (cap : Nat) (w : World) (_hs : l.length ≤ 16384) (hi : i + 1 < l.length) (b0 : bt l i = 92) (b1 : bt l (i + 1) = 117) (hcap0 : (chars l i).length ≤ cap) (hC0 : CH w ad (chars l i)) :
    Calls Tryd.prog 25 #[.slice (some ad) (chars l i).length cap] w fun e w' => escR w (escS l i).1 (escS l i).2 e w' := by
  have hc0 : chars l i = (92, i) :: (117, i + 1) :: chars l (i + 2) := by
    rw [chars_asc (by omega) (by omega), b0, chars_asc hi (by omega), b1]; rfl
  have hE : escS l i = if 0 < (brS l i).1 then ((brS l i).1, utfL (brS l i).2) else (0, []) := by
    unfold escS
    rw [if_neg (by omega), if_neg (by omega), if_neg (by omega), if_neg (by omega), if_neg (by omega), if_neg (by omega), if_neg (by omega), if_pos b1]
  have h1 := (hC0 1 (117, i + 1) (by rw [hc0]; rfl)).1
  have h1' : w.cell? ⟨ad.block, ad.off + 2, none⟩ = some (.int .i32 117) := by simpa [Addr.add] using h1
  obtain ⟨r2, hr2⟩ := chars_head l (i + 2)
  have h2 := (hC0 2 _ (by rw [hc0, hr2]; rfl)).1
  have h2' : w.cell? ⟨ad.block, ad.off + 4, none⟩ = some (.int .i32 (chr l (i + 2))) := by simpa [Addr.add] using h2
  have hlm := chars_len l _ i (Nat.le_refl _)
  by_cases g2 : i + 2 < l.length ∧ bt l (i + 2) = 123
  · obtain ⟨g2a, g2b⟩ := g2
    have hc3 : chars l (i + 2) = (123, i + 2) :: chars l (i + 3) := by rw [chars_asc g2a (by omega), g2b]; rfl
    have e2 : chr l (i + 2) = 123 := (chr_asc l (i + 2) 123 (by decide)).2 ⟨g2a, g2b⟩
    rw [e2] at h2'
    have hc03 : chars l i = (92, i) :: (117, i + 1) :: (123, i + 2) :: chars l (i + 3) := by rw [hc0, hc3]
    have hC3 := hC0.drop 3
    rw [hc03] at hC3
    simp only [List.drop_succ_cons, List.drop_zero] at hC3
    have hadd : ad.add (3 * 2) = ⟨ad.block, ad.off + 6, none⟩ := by simp [Addr.add]
    rw [hadd] at hC3
    have HX := hexAt_any (chars l (i + 3)) ⟨ad.block, ad.off + 6, none⟩ (cap - 3) 6 w (by decide) hC3 (chars_range l _ (i + 3) (Nat.le_refl _)) (chars_no l _ (i + 3) (Nat.le_refl _))
    rw [hexC_chars] at HX
    have hlen : (chars l i).length = (chars l (i + 3)).length + 3 := by rw [hc03]; rfl
    have hbr : brS l i = if (hexRun 6 (l.drop (i + 3)) 0).1 = 0 ∨ l.length ≤ i + 3 + (hexRun 6 (l.drop (i + 3)) 0).1 ∨ bt l (i + 3 + (hexRun 6 (l.drop (i + 3)) 0).1) ≠ 125 ∨ 1114111 < (hexRun 6 (l.drop (i + 3)) 0).2 ∨ (55296 ≤ (hexRun 6 (l.drop (i + 3)) 0).2 ∧ (hexRun 6 (l.drop (i + 3)) 0).2 ≤ 57343) then (0, 0) else (4 + (hexRun 6 (l.drop (i + 3)) 0).1, (hexRun 6 (l.drop (i + 3)) 0).2) := by
      unfold brS
      rw [if_neg (by omega)]
    have hdr := drop_hex 6 l (i + 3) 0
    have hk6 := (hexRun_le 6 (l.drop (i + 3)) 0).2
    have hv6 := hexRun_lt 6 (l.drop (i + 3)) 0
    obtain ⟨k, hk⟩ : ∃ k, (hexRun 6 (l.drop (i + 3)) 0).1 = k := ⟨_, rfl⟩
    obtain ⟨v, hv⟩ : ∃ v, (hexRun 6 (l.drop (i + 3)) 0).2 = v := ⟨_, rfl⟩
    rw [hk, hv] at hbr HX
    rw [hk] at hdr hk6
    rw [hv] at hv6
    clear hk hv
    obtain ⟨rk, hrk⟩ := chars_head l (i + 3 + k)
    have hget : (chars l i)[3 + k]? = some (chr l (i + 3 + k), (if i + 3 + k < l.length then i + 3 + k else l.length)) := by
      have : (chars l (i + 3))[k]? = some (chr l (i + 3 + k), (if i + 3 + k < l.length then i + 3 + k else l.length)) := by
        have h0 := congrArg (·[0]?) hdr
        simpa [hrk, List.getElem?_drop] using h0
      rw [hc03, show 3 + k = k + 1 + 1 + 1 by omega]
      exact this
    have hx := (hC0 _ _ hget).1
    have hkn : 3 + k < (chars l i).length := (List.getElem?_eq_some_iff.1 hget).1
    simp only at hx
    have hca := chr_asc l (i + 3 + k) 125 (by decide)
    rw [hlen] at hkn hcap0 hlm ⊢
    obtain ⟨m, hm⟩ : ∃ m, (chars l (i + 3)).length = m := ⟨_, rfl⟩
    rw [hm] at HX hkn hcap0 hlm ⊢
    have j0 : (3 : Int) + (k : Int) < (m : Int) + 3 := by omega
    have j1 : (0 : Int) ≤ (3 : Int) + (k : Int) := by omega
    clear hc0 hc3 hc03 hdr hrk hget hlen hm hC3 hC0 hr2 h1 h2 e2 hadd
    by_cases k0 : k = 0
    · subst k0
      have hr : Hid (escS l i = (0, [])) := by rw [if_pos (.inl rfl)] at hbr; rw [hbr] at hE; exact hE
      rw [hr.out]
      clear hbr hE hr hx hca
      go_enter Tryd.func25, Tryd.ntmps25
      go_wp2_with fail
      refine HX.mono ?_
      rintro e w2 ⟨rfl, rfl⟩
      go_wp2_with fail
      go_ret2
      exact ⟨_, rfl, World.ownsRow_nil _ _ _ _, Below.refl _ _⟩
    · have k0' : (0 : Int) < (k : Int) := by omega
      by_cases h125 : i + 3 + k < l.length ∧ bt l (i + 3 + k) = 125
      · rw [hca.2 h125] at hx
        have HV := fun W => validRune_any (v : Int) W
        by_cases hok : v ≤ 1114111 ∧ ¬ (55296 ≤ v ∧ v ≤ 57343)
        · have hr : Hid (escS l i = (4 + k, utfL v)) := by
            rw [if_neg (by omega)] at hbr
            rw [hbr] at hE
            rw [if_pos (by simp only; omega)] at hE
            exact hE
          rw [hr.out]
          have hvr : Lib.validRune (v : Int) = true := decide_eq_true (by omega)
          rw [hvr] at HV
          have hz := utf_cells v hok.1 hok.2
          have hul : (utfL v).length = (Lib.runeCells (v : Int)).length := by rw [hz, Lib.byteCells_length]
          have e4 : IntKind.i64.wrap ((k : Int) + 4) = (k : Int) + 4 := by rw [IntKind.wrap_i64]; omega
          have h4 : (k : Int) + 4 = ((4 + k : Nat) : Int) := by omega
          have HR := fun W : World => appendRune_any W.heap.size (.slice none 0 0) 0 [] (v : Int) W (by omega) (by omega) (World.ownsRow_nil _ _ _ _) (by omega) (Nat.le_refl _)
          have HH4 : Hid ((k : Int) + 4 = ((4 + k : Nat) : Int)) := h4
          clear hbr hE hr hca hvr h4
          go_enter Tryd.func25, Tryd.ntmps25
          go_wp2_with fail
          refine HX.mono ?_
          rintro e w2 ⟨rfl, rfl⟩
          go_wp2_with fail
          refine (HV _).mono ?_
          rintro e w3 ⟨rfl, rfl⟩
          go_wp2_with fail
          refine (HR _).mono ?_
          rintro e w4 ⟨v4, rfl, ho4, hb4⟩
          go_wp2_with fail
          go_ret2
          refine ⟨v4, by rw [← HH4.out]; rfl, ?_, hb4⟩
          rw [hul, ← hz]
          simpa using ho4
        · have hr : Hid (escS l i = (0, [])) := by
            rw [if_pos (by omega)] at hbr
            rw [hbr] at hE
            exact hE
          rw [hr.out]
          have hvr : Lib.validRune (v : Int) = false := decide_eq_false (by omega)
          rw [hvr] at HV
          clear hbr hE hr hca hvr
          go_enter Tryd.func25, Tryd.ntmps25
          go_wp2_with fail
          refine HX.mono ?_
          rintro e w2 ⟨rfl, rfl⟩
          go_wp2_with fail
          refine (HV _).mono ?_
          rintro e w3 ⟨rfl, rfl⟩
          go_wp2_with fail
          go_ret2
          exact ⟨_, rfl, World.ownsRow_nil _ _ _ _, Below.refl _ _⟩
      · have hr : Hid (escS l i = (0, [])) := by
          rw [if_pos (by omega)] at hbr
          rw [hbr] at hE
          exact hE
        rw [hr.out]
        have hx1 : chr l (i + 3 + k) ≠ 125 := fun e => h125 (hca.1 e)
        obtain ⟨R, hR⟩ : ∃ R, chr l (i + 3 + k) = R := ⟨_, rfl⟩
        rw [hR] at hx hx1
        have hx2 : (R == 125) = false := beq_eq_false_iff_ne.2 hx1
        clear hbr hE hr hca hR hx1
        go_enter Tryd.func25, Tryd.ntmps25
        go_wp2_with fail
        refine HX.mono ?_
        rintro e w2 ⟨rfl, rfl⟩
        go_wp2_with fail
        go_ret2
        exact ⟨_, rfl, World.ownsRow_nil _ _ _ _, Below.refl _ _⟩
  · have hr : Hid (escS l i = (0, [])) := by
      have hbr : brS l i = (0, 0) := by unfold brS; rw [if_pos (by omega)]
      rw [hbr] at hE
      exact hE
    rw [hr.out]
    have hx1 : chr l (i + 2) ≠ 123 := fun e => g2 ((chr_asc l (i + 2) 123 (by decide)).1 e)
    obtain ⟨R, hR⟩ : ∃ R, chr l (i + 2) = R := ⟨_, rfl⟩
    rw [hR] at h2' hx1
    have hx2 : (R == 123) = false := beq_eq_false_iff_ne.2 hx1
    have hx3 : (R != 123) = true := by rw [bne, hx2]; rfl
    have hlen : 3 ≤ (chars l i).length := by rw [hc0, hr2]; simp
    obtain ⟨m, hm⟩ : ∃ m, (chars l i).length = m := ⟨_, rfl⟩
    rw [hm] at hlm hlen ⊢
    have j1 : (1 : Int) < (m : Int) := by omega
    have j2 : (2 : Int) < (m : Int) := by omega
    clear hE hr hR hx1 hc0 hr2 h1 h2 hC0 hm g2
    go_enter Tryd.func25, Tryd.ntmps25
    go_wp2_with fail
    go_ret2
    exact ⟨_, rfl, World.ownsRow_nil _ _ _ _, Below.refl _ _⟩
end Go.Proofs.YtclgjdhobdncjaaDoor
