import Derived.Test.YtclgjdhobdncjaaDoorCD
import Derived.Test.YtclgjdhobdncjaaDoorU8
import Derived.Deep.QuietTactic
namespace Go.Proofs.YtclgjdhobdncjaaDoor
open Go.RowKit Go.Shelf
theorem add0 (g m : Nat) : (⟨g, 0, none⟩ : Addr).add m = ⟨g, m, none⟩ := by unfold Addr.add; split <;> simp_all
theorem ccels_at (C : List (Int × Nat)) : ∀ (k : Nat) (c : Int × Nat), C[k]? = some c → (ccels C)[k * 2]? = some (.int .i32 c.1) ∧ (ccels C)[k * 2 + 1]? = some (.int .i64 (c.2 : Int)) := by
  induction C with
  | nil => intro k c h; simp at h
  | cons y C ih =>
    intro k c h
    cases k with
    | zero =>
      simp at h
      subst h
      exact ⟨rfl, rfl⟩
    | succ k =>
      have := ih k c (by simpa using h)
      rw [show (k + 1) * 2 = k * 2 + 1 + 1 by omega]
      exact this
theorem CH.of_own {W : World} {B g cap : Nat} {C : List (Int × Nat)} (h : W.ownsRow B 36 2 (.slice (some ⟨g, 0, none⟩) C.length cap) C.length (ccels C)) : CH W ⟨g, 0, none⟩ C := fun k c hc =>
  ⟨h.cells rfl _ _ (ccels_at C k c hc).1, h.cells rfl _ _ (ccels_at C k c hc).2⟩
theorem own_cap {w : World} {B e sz n m g cap : Nat} {xs : List Value} (h : w.ownsRow B e sz (.slice (some ⟨g, 0, none⟩) m cap) n xs) : n ≤ cap := by
  rcases h.2 with ⟨hh, _⟩ | ⟨g', c, cur, h1, _, _, h4, _⟩
  · cases hh
  · injection h1 with _ _ h1
    omega
theorem conv_own {W : World} {B : Nat} {v : Value} (T : List UInt8) (h : W.ownsRow B 5 1 v T.length (Lib.byteCells T)) : Sem.run Tryd.prog (convert 32 9 v) W = .ok (.string ⟨T.toArray⟩) W := by
  rcases h.2 with ⟨rfl, h0⟩ | ⟨g, c, cur, rfl, _⟩
  · obtain rfl := List.length_eq_zero_iff.1 h0
    rw [run_convert_bytes_string W _ _ 5 _ _ _ Tryd.underlying32 Tryd.underlying5 Tryd.underlying9]
    rfl
  · exact run_convert_bytes_back W _ _ 5 ⟨g, 0, none⟩ c T Tryd.underlying32 Tryd.underlying5 Tryd.underlying9 (fun j hj => h.cells rfl _ _ (by simp [Lib.byteCells, List.getElem?_eq_getElem hj]))
set_option maxRecDepth 100000 in
set_option maxHeartbeats 2000000 in
theorem unquote_any (l : List UInt8) (w : World) (hm : l.length ≤ 281474976710656) (hsh : SH w) :
    Calls Tryd.prog 8 #[.string ⟨l.toArray⟩] w fun e w' => e = .returned (.tuple #[.string ⟨(unqS l).1.toArray⟩, .int .i64 ((unqS l).2.1 : Int), .int .i64 ((unqS l).2.2 : Int)]) ∧ Below w.heap.size w w' := by
  by_cases h1 : 16384 < l.length
  · have hr : Hid (unqS l = ([], 2, 0)) := if_pos h1
    have i1 : (16384 : Int) < (l.length : Int) := by omega
    rw [hr.out]
    go_enter Tryd.func8, Tryd.ntmps8
    go_wp2_with fail
    go_ret3
    exact ⟨rfl, Below.refl _ _⟩
  · have i1 : ¬ (16384 : Int) < (l.length : Int) := by omega
    have HC := charsOf_any l w (by omega)
    have hget0 : (chars l 0)[0]? = some (chr l 0, (if 0 < l.length then 0 else l.length)) := drop_get (now := 0) rfl
    have hN0 : 0 < (chars l 0).length := (List.getElem?_eq_some_iff.1 hget0).1
    have hNm := chars_len l _ 0 (Nat.le_refl _)
    by_cases h2 : 0 < l.length ∧ bt l 0 = 34
    · have hu : unqS l = if (insS l 1 []).2.2 ≠ 0 then ([], (insS l 1 []).2.2, (insS l 1 []).2.1) else if (insS l 1 []).2.1 < l.length then ([], 32, (insS l 1 []).2.1) else if 256 < (insS l 1 []).1.length then ([], 37, 0) else ((insS l 1 []).1, 0, 0) := by
        unfold unqS
        rw [if_neg h1, if_neg (fun e => e.elim (fun e => by rw [e] at h2; simp at h2) (fun e => e h2.2))]
      rw [(chr_asc l 0 34 (by decide)).2 h2] at hget0
      have HP := fun g cap W => pieces_any l ⟨g, 0, none⟩ cap W (by omega) h2.1 h2.2
      go_enter Tryd.func8, Tryd.ntmps8
      go_wp2_with fail
      refine HC.mono ?_
      rintro e w1 ⟨v1, rfl, ho1, hb1⟩
      obtain ⟨g, cap, rfl⟩ := own_form ho1 hN0
      have hcap := own_cap ho1
      have hCH := CH.of_own ho1
      have hx0 := (hCH 0 _ hget0).1
      have HP1 := HP g cap w1 hcap hCH (hsh.below hb1)
      have n1 : (0 : Int) < ((chars l 0).length : Int) := by omega
      simp only [Nat.zero_mul] at hx0
      have hx0' : w1.cell? ⟨g, 0, none⟩ = some (.int .i32 34) := by simpa [Addr.add] using hx0
      clear HC HP hget0 hx0 ho1
      go_wp2_with fail
      refine HP1.mono ?_
      rintro e w2 ⟨v2, k, rfl, hdr, hP, ho2, hb2⟩
      have hCH2 := hCH.below hb2
      have hB2 := bel0 hb1 hb2
      have hk := drop_lt hdr
      have hgk := drop_get hdr
      have hxk := hCH2 _ _ hgk
      have k0 : (0 : Int) ≤ (k : Int) := by omega
      have k1 : (k : Int) < ((chars l 0).length : Int) := by omega
      have hat : (if (insS l 1 []).2.1 < l.length then (insS l 1 []).2.1 else l.length) = (insS l 1 []).2.1 := by split <;> omega
      rw [hat] at hxk
      obtain ⟨hxr, hxa⟩ := hxk
      simp only [add0] at hxr hxa
      have hcm2 : (chr l (insS l 1 []).2.1 = -2) ↔ ¬ (insS l 1 []).2.1 < l.length := by
        unfold chr
        split
        · split
          · omega
          · omega
        · omega
      have hcv := conv_own (insS l 1 []).1 ho2
      obtain ⟨T, hT⟩ : ∃ T, (insS l 1 []).1 = T := ⟨_, rfl⟩
      obtain ⟨Pp, hPp⟩ : ∃ P, (insS l 1 []).2.1 = P := ⟨_, rfl⟩
      obtain ⟨E, hE⟩ : ∃ E, (insS l 1 []).2.2 = E := ⟨_, rfl⟩
      rw [hT, hPp, hE] at hu
      rw [hPp] at hxr hxa hcm2 hP
      rw [hT] at hcv ho2
      obtain ⟨R, hR⟩ : ∃ R, chr l Pp = R := ⟨_, rfl⟩
      rw [hR] at hxr hcm2
      have hv2 : ∃ ad2 c2, v2 = .slice ad2 T.length c2 := by
        rcases ho2.2 with ⟨rfl, h0⟩ | ⟨g2, c2, cur, rfl, _⟩
        · exact ⟨none, 0, by rw [h0]⟩
        · exact ⟨_, _, rfl⟩
      obtain ⟨ad2, c2, rfl⟩ := hv2
      rw [hE]
      clear HP1 hCH hCH2 hdr hgk hat hT hPp hE hR hsh hx0' hb1 hb2 ho2
      by_cases g1 : E = 0
      · subst g1
        rw [if_neg (by simp)] at hu
        by_cases g2 : Pp < l.length
        · have hR2 : (R == -2) = false := beq_eq_false_iff_ne.2 (fun e => (hcm2.1 e) g2)
          have hR3 : (R != -2) = true := by rw [bne, hR2]; rfl
          rw [if_pos g2] at hu
          have hr : Hid (unqS l = ([], 32, Pp)) := hu
          clear hu hcm2
          go_wp2_with fail
          go_quiet (fail)
          go_wp2_with fail
          go_ret3
          exact ⟨by rw [hr.out]; rfl, by first | exact hB2 | exact bel_drewN _ hB2⟩
        · have hR2 := hcm2.2 g2
          subst hR2
          rw [if_neg g2] at hu
          by_cases g3 : 256 < T.length
          · have i3 : (256 : Int) < (T.length : Int) := by omega
            rw [if_pos g3] at hu
            have hr : Hid (unqS l = ([], 37, 0)) := hu
            clear hu hcm2
            go_wp2_with fail
            go_ret3
            exact ⟨by rw [hr.out]; rfl, by first | exact hB2 | exact bel_drewN _ hB2⟩
          · have i3 : ¬ (256 : Int) < (T.length : Int) := by omega
            rw [if_neg g3] at hu
            have hr : Hid (unqS l = (T, 0, 0)) := hu
            clear hu hcm2
            go_wp2_with fail
            go_ret3
            exact ⟨by rw [hr.out]; rfl, by first | exact hB2 | exact bel_drewN _ hB2⟩
      · have j1 : ((E : Int) == 0) = false := by rw [beq_eq_false_iff_ne]; omega
        have j11 : ((E : Int) != 0) = true := by rw [bne, j1]; rfl
        rw [if_pos g1] at hu
        have hr : Hid (unqS l = ([], E, Pp)) := hu
        clear hu hcm2
        go_wp2_with fail
        go_quiet (fail)
        go_wp2_with fail
        go_ret3
        exact ⟨by rw [hr.out]; rfl, by first | exact hB2 | exact bel_drewN _ hB2⟩
    · have hr : Hid (unqS l = ([], 32, 0)) := by
        unfold Hid unqS
        rw [if_neg h1, if_pos]
        by_cases h3 : l = []
        · exact .inl h3
        · exact .inr (fun e => h2 ⟨List.length_pos_iff.2 h3, e⟩)
      have hne : chr l 0 ≠ 34 := fun e => h2 ((chr_asc l 0 34 (by decide)).1 e)
      rw [hr.out]
      go_enter Tryd.func8, Tryd.ntmps8
      go_wp2_with fail
      refine HC.mono ?_
      rintro e w1 ⟨v1, rfl, ho1, hb1⟩
      obtain ⟨g, cap, rfl⟩ := own_form ho1 hN0
      have hCH := CH.of_own ho1
      have hx0 := (hCH 0 _ hget0).1
      have n1 : (0 : Int) < ((chars l 0).length : Int) := by omega
      simp only [Nat.zero_mul] at hx0
      have hx0' : w1.cell? ⟨g, 0, none⟩ = some (.int .i32 (chr l 0)) := by simpa [Addr.add] using hx0
      obtain ⟨R, hR⟩ : ∃ R, chr l 0 = R := ⟨_, rfl⟩
      rw [hR] at hx0' hne
      have hR2 : (R == 34) = false := beq_eq_false_iff_ne.2 hne
      have hR3 : (R != 34) = true := by rw [bne, hR2]; rfl
      clear HC hget0 hx0 ho1 hCH hne hR hr
      go_wp2_with fail
      go_ret3
      exact ⟨rfl, hb1⟩
end Go.Proofs.YtclgjdhobdncjaaDoor
