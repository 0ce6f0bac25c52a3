import Derived.Test.YtclgjdhobdncjaaDoorU7
import Derived.OwnWalk
namespace Go.Proofs.YtclgjdhobdncjaaDoor
open Go.RowKit
/-- what Unquote answers: what is said, the error, the place -/
def unqS (l : List UInt8) : List UInt8 × Nat × Nat :=
  if 16384 < l.length then ([], 2, 0)
  else if l = [] ∨ bt l 0 ≠ 34 then ([], 32, 0)
  else if (insS l 1 []).2.2 ≠ 0 then ([], (insS l 1 []).2.2, (insS l 1 []).2.1)
  else if (insS l 1 []).2.1 < l.length then ([], 32, (insS l 1 []).2.1)
  else if 256 < (insS l 1 []).1.length then ([], 37, 0)
  else ((insS l 1 []).1, 0, 0)
set_option maxRecDepth 100000 in
set_option maxHeartbeats 1000000 in
theorem refUnquote_any (l : List UInt8) (w : World) (hm : l.length ≤ 281474976710656) (HE : l.length ≤ 16384 → escC l) :
    Calls Tryd.prog 9 #[.string ⟨l.toArray⟩] w fun e w' => e = .returned (.tuple #[.string ⟨(unqS l).1.toArray⟩, .int .i64 ((unqS l).2.1 : Int), .int .i64 ((unqS l).2.2 : Int)]) ∧ Below w.heap.size w w' := by
  by_cases h1 : 16384 < l.length
  · have hr : Hid (unqS l = ([], 2, 0)) := if_pos h1
    have i1 : (16384 : Int) < (l.length : Int) := by omega
    clear HE
    go_enter Tryd.func9, Tryd.ntmps9
    go_wp2_with fail
    go_ret3
    exact ⟨by rw [hr.out]; rfl, Below.refl _ _⟩
  · have i1 : ¬ (16384 : Int) < (l.length : Int) := by omega
    by_cases h2 : l = []
    · subst h2
      have hr : Hid (unqS [] = ([], 32, 0)) := by unfold Hid unqS; rw [if_neg h1, if_pos (.inl rfl)]
      clear HE
      go_enter Tryd.func9, Tryd.ntmps9
      go_wp2_with fail
      go_ret3
      exact ⟨by rw [hr.out]; rfl, Below.refl _ _⟩
    · have z0 : (l == []) = false := beq_eq_false_iff_ne.2 h2
      have hl0 : 0 < l.length := List.length_pos_iff.2 h2
      obtain ⟨c, hc, hlc⟩ := byte_get l 0 hl0
      by_cases h3 : c = 34
      · have hb : bt l 0 = 34 := by rw [bt_of hlc, h3]; rfl
        subst h3
        have HI := refInside_any l w (by omega) (HE (by omega))
        have hu : unqS l = if (insS l 1 []).2.2 ≠ 0 then ([], (insS l 1 []).2.2, (insS l 1 []).2.1) else if (insS l 1 []).2.1 < l.length then ([], 32, (insS l 1 []).2.1) else if 256 < (insS l 1 []).1.length then ([], 37, 0) else ((insS l 1 []).1, 0, 0) := by
          unfold unqS; rw [if_neg h1, if_neg (fun e => e.elim h2 (fun e => e hb))]
        obtain ⟨T, hT⟩ : ∃ T, (insS l 1 []).1 = T := ⟨_, rfl⟩
        obtain ⟨P, hP⟩ : ∃ P, (insS l 1 []).2.1 = P := ⟨_, rfl⟩
        obtain ⟨E, hE⟩ : ∃ E, (insS l 1 []).2.2 = E := ⟨_, rfl⟩
        rw [hT, hP, hE] at HI hu
        clear hT hP hE HE hb
        by_cases g1 : E = 0
        · subst g1
          rw [if_neg (by simp)] at hu
          by_cases g2 : P < l.length
          · have k2 : (P : Int) < (l.length : Int) := by omega
            rw [if_pos g2] at hu
            have hr : Hid (unqS l = ([], 32, P)) := hu
            clear hu
            go_enter Tryd.func9, Tryd.ntmps9
            go_wp2_with fail
            refine HI.mono ?_
            rintro e w1 ⟨rfl, hb1⟩
            go_wp2_with fail
            go_ret3
            exact ⟨by rw [hr.out]; rfl, hb1⟩
          · have k2 : ¬ (P : Int) < (l.length : Int) := by omega
            rw [if_neg g2] at hu
            by_cases g3 : 256 < T.length
            · have k3 : (256 : Int) < (T.length : Int) := by omega
              rw [if_pos g3] at hu
              have hr : Hid (unqS l = ([], 37, 0)) := hu
              clear hu
              go_enter Tryd.func9, Tryd.ntmps9
              go_wp2_with fail
              refine HI.mono ?_
              rintro e w1 ⟨rfl, hb1⟩
              go_wp2_with fail
              go_ret3
              exact ⟨by rw [hr.out]; rfl, hb1⟩
            · have k3 : ¬ (256 : Int) < (T.length : Int) := by omega
              rw [if_neg g3] at hu
              have hr : Hid (unqS l = (T, 0, 0)) := hu
              clear hu
              go_enter Tryd.func9, Tryd.ntmps9
              go_wp2_with fail
              refine HI.mono ?_
              rintro e w1 ⟨rfl, hb1⟩
              go_wp2_with fail
              go_ret3
              exact ⟨by rw [hr.out]; rfl, hb1⟩
        · have k1 : ((E : Int) == 0) = false := by rw [beq_eq_false_iff_ne]; omega
          have k11 : ((E : Int) != 0) = true := by rw [bne, k1]; rfl
          rw [if_pos g1] at hu
          have hr : Hid (unqS l = ([], E, P)) := hu
          clear hu
          go_enter Tryd.func9, Tryd.ntmps9
          go_wp2_with fail
          refine HI.mono ?_
          rintro e w1 ⟨rfl, hb1⟩
          go_wp2_with fail
          go_ret3
          exact ⟨by rw [hr.out]; rfl, hb1⟩
      · have hb : bt l 0 ≠ 34 := by rw [bt_of hlc]; exact fun e => h3 (UInt8.toNat_inj.1 e)
        have hr : Hid (unqS l = ([], 32, 0)) := by unfold Hid unqS; rw [if_neg h1, if_pos (.inr hb)]
        have n34 : ((c.toNat : Int) == 34) = false := u8_ne (d := 34) h3
        have m34 : ((c.toNat : Int) != 34) = true := by rw [bne, n34]; rfl
        clear HE hb
        go_enter Tryd.func9, Tryd.ntmps9
        go_wp2_with fail
        go_ret3
        exact ⟨by rw [hr.out]; rfl, Below.refl _ _⟩
end Go.Proofs.YtclgjdhobdncjaaDoor
