import Derived.Test.YtmblloddhpcdeaaM9
import Derived.Test.YtmblloddhpcdeaaR1
import Derived.Deep.AppendLies
namespace Go.Proofs.Ytmblloddhpcdeaa
open Go.RowKit

theorem own_snocH {W : World} {B k : Nat} {v' : Value} {t : List UInt8} {x : UInt8} (hx : t[k]? = some x)
    (h : W.ownsRow B 5 1 v' (k + 1) (bys (t.take k) ++ [.int .u8 (x.toNat : Int)])) : W.ownsRow B 5 1 v' (k + 1) (bys (t.take (k + 1))) := by
  rw [List.take_add_one, hx]
  rw [bys_snoc] at h
  exact h
theorem str_at {W : World} {B g cap k : Nat} {A : List (List UInt8)} (hown : W.ownsRow B 9 1 (.slice (some ⟨g, 0, none⟩) A.length cap) A.length (stx A)) (hk : k < A.length) :
    ∃ s : ByteArray, s.data.toList = A[k] ∧ W.cell? ⟨g, k, none⟩ = some (.string s) := ⟨⟨A[k].toArray⟩, by simp, stx_at hown hk rfl⟩

set_option maxHeartbeats 2000000 in
theorem rHull_walk (A : List (List UInt8)) (F : List UInt8) (O : Option (List UInt8)) (g c B : Nat) (w : World) (hA0 : 0 < A.length) (hAF0 : A[0]? = some F) (hLl : A.length ≤ 1048577)
    (hno0 : ∀ x ∈ A, fitB x F = false → O = none) (hyes0 : (∀ x ∈ A, fitB x F = true) → ∃ H, O = some H ∧ F ≠ [] ∧ H.length = F.length ∧ ∀ i, i < F.length → H[i]? = some (hdg i (F.getD i 0) A))
    (hFl : F.length ≤ 256) (h1 : w.ownsRow B 9 1 (.slice (some ⟨g, 0, none⟩) A.length c) A.length (stx A)) :
    Calls Try.prog 23 #[.slice (some ⟨g, 0, none⟩) A.length c] w fun e w' => e = .returned (hulR O) ∧ Below w.heap.size w w' := by
  have hno : Hid (∀ x ∈ A, fitB x F = false → O = none) := hno0
  have hyes : Hid ((∀ x ∈ A, fitB x F = true) → ∃ H, O = some H ∧ F ≠ [] ∧ H.length = F.length ∧ ∀ i, i < F.length → H[i]? = some (hdg i (F.getD i 0) A)) := hyes0
  have hAF : Hid (A[0]? = some F) := hAF0
  have hS0 : ∀ {W : World}, W.ownsRow B 9 1 (.slice (some ⟨g, 0, none⟩) A.length c) A.length (stx A) → W.cell? ⟨g, 0, none⟩ = some (.string ⟨F.toArray⟩) := by
    intro W h
    have := List.getElem?_eq_getElem hA0
    rw [hAF0] at this
    exact stx_at h hA0 (Option.some.inj this).symm
  have hgw : g < w.heap.size := (h1.lt g rfl).2
  clear hno0 hyes0 hAF0
  obtain ⟨i0, hi, hz0, hz1, hz2⟩ := info_parts info_u8
  have a0 : (0 : Int) < (A.length : Int) := by omega
  have a1 : ((A.length : Int) == 0) = false := beq_false_of_ne (by omega)
  obtain ⟨s, hs⟩ : ∃ s : ByteArray, s = ⟨F.toArray⟩ := ⟨_, rfl⟩
  have hsl : Hid (s.data.toList = F) := by unfold Hid; rw [hs]
  have hsz : Hid (s.size = F.length) := by unfold Hid; rw [hs]; show F.toArray.size = _; simp
  rw [← hs] at hS0
  clear hs
  go_enter Try.func23, Try.ntmps23
  go_wp2
  go_loopw [4] (fun i wr => ∃ k : Nat, k ≤ A.length ∧ i = .int .i64 k ∧ Hid (∀ j, j < k → ∀ x, A[j]? = some x → fitB x F = true) ∧ wr.ownsRow B 9 1 (.slice (some ⟨g, 0, none⟩) A.length c) A.length (stx A) ∧ Below w.heap.size w wr) (fun i _ => A.length - (intOf i).toNat)
  case atStart => exact ⟨0, Nat.zero_le _, rfl, fun j h => by omega, h1, Below.refl _ _⟩
  case round =>
    clear h1
    obtain ⟨k, hk, rfl, hok, hown, hB⟩ := hrel
    by_cases hlt : k < A.length
    · have i0' : (0 : Int) ≤ (k : Int) := by omega
      have i1 : (k : Int) < (A.length : Int) := by omega
      obtain ⟨p, hp, cp⟩ := str_at hown hlt
      have c0 := hS0 hown
      obtain ⟨q, hq⟩ : ∃ q, fitB A[k] F = q := ⟨_, rfl⟩
      have hq' : Hid (fitB p.data.toList s.data.toList = q) := by unfold Hid; rw [hp, hsl.out]; exact hq
      have hqk : Hid (∀ x, A[k]? = some x → fitB x F = q) := by
        intro x hx
        rw [List.getElem?_eq_getElem hlt] at hx
        rw [← Option.some.inj hx]; exact hq
      have hmem : Hid (A[k] ∈ A ∧ fitB A[k] F = q) := ⟨List.getElem_mem hlt, hq⟩
      clear hp hq
      go_wp2
      go_quiet (exact Calls.quiet_of_same ((rFit_D p s q _ hq'.out).mono (fun _ _ h => ⟨h.1, h.2.symm⟩)))
      cases q
      · have hO : Hid (O = none) := hno.out _ hmem.out.1 hmem.out.2
        go_wp2
        go_ret2
        exact ⟨by rw [hO.out]; rfl, hB.trans (below_drewN _ _ _)⟩
      · go_wp2
        go_roundw
        case rel =>
          refine ⟨k + 1, by omega, by go_num, ?_, hown, hB.trans (below_drewN _ _ _)⟩
          intro j hj x hx
          by_cases e : j = k
          · subst e; exact hqk.out x hx
          · exact hok.out j (by omega) x hx
        case measure => simp [intOf]; omega
    · obtain rfl : k = A.length := by omega
      obtain ⟨H, hO0, hF0, hHl, hget0⟩ := hyes.out (fun x hx => by
        obtain ⟨j, hj, rfl⟩ := List.mem_iff_getElem.1 hx
        exact hok.out j hj _ (List.getElem?_eq_getElem hj))
      have hO : Hid (O = some H) := hO0
      have hget : Hid (∀ i, i < F.length → H[i]? = some (hdg i (F.getD i 0) A)) := hget0
      have hlens : Hid (∀ j (h : j < A.length), A[j].length = F.length) := fun j h => fitB_len (hok.out j h _ (List.getElem?_eq_getElem h))
      have HL : Hid (H.length = s.size) := by unfold Hid; rw [hsz.out]; exact hHl
      have hS256 : s.size ≤ 256 := by rw [hsz.out]; exact hFl
      clear hO0 hF0 hHl hget0 hok hno hyes
      go_wp2
      go_loopw [6, 7] (fun v i wr => ∃ k : Nat, k ≤ s.size ∧ i = .int .i64 k ∧ wr.ownsRow w.heap.size 5 1 v k (bys (H.take k)) ∧ wr.ownsRow B 9 1 (.slice (some ⟨g, 0, none⟩) A.length c) A.length (stx A) ∧ Below w.heap.size w wr) (fun _ i _ => s.size - (intOf i).toNat)
      case atStart => exact ⟨0, Nat.zero_le _, rfl, World.ownsRow_nil _ _ _ _, hown, hB⟩
      case round =>
        clear hown hB
        obtain ⟨i, hi', rfl, hv, hown, hB⟩ := hrel
        have c0 := hS0 hown
        by_cases hlt : i < s.size
        · have j0 : (0 : Int) ≤ (i : Int) := by omega
          have j1 : (i : Int) < (s.size : Int) := by omega
          have hsi : Hid (s[i] = F.getD i 0) := by
            unfold Hid
            have e := byte_at s i hlt
            rw [← e]
            simp only [hsl.out]
            simp [List.getElem?_eq_getElem (show i < F.length by rw [← hsz.out]; exact hlt)]
          have hHi : Hid (H[i]? = some (hdg i (F.getD i 0) A)) := hget.out i (by rw [← hsz.out]; exact hlt)
          go_wp2
          go_loopw [8, 9] (fun d j wr => ∃ k : Nat, k ≤ A.length ∧ j = .int .i64 k ∧ d = .int .u8 ((hdg i (F.getD i 0) (A.take k)).toNat : Int) ∧ wr.ownsRow w.heap.size 5 1 u6 i (bys (H.take i)) ∧ wr.ownsRow B 9 1 (.slice (some ⟨g, 0, none⟩) A.length c) A.length (stx A) ∧ Below w.heap.size w wr) (fun _ j _ => A.length - (intOf j).toNat)
          case atStart => exact ⟨0, Nat.zero_le _, rfl, by rw [hsi.out]; simp [hdg], hv, hown, hB⟩
          case round =>
            clear hv hown hB c0
            obtain ⟨k, hk, rfl, rfl, hv, hown, hB⟩ := hrel
            by_cases hlt2 : k < A.length
            · have k0 : (0 : Int) ≤ (k : Int) := by omega
              have k1 : (k : Int) < (A.length : Int) := by omega
              obtain ⟨p, hp, cp⟩ := str_at hown hlt2
              have hpz : p.size = s.size := by
                rw [hsz.out, ← hlens.out k hlt2, ← hp]; simp
              have hltp : i < p.size := by omega
              have j2 : (i : Int) < (p.size : Int) := by omega
              obtain ⟨D, hD⟩ : ∃ D, hdg i (F.getD i 0) (A.take k) = D := ⟨_, rfl⟩
              obtain ⟨q, hq⟩ : ∃ q, ((p[i].toNat : Int) != (D.toNat : Int)) = q := ⟨_, rfl⟩
              have hst : Hid (hdg i (F.getD i 0) (A.take (k + 1)) = if q = true then 120 else D) := by
                unfold Hid
                rw [hdg_snoc i _ A k hlt2, hD]
                have e : A[k].getD i 0 = p[i] := by
                  have e1 := byte_at p i hltp
                  rw [← e1]
                  simp only [hp]
                  simp [List.getElem?_eq_getElem (show i < A[k].length by rw [hlens.out k hlt2, ← hsz.out]; exact hlt)]
                rw [e, ← hq, byte_bne2]
                cases h : (p[i] == D) <;> simp
              rw [hD]
              clear hp hD
              cases q
              · go_wp2
                go_roundw
                case rel => exact ⟨k + 1, by omega, by go_num, by rw [hst.out]; rfl, hv, hown, hB⟩
                case measure => simp [intOf]; omega
              · go_wp2
                go_roundw
                case rel => exact ⟨k + 1, by omega, by go_num, by rw [hst.out]; rfl, hv, hown, hB⟩
                case measure => simp [intOf]; omega
            · have hkA : A.take k = A := List.take_of_length_le (by omega)
              have k1 : ¬ (k : Int) < (A.length : Int) := by omega
              rw [hkA]
              obtain ⟨D, hD⟩ : ∃ D, hdg i (F.getD i 0) A = D := ⟨_, rfl⟩
              rw [hD] at hHi ⊢
              clear hkA hD
              go_wp2_with (at_builtin; refine wpList_append_own _ rfl _ _ 51 rfl w.heap.size 5 i0 (.int .u8 0) 1 1 Try.underlying51 hi hz0 hz1 hz2 rfl (by decide) _ _ _ rfl (hv.alloc _) ⟨_, 0, none⟩ 1 1 [.int .u8 (D.toNat : Int)] rfl rfl (cell_one_new _ _ _) (by simp [Value.oneCell']) (by unfold maxLen; omega) (by omega) (by have := hB.size; simp; omega) ?_; intro v' w1 hown' hgrow _)
              go_roundw
              case rel => exact ⟨i + 1, by omega, by go_num, own_snocH hHi.out hown', (hown.alloc _).kept hgrow (.inr (fun e => by have := (hv.lt g e.symm).1; omega)), bel_app hB hv hgrow⟩
              case measure => simp [intOf]; omega
        · have hii : i = s.size := by omega
          have hT : H.take i = H := List.take_of_length_le (by rw [HL.out]; omega)
          have hcv := conv_any _ w.heap.size _ H (by rw [HL.out, ← hii]; rw [hT] at hv; exact hv)
          have j1 : ¬ (i : Int) < (s.size : Int) := by omega
          clear hT
          go_wp2
          go_ret2
          exact ⟨by rw [hO.out]; rfl, hB⟩

theorem rHull_D (F : List UInt8) (L : List (List UInt8)) (O : Option (List UInt8)) (g c B : Nat) (w : World) (gF : good F = true) (hLl : L.length ≤ 1048576) (hO : hulF F L = O)
    (h1 : w.ownsRow B 9 1 (.slice (some ⟨g, 0, none⟩) (L.length + 1) c) (L.length + 1) (stx (F :: L))) :
    Calls Try.prog 23 #[.slice (some ⟨g, 0, none⟩) (L.length + 1) c] w fun e w' => e = .returned (hulR O) ∧ Below w.heap.size w w' :=
  rHull_walk (F :: L) F O g c B w (by simp) rfl (by simp; omega) (fun x hx h => by rw [← hO]; exact hulF_none F L x hx h)
    (fun h => by rw [← hO]; exact hulF_some F L h) (good_len gF) h1
end Go.Proofs.Ytmblloddhpcdeaa
