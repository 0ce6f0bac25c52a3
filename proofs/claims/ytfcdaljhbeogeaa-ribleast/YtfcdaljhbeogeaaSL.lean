import Derived.Test.YtfcdaljhbeogeaaSJ
import Derived.Test.YtfcdaljhbeogeaaSK
namespace Go.Proofs.Ytfcdaljhbeogeaa
open Go.RowKit
theorem rels_add (A B : List IRt) : rels (A ++ B) = rels A ++ rels B := by simp [rels]
theorem irr_news {w : World} {g o0 : Nat} {L : List IRt} (h : IRR w (some ⟨g, o0, none⟩) L) (j : Nat) (u : Value) (hu : (rels L)[j]? = some u) : w.cell? ((⟨g, o0, none⟩ : Addr).add j) = some u := by
  have := rels_news h j u hu
  unfold Addr.add
  split
  · rename_i e
    subst e
    simpa using this
  · exact this
theorem irr_take {w : World} {g o0 : Nat} {L : List IRt} (h : IRR w (some ⟨g, o0, none⟩) L) (k : Nat) : IRR w (some ⟨g, o0, none⟩) (L.take k) := fun W hW i r hi => by
  rw [List.getElem?_take] at hi
  split at hi
  · exact h W hW i r hi
  · cases hi
theorem irr_drop {w : World} {g o0 : Nat} {L : List IRt} (h : IRR w (some ⟨g, o0, none⟩) L) (k : Nat) : IRR w (some ⟨g, o0 + k * 4, none⟩) (L.drop k) := fun W hW i r hi => by
  rw [List.getElem?_drop] at hi
  obtain ⟨g', o', e, c0, c1, c2, c3⟩ := h W hW (k + i) r hi
  injection e with e
  injection e with e1 e2
  subst e1 e2
  have e4 : o0 + (k + i) * 4 = o0 + k * 4 + i * 4 := by omega
  rw [e4] at c0 c1 c2 c3
  exact ⟨g, o0 + k * 4, rfl, c0, c1, c2, c3⟩
set_option maxRecDepth 100000 in
set_option maxHeartbeats 2000000 in
theorem without_any (M : List IRt) (n k g c : Nat) (w : World) (hn : M.length = n) (hk : k < n) (h60 : n ≤ 60) (hc : n ≤ c) (hr : IRR w (some ⟨g, 0, none⟩) M) :
    Calls Try.prog 30 #[.slice (some ⟨g, 0, none⟩) n c, .int .i64 (k : Int)] w fun e w' => ∃ v : Value, e = .returned v ∧ w'.ownsRow w.heap.size 59 4 v (M.eraseIdx k).length (rels (M.eraseIdx k)) ∧ Below w.heap.size w w' := by
  obtain ⟨i0, hi, hz0, hz1, hz2⟩ := info_parts info_rt
  have k0 : (0 : Int) ≤ (k : Int) := by omega
  have k1 : (k : Int) ≤ (c : Int) := by omega
  have k2 : (k : Int) + 1 ≤ (n : Int) := by omega
  have k3 : (0 : Int) ≤ (k : Int) + 1 := by omega
  have k4 : (n : Int) ≤ (c : Int) := by omega
  have k5 : (k : Int) + 1 ≤ (c : Int) := by omega
  have HM : Hid (IRR w (some ⟨g, 0, none⟩) M ∧ M.length = n) := ⟨hr, hn⟩
  clear hr hn
  go_enter Try.func30, Try.ntmps30
  go_upto_region 2 with fail
  have HN1 : Hid (∀ (j : Nat) (u : Value), (rels (M.take k))[j]? = some u → w.cell? ((⟨g, 0, none⟩ : Addr).add j) = some u) := fun j u h => irr_news (irr_take HM.out.1 k) j u h
  have HO1 : Hid (∀ u ∈ rels (M.take k), u.oneCell' = true) := rels_one
  have hl1 : (rels (M.take k)).length = k * 4 := by rw [rels_len, List.length_take, HM.out.2]; omega
  obtain ⟨v0, hv0⟩ : ∃ v0, Value.slice none 0 0 = v0 := ⟨_, rfl⟩
  have oZ : w.ownsRow w.heap.size 59 4 v0 0 [] := by rw [← hv0]; exact World.ownsRow_nil _ _ _ _
  simp only [hv0]
  clear hv0
  go_upto_region 3 with (at_builtin; refine wpList_append_own _ rfl _ _ 36 rfl w.heap.size 59 i0 _ 4 32 Try.underlying36 hi hz0 hz1 hz2 rfl (by decide) _ 0 [] rfl oZ ⟨g, 0, none⟩ k c (rels (M.take k)) rfl hl1 HN1.out HO1.out (by unfold maxLen; omega) (by omega) (Nat.le_refl _) ?_; intro v5 w5 oA hg5 _)
  have oA' : w5.ownsRow w.heap.size 59 4 v5 k (rels (M.take k)) := by
    rw [Nat.zero_add, List.nil_append] at oA
    exact oA
  have hB5 : Below w.heap.size w w5 := (Below.refl _ _).grown hg5 (Nat.le_refl _) (fun k e => (oZ.lt k e).1)
  clear HN1 HO1 hl1 oA hg5
  have he : M.eraseIdx k = M.take k ++ M.drop (k + 1) := List.eraseIdx_eq_take_drop_succ M k
  have hel : (M.eraseIdx k).length = k + (n - (k + 1)) := by
    rw [he, List.length_append, List.length_take, List.length_drop, HM.out.2]
    omega
  have HE : Hid (M.eraseIdx k = M.take k ++ M.drop (k + 1)) := he
  have hl2 : (rels (M.drop (k + 1))).length = (n - (k + 1)) * 4 := by rw [rels_len, List.length_drop, HM.out.2]
  have HO2 : Hid (∀ u ∈ rels (M.drop (k + 1)), u.oneCell' = true) := rels_one
  have HO5 : Hid (w5.ownsRow w.heap.size 59 4 v5 k (rels (M.take k))) := oA'
  have HEL : Hid ((M.eraseIdx k).length = k + (n - (k + 1))) := hel
  clear oA' he hel
  by_cases hcap : c = k + 1
  · obtain rfl : n = k + 1 := by omega
    subst hcap
    have HN2 : Hid (∀ (j : Nat) (u : Value), (rels (M.drop (k + 1)))[j]? = some u → w5.cell? ((⟨g, 0, none⟩ : Addr).add j) = some u) := fun j u h => by
      rw [List.drop_of_length_le (by rw [HM.out.2]; exact Nat.le_refl _)] at h
      simp [rels] at h
    have e0 : k + 1 - (k + 1) = 0 := by omega
    rw [e0] at hl2 HEL
    go_wp2_with (at_builtin; refine wpList_append_own _ rfl _ _ 36 rfl w.heap.size 59 i0 _ 4 32 Try.underlying36 hi hz0 hz1 hz2 rfl (by decide) _ k (rels (M.take k)) rfl HO5.out ⟨g, 0, none⟩ 0 0 (rels (M.drop (k + 1))) rfl hl2 HN2.out HO2.out (by unfold maxLen; omega) (by omega) hB5.size ?_; intro v6 w6 oB hg6 _)
    go_ret
    refine ⟨_, rfl, ?_, hB5.grown hg6 hB5.size (fun k e => (HO5.out.lt k e).1)⟩
    rw [HEL.out, HE.out, rels_add]
    exact oB
  · have k6 : ¬ (c : Int) = (k : Int) + 1 := by omega
    have HN2 : Hid (∀ (j : Nat) (u : Value), (rels (M.drop (k + 1)))[j]? = some u → w5.cell? ((⟨g, (k + 1) * 4, none⟩ : Addr).add j) = some u) := fun j u h => by
      have := irr_news (irr_drop (HM.out.1.later hB5) (k + 1)) j u h
      rw [Nat.zero_add] at this
      exact this
    go_wp2_with (at_builtin; refine wpList_append_own _ rfl _ _ 36 rfl w.heap.size 59 i0 _ 4 32 Try.underlying36 hi hz0 hz1 hz2 rfl (by decide) _ k (rels (M.take k)) rfl HO5.out ⟨g, (k + 1) * 4, none⟩ (n - (k + 1)) (c - (k + 1)) (rels (M.drop (k + 1))) rfl hl2 HN2.out HO2.out (by unfold maxLen; omega) (by omega) hB5.size ?_; intro v6 w6 oB hg6 _)
    go_ret
    refine ⟨_, rfl, ?_, hB5.grown hg6 hB5.size (fun k e => (HO5.out.lt k e).1)⟩
    rw [HEL.out, HE.out, rels_add]
    exact oB
end Go.Proofs.Ytfcdaljhbeogeaa
