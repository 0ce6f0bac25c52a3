import Derived.Test.YtmblloddhpcdeacC2
namespace Go.Proofs.Ytmblloddhpcdeac
open Go.RowKit

theorem ternImages_walk (t r h : ByteArray) (w : World) (ht : t.size ≤ maxLen) (hr : r.size ≤ maxLen) (hh : h.size ≤ maxLen) :
    Calls Try.prog 3 #[.string t, .string r, .string h] w fun e w' => e = .returned (.bool true) ∧ Below w.heap.size w w' := by
  by_cases H : cubB t.data.toList = false ∨ cubB r.data.toList = false ∨ (hdB h.data.toList && ((h.size : Int) == (t.size : Int))) = false ∨ t.size ≠ r.size
  · exact ternImages_off t r h _ _ _ _ w ht hr hh rfl rfl rfl rfl _ _ _ rfl rfl rfl H
  · have lt : t.data.toList.length = t.size := by simp
    have lr : r.data.toList.length = r.size := by simp
    have lh : h.data.toList.length = h.size := by simp
    have ct : cubB t.data.toList = true := by
      cases e : cubB t.data.toList
      · exact absurd (.inl e) H
      · rfl
    have cr : cubB r.data.toList = true := by
      cases e : cubB r.data.toList
      · exact absurd (.inr (.inl e)) H
      · rfl
    have ch : (hdB h.data.toList && ((h.size : Int) == (t.size : Int))) = true := by
      cases e : (hdB h.data.toList && ((h.size : Int) == (t.size : Int)))
      · exact absurd (.inr (.inr (.inl e))) H
      · rfl
    have s1 : t.size = r.size := by
      by_cases e : t.size = r.size
      · exact e
      · exact absurd (.inr (.inr (.inr e))) H
    obtain ⟨nt, gt⟩ := (cubB_iff _).1 ct
    obtain ⟨_, gr⟩ := (cubB_iff _).1 cr
    have hd : h.data.toList.all dig = true := by
      rw [Bool.and_eq_true] at ch; exact ch.1
    have s2 : h.size = t.size := by
      rw [Bool.and_eq_true, beq_iff_eq] at ch; omega
    have tl := good_len gt
    have l1 : t.data.toList.length = r.data.toList.length := by omega
    have l2 : t.data.toList.length = h.data.toList.length := by omega
    have l3 : h.data.toList.length = r.data.toList.length := by omega
    have hfit : fitB t.data.toList r.data.toList = true := by
      cases e : t.data.toList with
      | nil => exact absurd e nt
      | cons x l => rw [e] at l1; simp [fitB]; simpa using l1
    have hw : wtT t.data.toList r.data.toList = wrT t.data.toList r.data.toList := by unfold wtT; rw [if_pos hfit]
    refine ternImages_on t r h t.data.toList r.data.toList _ _ w ht hr hh (cubeT_good _ gt) (cubeT_good _ gr) rfl rfl
      (beT t.data.toList r.data.toList) (wtT t.data.toList r.data.toList) (wrT h.data.toList r.data.toList) (meetT t.data.toList h.data.toList) (wrT (meetT t.data.toList h.data.toList) r.data.toList)
      (agB t.data.toList r.data.toList) _ _ _ _ ct cr ch gt (good_beT _ _ gt gr) (good_wtT _ _ gt gr) (by omega) (by omega) s2 (by omega) (by rw [wr_len _ _ l3]; omega) (by rw [meetT_len _ _ l2]; omega)
      rfl rfl rfl rfl rfl (im1 _ _ _ nt l1 l2 gt gr hd).symm rfl rfl ?_ rfl rfl rfl ?_ (by simp [s1])
    · intro hb; rw [hw]; exact im2 _ _ _ nt l1 l2 gr hd hb
    · rw [ByteArray.toList_eq, hw]; exact (im3 _ _ _ nt l1 l2 hd).symm
end Go.Proofs.Ytmblloddhpcdeac
