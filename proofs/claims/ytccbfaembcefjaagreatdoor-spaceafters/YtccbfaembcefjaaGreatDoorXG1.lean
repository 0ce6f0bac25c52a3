import Derived.Test.YtccbfaembcefjaaGreatDoorXBF
import Derived.Test.YtccbfaembcefjaaGreatDoorXAA
namespace Go.Proofs.YtccbfaembcefjaaGreatDoor
open Go.RowKit
/-- the least header of a cube -/
def lsT (c : List UInt8) : List UInt8 := c.map (fun x => if x = 120 then 48 else x)
theorem lsT_len (c : List UInt8) : (lsT c).length = c.length := by simp [lsT]
theorem bxk_at (T a : List UInt8) (h : T.length = a.length) (k : Nat) (hk : k < a.length) : (bxk T a k)[k]? = a[k]? := by
  have h2 : (T.take k).length = k := by rw [List.length_take]; omega
  unfold bxk
  rw [List.getElem?_append_right (by omega), h2, Nat.sub_self, List.getElem?_drop, Nat.add_zero]
theorem byte_beqE (x y : UInt8) : ((x.toNat : Int) == (y.toNat : Int)) = (x == y) := by
  rw [Bool.eq_iff_iff, beq_iff_eq, beq_iff_eq]
  constructor
  · intro h
    exact UInt8.toNat_inj.1 (by omega)
  · rintro rfl
    rfl
set_option maxRecDepth 100000 in
set_option maxHeartbeats 4000000 in
theorem dleast_loop (a : ByteArray) (w : World) (hl : a.size ≤ 256) :
    Calls Tryz.prog 34 #[.string a] w fun e w' => e = .returned (.string ⟨(lsT a.data.toList).toArray⟩) ∧ Below w.heap.size w w' := by
  have LA : Hid (a.data.toList.length = a.size) := by simp [Hid]
  obtain ⟨T, hT0⟩ : ∃ T, lsT a.data.toList = T := ⟨_, rfl⟩
  have hTl0 : T.length = a.data.toList.length := by rw [← hT0]; exact lsT_len _
  have HTL : Hid (T.length = a.data.toList.length) := hTl0
  have HG : Hid (∀ (k : Nat) (ha : k < a.size) (ht : k < T.length), T[k] = if a[k] = 120 then 48 else a[k]) := fun k ha ht => by
    have h2 : T[k]? = some (if a[k] = 120 then 48 else a[k]) := by
      rw [← hT0]
      unfold lsT
      rw [List.getElem?_map, List.getElem?_eq_getElem (by rw [LA.out]; exact ha)]
      rfl
    rw [List.getElem?_eq_getElem ht] at h2
    exact Option.some.inj h2
  have hcv := Lib.run_convert_string_bytes (P := Tryz.prog) w 9 111 5 a Tryz.underlying9 Tryz.underlying111 Tryz.underlying5
  have ea : (⟨a.data.toList.toArray⟩ : ByteArray) = a := by cases a; rfl
  have hN := hdr_new w a.data.toList
  have B2 := bel_bytes w a
  rw [ea] at hN
  obtain ⟨cp, hcp⟩ : ∃ c, grownCap w a.size 0 5 = c := ⟨_, rfl⟩
  obtain ⟨z, hz'⟩ : ∃ z, List.replicate (grownCap w a.data.toList.length 0 5 - a.data.toList.length) (Value.int .u8 0) = z := ⟨_, rfl⟩
  rw [hcp] at hcv
  rw [hz'] at hN
  obtain ⟨w2, hw2⟩ : ∃ w2, Lib.bytesWorld w 5 a = w2 := ⟨_, rfl⟩
  rw [hw2] at hcv hN B2
  rw [hT0]
  clear hT0 hTl0 hw2 hz' hcp ea
  go_enter Tryz.func34, Tryz.ntmps34
  go_wp2_with fail
  clear hcv
  go_loopw [4] (fun i wr => ∃ k : Nat, k ≤ a.size ∧ i = .int .i64 k ∧ hdr wr w.heap.size z (bxk T a.data.toList k) ∧ Below w.heap.size w wr) (fun i _ => a.size - (intOf i).toNat)
  case atStart => exact ⟨0, Nat.zero_le _, rfl, by rw [bxk_zero]; exact hN, B2⟩
  case round =>
    clear hN B2
    obtain ⟨k, hk, rfl, hrow, hB⟩ := hrel
    by_cases hlt : k < a.size
    · have hkl : k < a.data.toList.length := by rw [LA.out]; exact hlt
      have hkT : k < T.length := by rw [HTL.out]; exact hkl
      have i0' : (0 : Int) ≤ (k : Int) := by omega
      have i1 : (k : Int) < (a.size : Int) := by omega
      obtain ⟨p1, n1⟩ : ∃ p, ((a[k].toNat : Int) == 120) = p := ⟨_, rfl⟩
      have GT : Hid (T[k] = if a[k] = 120 then 48 else a[k]) := HG.out k hlt hkT
      have M2 : Hid ((a[k] = 120) ↔ p1 = true) := by
        unfold Hid
        have := byte_beqE a[k] 120
        rw [← n1, show (120 : Int) = ((120 : UInt8).toNat : Int) from rfl, this, beq_iff_eq]
      have hjk : k < (bxk T a.data.toList k).length := by rw [bxk_len _ _ HTL.out k (by omega)]; exact hkl
      have hc2 : wr.cell? ⟨w.heap.size, k, none⟩ = some (.int .u8 (a[k].toNat : Int)) := by
        have h1 := hdr_cell hrow hjk
        have h2 := bxk_at T a.data.toList HTL.out k hkl
        rw [List.getElem?_eq_getElem hjk, List.getElem?_eq_getElem hkl] at h2
        injection h2 with h2
        rw [h2] at h1
        exact h1
      have hf2 := hdr_frozen hrow hjk
      have ea : a.data.toList[k] = a[k] := rfl
      have HST : Hid (p1 = true → hdr (wr.setCell ⟨w.heap.size, k, none⟩ (.int .u8 48)) w.heap.size z (bxk T a.data.toList (k + 1))) := fun hp => by
        have h1 := hdr_set (x := 48) hrow hjk
        rw [bxk_succ _ _ HTL.out k hkl, GT.out, if_pos (M2.out.2 hp)]
        exact h1
      have HKP : Hid (p1 = false → hdr wr w.heap.size z (bxk T a.data.toList (k + 1))) := fun hp => by
        rw [bxk_keep _ _ HTL.out k hkl (by rw [GT.out, if_neg (fun h => by have := M2.out.1 h; rw [hp] at this; cases this)]; rfl)]
        exact hrow
      have HB : Hid (Below w.heap.size w wr) := hB
      clear hB hrow hjk ea
      cases p1
      · go_wp2
        go_roundw
        case rel => exact ⟨k + 1, by omega, by go_num, HKP.out rfl, HB.out⟩
        case measure => simp [intOf]; omega
      · go_wp2
        go_roundw
        case rel => exact ⟨k + 1, by omega, by go_num, HST.out rfl, HB.out.setCell (Nat.le_refl _) _⟩
        case measure => simp [intOf]; omega
    · have hkn : k = a.size := by omega
      have e1 : bxk T a.data.toList k = T := by rw [hkn, ← LA.out]; exact bxk_all _ _ HTL.out
      rw [e1] at hrow
      have eT : T.length = a.size := by rw [HTL.out]; exact LA.out
      have hcv := run_convert_bytes_back (P := Tryz.prog) wr 111 9 5 ⟨w.heap.size, 0, none⟩ cp T Tryz.underlying111 Tryz.underlying5 Tryz.underlying9 (fun j hj => by rw [add_plain]; simpa using hdr_cell hrow hj)
      rw [eT] at hcv
      clear hrow e1 eT
      go_wp2
      go_ret
      exact ⟨rfl, hB⟩
theorem dleast_any (c : List UInt8) (w : World) (hl : c.length ≤ 256) : Calls Tryz.prog 34 #[.string ⟨c.toArray⟩] w fun e w' => e = .returned (.string ⟨(lsT c).toArray⟩) ∧ Below w.heap.size w w' := dleast_loop ⟨c.toArray⟩ w (by simpa [ByteArray.size] using hl)
set_option maxRecDepth 100000 in
set_option maxHeartbeats 4000000 in
theorem dwritten_loop (a b : ByteArray) (w : World) (hl : a.size ≤ 256) (hz0 : a.size = b.size) :
    Calls Tryz.prog 40 #[.string a, .string b] w fun e w' => e = .returned (.string ⟨(wrT a.data.toList b.data.toList).toArray⟩) ∧ Below w.heap.size w w' := by
  have hz : Hid (a.size = b.size) := hz0
  have LA : Hid (a.data.toList.length = a.size ∧ b.data.toList.length = b.size) := by simp [Hid]
  obtain ⟨T, hT0⟩ : ∃ T, wrT a.data.toList b.data.toList = T := ⟨_, rfl⟩
  have hle : a.data.toList.length = b.data.toList.length := by rw [LA.out.1, LA.out.2]; exact hz0
  have hTl0 : T.length = a.data.toList.length := by rw [← hT0]; exact zip_len _ _ _ hle
  have HTL : Hid (T.length = a.data.toList.length) := hTl0
  have HG : Hid (∀ (k : Nat) (ha : k < a.size) (hb : k < b.size) (ht : k < T.length), T[k] = if b[k] == 120 then a[k] else b[k]) := fun k ha hb ht => by
    have h1 := zip_get (fun x y => if y == 120 then x else y) _ _ hle k (by rw [LA.out.1]; exact ha)
    have h2 : T[k]? = some (if b[k] == 120 then a[k] else b[k]) := by rw [← hT0]; exact h1
    rw [List.getElem?_eq_getElem ht] at h2
    exact Option.some.inj h2
  have hcv := Lib.run_convert_string_bytes (P := Tryz.prog) w 9 111 5 a Tryz.underlying9 Tryz.underlying111 Tryz.underlying5
  have ea : (⟨a.data.toList.toArray⟩ : ByteArray) = a := by cases a; rfl
  have hN := hdr_new w a.data.toList
  have B2 := bel_bytes w a
  rw [ea] at hN
  obtain ⟨cp, hcp⟩ : ∃ c, grownCap w a.size 0 5 = c := ⟨_, rfl⟩
  obtain ⟨z, hz'⟩ : ∃ z, List.replicate (grownCap w a.data.toList.length 0 5 - a.data.toList.length) (Value.int .u8 0) = z := ⟨_, rfl⟩
  rw [hcp] at hcv
  rw [hz'] at hN
  obtain ⟨w2, hw2⟩ : ∃ w2, Lib.bytesWorld w 5 a = w2 := ⟨_, rfl⟩
  rw [hw2] at hcv hN B2
  rw [hT0]
  clear hT0 hTl0 hw2 hz' hcp ea hz0 hle
  go_enter Tryz.func40, Tryz.ntmps40
  go_wp2_with fail
  clear hcv
  go_loopw [6] (fun i wr => ∃ k : Nat, k ≤ a.size ∧ i = .int .i64 k ∧ hdr wr w.heap.size z (bxk T a.data.toList k) ∧ Below w.heap.size w wr) (fun i _ => a.size - (intOf i).toNat)
  case atStart => exact ⟨0, Nat.zero_le _, rfl, by rw [bxk_zero]; exact hN, B2⟩
  case round =>
    clear hN B2
    obtain ⟨k, hk, rfl, hrow, hB⟩ := hrel
    by_cases hlt : k < a.size
    · have hkb : k < b.size := by rw [← hz.out]; exact hlt
      have hkl : k < a.data.toList.length := by rw [LA.out.1]; exact hlt
      have hkT : k < T.length := by rw [HTL.out]; exact hkl
      have i0' : (0 : Int) ≤ (k : Int) := by omega
      have i1 : (k : Int) < (a.size : Int) := by omega
      have i2 : (k : Int) < (b.size : Int) := by omega
      obtain ⟨p2, n2⟩ : ∃ p, ((b[k].toNat : Int) != 120) = p := ⟨_, rfl⟩
      have M2 : Hid ((b[k] == 120) = !p2) := by
        unfold Hid
        rw [← n2, show ((b[k].toNat : Int) != 120) = !(b[k] == 120) from byte_bne b[k] 120 (by decide)]; simp
      have GT : Hid (T[k] = if b[k] == 120 then a[k] else b[k]) := HG.out k hlt hkb hkT
      have hjk : k < (bxk T a.data.toList k).length := by rw [bxk_len _ _ HTL.out k (by omega)]; exact hkl
      obtain ⟨cv0, hc2⟩ : ∃ v, wr.cell? ⟨w.heap.size, k, none⟩ = some v := ⟨_, hdr_cell hrow hjk⟩
      have hf2 := hdr_frozen hrow hjk
      have ea : a.data.toList[k] = a[k] := rfl
      have HST : Hid (p2 = true → hdr (wr.setCell ⟨w.heap.size, k, none⟩ (.int .u8 (b[k].toNat : Int))) w.heap.size z (bxk T a.data.toList (k + 1))) := fun hp => by
        have h1 := hdr_set (x := b[k]) hrow hjk
        rw [bxk_succ _ _ HTL.out k hkl, GT.out, M2.out, hp]
        exact h1
      have HKP : Hid (p2 = false → hdr wr w.heap.size z (bxk T a.data.toList (k + 1))) := fun hp => by
        rw [bxk_keep _ _ HTL.out k hkl (by rw [GT.out, M2.out, hp]; rfl)]
        exact hrow
      have HB : Hid (Below w.heap.size w wr) := hB
      clear hB hrow hjk ea
      cases p2
      · go_wp2
        go_roundw
        case rel => exact ⟨k + 1, by omega, by go_num, HKP.out rfl, HB.out⟩
        case measure => simp [intOf]; omega
      · go_wp2
        go_roundw
        case rel => exact ⟨k + 1, by omega, by go_num, HST.out rfl, HB.out.setCell (Nat.le_refl _) _⟩
        case measure => simp [intOf]; omega
    · have hkn : k = a.size := by omega
      have e1 : bxk T a.data.toList k = T := by rw [hkn, ← LA.out.1]; exact bxk_all _ _ HTL.out
      rw [e1] at hrow
      have eT : T.length = a.size := by rw [HTL.out]; exact LA.out.1
      have hcv := run_convert_bytes_back (P := Tryz.prog) wr 111 9 5 ⟨w.heap.size, 0, none⟩ cp T Tryz.underlying111 Tryz.underlying5 Tryz.underlying9 (fun j hj => by rw [add_plain]; simpa using hdr_cell hrow hj)
      rw [eT] at hcv
      clear hrow e1 eT
      go_wp2
      go_ret
      exact ⟨rfl, hB⟩
theorem dwritten_any (c r : List UInt8) (w : World) (hl : c.length ≤ 256) (hr : c.length = r.length) : Calls Tryz.prog 40 #[.string ⟨c.toArray⟩, .string ⟨r.toArray⟩] w fun e w' => e = .returned (.string ⟨(wrT c r).toArray⟩) ∧ Below w.heap.size w w' := dwritten_loop ⟨c.toArray⟩ ⟨r.toArray⟩ w (by simpa [ByteArray.size] using hl) (by simpa [ByteArray.size] using hr)
end Go.Proofs.YtccbfaembcefjaaGreatDoor
