import Derived.Test.YtdkhdkfjadalpaaDoorHD
import Derived.Test.YtdkhdkfjadalpaaDoorRL
import Derived.Laws.IdiomStrings
namespace Go.Proofs.YtdkhdkfjadalpaaDoor
open Go.RowKit Go.Shelf
theorem bextra : Builder.Extra Tryd.prog Tryd.l105_ren where
  sizeBuilder := by kernel_rfl
  liesBuilder := by kernel_rfl
  t5 := Tryd.underlying5
  a5 := Tryd.isAgg5
  z5 := Tryd.sizeOf5
  v5 := Tryd.zeroValue5
  infoByte := by kernel_rfl
  cellsByte := by kernel_rfl
  sizeByte := by kernel_rfl
  neB5 := by decide
theorem repeatL_one (c : Nat) : Lib.repeatL [120] c = List.replicate c 120 := by
  induction c with
  | zero => rfl
  | succ c ih => rw [Lib.repeatL, ih]; rfl
theorem repeat_any (c : Nat) (hc : c ≤ 32) (w : World) : Calls Tryd.prog 22 #[.string ⟨#[120]⟩, .int .i64 (c : Int)] w fun e w' => e = .returned (.string ⟨(List.replicate c 120).toArray⟩) ∧ Below w.heap.size w w' := by
  have h := Any.strings_Repeat Tryd.l105 bextra ⟨#[120]⟩ c w (by omega) (by show 1 * c ≤ _; omega)
  rw [repeatL_one] at h
  exact h
/-- the digit of a value at a place -/
def bitB (b v p : Nat) : UInt8 := UInt8.ofNat (48 + v / 2 ^ (b - 1 - p) % 2)
/-- the text of a prefix -/
def digL (b v f : Nat) : List UInt8 := (List.range (b - f)).map (bitB b v) ++ List.replicate f 120
theorem digL_len (b v f : Nat) (h : f ≤ b) : (digL b v f).length = b := by simp [digL]; omega
theorem digL_get (b v f : Nat) (h : f ≤ b) (j : Nat) (hj : j < b) : (digL b v f)[j]? = some (if j < b - f then bitB b v j else 120) := by
  unfold digL
  by_cases h1 : j < b - f
  · rw [if_pos h1, List.getElem?_append_left (by simp; exact h1)]
    simp [h1]
  · rw [if_neg h1, List.getElem?_append_right (by simp; omega)]
    simp
    have : j - (b - f) < f := by omega
    simp [this]
theorem and1 (m : Nat) (hm : m < 8589934592) : bits .and .i64 (m : Int) 1 = ((m % 2 : Nat) : Int) := by
  have a1 : (BitVec.ofInt 64 (m : Int)).toNat = m := by
    rw [BitVec.ofInt_natCast, BitVec.toNat_ofNat]; exact Nat.mod_eq_of_lt (by omega)
  have a2 : (BitVec.ofInt 64 (1 : Int)).toNat = 1 := by decide
  have a3 : m &&& 1 = m % 2 := Nat.and_two_pow_sub_one_eq_mod m 1
  show IntKind.i64.wrap ((BitVec.ofInt 64 (m : Int) &&& BitVec.ofInt 64 (1 : Int)).toNat : Int) = _
  rw [BitVec.toNat_and, a1, a2, a3, IntKind.wrap_i64]
  omega
theorem div_cast (v k : Nat) : (v : Int) / 2 ^ k = ((v / 2 ^ k : Nat) : Int) := by rw [pow_cast]; simp
theorem bit_val (b v p : Nat) (hv : v < 8589934592) : (48 + bits .and .i64 ((v : Int) / 2 ^ (b - 1 - p)) 1) % 256 = ((bitB b v p).toNat : Int) := by
  have hd : v / 2 ^ (b - 1 - p) ≤ v := Nat.div_le_self _ _
  rw [div_cast, and1 _ (by omega)]
  unfold bitB
  rw [UInt8.toNat_ofNat']
  omega
/-- half written -/
def dgp (b v p : Nat) : List UInt8 := (List.range p).map (bitB b v) ++ List.replicate (b - p) 120
theorem dgp_len (b v p : Nat) (h : p ≤ b) : (dgp b v p).length = b := by simp [dgp]; omega
theorem dgp_succ (b v p : Nat) (h : p < b) : (dgp b v p).set p (bitB b v p) = dgp b v (p + 1) := by
  unfold dgp
  obtain ⟨r, hr⟩ : ∃ r, b - p = r + 1 := ⟨b - p - 1, by omega⟩
  have hr2 : b - (p + 1) = r := by omega
  rw [hr, hr2, List.range_succ, List.map_append, List.replicate_succ, List.set_append_right _ _ (by simp)]
  simp
theorem dgp_all (b v f : Nat) (h : f ≤ b) : dgp b v (b - f) = digL b v f := by
  unfold dgp digL
  rw [show b - (b - f) = f by omega]
set_option maxRecDepth 100000 in
set_option maxHeartbeats 1000000 in
theorem digits_any (b v f : Nat) (hb1 : 1 ≤ b) (hb : b ≤ 32) (hf : f ≤ b) (hv : v < 8589934592) (w : World) :
    Calls Tryd.prog 17 #[.int .i64 (b : Int), .int .i64 (v : Int), .int .i64 (f : Int)] w fun e w' => e = .returned (.string ⟨(digL b v f).toArray⟩) ∧ Below w.heap.size w w' := by
  have HR := fun W => repeat_any b hb W
  have e0 : IntKind.i64.wrap ((b : Int) - (f : Int)) = ((b - f : Nat) : Int) := by rw [IntKind.wrap_i64]; omega
  have hcv := fun W => Lib.run_convert_string_bytes (P := Tryd.prog) W 9 36 5 ⟨(List.replicate b 120).toArray⟩ Tryd.underlying9 Tryd.underlying36 Tryd.underlying5
  obtain ⟨T, hT⟩ : ∃ T : List UInt8, List.replicate b 120 = T := ⟨_, rfl⟩
  have hTl : T.length = b := by rw [← hT]; simp
  have HT : Hid (List.replicate b 120 = T) := hT
  rw [hT] at hcv
  simp only [hT] at HR
  clear hT
  go_enter Tryd.func17, Tryd.ntmps17
  go_wp2_with fail
  refine (HR _).mono ?_
  rintro e w1 ⟨rfl, hb1'⟩
  have hN := hdr_new w1 T
  have B2 := bel0 hb1' (bel_bytes w1 ⟨T.toArray⟩)
  have hzw : w.heap.size ≤ w1.heap.size := hb1'.size
  have hsz : (⟨T.toArray⟩ : ByteArray).size = T.length := by show T.toArray.size = _; simp
  obtain ⟨z, hz⟩ : ∃ z, List.replicate (grownCap w1 T.length 0 5 - T.length) (Value.int .u8 0) = z := ⟨_, rfl⟩
  have hcv1 := hcv w1
  rw [hsz] at hcv1
  obtain ⟨cp, hcp⟩ : ∃ c, grownCap w1 T.length 0 5 = c := ⟨_, rfl⟩
  rw [hcp] at hcv1
  rw [hz] at hN
  obtain ⟨W2, hW2⟩ : ∃ W2, Lib.bytesWorld w1 5 ⟨T.toArray⟩ = W2 := ⟨_, rfl⟩
  rw [hW2] at hcv1 hN B2
  obtain ⟨K, hK⟩ : ∃ K, w1.heap.size = K := ⟨_, rfl⟩
  rw [hK] at hcv1 hN hzw
  rw [hTl] at hcv1
  clear hcv hcp hz hW2 hK hsz hb1' HR
  have hstart : dgp b v 0 = T := by rw [← HT.out]; simp [dgp]
  rw [← hstart] at hN

  clear hstart HT hTl
  go_wp2_with fail
  go_loopw [15] (fun vp wr => ∃ p : Nat, vp = .int .i64 p ∧ p ≤ b - f ∧ hdr wr K z (dgp b v p) ∧ Below w.heap.size w wr) (fun vp _ => b - f - (intOf vp).toNat)
  case atStart => exact ⟨0, rfl, Nat.zero_le _, hN, B2⟩
  case round =>
    clear hN B2 hcv1
    obtain ⟨p, rfl, hp, hN, hB⟩ := hrel
    by_cases hlt : p < b - f
    · have i1 : (p : Int) < ((b - f : Nat) : Int) := by omega
      have i2 : (p : Int) < (b : Int) := by omega
      have i0 : (0 : Int) ≤ (p : Int) := by omega
      have hlen := dgp_len b v p (by omega)
      have hc := hdr_cell hN (j := p) (by omega)
      have hfz := hdr_frozen hN (j := p) (by omega)
      have hset := hdr_set (bitB b v p) hN (p := p) (by omega)
      rw [dgp_succ b v p (by omega), ← bit_val b v p hv] at hset
      have hB2 := hB.setCell (p := ⟨K, p, none⟩) hzw (.int .u8 ((48 + bits .and .i64 ((v : Int) / 2 ^ (b - 1 - p)) 1) % 256))
      clear hN hB
      go_wp2_with fail
      go_roundw
      case rel => exact ⟨p + 1, by go_num, by omega, hset, hB2⟩
      case measure => simp [intOf]; omega
    · have i1 : ¬ (p : Int) < ((b - f : Nat) : Int) := by omega
      obtain rfl : p = b - f := by omega
      rw [dgp_all b v f hf] at hN
      have hlen := digL_len b v f hf
      have hcv := run_convert_bytes_back (P := Tryd.prog) wr 36 9 5 ⟨K, 0, none⟩ cp (digL b v f) Tryd.underlying36 Tryd.underlying5 Tryd.underlying9 (fun j hj => by
        have := hdr_cell hN hj
        simp only [Addr.add]
        split
        · rename_i h; subst h; exact this
        · simpa using this)
      rw [hlen] at hcv
      obtain ⟨S, hS⟩ : ∃ S, digL b v f = S := ⟨_, rfl⟩
      rw [hS] at hcv
      have HS : Hid (digL b v f = S) := hS
      clear hN hS hlen
      go_wp2_with fail
      go_ret
      exact ⟨by rw [HS.out]; rfl, hB⟩
end Go.Proofs.YtdkhdkfjadalpaaDoor
