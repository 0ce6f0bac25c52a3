import Derived.Test.YtmblloddhpcdeaaW14
namespace Go.Proofs.Ytmblloddhpcdeaa
open Go.RowKit

set_option maxHeartbeats 400000 in
theorem rHas_off (c s : ByteArray) (w : World) (hc : c.size ≤ maxLen) (_hs : s.size ≤ maxLen) (h : c.size = 0 ∨ c.size ≠ s.size) :
    Calls Try.prog 19 #[.string c, .string s] w fun e w' => e = .returned (.bool false) ∧ ∃ n, w' = w.drewN n := by
  unfold maxLen at _hs hc
  by_cases h0 : c.size = 0
  · have hz : c = ⟨#[]⟩ := by
      obtain ⟨⟨l⟩⟩ := c
      have : l = [] := List.eq_nil_of_length_eq_zero (by simpa [ByteArray.size] using h0)
      subst this; rfl
    subst hz
    clear h h0
    go_enter Try.func19, Try.ntmps19
    go_wp2
    go_ret
    exact ⟨rfl, 0, rfl⟩
  · have b0 : c.toList.isEmpty = false := by
      rw [ByteArray.toList_eq]
      obtain ⟨⟨l⟩⟩ := c
      cases l with
      | nil => exact absurd rfl h0
      | cons x l => rfl
    have b1 : ((c.size : Int) != (s.size : Int)) = true := by simp; omega
    clear h h0
    go_enter Try.func19, Try.ntmps19
    go_wp2
    go_ret
    exact ⟨rfl, 0, rfl⟩

theorem okH_str (c s : ByteArray) (k : Nat) (hk : k < c.size) (hks : k < s.size) (p1 p2 p3 p4 : Bool) (n1 : ((s[k].toNat : Int) != 48) = p1) (n2 : ((s[k].toNat : Int) != 49) = p2) (n3 : ((c[k].toNat : Int) != 120) = p3) (n4 : ((c[k].toNat : Int) != (s[k].toNat : Int)) = p4) :
    okH c.data.toList s.data.toList k = !((p1 && p2) || (p3 && p4)) :=
  okH_eq c.data.toList s k (by simpa using hk) hks p1 p2 p3 p4 n1 n2 n3 n4

theorem drewN2 (w : World) (a b : Nat) : ∃ n, (w.drewN a).drewN b = w.drewN n := ⟨a + b, by simp [World.drewN, Nat.add_assoc]⟩

set_option maxHeartbeats 2000000 in
theorem rHas_loop (c s : ByteArray) (w : World) (hc : c.size ≤ 256) (h0 : 1 ≤ c.size) (hsz : s.size = c.size) :
    Calls Try.prog 19 #[.string c, .string s] w fun e w' => e = .returned (.bool (allTo (okH c.data.toList s.data.toList) c.data.toList.length)) ∧ ∃ n, w' = w.drewN n := by
  have HS : Hid (s.size = c.size) := hsz
  have HL : Hid (c.data.toList.length = c.size) := by simp [Hid]
  have b0 : c.toList.isEmpty = false := by
    rw [ByteArray.toList_eq]
    obtain ⟨⟨l⟩⟩ := c
    cases l with
    | nil => simp [ByteArray.size] at h0
    | cons x l => rfl
  have b1 : ((c.size : Int) != (s.size : Int)) = false := by simp [hsz]
  clear hsz
  go_enter Try.func19, Try.ntmps19
  go_wp2
  clear b0 b1
  go_loopw [5] (fun i wr => ∃ k : Nat, k ≤ c.size ∧ i = .int .i64 k ∧ Hid (∀ j, j < k → okH c.data.toList s.data.toList j = true) ∧ ∃ n, wr = w.drewN n) (fun i _ => c.size - (intOf i).toNat)
  case atStart => exact ⟨0, Nat.zero_le _, rfl, fun j h => by omega, 0, rfl⟩
  case round =>
    obtain ⟨k, hk, rfl, hok, nd, rfl⟩ := hrel
    by_cases hlt : k < c.size
    · have hks : k < s.size := by rw [HS.out]; exact hlt
      have i0 : (0 : Int) ≤ (k : Int) := by omega
      have i1 : (k : Int) < (s.size : Int) := by omega
      have i2 : (k : Int) < (c.size : Int) := by omega
      obtain ⟨p1, n1⟩ : ∃ p, ((s[k].toNat : Int) != 48) = p := ⟨_, rfl⟩
      obtain ⟨p2, n2⟩ : ∃ p, ((s[k].toNat : Int) != 49) = p := ⟨_, rfl⟩
      obtain ⟨p3, n3⟩ : ∃ p, ((c[k].toNat : Int) != 120) = p := ⟨_, rfl⟩
      obtain ⟨p4, n4⟩ : ∃ p, ((c[k].toNat : Int) != (s[k].toNat : Int)) = p := ⟨_, rfl⟩
      have hH : Hid (okH c.data.toList s.data.toList k = !((p1 && p2) || (p3 && p4))) := okH_str c s k hlt hks p1 p2 p3 p4 n1 n2 n3 n4
      have hlt' : Hid (k < c.data.toList.length) := by unfold Hid; rw [HL.out]; exact hlt
      by_cases hp : (p1 && p2) = true
      · obtain ⟨rfl, rfl⟩ : p1 = true ∧ p2 = true := by simpa using hp
        clear hp
        have hF : Hid (okH c.data.toList s.data.toList k = false) := hH.out
        go_wp2
        go_ret
        exact ⟨by rw [allTo_false k hlt'.out hF.out]; rfl, _, rfl⟩
      · have hp' : (p1 && p2) = false := by simpa using hp
        clear hp
        cases p1 <;> cases p2 <;> cases p3 <;> cases p4
        all_goals first | (exact absurd hp' (by decide)) | skip
        all_goals
          clear hp'
          go_wp2
          go_quiet (fail)
          go_wp2
          first
            | (have hF : okH c.data.toList s.data.toList k = false := hH.out
               have hF2 := allTo_false k hlt'.out hF
               go_ret
               refine ⟨?_, drewN2 _ _ _⟩
               rw [hF2]
               rfl)
            | (have hF : okH c.data.toList s.data.toList k = true := hH.out
               have hF2 := ok_succ hok.out hF
               go_roundw
               case rel => exact ⟨k + 1, by omega, by go_num, hF2, _, rfl⟩
               case measure => simp [intOf]; omega)
    · have hA : Hid (allTo (okH c.data.toList s.data.toList) c.data.toList.length = true) := (allTo_iff _ _).2 (fun j hj => hok.out j (by rw [HL.out] at hj; omega))
      clear hok
      go_wp2
      go_ret
      exact ⟨by rw [hA.out]; rfl, _, rfl⟩

theorem rHas_any (c s : ByteArray) (w : World) (hc : c.size ≤ 256) (hs : s.size ≤ maxLen) :
    Calls Try.prog 19 #[.string c, .string s] w fun e w' => e = .returned (.bool (hasB c.data.toList s.data.toList)) ∧ ∃ n, w' = w.drewN n := by
  have hl1 : c.data.toList.length = c.size := by simp
  have hl2 : s.data.toList.length = s.size := by simp
  unfold hasB
  by_cases h : c.size = 0 ∨ c.size ≠ s.size
  · have e : (!c.data.toList.isEmpty && (c.data.toList.length == s.data.toList.length)) = false := by
      rcases h with h | h
      · have : c.data.toList = [] := List.eq_nil_of_length_eq_zero (by omega)
        rw [this]; rfl
      · have : (c.data.toList.length == s.data.toList.length) = false := by rw [hl1, hl2]; simpa using h
        rw [this]; simp
    rw [e]
    exact rHas_off c s w (by unfold maxLen; omega) hs h
  · have e : (!c.data.toList.isEmpty && (c.data.toList.length == s.data.toList.length)) = true := by
      have h1 : (c.data.toList.length == s.data.toList.length) = true := by rw [hl1, hl2]; simp; omega
      have h2 : c.data.toList.isEmpty = false := by
        cases hh : c.data.toList with
        | nil => rw [hh] at hl1; simp at hl1; omega
        | cons x l => rfl
      rw [h1, h2]; rfl
    rw [e, Bool.true_and]
    exact rHas_loop c s w hc (by omega) (by omega)

theorem rHas_D (D : List UInt8) (s : ByteArray) (q : Bool) (w : World) (hD : D.length ≤ 256) (hs : s.size ≤ maxLen) (h : hasB D s.data.toList = q) :
    Calls Try.prog 19 #[.string ⟨D.toArray⟩, .string s] w fun e w' => e = .returned (.bool q) ∧ ∃ n, w' = w.drewN n := by
  subst h
  exact rHas_any ⟨D.toArray⟩ s w (by show D.toArray.size ≤ 256; simpa using hD) hs

theorem has01 (w : World) : Calls Try.prog 18 #[cubeV (allT 2), .string ⟨#[48, 49]⟩] w fun e w' => e = .returned (.bool true) ∧ Below w.heap.size w w' :=
  has_D (allT 2) ⟨#[48, 49]⟩ true w (good_allT 2) (by decide) (by decide)

set_option maxHeartbeats 1000000 in
theorem ternHas_raw (a h : ByteArray) (D : List UInt8) (q : Bool) (w : World) (ha : a.size ≤ maxLen) (hh : h.size ≤ maxLen) (hg : good D = true) (hD0 : cubeT a.data.toList = D) (hq0 : hasB D h.data.toList = q) :
    Calls Try.prog 6 #[.string a, .string h] w fun e w' => e = .returned (.bool true) ∧ Below w.heap.size w w' := by
  have hD : Hid (cubeT a.data.toList = D) := hD0
  have hq : Hid (hasB D h.data.toList = q) := hq0
  clear hD0 hq0
  have hl := good_len hg
  go_enter Try.func6, Try.ntmps6
  go_wp2_with fail
  refine (made_D a D _ ha hD.out).mono ?_
  rintro e w1 ⟨rfl, hb1⟩
  unfold cubeV cv
  go_wp2_with fail
  refine (has_D D h q _ hg hh hq.out).mono ?_
  rintro e w2 ⟨rfl, hb2⟩
  go_wp2_with fail
  refine (refC_D a D _ ha hD.out).mono ?_
  rintro e w3 ⟨rfl, rfl⟩
  go_wp2_with fail
  refine (rHas_D D h q _ hl hh hq.out).mono ?_
  rintro e w4 ⟨rfl, nd, rfl⟩
  cases q
  all_goals
    go_wp2_with fail
    refine (allV 2 _).mono ?_
    rintro e w5 ⟨rfl, hb5⟩
    go_wp2_with fail
    refine (has01 _).mono ?_
    rintro e w6 ⟨rfl, hb6⟩
    go_wp2_with fail
    go_ret
    exact ⟨rfl, bel0 (bel0 ((bel2 hb1 hb2).trans (below_drewN _ _ _)) hb5) hb6⟩

theorem ternHas_walk (a h : ByteArray) (w : World) (ha : a.size ≤ maxLen) (hh : h.size ≤ maxLen) :
    Calls Try.prog 6 #[.string a, .string h] w fun e w' => e = .returned (.bool true) ∧ Below w.heap.size w w' :=
  ternHas_raw a h _ _ w ha hh (good_cubeT _) rfl rfl
end Go.Proofs.Ytmblloddhpcdeaa
