import Derived.Test.YtekjbpemaohipaaGreatDoorXAC
import Derived.Test.YtekjbpemaohipaaGreatDoorXAN
namespace Go.Proofs.YtekjbpemaohipaaGreatDoor
/-- within, place by place -/
theorem wiK {h c : List UInt8} (hn : h ≠ []) (hl : h.length = c.length) : wiB h c = true ↔ ∀ k (h1 : k < h.length) (h2 : k < c.length), c[k] = 120 ∨ h[k] = c[k] := by
  unfold wiB
  rw [Bool.and_eq_true, allTo_iff]
  have hf : fitB h c = true := by
    unfold fitB
    cases h with
    | nil => exact absurd rfl hn
    | cons a t => simp at hl ⊢; exact hl
  constructor
  · rintro ⟨-, g⟩ k h1 h2
    have := g k h1
    rw [List.getElem?_eq_getElem h1, List.getElem?_eq_getElem h2] at this
    simpa using this
  · intro g
    refine ⟨hf, fun k h1 => ?_⟩
    have h2 : k < c.length := by omega
    rw [List.getElem?_eq_getElem h1, List.getElem?_eq_getElem h2]
    simpa using g k h1 h2
def dgK (d : UInt8) : Bool := d == 48 || d == 49
theorem wrK_get (h r : List UInt8) (k : Nat) (k1 : k < (wrT h r).length) (k2 : k < h.length) (k3 : k < r.length) : (wrT h r)[k] = if r[k] == 120 then h[k] else r[k] := by
  exact List.getElem_zipWith
theorem bfK_get (h r : List UInt8) (k : Nat) (k1 : k < (bfT h r).length) (k2 : k < h.length) (k3 : k < r.length) : (bfT h r)[k] = if r[k] == 120 then h[k] else 120 := by
  exact List.getElem_zipWith
theorem wrK_len (h r : List UInt8) (hl : h.length = r.length) : (wrT h r).length = h.length := zip_len _ h r hl
theorem triK {b : UInt8} (h : tri b = true) : b = 48 ∨ b = 49 ∨ b = 120 := by simpa [tri, or_assoc] using h
theorem dgK_at {h : List UInt8} (hh : h.all dgK = true) (k : Nat) (hk : k < h.length) : h[k] = 48 ∨ h[k] = 49 := by
  have := List.all_eq_true.1 hh h[k] (List.getElem_mem hk)
  simpa [dgK] using this
theorem wrK_dig {h r : List UInt8} (hl : h.length = r.length) (hd : h.all dgK = true) (gr : good r = true) : (wrT h r).all dgK = true := by
  rw [List.all_eq_true]
  intro x hx
  obtain ⟨k, hk, rfl⟩ := List.getElem_of_mem hx
  have k2 : k < h.length := by rw [wrK_len h r hl] at hk; exact hk
  rw [wrK_get h r k hk k2 (by omega)]
  split
  · rcases dgK_at hd k k2 with e | e <;> rw [e] <;> decide
  · rename_i e
    rcases triK (good_tri gr k (by omega)) with e2 | e2 | e2
    · rw [e2]; decide
    · rw [e2]; decide
    · rw [e2] at e; exact absurd rfl e
theorem ne_of_len {h c : List UInt8} (hn : h ≠ []) (hl : h.length = c.length) : c ≠ [] := fun e => hn (List.eq_nil_of_length_eq_zero (by rw [hl, e]; rfl))
/-- what is written into m: Before -/
theorem beK {h m r : List UInt8} (hn : h ≠ []) (hlr : h.length = r.length) (hlm : h.length = m.length) (gm : good m = true) (gr : good r = true) (hag : agB m r = true) : wiB h (beT m r) = true ↔ wiB (wrT h r) m = true := by
  have lw := wrK_len h r hlr
  have lb : (bfT m r).length = m.length := zip_len _ m r (by omega)
  have nw : wrT h r ≠ [] := ne_of_len hn lw.symm
  unfold beT
  rw [if_pos hag, wiK hn (by omega), wiK nw (by omega)]
  constructor
  · intro g k h1 h2
    have k1 : k < h.length := by omega
    have h3 := g k k1 (by omega)
    rw [bfK_get m r k (by omega) h2 (by omega)] at h3
    rw [wrK_get h r k h1 k1 (by omega)]
    by_cases e : r[k]'(by omega) = 120
    · rw [if_pos (by simpa using e)] at h3 ⊢
      exact h3
    · rw [if_neg (by simpa using e)]
      have hc := agB_cfl hag k
      rw [cfl_bytes m r k h2 (by omega) (good_tri gm k h2) (good_tri gr k (by omega))] at hc
      by_cases e2 : m[k] = 120
      · exact .inl e2
      · right
        have : (m[k] == r[k]'(by omega)) = true := by simpa [e, e2] using hc
        exact (by simpa using this : m[k] = _).symm
  · intro g k h1 h2
    have k2 : k < m.length := by omega
    have h3 := g k (by omega) k2
    rw [wrK_get h r k (by omega) h1 (by omega)] at h3
    rw [bfK_get m r k (by omega) k2 (by omega)]
    by_cases e : r[k]'(by omega) = 120
    · rw [if_pos (by simpa using e)] at h3 ⊢
      exact h3
    · rw [if_neg (by simpa using e)]
      exact .inl rfl
theorem beK_no {h m r : List UInt8} (hn : h ≠ []) (hlr : h.length = r.length) (hlm : h.length = m.length) (gm : good m = true) (gr : good r = true) (hag : ¬ agB m r = true) : ¬ wiB (wrT h r) m = true := fun hw => by
  have lw := wrK_len h r hlr
  have nw : wrT h r ≠ [] := ne_of_len hn lw.symm
  rw [wiK nw (by omega)] at hw
  refine hag (agB_all m r ?_ (fun k hk => ?_))
  · have hm := ne_of_len hn hlm
    unfold fitB
    cases m with
    | nil => exact absurd rfl hm
    | cons a t => simp at hlm ⊢; omega
  · rw [cfl_bytes m r k hk (by omega) (good_tri gm k hk) (good_tri gr k (by omega))]
    have h3 := hw k (by omega) hk
    rw [wrK_get h r k (by omega) (by omega) (by omega)] at h3
    by_cases e : r[k]'(by omega) = 120
    · simp [e]
    · rw [if_neg (by simpa using e)] at h3
      rcases h3 with h3 | h3
      · simp [h3]
      · simp [h3]
theorem fitK {c r : List UInt8} (hn : c ≠ []) (hl : c.length = r.length) : fitB c r = true := by
  unfold fitB
  cases c with
  | nil => exact absurd rfl hn
  | cons a t => simp at hl ⊢; exact hl
/-- a header that is written lies in what is written of the cube -/
theorem afK_in {h c r : List UInt8} (hn : h ≠ []) (hlr : h.length = r.length) (hlc : h.length = c.length) (hw : wiB h c = true) : wiB (wrT h r) (wtT c r) = true := by
  have lw := wrK_len h r hlr
  have lc := wrK_len c r (by omega)
  have nw : wrT h r ≠ [] := ne_of_len hn lw.symm
  unfold wtT
  rw [if_pos (fitK (ne_of_len hn hlc) (by omega)), wiK nw (by omega)]
  rw [wiK hn hlc] at hw
  intro k h1 h2
  rw [wrK_get h r k h1 (by omega) (by omega), wrK_get c r k h2 (by omega) (by omega)]
  split
  · exact hw k (by omega) (by omega)
  · exact .inr rfl
/-- what lies in what is written has the word's digits -/
theorem afK_fix {x c r : List UInt8} (hn : x ≠ []) (hlr : x.length = r.length) (hlc : x.length = c.length) (_gr : good r = true) (hw : wiB x (wtT c r) = true) : wrT x r = x := by
  have lw := wrK_len x r hlr
  have lc := wrK_len c r (by omega)
  unfold wtT at hw
  rw [if_pos (fitK (ne_of_len hn hlc) (by omega)), wiK hn (by omega)] at hw
  apply List.ext_getElem lw
  intro k h1 h2
  rw [wrK_get x r k h1 h2 (by omega)]
  split
  · rfl
  · rename_i e
    have h3 := hw k h2 (by omega)
    rw [wrK_get c r k (by omega) (by omega) (by omega), if_neg e] at h3
    rcases h3 with h3 | h3
    · rw [h3] at e; exact absurd rfl e
    · exact h3.symm
/-- a header of the cube that is written to x -/
def prK (x c r : List UInt8) : List UInt8 := List.zipWith (fun a (b : UInt8 × UInt8) => if b.2 == 120 then a else if b.1 == 120 then 48 else b.1) x (c.zip r)
theorem afK_out {x c r : List UInt8} (hn : x ≠ []) (hlr : x.length = r.length) (hlc : x.length = c.length) (gc : good c = true) (gr : good r = true) (hd : x.all dgK = true) (hw : wiB x (wtT c r) = true) : ∃ h, h.length = x.length ∧ h.all dgK = true ∧ wiB h c = true ∧ wrT h r = x := by
  have lc := wrK_len c r (by omega)
  have hfix := afK_fix hn hlr hlc gr hw
  unfold wtT at hw
  rw [if_pos (fitK (ne_of_len hn hlc) (by omega)), wiK hn (by omega)] at hw
  have lp : (prK x c r).length = x.length := by unfold prK; simp; omega
  have gp : ∀ k (h1 : k < (prK x c r).length) (h2 : k < x.length) (h3 : k < c.length) (h4 : k < r.length), (prK x c r)[k] = if r[k] == 120 then x[k] else if c[k] == 120 then 48 else c[k] := fun k h1 h2 h3 h4 => by
    refine (List.getElem_zipWith (f := fun a (b : UInt8 × UInt8) => if b.2 == 120 then a else if b.1 == 120 then 48 else b.1) (h := h1)).trans ?_
    rw [List.getElem_zip]
  have np : prK x c r ≠ [] := ne_of_len hn lp.symm
  refine ⟨prK x c r, lp, ?_, ?_, ?_⟩
  · rw [List.all_eq_true]
    intro y hy
    obtain ⟨k, hk, rfl⟩ := List.getElem_of_mem hy
    rw [gp k hk (by omega) (by omega) (by omega)]
    split
    · rcases dgK_at hd k (by omega) with e | e <;> rw [e] <;> decide
    · split
      · decide
      · rename_i e
        rcases triK (good_tri gc k (by omega)) with e2 | e2 | e2
        · rw [e2]; decide
        · rw [e2]; decide
        · rw [e2] at e; exact absurd rfl e
  · rw [wiK np (by omega)]
    intro k h1 h2
    rw [gp k h1 (by omega) h2 (by omega)]
    split
    · rename_i e
      have h3 := hw k (by omega) (by omega)
      rw [wrK_get c r k (by omega) (by omega) (by omega), if_pos e] at h3
      exact h3
    · split
      · rename_i e
        exact .inl (by simpa using e)
      · exact .inr rfl
  · have lw := wrK_len (prK x c r) r (by omega)
    apply List.ext_getElem (by omega)
    intro k h1 h2
    rw [wrK_get (prK x c r) r k h1 (by omega) (by omega), gp k (by omega) h2 (by omega) (by omega)]
    have h5 := List.getElem_of_eq hfix (i := k) (by rw [wrK_len x r hlr]; exact h2)
    rw [wrK_get x r k (by rw [wrK_len x r hlr]; exact h2) h2 (by omega)] at h5
    split
    · rfl
    · rename_i e
      rw [if_neg e] at h5
      exact h5
end Go.Proofs.YtekjbpemaohipaaGreatDoor
namespace Go.Proofs.YtekjbpemaohipaaGreatDoor
open Go.RowKit
/-- the law's own reading of a cube's text -/
def icK (b : Int) (l : List UInt8) : Bool := ((l.length : Int) == b) && l.all tri
theorem tri_succK {s : ByteArray} {k : Nat} (hlt : k < s.size) (h : ∀ j (h : j < s.data.toList.length), j < k → tri s.data.toList[j] = true) (hc : s[k] = 48 ∨ s[k] = 49 ∨ s[k] = 120) : ∀ j (h : j < s.data.toList.length), j < k + 1 → tri s.data.toList[j] = true := fun j hj hjk => by
  by_cases e : j = k
  · subst e
    have e2 : s.data.toList[j] = s[j] := rfl
    rw [e2]
    rcases hc with h | h | h <;> rw [h] <;> decide
  · exact h j hj (by omega)
set_option maxHeartbeats 2000000 in
theorem isCubeK (b : Int) (s : ByteArray) (w : World) (hs : s.size ≤ maxLen) :
    Calls Tryz.prog 7 #[.int .i64 b, .string s] w fun e w' => e = .returned (.bool (icK b s.data.toList)) ∧ Below w.heap.size w w' := by
  unfold maxLen at hs
  have hlen : Hid (s.data.toList.length = s.size) := by simp [Hid]
  by_cases h1 : (s.size : Int) = b
  · have hQ : Hid (∀ q, s.data.toList.all tri = q → icK b s.data.toList = q) := fun q hq => by
      unfold icK
      rw [hlen.out, hq, show ((s.size : Int) == b) = true by simpa using h1, Bool.true_and]
    have m1 : ((s.size : Int) != b) = false := by simpa using h1
    clear h1
    go_enter Tryz.func7, Tryz.ntmps7
    go_wp2
    clear m1
    go_loopw [5] (fun i wr => ∃ k : Nat, k ≤ s.size ∧ i = .int .i64 k ∧ (∀ j (h : j < s.data.toList.length), j < k → tri s.data.toList[j] = true) ∧ Below w.heap.size w wr) (fun i _ => s.size - (intOf i).toNat)
    case atStart => exact ⟨0, Nat.zero_le _, rfl, fun j _ h => by omega, Below.refl _ _⟩
    case round =>
      obtain ⟨k, hk, rfl, htri, hB⟩ := hrel
      by_cases hlt : k < s.size
      · have i1 : (k : Int) < (s.size : Int) := by omega
        have i0 : (0 : Int) ≤ (k : Int) := by omega
        by_cases c3 : s[k] = 48 ∨ s[k] = 49 ∨ s[k] = 120
        · have R := tri_succK hlt htri c3
          clear htri
          rcases c3 with c | c | c
          · have m1 : ((s[k].toNat : Int) != 48) = false := by rw [c]; decide
            clear c
            go_wp2
            go_roundw
            case rel => exact ⟨k + 1, by omega, by go_num, R, hB⟩
            case measure => simp [intOf]; omega
          · have m1 : ((s[k].toNat : Int) != 48) = true := by rw [c]; decide
            have m2 : ((s[k].toNat : Int) != 49) = false := by rw [c]; decide
            clear c
            go_wp2
            go_roundw
            case rel => exact ⟨k + 1, by omega, by go_num, R, hB⟩
            case measure => simp [intOf]; omega
          · have m1 : ((s[k].toNat : Int) != 48) = true := by rw [c]; decide
            have m2 : ((s[k].toNat : Int) != 49) = true := by rw [c]; decide
            have m3 : ((s[k].toNat : Int) != 120) = false := by rw [c]; decide
            clear c
            go_wp2
            go_roundw
            case rel => exact ⟨k + 1, by omega, by go_num, R, hB⟩
            case measure => simp [intOf]; omega
        · have c48 : ¬ s[k] = 48 := fun e => c3 (.inl e)
          have c49 : ¬ s[k] = 49 := fun e => c3 (.inr (.inl e))
          have c120 : ¬ s[k] = 120 := fun e => c3 (.inr (.inr e))
          have R : Hid (icK b s.data.toList = false) := hQ.out _ (by
            rw [List.all_eq_false]
            refine ⟨s[k], List.getElem_mem (l := s.data.toList) (by have := hlen.out; omega), ?_⟩
            unfold tri
            simp [c48, c49, c120])
          have m1 : ((s[k].toNat : Int) != 48) = true := by rw [show ((s[k].toNat : Int) != 48) = !(s[k] == 48) from byte_bne s[k] 48 (by decide)]; simp [c48]
          have m2 : ((s[k].toNat : Int) != 49) = true := by rw [show ((s[k].toNat : Int) != 49) = !(s[k] == 49) from byte_bne s[k] 49 (by decide)]; simp [c49]
          have m3 : ((s[k].toNat : Int) != 120) = true := by rw [show ((s[k].toNat : Int) != 120) = !(s[k] == 120) from byte_bne s[k] 120 (by decide)]; simp [c120]
          clear htri c48 c49 c120 c3
          go_wp2
          go_ret
          exact ⟨by rw [R.out]; rfl, hB⟩
      · have R : Hid (icK b s.data.toList = true) := hQ.out _ (by
          rw [List.all_eq_true]
          intro t ht
          obtain ⟨j, hj, rfl⟩ := List.getElem_of_mem ht
          exact htri j hj (by have := hlen.out; omega))
        clear htri
        go_wp2
        go_ret
        exact ⟨by rw [R.out]; rfl, hB⟩
  · have hR : Hid (icK b s.data.toList = false) := by
      unfold Hid icK
      rw [hlen.out, show ((s.size : Int) == b) = false by simpa using h1]
      simp
    have m1 : ((s.size : Int) != b) = true := by simpa using h1
    clear h1
    go_enter Tryz.func7, Tryz.ntmps7
    go_wp2
    go_ret
    exact ⟨by rw [hR.out]; rfl, Below.refl _ _⟩
set_option maxRecDepth 100000 in
set_option maxHeartbeats 4000000 in
theorem over_loop (a b : ByteArray) (w : World) (hl : a.size ≤ 256) (hz0 : a.size = b.size) :
    Calls Tryz.prog 12 #[.string a, .string b] w fun e w' => e = .returned (.string ⟨(wrT a.data.toList b.data.toList).toArray⟩) ∧ Below w.heap.size w w' := by
  have hz : Hid (a.size = b.size) := hz0
  have LA : Hid (a.data.toList.length = a.size) := by simp [Hid]
  have hlab : a.data.toList.length = b.data.toList.length := by simpa using hz0
  obtain ⟨T, hT0⟩ : ∃ T, wrT a.data.toList b.data.toList = T := ⟨_, rfl⟩
  have hTl0 : T.length = a.data.toList.length := by rw [← hT0]; exact zip_len _ _ _ hlab
  have HTL : Hid (T.length = a.data.toList.length) := hTl0
  have HG : Hid (∀ (k : Nat) (ha : k < a.size) (hb : k < b.size) (ht : k < T.length), T[k] = if b[k] == 120 then a[k] else b[k]) := fun k ha hb ht => by
    have h1 := zip_get (fun x y => if y == 120 then x else y) _ _ hlab k (by simpa using ha)
    have h2 : T[k]? = some (if b[k] == 120 then a[k] else b[k]) := by rw [← hT0]; exact h1
    rw [List.getElem?_eq_getElem ht] at h2
    exact Option.some.inj h2
  have hcv := Lib.run_convert_string_bytes (P := Tryz.prog) w 9 70 5 a Tryz.underlying9 Tryz.underlying70 Tryz.underlying5
  have ea : (⟨a.data.toList.toArray⟩ : ByteArray) = a := by cases a; rfl
  have hN := hdr_new w a.data.toList
  have B2 := bel_bytes w a
  rw [ea] at hN
  obtain ⟨cp, hcp⟩ : ∃ c, grownCap w a.size 0 5 = c := ⟨_, rfl⟩
  obtain ⟨z, hz'⟩ : ∃ z, List.replicate (grownCap w a.data.toList.length 0 5 - a.data.toList.length) (Value.int .u8 0) = z := ⟨_, rfl⟩
  rw [hcp] at hcv
  rw [hz'] at hN
  obtain ⟨w2, hw2⟩ : ∃ w2, Lib.bytesWorld w 5 a = w2 := ⟨_, rfl⟩
  rw [hw2] at hcv hN B2
  rw [hT0]
  clear hz0 hT0 hTl0 hw2 hz' hcp ea hlab
  go_enter Tryz.func12, Tryz.ntmps12
  go_wp2_with fail
  clear hcv
  go_loopw [6] (fun i wr => ∃ k : Nat, k ≤ a.size ∧ i = .int .i64 k ∧ hdr wr w.heap.size z (bxk T a.data.toList k) ∧ Below w.heap.size w wr) (fun i _ => a.size - (intOf i).toNat)
  case atStart => exact ⟨0, Nat.zero_le _, rfl, by rw [bxk_zero]; exact hN, B2⟩
  case round =>
    clear hN B2
    obtain ⟨k, hk, rfl, hrow, hB⟩ := hrel
    by_cases hlt : k < a.size
    · have hkb : k < b.size := by rw [← hz.out]; exact hlt
      have hkl : k < a.data.toList.length := by rw [LA.out]; exact hlt
      have hkT : k < T.length := by rw [HTL.out]; exact hkl
      have i0' : (0 : Int) ≤ (k : Int) := by omega
      have i1 : (k : Int) < (a.size : Int) := by omega
      have i2 : (k : Int) < (b.size : Int) := by omega
      obtain ⟨p2, n2⟩ : ∃ p, ((b[k].toNat : Int) != 120) = p := ⟨_, rfl⟩
      have M2 : Hid ((b[k] == 120) = !p2) := by
        unfold Hid
        rw [← n2, show ((b[k].toNat : Int) != 120) = !(b[k] == 120) from byte_bne b[k] 120 (by decide)]; simp
      have GT : Hid (T[k] = if b[k] == 120 then a[k] else b[k]) := HG.out k hlt hkb hkT
      have hjk : k < (bxk T a.data.toList k).length := by rw [bxk_len _ _ HTL.out k (by omega)]; exact hkl
      obtain ⟨cv0, hc2⟩ : ∃ v, wr.cell? ⟨w.heap.size, k, none⟩ = some v := ⟨_, hdr_cell hrow hjk⟩
      have hf2 := hdr_frozen hrow hjk
      have HST : Hid (p2 = true → hdr (wr.setCell ⟨w.heap.size, k, none⟩ (.int .u8 (b[k].toNat : Int))) w.heap.size z (bxk T a.data.toList (k + 1))) := fun hp => by
        have h1 := hdr_set (x := b[k]) hrow hjk
        rw [bxk_succ _ _ HTL.out k hkl, GT.out, M2.out, hp]
        exact h1
      have HKP : Hid (p2 = false → hdr wr w.heap.size z (bxk T a.data.toList (k + 1))) := fun hp => by
        rw [bxk_keep _ _ HTL.out k hkl (by rw [GT.out, M2.out, hp]; rfl)]
        exact hrow
      have HB : Hid (Below w.heap.size w wr) := hB
      clear hB hrow hjk
      cases p2
      · go_wp2
        go_roundw
        case rel => exact ⟨k + 1, by omega, by go_num, HKP.out rfl, HB.out⟩
        case measure => simp [intOf]; omega
      · go_wp2
        go_roundw
        case rel => exact ⟨k + 1, by omega, by go_num, HST.out (by trivial), HB.out.setCell (Nat.le_refl _) _⟩
        case measure => simp [intOf]; omega
    · have hkn : k = a.size := by omega
      have i1 : ¬ (k : Int) < (a.size : Int) := by omega
      have e1 : bxk T a.data.toList k = T := by rw [hkn, ← LA.out]; exact bxk_all _ _ HTL.out
      rw [e1] at hrow
      have eT : T.length = a.size := by rw [HTL.out]; exact LA.out
      have hcv := run_convert_bytes_back (P := Tryz.prog) wr 70 9 5 ⟨w.heap.size, 0, none⟩ cp T Tryz.underlying70 Tryz.underlying5 Tryz.underlying9 (fun j hj => by rw [add_plain]; simpa using hdr_cell hrow hj)
      rw [eT] at hcv
      clear hrow e1 eT hkn
      go_wp2
      go_ret
      exact ⟨rfl, hB⟩
theorem overK (x y : List UInt8) (w : World) (hl : x.length ≤ 256) (hz : x.length = y.length) :
    Calls Tryz.prog 12 #[.string ⟨x.toArray⟩, .string ⟨y.toArray⟩] w fun e w' => e = .returned (.string ⟨(wrT x y).toArray⟩) ∧ Below w.heap.size w w' := over_loop ⟨x.toArray⟩ ⟨y.toArray⟩ w (by simpa [ByteArray.size] using hl) (by simpa [ByteArray.size] using hz)
/-- a header's number -/
def nmK (l : List UInt8) : Nat := l.foldl (fun n c => 2 * n + (c.toNat - 48)) 0
theorem nmK_snoc (l : List UInt8) (c : UInt8) : nmK (l ++ [c]) = 2 * nmK l + (c.toNat - 48) := by unfold nmK; rw [List.foldl_append]; rfl
theorem nmK_lt : ∀ (n : Nat) (l : List UInt8), l.length = n → (∀ x ∈ l, x = 48 ∨ x = 49) → nmK l < 2 ^ n
  | 0, l, h, _ => by
    obtain rfl := List.eq_nil_of_length_eq_zero h
    decide
  | n + 1, l, h, hd => by
    have hne : l ≠ [] := fun e => by rw [e] at h; simp at h
    obtain ⟨r, c, rfl⟩ : ∃ r c, l = r ++ [c] := ⟨_, _, (List.dropLast_concat_getLast hne).symm⟩
    have h1 : r.length = n := by simpa using h
    have ih := nmK_lt n r h1 (fun x hx => hd x (by simp [hx]))
    rw [nmK_snoc, Nat.pow_succ]
    rcases hd c (by simp) with rfl | rfl
    · show 2 * nmK r + 0 < _
      omega
    · show 2 * nmK r + 1 < _
      omega
set_option maxHeartbeats 2000000 in
theorem number_loop (s : ByteArray) (w : World) (hs : s.size ≤ 8) (hd0 : ∀ j (h : j < s.data.toList.length), s.data.toList[j] = 48 ∨ s.data.toList[j] = 49) :
    Calls Tryz.prog 15 #[.string s] w fun e w' => e = .returned (.int .i64 (nmK s.data.toList : Int)) ∧ Below w.heap.size w w' := by
  have hlen : Hid (s.data.toList.length = s.size) := by simp [Hid]
  have HD : Hid (∀ j (h : j < s.data.toList.length), s.data.toList[j] = 48 ∨ s.data.toList[j] = 49) := hd0
  clear hd0
  go_enter Tryz.func15, Tryz.ntmps15
  go_wp2_with fail
  go_loopw [3, 4] (fun v3 v4 wr => ∃ (k n : Nat), k ≤ s.size ∧ v4 = .int .i64 (k : Int) ∧ v3 = .int .i64 (n : Int) ∧ Hid (nmK (s.data.toList.take k) = n) ∧ n ≤ 1000 ∧ Below w.heap.size w wr) (fun _ v4 _ => s.size - (intOf v4).toNat)
  case atStart => exact ⟨0, 0, Nat.zero_le _, rfl, rfl, rfl, by omega, Below.refl _ _⟩
  case round =>
    obtain ⟨k, n, hk, rfl, rfl, HN, hn, hB⟩ := hrel
    by_cases hlt : k < s.size
    · have i1 : (k : Int) < (s.size : Int) := by omega
      have i0 : (0 : Int) ≤ (k : Int) := by omega
      have hkl : k < s.data.toList.length := by rw [hlen.out]; exact hlt
      have es : s.data.toList[k] = s[k]'hlt := rfl
      have hc : s[k]'hlt = 48 ∨ s[k]'hlt = 49 := HD.out k hkl
      have HS : Hid (nmK (s.data.toList.take (k + 1)) = 2 * n + ((s[k]'hlt).toNat - 48)) := by
        unfold Hid
        rw [List.take_add_one, List.getElem?_eq_getElem hkl, es]
        have := nmK_snoc (s.data.toList.take k) (s[k]'hlt)
        rw [HN.out] at this
        exact this
      have HLT : Hid (nmK (s.data.toList.take (k + 1)) ≤ 1000) := by
        have h1 := nmK_lt (k + 1) (s.data.toList.take (k + 1)) (by rw [List.length_take]; omega) (fun x hx => by
          obtain ⟨j, hj, rfl⟩ := List.getElem_of_mem hx
          rw [List.getElem_take]
          exact HD.out j (by rw [List.length_take] at hj; omega))
        have h2 : 2 ^ (k + 1) ≤ 2 ^ 8 := Nat.pow_le_pow_right (by omega) (by omega)
        have h3 : (2 : Nat) ^ 8 = 256 := rfl
        show nmK _ ≤ 1000
        omega
      have w1 : IntKind.i64.wrap (2 * (n : Int)) = 2 * (n : Int) := by rw [IntKind.wrap_i64]; omega
      clear hkl es
      rcases hc with c | c
      · have m1 : ((s[k]'hlt).toNat : Int) = 48 := by rw [c]; rfl
        have e2 : nmK (s.data.toList.take (k + 1)) = 2 * n := by rw [HS.out, c]; rfl
        have HX : Hid (nmK (s.data.toList.take (k + 1)) = 2 * n ∧ 2 * n ≤ 1000) := ⟨e2, by rw [← e2]; exact HLT.out⟩
        clear c e2 HS HLT
        go_wp2_with fail
        go_roundw
        case rel => exact ⟨k + 1, 2 * n, by omega, by go_num, by go_num, HX.out.1, HX.out.2, hB⟩
        case measure => simp [intOf]; omega
      · have m1 : ((s[k]'hlt).toNat : Int) = 49 := by rw [c]; rfl
        have e2 : nmK (s.data.toList.take (k + 1)) = 2 * n + 1 := by rw [HS.out, c]; rfl
        have HX : Hid (nmK (s.data.toList.take (k + 1)) = 2 * n + 1 ∧ 2 * n + 1 ≤ 1000) := ⟨e2, by rw [← e2]; exact HLT.out⟩
        have w2 : IntKind.i64.wrap (2 * (n : Int) + 1) = 2 * (n : Int) + 1 := by rw [IntKind.wrap_i64]; omega
        clear c e2 HS HLT
        go_wp2_with fail
        go_roundw
        case rel => exact ⟨k + 1, 2 * n + 1, by omega, by go_num, by go_num, HX.out.1, HX.out.2, hB⟩
        case measure => simp [intOf]; omega
    · have i1 : ¬ (k : Int) < (s.size : Int) := by omega
      have HE : Hid (nmK s.data.toList = n) := by
        unfold Hid
        rw [← HN.out, List.take_of_length_le (by rw [hlen.out]; omega)]
      go_wp2_with fail
      go_ret
      exact ⟨by rw [HE.out]; rfl, hB⟩
theorem numberK (x : List UInt8) (w : World) (hl : x.length ≤ 8) (hd : ∀ y ∈ x, y = 48 ∨ y = 49) :
    Calls Tryz.prog 15 #[.string ⟨x.toArray⟩] w fun e w' => e = .returned (.int .i64 (nmK x : Int)) ∧ Below w.heap.size w w' := number_loop ⟨x.toArray⟩ w (by simpa [ByteArray.size] using hl) (fun j h => hd _ (List.getElem_mem h))
end Go.Proofs.YtekjbpemaohipaaGreatDoor
