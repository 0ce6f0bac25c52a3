import Derived.Test.YtffgkjmfeannoaaGreatDoorXBI
namespace Go.Proofs.YtffgkjmfeannoaaGreatDoor.Ex
open Go.RowKit
variable {nB : List UInt8 → Bool} {nV : List UInt8 → Option Int} {pB : List UInt8 → Bool}
variable {w0 W X : World} {b : Nat} {pt : Option Addr} {ct : Nat} {L : List XTok} {i o m : Nat} {out : List Nd}
def opR (o i : Nat) (rp : PR) : PR := if o = 32 then .error (53, i) else rp
set_option maxRecDepth 100000 in
set_option maxHeartbeats 4000000 in
theorem opened_D (rp : PR) (h : ST w0 b pt ct L W i o m out) (hb : w0.heap.size ≤ b) (ho : o ≤ 32)
    (HP : o ≠ 32 → ∀ W', ST w0 b pt ct L W' i (o + 1) m out → Calls Tryz.prog 54 #[.pointer (some ⟨b, 0, none⟩)] W' (RT w0 b pt ct L (o + 1) rp)) :
    Calls Tryz.prog 53 #[.pointer (some ⟨b, 0, none⟩), .func (.func 54) #[.pointer (some ⟨b, 0, none⟩)] #[]] W (RT w0 b pt ct L o (opR o i rp)) := by
  obtain ⟨c0, c1, c2, c3, cf⟩ := h.cells
  by_cases h32 : o = 32
  · have y1 : ((o : Int) == 32) = true := beq_iff_eq.2 (by omega)
    have HE : Hid (opR o i rp = .error (53, i) ∧ ST w0 b pt ct L W i o m out) := ⟨by unfold opR; rw [if_pos h32], h⟩
    rw [HE.out.1]
    clear h h32 HP
    go_enter Tryz.func53, Tryz.ntmps53
    go_wp2_with fail
    go_ret
    exact ⟨rfl, (by show (53 : Nat) ≠ 0; decide), m, out, HE.out.2⟩
  · have y1 : ((o : Int) == 32) = false := beq_eq_false_iff_ne.2 (by omega)
    have HE : Hid (opR o i rp = rp) := by show opR o i rp = rp; unfold opR; rw [if_neg h32]
    rw [HE.out]
    have y2 : IntKind.i64.wrap ((o : Int) + 1) = (o : Int) + 1 := by rw [IntKind.wrap_i64]; omega
    have h1 := h.set hb (i' := i) (o' := o + 1) (m' := m) 2 (.int .i64 ((o : Int) + 1)) h.2.2 (fun vn => by simp)
    have HPP := HP h32 _ h1
    have f2 := cf 2
    have HB : Hid (w0.heap.size ≤ b) := hb
    have y3 : (o : Int) + 1 - 1 = (o : Int) := by omega
    have y4 : IntKind.i64.wrap (o : Int) = (o : Int) := by rw [IntKind.wrap_i64]; omega
    clear h h1 h32 HP cf HE hb
    go_enter Tryz.func53, Tryz.ntmps53
    go_wp2_with fail
    refine HPP.mono ?_
    intro e W2 he
    have hs : ∃ z i2 m2 out2, e = .returned (.int .i64 z) ∧ ST w0 b pt ct L W2 i2 (o + 1) m2 out2 ∧ ∀ W3, ST w0 b pt ct L W3 i2 o m2 out2 → RT w0 b pt ct L o rp (.returned (.int .i64 z)) W3 := by
      cases rp with
      | error p =>
        obtain ⟨a1, a2, m2, out2, a3⟩ := he
        exact ⟨_, p.2, m2, out2, a1, a3, fun W3 h3 => ⟨rfl, a2, m2, out2, h3⟩⟩
      | ok q => exact ⟨_, q.1, q.2.1, q.2.2, he.1, he.2, fun W3 h3 => ⟨rfl, h3⟩⟩
    obtain ⟨z, i2, m2, out2, rfl, hs2, hfin⟩ := hs
    obtain ⟨e0, e1, e2, e3, ef⟩ := hs2.cells
    have g2 := ef 2
    have HF : Hid (RT w0 b pt ct L o rp (.returned (.int .i64 z)) (W2.setCell ⟨b, 2, none⟩ (.int .i64 (o : Int)))) := hfin _ (hs2.set HB.out (i' := i2) (o' := o) (m' := m2) 2 (.int .i64 (o : Int)) hs2.2.2 (fun vn => by simp))
    have e2' : W2.cell? ⟨b, 2, none⟩ = some (.int .i64 ((o : Int) + 1)) := by rw [e2]; simp
    clear hs2 hfin he ef e2 HPP
    go_wp2_with fail
    go_ret
    exact HF.out
set_option maxRecDepth 100000 in
set_option maxHeartbeats 4000000 in
theorem opened_E (rp : PR) (h : ST w0 b pt ct L W i o m out) (hb : w0.heap.size ≤ b) (ho : o ≤ 32)
    (HP : o ≠ 32 → ∀ W', ST w0 b pt ct L W' i (o + 1) m out → Calls Tryz.prog 55 #[.pointer (some ⟨b, 0, none⟩)] W' (RT w0 b pt ct L (o + 1) rp)) :
    Calls Tryz.prog 53 #[.pointer (some ⟨b, 0, none⟩), .func (.func 55) #[.pointer (some ⟨b, 0, none⟩)] #[]] W (RT w0 b pt ct L o (opR o i rp)) := by
  obtain ⟨c0, c1, c2, c3, cf⟩ := h.cells
  by_cases h32 : o = 32
  · have y1 : ((o : Int) == 32) = true := beq_iff_eq.2 (by omega)
    have HE : Hid (opR o i rp = .error (53, i) ∧ ST w0 b pt ct L W i o m out) := ⟨by unfold opR; rw [if_pos h32], h⟩
    rw [HE.out.1]
    clear h h32 HP
    go_enter Tryz.func53, Tryz.ntmps53
    go_wp2_with fail
    go_ret
    exact ⟨rfl, (by show (53 : Nat) ≠ 0; decide), m, out, HE.out.2⟩
  · have y1 : ((o : Int) == 32) = false := beq_eq_false_iff_ne.2 (by omega)
    have HE : Hid (opR o i rp = rp) := by show opR o i rp = rp; unfold opR; rw [if_neg h32]
    rw [HE.out]
    have y2 : IntKind.i64.wrap ((o : Int) + 1) = (o : Int) + 1 := by rw [IntKind.wrap_i64]; omega
    have h1 := h.set hb (i' := i) (o' := o + 1) (m' := m) 2 (.int .i64 ((o : Int) + 1)) h.2.2 (fun vn => by simp)
    have HPP := HP h32 _ h1
    have f2 := cf 2
    have HB : Hid (w0.heap.size ≤ b) := hb
    have y3 : (o : Int) + 1 - 1 = (o : Int) := by omega
    have y4 : IntKind.i64.wrap (o : Int) = (o : Int) := by rw [IntKind.wrap_i64]; omega
    clear h h1 h32 HP cf HE hb
    go_enter Tryz.func53, Tryz.ntmps53
    go_wp2_with fail
    refine HPP.mono ?_
    intro e W2 he
    have hs : ∃ z i2 m2 out2, e = .returned (.int .i64 z) ∧ ST w0 b pt ct L W2 i2 (o + 1) m2 out2 ∧ ∀ W3, ST w0 b pt ct L W3 i2 o m2 out2 → RT w0 b pt ct L o rp (.returned (.int .i64 z)) W3 := by
      cases rp with
      | error p =>
        obtain ⟨a1, a2, m2, out2, a3⟩ := he
        exact ⟨_, p.2, m2, out2, a1, a3, fun W3 h3 => ⟨rfl, a2, m2, out2, h3⟩⟩
      | ok q => exact ⟨_, q.1, q.2.1, q.2.2, he.1, he.2, fun W3 h3 => ⟨rfl, h3⟩⟩
    obtain ⟨z, i2, m2, out2, rfl, hs2, hfin⟩ := hs
    obtain ⟨e0, e1, e2, e3, ef⟩ := hs2.cells
    have g2 := ef 2
    have HF : Hid (RT w0 b pt ct L o rp (.returned (.int .i64 z)) (W2.setCell ⟨b, 2, none⟩ (.int .i64 (o : Int)))) := hfin _ (hs2.set HB.out (i' := i2) (o' := o) (m' := m2) 2 (.int .i64 (o : Int)) hs2.2.2 (fun vn => by simp))
    have e2' : W2.cell? ⟨b, 2, none⟩ = some (.int .i64 ((o : Int) + 1)) := by rw [e2]; simp
    clear hs2 hfin he ef e2 HPP
    go_wp2_with fail
    go_ret
    exact HF.out
set_option maxRecDepth 100000 in
theorem denied_any (rb : PR) (h : ST w0 b pt ct L W i o m out) (hb : w0.heap.size ≤ b) (hi : i < L.length) (hlen : L.length ≤ 100000) (hok : out.length ≤ m ∧ m ≤ 64)
    (HP : m ≠ 64 → ∀ W', ST w0 b pt ct L W' (i + 1) o (m + 1) out → Calls Tryz.prog 37 #[.pointer (some ⟨b, 0, none⟩)] W' (RT w0 b pt ct L o rb))
    (hrb : ∀ q, rb = .ok q → q.2.2.length + (m + 1) = out.length + q.2.1 ∧ q.2.1 ≤ 64) :
    Calls Tryz.prog 54 #[.pointer (some ⟨b, 0, none⟩)] W (RT w0 b pt ct L o (mkR 4 i m rb)) := by
  have HM := making_F 4 rb h hb hi hlen hok HP hrb
  clear h HP hrb hb
  go_enter Tryz.func54, Tryz.ntmps54
  go_wp2_with fail
  refine HM.mono ?_
  intro e W2 he
  have hs : ∃ z, e = .returned (.int .i64 z) := by
    revert he
    cases mkR 4 i m rb with
    | error p => exact fun he => ⟨_, he.1⟩
    | ok q => exact fun he => ⟨_, he.1⟩
  obtain ⟨z, rfl⟩ := hs
  have HE := hideL he
  clear he HM
  go_wp2_with fail
  go_ret
  exact HE.out
def enR (LT : List Tk) (re : PR) : PR := match re with
  | .error e => .error e
  | .ok q => match tk LT q.1 with
    | .cls => .ok (q.1 + 1, q.2.1, q.2.2)
    | _ => .error (50, q.1)
set_option maxRecDepth 100000 in
set_option maxHeartbeats 4000000 in
theorem enclosed_any (re : PR) (hX : XR w0 pt L) (h : ST w0 b pt ct L W i o m out) (hb : w0.heap.size ≤ b) (hi : i < L.length) (hlen : L.length ≤ 100000)
    (HP : ∀ W', ST w0 b pt ct L W' (i + 1) o m out → Calls Tryz.prog 11 #[.pointer (some ⟨b, 0, none⟩)] W' (RT w0 b pt ct L o re)) :
    Calls Tryz.prog 55 #[.pointer (some ⟨b, 0, none⟩)] W (RT w0 b pt ct L o (enR (L.map (cl nB nV pB)) re)) := by
  obtain ⟨c0, c1, c2, c3, cf⟩ := h.cells
  have y2 : IntKind.i64.wrap ((i : Int) + 1) = (i : Int) + 1 := by rw [IntKind.wrap_i64]; omega
  have h1 := h.set hb (i' := i + 1) (o' := o) (m' := m) 1 (.int .i64 ((i : Int) + 1)) (by omega) (fun vn => by simp)
  have HPP := HP _ h1
  have f1 := cf 1
  have HX : Hid (XR w0 pt L ∧ w0.heap.size ≤ b ∧ L.length ≤ 100000) := ⟨hX, hb, hlen⟩
  have HTK : Hid (∀ i, isS (tokAt L i) [41] = true ↔ tk (L.map (cl nB nV pB)) i = .cls) := fun i => by rw [tk_cl]; exact is_cls _
  have HLN : Hid ((L.map (cl nB nV pB)).length = L.length) := List.length_map ..
  obtain ⟨LT, hLT⟩ : ∃ LT, L.map (cl nB nV pB) = LT := ⟨_, rfl⟩
  rw [hLT] at HTK HLN ⊢
  clear h h1 cf HP hX hb hlen hLT hi
  cases re with
  | error p =>
    obtain ⟨pn, pp⟩ := p
    have HE : Hid (enR LT (.error (pn, pp)) = .error (pn, pp)) := rfl
    rw [HE.out]
    go_enter Tryz.func55, Tryz.ntmps55
    go_wp2_with fail
    refine HPP.mono ?_
    rintro e W2 ⟨rfl, hn, hs⟩
    have y1 : ((pn : Int) == 0) = false := beq_eq_false_iff_ne.2 (by simp only at hn; omega)
    have y3 : ((pn : Int) != 0) = true := by simp only [bne, y1]; rfl
    have HF : Hid (pn ≠ 0 ∧ ∃ m' out', ST w0 b pt ct L W2 pp o m' out') := ⟨hn, hs⟩
    clear hn hs HPP
    go_wp2_with fail
    go_ret
    exact ⟨rfl, HF.out.1, HF.out.2⟩
  | ok q =>
    obtain ⟨i1, m1, o1⟩ := q
    by_cases hcl : isS (tokAt L i1) [41] = true
    · have htk := (HTK.out i1).1 hcl
      have HE : Hid (enR LT (.ok (i1, m1, o1)) = .ok (i1 + 1, m1, o1) ∧ i1 < L.length) := ⟨by unfold enR; simp only; rw [htk], by
        have := tk_in htk (by intro h; cases h)
        rw [HLN.out] at this
        exact this⟩
      rw [HE.out.1]
      clear htk
      go_enter Tryz.func55, Tryz.ntmps55
      go_wp2_with fail
      refine HPP.mono ?_
      rintro e W2 ⟨rfl, hs⟩
      simp only at hs
      have HA := isAt_any [41] HX.out.1 HX.out.2.2 hs
      rw [hcl] at HA
      have HS : Hid (ST w0 b pt ct L W2 i1 o m1 o1) := hs
      clear hs HPP hcl
      go_wp2_with fail
      refine HA.mono ?_
      rintro e W3 ⟨rfl, b3⟩
      have hs3 := HS.out.below b3
      obtain ⟨e0, e1, e2, e3, ef⟩ := hs3.cells
      have g1 := ef 1
      have hi1 := HE.out.2
      have hl2 := HX.out.2.2
      have y4 : IntKind.i64.wrap ((i1 : Int) + 1) = (i1 : Int) + 1 := by rw [IntKind.wrap_i64]; omega
      have HF : Hid (ST w0 b pt ct L (W3.setCell ⟨b, 1, none⟩ (.int .i64 ((i1 : Int) + 1))) (i1 + 1) o m1 o1) := hs3.set HX.out.2.1 (i' := i1 + 1) (o' := o) (m' := m1) 1 (.int .i64 ((i1 : Int) + 1)) (by omega) (fun vn => by simp)
      clear hs3 ef HA b3 hi1 hl2
      go_wp2_with fail
      go_ret
      exact ⟨rfl, HF.out⟩
    · have hcl2 : isS (tokAt L i1) [41] = false := by simpa using hcl
      have htk : tk LT i1 ≠ .cls := fun h => hcl ((HTK.out i1).2 h)
      have HE : Hid (enR LT (.ok (i1, m1, o1)) = .error (50, i1)) := by
        show enR LT (.ok (i1, m1, o1)) = .error (50, i1)
        unfold enR
        simp only
      rw [HE.out]
      clear htk hcl
      go_enter Tryz.func55, Tryz.ntmps55
      go_wp2_with fail
      refine HPP.mono ?_
      rintro e W2 ⟨rfl, hs⟩
      simp only at hs
      have HA := isAt_any [41] HX.out.1 HX.out.2.2 hs
      rw [hcl2] at HA
      have HS : Hid (ST w0 b pt ct L W2 i1 o m1 o1) := hs
      clear hs HPP
      go_wp2_with fail
      refine HA.mono ?_
      rintro e W3 ⟨rfl, b3⟩
      have HF : Hid (ST w0 b pt ct L W3 i1 o m1 o1) := HS.out.below b3
      clear HA b3
      go_wp2_with fail
      go_ret
      exact ⟨rfl, (by show (50 : Nat) ≠ 0; decide), m1, o1, HF.out⟩
end Go.Proofs.YtffgkjmfeannoaaGreatDoor.Ex
namespace Go.Proofs.YtffgkjmfeannoaaGreatDoor.Ex
open Go.RowKit
variable {nB : List UInt8 → Bool} {nV : List UInt8 → Option Int} {pB : List UInt8 → Bool}
variable {w0 W X : World} {b : Nat} {pt : Option Addr} {ct : Nat} {L : List XTok} {i o m : Nat} {out : List Nd}
def nmB (nB : List UInt8 → Bool) (t : XTok) : Bool := t.1 == 2 && nB t.2.1
theorem clS_no (x : List UInt8) : clS x ≠ .any ∧ clS x ≠ .non ∧ ∀ y, clS x ≠ .nm y := by
  unfold clS
  by_cases e : x = [33]
  · rw [if_pos e]; exact ⟨nofun, nofun, nofun⟩
  rw [if_neg e]; clear e
  by_cases e : x = [40]
  · rw [if_pos e]; exact ⟨nofun, nofun, nofun⟩
  rw [if_neg e]; clear e
  by_cases e : x = [41]
  · rw [if_pos e]; exact ⟨nofun, nofun, nofun⟩
  rw [if_neg e]; clear e
  by_cases e : x = [38]
  · rw [if_pos e]; exact ⟨nofun, nofun, nofun⟩
  rw [if_neg e]; clear e
  by_cases e : x = [124]
  · rw [if_pos e]; exact ⟨nofun, nofun, nofun⟩
  rw [if_neg e]; clear e
  by_cases e : x = [47]
  · rw [if_pos e]; exact ⟨nofun, nofun, nofun⟩
  rw [if_neg e]; clear e
  by_cases e : x = [46, 46]
  · rw [if_pos e]; exact ⟨nofun, nofun, nofun⟩
  rw [if_neg e]; clear e
  by_cases e : x = [61]
  · rw [if_pos e]; exact ⟨nofun, nofun, nofun⟩
  rw [if_neg e]; clear e
  by_cases e : x = [33, 61]
  · rw [if_pos e]; exact ⟨nofun, nofun, nofun⟩
  rw [if_neg e]; clear e
  by_cases e : x = [60]
  · rw [if_pos e]; exact ⟨nofun, nofun, nofun⟩
  rw [if_neg e]; clear e
  by_cases e : x = [60, 61]
  · rw [if_pos e]; exact ⟨nofun, nofun, nofun⟩
  rw [if_neg e]; clear e
  by_cases e : x = [62]
  · rw [if_pos e]; exact ⟨nofun, nofun, nofun⟩
  rw [if_neg e]; clear e
  by_cases e : x = [62, 61]
  · rw [if_pos e]; exact ⟨nofun, nofun, nofun⟩
  rw [if_neg e]; clear e
  exact ⟨nofun, nofun, nofun⟩
theorem cl_nm {t : XTok} (h : nmB nB t = false) : cl nB nV pB t ≠ .any ∧ cl nB nV pB t ≠ .non ∧ ∀ x, cl nB nV pB t ≠ .nm x := by
  by_cases h7 : t.1 = 7
  · unfold cl
    rw [if_pos h7]
    exact clS_no _
  · by_cases h2 : t.1 = 2
    · have hb : nB t.2.1 = false := by
        unfold nmB at h
        simpa [h2] using h
      unfold cl
      rw [if_neg h7, if_pos h2, hb, if_neg (by decide)]
      exact ⟨nofun, nofun, nofun⟩
    · unfold cl
      rw [if_neg h7, if_neg h2]
      by_cases h4 : t.1 = 4
      · rw [if_pos h4]
        cases nV t.2.1 with
        | none => exact ⟨nofun, nofun, nofun⟩
        | some v => exact ⟨nofun, nofun, nofun⟩
      · rw [if_neg h4]
        by_cases h5 : t.1 = 5
        · rw [if_pos h5]
          cases pB t.2.1 with
          | false => exact ⟨nofun, nofun, nofun⟩
          | true => exact ⟨nofun, nofun, nofun⟩
        · rw [if_neg h5]
          exact ⟨nofun, nofun, nofun⟩
structure LEAF (w0 : World) (b : Nat) (pt : Option Addr) (ct : Nat) (L : List XTok) (nB : List UInt8 → Bool) (LT : List Tk) : Prop where
  of : ∀ (W : World) (i o m : Nat) (out : List Nd), ST w0 b pt ct L W i o m out → Calls Tryz.prog 56 #[.pointer (some ⟨b, 0, none⟩), .int .i64 2] W fun e W' => e = .returned (.bool (nmB nB (tokAt L i))) ∧ Below W.heap.size W W'
  lf : ∀ (W : World) (i o m : Nat) (out : List Nd), ST w0 b pt ct L W i o m out → out.length ≤ m ∧ m ≤ 64 → nmB nB (tokAt L i) = true → Calls Tryz.prog 57 #[.pointer (some ⟨b, 0, none⟩)] W (RT w0 b pt ct L o (lfV LT i m out))
theorem RT.int {r : PR} {e : Ending} {W' : World} (h : RT w0 b pt ct L o r e W') : ∃ z, e = .returned (.int .i64 z) := by
  cases r with
  | error p => exact ⟨_, h.1⟩
  | ok q => exact ⟨_, h.1⟩
set_option maxRecDepth 100000 in
set_option maxHeartbeats 8000000 in
theorem factor_any (n : Nat) (hX : XR w0 pt L) (hb : w0.heap.size ≤ b) (hlen : L.length ≤ 100000) (ho : o ≤ 32) (HL : LEAF w0 b pt ct L nB (L.map (cl nB nV pB)))
    (H4 : o ≠ 32 → HPk w0 b pt ct L (L.map (cl nB nV pB)) (o + 1) 4 37 n) (H0 : o ≠ 32 → HPk w0 b pt ct L (L.map (cl nB nV pB)) (o + 1) 0 11 n)
    {r : PR} (h : ST w0 b pt ct L W i o m out) (hok : out.length ≤ m ∧ m ≤ 64) (hp : pX (L.map (cl nB nV pB)) (n + 1) 4 o i m out = some r) :
    Calls Tryz.prog 37 #[.pointer (some ⟨b, 0, none⟩)] W (RT w0 b pt ct L o r) := by
  have HLN : Hid ((L.map (cl nB nV pB)).length = L.length) := List.length_map ..
  have T33 : isS (tokAt L i) [33] = true ↔ tk (L.map (cl nB nV pB)) i = .bang := by rw [tk_cl]; exact is_bang _
  have T40 : isS (tokAt L i) [40] = true ↔ tk (L.map (cl nB nV pB)) i = .opn := by rw [tk_cl]; exact is_opn _
  have HA := isAt_any [33] hX hlen h
  rw [pX] at hp
  by_cases h33 : isS (tokAt L i) [33] = true
  · have htk := T33.1 h33
    rw [htk] at hp
    simp only at hp
    have hil : i < L.length := by
      have := tk_in htk (by intro h; cases h)
      rw [HLN.out] at this
      exact this
    obtain ⟨rb, hrb, hr⟩ : ∃ rb : PR, (o ≠ 32 → m ≠ 64 → pX (L.map (cl nB nV pB)) n 4 (o + 1) (i + 1) (m + 1) out = some rb) ∧ r = opR o i (mkR 4 i m rb) := by
      by_cases h32 : o = 32
      · rw [if_pos h32] at hp
        exact ⟨.error (0, 0), fun h => absurd h32 h, by unfold opR; rw [if_pos h32]; exact (Option.some.inj hp).symm⟩
      · rw [if_neg h32] at hp
        by_cases h64 : m = 64
        · rw [if_pos h64] at hp
          exact ⟨.error (0, 0), fun _ h => absurd h64 h, by unfold opR mkR; rw [if_neg h32, if_pos h64]; exact (Option.some.inj hp).symm⟩
        · rw [if_neg h64] at hp
          cases hq : pX (L.map (cl nB nV pB)) n 4 (o + 1) (i + 1) (m + 1) out with
          | none => rw [hq] at hp; cases hp
          | some rb =>
            rw [hq] at hp
            refine ⟨rb, fun _ _ => rfl, ?_⟩
            unfold opR mkR
            rw [if_neg h32, if_neg h64]
            cases rb with
            | error p => exact (Option.some.inj hp).symm
            | ok q => exact (Option.some.inj hp).symm
    have HO : Hid (∀ W', ST w0 b pt ct L W' i o m out → Calls Tryz.prog 53 #[.pointer (some ⟨b, 0, none⟩), .func (.func 54) #[.pointer (some ⟨b, 0, none⟩)] #[]] W' (RT w0 b pt ct L o (opR o i (mkR 4 i m rb)))) := fun W' hW' => opened_D (mkR 4 i m rb) hW' hb ho (fun h32 W2 h2 => by
      have hq : ∀ h64 : m ≠ 64, _ := fun h64 => hrb h32 h64
      have hd := denied_any (o := o + 1) (if m = 64 then .error (0, 0) else rb) h2 hb hil hlen hok (fun h64 W3 h3 => by rw [if_neg h64]; exact H4 h32 W3 (i + 1) (m + 1) out rb h3 ⟨by omega, by omega⟩ (hq h64)) (fun q e => by
        by_cases h64 : m = 64
        · rw [if_pos h64] at e; cases e
        · rw [if_neg h64] at e
          have h1 := hq h64
          rw [e] at h1
          obtain ⟨i1, m1, o1⟩ := q
          have hl := pX_len _ n 4 _ _ _ _ _ _ _ h1
          simp only
          exact ⟨hl.1, hl.2.1 (by omega)⟩)
      have e9 : mkR 4 i m (if m = 64 then .error (0, 0) else rb) = mkR 4 i m rb := by
        by_cases h64 : m = 64
        · unfold mkR; rw [if_pos h64, if_pos h64]
        · rw [if_neg h64]
      rw [e9] at hd
      exact hd)
    subst hr
    rw [h33] at HA
    have HS : Hid (ST w0 b pt ct L W i o m out) := h
    clear h hok hp htk hil hrb H4 H0 HL T33 T40 h33 hX hb hlen
    go_enter Tryz.func37, Tryz.ntmps37
    go_wp2_with fail
    refine HA.mono ?_
    rintro e W1 ⟨rfl, b1⟩
    have HO1 := HO.out W1 (HS.out.below b1)
    clear HA b1
    go_wp2_with fail
    refine HO1.mono ?_
    intro e W2 he
    obtain ⟨z, rfl⟩ := he.int
    have HE := hideL he
    clear he HO1
    go_wp2_with fail
    go_ret
    exact HE.out
  · have h33' : isS (tokAt L i) [33] = false := by simpa using h33
    have n33 : tk (L.map (cl nB nV pB)) i ≠ .bang := fun h => h33 (T33.2 h)
    rw [h33'] at HA
    by_cases h40 : isS (tokAt L i) [40] = true
    · have htk := T40.1 h40
      rw [htk] at hp
      simp only at hp
      have hil : i < L.length := by
        have := tk_in htk (by intro h; cases h)
        rw [HLN.out] at this
        exact this
      obtain ⟨re, hre, hr⟩ : ∃ re : PR, (o ≠ 32 → pX (L.map (cl nB nV pB)) n 0 (o + 1) (i + 1) m out = some re) ∧ r = opR o i (enR (L.map (cl nB nV pB)) re) := by
        by_cases h32 : o = 32
        · rw [if_pos h32] at hp
          exact ⟨.error (0, 0), fun h => absurd h32 h, by unfold opR; rw [if_pos h32]; exact (Option.some.inj hp).symm⟩
        · rw [if_neg h32] at hp
          cases hq : pX (L.map (cl nB nV pB)) n 0 (o + 1) (i + 1) m out with
          | none => rw [hq] at hp; cases hp
          | some re =>
            rw [hq] at hp
            refine ⟨re, fun _ => rfl, ?_⟩
            unfold opR enR
            rw [if_neg h32]
            cases re with
            | error p => exact (Option.some.inj hp).symm
            | ok q =>
              simp only at hp ⊢
              split at hp
              · rename_i h9; rw [h9]; exact (Option.some.inj hp).symm
              · rename_i h9
                rw [(Option.some.inj hp).symm]
                split
                · rename_i h8; exact absurd h8 h9
                · rfl
      have HO : Hid (∀ W', ST w0 b pt ct L W' i o m out → Calls Tryz.prog 53 #[.pointer (some ⟨b, 0, none⟩), .func (.func 55) #[.pointer (some ⟨b, 0, none⟩)] #[]] W' (RT w0 b pt ct L o (opR o i (enR (L.map (cl nB nV pB)) re)))) := fun W' hW' => opened_E _ hW' hb ho (fun h32 W2 h2 => enclosed_any re hX h2 hb hil hlen (fun W3 h3 => H0 h32 W3 (i + 1) m out re h3 hok (hre h32)))
      subst hr
      have HA2 : Hid (∀ W', ST w0 b pt ct L W' i o m out → Calls Tryz.prog 35 #[.pointer (some ⟨b, 0, none⟩), .string ⟨#[40]⟩] W' fun e W2 => e = .returned (.bool true) ∧ Below W'.heap.size W' W2) := fun W' hW' => by
        have := isAt_any [40] hX hlen hW'
        rw [h40] at this
        exact this
      have HS : Hid (ST w0 b pt ct L W i o m out) := h
      clear h hok hp htk hil hre H4 H0 HL T33 T40 h33 h33' h40 n33 hX hb hlen
      go_enter Tryz.func37, Tryz.ntmps37
      go_wp2_with fail
      refine HA.mono ?_
      rintro e W1 ⟨rfl, b1⟩
      have hs1 := HS.out.below b1
      have HA3 := HA2.out W1 hs1
      have HS1 := hideL hs1
      clear HA b1 hs1
      go_wp2_with fail
      refine HA3.mono ?_
      rintro e W2 ⟨rfl, b2⟩
      have HO1 := HO.out W2 (HS1.out.below b2)
      clear HA3 b2
      go_wp2_with fail
      refine HO1.mono ?_
      intro e W3 he
      obtain ⟨z, rfl⟩ := he.int
      have HE := hideL he
      clear he HO1
      go_wp2_with fail
      go_ret
      exact HE.out
    · have h40' : isS (tokAt L i) [40] = false := by simpa using h40
      have n40 : tk (L.map (cl nB nV pB)) i ≠ .opn := fun h => h40 (T40.2 h)
      have hr : r = lfV (L.map (cl nB nV pB)) i m out := by
        split at hp
        · rename_i h9; exact absurd h9 n33
        · rename_i h9; exact absurd h9 n40
        · exact (Option.some.inj hp).symm
      subst hr
      have HA2 : Hid (∀ W', ST w0 b pt ct L W' i o m out → Calls Tryz.prog 35 #[.pointer (some ⟨b, 0, none⟩), .string ⟨#[40]⟩] W' fun e W2 => e = .returned (.bool false) ∧ Below W'.heap.size W' W2) := fun W' hW' => by
        have := isAt_any [40] hX hlen hW'
        rw [h40'] at this
        exact this
      have HS : Hid (ST w0 b pt ct L W i o m out) := h
      have HLF : Hid (∀ W', ST w0 b pt ct L W' i o m out → nmB nB (tokAt L i) = true → Calls Tryz.prog 57 #[.pointer (some ⟨b, 0, none⟩)] W' (RT w0 b pt ct L o (lfV (L.map (cl nB nV pB)) i m out))) := fun W' hW' hn => HL.lf W' i o m out hW' hok hn
      have HOF : Hid (∀ W', ST w0 b pt ct L W' i o m out → Calls Tryz.prog 56 #[.pointer (some ⟨b, 0, none⟩), .int .i64 2] W' fun e W2 => e = .returned (.bool (nmB nB (tokAt L i))) ∧ Below W'.heap.size W' W2) := fun W' hW' => HL.of W' i o m out hW'
      have HNO : Hid (nmB nB (tokAt L i) = false → lfV (L.map (cl nB nV pB)) i m out = .error (50, i)) := fun hn => by
        obtain ⟨a1, a2, a3⟩ := cl_nm (nV := nV) (pB := pB) hn
        unfold lfV
        rw [tk_cl]
        split
        · rename_i h9; exact absurd h9 a1
        · rename_i h9; exact absurd h9 a2
        · rename_i h9; exact absurd h9 (a3 _)
        · rfl
      clear h hok hp H4 H0 HL T33 T40 h33 h33' h40 h40' n33 n40 hX hb hlen
      go_enter Tryz.func37, Tryz.ntmps37
      go_wp2_with fail
      refine HA.mono ?_
      rintro e W1 ⟨rfl, b1⟩
      have hs1 := HS.out.below b1
      have HA3 := HA2.out W1 hs1
      have HS1 := hideL hs1
      clear HA b1 hs1
      go_wp2_with fail
      refine HA3.mono ?_
      rintro e W2 ⟨rfl, b2⟩
      have hs2 := HS1.out.below b2
      have HO1 := HOF.out W2 hs2
      have HS2 := hideL hs2
      clear HA3 b2 hs2
      cases hnm : nmB nB (tokAt L i) with
      | true =>
        rw [hnm] at HO1
        go_wp2_with fail
        refine HO1.mono ?_
        rintro e W3 ⟨rfl, b3⟩
        have HL1 := HLF.out W3 (HS2.out.below b3) hnm
        clear HO1 b3 hnm
        go_wp2_with fail
        refine HL1.mono ?_
        intro e W4 he
        obtain ⟨z, rfl⟩ := he.int
        have HE := hideL he
        clear he HL1
        go_wp2_with fail
        go_ret
        exact HE.out
      | false =>
        rw [hnm] at HO1
        have HE := hideL (HNO.out hnm)
        clear hnm
        go_wp2_with fail
        refine HO1.mono ?_
        rintro e W3 ⟨rfl, b3⟩
        have HF : Hid (ST w0 b pt ct L W3 i o m out) := HS2.out.below b3
        clear HO1 b3
        go_wp2_with fail
        go_ret
        rw [HE.out]
        exact ⟨rfl, (by show (50 : Nat) ≠ 0; decide), m, out, HF.out⟩
end Go.Proofs.YtffgkjmfeannoaaGreatDoor.Ex
namespace Go.Proofs.YtffgkjmfeannoaaGreatDoor.Ex
open Go.RowKit
variable {nB : List UInt8 → Bool} {nV : List UInt8 → Option Int} {pB : List UInt8 → Bool}
variable {w0 W X : World} {b : Nat} {pt : Option Addr} {ct : Nat} {L : List XTok} {i o m : Nat} {out : List Nd}
set_option maxRecDepth 100000 in
theorem chain_of {r : PR} (HJ : Calls Tryz.prog 18 #[.pointer (some ⟨b, 0, none⟩), .string ⟨#[38]⟩, .int .i64 5, .func (.func 37) #[.pointer (some ⟨b, 0, none⟩)] #[]] W (RT w0 b pt ct L o r)) :
    Calls Tryz.prog 19 #[.pointer (some ⟨b, 0, none⟩)] W (RT w0 b pt ct L o r) := by
  go_enter Tryz.func19, Tryz.ntmps19
  go_wp2_with fail
  refine HJ.mono ?_
  intro e W4 he
  obtain ⟨z, rfl⟩ := he.int
  have HE := hideL he
  clear he HJ
  go_wp2_with fail
  go_ret
  exact HE.out
set_option maxRecDepth 100000 in
theorem expression_of {r : PR} (HJ : Calls Tryz.prog 18 #[.pointer (some ⟨b, 0, none⟩), .string ⟨#[124]⟩, .int .i64 6, .func (.func 19) #[.pointer (some ⟨b, 0, none⟩)] #[]] W (RT w0 b pt ct L o r)) :
    Calls Tryz.prog 11 #[.pointer (some ⟨b, 0, none⟩)] W (RT w0 b pt ct L o r) := by
  go_enter Tryz.func11, Tryz.ntmps11
  go_wp2_with fail
  refine HJ.mono ?_
  intro e W4 he
  obtain ⟨z, rfl⟩ := he.int
  have HE := hideL he
  clear he HJ
  go_wp2_with fail
  go_ret
  exact HE.out
theorem gram_any (hX : XR w0 pt L) (hb : w0.heap.size ≤ b) (hlen : L.length ≤ 100000) (HL : LEAF w0 b pt ct L nB (L.map (cl nB nV pB))) :
    ∀ n k, k ≤ n → ∀ o, o ≤ 32 → HPk w0 b pt ct L (L.map (cl nB nV pB)) o 4 37 k ∧ HPk w0 b pt ct L (L.map (cl nB nV pB)) o 2 19 k ∧ HPk w0 b pt ct L (L.map (cl nB nV pB)) o 0 11 k
  | 0, k, hk, o, _ => by
    obtain rfl : k = 0 := by omega
    refine ⟨?_, ?_, ?_⟩ <;> (intro W i m out r _ _ hp; rw [pX] at hp; cases hp)
  | n + 1, k, hk, o, ho => by
    have ih := gram_any hX hb hlen HL n
    by_cases hkn : k ≤ n
    · exact ih k hkn o ho
    · obtain rfl : k = n + 1 := by omega
      refine ⟨fun W i m out r h hok hp => ?_, fun W i m out r h hok hp => ?_, fun W i m out r h hok hp => ?_⟩
      · exact factor_any n hX hb hlen ho HL (fun h32 => (ih n (Nat.le_refl _) (o + 1) (by omega)).1) (fun h32 => (ih n (Nat.le_refl _) (o + 1) (by omega)).2.2) h hok hp
      · exact chain_of (joined_F n hX hb hlen (fun k hk => (ih k hk o ho).1) h hok hp)
      · exact expression_of (joined_C n hX hb hlen (fun k hk => (ih k hk o ho).2.1) h hok hp)
def rdX (LT : List Tk) (i : Nat) : PR := (pX LT (need 0 (LT.length - i)) 0 0 i 0 []).getD (.error (0, 0))
theorem rdX_some (LT : List Tk) (i : Nat) : pX LT (need 0 (LT.length - i)) 0 0 i 0 [] = some (rdX LT i) := by
  obtain ⟨r, hr⟩ := pX_some LT (need 0 (LT.length - i)) 0 0 i 0 [] (Nat.le_refl _)
  unfold rdX
  rw [hr]
  rfl
theorem expression_any (hX : XR w0 pt L) (hb : w0.heap.size ≤ b) (hlen : L.length ≤ 100000) (HL : LEAF w0 b pt ct L nB (L.map (cl nB nV pB))) (h : ST w0 b pt ct L W i 0 0 []) :
    Calls Tryz.prog 11 #[.pointer (some ⟨b, 0, none⟩)] W (RT w0 b pt ct L 0 (rdX (L.map (cl nB nV pB)) i)) :=
  (gram_any hX hb hlen HL _ _ (Nat.le_refl _) 0 (by omega)).2.2 W i 0 [] _ h ⟨by simp, by omega⟩ (rdX_some _ _)
end Go.Proofs.YtffgkjmfeannoaaGreatDoor.Ex
namespace Go.Proofs.YtffgkjmfeannoaaGreatDoor.Ex
open Go.RowKit
variable {nB : List UInt8 → Bool} {nV : List UInt8 → Option Int} {pB : List UInt8 → Bool}
def RDN (L : List XTok) (LT : List Tk) (f : Int) (w : World) (e : Ending) (w' : World) : Prop :=
  (((f < 0 ∨ (L.length : Int) < f) ∧ e = .returned (.tuple #[.slice none 0 0, .int .i64 0, .int .i64 1])) ∨
    (∃ i : Nat, f = (i : Int) ∧ i ≤ L.length ∧ match rdX LT i with
      | .error p => e = .returned (.tuple #[.slice none 0 0, .int .i64 (p.2 : Int), .int .i64 (p.1 : Int)]) ∧ p.1 ≠ 0
      | .ok q => ∃ v, e = .returned (.tuple #[v, .int .i64 (q.1 : Int), .int .i64 0]) ∧ OWN w' w.heap.size v q.2.2)) ∧ Below w.heap.size w w'
theorem res_rd (tmps : Array Value) (W : World) (x y z : Value) (h : tmps[4]?.getD undef = x ∧ tmps[5]?.getD undef = y ∧ tmps[6]?.getD undef = z) : (results Tryz.f5 tmps).run Tryz.prog W = .ok (.tuple #[x, y, z]) W := by
  simp [results, h.1, h.2.1, h.2.2, go_sem]
set_option maxRecDepth 100000 in
set_option maxHeartbeats 8000000 in
theorem xread_any (L : List XTok) (p : Option Addr) (n c : Nat) (f : Int) (w : World) (hn : L.length = n) (hlen : n ≤ 100000) (hX : XR w p L)
    (HL : ∀ b, w.heap.size ≤ b → LEAF w b p c L nB (L.map (cl nB nV pB))) :
    Calls Tryz.prog 5 #[.slice p n c, .int .i64 f] w (RDN L (L.map (cl nB nV pB)) f w) := by
  subst hn
  by_cases hf : f < 0 ∨ (L.length : Int) < f
  · have HE : Hid (RDN L (L.map (cl nB nV pB)) f w (.returned (.tuple #[.slice none 0 0, .int .i64 0, .int .i64 1])) w) := ⟨.inl ⟨hf, rfl⟩, Below.refl _ _⟩
    rcases Int.lt_or_le f 0 with h0 | h0
    · clear hf
      go_enter Tryz.func5, Tryz.ntmps5
      go_wp2_with fail
      refine bodyPost_ret (res_rd _ _ _ _ _ ⟨rfl, rfl, rfl⟩) rfl ?_
      exact HE.out
    · have h1 : ¬ f < 0 := by omega
      have h2 : (L.length : Int) < f := by omega
      clear hf h0
      go_enter Tryz.func5, Tryz.ntmps5
      go_wp2_with fail
      refine bodyPost_ret (res_rd _ _ _ _ _ ⟨rfl, rfl, rfl⟩) rfl ?_
      exact HE.out
  · obtain ⟨i, rfl⟩ : ∃ i : Nat, f = i := ⟨f.toNat, by omega⟩
    have h1 : ¬ (i : Int) < 0 := by omega
    have h2 : ¬ (L.length : Int) < (i : Int) := by omega
    have hst : ST w w.heap.size p c L (w.alloc (.cells #[.slice p L.length c, .int .i64 (i : Int), .int .i64 0, .int .i64 0, .slice none 0 0] 39 (0, 0))) i 0 0 [] :=
      ⟨⟨.slice none 0 0, alloc_getZ _ _, World.ownsRow_nil _ _ _ _⟩, belAZ (Below.refl _ _) _, by omega⟩
    have HXE := expression_any hX (Nat.le_refl _) hlen (HL _ (Nat.le_refl _)) hst
    obtain ⟨r, hr⟩ : ∃ r, rdX (L.map (cl nB nV pB)) i = r := ⟨_, rfl⟩
    have HFIN : Hid (∀ e w', Below w.heap.size w w' → (match r with
      | .error p => e = .returned (.tuple #[.slice none 0 0, .int .i64 (p.2 : Int), .int .i64 (p.1 : Int)]) ∧ p.1 ≠ 0
      | .ok q => ∃ v, e = .returned (.tuple #[v, .int .i64 (q.1 : Int), .int .i64 0]) ∧ OWN w' w.heap.size v q.2.2) → RDN L (L.map (cl nB nV pB)) (i : Int) w e w') := fun e w' hbl hm => ⟨.inr ⟨i, rfl, by omega, by rw [hr]; exact hm⟩, hbl⟩
    rw [hr] at HXE
    clear hf hst HL hX hr
    cases r with
    | error q =>
      obtain ⟨en, ep⟩ := q
      go_enter Tryz.func5, Tryz.ntmps5
      go_wp2_with fail
      refine HXE.mono ?_
      rintro e W2 ⟨rfl, hn0, m2, out2, hs2⟩
      have y1 : ((en : Int) == 0) = false := beq_eq_false_iff_ne.2 (by simp only at hn0; omega)
      have y2 : ((en : Int) != 0) = true := by simp only [bne, y1]; rfl
      have k1 : W2.cell? ⟨w.heap.size, 1, none⟩ = some (.int .i64 (ep : Int)) := hs2.cells.2.1
      have HB : Hid (Below w.heap.size w W2 ∧ en ≠ 0) := ⟨hs2.2.1, hn0⟩
      clear hs2 hn0 HXE
      go_wp2_with fail
      go_quiet (fail)
      go_wp2_with fail
      refine bodyPost_ret (res_rd _ _ _ _ _ ⟨rfl, rfl, rfl⟩) rfl ?_
      exact HFIN.out _ _ (bel_drewZ nq HB.out.1) ⟨rfl, HB.out.2⟩
    | ok q =>
      obtain ⟨i2, m2, out2⟩ := q
      go_enter Tryz.func5, Tryz.ntmps5
      go_wp2_with fail
      refine HXE.mono ?_
      rintro e W2 ⟨rfl, hs2⟩
      simp only at hs2
      obtain ⟨⟨vn, a1, a2⟩, a3, a4⟩ := hs2
      have k1 : W2.cell? ⟨w.heap.size, 1, none⟩ = some (.int .i64 (i2 : Int)) := by rw [(cellsZ a1).1]; rfl
      have k4 : W2.cell? ⟨w.heap.size, 4, none⟩ = some vn := by rw [(cellsZ a1).1]; rfl
      have HB : Hid (Below w.heap.size w W2 ∧ OWN W2 w.heap.size vn out2) := ⟨a3, a2⟩
      obtain ⟨pv, cv, rfl⟩ := shapeZ a2
      clear a1 a2 a3 a4 HXE
      go_wp2_with fail
      go_quiet (fail)
      go_wp2_with fail
      refine bodyPost_ret (res_rd _ _ _ _ _ ⟨rfl, rfl, rfl⟩) rfl ?_
      exact HFIN.out _ _ (bel_drewZ nq HB.out.1) ⟨_, rfl, HB.out.2.below (bel_drewZ nq (Below.refl _ _))⟩
end Go.Proofs.YtffgkjmfeannoaaGreatDoor.Ex
