import Derived.Test.YtepokgainceidaaGreatDoorYAF
import Derived.Test.YtepokgainceidaaGreatDoorYAU
import Derived.Lib.LazyBuf
import Derived.Test.YtepokgainceidaaGreatDoorYAM
import Derived.Test.YtepokgainceidaaGreatDoorYAA
import Derived.Lib.OthersKept
namespace Go.Proofs.YtepokgainceidaaGreatDoor
open Go.RowKit Go.Shelf
set_option maxRecDepth 100000 in
set_option maxHeartbeats 1000000 in
theorem same_any (L : List (List UInt8)) (B1 B2 : Nat) (va vb : Value) (w : World) (hL : L.length ≤ 4294967296) (ha : w.ownsRow B1 9 1 va L.length (stx L)) (hb : w.ownsRow B2 9 1 vb L.length (stx L)) :
    Calls Tryz.prog 12 #[va, vb] w fun x w' => x = .returned (.bool true) ∧ Below w.heap.size w w' := by
  have HA : Hid (w.ownsRow B1 9 1 va L.length (stx L)) := ha
  have HB : Hid (w.ownsRow B2 9 1 vb L.length (stx L)) := hb
  obtain ⟨qa, ca, rfl⟩ := shapeP ha
  obtain ⟨qb, cb, rfl⟩ := shapeP hb
  clear ha hb
  go_enter Tryz.func12, Tryz.ntmps12
  go_wp2_with fail
  go_loopw [5] (fun vi wr => ∃ i : Nat, vi = .int .i64 i ∧ i ≤ L.length ∧ Below w.heap.size w wr) (fun vi _ => L.length - (intOf vi).toNat)
  case atStart => exact ⟨0, rfl, Nat.zero_le _, Below.refl _ _⟩
  case round =>
    obtain ⟨i, rfl, hi, hW⟩ := hrel
    by_cases hlt : i < L.length
    · have q1 : (i : Int) < (L.length : Int) := by omega
      have q0 : (0 : Int) ≤ (i : Int) := by omega
      have hA := owns_below HA.out hW
      have hB := owns_below HB.out hW
      obtain ⟨ga, ca2, hfa⟩ := own_form hA (by omega)
      obtain ⟨gb, cb2, hfb⟩ := own_form hB (by omega)
      injection hfa with x1 x2 x3
      injection hfb with y1 y2 y3
      subst x1 x3 y1 y3
      have hx := hA.cells rfl i _ (stx_get L i hlt)
      have hy := hB.cells rfl i _ (stx_get L i hlt)
      rw [add0] at hx hy
      obtain ⟨t, ht⟩ : ∃ t, L[i] = t := ⟨_, rfl⟩
      rw [ht] at hx hy
      clear ht HA HB hA hB
      go_wp2_with fail
      go_quiet (fail)
      go_wp2_with fail
      go_roundw
      case rel => exact ⟨i + 1, by go_num, by omega, bel_drewN _ hW⟩
      case measure => simp [intOf]; omega
    · have q1 : ¬ (i : Int) < (L.length : Int) := by omega
      clear HA HB
      go_wp2_with fail
      go_ret
      exact ⟨rfl, hW⟩
theorem cov_439 : covE 4 3 9 = 0 ∧ covL 4 3 9 = [[48, 48, 49, 49], [48, 49, 120, 120], [49, 48, 48, 120]] := by
  have hE : covE 4 3 9 = 0 := by decide
  refine ⟨hE, ?_⟩
  have f1 : fre 3 9 = 0 := by decide
  have f2 : fre 4 9 = 2 := by decide
  have f3 : fre 8 9 = 1 := by decide
  have h : cov 4 3 9 = [[48, 48, 49, 49], [48, 49, 120, 120], [49, 48, 48, 120]] := by
    rw [cov_le (by decide), f1, show 3 + 2 ^ 0 = 4 by decide, cov_le (by decide), f2, show 4 + 2 ^ 2 = 8 by decide, cov_le (by decide), f3, show 8 + 2 ^ 1 = 10 by decide, cov_end (by decide)]
    decide
  unfold covL
  rw [if_pos hE]
  exact h
set_option maxRecDepth 100000 in
set_option maxHeartbeats 1000000 in
theorem known_any (w : World) (hdb : DB w) : Calls Tryz.prog 14 #[] w fun e w' => e = .returned (.bool true) ∧ Below w.heap.size w w' := by
  have HC := cover_any 4 3 9 w hdb
  obtain ⟨hE, hL⟩ := cov_439
  have HN := fun W => num_any 0 W
  have HS := fun va vb W (h1 : W.ownsRow w.heap.size 9 1 va 3 (stx [[48, 48, 49, 49], [48, 49, 120, 120], [49, 48, 48, 120]])) (h2 : W.ownsRow w.heap.size 9 1 vb 3 (stx [[48, 48, 49, 49], [48, 49, 120, 120], [49, 48, 48, 120]])) => same_any [[48, 48, 49, 49], [48, 49, 120, 120], [49, 48, 48, 120]] w.heap.size w.heap.size va vb W (by decide) h1 h2
  have HS2 : Hid (∀ va vb W, W.ownsRow w.heap.size 9 1 va 3 (stx [[48, 48, 49, 49], [48, 49, 120, 120], [49, 48, 48, 120]]) → W.ownsRow w.heap.size 9 1 vb 3 (stx [[48, 48, 49, 49], [48, 49, 120, 120], [49, 48, 48, 120]]) → Calls Tryz.prog 12 #[va, vb] W fun x w' => x = .returned (.bool true) ∧ Below W.heap.size W w') := HS
  have HE : Hid (covE 4 3 9 = 0) := hE
  have HL : Hid (covL 4 3 9 = [[48, 48, 49, 49], [48, 49, 120, 120], [49, 48, 48, 120]]) := hL
  clear hdb HS hE hL
  go_enter Tryz.func14, Tryz.ntmps14
  go_wp2_with fail
  refine HC.mono ?_
  rintro e w1 ⟨v1, rfl, ho1, hb1⟩
  rw [HL.out] at ho1
  rw [HE.out]
  have ho1' : w1.ownsRow w.heap.size 9 1 v1 3 (stx [[48, 48, 49, 49], [48, 49, 120, 120], [49, 48, 48, 120]]) := ho1
  have HO : Hid (w1.ownsRow w.heap.size 9 1 v1 3 (stx [[48, 48, 49, 49], [48, 49, 120, 120], [49, 48, 48, 120]])) := ho1'
  clear ho1 ho1'
  go_wp2_with fail
  refine (HN _).mono ?_
  rintro e w2 ⟨rfl, rfl⟩
  go_wp2_with fail
  refine (HS2.out _ _ _ (HO.out.alloc _) (World.ownsRow_lit (base := w.heap.size) (e := 9) (size := 1) _ #[.string ⟨#[48, 48, 49, 49]⟩, .string ⟨#[48, 49, 120, 120]⟩, .string ⟨#[49, 48, 48, 120]⟩] 3 hb1.size (by unfold maxLen; omega) rfl)).mono ?_
  rintro e w3 ⟨rfl, hb3⟩
  go_wp2_with fail
  go_ret
  exact ⟨rfl, bel0 (hb1.alloc hb1.size _) hb3⟩
def putL : List UInt8 → Nat → List UInt8 → List UInt8
  | h, _, [] => h
  | h, p, x :: D => putL (h.set p x) (p + 1) D
theorem putL_len : ∀ (D h : List UInt8) (p : Nat), (putL h p D).length = h.length
  | [], _, _ => rfl
  | x :: D, h, p => by rw [putL, putL_len D]; simp
theorem putL_mid : ∀ (D A B C : List UInt8), D.length = B.length → putL (A ++ (B ++ C)) A.length D = A ++ (D ++ C)
  | [], A, B, C, h => by
    obtain rfl : B = [] := List.length_eq_zero_iff.1 h.symm
    rfl
  | x :: D, A, [], C, h => by cases h
  | x :: D, A, y :: B, C, h => by
    rw [putL, List.set_append_right _ _ (Nat.le_refl _), Nat.sub_self]
    have e : A ++ (y :: B ++ C).set 0 x = (A ++ [x]) ++ (B ++ C) := by simp
    have := putL_mid D (A ++ [x]) B C (by simpa using h)
    rw [List.length_append] at this
    rw [e]
    simp only [List.length_cons, List.length_nil, Nat.zero_add] at this
    rw [this]
    simp
theorem hdr_put {gh : Nat} {z : List Value} : ∀ (D h : List UInt8) (p : Nat) (W : World), hdr W gh z h → p + D.length ≤ h.length → hdr (W.setCells gh p (bys D)) gh z (putL h p D)
  | [], h, p, W, hh, _ => hh
  | x :: D, h, p, W, hh, hp => by
    have hp' : p < h.length := by rw [List.length_cons] at hp; omega
    exact hdr_put D (h.set p x) (p + 1) _ (hdr_set x hh hp') (by rw [List.length_set]; rw [List.length_cons] at hp; omega)
theorem info_one : ∀ w : World, (Go.sizeOf 5).run Tryz.prog w = .ok 1 w := fun w => by
  obtain ⟨i0, hi, hz0, hz1, hz2⟩ := info_parts info_u8
  simp [Go.sizeOf, typeInfo, hi, hz1]
set_option maxRecDepth 100000 in
set_option maxHeartbeats 2000000 in
theorem blank_any (L : List IFld) (o : Option Addr) (c n : Nat) (w : World) (hn : sumB L = (n : Int)) (hn2 : n ≤ 256) (hL : L.length ≤ 4096) (hf : ∀ f ∈ L, 0 ≤ f.2 ∧ f.2 ≤ 32) (hr : IRF w o L) :
    Calls Tryz.prog 42 #[.slice o L.length c] w fun e w' => ∃ K z cp, e = .returned (.slice (some ⟨K, 0, none⟩) n cp) ∧ w.heap.size ≤ K ∧ n ≤ cp ∧ hdr w' K z (List.replicate n 120) ∧ Below w.heap.size w w' := by
  have HW := widthOf_any L o c w hL hf hr
  rw [hn] at HW
  have HR := fun W => repeat_any n hn2 W
  have hcv := fun W => Lib.run_convert_string_bytes (P := Tryz.prog) W 9 81 5 ⟨(List.replicate n 120).toArray⟩ Tryz.underlying9 Tryz.underlying81 Tryz.underlying5
  obtain ⟨T, hT⟩ : ∃ T : List UInt8, List.replicate n 120 = T := ⟨_, rfl⟩
  have hTl : T.length = n := by rw [← hT]; simp
  rw [hT] at hcv ⊢
  simp only [hT] at HR
  clear hT hr hf
  go_enter Tryz.func42, Tryz.ntmps42
  go_wp2_with fail
  refine HW.mono ?_
  rintro e w0 ⟨rfl, hb0⟩
  go_wp2_with fail
  refine (HR _).mono ?_
  rintro e w1 ⟨rfl, hb1'⟩
  have hB1 := bel0 hb0 hb1'
  have hN := hdr_new w1 T
  have B2 := bel0 hB1 (bel_bytes w1 ⟨T.toArray⟩)
  have hzw : w.heap.size ≤ w1.heap.size := hB1.size
  have hsz : (⟨T.toArray⟩ : ByteArray).size = T.length := by show T.toArray.size = _; simp
  have hge := grownCap_ge w1 T.length 0 5
  have hcv1 := hcv w1
  rw [hsz] at hcv1
  obtain ⟨cp, hcp⟩ : ∃ c, grownCap w1 T.length 0 5 = c := ⟨_, rfl⟩
  rw [hcp] at hcv1 hge hN
  obtain ⟨W2, hW2⟩ : ∃ W2, Lib.bytesWorld w1 5 ⟨T.toArray⟩ = W2 := ⟨_, rfl⟩
  rw [hW2] at hcv1 hN B2
  rw [hTl] at hcv1 hge
  clear hcv hcp hW2 hsz hb1' HR hb0 HW
  go_wp2_with fail
  go_ret
  exact ⟨w1.heap.size, _, cp, rfl, hzw, hge, hN, B2⟩
set_option maxRecDepth 100000 in
set_option maxHeartbeats 2000000 in
theorem lay_any (L : List IFld) (g o0 c i : Nat) (K cp : Nat) (z : List Value) (T D : List UInt8) (n p B : Nat) (w : World) (hT : T.length = n) (hcp : n ≤ cp) (hp : sumB (L.take i) = (p : Int)) (hpd : p + D.length ≤ n) (hD : 0 < D.length) (hi : i ≤ L.length) (hc : L.length ≤ c) (hL : L.length ≤ 4096) (hf : ∀ f ∈ L, 0 ≤ f.2 ∧ f.2 ≤ 32) (hr : IRF w (some ⟨g, o0, none⟩) L) (hh : hdr w K z T) (hBK : B ≤ K) (hBw : B ≤ w.heap.size) :
    Calls Tryz.prog 43 #[.slice (some ⟨K, 0, none⟩) n cp, .slice (some ⟨g, o0, none⟩) L.length c, .int .i64 (i : Int), .string ⟨D.toArray⟩] w fun e w' => (∃ v, e = .returned v) ∧ hdr w' K z (putL T p D) ∧ Below B w w' := by
  have htl : (L.take i).length = i := by rw [List.length_take]; omega
  have HW := widthOf_any (L.take i) (some ⟨g, o0, none⟩) c w (by omega) (fun f hf' => hf f (List.mem_of_mem_take hf')) (hr.take i)
  rw [hp, htl] at HW
  have j0 : (0 : Int) ≤ (i : Int) := by omega
  have j1 : (i : Int) ≤ (c : Int) := by omega
  have j2 : (0 : Int) ≤ (p : Int) := by omega
  have j3 : (p : Int) ≤ (n : Int) := by omega
  have j4 : (n : Int) ≤ (cp : Int) := by omega
  have j5 : ¬ cp = p := by omega
  have j6 : ¬ (cp : Int) = (p : Int) := by omega
  have j7 : ¬ cp - p = 0 := by omega
  have HT : Hid (T.length = n) := hT
  have HPD : Hid (p + D.length ≤ n) := hpd
  have HC : Hid (∀ W : World, hdr W K z T → (Builtin.copy_ #[81, 9] 3 #[.slice (some ⟨K, p, none⟩) (n - p) (cp - p), .string ⟨D.toArray⟩]).run Tryz.prog W = .ok (goInt D.length) (W.setCells K p (bys D))) := fun W hW => by
    have hsz : (⟨D.toArray⟩ : ByteArray).size = D.length := by show D.toArray.size = _; simp
    have := run_copy_string (P := Tryz.prog) W 81 9 3 5 K p (n - p) (cp - p) ⟨D.toArray⟩ Tryz.underlying81 info_one (by rw [hsz]; omega) (fun j hj => by
      rw [hsz] at hj
      rw [hdr_cell hW (j := p + j) (by omega)]
      rfl) (fun j hj => by
      rw [hsz] at hj
      exact hdr_frozen hW (j := p + j) (by omega))
    rw [hsz] at this
    exact this
  have HH : Hid (hdr w K z T) := hh
  clear hT hpd hr hf hh htl hp
  go_enter Tryz.func43, Tryz.ntmps43
  go_wp2_with fail
  refine HW.mono ?_
  rintro e W1 ⟨rfl, hb1⟩
  have hh1 : hdr W1 K z T := keepblk hb1 HH.out
  have hcp1 := HC.out W1 hh1
  have hput := hdr_put D T p W1 hh1 (by rw [HT.out]; exact HPD.out)
  have hB1 : Below B w W1 := hb1.mono hBw
  have hB2 : Below B w (W1.setCells K p (bys D)) := below_setCells hBK (bys D) p W1 hB1
  clear HW HC
  go_wp2_with fail
  refine bodyPost_end (v := .tuple #[]) (results_none rfl _ _ _) rfl ?_
  exact ⟨⟨_, rfl⟩, hput, hB2⟩
def IRV (w : World) (o : Option Addr) (V : List Int) : Prop := ∀ W : World, Below w.heap.size w W → ∀ (k : Nat) (v : Int), V[k]? = some v → ∃ g o0, o = some ⟨g, o0, none⟩ ∧ W.cell? ⟨g, o0 + k, none⟩ = some (.int .i64 v)
theorem IRV.later {w w' : World} {o : Option Addr} {V : List Int} (h : IRV w o V) (hb : Below w.heap.size w w') : IRV w' o V := fun W hW => h W (bel0 hb hW)
theorem chkL_ok : ∀ (rest seen : List IFld), (chkL seen rest).1 = 0 → (∀ f ∈ rest, 1 ≤ f.2 ∧ f.2 ≤ 32) ∧ (rest ≠ [] → sumB (seen ++ rest) ≤ 256)
  | [], seen, _ => ⟨fun f hf => (List.not_mem_nil hf).elim, fun h => absurd rfl h⟩
  | f :: r, seen, h => by
    rw [chkL] at h
    cases hb : badF seen f with
    | true => rw [hb, if_pos rfl] at h; cases h
    | false =>
      rw [hb, if_neg (by decide)] at h
      obtain ⟨h1, h2⟩ := chkL_ok r (seen ++ [f]) h
      unfold badF at hb
      simp only [Bool.or_eq_false_iff, Bool.not_eq_false'] at hb
      obtain ⟨b1, b2, b3, b4⟩ := hb
      have hs : 1 ≤ f.2 ∧ f.2 ≤ 32 := by unfold sizB at b1; simpa using b1
      have hw : sumB (seen ++ [f]) ≤ 256 := by
        have := of_decide_eq_false b4
        omega
      refine ⟨fun g hg => ?_, fun _ => ?_⟩
      · rcases List.mem_cons.1 hg with e | e
        · rw [e]; exact hs
        · exact h1 g e
      · cases r with
        | nil => exact hw
        | cons g r =>
          have := h2 (by simp)
          rw [List.append_assoc] at this
          exact this
theorem chk_ok {L : List IFld} (h : (chkM L).1 = 0) : 0 < L.length ∧ L.length ≤ 12 ∧ (∀ f ∈ L, 1 ≤ f.2 ∧ f.2 ≤ 32) ∧ sumB L ≤ 256 := by
  unfold chkM at h
  by_cases h1 : 12 < L.length
  · rw [if_pos h1] at h; cases h
  · rw [if_neg h1] at h
    by_cases h2 : L.length = 0
    · rw [if_pos h2] at h; cases h
    · rw [if_neg h2] at h
      obtain ⟨a, b⟩ := chkL_ok L [] h
      exact ⟨by omega, by omega, a, b (fun e => h2 (by rw [e]; rfl))⟩
theorem sumB_take_le {L : List IFld} (h : ∀ f ∈ L, 0 ≤ f.2 ∧ f.2 ≤ 32) (j : Nat) : sumB (L.take j) ≤ sumB L := by
  have e : sumB L = sumB (L.take j) + sumB (L.drop j) := by rw [← sumB_app, List.take_append_drop]
  have := (sumB_bound (L.drop j) (fun f hf => h f (List.mem_of_mem_drop hf))).1
  omega
end Go.Proofs.YtepokgainceidaaGreatDoor
namespace Go.Proofs.YtepokgainceidaaGreatDoor
open Go.RowKit Go.Shelf
end Go.Proofs.YtepokgainceidaaGreatDoor
namespace Go.Proofs.YtepokgainceidaaGreatDoor
open Go.RowKit Go.Shelf
theorem digL0 (b v : Nat) : (List.range b).map (bitB b v) = digL b v 0 := by simp [digL]
set_option maxRecDepth 100000 in
set_option maxHeartbeats 2000000 in
theorem refWidth_any (L : List IFld) (o : Option Addr) (c : Nat) (w : World) (hL : L.length ≤ 4096) (hf : ∀ f ∈ L, 0 ≤ f.2 ∧ f.2 ≤ 32) (hr : IRF w o L) :
    Calls Tryz.prog 35 #[.slice o L.length c] w fun e w' => e = .returned (.int .i64 (sumB L)) ∧ Below w.heap.size w w' := by
  have HR : Hid (IRF w o L) := hr
  have HF : Hid (∀ f ∈ L, 0 ≤ f.2 ∧ f.2 ≤ 32) := hf
  clear hr hf
  go_enter Tryz.func35, Tryz.ntmps35
  go_wp2_with fail
  go_loopw [3, 4] (fun vs vk wr => ∃ k : Nat, vk = .int .i64 k ∧ k ≤ L.length ∧ vs = .int .i64 (sumB (L.take k)) ∧ Below w.heap.size w wr) (fun _ vk _ => L.length - (intOf vk).toNat)
  case atStart => exact ⟨0, rfl, Nat.zero_le _, rfl, Below.refl _ _⟩
  case round =>
    obtain ⟨k, rfl, hk, rfl, hB⟩ := hrel
    by_cases hlt : k < L.length
    · have j1 : (k : Int) < (L.length : Int) := by omega
      have j0 : (0 : Int) ≤ (k : Int) := by omega
      obtain ⟨f, hf⟩ : ∃ f, L[k]? = some f := ⟨_, List.getElem?_eq_getElem hlt⟩
      obtain ⟨g, o0, rfl, p0, p1⟩ := HR.out wr hB k f hf
      have hs := sumB_take hf
      have hbd := sumB_bound (L.take k) (fun g hg => HF.out g (List.mem_of_mem_take hg))
      have hfb := HF.out f (List.mem_of_getElem? hf)
      have hlen : (L.take k).length = k := by rw [List.length_take]; omega
      rw [hlen] at hbd
      obtain ⟨y, n⟩ := f
      simp only at p0 p1 hs hfb
      obtain ⟨s, hs0⟩ : ∃ s, sumB (L.take k) = s := ⟨_, rfl⟩
      rw [hs0] at hs hbd
      have HS : Hid (sumB (L.take (k + 1)) = s + n) := hs
      rw [hs0]
      clear hf hs hlen hs0
      have e1 : IntKind.i64.wrap (s + n) = s + n := by rw [IntKind.wrap_i64]; omega
      go_wp2_with fail
      go_roundw
      case rel => exact ⟨k + 1, by go_num, by omega, by rw [HS.out], hB⟩
      case measure => simp [intOf]; omega
    · have j1 : ¬ (k : Int) < (L.length : Int) := by omega
      rw [List.take_of_length_le (by omega)]
      go_wp2_with fail
      go_ret
      exact ⟨rfl, hB⟩
def plM (L : List IFld) (x : List UInt8) : Int × Int := if idxF L x < 0 then (-1, -1) else (sumB (L.take (idxF L x).toNat), idxF L x)
set_option maxRecDepth 100000 in
set_option maxHeartbeats 4000000 in
theorem refPlace_any (L : List IFld) (o : Option Addr) (c : Nat) (x : List UInt8) (w : World) (hL : L.length ≤ 4096) (hf : ∀ f ∈ L, 0 ≤ f.2 ∧ f.2 ≤ 32) (hr : IRF w o L) :
    Calls Tryz.prog 34 #[.slice o L.length c, .string ⟨x.toArray⟩] w fun e w' => e = .returned (.tuple #[.int .i64 (plM L x).1, .int .i64 (plM L x).2]) ∧ Below w.heap.size w w' := by
  have HR : Hid (IRF w o L) := hr
  have HF : Hid (∀ f ∈ L, 0 ≤ f.2 ∧ f.2 ≤ 32) := hf
  obtain ⟨R, hR⟩ : ∃ R, plM L x = R := ⟨_, rfl⟩
  rw [hR]
  have HI0 : Hid (idxG 0 (L.drop 0) x = idxF L x) := rfl
  have HRR : Hid (plM L x = R) := hR
  clear hr hf hR
  go_enter Tryz.func34, Tryz.ntmps34
  go_wp2_with fail
  go_loopw [6, 7] (fun vs vk wr => ∃ k : Nat, vk = .int .i64 k ∧ k ≤ L.length ∧ vs = .int .i64 (sumB (L.take k)) ∧ Hid (idxG k (L.drop k) x = idxF L x) ∧ Below w.heap.size w wr) (fun _ vk _ => L.length - (intOf vk).toNat)
  case atStart => exact ⟨0, rfl, Nat.zero_le _, rfl, HI0, Below.refl _ _⟩
  case round =>
    clear HI0
    obtain ⟨k, rfl, hk, rfl, hidx, hB⟩ := hrel
    by_cases hlt : k < L.length
    · have j1 : (k : Int) < (L.length : Int) := by omega
      have j0 : (0 : Int) ≤ (k : Int) := by omega
      obtain ⟨f, hf⟩ : ∃ f, L[k]? = some f := ⟨_, List.getElem?_eq_getElem hlt⟩
      obtain ⟨g, o0, rfl, p0, p1⟩ := HR.out wr hB k f hf
      have hs := sumB_take hf
      have hbd := sumB_bound (L.take k) (fun g hg => HF.out g (List.mem_of_mem_take hg))
      have hfb := HF.out f (List.mem_of_getElem? hf)
      have hlen : (L.take k).length = k := by rw [List.length_take]; omega
      rw [hlen] at hbd
      have hx2 := hidx.out
      rw [idxG_step hf] at hx2
      obtain ⟨y, n⟩ := f
      simp only at p0 p1 hs hfb hx2
      by_cases hy : y = x
      · rw [if_pos hy] at hx2
        have HRES : Hid (R = (sumB (L.take k), (k : Int))) := by
          unfold Hid
          rw [← HRR.out]
          unfold plM
          rw [← hx2, if_neg (by omega), Int.toNat_natCast]
        have y0 : (y == x) = true := beq_iff_eq.2 hy
        obtain ⟨s, hs0⟩ : ∃ s, sumB (L.take k) = s := ⟨_, rfl⟩
        rw [hs0] at HRES
        rw [hs0]
        clear hf hs hlen hs0 hx2 hidx hy hbd
        go_wp2_with fail
        refine bodyPost_ret (results_tmp2 rfl _ _ _) rfl ?_
        exact ⟨by rw [HRES.out]; rfl, hB⟩
      · rw [if_neg hy] at hx2
        have y0 : (y == x) = false := beq_eq_false_iff_ne.2 hy
        have HX : Hid (idxG (k + 1) (L.drop (k + 1)) x = idxF L x) := hx2
        obtain ⟨s, hs0⟩ : ∃ s, sumB (L.take k) = s := ⟨_, rfl⟩
        rw [hs0] at hs hbd
        have HS : Hid (sumB (L.take (k + 1)) = s + n) := hs
        rw [hs0]
        clear hf hs hlen hs0 hx2 hidx hy
        have e1 : IntKind.i64.wrap (s + n) = s + n := by rw [IntKind.wrap_i64]; omega
        go_wp2_with fail
        go_roundw
        case rel => exact ⟨k + 1, by go_num, by omega, by rw [HS.out], HX, hB⟩
        case measure => simp [intOf]; omega
    · have j1 : ¬ (k : Int) < (L.length : Int) := by omega
      have HRES : Hid (R = (-1, -1)) := by
        unfold Hid
        rw [← HRR.out]
        unfold plM
        rw [← hidx.out, List.drop_eq_nil_of_le (by omega)]
        exact if_pos (show (-1 : Int) < 0 by decide)
      clear hidx
      go_wp2_with fail
      refine bodyPost_ret (results_tmp2 rfl _ _ _) rfl ?_
      exact ⟨by rw [HRES.out]; rfl, hB⟩
def dg01 (c : UInt8) : Bool := c == 48 || c == 49
def valF : Nat → List UInt8 → Nat
  | v, [] => v
  | v, c :: r => valF (2 * v + (if c = 49 then 1 else 0)) r
theorem valF_step {s : List UInt8} {k : Nat} {c : UInt8} (h : s[k]? = some c) (v : Nat) : valF v (s.drop k) = valF (2 * v + (if c = 49 then 1 else 0)) (s.drop (k + 1)) := by
  obtain ⟨hk, e⟩ := List.getElem?_eq_some_iff.1 h
  rw [List.drop_eq_getElem_cons hk, e, valF]
set_option maxRecDepth 100000 in
set_option maxHeartbeats 4000000 in
theorem refValue_any (s : List UInt8) (w : World) (hs : s.length ≤ 32) : Calls Tryz.prog 47 #[.string ⟨s.toArray⟩] w fun e w' => e = .returned (.int .i64 (valF 0 s : Int)) ∧ w' = w := by
  obtain ⟨q, hq⟩ : ∃ q, valF 0 s = q := ⟨_, rfl⟩
  have HQ : Hid (valF 0 (s.drop 0) = q) := hq
  rw [hq]
  clear hq
  go_enter Tryz.func47, Tryz.ntmps47
  go_wp2_with fail
  go_loopw [3, 4] (fun vs vk wr => ∃ (k v : Nat), vk = .int .i64 k ∧ k ≤ s.length ∧ vs = .int .i64 v ∧ v < 2 ^ k ∧ Hid (valF v (s.drop k) = q) ∧ wr = w) (fun _ vk _ => s.length - (intOf vk).toNat)
  case atStart => exact ⟨0, 0, rfl, Nat.zero_le _, rfl, by decide, HQ, rfl⟩
  case round =>
    clear HQ
    obtain ⟨k, v, rfl, hk, rfl, hv, hrun, rfl⟩ := hrel
    have hp : 2 ^ k ≤ 2 ^ 32 := Nat.pow_le_pow_right (by decide) (by omega)
    have hp1 : 2 ^ (k + 1) = 2 * 2 ^ k := by rw [Nat.pow_succ, Nat.mul_comm]
    by_cases hlt : k < s.length
    · have j0 : (0 : Int) ≤ (k : Int) := by omega
      have j1 : (k : Int) < (s.length : Int) := by omega
      obtain ⟨c, hc, hlc⟩ := byte_get s k hlt
      have hst := hrun.out
      rw [valF_step hlc] at hst
      have e1 : IntKind.i64.wrap (2 * (v : Int)) = 2 * (v : Int) := by rw [IntKind.wrap_i64]; omega
      have e2 : IntKind.i64.wrap (2 * (v : Int) + 1) = 2 * (v : Int) + 1 := by rw [IntKind.wrap_i64]; omega
      by_cases c49 : c = 49
      · rw [if_pos c49] at hst
        have HST : Hid (valF (2 * v + 1) (s.drop (k + 1)) = q) := hst
        subst c49
        clear hst hrun hlc
        go_wp2_with fail
        go_roundw
        case rel => exact ⟨k + 1, 2 * v + 1, by go_num, by omega, by go_num, by omega, HST, by first | rfl | trivial⟩
        case measure => simp [intOf]; omega
      · rw [if_neg c49] at hst
        have HST : Hid (valF (2 * v + 0) (s.drop (k + 1)) = q) := hst
        have d49 : ((c.toNat : Int) == 49) = false := u8_ne (d := 49) c49
        clear hst hrun hlc
        go_wp2_with fail
        go_roundw
        case rel => exact ⟨k + 1, 2 * v + 0, by go_num, by omega, by go_num, by omega, HST, by first | rfl | trivial⟩
        case measure => simp [intOf]; omega
    · have j1 : ¬ (k : Int) < (s.length : Int) := by omega
      obtain rfl : v = q := by rw [← hrun.out, List.drop_eq_nil_of_le (by omega)]; rfl
      clear hrun
      go_wp2_with fail
      go_ret
      exact ⟨rfl, rfl⟩
set_option maxRecDepth 100000 in
set_option maxHeartbeats 4000000 in
theorem part_any (s : List UInt8) (L : List IFld) (g o0 c i : Nat) (x : List UInt8) (b p : Nat) (w : World) (hfi : L[i]? = some (x, (b : Int))) (hp : sumB (L.take i) = (p : Int)) (hpb : p + b ≤ s.length) (hn : s.length ≤ 256) (hc : L.length ≤ c) (hL : L.length ≤ 4096) (hf : ∀ f ∈ L, 0 ≤ f.2 ∧ f.2 ≤ 32) (hr : IRF w (some ⟨g, o0, none⟩) L) :
    Calls Tryz.prog 53 #[.string ⟨s.toArray⟩, .slice (some ⟨g, o0, none⟩) L.length c, .int .i64 (i : Int)] w fun e w' => e = .returned (.string ⟨(subL s p (p + b)).toArray⟩) ∧ Below w.heap.size w w' := by
  have hil : i < L.length := (List.getElem?_eq_some_iff.1 hfi).1
  have htl : (L.take i).length = i := by rw [List.length_take]; omega
  have HW := widthOf_any (L.take i) (some ⟨g, o0, none⟩) c w (by omega) (fun f hf' => hf f (List.mem_of_mem_take hf')) (hr.take i)
  rw [hp, htl] at HW
  have j0 : (0 : Int) ≤ (i : Int) := by omega
  have j1 : (i : Int) ≤ (c : Int) := by omega
  have j2 : (i : Int) < (L.length : Int) := by omega
  have m0 : (0 : Int) ≤ (p : Int) := by omega
  have m1 : (p : Int) ≤ (p : Int) + (b : Int) := by omega
  have m2 : (p : Int) + (b : Int) ≤ (s.length : Int) := by omega
  have e9 : IntKind.i64.wrap ((p : Int) + (b : Int)) = (p : Int) + (b : Int) := by rw [IntKind.wrap_i64]; omega
  have t9 : ((p : Int) + (b : Int)).toNat = p + b := by omega
  have XF : Hid (∀ W : World, Below w.heap.size w W → W.cell? ⟨g, o0 + i * 2 + 1, none⟩ = some (.int .i64 (b : Int))) := fun W hW => by
    obtain ⟨g3, q3, h1, -, h2⟩ := hr W hW i _ hfi
    injection h1 with h1
    injection h1 with h1 h4
    subst h1 h4
    exact h2
  have hE := ext_sub s p (p + b)
  obtain ⟨Y, hY⟩ : ∃ Y, subL s p (p + b) = Y := ⟨_, rfl⟩
  rw [hY] at hE ⊢
  clear hY hf hr hfi hp htl
  go_enter Tryz.func53, Tryz.ntmps53
  go_wp2_with fail
  refine HW.mono ?_
  rintro e W1 ⟨rfl, hb1⟩
  have z0 := XF.out W1 hb1
  go_wp2_with fail
  go_ret
  exact ⟨by first | rfl | (rw [← hE]; rfl), hb1⟩
end Go.Proofs.YtepokgainceidaaGreatDoor
namespace Go.Proofs.YtepokgainceidaaGreatDoor
open Go.RowKit Go.Shelf
end Go.Proofs.YtepokgainceidaaGreatDoor
namespace Go.Proofs.YtepokgainceidaaGreatDoor
open Go.RowKit Go.Shelf
def plN (L : List IFld) (i : Nat) : Nat := (sumB (L.take i)).toNat
theorem sub_all {s : List UInt8} {a b : Nat} (h : s.all dg01 = true) : (subL s a b).all dg01 = true := by
  rw [List.all_eq_true] at h ⊢
  intro c hc
  unfold subL at hc
  exact h c (List.mem_of_mem_drop (List.mem_of_mem_take hc))
end Go.Proofs.YtepokgainceidaaGreatDoor
