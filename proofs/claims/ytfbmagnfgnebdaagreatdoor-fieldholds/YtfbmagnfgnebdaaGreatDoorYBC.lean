import Derived.Test.YtfbmagnfgnebdaaGreatDoorYBB
import Derived.Test.YtfbmagnfgnebdaaGreatDoorYAH
import Derived.Lib.LazyBuf
import Derived.Test.YtfbmagnfgnebdaaGreatDoorYAR
import Derived.Test.YtfbmagnfgnebdaaGreatDoorYAA
import Derived.Lib.OthersKept
namespace Go.Proofs.YtfbmagnfgnebdaaGreatDoor
open Go.RowKit Go.Shelf
end Go.Proofs.YtfbmagnfgnebdaaGreatDoor
namespace Go.Proofs.YtfbmagnfgnebdaaGreatDoor
open Go.RowKit Go.Shelf
end Go.Proofs.YtfbmagnfgnebdaaGreatDoor
namespace Go.Proofs.YtfbmagnfgnebdaaGreatDoor
open Go.RowKit Go.Shelf
theorem info_fld : (Tryz.prog.info? 39).map (fun i => (i.zero, i.size, i.bytes)) = some (some (.agg #[.string ⟨#[]⟩, .int .i64 0]), 2, 24) := by kernel_rfl
/-- the cells of a row of fields -/
def fels (L : List IFld) : List Value := L.flatMap fcel
theorem fels_snoc (L : List IFld) (f : IFld) : fels (L ++ [f]) = fels L ++ fcel f := by simp [fels]
theorem fels_at (L : List IFld) : ∀ (k : Nat) (f : IFld), L[k]? = some f → (fels L)[k * 2]? = some (.string ⟨f.1.toArray⟩) ∧ (fels L)[k * 2 + 1]? = some (.int .i64 f.2) := by
  induction L with
  | nil => intro k t h; simp at h
  | cons y L ih =>
    intro k t h
    cases k with
    | zero =>
      simp at h
      subst h
      exact ⟨rfl, rfl⟩
    | succ k =>
      have := ih k t (by simpa using h)
      rw [show (k + 1) * 2 = k * 2 + 2 by omega]
      exact this
theorem IRF_own {W : World} {B n : Nat} {o : Option Addr} {c : Nat} {L : List IFld} (h : W.ownsRow B 39 2 (.slice o n c) n (fels L)) (hn : L.length = n) : IRF W o L := fun W' hW k f hf => by
  have hk := (List.getElem?_eq_some_iff.1 hf).1
  obtain ⟨g, rfl⟩ := own_at h (by omega)
  obtain ⟨a0, a1⟩ := fels_at L k f hf
  have h2 := owns_below h hW
  exact ⟨g, 0, rfl, by rw [Nat.zero_add]; exact (h2.cellAt _ (by omega)).trans a0, by rw [Nat.zero_add]; exact (h2.cellAt _ (by omega)).trans a1⟩
set_option maxRecDepth 100000 in
theorem num_any (n : Int) (w : World) : Calls Tryz.prog 11 #[.int .i64 n] w fun e w' => e = .returned (.int .i64 n) ∧ w' = w := by
  go_enter Tryz.func11, Tryz.ntmps11
  go_wp2_with fail
  go_ret
  exact ⟨rfl, rfl⟩
end Go.Proofs.YtfbmagnfgnebdaaGreatDoor
namespace Go.Proofs.YtfbmagnfgnebdaaGreatDoor
open Go.RowKit Go.Shelf
set_option maxRecDepth 100000 in
set_option maxHeartbeats 1000000 in
/-- like rows are alike -/
theorem same_any (L : List (List UInt8)) (B1 B2 : Nat) (va vb : Value) (w : World) (hL : L.length ≤ 4294967296) (ha : w.ownsRow B1 9 1 va L.length (stx L)) (hb : w.ownsRow B2 9 1 vb L.length (stx L)) :
    Calls Tryz.prog 22 #[va, vb] w fun x w' => x = .returned (.bool true) ∧ Below w.heap.size w w' := by
  have HA : Hid (w.ownsRow B1 9 1 va L.length (stx L)) := ha
  have HB : Hid (w.ownsRow B2 9 1 vb L.length (stx L)) := hb
  obtain ⟨qa, ca, rfl⟩ := shapeP ha
  obtain ⟨qb, cb, rfl⟩ := shapeP hb
  clear ha hb
  go_enter Tryz.func22, Tryz.ntmps22
  go_wp2_with fail
  go_loopw [5] (fun vi wr => ∃ i : Nat, vi = .int .i64 i ∧ i ≤ L.length ∧ Below w.heap.size w wr) (fun vi _ => L.length - (intOf vi).toNat)
  case atStart => exact ⟨0, rfl, Nat.zero_le _, Below.refl _ _⟩
  case round =>
    obtain ⟨i, rfl, hi, hW⟩ := hrel
    by_cases hlt : i < L.length
    · have q1 : (i : Int) < (L.length : Int) := by omega
      have q0 : (0 : Int) ≤ (i : Int) := by omega
      have hA := owns_below HA.out hW
      have hB := owns_below HB.out hW
      obtain ⟨ga, ca2, hfa⟩ := own_form hA (by omega)
      obtain ⟨gb, cb2, hfb⟩ := own_form hB (by omega)
      injection hfa with x1 x2 x3
      injection hfb with y1 y2 y3
      subst x1 x3 y1 y3
      have hx := hA.cells rfl i _ (stx_get L i hlt)
      have hy := hB.cells rfl i _ (stx_get L i hlt)
      rw [add0] at hx hy
      obtain ⟨t, ht⟩ : ∃ t, L[i] = t := ⟨_, rfl⟩
      rw [ht] at hx hy
      clear ht HA HB hA hB
      go_wp2_with fail
      go_quiet (fail)
      go_wp2_with fail
      go_roundw
      case rel => exact ⟨i + 1, by go_num, by omega, bel_drewN _ hW⟩
      case measure => simp [intOf]; omega
    · have q1 : ¬ (i : Int) < (L.length : Int) := by omega
      clear HA HB
      go_wp2_with fail
      go_ret
      exact ⟨rfl, hW⟩
theorem cov_439 : covE 4 3 9 = 0 ∧ covL 4 3 9 = [[48, 48, 49, 49], [48, 49, 120, 120], [49, 48, 48, 120]] := by
  have hE : covE 4 3 9 = 0 := by decide
  refine ⟨hE, ?_⟩
  have f1 : fre 3 9 = 0 := by decide
  have f2 : fre 4 9 = 2 := by decide
  have f3 : fre 8 9 = 1 := by decide
  have h : cov 4 3 9 = [[48, 48, 49, 49], [48, 49, 120, 120], [49, 48, 48, 120]] := by
    rw [cov_le (by decide), f1, show 3 + 2 ^ 0 = 4 by decide, cov_le (by decide), f2, show 4 + 2 ^ 2 = 8 by decide, cov_le (by decide), f3, show 8 + 2 ^ 1 = 10 by decide, cov_end (by decide)]
    decide
  unfold covL
  rw [if_pos hE]
  exact h
set_option maxRecDepth 100000 in
set_option maxHeartbeats 1000000 in
theorem known_any (w : World) (hdb : DB w) : Calls Tryz.prog 15 #[] w fun e w' => e = .returned (.bool true) ∧ Below w.heap.size w w' := by
  have HC := cover_any 4 3 9 w hdb
  obtain ⟨hE, hL⟩ := cov_439
  have HN := fun W => num_any 0 W
  have HS := fun va vb W (h1 : W.ownsRow w.heap.size 9 1 va 3 (stx [[48, 48, 49, 49], [48, 49, 120, 120], [49, 48, 48, 120]])) (h2 : W.ownsRow w.heap.size 9 1 vb 3 (stx [[48, 48, 49, 49], [48, 49, 120, 120], [49, 48, 48, 120]])) => same_any [[48, 48, 49, 49], [48, 49, 120, 120], [49, 48, 48, 120]] w.heap.size w.heap.size va vb W (by decide) h1 h2
  have HS2 : Hid (∀ va vb W, W.ownsRow w.heap.size 9 1 va 3 (stx [[48, 48, 49, 49], [48, 49, 120, 120], [49, 48, 48, 120]]) → W.ownsRow w.heap.size 9 1 vb 3 (stx [[48, 48, 49, 49], [48, 49, 120, 120], [49, 48, 48, 120]]) → Calls Tryz.prog 22 #[va, vb] W fun x w' => x = .returned (.bool true) ∧ Below W.heap.size W w') := HS
  have HE : Hid (covE 4 3 9 = 0) := hE
  have HL : Hid (covL 4 3 9 = [[48, 48, 49, 49], [48, 49, 120, 120], [49, 48, 48, 120]]) := hL
  clear hdb HS hE hL
  go_enter Tryz.func15, Tryz.ntmps15
  go_wp2_with fail
  refine HC.mono ?_
  rintro e w1 ⟨v1, rfl, ho1, hb1⟩
  rw [HL.out] at ho1
  rw [HE.out]
  have ho1' : w1.ownsRow w.heap.size 9 1 v1 3 (stx [[48, 48, 49, 49], [48, 49, 120, 120], [49, 48, 48, 120]]) := ho1
  have HO : Hid (w1.ownsRow w.heap.size 9 1 v1 3 (stx [[48, 48, 49, 49], [48, 49, 120, 120], [49, 48, 48, 120]])) := ho1'
  clear ho1 ho1'
  go_wp2_with fail
  refine (HN _).mono ?_
  rintro e w2 ⟨rfl, rfl⟩
  go_wp2_with fail
  refine (HS2.out _ _ _ (HO.out.alloc _) (World.ownsRow_lit (base := w.heap.size) (e := 9) (size := 1) _ #[.string ⟨#[48, 48, 49, 49]⟩, .string ⟨#[48, 49, 120, 120]⟩, .string ⟨#[49, 48, 48, 120]⟩] 3 hb1.size (by unfold maxLen; omega) rfl)).mono ?_
  rintro e w3 ⟨rfl, hb3⟩
  go_wp2_with fail
  go_ret
  exact ⟨rfl, bel0 (hb1.alloc hb1.size _) hb3⟩
end Go.Proofs.YtfbmagnfgnebdaaGreatDoor
namespace Go.Proofs.YtfbmagnfgnebdaaGreatDoor
open Go.RowKit Go.Shelf
/-- bytes put over others from a place on -/
def putL : List UInt8 → Nat → List UInt8 → List UInt8
  | h, _, [] => h
  | h, p, x :: D => putL (h.set p x) (p + 1) D
theorem putL_len : ∀ (D h : List UInt8) (p : Nat), (putL h p D).length = h.length
  | [], _, _ => rfl
  | x :: D, h, p => by rw [putL, putL_len D]; simp
theorem putL_mid : ∀ (D A B C : List UInt8), D.length = B.length → putL (A ++ (B ++ C)) A.length D = A ++ (D ++ C)
  | [], A, B, C, h => by
    obtain rfl : B = [] := List.length_eq_zero_iff.1 h.symm
    rfl
  | x :: D, A, [], C, h => by cases h
  | x :: D, A, y :: B, C, h => by
    rw [putL, List.set_append_right _ _ (Nat.le_refl _), Nat.sub_self]
    have e : A ++ (y :: B ++ C).set 0 x = (A ++ [x]) ++ (B ++ C) := by simp
    have := putL_mid D (A ++ [x]) B C (by simpa using h)
    rw [List.length_append] at this
    rw [e]
    simp only [List.length_cons, List.length_nil, Nat.zero_add] at this
    rw [this]
    simp
theorem hdr_put {gh : Nat} {z : List Value} : ∀ (D h : List UInt8) (p : Nat) (W : World), hdr W gh z h → p + D.length ≤ h.length → hdr (W.setCells gh p (bys D)) gh z (putL h p D)
  | [], h, p, W, hh, _ => hh
  | x :: D, h, p, W, hh, hp => by
    have hp' : p < h.length := by rw [List.length_cons] at hp; omega
    exact hdr_put D (h.set p x) (p + 1) _ (hdr_set x hh hp') (by rw [List.length_set]; rw [List.length_cons] at hp; omega)
theorem info_one : ∀ w : World, (Go.sizeOf 5).run Tryz.prog w = .ok 1 w := fun w => by
  obtain ⟨i0, hi, hz0, hz1, hz2⟩ := info_parts info_u8
  simp [Go.sizeOf, typeInfo, hi, hz1]
set_option maxRecDepth 100000 in
set_option maxHeartbeats 2000000 in
theorem blank_any (L : List IFld) (o : Option Addr) (c n : Nat) (w : World) (hn : sumB L = (n : Int)) (hn2 : n ≤ 256) (hL : L.length ≤ 4096) (hf : ∀ f ∈ L, 0 ≤ f.2 ∧ f.2 ≤ 32) (hr : IRF w o L) :
    Calls Tryz.prog 30 #[.slice o L.length c] w fun e w' => ∃ K z cp, e = .returned (.slice (some ⟨K, 0, none⟩) n cp) ∧ w.heap.size ≤ K ∧ n ≤ cp ∧ hdr w' K z (List.replicate n 120) ∧ Below w.heap.size w w' := by
  have HW := widthOf_any L o c w hL hf hr
  rw [hn] at HW
  have HR := fun W => repeat_any n hn2 W
  have hcv := fun W => Lib.run_convert_string_bytes (P := Tryz.prog) W 9 60 5 ⟨(List.replicate n 120).toArray⟩ Tryz.underlying9 Tryz.underlying60 Tryz.underlying5
  obtain ⟨T, hT⟩ : ∃ T : List UInt8, List.replicate n 120 = T := ⟨_, rfl⟩
  have hTl : T.length = n := by rw [← hT]; simp
  rw [hT] at hcv ⊢
  simp only [hT] at HR
  clear hT hr hf
  go_enter Tryz.func30, Tryz.ntmps30
  go_wp2_with fail
  refine HW.mono ?_
  rintro e w0 ⟨rfl, hb0⟩
  go_wp2_with fail
  refine (HR _).mono ?_
  rintro e w1 ⟨rfl, hb1'⟩
  have hB1 := bel0 hb0 hb1'
  have hN := hdr_new w1 T
  have B2 := bel0 hB1 (bel_bytes w1 ⟨T.toArray⟩)
  have hzw : w.heap.size ≤ w1.heap.size := hB1.size
  have hsz : (⟨T.toArray⟩ : ByteArray).size = T.length := by show T.toArray.size = _; simp
  have hge := grownCap_ge w1 T.length 0 5
  have hcv1 := hcv w1
  rw [hsz] at hcv1
  obtain ⟨cp, hcp⟩ : ∃ c, grownCap w1 T.length 0 5 = c := ⟨_, rfl⟩
  rw [hcp] at hcv1 hge hN
  obtain ⟨W2, hW2⟩ : ∃ W2, Lib.bytesWorld w1 5 ⟨T.toArray⟩ = W2 := ⟨_, rfl⟩
  rw [hW2] at hcv1 hN B2
  rw [hTl] at hcv1 hge
  clear hcv hcp hW2 hsz hb1' HR hb0 HW
  go_wp2_with fail
  go_ret
  exact ⟨w1.heap.size, _, cp, rfl, hzw, hge, hN, B2⟩
set_option maxRecDepth 100000 in
set_option maxHeartbeats 2000000 in
theorem lay_any (L : List IFld) (g o0 c i : Nat) (K cp : Nat) (z : List Value) (T D : List UInt8) (n p B : Nat) (w : World) (hT : T.length = n) (hcp : n ≤ cp) (hp : sumB (L.take i) = (p : Int)) (hpd : p + D.length ≤ n) (hD : 0 < D.length) (hi : i ≤ L.length) (hc : L.length ≤ c) (hL : L.length ≤ 4096) (hf : ∀ f ∈ L, 0 ≤ f.2 ∧ f.2 ≤ 32) (hr : IRF w (some ⟨g, o0, none⟩) L) (hh : hdr w K z T) (hBK : B ≤ K) (hBw : B ≤ w.heap.size) :
    Calls Tryz.prog 31 #[.slice (some ⟨K, 0, none⟩) n cp, .slice (some ⟨g, o0, none⟩) L.length c, .int .i64 (i : Int), .string ⟨D.toArray⟩] w fun e w' => (∃ v, e = .returned v) ∧ hdr w' K z (putL T p D) ∧ Below B w w' := by
  have htl : (L.take i).length = i := by rw [List.length_take]; omega
  have HW := widthOf_any (L.take i) (some ⟨g, o0, none⟩) c w (by omega) (fun f hf' => hf f (List.mem_of_mem_take hf')) (hr.take i)
  rw [hp, htl] at HW
  have j0 : (0 : Int) ≤ (i : Int) := by omega
  have j1 : (i : Int) ≤ (c : Int) := by omega
  have j2 : (0 : Int) ≤ (p : Int) := by omega
  have j3 : (p : Int) ≤ (n : Int) := by omega
  have j4 : (n : Int) ≤ (cp : Int) := by omega
  have j5 : ¬ cp = p := by omega
  have j6 : ¬ (cp : Int) = (p : Int) := by omega
  have j7 : ¬ cp - p = 0 := by omega
  have HT : Hid (T.length = n) := hT
  have HPD : Hid (p + D.length ≤ n) := hpd
  have HC : Hid (∀ W : World, hdr W K z T → (Builtin.copy_ #[60, 9] 3 #[.slice (some ⟨K, p, none⟩) (n - p) (cp - p), .string ⟨D.toArray⟩]).run Tryz.prog W = .ok (goInt D.length) (W.setCells K p (bys D))) := fun W hW => by
    have hsz : (⟨D.toArray⟩ : ByteArray).size = D.length := by show D.toArray.size = _; simp
    have := run_copy_string (P := Tryz.prog) W 60 9 3 5 K p (n - p) (cp - p) ⟨D.toArray⟩ Tryz.underlying60 info_one (by rw [hsz]; omega) (fun j hj => by
      rw [hsz] at hj
      rw [hdr_cell hW (j := p + j) (by omega)]
      rfl) (fun j hj => by
      rw [hsz] at hj
      exact hdr_frozen hW (j := p + j) (by omega))
    rw [hsz] at this
    exact this
  have HH : Hid (hdr w K z T) := hh
  clear hT hpd hr hf hh htl hp
  go_enter Tryz.func31, Tryz.ntmps31
  go_wp2_with fail
  refine HW.mono ?_
  rintro e W1 ⟨rfl, hb1⟩
  have hh1 : hdr W1 K z T := keepblk hb1 HH.out
  have hcp1 := HC.out W1 hh1
  have hput := hdr_put D T p W1 hh1 (by rw [HT.out]; exact HPD.out)
  have hB1 : Below B w W1 := hb1.mono hBw
  have hB2 : Below B w (W1.setCells K p (bys D)) := below_setCells hBK (bys D) p W1 hB1
  clear HW HC
  go_wp2_with fail
  refine bodyPost_end (v := .tuple #[]) (results_none rfl _ _ _) rfl ?_
  exact ⟨⟨_, rfl⟩, hput, hB2⟩
end Go.Proofs.YtfbmagnfgnebdaaGreatDoor
namespace Go.Proofs.YtfbmagnfgnebdaaGreatDoor
open Go.RowKit Go.Shelf
/-- a row of numbers lies there, now and later -/
def IRV (w : World) (o : Option Addr) (V : List Int) : Prop := ∀ W : World, Below w.heap.size w W → ∀ (k : Nat) (v : Int), V[k]? = some v → ∃ g o0, o = some ⟨g, o0, none⟩ ∧ W.cell? ⟨g, o0 + k, none⟩ = some (.int .i64 v)
theorem IRV.later {w w' : World} {o : Option Addr} {V : List Int} (h : IRV w o V) (hb : Below w.heap.size w w') : IRV w' o V := fun W hW => h W (bel0 hb hW)
theorem chkL_ok : ∀ (rest seen : List IFld), (chkL seen rest).1 = 0 → (∀ f ∈ rest, 1 ≤ f.2 ∧ f.2 ≤ 32) ∧ (rest ≠ [] → sumB (seen ++ rest) ≤ 256)
  | [], seen, _ => ⟨fun f hf => (List.not_mem_nil hf).elim, fun h => absurd rfl h⟩
  | f :: r, seen, h => by
    rw [chkL] at h
    cases hb : badF seen f with
    | true => rw [hb, if_pos rfl] at h; cases h
    | false =>
      rw [hb, if_neg (by decide)] at h
      obtain ⟨h1, h2⟩ := chkL_ok r (seen ++ [f]) h
      unfold badF at hb
      simp only [Bool.or_eq_false_iff, Bool.not_eq_false'] at hb
      obtain ⟨b1, b2, b3, b4⟩ := hb
      have hs : 1 ≤ f.2 ∧ f.2 ≤ 32 := by unfold sizB at b1; simpa using b1
      have hw : sumB (seen ++ [f]) ≤ 256 := by
        have := of_decide_eq_false b4
        omega
      refine ⟨fun g hg => ?_, fun _ => ?_⟩
      · rcases List.mem_cons.1 hg with e | e
        · rw [e]; exact hs
        · exact h1 g e
      · cases r with
        | nil => exact hw
        | cons g r =>
          have := h2 (by simp)
          rw [List.append_assoc] at this
          exact this
theorem chk_ok {L : List IFld} (h : (chkM L).1 = 0) : 0 < L.length ∧ L.length ≤ 12 ∧ (∀ f ∈ L, 1 ≤ f.2 ∧ f.2 ≤ 32) ∧ sumB L ≤ 256 := by
  unfold chkM at h
  by_cases h1 : 12 < L.length
  · rw [if_pos h1] at h; cases h
  · rw [if_neg h1] at h
    by_cases h2 : L.length = 0
    · rw [if_pos h2] at h; cases h
    · rw [if_neg h2] at h
      obtain ⟨a, b⟩ := chkL_ok L [] h
      exact ⟨by omega, by omega, a, b (fun e => h2 (by rw [e]; rfl))⟩
theorem sumB_take_le {L : List IFld} (h : ∀ f ∈ L, 0 ≤ f.2 ∧ f.2 ≤ 32) (j : Nat) : sumB (L.take j) ≤ sumB L := by
  have e : sumB L = sumB (L.take j) + sumB (L.drop j) := by rw [← sumB_app, List.take_append_drop]
  have := (sumB_bound (L.drop j) (fun f hf => h f (List.mem_of_mem_drop hf))).1
  omega
end Go.Proofs.YtfbmagnfgnebdaaGreatDoor
namespace Go.Proofs.YtfbmagnfgnebdaaGreatDoor
open Go.RowKit Go.Shelf
end Go.Proofs.YtfbmagnfgnebdaaGreatDoor
namespace Go.Proofs.YtfbmagnfgnebdaaGreatDoor
open Go.RowKit Go.Shelf
theorem digL0 (b v : Nat) : (List.range b).map (bitB b v) = digL b v 0 := by simp [digL]
end Go.Proofs.YtfbmagnfgnebdaaGreatDoor
namespace Go.Proofs.YtfbmagnfgnebdaaGreatDoor
open Go.RowKit Go.Shelf
end Go.Proofs.YtfbmagnfgnebdaaGreatDoor
namespace Go.Proofs.YtfbmagnfgnebdaaGreatDoor
open Go.RowKit Go.Shelf
/-- a digit of a header -/
def dg01 (c : UInt8) : Bool := c == 48 || c == 49
/-- the number of digits -/
def valF : Nat → List UInt8 → Nat
  | v, [] => v
  | v, c :: r => valF (2 * v + (if c = 49 then 1 else 0)) r
end Go.Proofs.YtfbmagnfgnebdaaGreatDoor
namespace Go.Proofs.YtfbmagnfgnebdaaGreatDoor
open Go.RowKit Go.Shelf
end Go.Proofs.YtfbmagnfgnebdaaGreatDoor
namespace Go.Proofs.YtfbmagnfgnebdaaGreatDoor
open Go.RowKit Go.Shelf
end Go.Proofs.YtfbmagnfgnebdaaGreatDoor
namespace Go.Proofs.YtfbmagnfgnebdaaGreatDoor
open Go.RowKit Go.Shelf
theorem sub_all {s : List UInt8} {a b : Nat} (h : s.all dg01 = true) : (subL s a b).all dg01 = true := by
  rw [List.all_eq_true] at h ⊢
  intro c hc
  unfold subL at hc
  exact h c (List.mem_of_mem_drop (List.mem_of_mem_take hc))
end Go.Proofs.YtfbmagnfgnebdaaGreatDoor
