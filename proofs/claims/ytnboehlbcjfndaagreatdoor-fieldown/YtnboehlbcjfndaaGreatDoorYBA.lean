import Derived.Test.YtnboehlbcjfndaaGreatDoorYAD
import Derived.Test.YtnboehlbcjfndaaGreatDoorYAZ
import Derived.Lib.LazyBuf
import Derived.Test.YtnboehlbcjfndaaGreatDoorYAJ
namespace Go.Proofs.YtnboehlbcjfndaaGreatDoor
open Go.RowKit Go.Shelf
def putL : List UInt8 → Nat → List UInt8 → List UInt8
  | h, _, [] => h
  | h, p, x :: D => putL (h.set p x) (p + 1) D
theorem putL_len : ∀ (D h : List UInt8) (p : Nat), (putL h p D).length = h.length
  | [], _, _ => rfl
  | x :: D, h, p => by rw [putL, putL_len D]; simp
theorem putL_mid : ∀ (D A B C : List UInt8), D.length = B.length → putL (A ++ (B ++ C)) A.length D = A ++ (D ++ C)
  | [], A, B, C, h => by
    obtain rfl : B = [] := List.length_eq_zero_iff.1 h.symm
    rfl
  | x :: D, A, [], C, h => by cases h
  | x :: D, A, y :: B, C, h => by
    rw [putL, List.set_append_right _ _ (Nat.le_refl _), Nat.sub_self]
    have e : A ++ (y :: B ++ C).set 0 x = (A ++ [x]) ++ (B ++ C) := by simp
    have := putL_mid D (A ++ [x]) B C (by simpa using h)
    rw [List.length_append] at this
    rw [e]
    simp only [List.length_cons, List.length_nil, Nat.zero_add] at this
    rw [this]
    simp
theorem hdr_put {gh : Nat} {z : List Value} : ∀ (D h : List UInt8) (p : Nat) (W : World), hdr W gh z h → p + D.length ≤ h.length → hdr (W.setCells gh p (bys D)) gh z (putL h p D)
  | [], h, p, W, hh, _ => hh
  | x :: D, h, p, W, hh, hp => by
    have hp' : p < h.length := by rw [List.length_cons] at hp; omega
    exact hdr_put D (h.set p x) (p + 1) _ (hdr_set x hh hp') (by rw [List.length_set]; rw [List.length_cons] at hp; omega)
theorem info_one : ∀ w : World, (Go.sizeOf 5).run Tryz.prog w = .ok 1 w := fun w => by
  obtain ⟨i0, hi, hz0, hz1, hz2⟩ := info_parts info_u8
  simp [Go.sizeOf, typeInfo, hi, hz1]
set_option maxRecDepth 100000 in
set_option maxHeartbeats 2000000 in
theorem blank_any (L : List IFld) (o : Option Addr) (c n : Nat) (w : World) (hn : sumB L = (n : Int)) (hn2 : n ≤ 256) (hL : L.length ≤ 4096) (hf : ∀ f ∈ L, 0 ≤ f.2 ∧ f.2 ≤ 32) (hr : IRF w o L) :
    Calls Tryz.prog 30 #[.slice o L.length c] w fun e w' => ∃ K z cp, e = .returned (.slice (some ⟨K, 0, none⟩) n cp) ∧ w.heap.size ≤ K ∧ n ≤ cp ∧ hdr w' K z (List.replicate n 120) ∧ Below w.heap.size w w' := by
  have HW := widthOf_any L o c w hL hf hr
  rw [hn] at HW
  have HR := fun W => repeat_any n hn2 W
  have hcv := fun W => Lib.run_convert_string_bytes (P := Tryz.prog) W 9 60 5 ⟨(List.replicate n 120).toArray⟩ Tryz.underlying9 Tryz.underlying60 Tryz.underlying5
  obtain ⟨T, hT⟩ : ∃ T : List UInt8, List.replicate n 120 = T := ⟨_, rfl⟩
  have hTl : T.length = n := by rw [← hT]; simp
  rw [hT] at hcv ⊢
  simp only [hT] at HR
  clear hT hr hf
  go_enter Tryz.func30, Tryz.ntmps30
  go_wp2_with fail
  refine HW.mono ?_
  rintro e w0 ⟨rfl, hb0⟩
  go_wp2_with fail
  refine (HR _).mono ?_
  rintro e w1 ⟨rfl, hb1'⟩
  have hB1 := bel0 hb0 hb1'
  have hN := hdr_new w1 T
  have B2 := bel0 hB1 (bel_bytes w1 ⟨T.toArray⟩)
  have hzw : w.heap.size ≤ w1.heap.size := hB1.size
  have hsz : (⟨T.toArray⟩ : ByteArray).size = T.length := by show T.toArray.size = _; simp
  have hge := grownCap_ge w1 T.length 0 5
  have hcv1 := hcv w1
  rw [hsz] at hcv1
  obtain ⟨cp, hcp⟩ : ∃ c, grownCap w1 T.length 0 5 = c := ⟨_, rfl⟩
  rw [hcp] at hcv1 hge hN
  obtain ⟨W2, hW2⟩ : ∃ W2, Lib.bytesWorld w1 5 ⟨T.toArray⟩ = W2 := ⟨_, rfl⟩
  rw [hW2] at hcv1 hN B2
  rw [hTl] at hcv1 hge
  clear hcv hcp hW2 hsz hb1' HR hb0 HW
  go_wp2_with fail
  go_ret
  exact ⟨w1.heap.size, _, cp, rfl, hzw, hge, hN, B2⟩
set_option maxRecDepth 100000 in
set_option maxHeartbeats 2000000 in
theorem lay_any (L : List IFld) (g o0 c i : Nat) (K cp : Nat) (z : List Value) (T D : List UInt8) (n p B : Nat) (w : World) (hT : T.length = n) (hcp : n ≤ cp) (hp : sumB (L.take i) = (p : Int)) (hpd : p + D.length ≤ n) (hD : 0 < D.length) (hi : i ≤ L.length) (hc : L.length ≤ c) (hL : L.length ≤ 4096) (hf : ∀ f ∈ L, 0 ≤ f.2 ∧ f.2 ≤ 32) (hr : IRF w (some ⟨g, o0, none⟩) L) (hh : hdr w K z T) (hBK : B ≤ K) (hBw : B ≤ w.heap.size) :
    Calls Tryz.prog 31 #[.slice (some ⟨K, 0, none⟩) n cp, .slice (some ⟨g, o0, none⟩) L.length c, .int .i64 (i : Int), .string ⟨D.toArray⟩] w fun e w' => (∃ v, e = .returned v) ∧ hdr w' K z (putL T p D) ∧ Below B w w' := by
  have htl : (L.take i).length = i := by rw [List.length_take]; omega
  have HW := widthOf_any (L.take i) (some ⟨g, o0, none⟩) c w (by omega) (fun f hf' => hf f (List.mem_of_mem_take hf')) (hr.take i)
  rw [hp, htl] at HW
  have j0 : (0 : Int) ≤ (i : Int) := by omega
  have j1 : (i : Int) ≤ (c : Int) := by omega
  have j2 : (0 : Int) ≤ (p : Int) := by omega
  have j3 : (p : Int) ≤ (n : Int) := by omega
  have j4 : (n : Int) ≤ (cp : Int) := by omega
  have j5 : ¬ cp = p := by omega
  have j6 : ¬ (cp : Int) = (p : Int) := by omega
  have j7 : ¬ cp - p = 0 := by omega
  have HT : Hid (T.length = n) := hT
  have HPD : Hid (p + D.length ≤ n) := hpd
  have HC : Hid (∀ W : World, hdr W K z T → (Builtin.copy_ #[60, 9] 3 #[.slice (some ⟨K, p, none⟩) (n - p) (cp - p), .string ⟨D.toArray⟩]).run Tryz.prog W = .ok (goInt D.length) (W.setCells K p (bys D))) := fun W hW => by
    have hsz : (⟨D.toArray⟩ : ByteArray).size = D.length := by show D.toArray.size = _; simp
    have := run_copy_string (P := Tryz.prog) W 60 9 3 5 K p (n - p) (cp - p) ⟨D.toArray⟩ Tryz.underlying60 info_one (by rw [hsz]; omega) (fun j hj => by
      rw [hsz] at hj
      rw [hdr_cell hW (j := p + j) (by omega)]
      rfl) (fun j hj => by
      rw [hsz] at hj
      exact hdr_frozen hW (j := p + j) (by omega))
    rw [hsz] at this
    exact this
  have HH : Hid (hdr w K z T) := hh
  clear hT hpd hr hf hh htl hp
  go_enter Tryz.func31, Tryz.ntmps31
  go_wp2_with fail
  refine HW.mono ?_
  rintro e W1 ⟨rfl, hb1⟩
  have hh1 : hdr W1 K z T := keepblk hb1 HH.out
  have hcp1 := HC.out W1 hh1
  have hput := hdr_put D T p W1 hh1 (by rw [HT.out]; exact HPD.out)
  have hB1 : Below B w W1 := hb1.mono hBw
  have hB2 : Below B w (W1.setCells K p (bys D)) := below_setCells hBK (bys D) p W1 hB1
  clear HW HC
  go_wp2_with fail
  refine bodyPost_end (v := .tuple #[]) (results_none rfl _ _ _) rfl ?_
  exact ⟨⟨_, rfl⟩, hput, hB2⟩
def IRV (w : World) (o : Option Addr) (V : List Int) : Prop := ∀ W : World, Below w.heap.size w W → ∀ (k : Nat) (v : Int), V[k]? = some v → ∃ g o0, o = some ⟨g, o0, none⟩ ∧ W.cell? ⟨g, o0 + k, none⟩ = some (.int .i64 v)
theorem IRV.later {w w' : World} {o : Option Addr} {V : List Int} (h : IRV w o V) (hb : Below w.heap.size w w') : IRV w' o V := fun W hW => h W (bel0 hb hW)
def pkF : List IFld → List Int → List UInt8 → List UInt8 × Int
  | f :: L, v :: V, acc => if 0 ≤ v ∧ v ≤ ((2 ^ f.2.toNat - 1 : Nat) : Int) then pkF L V (acc ++ digL f.2.toNat v.toNat 0) else ([], 42)
  | _, _, acc => (acc, 0)
def pkM (L : List IFld) (V : List Int) : List UInt8 × Int := if (chkM L).1 ≠ 0 then ([], (chkM L).1) else if V.length ≠ L.length then ([], 1) else pkF L V []
theorem pkF_step {L : List IFld} {V : List Int} {k : Nat} {f : IFld} {v : Int} (hf : L[k]? = some f) (hv : V[k]? = some v) (acc : List UInt8) : pkF (L.drop k) (V.drop k) acc = if 0 ≤ v ∧ v ≤ ((2 ^ f.2.toNat - 1 : Nat) : Int) then pkF (L.drop (k + 1)) (V.drop (k + 1)) (acc ++ digL f.2.toNat v.toNat 0) else ([], 42) := by
  obtain ⟨h1, e1⟩ := List.getElem?_eq_some_iff.1 hf
  obtain ⟨h2, e2⟩ := List.getElem?_eq_some_iff.1 hv
  rw [List.drop_eq_getElem_cons h1, List.drop_eq_getElem_cons h2, e1, e2, pkF]
theorem pkF_end {L : List IFld} {V : List Int} {k : Nat} (h : L.length ≤ k) (acc : List UInt8) : pkF (L.drop k) (V.drop k) acc = (acc, 0) := by
  rw [List.drop_eq_nil_of_le h]
  unfold pkF
  rfl
theorem chkL_ok : ∀ (rest seen : List IFld), (chkL seen rest).1 = 0 → (∀ f ∈ rest, 1 ≤ f.2 ∧ f.2 ≤ 32) ∧ (rest ≠ [] → sumB (seen ++ rest) ≤ 256)
  | [], seen, _ => ⟨fun f hf => (List.not_mem_nil hf).elim, fun h => absurd rfl h⟩
  | f :: r, seen, h => by
    rw [chkL] at h
    cases hb : badF seen f with
    | true => rw [hb, if_pos rfl] at h; cases h
    | false =>
      rw [hb, if_neg (by decide)] at h
      obtain ⟨h1, h2⟩ := chkL_ok r (seen ++ [f]) h
      unfold badF at hb
      simp only [Bool.or_eq_false_iff, Bool.not_eq_false'] at hb
      obtain ⟨b1, b2, b3, b4⟩ := hb
      have hs : 1 ≤ f.2 ∧ f.2 ≤ 32 := by unfold sizB at b1; simpa using b1
      have hw : sumB (seen ++ [f]) ≤ 256 := by
        have := of_decide_eq_false b4
        omega
      refine ⟨fun g hg => ?_, fun _ => ?_⟩
      · rcases List.mem_cons.1 hg with e | e
        · rw [e]; exact hs
        · exact h1 g e
      · cases r with
        | nil => exact hw
        | cons g r =>
          have := h2 (by simp)
          rw [List.append_assoc] at this
          exact this
theorem chk_ok {L : List IFld} (h : (chkM L).1 = 0) : 0 < L.length ∧ L.length ≤ 12 ∧ (∀ f ∈ L, 1 ≤ f.2 ∧ f.2 ≤ 32) ∧ sumB L ≤ 256 := by
  unfold chkM at h
  by_cases h1 : 12 < L.length
  · rw [if_pos h1] at h; cases h
  · rw [if_neg h1] at h
    by_cases h2 : L.length = 0
    · rw [if_pos h2] at h; cases h
    · rw [if_neg h2] at h
      obtain ⟨a, b⟩ := chkL_ok L [] h
      exact ⟨by omega, by omega, a, b (fun e => h2 (by rw [e]; rfl))⟩
theorem sumB_take_le {L : List IFld} (h : ∀ f ∈ L, 0 ≤ f.2 ∧ f.2 ≤ 32) (j : Nat) : sumB (L.take j) ≤ sumB L := by
  have e : sumB L = sumB (L.take j) + sumB (L.drop j) := by rw [← sumB_app, List.take_append_drop]
  have := (sumB_bound (L.drop j) (fun f hf => h f (List.mem_of_mem_drop hf))).1
  omega
theorem put_next {acc D : List UInt8} {n : Nat} (h : acc.length + D.length ≤ n) : putL (acc ++ List.replicate (n - acc.length) 120) acc.length D = (acc ++ D) ++ List.replicate (n - (acc ++ D).length) 120 := by
  have e : List.replicate (n - acc.length) (120 : UInt8) = List.replicate D.length 120 ++ List.replicate (n - (acc ++ D).length) 120 := by
    rw [List.replicate_append_replicate]
    congr 1
    rw [List.length_append]
    omega
  rw [e, putL_mid D acc _ _ (by simp), List.append_assoc]
set_option maxRecDepth 100000 in
set_option maxHeartbeats 8000000 in
theorem pack_any (L : List IFld) (o : Option Addr) (c : Nat) (V : List Int) (o2 : Option Addr) (c2 : Nat) (w : World) (hL : L.length ≤ 281474976710656) (hc : L.length ≤ c) (hx : ∀ f ∈ L, f.1.length ≤ 281474976710656) (hr : IRF w o L) (hrv : IRV w o2 V) (hv1 : SH w) (hv4 : SG w) (hv5 : VW w) :
    Calls Tryz.prog 36 #[.slice o L.length c, .slice o2 V.length c2] w fun e w' => e = .returned (.tuple #[.string ⟨(pkM L V).1.toArray⟩, .int .i64 (pkM L V).2]) ∧ Below w.heap.size w w' := by
  have HC := check_any L o c w hL hc hx hr hv1 hv4 hv5
  obtain ⟨R, hR⟩ : ∃ R, pkM L V = R := ⟨_, rfl⟩
  rw [hR]
  by_cases h0 : ¬ (chkM L).1 = 0
  · have hres : Hid (R = ([], (chkM L).1)) := by unfold Hid; rw [← hR]; unfold pkM; rw [if_pos h0]
    obtain ⟨ce, hce⟩ : ∃ x, (chkM L).1 = x := ⟨_, rfl⟩
    rw [hce] at HC h0 hres
    have y1 : (ce != 0) = true := by simpa using h0
    clear hx hr hrv hv1 hv4 hv5 hR hce
    go_enter Tryz.func36, Tryz.ntmps36
    go_wp2_with fail
    refine HC.mono ?_
    rintro e W1 ⟨rfl, hb1⟩
    go_wp2_with fail
    refine bodyPost_ret (results_tmp2 rfl _ _ _) rfl ?_
    exact ⟨by rw [hres.out]; rfl, hb1⟩
  replace h0 := Classical.not_not.1 h0
  rw [h0] at HC
  obtain ⟨k1, k2, k3, k4⟩ := chk_ok h0
  by_cases hlen : ¬ V.length = L.length
  · have hres : Hid (R = ([], 1)) := by unfold Hid; rw [← hR]; unfold pkM; rw [if_neg (fun h => h h0), if_pos hlen]
    have y1 : ((V.length : Int) != (L.length : Int)) = true := by simp only [bne_iff_ne]; omega
    clear hx hr hrv hv1 hv4 hv5 hR
    go_enter Tryz.func36, Tryz.ntmps36
    go_wp2_with fail
    refine HC.mono ?_
    rintro e W1 ⟨rfl, hb1⟩
    go_wp2_with fail
    refine bodyPost_ret (results_tmp2 rfl _ _ _) rfl ?_
    exact ⟨by rw [hres.out]; rfl, hb1⟩
  replace hlen := Classical.not_not.1 hlen
  have y1 : ((V.length : Int) != (L.length : Int)) = false := by rw [hlen]; simp
  have hb0 : ∀ f ∈ L, 0 ≤ f.2 ∧ f.2 ≤ 32 := fun f hf => by have := k3 f hf; omega
  obtain ⟨n, hn⟩ : ∃ n : Nat, sumB L = (n : Int) := ⟨(sumB L).toNat, by have := (sumB_bound L hb0).1; omega⟩
  have hn256 : n ≤ 256 := by omega
  have HRF : Hid (pkF (L.drop 0) (V.drop 0) [] = R) := by unfold Hid; rw [← hR]; unfold pkM; rw [if_neg (fun h => h h0), if_neg (fun h => h hlen)]; rfl
  have HR : Hid (IRF w o L) := hr
  have HRV : Hid (IRV w o2 V) := hrv
  have HLV : Hid (V.length = L.length) := hlen
  have HK3 : Hid (∀ f ∈ L, 1 ≤ f.2 ∧ f.2 ≤ 32) := k3
  have HB0 : Hid (∀ f ∈ L, 0 ≤ f.2 ∧ f.2 ≤ 32) := hb0
  have HN : Hid (sumB L = (n : Int)) := hn
  have HBL : Hid (∀ W : World, Below w.heap.size w W → Calls Tryz.prog 30 #[.slice o L.length c] W fun e w' => ∃ K z cp, e = .returned (.slice (some ⟨K, 0, none⟩) n cp) ∧ W.heap.size ≤ K ∧ n ≤ cp ∧ hdr w' K z (List.replicate n 120) ∧ Below W.heap.size W w') := fun W hW => blank_any L o c n W hn hn256 (by omega) hb0 (hr.later hW)
  clear hx hr hrv hv1 hv4 hv5 hR h0 k3 k4 hb0 hn
  go_enter Tryz.func36, Tryz.ntmps36
  go_wp2_with fail
  refine HC.mono ?_
  rintro e W1 ⟨rfl, hb1⟩
  go_wp2_with fail
  refine (HBL.out _ hb1).mono ?_
  rintro e W2 ⟨K, z, cp, rfl, hK1, hcp, hh2, hb2⟩
  have hB2 := bel0 hb1 hb2
  have hwK : w.heap.size ≤ K := Nat.le_trans hb1.size hK1
  clear HC HBL hb1 hb2 hK1
  go_wp2_with fail
  go_loopw [28] (fun vk wr => ∃ (k : Nat) (acc : List UInt8), vk = .int .i64 k ∧ k ≤ L.length ∧ Hid (sumB (L.take k) = (acc.length : Int)) ∧ hdr wr K z (acc ++ List.replicate (n - acc.length) 120) ∧ Hid (pkF (L.drop k) (V.drop k) acc = R) ∧ Below w.heap.size w wr) (fun vk _ => L.length - (intOf vk).toNat)
  case atStart => exact ⟨0, [], rfl, Nat.zero_le _, rfl, hh2, HRF, hB2⟩
  case round =>
    clear HRF hh2 hB2
    obtain ⟨k, acc, rfl, hk, hsum, hh, hrun, hB⟩ := hrel
    by_cases hlt : k < L.length
    · have j1 : (k : Int) < (L.length : Int) := by omega
      have j0 : (0 : Int) ≤ (k : Int) := by omega
      obtain ⟨f, hf⟩ : ∃ f, L[k]? = some f := ⟨_, List.getElem?_eq_getElem hlt⟩
      obtain ⟨v, hv⟩ : ∃ v, V[k]? = some v := ⟨_, List.getElem?_eq_getElem (by rw [HLV.out]; exact hlt)⟩
      have j2 : (k : Int) < (V.length : Int) := by rw [HLV.out]; omega
      obtain ⟨g, o0, rfl, p0, p1⟩ := HR.out wr hB k f hf
      obtain ⟨g2, q0, rfl, -⟩ := HRV.out wr hB k v hv
      have hstep := hrun.out
      rw [pkF_step hf hv] at hstep
      have hbits := HK3.out f (List.mem_of_getElem? hf)
      have hst := sumB_take hf
      rw [hsum.out] at hst
      have hle := sumB_take_le HB0.out (k + 1)
      rw [hst, HN.out] at hle
      obtain ⟨x, bi⟩ := f
      obtain ⟨b, rfl⟩ : ∃ b : Nat, bi = (b : Int) := ⟨bi.toNat, by simp only at hbits; omega⟩
      simp only [Int.toNat_natCast] at p0 p1 hstep hbits hst hle
      have hb1 : 1 ≤ b := by omega
      have hb32 : b ≤ 32 := by omega
      have XV : Hid (∀ W : World, Below w.heap.size w W → W.cell? ⟨g2, q0 + k, none⟩ = some (.int .i64 v)) := fun W hW => by
        obtain ⟨g3, q3, h1, h2⟩ := HRV.out W hW k v hv
        injection h1 with h1
        injection h1 with h1 h4
        subst h1 h4
        exact h2
      obtain ⟨O, hO⟩ : ∃ O : Obj, Obj.cells #[.string ⟨x.toArray⟩, .int .i64 (b : Int)] 39 = O := ⟨_, rfl⟩
      have hBs := hB.size
      have hB2 : Below w.heap.size w (wr.alloc O) := hB.alloc hBs O
      have hh2 : Hid (hdr (wr.alloc O) K z (acc ++ List.replicate (n - acc.length) 120)) := hdr_alloc hh O
      have hbx : (wr.alloc O).heap[wr.heap.size]? = some (.cells #[.string ⟨x.toArray⟩, .int .i64 (b : Int)] 39) := by rw [hO]; exact alloc_get _ _
      have XT : Hid (∀ W : World, Below (wr.alloc O).heap.size (wr.alloc O) W → W.cell? ⟨wr.heap.size, 1, none⟩ = some (.int .i64 (b : Int))) := fun W hW => cell_of_row W _ 1 _ _ _ (keepblk hW hbx)
      have HFT : Hid (∀ W : World, Calls Tryz.prog 52 #[.int .i64 v, .int .i64 (b : Int)] W fun e w' => e = .returned (.bool (decide (0 ≤ v ∧ v ≤ ((2 ^ b - 1 : Nat) : Int)))) ∧ w' = W) := fun W => fits_any v b hb32 W
      obtain ⟨fb, hfb⟩ : ∃ q, decide (0 ≤ v ∧ v ≤ ((2 ^ b - 1 : Nat) : Int)) = q := ⟨_, rfl⟩
      simp only [hfb] at HFT
      have HST : Hid (sumB (L.take (k + 1)) = (acc.length : Int) + (b : Int)) := hst
      have HSTEP : Hid ((if 0 ≤ v ∧ v ≤ ((2 ^ b - 1 : Nat) : Int) then pkF (L.drop (k + 1)) (V.drop (k + 1)) (acc ++ digL b v.toNat 0) else ([], 42)) = R) := hstep
      have HP2 : Hid (2 ^ b ≤ 2 ^ 32) := Nat.pow_le_pow_right (by decide) hb32
      clear hrun hf hv hstep hst hh hbx
      go_wp2_with fail
      try rw [hO]
      refine quiet_lit3 (C := fun W => Below (wr.alloc O).heap.size (wr.alloc O) W) (by kernel_rfl) (by kernel_rfl) (show Below _ _ _ from (Below.refl _ _).drew) ?_
      go_big_quiet_want
      go_big_quiet_op
      go_big_quiet_on
      go_big_quiet_want
      go_big_quiet_op
      go_big_quiet_on
      go_big_quiet_want
      refine ⟨.pointer (some ⟨g2, q0 + k, none⟩), fun W hW => ?_, ?_⟩
      · go_simp
      go_big_quiet_on
      simp only [Act.put, List.setIfInBounds_toArray, List.set_cons_zero, List.set_cons_succ]
      go_big_quiet_want
      refine ⟨.int .i64 v, fun W hW => ?_, ?_⟩
      · have z0 := XV.out W (bel0 hB2 hW)
        go_simp
      go_big_quiet_on
      simp only [Act.put, List.setIfInBounds_toArray, List.set_cons_zero, List.set_cons_succ]
      go_big_quiet_want
      refine ⟨.pointer (some ⟨wr.heap.size, 1, none⟩), fun W hW => ?_, ?_⟩
      · go_simp
      go_big_quiet_on
      simp only [Act.put, List.setIfInBounds_toArray, List.set_cons_zero, List.set_cons_succ]
      go_big_quiet_want
      refine ⟨.int .i64 (b : Int), fun W hW => ?_, ?_⟩
      · have z0 := XT.out W hW
        go_simp
      go_big_quiet_on
      simp only [Act.put, List.setIfInBounds_toArray, List.set_cons_zero, List.set_cons_succ]
      go_big_quiet_want
      refine ⟨.bool fb, fun W hW => ?_, ?_⟩
      · go_simp
        refine (HFT.out W).mono ?_
        rintro e w7 ⟨rfl, rfl⟩
        exact ⟨rfl, by simpa using hW⟩
      go_big_quiet_on
      simp only [Act.put, List.setIfInBounds_toArray, List.set_cons_zero, List.set_cons_succ]
      go_big_quiet_want
      refine ⟨.bool (!fb), fun W hW => ?_, ?_⟩
      · go_simp
      go_big_quiet_on
      simp only [Act.put, List.setIfInBounds_toArray, List.set_cons_zero, List.set_cons_succ]
      refine wpQuiet_nil ?_
      intro W hW
      have hBW := bel0 hB2 hW
      cases fb with
      | false =>
        have hres : Hid (R = ([], 42)) := by unfold Hid; rw [← HSTEP.out, if_neg (of_decide_eq_false hfb)]
        clear HSTEP hfb
        go_wp2_with fail
        refine bodyPost_ret (results_tmp2 rfl _ _ _) rfl ?_
        exact ⟨by rw [hres.out]; rfl, hBW⟩
      | true =>
        have hvb := of_decide_eq_true hfb
        have hgo : Hid (pkF (L.drop (k + 1)) (V.drop (k + 1)) (acc ++ digL b v.toNat 0) = R) := by unfold Hid; rw [← HSTEP.out, if_pos hvb]
        obtain ⟨vn, rfl⟩ : ∃ vn : Nat, v = (vn : Int) := ⟨v.toNat, by omega⟩
        have hvn : vn < 8589934592 := by have := HP2.out; omega
        rw [Int.toNat_natCast] at hgo
        have hDl : Hid ((digL b vn 0).length = b) := digL_len b vn 0 (Nat.zero_le _)
        have HDG : Hid (∀ W : World, Calls Tryz.prog 64 #[.int .i64 (b : Int), .int .i64 (vn : Int), .int .i64 0] W fun e w' => e = .returned (.string ⟨(digL b vn 0).toArray⟩) ∧ Below W.heap.size W w') := fun W => digits_any b vn 0 hb1 hb32 (Nat.zero_le _) hvn W
        obtain ⟨D, hD⟩ : ∃ D, digL b vn 0 = D := ⟨_, rfl⟩
        rw [hD] at hgo hDl
        simp only [hD] at HDG
        have hhW : hdr W K z (acc ++ List.replicate (n - acc.length) 120) := keepblk hW hh2.out
        have HLY : Hid (∀ W' : World, Below W.heap.size W W' → Calls Tryz.prog 31 #[.slice (some ⟨K, 0, none⟩) n cp, .slice (some ⟨g, o0, none⟩) L.length c, .int .i64 (k : Int), .string ⟨D.toArray⟩] W' fun e w' => (∃ v, e = .returned v) ∧ hdr w' K z ((acc ++ D) ++ List.replicate (n - (acc ++ D).length) 120) ∧ Below w.heap.size W' w') := fun W' hW' => by
          have h1 := lay_any L g o0 c k K cp z (acc ++ List.replicate (n - acc.length) 120) D n acc.length w.heap.size W' (by rw [List.length_append, List.length_replicate]; omega) hcp (by have := hsum.out; exact this) (by rw [hDl.out]; omega) (by rw [hDl.out]; omega) (by omega) hc (by omega) HB0.out (HR.out.later (bel0 hBW hW')) (keepblk hW' hhW) hwK (bel0 hBW hW').size
          rw [put_next (by rw [hDl.out]; omega)] at h1
          exact h1
        have XT2 : Hid (∀ W' : World, Below W.heap.size W W' → W'.cell? ⟨wr.heap.size, 1, none⟩ = some (.int .i64 (b : Int))) := fun W' hW' => XT.out W' (bel0 hW hW')
        have HST2 : Hid (sumB (L.take (k + 1)) = ((acc ++ D).length : Int)) := by unfold Hid; rw [HST.out, List.length_append, hDl.out]; omega
        obtain ⟨acc2, ha2⟩ : ∃ a, acc ++ D = a := ⟨_, rfl⟩
        rw [ha2] at hgo HST2
        simp only [ha2] at HLY
        clear HSTEP hfb hD ha2 hvb HFT XT
        simp only [Bool.not_true]
        go_wp2_with fail
        refine quiet_last (C := fun W' => Below W.heap.size W W') (by kernel_rfl) (by kernel_rfl) (by kernel_rfl) (by kernel_rfl) (show Below _ _ _ from (Below.refl _ _).drew) ?_
        simp only [List.dropLast_cons_cons, List.dropLast_singleton]
        go_big_quiet_want
        go_big_quiet_op
        go_big_quiet_on
        go_big_quiet_want
        go_big_quiet_op
        go_big_quiet_on
        go_big_quiet_want
        go_big_quiet_op
        go_big_quiet_on
        go_big_quiet_want
        refine ⟨.pointer (some ⟨wr.heap.size, 1, none⟩), fun W' hW' => ?_, ?_⟩
        · go_simp
        go_big_quiet_on
        simp only [Act.put, List.setIfInBounds_toArray, List.set_cons_zero, List.set_cons_succ]
        go_big_quiet_want
        refine ⟨.int .i64 (b : Int), fun W' hW' => ?_, ?_⟩
        · have z0 := XT2.out W' hW'
          go_simp
        go_big_quiet_on
        simp only [Act.put, List.setIfInBounds_toArray, List.set_cons_zero, List.set_cons_succ]
        go_big_quiet_want
        go_big_quiet_op
        go_big_quiet_on
        go_big_quiet_want
        go_big_quiet_op
        go_big_quiet_on
        go_big_quiet_want
        refine ⟨.pointer (some ⟨g2, q0 + k, none⟩), fun W' hW' => ?_, ?_⟩
        · go_simp
        go_big_quiet_on
        simp only [Act.put, List.setIfInBounds_toArray, List.set_cons_zero, List.set_cons_succ]
        go_big_quiet_want
        refine ⟨.int .i64 (vn : Int), fun W' hW' => ?_, ?_⟩
        · have z0 := XV.out W' (bel0 hBW hW')
          go_simp
        go_big_quiet_on
        simp only [Act.put, List.setIfInBounds_toArray, List.set_cons_zero, List.set_cons_succ]
        go_big_quiet_want
        refine ⟨.string ⟨D.toArray⟩, fun W' hW' => ?_, ?_⟩
        · go_simp
          refine (HDG.out W').mono ?_
          rintro e w7 ⟨rfl, hb⟩
          exact ⟨rfl, bel0 hW' hb⟩
        go_big_quiet_on
        simp only [Act.put, List.setIfInBounds_toArray, List.set_cons_zero, List.set_cons_succ]
        refine wpQuiet_nil ?_
        intro W' hW'
        refine wpOp_go rfl rfl ?_
        go_simp
        refine (HLY.out W' hW').mono ?_
        rintro e W5 ⟨⟨v5, rfl⟩, hh5, hB5⟩
        have hB6 : Below w.heap.size w W5 := (bel0 hBW hW').trans hB5
        clear HLY HDG XT2
        go_wp2_with fail
        go_roundw
        case rel => exact ⟨k + 1, acc2, by go_num, by omega, HST2, hh5, hgo, hB6⟩
        case measure => simp [intOf]; omega
    · have j1 : ¬ (k : Int) < (L.length : Int) := by omega
      have hres : Hid (R = (acc, 0)) := by
        unfold Hid
        rw [← hrun.out, pkF_end (by omega)]
      have hal : acc.length = n := by
        have h1 := hsum.out
        rw [List.take_of_length_le (by omega), HN.out] at h1
        omega
      rw [hal, Nat.sub_self, List.replicate_zero, List.append_nil] at hh
      have hcv := run_convert_bytes_back (P := Tryz.prog) wr 60 9 5 ⟨K, 0, none⟩ cp acc Tryz.underlying60 Tryz.underlying5 Tryz.underlying9 (fun j hj => by
        have := hdr_cell hh hj
        simp only [Addr.add]
        split
        · rename_i h; subst h; exact this
        · simpa using this)
      rw [hal] at hcv
      clear hrun hsum hh hal
      go_wp2_with fail
      refine bodyPost_ret (results_tmp2 rfl _ _ _) rfl ?_
      exact ⟨by rw [hres.out]; rfl, hB⟩
end Go.Proofs.YtnboehlbcjfndaaGreatDoor
