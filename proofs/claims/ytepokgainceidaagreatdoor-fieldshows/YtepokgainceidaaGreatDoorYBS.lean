import Derived.Test.YtepokgainceidaaGreatDoorYAY
import Derived.Test.YtepokgainceidaaGreatDoorYAF
import Derived.Test.YtepokgainceidaaGreatDoorYBH
namespace Go.Proofs.YtepokgainceidaaGreatDoor
open Go.RowKit Go.Shelf
theorem chkL_nm : ∀ (rest seen : List IFld), (chkL seen rest).1 = 0 → ∀ f ∈ rest, f.1.length ≤ 24
  | [], seen, _, f, hf => by simp at hf
  | g :: r, seen, h, f, hf => by
    rw [chkL] at h
    cases hb : badF seen g with
    | true => rw [hb, if_pos rfl] at h; cases h
    | false =>
      rw [hb, if_neg (by decide)] at h
      rcases List.mem_cons.1 hf with e | e
      · unfold badF at hb
        simp only [Bool.or_eq_false_iff, Bool.not_eq_false'] at hb
        rw [e]
        exact nm_len hb.2.1
      · exact chkL_nm r (seen ++ [g]) h f e
theorem chk_nm {L : List IFld} (h : (chkM L).1 = 0) : ∀ f ∈ L, f.1.length ≤ 24 := by
  unfold chkM at h
  by_cases h1 : 12 < L.length
  · rw [if_pos h1] at h; cases h
  · rw [if_neg h1] at h
    by_cases h2 : L.length = 0
    · rw [if_pos h2] at h; cases h
    · rw [if_neg h2] at h
      exact chkL_nm L [] h
def swT (x D : List UInt8) : List (List UInt8) := if D.any dg01 = true then [x ++ [32, 61, 32] ++ tellM D] else []
def swL (L : List IFld) (s : List UInt8) (k : Nat) : List (List UInt8) := (List.range k).flatMap fun i => swT (L.getD i ([], 0)).1 (subL s (plN L i) (plN L i + (L.getD i ([], 0)).2.toNat))
theorem swL_succ {L : List IFld} {s : List UInt8} {k p b : Nat} {x : List UInt8} (hf : L[k]? = some (x, (b : Int))) (hp : sumB (L.take k) = (p : Int)) : swL L s (k + 1) = swL L s k ++ swT x (subL s p (p + b)) := by
  unfold swL plN
  rw [List.range_succ, List.flatMap_append]
  simp only [List.flatMap_cons, List.flatMap_nil, List.append_nil, hp, Int.toNat_natCast]
  rw [show L.getD k ([], 0) = (x, (b : Int)) by simp [List.getD, hf]]
  rfl
theorem swT_len (x D : List UInt8) : (swT x D).length ≤ 1 := by
  unfold swT
  split <;> simp
theorem swL_len (L : List IFld) (s : List UInt8) (k : Nat) : (swL L s k).length ≤ k := by
  induction k with
  | zero => simp [swL]
  | succ k ih =>
    unfold swL at ih ⊢
    rw [List.range_succ, List.flatMap_append, List.length_append]
    simp only [List.flatMap_cons, List.flatMap_nil, List.append_nil]
    have := swT_len (L.getD k ([], 0)).1 (subL s (plN L k) (plN L k + (L.getD k ([], 0)).2.toNat))
    omega
theorem tell_64 {D : List UInt8} (h : D.length ≤ 32) : (tellM D).length ≤ 64 := by
  have hv := valF_4g h
  have h1 := quad_47 _ hv
  have h2 := dec_10 _ hv
  have hc := cnt_le D
  have h3 := dec_10 (cntS D 0 true 0).1 (by omega)
  unfold tellM numW
  split
  · split <;> omega
  · split
    · simp only [List.length_append, List.length_singleton]
      omega
    · simp only [List.length_append, List.length_singleton]
      omega
theorem swL_in {L : List IFld} {s : List UInt8} (hx : ∀ f ∈ L, f.1.length ≤ 24 ∧ 1 ≤ f.2 ∧ f.2 ≤ 32) (k : Nat) (hk : k ≤ L.length) : ∀ t ∈ swL L s k, t.length ≤ 91 ∧ t ≠ [] := by
  intro t ht
  unfold swL at ht
  obtain ⟨i, hi, ht⟩ := List.mem_flatMap.1 ht
  rw [List.mem_range] at hi
  have hf := hx (L.getD i ([], 0)) (by rw [List.getD, List.getElem?_eq_getElem (by omega)]; exact List.getElem_mem _)
  have hD : (subL s (plN L i) (plN L i + (L.getD i ([], 0)).2.toNat)).length ≤ 32 := by
    unfold subL
    rw [List.length_take]
    omega
  have := tell_64 hD
  unfold swT at ht
  split at ht
  · rw [List.mem_singleton.1 ht]
    refine ⟨?_, by simp⟩
    simp only [List.length_append, List.length_cons, List.length_nil]
    omega
  · simp at ht
def swJ (T : List (List UInt8)) : List UInt8 := if T = [] then [97, 110, 121] else Lib.join T [32, 38, 32]
def swM (L : List IFld) (s : List UInt8) : List UInt8 × Int := if (chkM L).1 ≠ 0 then ([], (chkM L).1) else if cuB (sumB L).toNat s = false then ([], 46) else (swJ (swL L s L.length), 0)
theorem bextra6 : Builder.Extra Tryz.prog Tryz.l156_ren where
  sizeBuilder := by kernel_rfl
  liesBuilder := by kernel_rfl
  t5 := Tryz.underlying5
  a5 := Tryz.isAgg5
  z5 := Tryz.sizeOf5
  v5 := Tryz.zeroValue5
  infoByte := by kernel_rfl
  cellsByte := by kernel_rfl
  sizeByte := by kernel_rfl
  neB5 := by decide
theorem join_any (T : List (List UInt8)) (o : Option Addr) (c B : Nat) (W : World) (h0 : T ≠ []) (hT : T.length ≤ 12) (ht : ∀ t ∈ T, t.length ≤ 91) (hown : W.ownsRow B 9 1 (.slice o T.length c) T.length (stx T)) (hc : T.length ≤ c) : Calls Tryz.prog 56 #[.slice o T.length c, .string ⟨#[32, 38, 32]⟩] W fun e w' => e = .returned (.string ⟨(swJ T).toArray⟩) ∧ Below W.heap.size W w' := by
  have hl : 0 < T.length := List.length_pos_iff.2 h0
  obtain ⟨g, rfl⟩ := own_at hown hl
  have hle := join_le (T := T) (sep := [32, 38, 32]) (B := 91) (by decide) ht
  have hm : (T.map fun t => (⟨t.toArray⟩ : ByteArray)).map (fun z => z.data.toList) = T := by
    rw [List.map_map]
    conv => rhs; rw [← List.map_id T]
    rfl
  have hgl : g < W.heap.size := (hown.lt g rfl).2
  have h := Any.strings_Join Tryz.l156 bextra6 g 0 c (T.map fun t => (⟨t.toArray⟩ : ByteArray)) ⟨#[32, 38, 32]⟩ W (fun j x hj => by
    rw [List.getElem?_map] at hj
    cases hx : T[j]? with
    | none => rw [hx] at hj; cases hj
    | some t =>
      rw [hx] at hj
      have hjl : j < T.length := (List.getElem?_eq_some_iff.1 hx).1
      have e : T[j] = t := (List.getElem?_eq_some_iff.1 hx).2
      have h1 := (hown.cellAt j (by omega)).trans (stx_get T j hjl)
      rw [← Option.some.inj hj, Nat.zero_add, h1, e]) hgl (by rw [List.length_map]; omega) (by rw [List.length_map]; omega) (by rw [hm]; show (Lib.join T [32, 38, 32]).length ≤ _; omega)
  rw [hm, List.length_map] at h
  unfold swJ
  rw [if_neg h0]
  exact h
set_option maxRecDepth 100000 in
set_option maxHeartbeats 8000000 in
theorem show_any (L : List IFld) (o : Option Addr) (c : Nat) (s : List UInt8) (w : World) (hL : L.length ≤ 281474976710656) (hc : L.length ≤ c) (hx : ∀ f ∈ L, f.1.length ≤ 281474976710656) (hs : s.length ≤ 281474976710656) (hr : IRF w o L) (hv1 : SH w) (hv4 : SG w) (hv5 : VW w) :
    Calls Tryz.prog 16 #[.slice o L.length c, .string ⟨s.toArray⟩] w fun e w' => e = .returned (.tuple #[.string ⟨(swM L s).1.toArray⟩, .int .i64 (swM L s).2]) ∧ Below w.heap.size w w' := by
  have HC := check_any L o c w hL hc hx hr hv1 hv4 hv5
  obtain ⟨R, hR⟩ : ∃ R, swM L s = R := ⟨_, rfl⟩
  rw [hR]
  by_cases h0 : ¬ (chkM L).1 = 0
  · have hres : Hid (R = ([], (chkM L).1)) := by unfold Hid; rw [← hR]; unfold swM; rw [if_pos h0]
    obtain ⟨ce, hce⟩ : ∃ x, (chkM L).1 = x := ⟨_, rfl⟩
    rw [hce] at HC h0 hres
    have y1 : (ce != 0) = true := by simpa using h0
    clear hx hr hv1 hv4 hv5 hR hce
    go_enter Tryz.func16, Tryz.ntmps16
    go_wp2_with fail
    refine HC.mono ?_
    rintro e W1 ⟨rfl, hb1⟩
    go_wp2_with fail
    refine bodyPost_ret (results_tmp2 rfl _ _ _) rfl ?_
    exact ⟨by rw [hres.out]; rfl, hb1⟩
  replace h0 := Classical.not_not.1 h0
  rw [h0] at HC
  obtain ⟨k1, k2, k3, k4⟩ := chk_ok h0
  have hb0 : ∀ f ∈ L, 0 ≤ f.2 ∧ f.2 ≤ 32 := fun f hf => by have := k3 f hf; omega
  have hnl := chk_nm h0
  have hxx : ∀ f ∈ L, f.1.length ≤ 24 ∧ 1 ≤ f.2 ∧ f.2 ≤ 32 := fun f hf => ⟨hnl f hf, k3 f hf⟩
  obtain ⟨n, hn⟩ : ∃ n : Nat, sumB L = (n : Int) := ⟨(sumB L).toNat, by have := (sumB_bound L hb0).1; omega⟩
  have hn256 : n ≤ 256 := by omega
  have hn1 : 1 ≤ n := by
    obtain ⟨f0, hf0⟩ : ∃ f, L[0]? = some f := ⟨_, List.getElem?_eq_getElem k1⟩
    have h1 := sumB_take hf0
    have h2 := sumB_take_le hb0 (0 + 1)
    have h3 := k3 f0 (List.mem_of_getElem? hf0)
    have h4 : sumB (L.take 0) = 0 := rfl
    omega
  have hsh : swM L s = if cuB n s = false then ([], 46) else (swJ (swL L s L.length), 0) := by unfold swM; rw [if_neg (fun h => h h0), hn, Int.toNat_natCast]
  obtain ⟨f0, hf0⟩ : ∃ f, L[0]? = some f := ⟨_, List.getElem?_eq_getElem k1⟩
  obtain ⟨g, o0, rfl, -⟩ := hr w (Below.refl _ _) 0 f0 hf0
  have HR : Hid (IRF w (some ⟨g, o0, none⟩) L) := hr
  have HK3 : Hid (∀ f ∈ L, 1 ≤ f.2 ∧ f.2 ≤ 32) := k3
  have HB0 : Hid (∀ f ∈ L, 0 ≤ f.2 ∧ f.2 ≤ 32) := hb0
  have HXX : Hid (∀ f ∈ L, f.1.length ≤ 24 ∧ 1 ≤ f.2 ∧ f.2 ≤ 32) := hxx
  have HN : Hid (sumB L = (n : Int)) := hn
  obtain ⟨i0, hi, hz0, hz1, hz2⟩ := info_parts info_str
  have HWD : Hid (∀ W : World, Below w.heap.size w W → Calls Tryz.prog 52 #[.slice (some ⟨g, o0, none⟩) L.length c] W fun e w' => e = .returned (.int .i64 (n : Int)) ∧ Below W.heap.size W w') := fun W hW => by
    have := widthOf_any L (some ⟨g, o0, none⟩) c W (by omega) hb0 (hr.later hW)
    rw [hn] at this
    exact this
  have HIC : Hid (∀ W : World, Calls Tryz.prog 51 #[.string ⟨s.toArray⟩, .int .i64 (n : Int)] W fun e w' => e = .returned (.bool (cuB n s)) ∧ Below W.heap.size W w') := fun W => isCube_any n s W hn1 hn256 hs
  cases hh : cuB n s with
  | false =>
    have hres : Hid (R = ([], 46)) := by unfold Hid; rw [← hR, hsh, hh, if_pos rfl]
    simp only [hh] at HIC
    clear hx hr hR h0 k3 k4 hb0 hn hf0 hsh hh hnl hxx hv1 hv4 hv5
    go_enter Tryz.func16, Tryz.ntmps16
    go_wp2_with fail
    refine HC.mono ?_
    rintro e W1 ⟨rfl, hb1⟩
    go_wp2_with fail
    refine (HWD.out _ hb1).mono ?_
    rintro e W2 ⟨rfl, hb2⟩
    go_wp2_with fail
    refine (HIC.out _).mono ?_
    rintro e W4 ⟨rfl, hb4⟩
    go_wp2_with fail
    refine bodyPost_ret (results_tmp2 rfl _ _ _) rfl ?_
    exact ⟨by rw [hres.out]; rfl, bel0 (bel0 hb1 hb2) hb4⟩
  | true =>
    have hres : Hid (R = (swJ (swL L s L.length), 0)) := by unfold Hid; rw [← hR, hsh, hh, if_neg (by decide)]
    have hh2 := hh
    unfold cuB at hh2
    rw [Bool.and_eq_true, decide_eq_true_eq] at hh2
    obtain ⟨hsn, hs3⟩ := hh2
    simp only [hh] at HIC
    have HS3 : Hid (s.all Tn.tri = true) := hs3
    have HSN : Hid (s.length = n) := hsn
    have HPT : Hid (∀ (W : World) (i b p : Nat) (x : List UInt8), Below w.heap.size w W → L[i]? = some (x, (b : Int)) → sumB (L.take i) = (p : Int) → p + b ≤ s.length → Calls Tryz.prog 53 #[.string ⟨s.toArray⟩, .slice (some ⟨g, o0, none⟩) L.length c, .int .i64 (i : Int)] W fun e w' => e = .returned (.string ⟨(subL s p (p + b)).toArray⟩) ∧ Below W.heap.size W w') := fun W i b p x hW hf hp hpb => part_any s L g o0 c i x b p W hf hp hpb (by omega) hc (by omega) hb0 (hr.later hW)
    have HTE : Hid (∀ (W : World) (D : List UInt8), Below w.heap.size w W → D.length ≤ 32 → D.all Tn.tri = true → Calls Tryz.prog 55 #[.string ⟨D.toArray⟩] W fun e w' => e = .returned (.string ⟨(tellM D).toArray⟩) ∧ Below W.heap.size W w') := fun W D hW h1 h2 => tell_any D W h1 h2 (hv5.below hW).1
    clear hx hr hR h0 k3 k4 hb0 hn hf0 hsh hh hnl hxx hv1 hv4 hv5 hsn hs3
    go_enter Tryz.func16, Tryz.ntmps16
    go_wp2_with fail
    refine HC.mono ?_
    rintro e W1 ⟨rfl, hb1⟩
    go_wp2_with fail
    refine (HWD.out _ hb1).mono ?_
    rintro e W2 ⟨rfl, hb2⟩
    go_wp2_with fail
    refine (HIC.out _).mono ?_
    rintro e W4 ⟨rfl, hb4⟩
    have hB4 := bel0 (bel0 hb1 hb2) hb4
    clear HC HWD HIC hb1 hb2 hb4
    go_wp2_with fail
    go_loopw [8, 27] (fun v vk wr => ∃ (k : Nat) (T : List (List UInt8)), vk = .int .i64 k ∧ k ≤ L.length ∧ T.length ≤ k ∧ Hid (swL L s k = T) ∧ wr.ownsRow w.heap.size 9 1 v T.length (stx T) ∧ Below w.heap.size w wr) (fun _ vk _ => L.length - (intOf vk).toNat)
    case atStart => exact ⟨0, [], rfl, Nat.zero_le _, Nat.zero_le _, rfl, World.ownsRow_nil _ _ _ _, hB4⟩
    case round =>
      clear hB4
      obtain ⟨k, TT, rfl, hk, hTk, hT, hown, hB⟩ := hrel
      obtain ⟨pv, cv, rfl⟩ := shapeP hown
      by_cases hlt : k < L.length
      · have j1 : (k : Int) < (L.length : Int) := by omega
        have j0 : (0 : Int) ≤ (k : Int) := by omega
        obtain ⟨f, hf⟩ : ∃ f, L[k]? = some f := ⟨_, List.getElem?_eq_getElem hlt⟩
        obtain ⟨g9, o9, e9, p0, p1⟩ := HR.out wr hB k f hf
        injection e9 with e9
        injection e9 with e9 e10
        subst e9 e10
        have hbits := HXX.out f (List.mem_of_getElem? hf)
        have hst := sumB_take hf
        have hle := sumB_take_le HB0.out (k + 1)
        rw [hst, HN.out] at hle
        have hge := (sumB_bound (L.take k) (fun f hf => HB0.out f (List.mem_of_mem_take hf))).1
        obtain ⟨x, bi⟩ := f
        obtain ⟨b, rfl⟩ : ∃ b : Nat, bi = (b : Int) := ⟨bi.toNat, by simp only at hbits; omega⟩
        obtain ⟨p, hp⟩ : ∃ p : Nat, sumB (L.take k) = (p : Int) := ⟨(sumB (L.take k)).toNat, by omega⟩
        rw [hp] at hle
        simp only at hle hbits p0 p1
        have hsn := HSN.out
        have hsc := swL_succ (s := s) hf hp
        rw [hT.out] at hsc
        have hpt := fun W hW => HPT.out W k b p x hW hf hp (by omega)
        have hDl : (subL s p (p + b)).length ≤ 32 := by unfold subL; rw [List.length_take]; omega
        have hDt : (subL s p (p + b)).all Tn.tri = true := by
          rw [List.all_eq_true]
          intro d hd
          unfold subL at hd
          exact List.all_eq_true.1 HS3.out d (List.mem_of_mem_drop (List.mem_of_mem_take hd))
        obtain ⟨D, hD⟩ : ∃ D, subL s p (p + b) = D := ⟨_, rfl⟩
        simp only [hD] at hpt hDl hDt hsc
        have HPK : Hid (∀ W : World, Below w.heap.size w W → Calls Tryz.prog 53 #[.string ⟨s.toArray⟩, .slice (some ⟨g, o0, none⟩) L.length c, .int .i64 (k : Int)] W fun e w' => e = .returned (.string ⟨D.toArray⟩) ∧ Below W.heap.size W w') := hpt
        have HA1 : Hid (∀ W : World, Calls Tryz.prog 54 #[.string ⟨D.toArray⟩, .string ⟨#[48, 49]⟩] W fun e w' => e = .returned (.bool (D.any dg01)) ∧ Below W.heap.size W w') := fun W => any01_any D W (by omega) hDt
        have HTD : Hid (∀ W : World, Below w.heap.size w W → Calls Tryz.prog 55 #[.string ⟨D.toArray⟩] W fun e w' => e = .returned (.string ⟨(tellM D).toArray⟩) ∧ Below W.heap.size W w') := fun W hW => HTE.out W D hW hDl hDt
        have htl := tell_64 hDl
        obtain ⟨Y, hY⟩ : ∃ Y, tellM D = Y := ⟨_, rfl⟩
        have hST : swT x D = if D.any dg01 = true then [x ++ [32, 61, 32] ++ Y] else [] := by rw [← hY]; rfl
        rw [hST] at hsc
        simp only [hY] at HTD
        rw [hY] at htl
        obtain ⟨O, hO⟩ : ∃ O : Obj, Obj.cells #[.string ⟨x.toArray⟩, .int .i64 (b : Int)] 51 = O := ⟨_, rfl⟩
        have hBs := hB.size
        have hB2 : Below w.heap.size w (wr.alloc O) := hB.alloc hBs O
        have hown2 : (wr.alloc O).ownsRow w.heap.size 9 1 (.slice pv TT.length cv) TT.length (stx TT) := hown.alloc O
        have hbx : (wr.alloc O).heap[wr.heap.size]? = some (.cells #[.string ⟨x.toArray⟩, .int .i64 (b : Int)] 51) := by rw [hO]; exact alloc_get _ _
        have XT : Hid (∀ W : World, Below (wr.alloc O).heap.size (wr.alloc O) W → W.cell? ⟨wr.heap.size, 0, none⟩ = some (.string ⟨x.toArray⟩)) := fun W hW => cell_of_row W _ 0 _ _ _ (keepblk hW hbx)
        clear hbx hst hD hY hST hf hp hpt hT hown
        cases ha : D.any dg01 with
        | false =>
          rw [ha, if_neg (by decide), List.append_nil] at hsc
          have HSC : Hid (swL L s (k + 1) = TT) := hsc
          simp only [ha] at HA1
          clear hsc ha
          go_wp2_with fail
          try simp only [hO]
          refine (HPK.out _ hB2).mono ?_
          rintro e W5 ⟨rfl, hb5⟩
          go_wp2_with fail
          refine (HA1.out _).mono ?_
          rintro e W6 ⟨rfl, hb6⟩
          have h56 := bel0 hb5 hb6
          go_wp2_with fail
          go_roundw
          case rel => exact ⟨k + 1, TT, by go_num, by omega, by omega, HSC, owns_below hown2 h56, bel0 hB2 h56⟩
          case measure => simp [intOf]; omega
        | true =>
          rw [ha, if_pos rfl] at hsc
          obtain ⟨Z, hZ⟩ : ∃ Z, x ++ [32, 61, 32] ++ Y = Z := ⟨_, rfl⟩
          rw [hZ] at hsc
          have HSC : Hid (swL L s (k + 1) = TT ++ [Z]) := hsc
          have HCT : Hid (ByteArray.mk x.toArray ++ ByteArray.mk #[32, 61, 32] ++ ByteArray.mk Y.toArray = ⟨Z.toArray⟩) := by unfold Hid; rw [← hZ]; exact ByteArray.ext (by simp)
          have HE : Hid (stx (TT ++ [Z]) = stx TT ++ [.string ⟨Z.toArray⟩]) := stx_snoc TT Z
          simp only [ha] at HA1
          clear hsc ha hZ
          go_wp2_with fail
          try simp only [hO]
          refine (HPK.out _ hB2).mono ?_
          rintro e W5 ⟨rfl, hb5⟩
          go_wp2_with fail
          refine (HA1.out _).mono ?_
          rintro e W6 ⟨rfl, hb6⟩
          have h56 := bel0 hb5 hb6
          have hB6 := bel0 hB2 h56
          have hown6 := owns_below hown2 h56
          have hX6 : Hid (∀ W : World, Below W6.heap.size W6 W → W.cell? ⟨wr.heap.size, 0, none⟩ = some (.string ⟨x.toArray⟩)) := fun W hW => XT.out W (bel0 h56 hW)
          clear hown2 XT hB2 hb5 hb6 h56
          go_wp2_with fail
          have hq1 : ¬ 9223372036854775807 < x.length + 3 := by omega
          have hq2 : ¬ 9223372036854775807 < x.length + 3 + Y.length := by omega
          have hx0 := hX6.out W6.drew (Below.refl _ _).drew
          have hx00 := hX6.out W6 (Below.refl _ _)
          have hB6d : Below w.heap.size w W6.drew := hB6.drew
          have hown6d : W6.drew.ownsRow w.heap.size 9 1 (.slice pv TT.length cv) TT.length (stx TT) := owns_below hown6 (Below.refl _ _).drew
          have hX6d : Hid (∀ W : World, Below W6.drew.heap.size W6.drew W → W.cell? ⟨wr.heap.size, 0, none⟩ = some (.string ⟨x.toArray⟩)) := fun W hW => hX6.out W (bel0 (Below.refl _ _).drew hW)
          go_region_law ((first | (refine step_append_lies _ (by rfl) _ _ 25 (by rfl) w.heap.size 9 i0 _ 1 16 Tryz.underlying25 hi hz0 hz1 hz2 rfl (by decide) _ TT.length (stx TT) (by rfl) (hown7.alloc _) ⟨w1.heap.size, 0, none⟩ 1 1 [.string (ByteArray.mk x.toArray ++ ByteArray.mk #[32, 61, 32] ++ ByteArray.mk Y.toArray)] (by rfl) rfl (World.news_of_block (cs := #[.string (ByteArray.mk x.toArray ++ ByteArray.mk #[32, 61, 32] ++ ByteArray.mk Y.toArray)]) (t := 9) (fr := (0, 0)) (heap_alloc_new _ _)) (by simp [Value.oneCell']) (by decide) (by unfold maxLen; omega) (by omega) (by simp; omega) _ rfl ?_; intro g5 c5 w5 oB hg5 _ _) | (go_simp; go_at_call 55; refine (HTD.out _ (by first | exact hB6d | exact hB6)).mono ?_; rintro e w1 ⟨rfl, hb1⟩; have hx1 := (by first | exact hX6d.out w1 hb1 | exact hX6.out w1 hb1 : w1.cell? ⟨wr.heap.size, 0, none⟩ = some (.string ⟨x.toArray⟩)); have hown7 := (by first | exact owns_below hown6d hb1 | exact owns_below hown6 hb1 : w1.ownsRow w.heap.size 9 1 (.slice pv TT.length cv) TT.length (stx TT)); have hB7 := (by first | exact bel0 hB6d hb1 | exact bel0 hB6 hb1 : Below w.heap.size w w1); have hBs7 := hB7.size)))
          all_goals
            go_wp2_with fail
            go_roundw
            case rel => exact ⟨k + 1, TT ++ [Z], by go_num, by omega, by simp; omega, HSC, by rw [HE.out, ← HCT.out, List.length_append]; exact oB, (by first | exact Below.grown ((hB7.alloc hBs7 _).drew) hg5 (by simp; omega) (fun k e => (hown7.lt k e).1) | exact Below.grown ((hB7.drew).alloc hBs7 _) hg5 (by simp; omega) (fun k e => (hown7.lt k e).1) | exact Below.grown (hB7.alloc hBs7 _) hg5 (by simp; omega) (fun k e => (hown7.lt k e).1))⟩
            case measure => simp [intOf]; omega
      · have j1 : ¬ (k : Int) < (L.length : Int) := by omega
        obtain rfl : k = L.length := by omega
        have hin := swL_in HXX.out L.length (Nat.le_refl _) (s := s)
        rw [hT.out] at hin
        by_cases hT0 : TT = []
        · have hR2 : R = ([97, 110, 121], 0) := by rw [hres.out, hT.out, hT0]; rfl
          subst hT0
          have HR2 : Hid (R = ([97, 110, 121], 0)) := hR2
          clear hR2 hT hin hown hres
          go_wp2_with fail
          refine bodyPost_ret (results_tmp2 rfl _ _ _) rfl ?_
          exact ⟨by rw [HR2.out]; rfl, hB⟩
        · have hl0 : 0 < TT.length := List.length_pos_iff.2 hT0
          have j2 : ((TT.length : Int) == 0) = false := by rw [beq_eq_false_iff_ne]; omega
          have HJ : Hid (Calls Tryz.prog 56 #[.slice pv TT.length cv, .string ⟨#[32, 38, 32]⟩] wr fun e w' => e = .returned (.string ⟨(swJ TT).toArray⟩) ∧ Below wr.heap.size wr w') := join_any TT pv cv _ wr hT0 (by omega) (fun t ht => (hin t ht).1) hown (own_capX hown)
          have HR2 : Hid (R = (swJ TT, 0)) := by unfold Hid; rw [hres.out, hT.out]
          clear hT hin hown hres hT0
          go_wp2_with fail
          refine HJ.out.mono ?_
          rintro e W5 ⟨rfl, hb5⟩
          go_wp2_with fail
          refine bodyPost_ret (results_tmp2 rfl _ _ _) rfl ?_
          exact ⟨by rw [HR2.out]; rfl, bel0 hB hb5⟩
end Go.Proofs.YtepokgainceidaaGreatDoor
