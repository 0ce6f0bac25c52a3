import Derived.Test.YtcmajlianphoaaaGreatDoorXBH
import Derived.Test.YtcmajlianphoaaaGreatDoorXBE
import Derived.Test.YtcmajlianphoaaaGreatDoorXBK
import Derived.Test.YtcmajlianphoaaaGreatDoorXAF
import Derived.Laws.IdiomStrings
namespace Go.Proofs.YtcmajlianphoaaaGreatDoor
open Go.RowKit Go.Shelf
theorem bextraE : Builder.Extra Tryz.prog Tryz.l105_ren where
  sizeBuilder := by kernel_rfl
  liesBuilder := by kernel_rfl
  t5 := Tryz.underlying5
  a5 := Tryz.isAgg5
  z5 := Tryz.sizeOf5
  v5 := Tryz.zeroValue5
  infoByte := by kernel_rfl
  cellsByte := by kernel_rfl
  sizeByte := by kernel_rfl
  neB5 := by decide
theorem repeatL_48 (c : Nat) : Lib.repeatL [48] c = List.replicate c 48 := by
  induction c with
  | zero => rfl
  | succ c ih => rw [Lib.repeatL, ih]; rfl
theorem repeat0_any (c : Nat) (hc : c ≤ 256) (w : World) : Calls Tryz.prog 31 #[.string ⟨#[48]⟩, .int .i64 (c : Int)] w fun e w' => e = .returned (.string ⟨(List.replicate c 48).toArray⟩) ∧ Below w.heap.size w w' := by
  have h := Any.strings_Repeat Tryz.l105 bextraE ⟨#[48]⟩ c w (by omega) (by show 1 * c ≤ _; omega)
  rw [repeatL_48] at h
  exact h
/-- what lies there while the least is looked for -/
structure LS (w : World) (S zb T : Nat) (Zr : List UInt8) (R : Loop) (out : List (List UInt8)) (r : Option Nat) (W : World) : Prop where
  rn : r = none
  bx : W.heap[S]? = some (.cells #[.string ⟨(mnL out).toArray⟩] 9 (0, 0))
  bz : W.heap[zb]? = some (.cells #[.int .i64 (Zr.length : Int), .int .u64 (FW Zr 0 : Int), .int .u64 (FW Zr 1 : Int), .int .u64 (FW Zr 2 : Int), .int .u64 (FW Zr 3 : Int), .int .u64 (OW Zr 0 : Int), .int .u64 (OW Zr 1 : Int), .int .u64 (OW Zr 2 : Int), .int .u64 (OW Zr 3 : Int)] 42 (0, 0))
  a3 : W.heap[T + 1 + 1]? = some (.deferred (some []))
  a4 : W.heap[T + 1 + 1 + 1]? = some (.loop R)
  be : Below S w W
  sz : w.heap.size = S
  o1 : S < T
  o2 : zb < T
  o3 : S ≠ zb
def XL (S T k : Nat) : Prop := k = S ∨ k = T + 1 + 1 + 1
theorem LS.below {w : World} {S zb T : Nat} {Zr : List UInt8} {R : Loop} {out : List (List UInt8)} {r : Option Nat} {W W' : World} (h : LS w S zb T Zr R out r W) (hb : Below W.heap.size W W') : LS w S zb T Zr R out r W' := by
  obtain ⟨rn, bx, bz, a3, a4, be, sz, o1, o2, o3⟩ := h
  refine ⟨rn, keepblk3 hb bx, keepblk3 hb bz, keepblk3 hb a3, keepblk3 hb a4, ?_, sz, o1, o2, o3⟩
  rw [← sz] at be ⊢
  exact bel0 be hb
theorem LS.jy (w : World) (S zb T : Nat) (Zr : List UInt8) (R : Loop) (h1 : S < T) : JY (XL S T) (T + 1 + 1 + 1 + 1) (LS w S zb T Zr R) where
  below := fun _ _ _ _ h hb => h.below hb
  set := fun o r W b j v h hb _ => by
    obtain ⟨rn, bx, bz, a3, a4, be, sz, o1, o2, o3⟩ := h
    have hk : ∀ k, k < T + 1 + 1 + 1 + 1 → (W.setCell ⟨b, j, none⟩ v).heap[k]? = W.heap[k]? := fun k hk => Below.heap_setCell _ _ _ _ (by show k ≠ b; omega)
    exact ⟨rn, (hk _ (by omega)).trans bx, (hk _ (by omega)).trans bz, (hk _ (by omega)).trans a3, (hk _ (by omega)).trans a4, be.setCell (p := ⟨b, j, none⟩) (by show S ≤ b; omega) _, sz, o1, o2, o3⟩
  low := fun k hk => by rcases hk with rfl | rfl <;> omega
  size := fun _ _ _ h => lt_of_get3 h.a4
  row := fun o r W k h hr => by rw [h.rn] at hr; cases hr
theorem LS.loop {w : World} {S zb T : Nat} {Zr : List UInt8} {R : Loop} {out : List (List UInt8)} {r : Option Nat} {W : World} (h : LS w S zb T Zr R out r W) (R' : Loop) : LS w S zb T Zr R' out r (W.putObj (T + 1 + 1 + 1) (.loop R')) := by
  obtain ⟨rn, bx, bz, a3, a4, be, sz, o1, o2, o3⟩ := h
  have hn : S ≤ W.heap.size := by have := lt_of_get3 a4; omega
  exact ⟨rn, put_otherE bx (by omega), put_otherE bz (by omega), put_otherE a3 (by omega), World.putObj_heap_same (lt_of_get3 a4), be.grown (grownBy_putObj' W _ _) hn (fun x e => by cases e; omega), sz, o1, o2, o3⟩
attribute [local go_sem] Oper.semAt_some
set_option maxRecDepth 100000 in
set_option maxHeartbeats 16000000 in
theorem least1_any
    (hin : ∀ (b : Int) (p : Option Addr) (n cp : Nat) (w : World), Calls Tryz.prog 37 #[.agg #[.int .i64 b, .slice p n cp, .bool false]] w fun e w' => e = .returned (.agg #[.int .i64 b, .slice p n cp, .bool false]) ∧ Below w.heap.size w w')
    (nb : Nat) (Z : List ZT) (n : Nat) (p : Option Addr) (cp c1 c2 Mx : Nat) (w : World) (hnb1 : 1 ≤ nb) (hnb2 : nb ≤ 256) (hZ : Z.length = n) (hn : n ≤ 128) (hMx : Mx ≤ 2048)
    (d1 : w.heap[c1]? = some (.cells #[.int .i64 (nb : Int), .slice p n cp, .bool false] 26 (0, 0))) (d2 : w.heap[c2]? = some (.cells #[.int .i64 (Mx : Int)] 3 (0, 0))) (ht : TRC w (fun _ => False) none p Z) (hg : ∀ z ∈ Z, good z.c = true ∧ gdW z.c.length z.L ∧ z.L.length ≤ 128) (hw : ∀ z ∈ Z, z.c.length = nb) :
    Calls Tryz.prog 29 #[.pointer (some ⟨c1, 0, none⟩), .pointer (some ⟨c2, 0, none⟩)] w fun e w' => Below w.heap.size w w' ∧ ((∃ R, exE splT Mx [] (Z.map ctZ) = some R ∧ e = .returned (.string ⟨(mnL R).toArray⟩)) ∨ (exE splT Mx [] (Z.map ctZ) = none ∧ e = .panicked [{ v := .iface 99 (.agg #[]), recovered := false }])) := by
  obtain ⟨b, hb⟩ : ∃ b : Int, (nb : Int) = b := ⟨_, rfl⟩
  obtain ⟨Zr, hZr⟩ : ∃ Zr, List.replicate nb (48 : UInt8) = Zr := ⟨_, rfl⟩
  have gZ : good Zr = true := by rw [← hZr]; exact good_zero nb hnb2
  have hZl : Zr.length = nb := by rw [← hZr]; simp
  have HRP : Hid (∀ V, Calls Tryz.prog 31 #[.string ⟨#[48]⟩, .int .i64 b] V fun e w' => e = .returned (.string ⟨Zr.toArray⟩) ∧ Below V.heap.size V w') := fun V => by
    have := repeat0_any nb hnb2 V
    rw [hZr, hb] at this
    exact this
  have HPA : Hid (∀ V, Calls Tryz.prog 30 #[.string ⟨Zr.toArray⟩] V fun e w' => e = .returned (.tuple #[.agg #[.int .i64 (Zr.length : Int), .int .u64 (FW Zr 0 : Int), .int .u64 (FW Zr 1 : Int), .int .u64 (FW Zr 2 : Int), .int .u64 (FW Zr 3 : Int), .int .u64 (OW Zr 0 : Int), .int .u64 (OW Zr 1 : Int), .int .u64 (OW Zr 2 : Int), .int .u64 (OW Zr 3 : Int)], .int .i64 (refP Zr)]) ∧ Below V.heap.size V w') := fun V => parse_D ⟨Zr.toArray⟩ V (by show Zr.length ≤ _; unfold maxLen; omega) Zr (refP Zr) (cubeT_good Zr gZ) rfl
  rw [hb] at d1
  have hcf : ∀ j, (w.alloc (.cells #[.string ⟨#[]⟩] 9)).cell? ⟨c1, j, none⟩ = (#[.int .i64 b, .slice p n cp, .bool false] : Array Value)[j]? := (cells_block (allocblk3 d1 _)).1
  have HD : Hid (w.heap[c1]? = some (.cells #[.int .i64 b, .slice p n cp, .bool false] 26 (0, 0)) ∧ w.heap[c2]? = some (.cells #[.int .i64 (Mx : Int)] 3 (0, 0))) := ⟨d1, d2⟩
  have HZ : Hid (Zr.length = nb ∧ good Zr = true ∧ List.replicate nb (48 : UInt8) = Zr) := ⟨hZl, gZ, hZr⟩
  clear d1 d2 hZl gZ hZr hb
  refine (callsIn_wide (n := 4)).1 ?_
  refine callsIn_of_wp_marks Tryz.func29 rfl trivial ?_ rfl
  simp only [Tryz.ntmps29, List.size_toArray, List.length_cons, List.length_nil, Nat.reduceAdd, Nat.reduceSub, Array.replicate_succ, Array.replicate_zero, List.push_toArray, List.append_toArray, List.nil_append, List.cons_append]
  gi_wp2_with (first | (refine ⟨trivial, ?_⟩; gi_at_call 31; refine (callsIn_wide.2 (HRP.out _)).mono ?_; rintro e w2 ⟨rfl, hb2⟩) | (refine ⟨trivial, ?_⟩; gi_at_call 30; refine (callsIn_wide.2 (HPA.out _)).mono ?_; rintro e w3 ⟨rfl, hb3⟩; have hbw : Below w.heap.size w w3 := bel0 (bel0 (belA (Below.refl _ _) _) hb2) hb3; have hcc1 : ∀ j, (w3.alloc (.cells #[.int .i64 (Zr.length : Int), .int .u64 (FW Zr 0 : Int), .int .u64 (FW Zr 1 : Int), .int .u64 (FW Zr 2 : Int), .int .u64 (FW Zr 3 : Int), .int .u64 (OW Zr 0 : Int), .int .u64 (OW Zr 1 : Int), .int .u64 (OW Zr 2 : Int), .int .u64 (OW Zr 3 : Int)] 42)).cell? ⟨c1, j, none⟩ = (#[.int .i64 b, .slice p n cp, .bool false] : Array Value)[j]? := (cells_block (allocblk3 (keepblk3 hbw HD.out.1) _)).1; have hcc2 : (w3.alloc (.cells #[.int .i64 (Zr.length : Int), .int .u64 (FW Zr 0 : Int), .int .u64 (FW Zr 1 : Int), .int .u64 (FW Zr 2 : Int), .int .u64 (FW Zr 3 : Int), .int .u64 (OW Zr 0 : Int), .int .u64 (OW Zr 1 : Int), .int .u64 (OW Zr 2 : Int), .int .u64 (OW Zr 3 : Int)] 42)).cell? ⟨c2, 0, none⟩ = some (.int .i64 (Mx : Int)) := (cells_block (allocblk3 (keepblk3 hbw HD.out.2) _)).1 0) | (refine ⟨trivial, ?_⟩; gi_at_call 27; refine (callsIn_wide.2 (plain_any b p n cp (Mx : Int) _)).mono ?_; rintro e w' ⟨rfl, rfl⟩))
  clear hcc1 hcc2 hcf
  have HW3 : Hid (Below w.heap.size w w3 ∧ w.heap.size < w3.heap.size ∧ w3.heap[w.heap.size]? = some (.cells #[.string ⟨#[]⟩] 9 (0, 0))) := ⟨hbw, by have h1 := hb2.size; have h2 := hb3.size; simp at h1; omega, keepblk3 hb3 (keepblk3 hb2 (alloc_get _ _))⟩
  clear hb2 hb3 hbw
  refine range_byP rfl (by omega) (gf := 46) (lb := #[.pointer (some ⟨w3.heap.size + 1, 0, none⟩), .pointer (some ⟨w3.heap.size + 1 + 1, 0, none⟩)]) rfl trivial (enters_of Tryz.func46 (by kernel_rfl) rfl) ?_
  intro fn hfn
  obtain ⟨S, hS⟩ : ∃ S, w.heap.size = S := ⟨_, rfl⟩
  have Hs : Hid (w.heap.size = S) := hS
  obtain ⟨U, hU⟩ : ∃ U, w3.heap.size = U := ⟨_, rfl⟩
  simp only [World.size_alloc, hS, hU]
  generalize hR : recOf fn _ _ _ _ _ = R
  have rs : R.state = .ready := by rw [← hR]; rfl
  have rp : R.pending = none := by rw [← hR]; rfl
  have rf : R.fn = fn := by rw [← hR]; rfl
  have rq : R.params = #[18] := by rw [← hR]; rfl
  have hSU : S < U := by rw [← hS, ← hU]; exact HW3.out.2.1
  obtain ⟨wz, hwz⟩ : ∃ wz, w3.alloc (.cells #[.int .i64 (Zr.length : Int), .int .u64 (FW Zr 0 : Int), .int .u64 (FW Zr 1 : Int), .int .u64 (FW Zr 2 : Int), .int .u64 (FW Zr 3 : Int), .int .u64 (OW Zr 0 : Int), .int .u64 (OW Zr 1 : Int), .int .u64 (OW Zr 2 : Int), .int .u64 (OW Zr 3 : Int)] 42) = wz := ⟨_, rfl⟩
  have hzz : wz.heap.size = U + 1 := by rw [← hwz]; simp [hU]
  have gz1 : wz.heap[S]? = some (.cells #[.string ⟨#[]⟩] 9 (0, 0)) := by rw [← hwz, ← hS]; exact allocblk3 HW3.out.2.2 _
  have gz2 : wz.heap[U]? = some (.cells #[.int .i64 (Zr.length : Int), .int .u64 (FW Zr 0 : Int), .int .u64 (FW Zr 1 : Int), .int .u64 (FW Zr 2 : Int), .int .u64 (FW Zr 3 : Int), .int .u64 (OW Zr 0 : Int), .int .u64 (OW Zr 1 : Int), .int .u64 (OW Zr 2 : Int), .int .u64 (OW Zr 3 : Int)] 42 (0, 0)) := by rw [← hwz, ← hU]; exact alloc_get _ _
  have gzB : Below w.heap.size w wz := by rw [← hwz]; exact belA HW3.out.1 _
  rw [hwz]
  obtain ⟨wp, hwp⟩ : ∃ wp, (wz.alloc (.cells #[.int .i64 b, .slice p n cp, .bool false] 26)).alloc (.cells #[.int .i64 (Mx : Int)] 3) = wp := ⟨_, rfl⟩
  have hzp : wp.heap.size = U + 1 + 1 + 1 := by rw [← hwp]; simp [hzz]
  have gp1 : wp.heap[U + 1]? = some (.cells #[.int .i64 b, .slice p n cp, .bool false] 26 (0, 0)) := by rw [← hwp, ← hzz]; exact alw_0 _ _ _
  have gp2 : wp.heap[U + 1 + 1]? = some (.cells #[.int .i64 (Mx : Int)] 3 (0, 0)) := by rw [← hwp, ← hzz]; exact alw_1 _ _ _
  have gp3 : wp.heap[S]? = some (.cells #[.string ⟨#[]⟩] 9 (0, 0)) := by rw [← hwp]; exact allocblk3 (allocblk3 gz1 _) _
  have gp4 : wp.heap[U]? = some (.cells #[.int .i64 (Zr.length : Int), .int .u64 (FW Zr 0 : Int), .int .u64 (FW Zr 1 : Int), .int .u64 (FW Zr 2 : Int), .int .u64 (FW Zr 3 : Int), .int .u64 (OW Zr 0 : Int), .int .u64 (OW Zr 1 : Int), .int .u64 (OW Zr 2 : Int), .int .u64 (OW Zr 3 : Int)] 42 (0, 0)) := by rw [← hwp]; exact allocblk3 (allocblk3 gz2 _) _
  have gpB : Below w.heap.size w wp := by rw [← hwp]; exact belA (belA gzB _) _
  rw [hwp]
  obtain ⟨W0, hW0⟩ : ∃ W0, (wp.alloc (.deferred (some []))).alloc (.loop R) = W0 := ⟨_, rfl⟩
  have q0 : LS w S U (U + 1) Zr R [] none W0 := by
    rw [← hW0]
    refine ⟨rfl, allocblk3 (allocblk3 gp3 _) _, allocblk3 (allocblk3 gp4 _) _, ?_, ?_, ?_, hS, by omega, by omega, by omega⟩
    · rw [← hzp]; exact alw_0 _ _ _
    · have h1 := alw_1 wp (.deferred (some [])) (.loop R)
      rw [hzp] at h1
      exact h1
    · rw [← hS]; exact belA (belA gpB _) _
  have z1 : W0.heap[U + 1]? = some (.cells #[.int .i64 b, .slice p n cp, .bool false] 26 (0, 0)) := by rw [← hW0]; exact allocblk3 (allocblk3 gp1 _) _
  have z2 : W0.heap[U + 1 + 1]? = some (.cells #[.int .i64 (Mx : Int)] 3 (0, 0)) := by rw [← hW0]; exact allocblk3 (allocblk3 gp2 _) _
  clear gz1 gz2 gzB gp1 gp2 gp3 gp4 gpB
  have HB : YLD (XL S (U + 1)) (LS w S U (U + 1) Zr R) (fun _ => False) (U + 1 + 1 + 1 + 1) 2 nb := by
    intro o r W x q hol gx hx
    obtain ⟨y, hy⟩ : ∃ y, lsT x = y := ⟨_, rfl⟩
    have hwt : wtT Zr x = y := by
      unfold wtT
      rw [if_pos (show fitB Zr x = true by
        unfold fitB
        have h1 := HZ.out.1
        cases hzr : Zr with
        | nil => rw [hzr] at h1; simp at h1; omega
        | cons a t => rw [hzr] at h1; simp at h1 ⊢; omega), ← HZ.out.2.2, wr_zero nb x hx]
      exact hy
    have gy : good y = true := by
      rw [← hwt]
      exact good_wtT Zr x HZ.out.2.1 gx
    have HWR : Hid (∀ V, Calls Tryz.prog 32 #[.agg #[.int .i64 (Zr.length : Int), .int .u64 (FW Zr 0 : Int), .int .u64 (FW Zr 1 : Int), .int .u64 (FW Zr 2 : Int), .int .u64 (FW Zr 3 : Int), .int .u64 (OW Zr 0 : Int), .int .u64 (OW Zr 1 : Int), .int .u64 (OW Zr 2 : Int), .int .u64 (OW Zr 3 : Int)], .agg #[.int .i64 (x.length : Int), .int .u64 (FW x 0 : Int), .int .u64 (FW x 1 : Int), .int .u64 (FW x 2 : Int), .int .u64 (FW x 3 : Int), .int .u64 (OW x 0 : Int), .int .u64 (OW x 1 : Int), .int .u64 (OW x 2 : Int), .int .u64 (OW x 3 : Int)]] V fun e w' => e = .returned (.agg #[.int .i64 (y.length : Int), .int .u64 (FW y 0 : Int), .int .u64 (FW y 1 : Int), .int .u64 (FW y 2 : Int), .int .u64 (FW y 3 : Int), .int .u64 (OW y 0 : Int), .int .u64 (OW y 1 : Int), .int .u64 (OW y 2 : Int), .int .u64 (OW y 3 : Int)]) ∧ Below V.heap.size V w') := fun V => write_D Zr x y V hwt
    have HTX : Hid (∀ V, Calls Tryz.prog 13 #[.agg #[.int .i64 (y.length : Int), .int .u64 (FW y 0 : Int), .int .u64 (FW y 1 : Int), .int .u64 (FW y 2 : Int), .int .u64 (FW y 3 : Int), .int .u64 (OW y 0 : Int), .int .u64 (OW y 1 : Int), .int .u64 (OW y 2 : Int), .int .u64 (OW y 3 : Int)]] V fun e w' => e = .returned (.string ⟨y.toArray⟩) ∧ Below V.heap.size V w') := fun V => text_any y V gy
    obtain ⟨a, ha⟩ : ∃ a, mnL o = a := ⟨_, rfl⟩
    obtain ⟨q1, hq1⟩ : ∃ q, Op.bytesLess y a = q := ⟨_, rfl⟩
    have HM : Hid (mnL o = a ∧ mnL (o ++ [x]) = if a = [] then y else if q1 = true then y else a) := by
      refine ⟨ha, ?_⟩
      rw [mnL_snoc, ha, hy]
      unfold mnF ltS
      rw [hq1]
    clear gx hx hwt gy hy ha
    have hrn := q.rn
    subst hrn
    obtain ⟨W1, hW1⟩ : ∃ W1, W.alloc (.cells #[.int .i64 (x.length : Int), .int .u64 (FW x 0 : Int), .int .u64 (FW x 1 : Int), .int .u64 (FW x 2 : Int), .int .u64 (FW x 3 : Int), .int .u64 (OW x 0 : Int), .int .u64 (OW x 1 : Int), .int .u64 (OW x 2 : Int), .int .u64 (OW x 3 : Int)] 42 (0, 0)) = W1 := ⟨_, rfl⟩
    have hB1 : Below W.heap.size W W1 := by rw [← hW1]; exact belA (Below.refl _ _) _
    have hg1 : W1.heap[W.heap.size]? = some (.cells #[.int .i64 (x.length : Int), .int .u64 (FW x 0 : Int), .int .u64 (FW x 1 : Int), .int .u64 (FW x 2 : Int), .int .u64 (FW x 3 : Int), .int .u64 (OW x 0 : Int), .int .u64 (OW x 1 : Int), .int .u64 (OW x 2 : Int), .int .u64 (OW x 3 : Int)] 42 (0, 0)) := by rw [← hW1]; exact alloc_get _ _
    have p1 := q.below hB1
    have qb := p1.loop { R with state := .busy }
    refine (round_byA (F := Fence.wide) (m := 2) (In := fun W' => YK (XL S (U + 1)) none W none W' ∧ LS w S U (U + 1) Zr R (o ++ [x]) none W') (Out := fun _ _ => False) (by rw [rf]; exact hfn) q.a4 rs rp (by rw [rq]; rfl) ?a1 W1 p1.a4 ?has ?hb).mono ?_
    case has =>
      intro K hK
      rw [congrArg Loop.assign hR.symm, rq, congrArg Loop.tmps hR.symm]
      simp only [recOf]
      gi_wp2
      exact hK
    case hb =>
      have hlW : U + 1 + 1 + 1 + 1 < W.heap.size := lt_of_get3 q.a4
      have hgb : (W1.putObj (U + 1 + 1 + 1 + 1) (.loop { R with state := .busy })).heap[W.heap.size]? = some (.cells #[.int .i64 (x.length : Int), .int .u64 (FW x 0 : Int), .int .u64 (FW x 1 : Int), .int .u64 (FW x 2 : Int), .int .u64 (FW x 3 : Int), .int .u64 (OW x 0 : Int), .int .u64 (OW x 1 : Int), .int .u64 (OW x 2 : Int), .int .u64 (OW x 3 : Int)] 42 (0, 0)) := put_otherE hg1 (by omega)
      have hyb : YK (XL S (U + 1)) none W none (W1.putObj (U + 1 + 1 + 1 + 1) (.loop { R with state := .busy })) := ⟨by simp; exact hB1.size, fun k hk hx hr => ⟨(World.putObj_heap_other (fun e => hx (.inr e))).trans (hB1.block k hk), hr⟩⟩
      obtain ⟨V, hV⟩ : ∃ V, W1.putObj (U + 1 + 1 + 1 + 1) (.loop { R with state := .busy }) = V := ⟨_, rfl⟩
      rw [hV] at qb hgb hyb ⊢
      rw [congrArg Loop.body hR.symm]
      simp only [recOf]
      clear hV
      have HQ : Hid (LS w S U (U + 1) Zr { R with state := .busy } o none V ∧ YK (XL S (U + 1)) none W none V) := ⟨qb, hyb⟩
      have c4 := (cells_block qb.bz).1
      have c6 := (cells_block hgb).1
      have HFIN : Hid (∀ V3, Below V.heap.size V V3 → (a = [] ∨ q1 = true → (V3.setCell ⟨S, 0, none⟩ (.string ⟨y.toArray⟩)).heap[U + 1 + 1 + 1 + 1]? = some (.loop { R with state := .busy }) ∧ YK (XL S (U + 1)) none W none ((V3.setCell ⟨S, 0, none⟩ (.string ⟨y.toArray⟩)).putObj (U + 1 + 1 + 1 + 1) (.loop R)) ∧ LS w S U (U + 1) Zr R (o ++ [x]) none ((V3.setCell ⟨S, 0, none⟩ (.string ⟨y.toArray⟩)).putObj (U + 1 + 1 + 1 + 1) (.loop R))) ∧ (¬ a = [] → q1 = false → V3.heap[U + 1 + 1 + 1 + 1]? = some (.loop { R with state := .busy }) ∧ YK (XL S (U + 1)) none W none (V3.putObj (U + 1 + 1 + 1 + 1) (.loop R)) ∧ LS w S U (U + 1) Zr R (o ++ [x]) none (V3.putObj (U + 1 + 1 + 1 + 1) (.loop R)))) := fun V3 hV3 => by
        obtain ⟨rn, bx, bz, a3, a4, be, sz, o1, o2, o3⟩ := HQ.out.1.below hV3
        have hyk : YK (XL S (U + 1)) none W none V3 := HQ.out.2.trans (YK.below hV3)
        refine ⟨fun hc => ?_, fun hc1 hc2 => ?_⟩
        · have e1 : mnL (o ++ [x]) = y := by
            rw [HM.out.2]
            rcases hc with h | h
            · rw [if_pos h]
            · rw [if_pos h]; split <;> rfl
          have qx : LS w S U (U + 1) Zr { R with state := .busy } (o ++ [x]) none (V3.setCell ⟨S, 0, none⟩ (.string ⟨y.toArray⟩)) := by
            refine ⟨rfl, by rw [e1]; exact set_oneE _ bx, (Below.heap_setCell _ _ _ _ (by show U ≠ S; omega)).trans bz, (Below.heap_setCell _ _ _ _ (by show U + 1 + 1 + 1 ≠ S; omega)).trans a3, (Below.heap_setCell _ _ _ _ (by show U + 1 + 1 + 1 + 1 ≠ S; omega)).trans a4, be.setCell (p := ⟨S, 0, none⟩) (by show S ≤ S; omega) _, sz, o1, o2, o3⟩
          refine ⟨qx.a4, ⟨?_, fun k hk hx hr => ?_⟩, qx.loop R⟩
          · have h1 := hyk.1
            simp
            omega
          · obtain ⟨y1, -⟩ := hyk.2 k hk hx hr
            exact ⟨(World.putObj_heap_other (fun e => hx (.inr e))).trans ((Below.heap_setCell _ _ _ _ (fun e => hx (.inl e))).trans y1), hr⟩
        · have e1 : mnL (o ++ [x]) = mnL o := by rw [HM.out.2, if_neg hc1, hc2, if_neg (by simp), HM.out.1]
          have qx : LS w S U (U + 1) Zr { R with state := .busy } (o ++ [x]) none V3 := ⟨rfl, by rw [e1]; exact bx, bz, a3, a4, be, sz, o1, o2, o3⟩
          refine ⟨a4, ⟨?_, fun k hk hx hr => ?_⟩, qx.loop R⟩
          · have h1 := hyk.1
            simp
            omega
          · obtain ⟨y1, -⟩ := hyk.2 k hk hx hr
            exact ⟨(World.putObj_heap_other (fun e => hx (.inr e))).trans y1, hr⟩
      have HBX : Hid (∀ V3, Below V.heap.size V V3 → V3.heap[S]? = some (.cells #[.string ⟨a.toArray⟩] 9 (0, 0))) := fun V3 hV3 => by
        have h1 := (HQ.out.1.below hV3).bx
        rw [HM.out.1] at h1
        exact h1
      clear qb hyb hgb
      by_cases hae : a = []
      · subst hae
        gi_wp2_with (first | (refine ⟨trivial, ?_⟩; gi_at_call 32; refine (CallsIn.inRound _ (callsIn_wide.2 (HWR.out _))).mono ?_; rintro e V2 ⟨rfl, hb2⟩) | (refine ⟨trivial, ?_⟩; gi_at_call 13; refine (CallsIn.inRound _ (callsIn_wide.2 (HTX.out _))).mono ?_; rintro e V3 ⟨rfl, hb3⟩; have hb3' := bel0 hb2 hb3; have hbx := HBX.out V3 hb3'; have cS := cell_ofE hbx; have fS := froz_ofE hbx))
        exact (HFIN.out V3 hb3').1 (.inl (by trivial))
      · have hae1 : (a == []) = false := by simpa using hae
        cases q1 with
        | true =>
          gi_wp2_with (first | (refine ⟨trivial, ?_⟩; gi_at_call 32; refine (CallsIn.inRound _ (callsIn_wide.2 (HWR.out _))).mono ?_; rintro e V2 ⟨rfl, hb2⟩) | (refine ⟨trivial, ?_⟩; gi_at_call 13; refine (CallsIn.inRound _ (callsIn_wide.2 (HTX.out _))).mono ?_; rintro e V3 ⟨rfl, hb3⟩; have hb3' := bel0 hb2 hb3; have hbx := HBX.out V3 hb3'; have cS := cell_ofE hbx; have fS := froz_ofE hbx))
          exact (HFIN.out V3 hb3').1 (.inr (by trivial))
        | false =>
          gi_wp2_with (first | (refine ⟨trivial, ?_⟩; gi_at_call 32; refine (CallsIn.inRound _ (callsIn_wide.2 (HWR.out _))).mono ?_; rintro e V2 ⟨rfl, hb2⟩) | (refine ⟨trivial, ?_⟩; gi_at_call 13; refine (CallsIn.inRound _ (callsIn_wide.2 (HTX.out _))).mono ?_; rintro e V3 ⟨rfl, hb3⟩; have hb3' := bel0 hb2 hb3; have hbx := HBX.out V3 hb3'; have cS := cell_ofE hbx; have fS := froz_ofE hbx))
          exact (HFIN.out V3 hb3').2 hae (by trivial)
    rintro e W' (⟨he, h1, h2⟩ | ⟨he, c, h⟩)
    · exact ⟨none, h1, .inl ⟨he, h2⟩⟩
    · exact h.elim
  have hgo := plain1_any (LS.jy w S U (U + 1) Zr R (by omega)) hin b Z n p cp (U + 1) (U + 1 + 1) Mx none W0 (fun z hz => by rw [hw z hz]; exact HB) hZ hn (by omega) (.inl hMx) q0 z1 z2 (by rintro (h | h) <;> omega) (by simp) (ht.ofW (by have := q0.be; rw [← hS] at this; exact this) (by rintro k (h | h) <;> omega)) hg
  rw [hW0]
  refine (callsIn_wide.2 hgo).mono ?_
  rintro e W (⟨v, r', R', rfl, hx, q⟩ | ⟨v, rfl, hf⟩ | ⟨rfl, hx, o', r', q⟩)
  · refine .inl ⟨⟨v, rfl⟩, R, q.a4, (fun e => by rw [rs] at e; cases e), .inl ⟨rp, ?_⟩⟩
    have q2 := q.loop { R with state := .exhausted }
    obtain ⟨V, hV⟩ : ∃ V, W.putObj (U + 1 + 1 + 1 + 1) (.loop { R with state := .exhausted }) = V := ⟨_, rfl⟩
    rw [hV] at q2 ⊢
    clear hV
    have c3 := cell_ofE q2.bx
    have HQ : Hid (V.heap[U + 1 + 1 + 1]? = some (.deferred (some [])) ∧ Below S w V ∧ exE splT Mx [] (Z.map ctZ) = some R') := ⟨q2.a3, q2.be, hx⟩
    clear q q2 hx
    gi_wp2
    refine ⟨by simp, .inl ⟨_, _, rfl, run_takeDeferred HQ.out.1, ?_⟩⟩
    exact ⟨_, results_tmp rfl _ _ _, done_beE Hs.out HQ.out.2.1 _ (by omega), .inl ⟨R', HQ.out.2.2, rfl⟩⟩
  · exact hf.elim
  · refine .inr ⟨_, rfl, ?_⟩
    refine ⟨by simp, .inl ⟨_, _, rfl, run_takeDeferred q.a3, ?_⟩⟩
    exact ⟨done_beE Hs.out q.be _ (by omega), .inr ⟨hx, rfl⟩⟩
end Go.Proofs.YtcmajlianphoaaaGreatDoor
