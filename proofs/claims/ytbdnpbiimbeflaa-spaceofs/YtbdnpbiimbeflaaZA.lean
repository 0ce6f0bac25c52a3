import Derived.Test.YtbdnpbiimbeflaaDC
import Derived.Deep.AppendLies
import Derived.Test.YtbdnpbiimbeflaaQX
import Derived.BigQuiet
import Derived.Test.YtbdnpbiimbeflaaQM
import Derived.RangeFuncBox
import Derived.OneCell
namespace Go.Proofs.Ytbdnpbiimbeflaa
open Go.RowKit Go.Shelf
theorem res_rt2 {fn : Func} {p u : Tmp} {m : Nat × Nat} (tmps : Array Value) (W : World) (b : Nat) (v0 v1 : Value) (hr : fn.results = #[.cell p 57, .tmp u]) (hp : tmps.getD p undef = .pointer (some ⟨b, 0, none⟩)) (h : W.heap[b]? = some (.cells #[v0, v1] 57 m)) :
    (results fn tmps).run Try.prog W = .ok (.tuple #[.agg #[v0, v1], tmps.getD u undef]) W := by
  have hc : ∀ j, W.cell? ⟨b, j, none⟩ = (#[v0, v1] : Array Value)[j]? := by
    intro j; unfold World.cell?; rw [h]; simp
  rw [results_cell_tmp hr, hp]
  simp [go_sem, hc]
theorem res_rs2 {fn : Func} {p u : Tmp} {m : Nat × Nat} (tmps : Array Value) (W : World) (b : Nat) (v0 v1 : Value) (hr : fn.results = #[.cell p 40, .tmp u]) (hp : tmps.getD p undef = .pointer (some ⟨b, 0, none⟩)) (h : W.heap[b]? = some (.cells #[v0, v1] 40 m)) :
    (results fn tmps).run Try.prog W = .ok (.tuple #[.agg #[v0, v1], tmps.getD u undef]) W := by
  have hc : ∀ j, W.cell? ⟨b, j, none⟩ = (#[v0, v1] : Array Value)[j]? := by
    intro j; unfold World.cell?; rw [h]; simp
  rw [results_cell_tmp hr, hp]
  simp [go_sem, hc]
theorem set2_get {W : World} {b t : Nat} {x0 x1 : Value} (v0 v1 : Value) (h : W.heap[b]? = some (.cells #[x0, x1] t (0, 0))) : ((W.setCell ⟨b, 0, none⟩ v0).setCell ⟨b, 1, none⟩ v1).heap[b]? = some (.cells #[v0, v1] t (0, 0)) := by
  have h0 := set_get (j := 0) v0 h
  have h1 := set_get (j := 1) v1 h0
  rw [h1]
  simp
theorem set_gr (X : World) (b k : Nat) (u : Value) : X.grownBy (X.setCell ⟨b, k, none⟩ u) (some b) := ⟨rfl, rfl, rfl, by simp, fun j _ hj => heap_setCell_other X ⟨b, k, none⟩ j u (fun e => hj (by simp [e]))⟩
theorem lesL_step {c : List UInt8} {M : List (List UInt8)} {k : Nat} {m : List UInt8} (h : M[k]? = some m) : putL (lesL c (M.take (k + 1))) = if agB m c = true then putT (putL (lesL c (M.take k))) (mtT m c) else putL (lesL c (M.take k)) := by
  rw [List.take_add_one, h]
  show putL (lesL c (M.take k ++ [m])) = _
  rw [lesL_snoc]
  split
  · unfold putL
    rw [List.foldl_append]
    rfl
  · rw [List.append_nil]
theorem putL_mem {L : List (List UInt8)} {t : List UInt8} (h : t ∈ putL L) : t ∈ L := by
  rw [putL_eq] at h
  exact topL_mem ((srtT_perm _).mem_iff.1 h)
theorem putL_len (L : List (List UInt8)) : (putL L).length ≤ L.length := by
  rw [putL_eq, srtT_len]
  exact topL_len L
/-- what the document's term holds of a list -/
def DT (w1 wr : World) (c : List UInt8) (v : Value) (M : List (List UInt8)) : Prop := wr.heap[w1.heap.size]? = some (.cells #[.string ⟨c.toArray⟩, v] 57 (0, 0)) ∧ wr.ownsRow (w1.heap.size + 1) 9 1 v (putL (lesL c M)).length (stx (putL (lesL c M))) ∧ Below w1.heap.size w1 wr
set_option maxRecDepth 100000 in
set_option maxHeartbeats 4000000 in
theorem term_any (c : List UInt8) (L : List (List UInt8)) (n : Nat) (p : Option Addr) (cp : Nat) (w : World) (hn : L.length = n) (hN : n ≤ 1000000) (gc : good c = true) (gL : ∀ t ∈ L, good t = true) (hr : IRSt w p L) :
    Calls Try.prog 18 #[.string ⟨c.toArray⟩, .slice p n cp] w fun e w' => Below w.heap.size w w' ∧ ((setO c L = none ∧ e = .returned (.tuple #[.agg #[.string ⟨#[]⟩, .slice none 0 0], .bool false])) ∨ ∃ R v, setO c L = some R ∧ e = .returned (.tuple #[.agg #[.string ⟨c.toArray⟩, v], .bool true]) ∧ w'.ownsRow w.heap.size 9 1 v R.length (stx (srtT R))) := by
  obtain ⟨w1, hw1⟩ : ∃ w1, w.alloc (.cells #[.string ⟨#[]⟩, .slice none 0 0] 57 (0, 0)) = w1 := ⟨_, rfl⟩
  have hA1 : w1.heap[w.heap.size]? = some (.cells #[.string ⟨#[]⟩, .slice none 0 0] 57 (0, 0)) := by rw [← hw1]; exact alloc_get _ _
  have hB1 : Below w.heap.size w w1 := by rw [← hw1]; exact belA (Below.refl _ _) _
  have hs1 : w1.heap.size = w.heap.size + 1 := by rw [← hw1]; simp
  have HA1 : Hid (w1.heap[w.heap.size]? = some (.cells #[.string ⟨#[]⟩, .slice none 0 0] 57 (0, 0)) ∧ Below w.heap.size w w1 ∧ w1.heap.size = w.heap.size + 1) := ⟨hA1, hB1, hs1⟩
  have HD0 : Hid (DT w1 (w1.alloc (.cells #[.string ⟨c.toArray⟩, .slice none 0 0] 57 (0, 0))) c (.slice none 0 0) (L.take 0)) := ⟨alloc_get _ _, World.ownsRow_nil _ _ _ _, belA (Below.refl _ _) _⟩
  have HR : Hid (IRSt w p L) := hr
  have HN : Hid (L.length = n) := hn
  have HG : Hid (∀ t ∈ L, good t = true) := gL
  have HGC : Hid (good c = true) := gc
  clear hA1 hB1 hr hn gL gc
  go_enter Try.func18, Try.ntmps18
  go_wp2_with fail
  rw [← hs1]
  clear hs1 hw1
  go_loopw [7] (fun i wr => ∃ (k : Nat) (v : Value), k ≤ n ∧ i = .int .i64 k ∧ Hid (DT w1 wr c v (L.take k))) (fun i _ => n - (intOf i).toNat)
  case atStart => exact ⟨0, _, Nat.zero_le _, rfl, HD0⟩
  case round =>
    clear HD0
    obtain ⟨k, v, hk, rfl, HD⟩ := hrel
    have hBw := bel0 HA1.out.2.1 HD.out.2.2
    by_cases hlt : k < n
    · have j1 : (k : Int) < (n : Int) := by omega
      have j0 : (0 : Int) ≤ (k : Int) := by omega
      obtain ⟨t, ht⟩ : ∃ t, L[k]? = some t := ⟨_, List.getElem?_eq_getElem (by rw [HN.out]; exact hlt)⟩
      obtain ⟨g, o0, rfl, hc⟩ := HR.out wr hBw k t ht
      have HT : Hid (L[k]? = some t) := ht
      have gt := HG.out t (List.mem_of_getElem? ht)
      have HH : Hid (Calls Try.prog 29 #[.string ⟨t.toArray⟩, .string ⟨c.toArray⟩] wr fun e w' => e = .returned (.tuple #[.string ⟨(mtT t c).toArray⟩, .bool (agB t c)]) ∧ Below wr.heap.size wr w') := dmeet_any t c wr gt HGC.out
      have gM : Hid (good (mtT t c) = true) := good_mtT t c gt HGC.out
      clear ht gt hBw
      obtain ⟨M, hM⟩ : ∃ M, mtT t c = M := ⟨_, rfl⟩
      have HM : Hid (mtT t c = M) := hM
      rw [hM] at HH gM
      clear hM
      cases ha : agB t c with
      | true =>
        have HAg : Hid (agB t c = true) := ha
        have HK : Hid (putL (lesL c (L.take (k + 1))) = putT (putL (lesL c (L.take k))) M) := by
          unfold Hid
          rw [lesL_step HT.out, if_pos ha, HM.out]
        clear ha
        go_wp2_with fail
        refine HH.out.mono ?_
        rintro e W1 ⟨rfl, hb1⟩
        rw [HAg.out]
        have hblk := keepblk3 hb1 HD.out.1
        obtain ⟨hcT, hfT⟩ := cells_block hblk
        have hB1 := bel0 HD.out.2.2 hb1
        have own1 := own_belQ HD.out.2.1 hb1
        have hlt1 := lt_of_get3 hblk
        obtain ⟨pv, cv2, hpv⟩ := shapeQ1 own1
        have HU : Hid (W1.heap[w1.heap.size]? = some (.cells #[.string ⟨c.toArray⟩, v] 57 (0, 0)) ∧ W1.ownsRow (w1.heap.size + 1) 9 1 v (putL (lesL c (L.take k))).length (stx (putL (lesL c (L.take k)))) ∧ Below w1.heap.size w1 W1) := ⟨hblk, own1, hB1⟩
        have hgood : ∀ x ∈ putL (lesL c (L.take k)), good x = true := fun x hx => lesL_good HGC.out (fun m hm => HG.out m (List.mem_of_mem_take hm)) x (putL_mem hx)
        have hlen : (putL (lesL c (L.take k))).length ≤ 1000000 := by
          have h1 := putL_len (lesL c (L.take k))
          have h2 := lesL_len c (L.take k)
          have h3 : (L.take k).length ≤ k := List.length_take_le _ _
          omega
        have HP : Hid (Calls Try.prog 30 #[v, .string ⟨M.toArray⟩] W1 fun e w' => ∃ v', e = .returned v' ∧ w'.ownsRow (w1.heap.size + 1) 9 1 v' (putT (putL (lesL c (L.take k))) M).length (stx (putT (putL (lesL c (L.take k))) M)) ∧ Below W1.heap.size W1 w') := put_any _ M _ v (w1.heap.size + 1) W1 rfl hlen own1 (by omega) hgood gM.out
        clear hblk hB1 own1 hb1 hlt1 hgood hlen HD HH hc
        subst hpv
        go_wp2_with fail
        refine HP.out.mono ?_
        rintro e W2 ⟨v2, rfl, own2, hb2⟩
        obtain ⟨p2, c2, rfl⟩ := shapeQ1 own2
        have hblk2 := keepblk3 hb2 HU.out.1
        obtain ⟨hcT2, hfT2⟩ := cells_block hblk2
        have HD2 : Hid (DT w1 (W2.setCell ⟨w1.heap.size, 1, none⟩ (.slice p2 (putT (putL (lesL c (L.take k))) M).length c2)) c (.slice p2 (putT (putL (lesL c (L.take k))) M).length c2) (L.take (k + 1))) := by
          refine ⟨?_, ?_, (bel0 HU.out.2.2 hb2).setCell (Nat.le_refl _) _⟩
          · have h1 := set_get (j := 1) (.slice p2 (putT (putL (lesL c (L.take k))) M).length c2) hblk2
            rw [h1]
            simp
          · rw [HK.out]
            exact own2.kept (set_gr _ _ _ _) (.inr (fun e => by have := (own2.lt _ e).1; omega))
        clear own2 hb2 hblk2 HU HP hcT hfT
        go_wp2_with fail
        go_roundw
        case rel => exact ⟨k + 1, _, by omega, by go_num, HD2⟩
        case measure => simp [intOf]; omega
      | false =>
        have HAg : Hid (agB t c = false) := ha
        have HK : Hid (putL (lesL c (L.take (k + 1))) = putL (lesL c (L.take k))) := by
          unfold Hid
          rw [lesL_step HT.out, if_neg (by rw [ha]; simp)]
        clear ha
        go_wp2_with fail
        refine HH.out.mono ?_
        rintro e W1 ⟨rfl, hb1⟩
        rw [HAg.out]
        have HD2 : Hid (DT w1 W1 c v (L.take (k + 1))) := by
          refine ⟨keepblk3 hb1 HD.out.1, ?_, bel0 HD.out.2.2 hb1⟩
          rw [HK.out]
          exact own_belQ HD.out.2.1 hb1
        clear HD HH hb1 hc
        go_wp2_with fail
        go_roundw
        case rel => exact ⟨k + 1, _, by omega, by go_num, HD2⟩
        case measure => simp [intOf]; omega
    · have j1 : ¬ (k : Int) < (n : Int) := by omega
      have hkL : L.take k = L := List.take_of_length_le (by rw [HN.out]; omega)
      rw [hkL] at HD
      clear hkL
      obtain ⟨hcT, hfT⟩ := cells_block HD.out.1
      obtain ⟨hcA, hfA⟩ := cells_block (keepblk3 HD.out.2.2 HA1.out.1)
      have own := HD.out.2.1
      cases hS : setO c L with
      | none =>
        have hp := put_none HGC.out HG.out hS
        rw [hp] at own
        obtain ⟨g, cap, rfl⟩ : ∃ g cap, v = .slice (some ⟨g, 0, none⟩) 1 cap := by
          rcases own.2 with ⟨_, h0⟩ | ⟨g, cap, cur, e, _⟩
          · simp at h0
          · exact ⟨g, cap, e⟩
        have hc0 : wr.cell? ⟨g, 0, none⟩ = some (.string ⟨c.toArray⟩) := stx_at (k := 0) (L := [c]) own (by simp) rfl
        have HS : Hid (setO c L = none) := hS
        have hne : ((⟨c.toArray⟩ : ByteArray).toList == (⟨c.toArray⟩ : ByteArray).toList) = true := by simp
        have HF : Hid (((wr.setCell ⟨w.heap.size, 0, none⟩ (.string ⟨#[]⟩)).setCell ⟨w.heap.size, 1, none⟩ (.slice none 0 0)).heap[w.heap.size]? = some (.cells #[.string ⟨#[]⟩, .slice none 0 0] 57 (0, 0)) ∧ Below w.heap.size w ((wr.setCell ⟨w.heap.size, 0, none⟩ (.string ⟨#[]⟩)).setCell ⟨w.heap.size, 1, none⟩ (.slice none 0 0))) := ⟨set2_get _ _ (keepblk3 HD.out.2.2 HA1.out.1), (hBw.setCell (Nat.le_refl _) _).setCell (Nat.le_refl _) _⟩
        clear hp own hS hBw
        go_wp2_with fail
        refine bodyPost_ret (v := .tuple #[.agg #[.string ⟨#[]⟩, .slice none 0 0], .bool false]) (res_rt2 _ _ w.heap.size _ _ Try.results18 rfl HF.out.1) rfl ?_
        exact ⟨HF.out.2, .inl ⟨HS.out, rfl⟩⟩
      | some R =>
        obtain ⟨hp, hcn⟩ := put_some hS
        rw [hp] at own
        obtain ⟨q, cap, rfl⟩ := shapeQ1 own
        have HS : Hid (setO c L = some R) := hS
        have hlt1 : w.heap.size < w1.heap.size := by have := HA1.out.2.2; omega
        have HF : Hid (((wr.setCell ⟨w.heap.size, 0, none⟩ (.string ⟨c.toArray⟩)).setCell ⟨w.heap.size, 1, none⟩ (.slice q (srtT R).length cap)).heap[w.heap.size]? = some (.cells #[.string ⟨c.toArray⟩, .slice q (srtT R).length cap] 57 (0, 0)) ∧ Below w.heap.size w ((wr.setCell ⟨w.heap.size, 0, none⟩ (.string ⟨c.toArray⟩)).setCell ⟨w.heap.size, 1, none⟩ (.slice q (srtT R).length cap)) ∧ ((wr.setCell ⟨w.heap.size, 0, none⟩ (.string ⟨c.toArray⟩)).setCell ⟨w.heap.size, 1, none⟩ (.slice q (srtT R).length cap)).ownsRow w.heap.size 9 1 (.slice q (srtT R).length cap) R.length (stx (srtT R))) := by
          refine ⟨set2_get _ _ (keepblk3 HD.out.2.2 HA1.out.1), (hBw.setCell (Nat.le_refl _) _).setCell (Nat.le_refl _) _, ?_⟩
          have k1 := own.kept (set_gr wr w.heap.size 0 (.string ⟨c.toArray⟩)) (.inr (fun e => by have := (own.lt _ e).1; omega))
          have k2 := k1.kept (set_gr _ w.heap.size 1 (.slice q (srtT R).length cap)) (.inr (fun e => by have := (k1.lt _ e).1; omega))
          rw [srtT_len] at k2 ⊢
          exact own_base k2 (by omega)
        by_cases h1 : ((srtT R).length : Int) = 1
        · have h1n : (srtT R).length = 1 := by omega
          have b1 : (((srtT R).length : Int) == 1) = true := by rw [h1]; rfl
          obtain ⟨x, hx⟩ : ∃ x, srtT R = [x] := by
            match hz : srtT R, h1n with
            | [x], _ => exact ⟨x, rfl⟩
          obtain ⟨g, cap2, hqq⟩ : ∃ g cap2, (Value.slice q (srtT R).length cap) = .slice (some ⟨g, 0, none⟩) (srtT R).length cap2 := by
            rcases own.2 with ⟨_, h0⟩ | ⟨g, cap2, cur, e, _⟩
            · omega
            · exact ⟨g, cap2, e⟩
          injection hqq with e1 _ e3
          subst e1
          have hc0 : wr.cell? ⟨g, 0, none⟩ = some (.string ⟨x.toArray⟩) := stx_at (k := 0) own (by omega) (by simp [hx])
          have hxc : (x == c) = false := by
            rw [beq_eq_false_iff_ne]
            rintro rfl
            exact hcn (by rw [hx]; simp)
          have hne : ((⟨x.toArray⟩ : ByteArray).toList == (⟨c.toArray⟩ : ByteArray).toList) = false := by rw [ByteArray.toList_eq, ByteArray.toList_eq]; exact hxc
          have i1 : (0 : Int) < ((srtT R).length : Int) := by omega
          clear hp hcn own hS hBw hx h1n h1 e3
          go_wp2_with fail
          refine bodyPost_ret (v := .tuple #[.agg #[.string ⟨c.toArray⟩, .slice (some ⟨g, 0, none⟩) (srtT R).length cap], .bool true]) (res_rt2 _ _ w.heap.size _ _ Try.results18 rfl HF.out.1) rfl ?_
          first | exact ⟨HF.out.2.1, .inr ⟨R, HS.out, _, rfl, HF.out.2.2⟩⟩ | exact ⟨HF.out.2.1, .inr ⟨_, rfl, HF.out.2.2⟩⟩ | exact ⟨HF.out.2.1, _, rfl, HF.out.2.2⟩ | exact ⟨HF.out.2.1, .inr ⟨_, _, rfl, rfl, HF.out.2.2⟩⟩
        · have b1 : (((srtT R).length : Int) == 1) = false := by rw [beq_eq_false_iff_ne]; exact h1
          clear hp hcn own hS hBw h1
          go_wp2_with fail
          refine bodyPost_ret (v := .tuple #[.agg #[.string ⟨c.toArray⟩, .slice q (srtT R).length cap], .bool true]) (res_rt2 _ _ w.heap.size _ _ Try.results18 rfl HF.out.1) rfl ?_
          first | exact ⟨HF.out.2.1, .inr ⟨R, HS.out, _, rfl, HF.out.2.2⟩⟩ | exact ⟨HF.out.2.1, .inr ⟨_, rfl, HF.out.2.2⟩⟩ | exact ⟨HF.out.2.1, _, rfl, HF.out.2.2⟩ | exact ⟨HF.out.2.1, .inr ⟨_, _, rfl, rfl, HF.out.2.2⟩⟩
end Go.Proofs.Ytbdnpbiimbeflaa
namespace Go.Proofs.Ytbdnpbiimbeflaa
open Go.RowKit Go.Shelf
/-- the one term of the document's space, if there is one -/
def RSV (W : World) (B : Nat) (V : Value) : Option (List UInt8 × List (List UInt8)) → Prop
  | none => V = .slice none 0 0
  | some (c, R) => ∃ v, W.ownsRow B 57 2 V 1 [.string ⟨c.toArray⟩, v] ∧ W.ownsRow B 9 1 v R.length (stx R)
theorem RSV.below {W X : World} {B : Nat} {V : Value} {o : Option (List UInt8 × List (List UInt8))} (h : RSV W B V o) (hb : Below W.heap.size W X) : RSV X B V o := by
  match o, h with
  | none, h => exact h
  | some (c, R), ⟨v, o1, o2⟩ => exact ⟨v, own_belQ o1 hb, own_belQ o2 hb⟩
theorem RSV.base {W : World} {A B : Nat} {V : Value} {o : Option (List UInt8 × List (List UInt8))} (h : RSV W B V o) (hA : A ≤ B) : RSV W A V o := by
  match o, h with
  | none, h => exact h
  | some (c, R), ⟨v, o1, o2⟩ => exact ⟨v, own_base o1 hA, own_base o2 hA⟩
theorem RSV.kept {W X : World} {B b : Nat} {V : Value} {o : Option (List UInt8 × List (List UInt8))} (h : RSV W B V o) (hg : W.grownBy X (some b)) (hb : b < B) : RSV X B V o := by
  match o, h with
  | none, h => exact h
  | some (c, R), ⟨v, o1, o2⟩ => exact ⟨v, o1.kept hg (.inr (fun e => by have := (o1.lt _ e).1; omega)), o2.kept hg (.inr (fun e => by have := (o2.lt _ e).1; omega))⟩
theorem RSV.shape2 {W : World} {B : Nat} {V : Value} {o : Option (List UInt8 × List (List UInt8))} (h : RSV W B V o) : ∃ p c, V = .slice p (lnO o) c := by
  match o, h with
  | none, h => exact ⟨_, _, h⟩
  | some (c, R), ⟨v, o1, _⟩ => exact shapeQ1 o1
theorem rt_at {W : World} {B : Nat} {V a v : Value} (h : W.ownsRow B 57 2 V 1 [a, v]) : ∃ g cap, V = .slice (some ⟨g, 0, none⟩) 1 cap ∧ W.cell? ⟨g, 0, none⟩ = some a ∧ W.cell? ⟨g, 1, none⟩ = some v := by
  rcases h.2 with ⟨_, h0⟩ | ⟨g, cap, cur, rfl, _⟩
  · omega
  · exact ⟨g, cap, rfl, h.cells (g := g) rfl 0 a rfl, h.cells (g := g) rfl 1 v rfl⟩
set_option maxRecDepth 100000 in
set_option maxHeartbeats 2000000 in
theorem dSize_any (b : Int) (V : Value) (o : Option (List UInt8 × List (List UInt8))) (B : Nat) (w : World) (h : RSV w B V o) (ho : szO o ≤ 1000000) : Calls Try.prog 31 #[.agg #[.int .i64 b, V]] w fun e w' => e = .returned (.int .i64 (szO o : Int)) ∧ Below w.heap.size w w' := by
  match o, h with
  | none, h =>
    obtain rfl : V = .slice none 0 0 := h
    obtain ⟨w2, hw2⟩ : ∃ w2, w.alloc (.cells #[.int .i64 b, .slice none 0 0] 40 (0, 0)) = w2 := ⟨_, rfl⟩
    have h0 : w2.heap[w.heap.size]? = some (.cells #[.int .i64 b, .slice none 0 0] 40 (0, 0)) := by rw [← hw2]; exact alloc_get _ _
    have hB : Below w.heap.size w w2 := by rw [← hw2]; exact belA (Below.refl _ _) _
    obtain ⟨hc0, -⟩ := cells_block h0
    clear h0
    go_enter Try.func31, Try.ntmps31
    go_wp2_with fail
    go_loopw [3, 4] (fun v3 v4 wr => v3 = .int .i64 0 ∧ v4 = .int .i64 0 ∧ w2 = wr) (fun _ _ _ => 0)
    case atStart => exact ⟨rfl, rfl, rfl⟩
    case round =>
      obtain ⟨rfl, rfl, rfl⟩ := hrel
      go_wp2_with fail
      go_ret
      exact ⟨rfl, hB⟩
  | some (c, R), ⟨v, o1, o2⟩ =>
    obtain ⟨q, k, rfl⟩ := shapeQ1 o2
    obtain ⟨g, cap, rfl, -, -⟩ := rt_at o1
    have ho' : 1 + R.length ≤ 1000000 := ho
    obtain ⟨w2, hw2⟩ : ∃ w2, w.alloc (.cells #[.int .i64 b, .slice (some ⟨g, 0, none⟩) 1 cap] 40 (0, 0)) = w2 := ⟨_, rfl⟩
    have h0 : w2.heap[w.heap.size]? = some (.cells #[.int .i64 b, .slice (some ⟨g, 0, none⟩) 1 cap] 40 (0, 0)) := by rw [← hw2]; exact alloc_get _ _
    have hB : Below w.heap.size w w2 := by rw [← hw2]; exact belA (Below.refl _ _) _
    obtain ⟨hc0, -⟩ := cells_block h0
    obtain ⟨g2, cap2, e, ht0, ht1⟩ := rt_at (own_belQ o1 hB)
    injection e with e1 e2 e3
    injection e1 with e1
    injection e1 with e1
    subst e1 e3
    clear h0 o1 o2 e2
    go_enter Try.func31, Try.ntmps31
    go_wp2_with fail
    go_loopw [3, 4] (fun v3 v4 wr => w2 = wr ∧ ((v3 = .int .i64 0 ∧ v4 = .int .i64 0) ∨ (v3 = .int .i64 ((1 + R.length : Nat) : Int) ∧ v4 = .int .i64 1))) (fun _ v4 _ => 1 - (intOf v4).toNat)
    case atStart => exact ⟨rfl, .inl ⟨rfl, rfl⟩⟩
    case round =>
      obtain ⟨rfl, ⟨rfl, rfl⟩ | ⟨rfl, rfl⟩⟩ := hrel
      · go_wp2_with fail
        go_roundw
        case rel => exact ⟨trivial, .inr ⟨by go_num, by go_num⟩⟩
        case measure => simp [intOf]
      · go_wp2_with fail
        go_ret
        exact ⟨rfl, hB⟩
end Go.Proofs.Ytbdnpbiimbeflaa
namespace Go.Proofs.Ytbdnpbiimbeflaa
open Go.RowKit Go.Shelf
theorem bys_byte (l : List UInt8) : Lib.byteCells l = bys l := rfl
theorem bys_app (a b : List UInt8) : bys (a ++ b) = bys a ++ bys b := by unfold bys; rw [List.map_append]
theorem bys_str (l : List UInt8) : Lib.strCells ⟨l.toArray⟩ = bys l := rfl
set_option maxRecDepth 100000 in
theorem dText_none (b : Int) (w : World) : Calls Try.prog 35 #[.agg #[.int .i64 b, .slice none 0 0]] w fun e w' => e = .returned (.string ⟨#[110, 111, 110, 101]⟩) ∧ Below w.heap.size w w' := by
  obtain ⟨w2, hw2⟩ : ∃ w2, w.alloc (.cells #[.int .i64 b, .slice none 0 0] 40 (0, 0)) = w2 := ⟨_, rfl⟩
  have h0 : w2.heap[w.heap.size]? = some (.cells #[.int .i64 b, .slice none 0 0] 40 (0, 0)) := by rw [← hw2]; exact alloc_get _ _
  have hB : Below w.heap.size w w2 := by rw [← hw2]; exact belA (Below.refl _ _) _
  obtain ⟨hc0, -⟩ := cells_block h0
  clear h0
  go_enter Try.func35, Try.ntmps35
  go_wp2_with fail
  go_ret
  exact ⟨rfl, hB⟩
/-- what stands while the document's Text writes -/
def DXI (w2 wr : World) (v : Value) (l : List UInt8) : Prop := wr.ownsRow w2.heap.size 5 1 v l.length (bys l) ∧ Below w2.heap.size w2 wr
set_option maxRecDepth 100000 in
set_option maxHeartbeats 4000000 in
theorem dText_some (b : Int) (V : Value) (c : List UInt8) (R : List (List UInt8)) (B : Nat) (w : World) (h : RSV w B V (some (c, R))) (ho : R.length ≤ 1000000) (gc : good c = true) (gR : ∀ t ∈ R, good t = true) : Calls Try.prog 35 #[.agg #[.int .i64 b, V]] w fun e w' => e = .returned (.string ⟨(c ++ txL R).toArray⟩) ∧ Below w.heap.size w w' := by
  obtain ⟨v, o1, o2⟩ := h
  obtain ⟨q, k, rfl⟩ := shapeQ1 o2
  obtain ⟨g, cap, rfl, -, -⟩ := rt_at o1
  obtain ⟨w2, hw2⟩ : ∃ w2, w.alloc (.cells #[.int .i64 b, .slice (some ⟨g, 0, none⟩) 1 cap] 40 (0, 0)) = w2 := ⟨_, rfl⟩
  have h0 : w2.heap[w.heap.size]? = some (.cells #[.int .i64 b, .slice (some ⟨g, 0, none⟩) 1 cap] 40 (0, 0)) := by rw [← hw2]; exact alloc_get _ _
  have hB : Below w.heap.size w w2 := by rw [← hw2]; exact belA (Below.refl _ _) _
  have HCS : Hid (∀ W, Below w2.heap.size w2 W → W.cell? ⟨w.heap.size, 1, none⟩ = some (.slice (some ⟨g, 0, none⟩) 1 cap) ∧ W.cell? ⟨g, 0, none⟩ = some (.string ⟨c.toArray⟩) ∧ W.cell? ⟨g, 1, none⟩ = some (.slice q R.length k)) := fun W hW => by
    obtain ⟨g2, cap2, e, ht0, ht1⟩ := rt_at (own_belQ o1 (bel0 hB hW))
    injection e with e1 e2 e3
    injection e1 with e1
    injection e1 with e1
    subst e1 e3
    exact ⟨(cells_block (keepblk3 hW h0)).1 1, ht0, ht1⟩
  have HC : Hid (IRSt w2 q R) := (IRSt_own o2 rfl).later hB
  have HLN : Hid (∀ j, (txL (R.take j)).length ≤ 257 * R.length) := fun j => by
    have h1 := txL_len (R := R.take j) (fun t ht => gR t (List.mem_of_mem_take ht))
    have h2 : (R.take j).length ≤ R.length := by rw [List.length_take]; omega
    omega
  have HGR : Hid (∀ t ∈ R, t.length ≤ 256) := fun t ht => good_len (gR t ht)
  have hcl := good_len gc
  have HB : Hid (Below w.heap.size w w2) := hB
  obtain ⟨i0, hi, hz0, hz1, hz2⟩ := info_parts info_u8
  obtain ⟨c0, c1, c2⟩ := HCS.out w2 (Below.refl _ _)
  clear h0 o1 o2 gc gR hB
  go_enter Try.func35, Try.ntmps35
  go_wp2_with fail
  clear hw2 c0 c1 c2
  go_loopw [3, 4] (fun v3 v4 wr => (v4 = .int .i64 0 ∧ v3 = .slice none 0 0 ∧ w2 = wr) ∨ (v4 = .int .i64 1 ∧ Hid (DXI w2 wr v3 (c ++ txL R)))) (fun _ v4 _ => 1 - (intOf v4).toNat)
  case atStart => exact .inl ⟨rfl, rfl, rfl⟩
  case round =>
    obtain ⟨rfl, rfl, rfl⟩ | ⟨rfl, HX⟩ := hrel
    · obtain ⟨c0, c1, c2⟩ := HCS.out w2 (Below.refl _ _)
      go_wp2_with (at_builtin; refine Lib.wpList_append_own_string _ rfl _ _ 97 9 rfl w2.heap.size 5 i0 Try.underlying97 Try.underlying9 hi hz0 hz1 hz2 _ 0 [] rfl (World.ownsRow_nil _ _ _ _) ⟨c.toArray⟩ rfl (by show 0 + c.length ≤ _; unfold maxLen; omega) (by show 0 + c.length ≤ _; omega) (Nat.le_refl _) ?_)
      intro v5 w5 o5 g5 _
      have h5 : Hid (DXI w2 w5 v5 (c ++ txL (R.take 0))) := by
        refine ⟨?_, (Below.refl _ _).grown g5 (Nat.le_refl _) (fun b e => by cases e)⟩
        have e1 : c ++ txL (R.take 0) = c := by simp [txL]
        rw [e1]
        exact o5
      clear o5 g5 c0 c1 c2
      obtain ⟨c0, c1, c2⟩ := HCS.out w5 h5.out.2
      go_wp2_with fail
      clear c0 c1 c2
      go_loopw [3, 5] (fun v3 vj ws => ∃ j : Nat, vj = .int .i64 j ∧ j ≤ R.length ∧ Hid (DXI w2 ws v3 (c ++ txL (R.take j)))) (fun _ vj _ => R.length - (intOf vj).toNat)
      case atStart => exact ⟨0, rfl, Nat.zero_le _, h5⟩
      case round =>
        clear h5
        obtain ⟨j, rfl, hj, HY⟩ := hrel
        obtain ⟨c0, c1, c2⟩ := HCS.out _ HY.out.2
        by_cases hlt : j < R.length
        · have j1 : (j : Int) < (R.length : Int) := by omega
          have j0 : (0 : Int) ≤ (j : Int) := by omega
          obtain ⟨t, ht⟩ : ∃ t, R[j]? = some t := ⟨_, List.getElem?_eq_getElem hlt⟩
          have htl := HGR.out t (List.mem_of_getElem? ht)
          have HST : Hid (c ++ txL (R.take (j + 1)) = c ++ txL (R.take j) ++ [45] ++ t) := by unfold Hid; rw [txL_step ht]; simp
          have hln := HLN.out j
          obtain ⟨Y, hY⟩ : ∃ Y, c ++ txL (R.take j) = Y := ⟨_, rfl⟩
          have hYl : Y.length ≤ 256 + 257 * 1000000 := by rw [← hY, List.length_append]; omega
          rw [hY] at HST HY
          have HTT : Hid (R[j]? = some t) := ht
          have hsz := HY.out.2.size
          clear ht hY hln
          go_wp2_with (at_builtin; refine wpList_append_own _ rfl _ _ 97 rfl w2.heap.size 5 i0 (.int .u8 0) 1 1 Try.underlying97 hi hz0 hz1 hz2 rfl (by decide) _ _ _ rfl (HY.out.1.alloc _) ⟨_, 0, none⟩ 1 1 [.int .u8 45] rfl rfl (cell_one_new _ _ _) (by simp [Value.oneCell']) (by unfold maxLen; omega) (by omega) (by simp; omega) ?_)
          intro v6 w6 o6 g6 _
          have B6 : Below w2.heap.size w2 w6 := app_bel HY.out.2 HY.out.1 g6 (Nat.le_refl _)
          have o6' : w6.ownsRow w2.heap.size 5 1 v6 (Y.length + 1) (bys (Y ++ [45])) := by
            rw [bys_app]
            exact o6
          have B6s := B6.size
          obtain ⟨g2, o0, rfl, hc⟩ := HC.out w6 B6 j t HTT.out
          clear c0 c1 c2 o6 g6 HY
          obtain ⟨c0, c1, c2⟩ := HCS.out w6 B6
          have HB6 : Hid (Below w2.heap.size w2 w6) := B6
          clear B6
          go_wp2_with (at_builtin; refine Lib.wpList_append_own_string _ rfl _ _ 97 9 rfl w2.heap.size 5 i0 Try.underlying97 Try.underlying9 hi hz0 hz1 hz2 _ _ _ rfl o6' ⟨t.toArray⟩ rfl (by show _ + t.length ≤ _; unfold maxLen; omega) (by show _ + t.length ≤ _; omega) (by omega) ?_)
          intro v7 w7 o7 g7 _
          have h7 : Hid (DXI w2 w7 v7 (c ++ txL (R.take (j + 1)))) := by
            refine ⟨?_, HB6.out.grown g7 HB6.out.size (fun b e => (o6'.lt b e).1)⟩
            rw [HST.out]
            have e2 : (Y ++ [45] ++ t).length = Y.length + 1 + (⟨t.toArray⟩ : ByteArray).size := by
              rw [List.length_append, List.length_append]
              rfl
            rw [e2, bys_app (Y ++ [45]) t]
            exact o7
          clear o7 g7 o6' c0 c1 c2 hc HB6
          go_wp2_with fail
          go_roundw
          case rel => exact ⟨j + 1, by go_num, by omega, h7⟩
          case measure => simp [intOf]; omega
        · have j1 : ¬ (j : Int) < (R.length : Int) := by omega
          have e : R.take j = R := List.take_of_length_le (by omega)
          rw [e] at HY
          clear e
          go_wp2_with fail
          go_roundw
          case rel => exact .inr ⟨by go_num, HY⟩
          case measure => simp [intOf]
    · obtain ⟨c0, c1, c2⟩ := HCS.out _ HX.out.2
      have hcv := conv_any _ _ _ _ HX.out.1
      go_wp2_with fail
      go_ret
      exact ⟨rfl, bel0 HB.out HX.out.2⟩
theorem dText_any (b : Int) (V : Value) (o : Option (List UInt8 × List (List UInt8))) (B : Nat) (w : World) (h : RSV w B V o) (ho : szO o ≤ 1000000) (hg : gdO o) : Calls Try.prog 35 #[.agg #[.int .i64 b, V]] w fun e w' => e = .returned (.string ⟨(txO o).toArray⟩) ∧ Below w.heap.size w w' := by
  match o, h, hg with
  | none, h, _ =>
    obtain rfl : V = .slice none 0 0 := h
    exact dText_none b w
  | some (c, R), h, hg =>
    have ho' : 1 + R.length ≤ 1000000 := ho
    exact dText_some b V c R B w h (by omega) hg.1 hg.2
end Go.Proofs.Ytbdnpbiimbeflaa
namespace Go.Proofs.Ytbdnpbiimbeflaa
open Go.RowKit Go.Shelf
theorem info_rt : (Try.prog.info? 57).map (fun i => (i.zero, i.size, i.bytes)) = some (some (.agg #[.string ⟨#[]⟩, .slice none 0 0]), 2, 40) := by kernel_rfl
set_option maxRecDepth 100000 in
set_option maxHeartbeats 2000000 in
theorem dbound_any (b : Int) (V : Value) (o : Option (List UInt8 × List (List UInt8))) (B : Nat) (w : World) (h : RSV w B V o) (ho : szO o ≤ 1000000) : Calls Try.prog 19 #[.agg #[.int .i64 b, V]] w fun e w' => ((128 < szO o ∧ e = .returned (.tuple #[.agg #[.int .i64 0, .slice none 0 0], .int .i64 3])) ∨ (¬ 128 < szO o ∧ e = .returned (.tuple #[.agg #[.int .i64 b, V], .int .i64 0]))) ∧ Below w.heap.size w w' := by
  obtain ⟨p, cp, rfl⟩ := h.shape2
  obtain ⟨w2, hw2⟩ : ∃ w2, (w.alloc (.cells #[.int .i64 b, .slice p (lnO o) cp] 40 (0, 0))).alloc (.cells #[.int .i64 0, .slice none 0 0] 40 (0, 0)) = w2 := ⟨_, rfl⟩
  have h0 : w2.heap[w.heap.size]? = some (.cells #[.int .i64 b, .slice p (lnO o) cp] 40 (0, 0)) := by rw [← hw2]; exact alw_0 _ _ _
  have h1 : w2.heap[w.heap.size + 1]? = some (.cells #[.int .i64 0, .slice none 0 0] 40 (0, 0)) := by rw [← hw2]; exact alw_1 _ _ _
  have hB : Below w.heap.size w w2 := by rw [← hw2]; exact belA (belA (Below.refl _ _) _) _
  obtain ⟨hc0, -⟩ := cells_block h0
  have HS : Hid (Calls Try.prog 31 #[.agg #[.int .i64 b, .slice p (lnO o) cp]] w2 fun e w' => e = .returned (.int .i64 (szO o : Int)) ∧ Below w2.heap.size w2 w') := dSize_any b _ o B w2 (h.below hB) ho
  have HA : Hid (w2.heap[w.heap.size]? = some (.cells #[.int .i64 b, .slice p (lnO o) cp] 40 (0, 0)) ∧ w2.heap[w.heap.size + 1]? = some (.cells #[.int .i64 0, .slice none 0 0] 40 (0, 0)) ∧ Below w.heap.size w w2) := ⟨h0, h1, hB⟩
  clear h0 h1 hB h
  by_cases hgt : (128 : Int) < (szO o : Int)
  · go_enter Try.func19, Try.ntmps19
    go_wp2_with fail
    refine HS.out.mono ?_
    rintro e W1 ⟨rfl, hb1⟩
    have k1 := keepblk3 hb1 HA.out.2.1
    obtain ⟨hcE, hfE⟩ := cells_block k1
    have HF : Hid (_ = _) := set2_get (.int .i64 0) (.slice none 0 0) k1
    have HBB : Hid (Below w.heap.size w ((W1.setCell ⟨w.heap.size + 1, 0, none⟩ (.int .i64 0)).setCell ⟨w.heap.size + 1, 1, none⟩ (.slice none 0 0))) := ((bel0 HA.out.2.2 hb1).setCell (Nat.le_succ _) _).setCell (Nat.le_succ _) _
    clear k1 hb1 hc0 hw2
    go_wp2_with fail
    refine bodyPost_ret (v := .tuple #[.agg #[.int .i64 0, .slice none 0 0], .int .i64 3]) (res_rs2 _ _ (w.heap.size + 1) _ _ Try.results19 rfl HF.out) rfl ?_
    exact ⟨.inl ⟨by omega, rfl⟩, HBB.out⟩
  · go_enter Try.func19, Try.ntmps19
    go_wp2_with fail
    refine HS.out.mono ?_
    rintro e W1 ⟨rfl, hb1⟩
    have k1 := keepblk3 hb1 HA.out.2.1
    have k0 := keepblk3 hb1 HA.out.1
    obtain ⟨hcE, hfE⟩ := cells_block k1
    obtain ⟨hcD, -⟩ := cells_block k0
    have HF : Hid (_ = _) := set2_get (.int .i64 b) (.slice p (lnO o) cp) k1
    have HBB : Hid (Below w.heap.size w ((W1.setCell ⟨w.heap.size + 1, 0, none⟩ (.int .i64 b)).setCell ⟨w.heap.size + 1, 1, none⟩ (.slice p (lnO o) cp))) := ((bel0 HA.out.2.2 hb1).setCell (Nat.le_succ _) _).setCell (Nat.le_succ _) _
    clear k1 k0 hb1 hc0 hw2
    go_wp2_with fail
    refine bodyPost_ret (v := .tuple #[.agg #[.int .i64 b, .slice p (lnO o) cp], .int .i64 0]) (res_rs2 _ _ (w.heap.size + 1) _ _ Try.results19 rfl HF.out) rfl ?_
    exact ⟨.inr ⟨by omega, rfl⟩, HBB.out⟩
theorem fit_len {t c : List UInt8} (hc : c ≠ []) (h : t.length = c.length) : fitB t c = true := by
  unfold fitB
  cases t with
  | nil => exact absurd (List.eq_nil_of_length_eq_zero h.symm) hc
  | cons x r => simp; simpa using h
theorem nofit_len {t c : List UInt8} (h : t.length ≠ c.length) : fitB t c = false := by
  unfold fitB
  rw [Bool.and_eq_false_iff]
  right
  rw [beq_eq_false_iff_ne]
  exact h
end Go.Proofs.Ytbdnpbiimbeflaa
namespace Go.Proofs.Ytbdnpbiimbeflaa
open Go.RowKit Go.Shelf
theorem ofAll {c : List UInt8} {L : List (List UInt8)} (hc : c ≠ []) (h : ∀ t ∈ L, t.length = c.length) : hulF c L ≠ none := by
  obtain ⟨H, h1, _⟩ := hulF_some c L (fun x hx => by
    rcases List.mem_cons.1 hx with rfl | hx
    · exact fit_len hc rfl
    · exact fit_len hc (h x hx))
  rw [h1]
  simp
theorem ofVals (c : List UInt8) (L : List (List UInt8)) (h1 : ¬ 2048 < L.length) (h2 : hulF c L ≠ none) : ofE c L = gE c L ∧ ofB c L = gB c L ∧ ofT srtT c L = gT srtT c L := by
  refine ⟨?_, ?_, ?_⟩
  · unfold ofE; rw [if_neg h1, if_neg h2]
  · unfold ofB; rw [if_neg h1, if_neg h2]
  · unfold ofT; rw [if_neg h1, if_neg h2]
theorem ofBad (c : List UInt8) (L : List (List UInt8)) (h1 : ¬ 2048 < L.length) (h2 : hulF c L = none) : ofE c L = 11 ∧ ofB c L = 0 ∧ ofT srtT c L = none := by
  refine ⟨?_, ?_, ?_⟩
  · unfold ofE; rw [if_neg h1, if_pos h2]
  · unfold ofB; rw [if_neg h1, if_pos h2]
  · unfold ofT; rw [if_neg h1, if_pos h2]
/-- the zero space and an error -/
theorem zero2 {w W : World} {b : Nat} (h : W.heap[b]? = some (.cells #[.int .i64 0, .slice none 0 0] 40 (0, 0))) (hB : Below w.heap.size w W) (hb : w.heap.size ≤ b) : ((W.setCell ⟨b, 0, none⟩ (.int .i64 0)).setCell ⟨b, 1, none⟩ (.slice none 0 0)).heap[b]? = some (.cells #[.int .i64 0, .slice none 0 0] 40 (0, 0)) ∧ Below w.heap.size w ((W.setCell ⟨b, 0, none⟩ (.int .i64 0)).setCell ⟨b, 1, none⟩ (.slice none 0 0)) := ⟨set2_get _ _ h, (hB.setCell hb _).setCell hb _⟩
/-- behind the lengths: the document's Of -/
def OFR (c : List UInt8) (L : List (List UInt8)) (w : World) (e : Ending) (w' : World) : Prop := ∃ V, e = .returned (.tuple #[.agg #[.int .i64 (ofB c L), V], .int .i64 (ofE c L)]) ∧ RSV w' w.heap.size V (ofT srtT c L) ∧ Below w.heap.size w w'
set_option maxRecDepth 100000 in
set_option maxHeartbeats 6000000 in
theorem dOf_any (c : List UInt8) (L : List (List UInt8)) (q : Option Addr) (m k : Nat) (w : World) (hm : L.length = m) (hm2 : m ≤ 1000000) (gc : good c = true) (gL : ∀ x ∈ L, good x = true) (hq : IRSt w q L) :
    Calls Try.prog 8 #[.string ⟨c.toArray⟩, .slice q m k] w fun e w' => OFR c L w e w' := by
  obtain ⟨w1, hw1⟩ : ∃ w1, w.alloc (.cells #[.int .i64 0, .slice none 0 0] 40 (0, 0)) = w1 := ⟨_, rfl⟩
  have h1 : w1.heap[w.heap.size]? = some (.cells #[.int .i64 0, .slice none 0 0] 40 (0, 0)) := by rw [← hw1]; exact alloc_get _ _
  have hs1 : w1.heap.size = w.heap.size + 1 := by rw [← hw1]; simp
  have hB1 : Below w.heap.size w w1 := by rw [← hw1]; exact belA (Below.refl _ _) _
  have HA : Hid (w1.heap[w.heap.size]? = some (.cells #[.int .i64 0, .slice none 0 0] 40 (0, 0)) ∧ Below w.heap.size w w1 ∧ w1.heap.size = w.heap.size + 1) := ⟨h1, hB1, hs1⟩
  obtain ⟨hcR, hfR⟩ := cells_block h1
  have HZ := zero2 h1 hB1 (Nat.le_refl _)
  have HZ' : Hid (((w1.setCell ⟨w.heap.size, 0, none⟩ (.int .i64 0)).setCell ⟨w.heap.size, 1, none⟩ (.slice none 0 0)).heap[w.heap.size]? = some (.cells #[.int .i64 0, .slice none 0 0] 40 (0, 0)) ∧ Below w.heap.size w ((w1.setCell ⟨w.heap.size, 0, none⟩ (.int .i64 0)).setCell ⟨w.heap.size, 1, none⟩ (.slice none 0 0))) := HZ
  have HQ : Hid (IRSt w q L) := hq
  have HM : Hid (L.length = m) := hm
  have HG : Hid (good c = true ∧ ∀ x ∈ L, good x = true) := ⟨gc, gL⟩
  have hcs : (⟨c.toArray⟩ : ByteArray).size = c.length := by simp [ByteArray.size]
  clear h1 hB1 HZ hq hm gc gL
  by_cases hlong : (2048 : Int) < (m : Int)
  · have e1 : Hid (ofE c L = 2 ∧ ofB c L = 0 ∧ ofT srtT c L = none) := by
      have h : 2048 < L.length := by rw [HM.out]; omega
      refine ⟨?_, ?_, ?_⟩
      · unfold ofE; rw [if_pos h]
      · unfold ofB; rw [if_pos h]
      · unfold ofT; rw [if_pos h]
    go_enter Try.func8, Try.ntmps8
    go_wp2_with fail
    refine bodyPost_ret (v := .tuple #[.agg #[.int .i64 0, .slice none 0 0], .int .i64 2]) (res_rs2 _ _ w.heap.size _ _ Try.results8 rfl HZ'.out.1) rfl ?_
    exact ⟨_, by rw [e1.out.1, e1.out.2.1], by rw [e1.out.2.2]; rfl, HZ'.out.2⟩
  have hnl : Hid (¬ 2048 < L.length) := by unfold Hid; rw [HM.out]; omega
  by_cases hc0 : c = []
  · subst hc0
    have e1 : Hid (ofE [] L = 11 ∧ ofB [] L = 0 ∧ ofT srtT [] L = none) := ofBad [] L hnl.out (by unfold hulF; rw [if_pos rfl])
    have hce : (⟨([] : List UInt8).toArray⟩ : ByteArray).toList.isEmpty = true := by rw [ByteArray.toList_eq]; rfl
    go_enter Try.func8, Try.ntmps8
    go_wp2_with fail
    refine bodyPost_ret (v := .tuple #[.agg #[.int .i64 0, .slice none 0 0], .int .i64 11]) (res_rs2 _ _ w.heap.size _ _ Try.results8 rfl HZ'.out.1) rfl ?_
    exact ⟨_, by rw [e1.out.1, e1.out.2.1], by rw [e1.out.2.2]; rfl, HZ'.out.2⟩
  have hce : c.isEmpty = false := by
    cases c with
    | nil => exact absurd rfl hc0
    | cons x r => rfl
  have HNE : Hid (c ≠ []) := hc0
  clear hc0
  go_enter Try.func8, Try.ntmps8
  go_wp2_with fail
  clear hce
  go_loopw [6] (fun vi wr => ∃ j : Nat, vi = .int .i64 j ∧ j ≤ m ∧ Hid (∀ i t, i < j → L[i]? = some t → t.length = c.length) ∧ w1 = wr) (fun vi _ => m - (intOf vi).toNat)
  case atStart => exact ⟨0, rfl, Nat.zero_le _, fun i t hi => by omega, rfl⟩
  case round =>
    obtain ⟨j, rfl, hj, hok, rfl⟩ := hrel
    by_cases hlt : j < m
    · have j1 : (j : Int) < (m : Int) := by omega
      have j0 : (0 : Int) ≤ (j : Int) := by omega
      obtain ⟨t, ht⟩ : ∃ t, L[j]? = some t := ⟨_, List.getElem?_eq_getElem (by rw [HM.out]; exact hlt)⟩
      obtain ⟨g, o0, rfl, hc⟩ := HQ.out w1 HA.out.2.1 j t ht
      have hts : (⟨t.toArray⟩ : ByteArray).size = t.length := by simp [ByteArray.size]
      have HT : Hid (L[j]? = some t) := ht
      clear ht
      by_cases hle : t.length = c.length
      · have bq : ((t.length : Int) != (c.length : Int)) = false := by rw [hle]; simp
        have HX : Hid (∀ i t, i < j + 1 → L[i]? = some t → t.length = c.length) := fun i u hi hu => by
          by_cases e : i = j
          · subst e
            rw [HT.out] at hu
            obtain rfl := Option.some.inj hu
            exact hle
          · exact hok.out i u (by omega) hu
        clear hle
        go_wp2_with fail
        go_roundw
        case rel => exact ⟨j + 1, by go_num, by omega, HX, by first | trivial | rfl⟩
        case measure => simp [intOf]; omega
      · have bq : ((t.length : Int) != (c.length : Int)) = true := by rw [bne_iff_ne]; omega
        have e1 : Hid (ofE c L = 11 ∧ ofB c L = 0 ∧ ofT srtT c L = none) := ofBad c L hnl.out (hulF_none c L t (List.mem_cons_of_mem _ (List.mem_of_getElem? HT.out)) (nofit_len hle))
        clear hle
        go_wp2_with fail
        refine bodyPost_ret (v := .tuple #[.agg #[.int .i64 0, .slice none 0 0], .int .i64 11]) (res_rs2 _ _ w.heap.size _ _ Try.results8 rfl HZ'.out.1) rfl ?_
        exact ⟨_, by rw [e1.out.1, e1.out.2.1], by rw [e1.out.2.2]; rfl, HZ'.out.2⟩
    · have j1 : ¬ (j : Int) < (m : Int) := by omega
      have HV : Hid (ofE c L = gE c L ∧ ofB c L = gB c L ∧ ofT srtT c L = gT srtT c L) := ofVals c L hnl.out (ofAll HNE.out (fun t ht => by
        obtain ⟨i, hi, he⟩ := List.getElem_of_mem ht
        exact hok.out i t (by have := HM.out; omega) (by rw [List.getElem?_eq_getElem hi, he])))
      clear hok HZ' HNE hfR hcR hnl hs1 hw1
      obtain ⟨w2, hw2⟩ : ∃ w2, w1.alloc (.cells #[.int .i64 (c.length : Int), .slice none 0 0] 40 (0, 0)) = w2 := ⟨_, rfl⟩
      have h2a : w2.heap[w1.heap.size]? = some (.cells #[.int .i64 (c.length : Int), .slice none 0 0] 40 (0, 0)) := by rw [← hw2]; exact alloc_get _ _
      have h2b : w2.heap[w.heap.size]? = some (.cells #[.int .i64 0, .slice none 0 0] 40 (0, 0)) := by rw [← hw2]; exact allocblk3 HA.out.1 _
      have hB2 : Below w.heap.size w w2 := by rw [← hw2]; exact belA HA.out.2.1 _
      have hs2 : w2.heap.size = w1.heap.size + 1 := by rw [← hw2]; simp
      have HTM : Hid (Calls Try.prog 18 #[.string ⟨c.toArray⟩, .slice q m k] (w1.alloc (.cells #[.int .i64 (c.length : Int), .slice none 0 0] 40 (0, 0))) fun e w' => Below w2.heap.size w2 w' ∧ ((setO c L = none ∧ e = .returned (.tuple #[.agg #[.string ⟨#[]⟩, .slice none 0 0], .bool false])) ∨ ∃ R v, setO c L = some R ∧ e = .returned (.tuple #[.agg #[.string ⟨c.toArray⟩, v], .bool true]) ∧ w'.ownsRow w2.heap.size 9 1 v R.length (stx (srtT R)))) := by
        unfold Hid
        rw [hw2]
        exact term_any c L m q k w2 HM.out hm2 HG.out.1 HG.out.2 (HQ.out.later hB2)
      have HW : Hid (w2.heap[w1.heap.size]? = some (.cells #[.int .i64 (c.length : Int), .slice none 0 0] 40 (0, 0)) ∧ w2.heap[w.heap.size]? = some (.cells #[.int .i64 0, .slice none 0 0] 40 (0, 0)) ∧ Below w.heap.size w w2 ∧ w2.heap.size = w1.heap.size + 1) := ⟨h2a, h2b, hB2, hs2⟩
      clear h2a h2b hB2 hs2 hw2
      go_wp2_with fail
      refine HTM.out.mono ?_
      rintro e W3 ⟨hb3, h3⟩
      have s3 := keepblk3 hb3 HW.out.1
      have r3 := keepblk3 hb3 HW.out.2.1
      have B3 := bel0 HW.out.2.2.1 hb3
      have z3 : w1.heap.size + 1 ≤ W3.heap.size := by have := HW.out.2.2.2; have := hb3.size; omega
      clear HTM
      rcases h3 with ⟨hN, rfl⟩ | ⟨R, v, hN, rfl, oR⟩
      · have HG1 : Hid (gE c L = 0 ∧ gB c L = (c.length : Int) ∧ gT srtT c L = none) := by
          have g1 : gE c L = 0 := by unfold gE; rw [hN]
          exact ⟨g1, by unfold gB; rw [g1]; rfl, by unfold gT; rw [hN]⟩
        obtain ⟨W4, hW4⟩ : ∃ W4, W3.alloc (.cells #[.string ⟨#[]⟩, .slice none 0 0] 57 (0, 0)) = W4 := ⟨_, rfl⟩
        have s4 : W4.heap[w1.heap.size]? = some (.cells #[.int .i64 (c.length : Int), .slice none 0 0] 40 (0, 0)) := by rw [← hW4]; exact allocblk3 s3 _
        have r4 : W4.heap[w.heap.size]? = some (.cells #[.int .i64 0, .slice none 0 0] 40 (0, 0)) := by rw [← hW4]; exact allocblk3 r3 _
        have B4 : Below w.heap.size w W4 := by rw [← hW4]; exact belA B3 _
        obtain ⟨hcs4, -⟩ := cells_block s4
        have HBD : Hid (Calls Try.prog 19 #[.agg #[.int .i64 (c.length : Int), .slice none 0 0]] W4 fun e w' => ((128 < szO none ∧ e = .returned (.tuple #[.agg #[.int .i64 0, .slice none 0 0], .int .i64 3])) ∨ (¬ 128 < szO none ∧ e = .returned (.tuple #[.agg #[.int .i64 (c.length : Int), .slice none 0 0], .int .i64 0]))) ∧ Below W4.heap.size W4 w') := dbound_any (c.length : Int) (.slice none 0 0) none 0 W4 rfl (by simp [szO])
        have HR4 : Hid (W4.heap[w.heap.size]? = some (.cells #[.int .i64 0, .slice none 0 0] 40 (0, 0)) ∧ Below w.heap.size w W4) := ⟨r4, B4⟩
        clear s3 r3 B3 hb3 s4 r4 B4
        subst hW4
        go_wp2_with fail
        refine HBD.out.mono ?_
        rintro e W5 ⟨⟨h, -⟩ | ⟨-, rfl⟩, hb5⟩
        · simp [szO] at h
        have r5 := keepblk3 hb5 HR4.out.1
        obtain ⟨hc5, hf5⟩ := cells_block r5
        have HF : Hid (_ = _) := set2_get (.int .i64 (c.length : Int)) (.slice none 0 0) r5
        have HBB : Hid (Below w.heap.size w ((W5.setCell ⟨w.heap.size, 0, none⟩ (.int .i64 (c.length : Int))).setCell ⟨w.heap.size, 1, none⟩ (.slice none 0 0))) := ((bel0 HR4.out.2 hb5).setCell (Nat.le_refl _) _).setCell (Nat.le_refl _) _
        clear r5 hb5 hcs4
        go_wp2_with fail
        refine bodyPost_ret (v := .tuple #[.agg #[.int .i64 (c.length : Int), .slice none 0 0], .int .i64 0]) (res_rs2 _ _ w.heap.size _ _ Try.results8 rfl HF.out) rfl ?_
        exact ⟨_, by rw [HV.out.1, HV.out.2.1, HG1.out.1, HG1.out.2.1], by rw [HV.out.2.2, HG1.out.2.2]; rfl, HBB.out⟩
      · obtain ⟨q2, c2, rfl⟩ := shapeQ1 oR
        obtain ⟨iT, hiT, hzT0, hzT1, hzT2⟩ := info_parts info_rt
        obtain ⟨W4, hW4⟩ : ∃ W4, W3.alloc (.cells #[.string ⟨c.toArray⟩, .slice q2 R.length c2] 57 (0, 0)) = W4 := ⟨_, rfl⟩
        have hal4 : Below W3.heap.size W3 W4 := by rw [← hW4]; exact belA (Below.refl _ _) _
        have t4 : W4.heap[W3.heap.size]? = some (.cells #[.string ⟨c.toArray⟩, .slice q2 R.length c2] 57 (0, 0)) := by rw [← hW4]; exact alloc_get _ _
        have s4 := keepblk3 hal4 s3
        have r4 := keepblk3 hal4 r3
        have B4 := bel0 B3 hal4
        have oR4 := own_base (own_belQ oR hal4) (show w1.heap.size + 1 ≤ w2.heap.size by have := HW.out.2.2.2; omega)
        have z4 := hal4.size
        obtain ⟨hcs4, -⟩ := cells_block s4
        obtain ⟨hct4, -⟩ := cells_block t4
        have HN : Hid (setO c L = some R) := hN
        have HR4 : Hid (W4.heap[w.heap.size]? = some (.cells #[.int .i64 0, .slice none 0 0] 40 (0, 0)) ∧ Below w.heap.size w W4 ∧ W4.ownsRow (w1.heap.size + 1) 9 1 (.slice q2 R.length c2) R.length (stx (srtT R)) ∧ W4.heap[w1.heap.size]? = some (.cells #[.int .i64 (c.length : Int), .slice none 0 0] 40 (0, 0))) := ⟨r4, B4, oR4, s4⟩
        clear s3 r3 B3 hb3 s4 r4 B4 oR hal4 t4 oR4 hN
        subst hW4
        go_wp2_with (at_builtin; refine wpList_append_own _ rfl _ _ 38 rfl (w1.heap.size + 1) 57 iT _ 2 40 Try.underlying38 hiT hzT0 hzT1 hzT2 rfl (by decide) _ 0 [] rfl (World.ownsRow_nil _ _ _ _) ⟨_, 0, none⟩ 1 1 [.string ⟨c.toArray⟩, .slice q2 R.length c2] rfl rfl (World.news_of_block (cs := #[.string ⟨c.toArray⟩, .slice q2 R.length c2]) (t := 57) (fr := (0, 0)) (alw_1 _ _ _)) (by simp [Value.oneCell']) (by unfold maxLen; omega) (by omega) (by simp; omega) ?_)
        intro v6 w6 o6 g6 _
        obtain ⟨p6, c6, rfl⟩ := shapeQ1 o6
        have hb6 : Below (World.heap ((W3.alloc (.cells #[.string ⟨c.toArray⟩, .slice q2 R.length c2] 57 (0, 0))).alloc (.cells #[.string ⟨c.toArray⟩, .slice q2 R.length c2] 57 (0, 0)))).size ((W3.alloc (.cells #[.string ⟨c.toArray⟩, .slice q2 R.length c2] 57 (0, 0))).alloc (.cells #[.string ⟨c.toArray⟩, .slice q2 R.length c2] 57 (0, 0))) w6 := (Below.refl _ _).grown g6 (Nat.le_refl _) (fun b e => by cases e)
        have hb6' := bel1 hb6
        have s6 := keepblk3 hb6' HR4.out.2.2.2
        have r6 := keepblk3 hb6' HR4.out.1
        have B6 := bel0 HR4.out.2.1 hb6'
        have oR6 := own_belQ HR4.out.2.2.1 hb6'
        obtain ⟨hc6, hf6⟩ := cells_block s6
        obtain ⟨w7, hw7⟩ : ∃ w7, w6.setCell ⟨w1.heap.size, 1, none⟩ (.slice p6 1 c6) = w7 := ⟨_, rfl⟩
        have s7 : w7.heap[w1.heap.size]? = some (.cells #[.int .i64 (c.length : Int), .slice p6 1 c6] 40 (0, 0)) := by
          have h1 := set_get (j := 1) (.slice p6 1 c6) s6
          rw [← hw7, h1]
          simp
        have lt1 : w.heap.size < w1.heap.size := by have := HA.out.2.2; omega
        have r7 : w7.heap[w.heap.size]? = some (.cells #[.int .i64 0, .slice none 0 0] 40 (0, 0)) := by
          rw [← hw7, heap_setCell_other _ ⟨w1.heap.size, 1, none⟩ _ _ (by show w.heap.size ≠ w1.heap.size; omega)]
          exact r6
        have B7 : Below w.heap.size w w7 := by rw [← hw7]; exact B6.setCell (by show w.heap.size ≤ w1.heap.size; omega) _
        have sv7 : RSV w7 (w1.heap.size + 1) (.slice p6 1 c6) (some (c, srtT R)) := by
          refine ⟨.slice q2 R.length c2, ?_, ?_⟩
          · rw [← hw7]
            exact o6.kept (set_gr _ _ _ _) (.inr (fun e => by have := (o6.lt _ e).1; omega))
          · rw [← hw7, srtT_len]
            exact oR6.kept (set_gr _ _ _ _) (.inr (fun e => by have := (oR6.lt _ e).1; omega))
        have hRl : szO (some (c, srtT R)) = 1 + R.length := by
          show 1 + (srtT R).length = _
          rw [srtT_len]
        have hRb : R.length ≤ 1000000 := by
          have h1 := setO_len HN.out
          have h2 := HM.out
          omega
        have HBD : Hid (Calls Try.prog 19 #[.agg #[.int .i64 (c.length : Int), .slice p6 1 c6]] w7 fun e w' => ((128 < szO (some (c, srtT R)) ∧ e = .returned (.tuple #[.agg #[.int .i64 0, .slice none 0 0], .int .i64 3])) ∨ (¬ 128 < szO (some (c, srtT R)) ∧ e = .returned (.tuple #[.agg #[.int .i64 (c.length : Int), .slice p6 1 c6], .int .i64 0]))) ∧ Below w7.heap.size w7 w') := dbound_any (c.length : Int) (.slice p6 1 c6) (some (c, srtT R)) (w1.heap.size + 1) w7 sv7 (by rw [hRl]; have := setO_len HN.out; have := HM.out; omega)
        have HR7 : Hid (w7.heap[w.heap.size]? = some (.cells #[.int .i64 0, .slice none 0 0] 40 (0, 0)) ∧ Below w.heap.size w w7 ∧ RSV w7 (w1.heap.size + 1) (.slice p6 1 c6) (some (c, srtT R)) ∧ w.heap.size < w1.heap.size ∧ szO (some (c, srtT R)) = 1 + R.length) := ⟨r7, B7, sv7, lt1, hRl⟩
        have hcs7 := (cells_block s7).1
        clear o6 g6 hb6 hb6' s6 r6 B6 oR6 s7 r7 B7 sv7 hcs4 hct4 lt1 hRl hRb
        go_wp2_with fail
        refine HBD.out.mono ?_
        rintro e W8 ⟨⟨hgt, rfl⟩ | ⟨hgt, rfl⟩, hb8⟩
        · have HG1 : Hid (gE c L = 3 ∧ gB c L = 0 ∧ gT srtT c L = none) := by
            rw [HR7.out.2.2.2.2] at hgt
            have g1 : gE c L = 3 := by unfold gE; rw [HN.out]; exact if_pos hgt
            exact ⟨g1, by unfold gB; rw [g1]; rfl, by unfold gT; rw [HN.out]; exact if_pos hgt⟩
          have r8 := keepblk3 hb8 HR7.out.1
          obtain ⟨hc8, hf8⟩ := cells_block r8
          have HF := zero2 r8 (bel0 HR7.out.2.1 hb8) (Nat.le_refl _)
          have HF' : Hid (_ ∧ _) := HF
          clear HF r8 hb8 hcs7 hw7 hc6 hf6 hgt
          go_wp2_with fail
          refine bodyPost_ret (v := .tuple #[.agg #[.int .i64 0, .slice none 0 0], .int .i64 3]) (res_rs2 _ _ w.heap.size _ _ Try.results8 rfl HF'.out.1) rfl ?_
          exact ⟨_, by rw [HV.out.1, HV.out.2.1, HG1.out.1, HG1.out.2.1], by rw [HV.out.2.2, HG1.out.2.2]; rfl, HF'.out.2⟩
        · have HG1 : Hid (gE c L = 0 ∧ gB c L = (c.length : Int) ∧ gT srtT c L = some (c, srtT R)) := by
            rw [HR7.out.2.2.2.2] at hgt
            have g1 : gE c L = 0 := by unfold gE; rw [HN.out]; exact if_neg hgt
            exact ⟨g1, by unfold gB; rw [g1]; rfl, by unfold gT; rw [HN.out]; exact if_neg hgt⟩
          have r8 := keepblk3 hb8 HR7.out.1
          obtain ⟨hc8, hf8⟩ := cells_block r8
          have sv8 := HR7.out.2.2.1.below hb8
          have HF : Hid (((W8.setCell ⟨w.heap.size, 0, none⟩ (.int .i64 (c.length : Int))).setCell ⟨w.heap.size, 1, none⟩ (.slice p6 1 c6)).heap[w.heap.size]? = some (.cells #[.int .i64 (c.length : Int), .slice p6 1 c6] 40 (0, 0)) ∧ RSV ((W8.setCell ⟨w.heap.size, 0, none⟩ (.int .i64 (c.length : Int))).setCell ⟨w.heap.size, 1, none⟩ (.slice p6 1 c6)) w.heap.size (.slice p6 1 c6) (some (c, srtT R)) ∧ Below w.heap.size w ((W8.setCell ⟨w.heap.size, 0, none⟩ (.int .i64 (c.length : Int))).setCell ⟨w.heap.size, 1, none⟩ (.slice p6 1 c6))) := by
            have lt1 := HR7.out.2.2.2.1
            exact ⟨set2_get _ _ r8, ((sv8.kept (set_gr _ w.heap.size 0 _) (by omega)).kept (set_gr _ w.heap.size 1 _) (by omega)).base (by omega), ((bel0 HR7.out.2.1 hb8).setCell (Nat.le_refl _) _).setCell (Nat.le_refl _) _⟩
          clear r8 hb8 hcs7 hw7 hc6 hf6 hgt sv8
          go_wp2_with fail
          refine bodyPost_ret (v := .tuple #[.agg #[.int .i64 (c.length : Int), .slice p6 1 c6], .int .i64 0]) (res_rs2 _ _ w.heap.size _ _ Try.results8 rfl HF.out.1) rfl ?_
          exact ⟨_, by rw [HV.out.1, HV.out.2.1, HG1.out.1, HG1.out.2.1], by rw [HV.out.2.2, HG1.out.2.2]; exact HF.out.2.1, HF.out.2.2⟩
end Go.Proofs.Ytbdnpbiimbeflaa
namespace Go.Proofs.Ytbdnpbiimbeflaa
open Go.RowKit Go.Shelf
theorem quiet_lit3 {P : Program} {id : Nat} {Q : Exit → Act → World → Prop} {a : Act} {w : World} {l : List Oper} {C : World → Prop} (hm : P.follows .mixedOrders = true) (hB : Region.lexB .any l.toArray = true) (hC : C w.drew)
    (h : wpQuiet P l.toArray C (fun a' => ∀ w', C w' → Q .normal a' w') l a) : (Code.region id l.toArray true).wp P Q a w :=
  wp_region_quiet (C := C) hm hB hC (by simpa using h)
set_option maxRecDepth 100000 in
theorem lcube_any (s : ByteArray) (w : World) (hs : s.size ≤ maxLen) : Calls Try.prog 4 #[.string s] w fun e w' => e = .returned (cubeV (cubeT s.data.toList)) ∧ Below w.heap.size w w' := by
  obtain ⟨D, hD⟩ : ∃ D, cubeT s.data.toList = D := ⟨_, rfl⟩
  obtain ⟨E, hE⟩ : ∃ E, refP s.data.toList = E := ⟨_, rfl⟩
  rw [hD]
  obtain ⟨w1, hw1⟩ : ∃ w1, w.alloc (.cells #[.int .i64 0, .int .u64 0, .int .u64 0, .int .u64 0, .int .u64 0, .int .u64 0, .int .u64 0, .int .u64 0, .int .u64 0] 28 (0, 0)) = w1 := ⟨_, rfl⟩
  have h1 : w1.heap[w.heap.size]? = some (.cells #[.int .i64 0, .int .u64 0, .int .u64 0, .int .u64 0, .int .u64 0, .int .u64 0, .int .u64 0, .int .u64 0, .int .u64 0] 28 (0, 0)) := by rw [← hw1]; exact alloc_get _ _
  have hB1 : Below w.heap.size w w1 := by rw [← hw1]; exact belA (Below.refl _ _) _
  have HP : Hid (Calls Try.prog 10 #[.string s] w1 fun e w' => e = .returned (.tuple #[cubeV D, .int .i64 E]) ∧ Below w1.heap.size w1 w') := parse_D s w1 hs D E hD hE
  clear hD hE
  go_enter Try.func4, Try.ntmps4
  go_wp2_with fail
  refine HP.out.mono ?_
  rintro e W1 ⟨rfl, hb1⟩
  unfold cubeV cv
  have k1 := keepblk3 hb1 h1
  have k2 := allocblk3 k1 (.cells #[.int .i64 (D.length : Int), .int .u64 (FW D 0 : Int), .int .u64 (FW D 1 : Int), .int .u64 (FW D 2 : Int), .int .u64 (FW D 3 : Int), .int .u64 (OW D 0 : Int), .int .u64 (OW D 1 : Int), .int .u64 (OW D 2 : Int), .int .u64 (OW D 3 : Int)] 28 (0, 0))
  obtain ⟨hc2, hf2⟩ := cells_block k2
  have HF : Hid (_ = _) := put9_get (.int .i64 (D.length : Int)) (.int .u64 (FW D 0 : Int)) (.int .u64 (FW D 1 : Int)) (.int .u64 (FW D 2 : Int)) (.int .u64 (FW D 3 : Int)) (.int .u64 (OW D 0 : Int)) (.int .u64 (OW D 1 : Int)) (.int .u64 (OW D 2 : Int)) (.int .u64 (OW D 3 : Int)) k2
  have HB : Hid (Below w.heap.size w (put9 (W1.alloc (.cells #[.int .i64 (D.length : Int), .int .u64 (FW D 0 : Int), .int .u64 (FW D 1 : Int), .int .u64 (FW D 2 : Int), .int .u64 (FW D 3 : Int), .int .u64 (OW D 0 : Int), .int .u64 (OW D 1 : Int), .int .u64 (OW D 2 : Int), .int .u64 (OW D 3 : Int)] 28 (0, 0))) w.heap.size (.int .i64 (D.length : Int)) (.int .u64 (FW D 0 : Int)) (.int .u64 (FW D 1 : Int)) (.int .u64 (FW D 2 : Int)) (.int .u64 (FW D 3 : Int)) (.int .u64 (OW D 0 : Int)) (.int .u64 (OW D 1 : Int)) (.int .u64 (OW D 2 : Int)) (.int .u64 (OW D 3 : Int)))) := put9_below _ _ _ _ _ _ _ _ _ (belA (bel0 hB1 hb1) _) (Nat.le_refl _)
  clear k1 k2 h1 hB1 hb1 hw1
  go_wp2_with fail
  refine bodyPost_ret (v := .agg #[.int .i64 (D.length : Int), .int .u64 (FW D 0 : Int), .int .u64 (FW D 1 : Int), .int .u64 (FW D 2 : Int), .int .u64 (FW D 3 : Int), .int .u64 (OW D 0 : Int), .int .u64 (OW D 1 : Int), .int .u64 (OW D 2 : Int), .int .u64 (OW D 3 : Int)]) ?_ rfl ?_
  · exact res_cube1 _ _ w.heap.size _ _ _ _ _ _ _ _ _ Try.results4 rfl HF.out
  · exact ⟨rfl, HB.out⟩
set_option maxRecDepth 100000 in
theorem mark_any (i : Int) (m : Nat) (w : World) (hi : (i = 1 ∧ m = 39) ∨ (i = 2 ∧ m = 40)) : Calls Try.prog 6 #[.int .i64 1, .int .i64 i] w fun e w' => e = .returned (cubeV (List.replicate m 120)) ∧ Below w.heap.size w w' := by
  obtain ⟨w1, hw1⟩ : ∃ w1, w.alloc (.cells #[.int .i64 0, .int .u64 0, .int .u64 0, .int .u64 0, .int .u64 0, .int .u64 0, .int .u64 0, .int .u64 0, .int .u64 0] 28 (0, 0)) = w1 := ⟨_, rfl⟩
  have h1 : w1.heap[w.heap.size]? = some (.cells #[.int .i64 0, .int .u64 0, .int .u64 0, .int .u64 0, .int .u64 0, .int .u64 0, .int .u64 0, .int .u64 0, .int .u64 0] 28 (0, 0)) := by rw [← hw1]; exact alloc_get _ _
  have hB1 : Below w.heap.size w w1 := by rw [← hw1]; exact belA (Below.refl _ _) _
  obtain ⟨D, hD⟩ : ∃ D, List.replicate m (120 : UInt8) = D := ⟨_, rfl⟩
  have HP : Hid (Calls Try.prog 12 #[.int .i64 (m : Int)] w1 fun e w' => e = .returned (cubeV D) ∧ Below w1.heap.size w1 w') := by
    have h := all_any (m : Int) w1
    rw [if_pos (by rcases hi with ⟨-, rfl⟩ | ⟨-, rfl⟩ <;> decide)] at h
    unfold Hid
    rw [← hD]
    simpa using h
  rw [hD]
  clear hD
  rcases hi with ⟨rfl, rfl⟩ | ⟨rfl, rfl⟩
  all_goals
    go_enter Try.func6, Try.ntmps6
    go_wp2_with fail
    refine HP.out.mono ?_
    rintro e W1 ⟨rfl, hb1⟩
    unfold cubeV cv
    have k1 := keepblk3 hb1 h1
    obtain ⟨hc2, hf2⟩ := cells_block k1
    have HF : Hid (_ = _) := put9_get (.int .i64 (D.length : Int)) (.int .u64 (FW D 0 : Int)) (.int .u64 (FW D 1 : Int)) (.int .u64 (FW D 2 : Int)) (.int .u64 (FW D 3 : Int)) (.int .u64 (OW D 0 : Int)) (.int .u64 (OW D 1 : Int)) (.int .u64 (OW D 2 : Int)) (.int .u64 (OW D 3 : Int)) k1
    have HB : Hid (Below w.heap.size w (put9 W1 w.heap.size (.int .i64 (D.length : Int)) (.int .u64 (FW D 0 : Int)) (.int .u64 (FW D 1 : Int)) (.int .u64 (FW D 2 : Int)) (.int .u64 (FW D 3 : Int)) (.int .u64 (OW D 0 : Int)) (.int .u64 (OW D 1 : Int)) (.int .u64 (OW D 2 : Int)) (.int .u64 (OW D 3 : Int)))) := put9_below _ _ _ _ _ _ _ _ _ (bel0 hB1 hb1) (Nat.le_refl _)
    clear k1 h1 hB1 hb1 hw1
    go_wp2_with fail
    refine bodyPost_ret (v := .agg #[.int .i64 (D.length : Int), .int .u64 (FW D 0 : Int), .int .u64 (FW D 1 : Int), .int .u64 (FW D 2 : Int), .int .u64 (FW D 3 : Int), .int .u64 (OW D 0 : Int), .int .u64 (OW D 1 : Int), .int .u64 (OW D 2 : Int), .int .u64 (OW D 3 : Int)]) ?_ rfl ?_
    · exact res_cube1 _ _ w.heap.size _ _ _ _ _ _ _ _ _ Try.results6 rfl HF.out
    · exact ⟨rfl, HB.out⟩
theorem num_any (e : Int) (w : World) : Calls Try.prog 20 #[.int .i64 e] w fun r w' => r = .returned (.int .i64 e) ∧ Below w.heap.size w w' := by
  go_enter Try.func20, Try.ntmps20
  go_wp2_with fail
  go_ret
  exact ⟨rfl, Below.refl _ _⟩
set_option maxRecDepth 100000 in
set_option maxHeartbeats 4000000 in
theorem like_any (b : Int) (V V2 : Value) (o : Option (List UInt8 × List (List UInt8))) (B1 B2 : Nat) (w : World) (h : SPV w B1 V o) (h2 : RSV w B2 V2 o) (ho : szO o ≤ 1000000) (hg : gdO o) : Calls Try.prog 21 #[.agg #[.int .i64 b, V, .bool false], .agg #[.int .i64 b, V2]] w fun e w' => e = .returned (.bool true) ∧ Below w.heap.size w w' := by
  obtain ⟨p, cp, rfl⟩ := h.shape2
  obtain ⟨p2, cp2, rfl⟩ := h2.shape2
  obtain ⟨w0, hw0⟩ : ∃ w0, (w.alloc (.cells #[.int .i64 b, .slice p (lnO o) cp, .bool false] 34 (0, 0))).alloc (.cells #[.int .i64 b, .slice p2 (lnO o) cp2] 40 (0, 0)) = w0 := ⟨_, rfl⟩
  have ha : w0.heap[w.heap.size]? = some (.cells #[.int .i64 b, .slice p (lnO o) cp, .bool false] 34 (0, 0)) := by rw [← hw0]; exact alw_0 _ _ _
  have hb : w0.heap[w.heap.size + 1]? = some (.cells #[.int .i64 b, .slice p2 (lnO o) cp2] 40 (0, 0)) := by rw [← hw0]; exact alw_1 _ _ _
  have hB0 : Below w.heap.size w w0 := by rw [← hw0]; exact belA (belA (Below.refl _ _) _) _
  have HSz : Hid (∀ W, Below w0.heap.size w0 W → Calls Try.prog 33 #[.agg #[.int .i64 b, .slice p (lnO o) cp, .bool false]] W fun e w' => e = .returned (.int .i64 (szO o : Int)) ∧ Below W.heap.size W w') := fun W hW => sSize_any b _ o B1 W (h.below (bel0 hB0 hW)) ho
  have HSx : Hid (∀ W, Below w0.heap.size w0 W → Calls Try.prog 34 #[.agg #[.int .i64 b, .slice p (lnO o) cp, .bool false]] W fun e w' => e = .returned (.string ⟨(txO o).toArray⟩) ∧ Below W.heap.size W w') := fun W hW => sText_any b _ o B1 W (h.below (bel0 hB0 hW)) ho hg
  have HDz : Hid (∀ W, Below w0.heap.size w0 W → Calls Try.prog 31 #[.agg #[.int .i64 b, .slice p2 (lnO o) cp2]] W fun e w' => e = .returned (.int .i64 (szO o : Int)) ∧ Below W.heap.size W w') := fun W hW => dSize_any b _ o B2 W (h2.below (bel0 hB0 hW)) ho
  have HDx : Hid (∀ W, Below w0.heap.size w0 W → Calls Try.prog 35 #[.agg #[.int .i64 b, .slice p2 (lnO o) cp2]] W fun e w' => e = .returned (.string ⟨(txO o).toArray⟩) ∧ Below W.heap.size W w') := fun W hW => dText_any b _ o B2 W (h2.below (bel0 hB0 hW)) ho hg
  obtain ⟨n, hn⟩ : ∃ n, lnO o = n := ⟨_, rfl⟩
  rw [hn] at ha hb HSz HSx HDz HDx hw0 ⊢
  obtain ⟨n2, hn2⟩ : ∃ n2, n = n2 := ⟨_, rfl⟩
  have HBi : Hid (∀ W, Calls Try.prog 32 #[.agg #[.int .i64 b, .slice p n cp, .bool false]] W fun e w' => e = .returned (.int .i64 b) ∧ Below W.heap.size W w') := fun W => bits_any b p n cp W
  have HX : Hid (∀ W, Below w0.heap.size w0 W → W.cell? ⟨w.heap.size, 0, none⟩ = some (.int .i64 b) ∧ W.cell? ⟨w.heap.size, 1, none⟩ = some (.slice p n cp) ∧ W.cell? ⟨w.heap.size, 2, none⟩ = some (.bool false) ∧ W.cell? ⟨w.heap.size + 1, 0, none⟩ = some (.int .i64 b) ∧ W.cell? ⟨w.heap.size + 1, 1, none⟩ = some (.slice p2 n cp2)) := fun W hW => by
    obtain ⟨c1, -⟩ := cells_block (keepblk3 hW ha)
    obtain ⟨c2, -⟩ := cells_block (keepblk3 hW hb)
    exact ⟨c1 0, c1 1, c1 2, c2 0, c2 1⟩
  clear ha hb h h2 hn hn2 n2
  go_enter Try.func21, Try.ntmps21
  go_wp2_with fail
  clear hw0
  refine quiet_lit3 (C := fun W => Below w0.heap.size w0 W) (by kernel_rfl) (by kernel_rfl) (show Below _ _ _ from (Below.refl _ _).drew) ?_
  go_big_quiet_want
  refine ⟨.agg #[.int .i64 b, .slice p n cp, .bool false], fun W hW => ?_, ?_⟩
  · obtain ⟨x0, x1, x2, y0, y1⟩ := HX.out W hW
    go_simp
  go_big_quiet_on
  simp only [Act.put, List.setIfInBounds_toArray, List.set_cons_zero, List.set_cons_succ]
  go_big_quiet_want
  refine ⟨.int .i64 b, fun W hW => ?_, ?_⟩
  · go_simp
    refine (HBi.out W).mono ?_
    rintro e w7 ⟨rfl, hb⟩
    exact ⟨rfl, bel0 hW hb⟩
  go_big_quiet_on
  simp only [Act.put, List.setIfInBounds_toArray, List.set_cons_zero, List.set_cons_succ]
  go_big_quiet_want
  refine ⟨.pointer (some ⟨w.heap.size + 1, 0, none⟩), fun W hW => ?_, ?_⟩
  · go_simp
  go_big_quiet_on
  simp only [Act.put, List.setIfInBounds_toArray, List.set_cons_zero, List.set_cons_succ]
  go_big_quiet_want
  refine ⟨.int .i64 b, fun W hW => ?_, ?_⟩
  · obtain ⟨x0, x1, x2, y0, y1⟩ := HX.out W hW
    go_simp
  go_big_quiet_on
  simp only [Act.put, List.setIfInBounds_toArray, List.set_cons_zero, List.set_cons_succ]
  go_big_quiet_want
  refine ⟨.bool true, fun W hW => ?_, ?_⟩
  · go_simp
  go_big_quiet_on
  simp only [Act.put, List.setIfInBounds_toArray, List.set_cons_zero, List.set_cons_succ]
  go_big_quiet_want
  go_big_quiet_op
  go_big_quiet_on
  go_big_quiet_want
  refine ⟨.agg #[.int .i64 b, .slice p n cp, .bool false], fun W hW => ?_, ?_⟩
  · obtain ⟨x0, x1, x2, y0, y1⟩ := HX.out W hW
    go_simp
  go_big_quiet_on
  simp only [Act.put, List.setIfInBounds_toArray, List.set_cons_zero, List.set_cons_succ]
  go_big_quiet_want
  refine ⟨.int .i64 (szO o : Int), fun W hW => ?_, ?_⟩
  · go_simp
    refine (HSz.out W hW).mono ?_
    rintro e w7 ⟨rfl, hb⟩
    exact ⟨rfl, bel0 hW hb⟩
  go_big_quiet_on
  simp only [Act.put, List.setIfInBounds_toArray, List.set_cons_zero, List.set_cons_succ]
  go_big_quiet_want
  refine ⟨.agg #[.int .i64 b, .slice p2 n cp2], fun W hW => ?_, ?_⟩
  · obtain ⟨x0, x1, x2, y0, y1⟩ := HX.out W hW
    go_simp
  go_big_quiet_on
  simp only [Act.put, List.setIfInBounds_toArray, List.set_cons_zero, List.set_cons_succ]
  go_big_quiet_want
  refine ⟨.int .i64 (szO o : Int), fun W hW => ?_, ?_⟩
  · go_simp
    refine (HDz.out W hW).mono ?_
    rintro e w7 ⟨rfl, hb⟩
    exact ⟨rfl, bel0 hW hb⟩
  go_big_quiet_on
  simp only [Act.put, List.setIfInBounds_toArray, List.set_cons_zero, List.set_cons_succ]
  go_big_quiet_want
  refine ⟨.bool true, fun W hW => ?_, ?_⟩
  · go_simp
  go_big_quiet_on
  simp only [Act.put, List.setIfInBounds_toArray, List.set_cons_zero, List.set_cons_succ]
  go_big_quiet_want
  refine ⟨.bool true, fun W hW => ?_, ?_⟩
  · go_simp
  go_big_quiet_on
  simp only [Act.put, List.setIfInBounds_toArray, List.set_cons_zero, List.set_cons_succ]
  go_big_quiet_want
  go_big_quiet_op
  go_big_quiet_on
  go_big_quiet_want
  refine ⟨.agg #[.int .i64 b, .slice p n cp, .bool false], fun W hW => ?_, ?_⟩
  · obtain ⟨x0, x1, x2, y0, y1⟩ := HX.out W hW
    go_simp
  go_big_quiet_on
  simp only [Act.put, List.setIfInBounds_toArray, List.set_cons_zero, List.set_cons_succ]
  go_big_quiet_want
  refine ⟨.string ⟨(txO o).toArray⟩, fun W hW => ?_, ?_⟩
  · go_simp
    refine (HSx.out W hW).mono ?_
    rintro e w7 ⟨rfl, hb⟩
    exact ⟨rfl, bel0 hW hb⟩
  go_big_quiet_on
  simp only [Act.put, List.setIfInBounds_toArray, List.set_cons_zero, List.set_cons_succ]
  go_big_quiet_want
  refine ⟨.agg #[.int .i64 b, .slice p2 n cp2], fun W hW => ?_, ?_⟩
  · obtain ⟨x0, x1, x2, y0, y1⟩ := HX.out W hW
    go_simp
  go_big_quiet_on
  simp only [Act.put, List.setIfInBounds_toArray, List.set_cons_zero, List.set_cons_succ]
  go_big_quiet_want
  refine ⟨.string ⟨(txO o).toArray⟩, fun W hW => ?_, ?_⟩
  · go_simp
    refine (HDx.out W hW).mono ?_
    rintro e w7 ⟨rfl, hb⟩
    exact ⟨rfl, bel0 hW hb⟩
  go_big_quiet_on
  simp only [Act.put, List.setIfInBounds_toArray, List.set_cons_zero, List.set_cons_succ]
  go_big_quiet_want
  refine ⟨.bool true, fun W hW => ?_, ?_⟩
  · go_simp
  go_big_quiet_on
  simp only [Act.put, List.setIfInBounds_toArray, List.set_cons_zero, List.set_cons_succ]
  go_big_quiet_want
  refine ⟨.bool true, fun W hW => ?_, ?_⟩
  · go_simp
  go_big_quiet_on
  simp only [Act.put, List.setIfInBounds_toArray, List.set_cons_zero, List.set_cons_succ]
  go_big_quiet_want
  go_big_quiet_op
  go_big_quiet_on
  refine wpQuiet_nil ?_
  intro W hW
  go_wp2_with fail
  go_ret
  exact ⟨rfl, bel0 hB0 hW⟩
set_option maxRecDepth 100000 in
theorem same_any (b e : Int) (V V2 : Value) (o : Option (List UInt8 × List (List UInt8))) (B1 B2 : Nat) (w : World) (h : SPV w B1 V o) (h2 : RSV w B2 V2 o) (ho : szO o ≤ 1000000) (hg : gdO o) : Calls Try.prog 9 #[.agg #[.int .i64 b, V, .bool false], .int .i64 e, .agg #[.int .i64 b, V2], .int .i64 e] w fun r w' => r = .returned (.bool true) ∧ Below w.heap.size w w' := by
  obtain ⟨p, cp, rfl⟩ := h.shape2
  obtain ⟨p2, cp2, rfl⟩ := h2.shape2
  obtain ⟨w0, hw0⟩ : ∃ w0, (w.alloc (.cells #[.int .i64 b, .slice p (lnO o) cp, .bool false] 34 (0, 0))).alloc (.cells #[.int .i64 b, .slice p2 (lnO o) cp2] 40 (0, 0)) = w0 := ⟨_, rfl⟩
  have ha : w0.heap[w.heap.size]? = some (.cells #[.int .i64 b, .slice p (lnO o) cp, .bool false] 34 (0, 0)) := by rw [← hw0]; exact alw_0 _ _ _
  have hb : w0.heap[w.heap.size + 1]? = some (.cells #[.int .i64 b, .slice p2 (lnO o) cp2] 40 (0, 0)) := by rw [← hw0]; exact alw_1 _ _ _
  have hB0 : Below w.heap.size w w0 := by rw [← hw0]; exact belA (belA (Below.refl _ _) _) _
  have HL : Hid (∀ W, Below w0.heap.size w0 W → Calls Try.prog 21 #[.agg #[.int .i64 b, .slice p (lnO o) cp, .bool false], .agg #[.int .i64 b, .slice p2 (lnO o) cp2]] W fun e w' => e = .returned (.bool true) ∧ Below W.heap.size W w') := fun W hW => like_any b _ _ o B1 B2 W (h.below (bel0 hB0 hW)) (h2.below (bel0 hB0 hW)) ho hg
  have HA : Hid (w0.heap[w.heap.size]? = some (.cells #[.int .i64 b, .slice p (lnO o) cp, .bool false] 34 (0, 0)) ∧ w0.heap[w.heap.size + 1]? = some (.cells #[.int .i64 b, .slice p2 (lnO o) cp2] 40 (0, 0))) := ⟨ha, hb⟩
  clear ha hb h h2
  go_enter Try.func9, Try.ntmps9
  go_wp2_with fail
  refine (num_any e _).mono ?_
  rintro r W1 ⟨rfl, hb1⟩
  obtain ⟨c1, -⟩ := cells_block (keepblk3 hb1 HA.out.1)
  obtain ⟨c2, -⟩ := cells_block (keepblk3 hb1 HA.out.2)
  clear hw0
  go_wp2_with fail
  refine (HL.out W1 hb1).mono ?_
  rintro r W2 ⟨rfl, hb2⟩
  go_wp2_with fail
  go_ret
  exact ⟨rfl, bel0 hB0 (bel0 hb1 hb2)⟩
end Go.Proofs.Ytbdnpbiimbeflaa
namespace Go.Proofs.Ytbdnpbiimbeflaa
open Go.RowKit Go.Shelf
def cubL (l : List ByteArray) : List (List UInt8) := l.map (fun s => cubeT s.data.toList)
theorem good_cubL (SL : List ByteArray) : ∀ x ∈ cubL SL, good x = true := by
  intro x hx
  unfold cubL at hx
  obtain ⟨s, _, rfl⟩ := List.mem_map.1 hx
  exact good_cubeT _
theorem getD_at (SL : List ByteArray) (k : Nat) (hk : k < SL.length) : SL[k]? = some (SL.getD k ByteArray.empty) := by simp [List.getElem?_eq_getElem hk]
theorem getD_mem (SL : List ByteArray) (k : Nat) (hk : k < SL.length) : SL.getD k ByteArray.empty ∈ SL := List.mem_of_getElem? (getD_at SL k hk)
theorem cubL_snoc (SL : List ByteArray) (k : Nat) (hk : k < SL.length) (S : ByteArray) (hS : SL.getD k ByteArray.empty = S) (P : List UInt8) (hP : cubeT S.data.toList = P) : cubL (SL.take (k + 1)) = cubL (SL.take k) ++ [P] := by
  rw [List.take_add_one, getD_at SL k hk, hS, ← hP]
  simp [cubL]
theorem cubL_at (SL : List ByteArray) (k : Nat) (hk : k < SL.length) : (cubL SL)[k]? = some (cubeT (SL.getD k ByteArray.empty).data.toList) := by
  unfold cubL
  rw [List.getElem?_map, getD_at SL k hk]
  rfl
theorem own_neK {W : World} {B1 B2 : Nat} {e1 e2 : TypeId} {s1 s2 n1 n2 : Nat} {a v : Value} {xs ys : List Value} (h1 : W.ownsRow B1 e1 s1 a n1 xs) (h2 : W.ownsRow B2 e2 s2 v n2 ys) (hne : e1 ≠ e2) : a.ownBlock = none ∨ a.ownBlock ≠ v.ownBlock := own_neQ h1 h2 hne
theorem own_pre {W : World} {B g c n m : Nat} {xs ys : List Value} (h : W.ownsRow B 28 9 (.slice (some ⟨g, 0, none⟩) (n + m) c) (n + m) (xs ++ ys)) (hx : xs.length = n * 9) : W.ownsRow B 28 9 (.slice (some ⟨g, 0, none⟩) n c) n xs := by
  rcases h.2 with ⟨e, _⟩ | ⟨g2, c2, cur, e, h1, h2, h3, h4, h5, h6⟩
  · cases e
  · injection e with e1 e2 e3
    injection e1 with e1
    injection e1 with e1
    subst e1 e3
    refine ⟨hx, .inr ⟨_, _, cur, rfl, h1, h2, by omega, h4, h5, ?_⟩⟩
    have : cur.toList.take (n * 9) = ((cur.toList.take ((n + m) * 9))).take (n * 9) := by rw [List.take_take]; congr 1; omega
    rw [this, h6, ← hx, List.take_left']
    rfl
theorem own_shape2 {W : World} {B n : Nat} {e : TypeId} {sz : Nat} {v : Value} {xs : List Value} (h : W.ownsRow B e sz v (n + 2) xs) : ∃ g c, v = .slice (some ⟨g, 0, none⟩) (n + 2) c := by
  rcases h.2 with ⟨_, h⟩ | ⟨g, c, _, rfl, _⟩
  · omega
  · exact ⟨_, _, rfl⟩
theorem own_cap {W : World} {B n m g c : Nat} {e : TypeId} {sz : Nat} {xs : List Value} (h : W.ownsRow B e sz (.slice (some ⟨g, 0, none⟩) n c) m xs) : m ≤ c := by
  rcases h.2 with ⟨e, _⟩ | ⟨g2, c2, cur, e, _, _, h3, _⟩
  · cases e
  · injection e with _ _ e3
    omega
theorem ce_at2 {W : World} {B g cap k n : Nat} {R : List (List UInt8)} {P : List UInt8} (hown : W.ownsRow B 28 9 (.slice (some ⟨g, 0, none⟩) n cap) n (ces R)) (hn : R.length = n) (hP : R[k]? = some P) : CB W g (k * 9) P := by
  subst hn
  obtain ⟨h, e⟩ := List.getElem?_eq_some_iff.1 hP
  exact ce_at hown h e
theorem blk_ne {W : World} {a b : Nat} {c1 c2 : Array Value} {t1 t2 : TypeId} {f1 f2 : Nat × Nat} (h1 : W.heap[a]? = some (.cells c1 t1 f1)) (h2 : W.heap[b]? = some (.cells c2 t2 f2)) (ht : t1 ≠ t2) : a ≠ b := by
  rintro rfl
  rw [h1] at h2
  injection h2 with h2
  injection h2 with _ h2 _
  exact ht h2
theorem own_blk {W : World} {B n m g c : Nat} {e : TypeId} {sz : Nat} {xs : List Value} (h : W.ownsRow B e sz (.slice (some ⟨g, 0, none⟩) n c) m xs) : ∃ cur, W.heap[g]? = some (.cells cur e (0, 0)) := by
  rcases h.2 with ⟨e, _⟩ | ⟨g2, c2, cur, e, _, h2, _⟩
  · cases e
  · injection e with e1 _ _
    injection e1 with e1
    injection e1 with e1
    subst e1
    exact ⟨_, h2⟩
theorem wrapK (m : Nat) (h : m ≤ 2000000) : IntKind.i64.wrap (m : Int) = (m : Int) := by
  rw [IntKind.wrap_i64]
  omega
theorem ofT_gd {c : List UInt8} {L : List (List UInt8)} (gc : good c = true) (gL : ∀ x ∈ L, good x = true) : gdO (ofT srtT c L) ∧ szO (ofT srtT c L) ≤ 1000 := by
  unfold ofT
  split
  · exact ⟨trivial, by simp [szO]⟩
  split
  · exact ⟨trivial, by simp [szO]⟩
  unfold gT
  cases hS : setO c L with
  | none => exact ⟨trivial, by simp [szO]⟩
  | some R =>
    show gdO (if 128 < 1 + R.length then none else some (c, srtT R)) ∧ szO (if 128 < 1 + R.length then none else some (c, srtT R)) ≤ 1000
    split
    · exact ⟨trivial, by simp [szO]⟩
    · rename_i h
      refine ⟨⟨gc, fun t ht => setO_good hS gc gL t ((srtT_perm R).mem_iff.1 ht)⟩, ?_⟩
      show 1 + (srtT R).length ≤ 1000
      rw [srtT_len]
      omega
/-- the two rows and the two spaces stand -/
def SB (W : World) (B b : Nat) (V : Value) (x : Int) (o : Option (List UInt8 × List (List UInt8))) : Prop := W.heap[b]? = some (.cells #[.int .i64 x, V, .bool false] 34 (0, 0)) ∧ SPV W B V o
def TB (W : World) (B b : Nat) (V : Value) (x : Int) (o : Option (List UInt8 × List (List UInt8))) : Prop := W.heap[b]? = some (.cells #[.int .i64 x, V] 40 (0, 0)) ∧ RSV W B V o
theorem SB.below {W X : World} {B b : Nat} {V : Value} {x : Int} {o : Option (List UInt8 × List (List UInt8))} (h : SB W B b V x o) (hb : Below W.heap.size W X) : SB X B b V x o := ⟨keepblk3 hb h.1, h.2.below hb⟩
theorem TB.below {W X : World} {B b : Nat} {V : Value} {x : Int} {o : Option (List UInt8 × List (List UInt8))} (h : TB W B b V x o) (hb : Below W.heap.size W X) : TB X B b V x o := ⟨keepblk3 hb h.1, h.2.below hb⟩
theorem SB.base {W : World} {A B b : Nat} {V : Value} {x : Int} {o : Option (List UInt8 × List (List UInt8))} (h : SB W B b V x o) (hA : A ≤ B) : SB W A b V x o := ⟨h.1, h.2.base hA⟩
theorem TB.base {W : World} {A B b : Nat} {V : Value} {x : Int} {o : Option (List UInt8 × List (List UInt8))} (h : TB W B b V x o) (hA : A ≤ B) : TB W A b V x o := ⟨h.1, h.2.base hA⟩
theorem RSV.shape {W : World} {B : Nat} {V : Value} {o : Option (List UInt8 × List (List UInt8))} (h : RSV W B V o) : ∃ p n c, V = .slice p n c := by
  obtain ⟨p, c, e⟩ := h.shape2
  exact ⟨p, _, c, e⟩
theorem SB_put {W : World} {B b : Nat} {V x0 x1 x2 : Value} {x : Int} {o : Option (List UInt8 × List (List UInt8))} (h : W.heap[b]? = some (.cells #[x0, x1, x2] 34 (0, 0))) (hs : SPV W B V o) (hb : b < B) : SB (((W.setCell ⟨b, 0, none⟩ (.int .i64 x)).setCell ⟨b, 1, none⟩ V).setCell ⟨b, 2, none⟩ (.bool false)) B b V x o :=
  ⟨keep3 h x V false, ((hs.kept (set_gr _ b 0 _) hb).kept (set_gr _ b 1 _) hb).kept (set_gr _ b 2 _) hb⟩
theorem TB_put {W : World} {B b : Nat} {V x0 x1 : Value} {x : Int} {o : Option (List UInt8 × List (List UInt8))} (h : W.heap[b]? = some (.cells #[x0, x1] 40 (0, 0))) (hs : RSV W B V o) (hb : b < B) : TB ((W.setCell ⟨b, 0, none⟩ (.int .i64 x)).setCell ⟨b, 1, none⟩ V) B b V x o :=
  ⟨set2_get _ _ h, (hs.kept (set_gr _ b 0 _) hb).kept (set_gr _ b 1 _) hb⟩
theorem bel_up {a W X : World} (h : Below a.heap.size a W) (h2 : Below a.heap.size W X) : Below a.heap.size a X := h.trans h2
end Go.Proofs.Ytbdnpbiimbeflaa
