import Derived.Test.YtcmajlianphoaaaGreatDoorXBH
import Derived.Test.YtcmajlianphoaaaGreatDoorXBI
import Derived.Test.YtcmajlianphoaaaGreatDoorXBJ
import Derived.Test.YtcmajlianphoaaaGreatDoorXBM
namespace Go.Proofs.YtcmajlianphoaaaGreatDoor
open Go.RowKit Go.Shelf
theorem rst_ofG {w : World} {q : Option Addr} {len : Nat} {SL : List ByteArray} (hlen : SL.length = len) (hcell0 : ∀ i, i < len → ∃ ad, q = some ad ∧ w.cell? (ad.add i) = some (.string (SL.getD i ByteArray.empty))) (hsz0 : ∀ s ∈ SL, s.size ≤ maxLen) : RST w q len := fun X hX i hi => by
  obtain ⟨ad, e1, e2⟩ := hcell0 i hi
  have hi' : i < SL.length := by omega
  rw [List.getD_eq_getElem?_getD, List.getElem?_eq_getElem hi', Option.getD_some] at e2
  exact ⟨ad, SL[i].data.toList, e1, (hX.cell (World.block_lt_of_cell? w _ e2)).trans e2, hsz0 _ (List.getElem_mem hi')⟩
theorem exE_okG {lim : Nat} : ∀ (Ts : List (List UInt8 × List (List UInt8))) (out R : List (List UInt8)), gdS Ts → (∀ x ∈ out, good x = true) → out.length ≤ lim → exE splT lim out Ts = some R → (∀ x ∈ R, good x = true) ∧ R.length ≤ lim
  | [], out, R, _, g, h, e => by
    injection e with e
    subst e
    exact ⟨g, h⟩
  | t :: r, out, R, gt, g, h, e => by
    unfold exE at e
    split at e
    · rename_i ho
      obtain ⟨t1, t3⟩ := gt t List.mem_cons_self
      refine exE_okG r _ R (fun x hx => gt x (List.mem_cons_of_mem _ hx)) (fun x hx => ?_) ?_ e
      · rcases List.mem_append.1 hx with hx | hx
        · exact g x hx
        · exact (gdW_exT t.2 [t.1] (fun y hy => by rw [List.mem_singleton] at hy; subst hy; exact ⟨t1, rfl⟩) t3 x hx).1
      · rw [List.length_append]
        exact exO_len splT ho
    · cases e
theorem xpL_okG {b lim : Int} {Ts : List (List UInt8 × List (List UInt8))} (h : gdS Ts) : (∀ x ∈ xpL b lim Ts, good x = true) ∧ (xpL b lim Ts).length ≤ 2048 := by
  unfold xpL
  split
  · exact ⟨(fun x hx => by cases hx), Nat.zero_le _⟩
  · split
    · exact ⟨(fun x hx => by cases hx), Nat.zero_le _⟩
    · rename_i h2
      cases hx : exE splT lim.toNat [] Ts with
      | none => exact ⟨(fun x hx => by cases hx), Nat.zero_le _⟩
      | some R =>
        obtain ⟨h3, h4⟩ := exE_okG Ts [] R h (fun x hx => by cases hx) (Nat.zero_le _) hx
        exact ⟨h3, by show R.length ≤ 2048; omega⟩
theorem xpE_three {b : Int} {Ts : List (List UInt8 × List (List UInt8))} (hb : ¬ b = 0) (h : ¬ xpE b 2048 Ts = 0) : xpE b 2048 Ts = 3 := by
  unfold xpE at h ⊢
  rw [if_neg hb, if_neg (by omega)] at h ⊢
  split
  · rfl
  · rename_i h1
    rw [if_neg h1] at h
    exact absurd rfl h
/-- what the walk asks of the plain cubes -/
def SPR (l : List UInt8) (b : Int) (L : List (List UInt8)) (m : List UInt8) : Prop := (L ≠ [] → sdB l m = true ∧ m.length ≤ maxLen) ∧ (L = [] → m = []) ∧ ∀ x, ihB b x = true → L.any (fun c => ftB x c) = sdB l x ∧ (sdB l x = true → Op.bytesLess x m = false)
theorem spr_ok {b : Int} {l : List UInt8} (h0 : prE b l = 0) (hx : xpE b 2048 (prT b l) = 0) : SPR l b (xpL b 2048 (prT b l)) (mnL (xpL b 2048 (prT b l))) := by
  have gt1 := gdS_pr b l
  obtain ⟨hb1, hb2, -⟩ := prE_zero h0
  have hn : 1 ≤ b.toNat := by omega
  have hwd : ∀ t ∈ prT b l, t.1.length = b.toNat := fun t ht => by
    have := (prT_ft b l t ht).2.1
    omega
  have hxw := xpL_wide (b := b) (lim := 2048) gt1 hwd
  have hxl := xpL_okG (b := b) (lim := 2048) gt1
  have hne : ∀ x ∈ xpL b 2048 (prT b l), x ≠ [] := fun x hx e => by
    have h1 := hxw x hx
    rw [e] at h1
    simp at h1
    omega
  obtain ⟨s1, s2⟩ := spread_least (b := b) (lim := 2048) hn gt1 hwd hx (fun x hx => ⟨hxl.1 x hx, hne x hx, hxw x hx⟩)
  refine ⟨fun hL => ?_, fun hL => by rw [hL]; rfl, fun x hi => ?_⟩
  · obtain ⟨h1, h2⟩ := s1 hL
    refine ⟨by rw [sd_pr _ h0]; exact h1, ?_⟩
    rw [h2]
    unfold maxLen
    omega
  · unfold ihB at hi
    rw [Bool.and_eq_true, beq_iff_eq] at hi
    have hlx : x.length = b.toNat := by omega
    have hw := xpL_wi (b := b) (lim := 2048) (h := x) hn hlx hi.2 gt1 hwd hx
    have e1 : (∃ c ∈ xpL b 2048 (prT b l), wiB x c = true) ↔ (xpL b 2048 (prT b l)).any (fun c => ftB x c) = true := by
      rw [List.any_eq_true]
      constructor
      · rintro ⟨c, hc, e⟩
        exact ⟨c, hc, by rw [ft_wi (hne c hc)]; exact e⟩
      · rintro ⟨c, hc, e⟩
        rw [ft_wi (hne c hc)] at e
        exact ⟨c, hc, e⟩
    refine ⟨?_, fun hs => s2 x hlx hi.2 (hw.2 ?_)⟩
    · rw [Bool.eq_iff_iff, ← e1, hw, sd_pr _ h0]
    · rw [← sd_pr _ h0]
      exact hs
theorem any_takeG {L : List (List UInt8)} {f : List UInt8 → Bool} {k : Nat} {c : List UInt8} (h : L[k]? = some c) (h0 : (L.take k).any f = false) : (L.take (k + 1)).any f = f c := by
  rw [List.take_add_one, h, List.any_append, h0]
  simp
theorem any_yesG {L : List (List UInt8)} {f : List UInt8 → Bool} {k : Nat} (h : (L.take k).any f = true) : L.any f = true := by
  obtain ⟨x, hx, e⟩ := List.any_eq_true.1 h
  exact List.any_eq_true.2 ⟨x, List.mem_of_mem_take hx, e⟩
set_option maxRecDepth 100000 in
set_option maxHeartbeats 8000000 in
theorem spread_walk (b : Int) (l : List UInt8) (q : Option Addr) (len cap : Nat) (SL : List ByteArray) (w : World) (hl0 : l.length ≤ 281474976710656) (hlen : SL.length = len) (hcell0 : ∀ i, i < len → ∃ ad, q = some ad ∧ w.cell? (ad.add i) = some (.string (SL.getD i ByteArray.empty))) (hsz0 : ∀ s ∈ SL, s.size ≤ maxLen) (hcap : len ≤ cap) : Calls Tryz.prog 3 #[.int .i64 b, .string ⟨l.toArray⟩, .slice q len cap] w fun e w' => e = .returned (.bool true) ∧ Below w.heap.size w w' := by
  have hl : l.length ≤ maxLen := by unfold maxLen; omega
  have ok1 := prT_ok b l
  have gt1 := gdS_pr b l
  have hB0 : prE b l = 0 → prB b l = b := fun h => by unfold prB; rw [if_pos h]
  have hwd : ∀ t ∈ prT b l, t.1.length = b.toNat := fun t ht => by
    have := (prT_ft b l t ht).2.1
    omega
  have hbn : ¬ b = 0 → prE b l = 0 → b = ((b.toNat : Nat) : Int) ∧ 1 ≤ b.toNat ∧ b.toNat ≤ 256 := fun _ h => by
    obtain ⟨h1, h2, -⟩ := prE_zero h
    omega
  have hspr := @spr_ok b l
  have hx3 : prE b l = 0 → ¬ xpE b 2048 (prT b l) = 0 → xpE b 2048 (prT b l) = 3 ∧ xpL b 2048 (prT b l) = [] := fun h h2 => by
    obtain ⟨h1, -, -⟩ := prE_zero h
    exact ⟨xpE_three (by omega) h2, xpL_none h2⟩
  have hxl := xpL_okG (b := b) (lim := 2048) gt1
  have hxw := xpL_wide (b := b) (lim := 2048) gt1 hwd
  have hxn : prE b l = 0 → ∀ x ∈ xpL b 2048 (prT b l), x ≠ [] := fun h x hx e => by
    obtain ⟨h1, -, -⟩ := prE_zero h
    have h2 := hxw x hx
    rw [e] at h2
    simp at h2
    omega
  have HJ1 : Hid (∀ (W : World) (V : Value), SPL W 0 V (prT b l) → Calls Tryz.prog 7 #[.agg #[.int .i64 b, V, .bool false], .int .i64 2048] W fun e w' => ∃ v, e = .returned (.tuple #[v, .int .i64 (xpE b 2048 (prT b l))]) ∧ w'.ownsRow W.heap.size 42 9 v (xpL b 2048 (prT b l)).length (ces (xpL b 2048 (prT b l))) ∧ Below W.heap.size W w') := fun W V h => sExpand_any b 2048 (prT b l) 0 V W h ok1.2 gt1
  have HJ2 : Hid (prE b l = 0 → ∀ (W : World) (V : Value), SPL W 0 V (prT b l) → Calls Tryz.prog 8 #[.agg #[.int .i64 b, V, .bool false], .int .i64 2048] W fun e w' => e = .returned (.tuple #[.string ⟨(mnL (xpL b 2048 (prT b l))).toArray⟩, .bool (!(((xpL b 2048 (prT b l)).length : Int) == 0)), .int .i64 (xpE b 2048 (prT b l))]) ∧ Below W.heap.size W w') := fun h0 W V h => sLeast_any b.toNat b 2048 (prT b l) 0 V W h ok1.2 gt1 hwd (fun hb => hbn hb h0) (hxn h0)
  obtain ⟨B1, hB1⟩ : ∃ B, prB b l = B := ⟨_, rfl⟩
  obtain ⟨E1, hE1⟩ : ∃ B, prE b l = B := ⟨_, rfl⟩
  obtain ⟨X1, hX1⟩ : ∃ X, prT b l = X := ⟨_, rfl⟩
  have HP : Hid (∀ W, Calls Tryz.prog 6 #[.int .i64 b, .string ⟨l.toArray⟩] W fun e w' => ∃ V, e = .returned (.tuple #[.agg #[.int .i64 B1, V, .bool false], .int .i64 E1]) ∧ SPL w' W.heap.size V X1 ∧ Below W.heap.size W w') := fun W => by
    have h := sParse_any b l W hl
    unfold PRS at h
    rw [hB1, hE1, hX1] at h
    exact h
  rw [hX1] at hspr hx3 hxl HJ1 HJ2
  rw [hE1] at hspr hx3 HJ2 hB0
  rw [hB1] at hB0
  obtain ⟨L, hL⟩ : ∃ L, xpL b 2048 X1 = L := ⟨_, rfl⟩
  obtain ⟨EX, hEX⟩ : ∃ L, xpE b 2048 X1 = L := ⟨_, rfl⟩
  rw [hL] at hspr hx3 hxl HJ1 HJ2
  rw [hEX] at hspr hx3 HJ1 HJ2
  obtain ⟨m, hm⟩ : ∃ m, mnL L = m := ⟨_, rfl⟩
  have hm0 : L = [] → m = [] := fun h => by rw [← hm, h]; rfl
  rw [hm] at hspr HJ2
  obtain ⟨nl, hnl⟩ : ∃ n, L.length = n := ⟨_, rfl⟩
  rw [hnl] at HJ1 HJ2 hxl
  obtain ⟨so, hso⟩ : ∃ s, (!((nl : Int) == 0)) = s := ⟨_, rfl⟩
  rw [hso] at HJ2
  have HLN : Hid (L.length = nl ∧ ∀ x ∈ L, good x = true) := ⟨hnl, hxl.1⟩
  have hnl2 : nl ≤ 2048 := hxl.2
  have HR : Hid (RST w q len) := rst_ofG hlen hcell0 hsz0
  have HLL : Hid (l.length ≤ 281474976710656) := hl0
  clear hlen hcell0 hsz0 hB1 hE1 hX1 hL hEX hm SL ok1 gt1 hwd hbn hxl hxw hxn hnl hl hl0
  obtain ⟨n, hn⟩ : ∃ n, X1.length = n := ⟨_, rfl⟩
  go_enter Tryz.func3, Tryz.ntmps3
  go_wp2_with fail
  refine (awake_any _).mono ?_
  rintro e w1 ⟨rfl, hb1⟩
  go_wp2_with fail
  refine (HP.out _).mono ?_
  rintro e w2 ⟨V, rfl, sv, hb2⟩
  obtain ⟨p, c, rfl⟩ := sv.shape
  rw [hn] at sv ⊢
  have HF : Hid (∀ W, Below (w2.alloc (.cells #[.int .i64 B1, .slice p n c, .bool false] 26 (0, 0))).heap.size (w2.alloc (.cells #[.int .i64 B1, .slice p n c, .bool false] 26 (0, 0))) W → ((∀ j, W.cell? ⟨w2.heap.size, j, none⟩ = (#[.int .i64 B1, .slice p n c, .bool false] : Array Value)[j]?) ∧ SPL W 0 (.slice p n c) X1 ∧ RST W q len ∧ Below w.heap.size w W)) := fun W hW => by
    have h2 : Below w2.heap.size w2 W := bel0 (belA (Below.refl _ _) _) hW
    have h1 := bel0 hb1 (bel0 hb2 h2)
    exact ⟨(cells_block (keepblk3 hW (alloc_get _ _))).1, (sv.below h2).base (Nat.zero_le _), HR.out.later h1, h1⟩
  obtain ⟨f1, f2, -⟩ := HF.out (w2.alloc (.cells #[.int .i64 B1, .slice p n c, .bool false] 26 (0, 0))) (Below.refl _ _)
  clear sv hb1 hb2 HP HR hn
  by_cases hE : E1 = 0
  · subst hE
    obtain rfl : B1 = b := hB0 rfl
    have HSP : Hid (EX = 0 → SPR l B1 L m) := hspr rfl
    have HX3 : Hid (¬ EX = 0 → EX = 3 ∧ L = []) := hx3 rfl
    have HJ3 := Hid.out HJ2 rfl
    have HJ4 : Hid (∀ (W : World) (V : Value), SPL W 0 V X1 → Calls Tryz.prog 8 #[.agg #[.int .i64 B1, V, .bool false], .int .i64 2048] W fun e w' => e = .returned (.tuple #[.string ⟨m.toArray⟩, .bool so, .int .i64 EX]) ∧ Below W.heap.size W w') := HJ3
    clear hspr hx3 HJ2 HJ3 hB0
    go_wp2_with fail
    refine (HJ1.out _ _ f2).mono ?_
    rintro e w3 ⟨v3, rfl, o3, hb3⟩
    obtain ⟨p3, c3, rfl⟩ := shapeQ1 o3
    obtain ⟨g1, g2, -⟩ := HF.out w3 hb3
    have HB3 : Hid (Below (w2.alloc (.cells #[.int .i64 B1, .slice p n c, .bool false] 26 (0, 0))).heap.size (w2.alloc (.cells #[.int .i64 B1, .slice p n c, .bool false] 26 (0, 0))) w3 ∧ IRC w3 p3 L) := ⟨hb3, IRC_own o3 HLN.out.1⟩
    clear f1 f2 hb3 o3 HJ1
    go_wp2_with fail
    refine (HJ4.out _ _ g2).mono ?_
    rintro e w4 ⟨rfl, hb4⟩
    have HB4 : Hid (Below (w2.alloc (.cells #[.int .i64 B1, .slice p n c, .bool false] 26 (0, 0))).heap.size (w2.alloc (.cells #[.int .i64 B1, .slice p n c, .bool false] 26 (0, 0))) w4 ∧ IRC w4 p3 L) := ⟨bel0 HB3.out.1 hb4, HB3.out.2.later hb4⟩
    clear g1 g2 hb4 HJ4 HB3
    by_cases hEx : EX = 0
    · subst hEx
      have HS := Hid.out HSP rfl
      have HSPR : Hid (SPR l B1 L m) := HS
      clear HS HSP HX3
      rcases Nat.eq_zero_or_pos nl with hz | hz
      · have hL0 : L = [] := List.eq_nil_of_length_eq_zero (HLN.out.1.trans hz)
        obtain rfl := hm0 hL0
        obtain rfl : so = false := by rw [← hso, hz]; rfl
        obtain ⟨w5, HB5⟩ : ∃ w5, Hid (w5 = w4 ∧ Below (w2.alloc (.cells #[.int .i64 B1, .slice p n c, .bool false] 26 (0, 0))).heap.size (w2.alloc (.cells #[.int .i64 B1, .slice p n c, .bool false] 26 (0, 0))) w5 ∧ IRC w5 p3 L) := ⟨w4, rfl, HB4.out⟩
        obtain rfl := HB5.out.1
        have i1 : ¬ (0 : Int) < (nl : Int) := by omega
        clear hso HB4 hm0 hL0
        go_wp2_with fail
        refine (headers_any B1 q len cap _ hcap (HF.out w5 HB5.out.2.1).2.2.1).mono ?_
        rintro e w6 ⟨q6, n6, c6, rfl, hn6, hr6, hb6⟩
        have HB6 : Hid (Below (w2.alloc (.cells #[.int .i64 B1, .slice p n c, .bool false] 26 (0, 0))).heap.size (w2.alloc (.cells #[.int .i64 B1, .slice p n c, .bool false] 26 (0, 0))) w6) := bel0 HB5.out.2.1 hb6
        have HR6 : Hid (RST w6 q6 n6) := hr6
        have HC6 : Hid (IRC w6 p3 L) := HB5.out.2.2.later hb6
        clear hr6 hb6 hcap HB5
        go_wp2_with fail
        go_loopw [15] (fun v12 wr => ∃ i : Nat, v12 = .int .i64 (i : Int) ∧ i ≤ n6 ∧ Hid (Below w6.heap.size w6 wr)) (fun v12 _ => n6 - (intOf v12).toNat)
        case atStart => exact ⟨0, rfl, Nat.zero_le _, Below.refl _ _⟩
        case round =>
          obtain ⟨i, rfl, hi, hBr⟩ := hrel
          obtain ⟨wo, rfl⟩ : ∃ wo, wo = wr := ⟨wr, rfl⟩
          by_cases hlt : i < n6
          · have j1 : (i : Int) < (n6 : Int) := by omega
            have j0 : (0 : Int) ≤ (i : Int) := by omega
            obtain ⟨ad, x, rfl, hcx, hxl⟩ := HR6.out wo hBr.out i hlt
            have HIH := isHeader_any B1 ⟨x.toArray⟩ wo (by simpa [ByteArray.size] using hxl)
            have ex : (⟨x.toArray⟩ : ByteArray).data.toList = x := rfl
            rw [ex] at HIH
            obtain ⟨z, hz'⟩ : ∃ z, ihB B1 x = z := ⟨_, rfl⟩
            rw [hz'] at HIH
            have HI : Hid (Calls Tryz.prog 11 #[.int .i64 B1, .string ⟨x.toArray⟩] wo fun e w' => e = .returned (.bool z) ∧ Below wo.heap.size wo w') := HIH
            have HXL : Hid (x.length ≤ maxLen ∧ ihB B1 x = z) := ⟨hxl, hz'⟩
            clear HIH hz' ex hxl
            go_wp2_with fail
            refine HI.out.mono ?_
            rintro e w7 ⟨rfl, hb7⟩
            have HB7 : Hid (Below w6.heap.size w6 w7) := bel0 hBr.out hb7
            clear hcx HI hb7 hBr
            cases z with
            | false =>
              go_wp2_with fail
              go_roundw
              case rel => exact ⟨i + 1, by go_num, by omega, HB7⟩
              case measure => simp [intOf]; omega
            | true =>
              obtain ⟨y, hy⟩ : ∃ y, sdB l x = y := ⟨_, rfl⟩
              have HXX : Hid (L.any (fun c => ftB x c) = y ∧ (y = true → Op.bytesLess x [] = false)) := by
                have h := HSPR.out.2.2 x HXL.out.2
                rw [hy] at h
                exact h
              have HS1 : Hid (∀ W, Calls Tryz.prog 9 #[.string ⟨l.toArray⟩, .string ⟨x.toArray⟩] W fun e w' => e = .returned (.bool y) ∧ Below W.heap.size W w') := fun W => by
                have h := said_any l x W HLL.out HXL.out.1
                rw [hy] at h
                exact h
              clear hy
              go_wp2_with fail
              go_loopw [17, 18] (fun v14 v15 ws => ∃ (k : Nat) (zz : Bool), v14 = .bool zz ∧ v15 = .int .i64 (k : Int) ∧ k ≤ nl ∧ Hid ((L.take k).any (fun c => ftB x c) = zz) ∧ Hid (Below w6.heap.size w6 ws)) (fun _ v15 _ => nl - (intOf v15).toNat)
              case atStart => exact ⟨0, false, rfl, rfl, Nat.zero_le _, rfl, HB7⟩
              case round =>
                obtain ⟨k, zz, rfl, rfl, hk, HT, HBs⟩ := hrel
                have HEND : Hid (zz = true ∨ ¬ k < nl → zz = y) := fun h => by
                  rcases h with h | h
                  · have h1 := any_yesG (HT.out.trans h)
                    rw [HXX.out.1] at h1
                    rw [h, h1]
                  · have h1 := HT.out
                    rw [List.take_of_length_le (by rw [HLN.out.1]; omega), HXX.out.1] at h1
                    exact h1.symm
                by_cases hkn : k < nl
                · exact absurd hkn (by omega)
                · have r1 : ¬ (k : Int) < (nl : Int) := by omega
                  obtain rfl := HEND.out (.inr hkn)
                  have hlm := HXX.out.2
                  cases zz with
                  | false =>
                    go_wp2_with fail
                    refine (HS1.out _).mono ?_
                    rintro e w9 ⟨rfl, hb9⟩
                    have HB9 : Hid (Below w6.heap.size w6 w9) := bel0 HBs.out hb9
                    clear hb9 hlm
                    go_wp2_with fail
                    go_roundw
                    case rel => exact ⟨i + 1, by go_num, by omega, HB9⟩
                    case measure => simp [intOf]; omega
                  | true =>
                    have hlm2 := hlm rfl
                    clear hlm
                    go_wp2_with fail
                    refine (HS1.out _).mono ?_
                    rintro e w9 ⟨rfl, hb9⟩
                    have HB9 : Hid (Below w6.heap.size w6 w9) := bel0 HBs.out hb9
                    clear hb9
                    go_wp2_with fail
                    go_roundw
                    case rel => exact ⟨i + 1, by go_num, by omega, HB9⟩
                    case measure => simp [intOf]; omega
          · have j1 : ¬ (i : Int) < (n6 : Int) := by omega
            have HW : Hid (Below w.heap.size w wo) := (HF.out wo (bel0 HB6.out hBr.out)).2.2.2
            clear hBr
            go_wp2_with fail
            go_ret
            exact ⟨rfl, HW.out⟩
      · obtain rfl : so = true := by
          rw [← hso]
          have : ¬ (nl : Int) = 0 := by omega
          simpa using this
        have hLn : L ≠ [] := fun e => by have := HLN.out.1; rw [e] at this; simp at this; omega
        have HSM := said_any l m w4 HLL.out (HSPR.out.1 hLn).2
        rw [(HSPR.out.1 hLn).1] at HSM
        have HSD : Hid (Calls Tryz.prog 9 #[.string ⟨l.toArray⟩, .string ⟨m.toArray⟩] w4 fun e w' => e = .returned (.bool true) ∧ Below w4.heap.size w4 w') := HSM
        have i1 : (0 : Int) < (nl : Int) := by omega
        clear hso HSM hm0 hLn
        go_wp2_with fail
        refine HSD.out.mono ?_
        rintro e w5 ⟨rfl, hb5⟩
        have HB5 : Hid (w5 = w5 ∧ Below (w2.alloc (.cells #[.int .i64 B1, .slice p n c, .bool false] 26 (0, 0))).heap.size (w2.alloc (.cells #[.int .i64 B1, .slice p n c, .bool false] 26 (0, 0))) w5 ∧ IRC w5 p3 L) := ⟨rfl, bel0 HB4.out.1 hb5, HB4.out.2.later hb5⟩
        clear HB4 HSD hb5
        go_wp2_with fail
        refine (headers_any B1 q len cap _ hcap (HF.out w5 HB5.out.2.1).2.2.1).mono ?_
        rintro e w6 ⟨q6, n6, c6, rfl, hn6, hr6, hb6⟩
        have HB6 : Hid (Below (w2.alloc (.cells #[.int .i64 B1, .slice p n c, .bool false] 26 (0, 0))).heap.size (w2.alloc (.cells #[.int .i64 B1, .slice p n c, .bool false] 26 (0, 0))) w6) := bel0 HB5.out.2.1 hb6
        have HR6 : Hid (RST w6 q6 n6) := hr6
        have HC6 : Hid (IRC w6 p3 L) := HB5.out.2.2.later hb6
        clear hr6 hb6 hcap HB5
        go_wp2_with fail
        go_loopw [15] (fun v12 wr => ∃ i : Nat, v12 = .int .i64 (i : Int) ∧ i ≤ n6 ∧ Hid (Below w6.heap.size w6 wr)) (fun v12 _ => n6 - (intOf v12).toNat)
        case atStart => exact ⟨0, rfl, Nat.zero_le _, Below.refl _ _⟩
        case round =>
          obtain ⟨i, rfl, hi, hBr⟩ := hrel
          obtain ⟨wo, rfl⟩ : ∃ wo, wo = wr := ⟨wr, rfl⟩
          by_cases hlt : i < n6
          · have j1 : (i : Int) < (n6 : Int) := by omega
            have j0 : (0 : Int) ≤ (i : Int) := by omega
            obtain ⟨ad, x, rfl, hcx, hxl⟩ := HR6.out wo hBr.out i hlt
            have HIH := isHeader_any B1 ⟨x.toArray⟩ wo (by simpa [ByteArray.size] using hxl)
            have ex : (⟨x.toArray⟩ : ByteArray).data.toList = x := rfl
            rw [ex] at HIH
            obtain ⟨z, hz'⟩ : ∃ z, ihB B1 x = z := ⟨_, rfl⟩
            rw [hz'] at HIH
            have HI : Hid (Calls Tryz.prog 11 #[.int .i64 B1, .string ⟨x.toArray⟩] wo fun e w' => e = .returned (.bool z) ∧ Below wo.heap.size wo w') := HIH
            have HXL : Hid (x.length ≤ maxLen ∧ ihB B1 x = z) := ⟨hxl, hz'⟩
            clear HIH hz' ex hxl
            go_wp2_with fail
            refine HI.out.mono ?_
            rintro e w7 ⟨rfl, hb7⟩
            have HB7 : Hid (Below w6.heap.size w6 w7) := bel0 hBr.out hb7
            clear hcx HI hb7 hBr
            cases z with
            | false =>
              go_wp2_with fail
              go_roundw
              case rel => exact ⟨i + 1, by go_num, by omega, HB7⟩
              case measure => simp [intOf]; omega
            | true =>
              obtain ⟨y, hy⟩ : ∃ y, sdB l x = y := ⟨_, rfl⟩
              have HXX : Hid (L.any (fun c => ftB x c) = y ∧ (y = true → Op.bytesLess x m = false)) := by
                have h := HSPR.out.2.2 x HXL.out.2
                rw [hy] at h
                exact h
              have HS1 : Hid (∀ W, Calls Tryz.prog 9 #[.string ⟨l.toArray⟩, .string ⟨x.toArray⟩] W fun e w' => e = .returned (.bool y) ∧ Below W.heap.size W w') := fun W => by
                have h := said_any l x W HLL.out HXL.out.1
                rw [hy] at h
                exact h
              clear hy
              go_wp2_with fail
              go_loopw [17, 18] (fun v14 v15 ws => ∃ (k : Nat) (zz : Bool), v14 = .bool zz ∧ v15 = .int .i64 (k : Int) ∧ k ≤ nl ∧ Hid ((L.take k).any (fun c => ftB x c) = zz) ∧ Hid (Below w6.heap.size w6 ws)) (fun _ v15 _ => nl - (intOf v15).toNat)
              case atStart => exact ⟨0, false, rfl, rfl, Nat.zero_le _, rfl, HB7⟩
              case round =>
                obtain ⟨k, zz, rfl, rfl, hk, HT, HBs⟩ := hrel
                have HEND : Hid (zz = true ∨ ¬ k < nl → zz = y) := fun h => by
                  rcases h with h | h
                  · have h1 := any_yesG (HT.out.trans h)
                    rw [HXX.out.1] at h1
                    rw [h, h1]
                  · have h1 := HT.out
                    rw [List.take_of_length_le (by rw [HLN.out.1]; omega), HXX.out.1] at h1
                    exact h1.symm
                by_cases hkn : k < nl
                · have r1 : (k : Int) < (nl : Int) := by omega
                  have r0 : (0 : Int) ≤ (k : Int) := by omega
                  cases zz with
                  | false =>
                    obtain ⟨cc, hcc⟩ : ∃ z, L[k]? = some z := ⟨_, List.getElem?_eq_getElem (by rw [HLN.out.1]; exact hkn)⟩
                    obtain ⟨g, o0, rfl, hc0, hc1, hc2, hc3, hc4, hc5, hc6, hc7, hc8⟩ := HC6.out wr HBs.out k cc hcc
                    have HTX : Hid (∀ W, Calls Tryz.prog 13 #[.agg #[.int .i64 (cc.length : Int), .int .u64 (FW cc 0 : Int), .int .u64 (FW cc 1 : Int), .int .u64 (FW cc 2 : Int), .int .u64 (FW cc 3 : Int), .int .u64 (OW cc 0 : Int), .int .u64 (OW cc 1 : Int), .int .u64 (OW cc 2 : Int), .int .u64 (OW cc 3 : Int)]] W fun e w' => e = .returned (.string ⟨cc.toArray⟩) ∧ Below W.heap.size W w') := fun W => text_any cc W (HLN.out.2 cc (List.mem_of_getElem? hcc))
                    obtain ⟨u, hu⟩ : ∃ u, ftB x cc = u := ⟨_, rfl⟩
                    have HFT : Hid (∀ W, Calls Tryz.prog 12 #[.string ⟨x.toArray⟩, .string ⟨cc.toArray⟩] W fun e w' => e = .returned (.bool u) ∧ Below W.heap.size W w') := fun W => by
                      have h := fits_any3 x cc W HXL.out.1
                      rw [hu] at h
                      exact h
                    have HT2 : Hid ((L.take (k + 1)).any (fun c => ftB x c) = u) := (any_takeG hcc HT.out).trans hu
                    clear hcc hu HEND
                    go_wp2_with (first | (go_at_call 13; refine (HTX.out _).mono ?_; rintro e w8 ⟨rfl, hb8⟩) | (go_at_call 12; refine (HFT.out _).mono ?_; rintro e w9 ⟨rfl, hb9⟩))
                    have HB9 : Hid (Below w6.heap.size w6 w9) := bel0 HBs.out (bel0 hb8 hb9)
                    clear hc0 hc1 hc2 hc3 hc4 hc5 hc6 hc7 hc8 hb8 hb9
                    go_wp2_with fail
                    go_roundw
                    case rel => exact ⟨k + 1, u, rfl, by go_num, by omega, HT2, HB9⟩
                    case measure => simp [intOf]; omega
                  | true =>
                    obtain rfl := HEND.out (.inl rfl)
                    have hlm := HXX.out.2 rfl
                    go_wp2_with fail
                    refine (HS1.out _).mono ?_
                    rintro e w9 ⟨rfl, hb9⟩
                    have HB9 : Hid (Below w6.heap.size w6 w9) := bel0 HBs.out hb9
                    clear hb9
                    go_wp2_with fail
                    go_roundw
                    case rel => exact ⟨i + 1, by go_num, by omega, HB9⟩
                    case measure => simp [intOf]; omega
                · have r1 : ¬ (k : Int) < (nl : Int) := by omega
                  obtain rfl := HEND.out (.inr hkn)
                  have hlm := HXX.out.2
                  cases zz with
                  | false =>
                    go_wp2_with fail
                    refine (HS1.out _).mono ?_
                    rintro e w9 ⟨rfl, hb9⟩
                    have HB9 : Hid (Below w6.heap.size w6 w9) := bel0 HBs.out hb9
                    clear hb9 hlm
                    go_wp2_with fail
                    go_roundw
                    case rel => exact ⟨i + 1, by go_num, by omega, HB9⟩
                    case measure => simp [intOf]; omega
                  | true =>
                    have hlm2 := hlm rfl
                    clear hlm
                    go_wp2_with fail
                    refine (HS1.out _).mono ?_
                    rintro e w9 ⟨rfl, hb9⟩
                    have HB9 : Hid (Below w6.heap.size w6 w9) := bel0 HBs.out hb9
                    clear hb9
                    go_wp2_with fail
                    go_roundw
                    case rel => exact ⟨i + 1, by go_num, by omega, HB9⟩
                    case measure => simp [intOf]; omega
          · have j1 : ¬ (i : Int) < (n6 : Int) := by omega
            have HW : Hid (Below w.heap.size w wo) := (HF.out wo (bel0 HB6.out hBr.out)).2.2.2
            clear hBr
            go_wp2_with fail
            go_ret
            exact ⟨rfl, HW.out⟩
    · obtain ⟨rfl, h2⟩ := HX3.out hEx
      obtain rfl := hm0 h2
      obtain rfl : nl = 0 := by rw [← HLN.out.1, h2]; rfl
      obtain rfl : so = false := hso.symm
      clear hso hEx
      go_wp2_with fail
      go_ret
      exact ⟨rfl, (HF.out w4 HB4.out.1).2.2.2⟩
  · have e0 : (E1 != 0) = true := by simpa using hE
    clear hspr hx3 HJ2 HJ1 hB0 hE hso hm0
    go_wp2_with fail
    go_ret
    exact ⟨rfl, (HF.out _ (Below.refl _ _)).2.2.2⟩
end Go.Proofs.YtcmajlianphoaaaGreatDoor
