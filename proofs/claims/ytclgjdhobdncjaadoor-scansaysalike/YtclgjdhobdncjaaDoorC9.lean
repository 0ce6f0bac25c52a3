import Derived.Test.YtclgjdhobdncjaaDoorC8
namespace Go.Proofs.YtclgjdhobdncjaaDoor
open Go.RowKit Go.Shelf
set_option maxRecDepth 100000 in
set_option maxHeartbeats 1000000 in
theorem esc_x (l : List UInt8) (i : Nat) (ad : Addr) (cap : Nat) (w : World) (hs : l.length ≤ 16384) (hi : i + 1 < l.length) (b0 : bt l i = 92) (b1 : bt l (i + 1) = 120) (hcap0 : (chars l i).length ≤ cap) (hC0 : CH w ad (chars l i)) :
    Calls Tryd.prog 25 #[.slice (some ad) (chars l i).length cap] w fun e w' => escR w (escS l i).1 (escS l i).2 e w' := by
  have hc0 : chars l i = (92, i) :: (120, i + 1) :: chars l (i + 2) := by
    rw [chars_asc (by omega) (by omega), b0, chars_asc hi (by omega), b1]; rfl
  have hC2 := hC0.drop 2
  have hr := chars_range l _ (i + 2) (Nat.le_refl _)
  have he := chars_no l _ (i + 2) (Nat.le_refl _)
  have h1 := (hC0 1 (120, i + 1) (by rw [hc0]; rfl)).1
  rw [hc0] at hC2
  simp only [List.drop_succ_cons, List.drop_zero] at hC2
  have h1' : w.cell? ⟨ad.block, ad.off + 2, none⟩ = some (.int .i32 120) := by simpa [Addr.add] using h1
  have hlen : (chars l i).length = (chars l (i + 2)).length + 2 := by rw [hc0]; rfl
  have hpos : 0 < (chars l (i + 2)).length := by
    obtain ⟨r, hr⟩ := chars_head l (i + 2)
    rw [hr]; simp
  have hlm := chars_len l _ (i + 2) (Nat.le_refl _)
  have HX := fun W => hexAt_any (chars l (i + 2)) (ad.add 4) (cap - 2) 2 W (by decide)
  have hadd : ad.add 4 = ⟨ad.block, ad.off + 4, none⟩ := by simp [Addr.add]
  have HX2 := HX w hC2 hr he
  rw [hexC_chars, hadd] at HX2
  rw [hlen]
  rw [hlen] at hcap0
  obtain ⟨m, hm⟩ : ∃ m, (chars l (i + 2)).length = m := ⟨_, rfl⟩
  rw [hm] at HX2 hcap0 hpos hlm ⊢
  have e0 : IntKind.i64.wrap ((m : Int) + 2) = (m : Int) + 2 := by rw [IntKind.wrap_i64]; omega
  clear HX hr he h1 hm hlen hC2 hc0 hadd
  rcases hex2 l i with ⟨h3, a, b, ha, hb, hq⟩ | ⟨hq, hno⟩
  · rw [hq] at HX2
    have hr : Hid (escS l i = (4, [UInt8.ofNat (16 * a + b)])) := by
      unfold Hid escS
      rw [if_neg (by omega), if_neg (by omega), if_neg (by omega), if_neg (by omega), if_neg (by omega), if_neg (by omega), if_pos b1, if_pos h3, ha, hb]
    have la := hexD_lt ha
    have lb := hexD_lt hb
    clear ha hb hq
    rw [hr.out]
    have hmod : (((16 * a + b : Nat) : Int)) % 256 = ((16 * a + b : Nat) : Int) := by omega
    obtain ⟨V, hV⟩ : ∃ V, 16 * a + b = V := ⟨_, rfl⟩
    rw [hV] at hmod HX2 ⊢
    have hV2 : V < 256 := by omega
    clear hr la lb hV
    go_enter Tryd.func25, Tryd.ntmps25
    go_wp2_with fail
    refine HX2.mono ?_
    rintro e w2 ⟨rfl, rfl⟩
    go_wp2_with fail
    go_ret2
    refine ⟨_, rfl, ?_, (Below.refl _ _).alloc (Nat.le_refl _) _⟩
    have := World.ownsRow_lit (base := w2.heap.size) (e := 5) (size := 1) w2 #[Value.int .u8 ((V : Nat) : Int)] 1 (Nat.le_refl _) (by unfold maxLen; omega) rfl
    have e : [Value.int .u8 ((V : Nat) : Int)] = Lib.byteCells [UInt8.ofNat V] := congrArg (fun x => [x]) (hv8 _ _ hV2 rfl)
    rw [← e]
    simpa using this
  · have hr : Hid (escS l i = (0, [])) := by
      unfold Hid escS
      rw [if_neg (by omega), if_neg (by omega), if_neg (by omega), if_neg (by omega), if_neg (by omega), if_neg (by omega), if_pos b1]
      by_cases h3 : i + 3 < l.length
      · rw [if_pos h3]
        rcases hno h3 with h | h
        · rw [h]
        · rw [h]
          cases hexD (l.getD (i + 2) 0) <;> rfl
      · rw [if_neg h3]
    rw [hr.out]
    obtain ⟨V, hV⟩ : ∃ V, hexRun 2 (l.drop (i + 2)) 0 = V := ⟨_, rfl⟩
    rw [hV] at hq HX2
    obtain ⟨k, v⟩ := V
    have kq : ((k : Int) == 2) = false := by rw [beq_eq_false_iff_ne]; simp only at hq; omega
    clear hno hq hV hr
    go_enter Tryd.func25, Tryd.ntmps25
    go_wp2_with fail
    refine HX2.mono ?_
    rintro e w2 ⟨rfl, rfl⟩
    go_wp2_with fail
    go_ret2
    exact ⟨_, rfl, World.ownsRow_nil _ _ _ _, Below.refl _ _⟩
end Go.Proofs.YtclgjdhobdncjaaDoor
