import Derived.Test.YthlgjdadkmpbbaaDoorXAH
namespace Go.Proofs.YthlgjdadkmpbbaaDoor
open Go.RowKit Go.Shelf
theorem uncons {n : Nat} {l : List Value} (h : l.length = n + 1) : ∃ a r, l = a :: r ∧ r.length = n := by
  cases l with
  | nil => simp at h
  | cons a r => exact ⟨a, r, rfl, by simpa using h⟩
theorem arr_58 (u : Array Value) (h : u.size = 58) : ∃ u0 u1 u2 u3 u4 u5 u6 u7 u8 u9 u10 u11 u12 u13 u14 u15 u16 u17 u18 u19 u20 u21 u22 u23 u24 u25 u26 u27 u28 u29 u30 u31 u32 u33 u34 u35 u36 u37 u38 u39 u40 u41 u42 u43 u44 u45 u46 u47 u48 u49 u50 u51 u52 u53 u54 u55 u56 u57 : Value, u = #[u0, u1, u2, u3, u4, u5, u6, u7, u8, u9, u10, u11, u12, u13, u14, u15, u16, u17, u18, u19, u20, u21, u22, u23, u24, u25, u26, u27, u28, u29, u30, u31, u32, u33, u34, u35, u36, u37, u38, u39, u40, u41, u42, u43, u44, u45, u46, u47, u48, u49, u50, u51, u52, u53, u54, u55, u56, u57] := by
  obtain ⟨l⟩ := u
  have h' : l.length = 58 := by simpa using h
  obtain ⟨u0, r0, rfl, h0⟩ := uncons h'
  obtain ⟨u1, r1, rfl, h1⟩ := uncons h0
  obtain ⟨u2, r2, rfl, h2⟩ := uncons h1
  obtain ⟨u3, r3, rfl, h3⟩ := uncons h2
  obtain ⟨u4, r4, rfl, h4⟩ := uncons h3
  obtain ⟨u5, r5, rfl, h5⟩ := uncons h4
  obtain ⟨u6, r6, rfl, h6⟩ := uncons h5
  obtain ⟨u7, r7, rfl, h7⟩ := uncons h6
  obtain ⟨u8, r8, rfl, h8⟩ := uncons h7
  obtain ⟨u9, r9, rfl, h9⟩ := uncons h8
  obtain ⟨u10, r10, rfl, h10⟩ := uncons h9
  obtain ⟨u11, r11, rfl, h11⟩ := uncons h10
  obtain ⟨u12, r12, rfl, h12⟩ := uncons h11
  obtain ⟨u13, r13, rfl, h13⟩ := uncons h12
  obtain ⟨u14, r14, rfl, h14⟩ := uncons h13
  obtain ⟨u15, r15, rfl, h15⟩ := uncons h14
  obtain ⟨u16, r16, rfl, h16⟩ := uncons h15
  obtain ⟨u17, r17, rfl, h17⟩ := uncons h16
  obtain ⟨u18, r18, rfl, h18⟩ := uncons h17
  obtain ⟨u19, r19, rfl, h19⟩ := uncons h18
  obtain ⟨u20, r20, rfl, h20⟩ := uncons h19
  obtain ⟨u21, r21, rfl, h21⟩ := uncons h20
  obtain ⟨u22, r22, rfl, h22⟩ := uncons h21
  obtain ⟨u23, r23, rfl, h23⟩ := uncons h22
  obtain ⟨u24, r24, rfl, h24⟩ := uncons h23
  obtain ⟨u25, r25, rfl, h25⟩ := uncons h24
  obtain ⟨u26, r26, rfl, h26⟩ := uncons h25
  obtain ⟨u27, r27, rfl, h27⟩ := uncons h26
  obtain ⟨u28, r28, rfl, h28⟩ := uncons h27
  obtain ⟨u29, r29, rfl, h29⟩ := uncons h28
  obtain ⟨u30, r30, rfl, h30⟩ := uncons h29
  obtain ⟨u31, r31, rfl, h31⟩ := uncons h30
  obtain ⟨u32, r32, rfl, h32⟩ := uncons h31
  obtain ⟨u33, r33, rfl, h33⟩ := uncons h32
  obtain ⟨u34, r34, rfl, h34⟩ := uncons h33
  obtain ⟨u35, r35, rfl, h35⟩ := uncons h34
  obtain ⟨u36, r36, rfl, h36⟩ := uncons h35
  obtain ⟨u37, r37, rfl, h37⟩ := uncons h36
  obtain ⟨u38, r38, rfl, h38⟩ := uncons h37
  obtain ⟨u39, r39, rfl, h39⟩ := uncons h38
  obtain ⟨u40, r40, rfl, h40⟩ := uncons h39
  obtain ⟨u41, r41, rfl, h41⟩ := uncons h40
  obtain ⟨u42, r42, rfl, h42⟩ := uncons h41
  obtain ⟨u43, r43, rfl, h43⟩ := uncons h42
  obtain ⟨u44, r44, rfl, h44⟩ := uncons h43
  obtain ⟨u45, r45, rfl, h45⟩ := uncons h44
  obtain ⟨u46, r46, rfl, h46⟩ := uncons h45
  obtain ⟨u47, r47, rfl, h47⟩ := uncons h46
  obtain ⟨u48, r48, rfl, h48⟩ := uncons h47
  obtain ⟨u49, r49, rfl, h49⟩ := uncons h48
  obtain ⟨u50, r50, rfl, h50⟩ := uncons h49
  obtain ⟨u51, r51, rfl, h51⟩ := uncons h50
  obtain ⟨u52, r52, rfl, h52⟩ := uncons h51
  obtain ⟨u53, r53, rfl, h53⟩ := uncons h52
  obtain ⟨u54, r54, rfl, h54⟩ := uncons h53
  obtain ⟨u55, r55, rfl, h55⟩ := uncons h54
  obtain ⟨u56, r56, rfl, h56⟩ := uncons h55
  obtain ⟨u57, r57, rfl, h57⟩ := uncons h56
  obtain rfl := List.length_eq_zero_iff.1 h57
  exact ⟨u0, u1, u2, u3, u4, u5, u6, u7, u8, u9, u10, u11, u12, u13, u14, u15, u16, u17, u18, u19, u20, u21, u22, u23, u24, u25, u26, u27, u28, u29, u30, u31, u32, u33, u34, u35, u36, u37, u38, u39, u40, u41, u42, u43, u44, u45, u46, u47, u48, u49, u50, u51, u52, u53, u54, u55, u56, u57, rfl⟩
theorem own_below {w W : World} {B e sz n : Nat} {v : Value} {xs : List Value} (h : w.ownsRow B e sz v n xs) (hb : Below w.heap.size w W) : W.ownsRow B e sz v n xs := by
  refine ⟨h.1, ?_⟩
  rcases h.2 with hh | ⟨g, c, cur, h1, h2, h3, h4⟩
  · exact .inl hh
  · exact .inr ⟨g, c, cur, h1, h2, (hb.block _ (lt_of_get h3)).trans h3, h4⟩
theorem own_form {w : World} {B e sz n : Nat} {v : Value} {xs : List Value} (h : w.ownsRow B e sz v n xs) (hn : 0 < n) : ∃ g cap, v = .slice (some ⟨g, 0, none⟩) n cap := by
  rcases h.2 with hh | ⟨g, c, cur, h1, h2, h3, h4⟩
  · omega
  · exact ⟨g, c, h1⟩
set_option maxRecDepth 100000 in
theorem barred_any (r : Int) (w : World) : Calls Tryd.prog 30 #[.int .i32 r] w fun e w' => e = .returned (.bool (decide (r < 32 ∨ r = 127))) ∧ w' = w := by
  by_cases h1 : r < 32
  · have hr : Hid (decide (r < 32 ∨ r = 127) = true) := decide_eq_true (.inl h1)
    rw [hr.out]
    go_enter Tryd.func30, Tryd.ntmps30
    go_wp2
    go_ret
    exact ⟨rfl, rfl⟩
  · by_cases h2 : r = 127
    · have hr : Hid (decide (r < 32 ∨ r = 127) = true) := decide_eq_true (.inr h2)
      rw [hr.out]
      subst h2
      go_enter Tryd.func30, Tryd.ntmps30
      go_wp2
      go_ret
      exact ⟨rfl, rfl⟩
    · have hr : Hid (decide (r < 32 ∨ r = 127) = false) := decide_eq_false (by omega)
      have h3 : (r == 127) = false := beq_eq_false_iff_ne.2 h2
      rw [hr.out]
      go_enter Tryd.func30, Tryd.ntmps30
      go_wp2
      go_ret
      exact ⟨rfl, rfl⟩
theorem utfL_ne (n : Nat) : utfL n ≠ [] := by
  unfold utfL
  repeat' split
  all_goals simp
theorem escS_ne (l : List UInt8) (i : Nat) (h : 0 < (escS l i).1) : (escS l i).2 ≠ [] := by
  unfold escS at h ⊢
  split at h
  · simp at h
  rename_i g0
  rw [if_neg g0]
  repeat' split
  all_goals first
    | (simp; done)
    | (simp_all [utfL_ne]; done)
theorem drop_lt {l : List UInt8} {now j : Nat} (h : (chars l 0).drop now = chars l j) : now < (chars l 0).length := by
  obtain ⟨r, hr⟩ := chars_head l j
  rw [hr] at h
  refine Classical.byContradiction (fun hn => ?_)
  rw [List.drop_eq_nil_of_le (by omega)] at h
  cases h
theorem drop_get {l : List UInt8} {now j : Nat} (h : (chars l 0).drop now = chars l j) : (chars l 0)[now]? = some (chr l j, (if j < l.length then j else l.length)) := by
  obtain ⟨r, hr⟩ := chars_head l j
  have h0 := congrArg (·[0]?) h
  simpa [hr, List.getElem?_drop] using h0
theorem drop_next {l : List UInt8} {now j : Nat} (h : (chars l 0).drop now = chars l j) (hj : j < l.length) : (chars l 0).drop (now + 1) = chars l (j + (dc l j).2) := by
  rw [← List.drop_drop, h, chars_lt hj]
  rfl
end Go.Proofs.YthlgjdadkmpbbaaDoor
