import Derived.Test.YtffgkjmfeannoaaGreatDoorXAN
import Derived.Test.YtffgkjmfeannoaaGreatDoorXAD
namespace Go.Proofs.YtffgkjmfeannoaaGreatDoor
open Go.RowKit Go.Shelf
set_option maxRecDepth 100000 in
theorem arr_105 (u : Array Value) (h : u.size = 105) : ∃ u0 u1 u2 u3 u4 u5 u6 u7 u8 u9 u10 u11 u12 u13 u14 u15 u16 u17 u18 u19 u20 u21 u22 u23 u24 u25 u26 u27 u28 u29 u30 u31 u32 u33 u34 u35 u36 u37 u38 u39 u40 u41 u42 u43 u44 u45 u46 u47 u48 u49 u50 u51 u52 u53 u54 u55 u56 u57 u58 u59 u60 u61 u62 u63 u64 u65 u66 u67 u68 u69 u70 u71 u72 u73 u74 u75 u76 u77 u78 u79 u80 u81 u82 u83 u84 u85 u86 u87 u88 u89 u90 u91 u92 u93 u94 u95 u96 u97 u98 u99 u100 u101 u102 u103 u104, u = #[u0, u1, u2, u3, u4, u5, u6, u7, u8, u9, u10, u11, u12, u13, u14, u15, u16, u17, u18, u19, u20, u21, u22, u23, u24, u25, u26, u27, u28, u29, u30, u31, u32, u33, u34, u35, u36, u37, u38, u39, u40, u41, u42, u43, u44, u45, u46, u47, u48, u49, u50, u51, u52, u53, u54, u55, u56, u57, u58, u59, u60, u61, u62, u63, u64, u65, u66, u67, u68, u69, u70, u71, u72, u73, u74, u75, u76, u77, u78, u79, u80, u81, u82, u83, u84, u85, u86, u87, u88, u89, u90, u91, u92, u93, u94, u95, u96, u97, u98, u99, u100, u101, u102, u103, u104] := by
  obtain ⟨l⟩ := u
  have h' : l.length = 105 := by simpa using h
  obtain ⟨u0, r0, rfl, h0⟩ := uncons h'
  obtain ⟨u1, r1, rfl, h1⟩ := uncons h0
  obtain ⟨u2, r2, rfl, h2⟩ := uncons h1
  obtain ⟨u3, r3, rfl, h3⟩ := uncons h2
  obtain ⟨u4, r4, rfl, h4⟩ := uncons h3
  obtain ⟨u5, r5, rfl, h5⟩ := uncons h4
  obtain ⟨u6, r6, rfl, h6⟩ := uncons h5
  obtain ⟨u7, r7, rfl, h7⟩ := uncons h6
  obtain ⟨u8, r8, rfl, h8⟩ := uncons h7
  obtain ⟨u9, r9, rfl, h9⟩ := uncons h8
  obtain ⟨u10, r10, rfl, h10⟩ := uncons h9
  obtain ⟨u11, r11, rfl, h11⟩ := uncons h10
  obtain ⟨u12, r12, rfl, h12⟩ := uncons h11
  obtain ⟨u13, r13, rfl, h13⟩ := uncons h12
  obtain ⟨u14, r14, rfl, h14⟩ := uncons h13
  obtain ⟨u15, r15, rfl, h15⟩ := uncons h14
  obtain ⟨u16, r16, rfl, h16⟩ := uncons h15
  obtain ⟨u17, r17, rfl, h17⟩ := uncons h16
  obtain ⟨u18, r18, rfl, h18⟩ := uncons h17
  obtain ⟨u19, r19, rfl, h19⟩ := uncons h18
  obtain ⟨u20, r20, rfl, h20⟩ := uncons h19
  obtain ⟨u21, r21, rfl, h21⟩ := uncons h20
  obtain ⟨u22, r22, rfl, h22⟩ := uncons h21
  obtain ⟨u23, r23, rfl, h23⟩ := uncons h22
  obtain ⟨u24, r24, rfl, h24⟩ := uncons h23
  obtain ⟨u25, r25, rfl, h25⟩ := uncons h24
  obtain ⟨u26, r26, rfl, h26⟩ := uncons h25
  obtain ⟨u27, r27, rfl, h27⟩ := uncons h26
  obtain ⟨u28, r28, rfl, h28⟩ := uncons h27
  obtain ⟨u29, r29, rfl, h29⟩ := uncons h28
  obtain ⟨u30, r30, rfl, h30⟩ := uncons h29
  obtain ⟨u31, r31, rfl, h31⟩ := uncons h30
  obtain ⟨u32, r32, rfl, h32⟩ := uncons h31
  obtain ⟨u33, r33, rfl, h33⟩ := uncons h32
  obtain ⟨u34, r34, rfl, h34⟩ := uncons h33
  obtain ⟨u35, r35, rfl, h35⟩ := uncons h34
  obtain ⟨u36, r36, rfl, h36⟩ := uncons h35
  obtain ⟨u37, r37, rfl, h37⟩ := uncons h36
  obtain ⟨u38, r38, rfl, h38⟩ := uncons h37
  obtain ⟨u39, r39, rfl, h39⟩ := uncons h38
  obtain ⟨u40, r40, rfl, h40⟩ := uncons h39
  obtain ⟨u41, r41, rfl, h41⟩ := uncons h40
  obtain ⟨u42, r42, rfl, h42⟩ := uncons h41
  obtain ⟨u43, r43, rfl, h43⟩ := uncons h42
  obtain ⟨u44, r44, rfl, h44⟩ := uncons h43
  obtain ⟨u45, r45, rfl, h45⟩ := uncons h44
  obtain ⟨u46, r46, rfl, h46⟩ := uncons h45
  obtain ⟨u47, r47, rfl, h47⟩ := uncons h46
  obtain ⟨u48, r48, rfl, h48⟩ := uncons h47
  obtain ⟨u49, r49, rfl, h49⟩ := uncons h48
  obtain ⟨u50, r50, rfl, h50⟩ := uncons h49
  obtain ⟨u51, r51, rfl, h51⟩ := uncons h50
  obtain ⟨u52, r52, rfl, h52⟩ := uncons h51
  obtain ⟨u53, r53, rfl, h53⟩ := uncons h52
  obtain ⟨u54, r54, rfl, h54⟩ := uncons h53
  obtain ⟨u55, r55, rfl, h55⟩ := uncons h54
  obtain ⟨u56, r56, rfl, h56⟩ := uncons h55
  obtain ⟨u57, r57, rfl, h57⟩ := uncons h56
  obtain ⟨u58, r58, rfl, h58⟩ := uncons h57
  obtain ⟨u59, r59, rfl, h59⟩ := uncons h58
  obtain ⟨u60, r60, rfl, h60⟩ := uncons h59
  obtain ⟨u61, r61, rfl, h61⟩ := uncons h60
  obtain ⟨u62, r62, rfl, h62⟩ := uncons h61
  obtain ⟨u63, r63, rfl, h63⟩ := uncons h62
  obtain ⟨u64, r64, rfl, h64⟩ := uncons h63
  obtain ⟨u65, r65, rfl, h65⟩ := uncons h64
  obtain ⟨u66, r66, rfl, h66⟩ := uncons h65
  obtain ⟨u67, r67, rfl, h67⟩ := uncons h66
  obtain ⟨u68, r68, rfl, h68⟩ := uncons h67
  obtain ⟨u69, r69, rfl, h69⟩ := uncons h68
  obtain ⟨u70, r70, rfl, h70⟩ := uncons h69
  obtain ⟨u71, r71, rfl, h71⟩ := uncons h70
  obtain ⟨u72, r72, rfl, h72⟩ := uncons h71
  obtain ⟨u73, r73, rfl, h73⟩ := uncons h72
  obtain ⟨u74, r74, rfl, h74⟩ := uncons h73
  obtain ⟨u75, r75, rfl, h75⟩ := uncons h74
  obtain ⟨u76, r76, rfl, h76⟩ := uncons h75
  obtain ⟨u77, r77, rfl, h77⟩ := uncons h76
  obtain ⟨u78, r78, rfl, h78⟩ := uncons h77
  obtain ⟨u79, r79, rfl, h79⟩ := uncons h78
  obtain ⟨u80, r80, rfl, h80⟩ := uncons h79
  obtain ⟨u81, r81, rfl, h81⟩ := uncons h80
  obtain ⟨u82, r82, rfl, h82⟩ := uncons h81
  obtain ⟨u83, r83, rfl, h83⟩ := uncons h82
  obtain ⟨u84, r84, rfl, h84⟩ := uncons h83
  obtain ⟨u85, r85, rfl, h85⟩ := uncons h84
  obtain ⟨u86, r86, rfl, h86⟩ := uncons h85
  obtain ⟨u87, r87, rfl, h87⟩ := uncons h86
  obtain ⟨u88, r88, rfl, h88⟩ := uncons h87
  obtain ⟨u89, r89, rfl, h89⟩ := uncons h88
  obtain ⟨u90, r90, rfl, h90⟩ := uncons h89
  obtain ⟨u91, r91, rfl, h91⟩ := uncons h90
  obtain ⟨u92, r92, rfl, h92⟩ := uncons h91
  obtain ⟨u93, r93, rfl, h93⟩ := uncons h92
  obtain ⟨u94, r94, rfl, h94⟩ := uncons h93
  obtain ⟨u95, r95, rfl, h95⟩ := uncons h94
  obtain ⟨u96, r96, rfl, h96⟩ := uncons h95
  obtain ⟨u97, r97, rfl, h97⟩ := uncons h96
  obtain ⟨u98, r98, rfl, h98⟩ := uncons h97
  obtain ⟨u99, r99, rfl, h99⟩ := uncons h98
  obtain ⟨u100, r100, rfl, h100⟩ := uncons h99
  obtain ⟨u101, r101, rfl, h101⟩ := uncons h100
  obtain ⟨u102, r102, rfl, h102⟩ := uncons h101
  obtain ⟨u103, r103, rfl, h103⟩ := uncons h102
  obtain ⟨u104, r104, rfl, h104⟩ := uncons h103
  obtain rfl := List.length_eq_zero_iff.1 h104
  exact ⟨u0, u1, u2, u3, u4, u5, u6, u7, u8, u9, u10, u11, u12, u13, u14, u15, u16, u17, u18, u19, u20, u21, u22, u23, u24, u25, u26, u27, u28, u29, u30, u31, u32, u33, u34, u35, u36, u37, u38, u39, u40, u41, u42, u43, u44, u45, u46, u47, u48, u49, u50, u51, u52, u53, u54, u55, u56, u57, u58, u59, u60, u61, u62, u63, u64, u65, u66, u67, u68, u69, u70, u71, u72, u73, u74, u75, u76, u77, u78, u79, u80, u81, u82, u83, u84, u85, u86, u87, u88, u89, u90, u91, u92, u93, u94, u95, u96, u97, u98, u99, u100, u101, u102, u103, u104, rfl⟩

def TF (X : MX) (now0 line head j0 : Nat) (D : List Tok) (lab now j : Nat) (v : Value) (wr : World) : Prop :=
  (lab = 0 ∨ lab = 1 ∨ lab = 2 ∨ lab = 3 ∨ lab = 4) ∧ MS X wr now now0 line head v D ∧ AT X.l now j ∧ j0 ≤ j ∧ j < X.l.length ∧ bt X.l j < 128 ∧ endF lab X.l j = tokC X.l j0 ∧ (lab = 3 → j = j0 ∧ now = now0 ∧ bt X.l j = 34) ∧ (lab ≠ 3 → kl X.l j0 ≠ 7) ∧ (lab = 3 → kl X.l j0 = 7)
def TJ (X : MX) (now0 line head j0 : Nat) (D : List Tok) (lab : Nat) (a : Act) (wr : World) : Prop :=
  ∃ (now j : Nat) (v : Value) (u : Array Value), a = { tmps := u, defers := [] } ∧ u.size = 105 ∧ u.getD 0 undef = .pointer (some ⟨X.b, 0, none⟩) ∧ Hid (TF X now0 line head j0 D lab now j v wr)
theorem tokR_of_whole {X : MX} {now' now0 line head j0 kind e : Nat} {D : List Tok} {E : Ending} {w' : World} (h1 : AT X.l now' e) (h0 : AT X.l now0 j0) (hk : tokC X.l j0 = (kind, e)) (h7 : kl X.l j0 = 7 → quoE X.l j0 = 0) (h : wholeR X now' now0 line head D kind (subL X.l j0 e) E w') : tokR X now0 line head j0 D E w' := by
  have hE : tokE X.l j0 = faultE kind (subL X.l j0 e) := by unfold tokE; rw [if_neg (fun x => x.2 (h7 x.1)), hk]
  have hJ : tokJ X.l j0 = if faultE kind (subL X.l j0 e) = 0 then e else j0 := by unfold tokJ; rw [if_neg (fun x => x.2 (h7 x.1)), hk]
  obtain ⟨rfl, v', m⟩ := h
  unfold tokR
  rw [hE, hJ, hk]
  refine ⟨rfl, (if faultE kind (subL X.l j0 e) = 0 then now' else now0), v', ?_, m⟩
  split
  · exact h1
  · exact h0
theorem tokR_of_quo {X : MX} {now0 line head j0 k : Nat} {D : List Tok} {w' : World} {v' : Value} (h1 : AT X.l k (quoJ X.l j0)) (h7 : kl X.l j0 = 7) (h0 : quoE X.l j0 ≠ 0) (m : MS X w' k now0 line head v' D) : tokR X now0 line head j0 D (.returned (.int .i64 (quoE X.l j0 : Int))) w' := by
  have hE : tokE X.l j0 = quoE X.l j0 := by unfold tokE; rw [if_pos ⟨h7, h0⟩]
  have hJ : tokJ X.l j0 = quoJ X.l j0 := by unfold tokJ; rw [if_pos ⟨h7, h0⟩]
  unfold tokR
  rw [hE, hJ, if_neg h0]
  exact ⟨rfl, k, v', h1, m⟩
theorem results_tk (tmps : Array Value) (W : World) : (results Tryz.f45 tmps).run Tryz.prog W = .ok (tmps.getD 2 undef) W := by
  simp [results, go_sem]
theorem insS_ge (l : List UInt8) : ∀ (m j : Nat) (s : List UInt8), l.length - j ≤ m → j ≤ l.length → j ≤ (insS l j s).2.1 := by
  intro m
  induction m with
  | zero =>
    intro j s h hj
    rw [insS, if_neg (by omega)]
    exact hj
  | succ m ih =>
    intro j s h hj
    rw [insS]
    by_cases h1 : j < l.length
    · rw [if_pos h1]
      split
      · exact Nat.le_succ _
      · split
        · split
          · exact Nat.le_refl _
          · rename_i hne
            have := (escS_end l j (by omega)).1
            have := ih (j + (escS l j).1) (s ++ (escS l j).2) (by omega) (by omega)
            omega
        · split
          · exact Nat.le_refl _
          · have hp := dc_pos l j
            have hl := dc_le l j h1
            have := ih (j + (dc l j).2) (s ++ (l.drop j).take (dc l j).2) (by omega) (by omega)
            omega
    · rw [if_neg h1]
      exact hj
theorem quoE_lt (l : List UInt8) (j : Nat) : quoE l j < 1000 := by
  have := insS_e l _ (j + 1) [] (Nat.le_refl _)
  unfold quoE
  repeat' split
  all_goals omega
set_option maxRecDepth 100000 in
theorem arr_67 (u : Array Value) (h : u.size = 67) : ∃ u0 u1 u2 u3 u4 u5 u6 u7 u8 u9 u10 u11 u12 u13 u14 u15 u16 u17 u18 u19 u20 u21 u22 u23 u24 u25 u26 u27 u28 u29 u30 u31 u32 u33 u34 u35 u36 u37 u38 u39 u40 u41 u42 u43 u44 u45 u46 u47 u48 u49 u50 u51 u52 u53 u54 u55 u56 u57 u58 u59 u60 u61 u62 u63 u64 u65 u66, u = #[u0, u1, u2, u3, u4, u5, u6, u7, u8, u9, u10, u11, u12, u13, u14, u15, u16, u17, u18, u19, u20, u21, u22, u23, u24, u25, u26, u27, u28, u29, u30, u31, u32, u33, u34, u35, u36, u37, u38, u39, u40, u41, u42, u43, u44, u45, u46, u47, u48, u49, u50, u51, u52, u53, u54, u55, u56, u57, u58, u59, u60, u61, u62, u63, u64, u65, u66] := by
  obtain ⟨l⟩ := u
  have h' : l.length = 67 := by simpa using h
  obtain ⟨u0, r0, rfl, h0⟩ := uncons h'
  obtain ⟨u1, r1, rfl, h1⟩ := uncons h0
  obtain ⟨u2, r2, rfl, h2⟩ := uncons h1
  obtain ⟨u3, r3, rfl, h3⟩ := uncons h2
  obtain ⟨u4, r4, rfl, h4⟩ := uncons h3
  obtain ⟨u5, r5, rfl, h5⟩ := uncons h4
  obtain ⟨u6, r6, rfl, h6⟩ := uncons h5
  obtain ⟨u7, r7, rfl, h7⟩ := uncons h6
  obtain ⟨u8, r8, rfl, h8⟩ := uncons h7
  obtain ⟨u9, r9, rfl, h9⟩ := uncons h8
  obtain ⟨u10, r10, rfl, h10⟩ := uncons h9
  obtain ⟨u11, r11, rfl, h11⟩ := uncons h10
  obtain ⟨u12, r12, rfl, h12⟩ := uncons h11
  obtain ⟨u13, r13, rfl, h13⟩ := uncons h12
  obtain ⟨u14, r14, rfl, h14⟩ := uncons h13
  obtain ⟨u15, r15, rfl, h15⟩ := uncons h14
  obtain ⟨u16, r16, rfl, h16⟩ := uncons h15
  obtain ⟨u17, r17, rfl, h17⟩ := uncons h16
  obtain ⟨u18, r18, rfl, h18⟩ := uncons h17
  obtain ⟨u19, r19, rfl, h19⟩ := uncons h18
  obtain ⟨u20, r20, rfl, h20⟩ := uncons h19
  obtain ⟨u21, r21, rfl, h21⟩ := uncons h20
  obtain ⟨u22, r22, rfl, h22⟩ := uncons h21
  obtain ⟨u23, r23, rfl, h23⟩ := uncons h22
  obtain ⟨u24, r24, rfl, h24⟩ := uncons h23
  obtain ⟨u25, r25, rfl, h25⟩ := uncons h24
  obtain ⟨u26, r26, rfl, h26⟩ := uncons h25
  obtain ⟨u27, r27, rfl, h27⟩ := uncons h26
  obtain ⟨u28, r28, rfl, h28⟩ := uncons h27
  obtain ⟨u29, r29, rfl, h29⟩ := uncons h28
  obtain ⟨u30, r30, rfl, h30⟩ := uncons h29
  obtain ⟨u31, r31, rfl, h31⟩ := uncons h30
  obtain ⟨u32, r32, rfl, h32⟩ := uncons h31
  obtain ⟨u33, r33, rfl, h33⟩ := uncons h32
  obtain ⟨u34, r34, rfl, h34⟩ := uncons h33
  obtain ⟨u35, r35, rfl, h35⟩ := uncons h34
  obtain ⟨u36, r36, rfl, h36⟩ := uncons h35
  obtain ⟨u37, r37, rfl, h37⟩ := uncons h36
  obtain ⟨u38, r38, rfl, h38⟩ := uncons h37
  obtain ⟨u39, r39, rfl, h39⟩ := uncons h38
  obtain ⟨u40, r40, rfl, h40⟩ := uncons h39
  obtain ⟨u41, r41, rfl, h41⟩ := uncons h40
  obtain ⟨u42, r42, rfl, h42⟩ := uncons h41
  obtain ⟨u43, r43, rfl, h43⟩ := uncons h42
  obtain ⟨u44, r44, rfl, h44⟩ := uncons h43
  obtain ⟨u45, r45, rfl, h45⟩ := uncons h44
  obtain ⟨u46, r46, rfl, h46⟩ := uncons h45
  obtain ⟨u47, r47, rfl, h47⟩ := uncons h46
  obtain ⟨u48, r48, rfl, h48⟩ := uncons h47
  obtain ⟨u49, r49, rfl, h49⟩ := uncons h48
  obtain ⟨u50, r50, rfl, h50⟩ := uncons h49
  obtain ⟨u51, r51, rfl, h51⟩ := uncons h50
  obtain ⟨u52, r52, rfl, h52⟩ := uncons h51
  obtain ⟨u53, r53, rfl, h53⟩ := uncons h52
  obtain ⟨u54, r54, rfl, h54⟩ := uncons h53
  obtain ⟨u55, r55, rfl, h55⟩ := uncons h54
  obtain ⟨u56, r56, rfl, h56⟩ := uncons h55
  obtain ⟨u57, r57, rfl, h57⟩ := uncons h56
  obtain ⟨u58, r58, rfl, h58⟩ := uncons h57
  obtain ⟨u59, r59, rfl, h59⟩ := uncons h58
  obtain ⟨u60, r60, rfl, h60⟩ := uncons h59
  obtain ⟨u61, r61, rfl, h61⟩ := uncons h60
  obtain ⟨u62, r62, rfl, h62⟩ := uncons h61
  obtain ⟨u63, r63, rfl, h63⟩ := uncons h62
  obtain ⟨u64, r64, rfl, h64⟩ := uncons h63
  obtain ⟨u65, r65, rfl, h65⟩ := uncons h64
  obtain ⟨u66, r66, rfl, h66⟩ := uncons h65
  obtain rfl := List.length_eq_zero_iff.1 h66
  exact ⟨u0, u1, u2, u3, u4, u5, u6, u7, u8, u9, u10, u11, u12, u13, u14, u15, u16, u17, u18, u19, u20, u21, u22, u23, u24, u25, u26, u27, u28, u29, u30, u31, u32, u33, u34, u35, u36, u37, u38, u39, u40, u41, u42, u43, u44, u45, u46, u47, u48, u49, u50, u51, u52, u53, u54, u55, u56, u57, u58, u59, u60, u61, u62, u63, u64, u65, u66, rfl⟩

theorem insS_le (l : List UInt8) : ∀ (m j : Nat) (s : List UInt8), l.length - j ≤ m → j ≤ l.length → (insS l j s).2.1 ≤ l.length := by
  intro m
  induction m with
  | zero =>
    intro j s h hj
    rw [insS, if_neg (by omega)]
    exact Nat.le_refl _
  | succ m ih =>
    intro j s h hj
    rw [insS]
    by_cases h1 : j < l.length
    · rw [if_pos h1]
      split
      · exact h1
      · split
        · split
          · exact hj
          · have := (escS_end l j (by omega)).1
            exact ih (j + (escS l j).1) (s ++ (escS l j).2) (by omega) (by omega)
        · split
          · exact hj
          · have hp := dc_pos l j
            have hl := dc_le l j h1
            exact ih (j + (dc l j).2) (s ++ (l.drop j).take (dc l j).2) (by omega) (by omega)
    · rw [if_neg h1]
      exact Nat.le_refl _
theorem tok_ge {l : List UInt8} {j : Nat} (hj : j < l.length) (he : tokE l j ≠ 0) : j ≤ tokJ l j ∧ tokJ l j ≤ l.length := by
  have hj1 : j + 1 ≤ l.length := hj
  unfold tokE at he
  unfold tokJ
  split
  · have hg := insS_ge l _ (j + 1) [] (Nat.le_refl _) hj1
    have hle := insS_le l _ (j + 1) [] (Nat.le_refl _) hj1
    unfold quoJ
    split
    · omega
    · omega
  · rename_i h7
    rw [if_neg h7] at he
    rw [if_neg he]
    omega
theorem tok_adv {l : List UInt8} {j : Nat} (hj : j < l.length) (_ : kl l j ≠ 1) (he : tokE l j = 0) : j < tokJ l j ∧ tokJ l j ≤ l.length := by
  have hj1 : j + 1 ≤ l.length := hj
  have wr := wrun_ge l _ (j + 1) (Nat.le_refl _)
  have nr := nrun_ge l _ (j + 1) (Nat.le_refl _)
  have wr2 := wrun_ge l _ (wrun l (j + 1) + 1) (Nat.le_refl _)
  have hw1 := wr.2 hj1
  have hn1 := nr.2 hj1
  by_cases h7 : kl l j = 7 ∧ quoE l j ≠ 0
  · unfold tokE at he
    rw [if_pos h7] at he
    exact absurd he h7.2
  · unfold tokE at he
    rw [if_neg h7] at he
    unfold tokJ
    rw [if_neg h7, if_pos he]
    unfold tokC at he ⊢
    split
    · show j < (endF 0 l j).2 ∧ (endF 0 l j).2 ≤ l.length
      show j < (if dotA l (wrun l (j + 1)) 3 = true then ((3 : Nat), wrun l (wrun l (j + 1) + 1)) else (2, wrun l (j + 1))).2 ∧ (if dotA l (wrun l (j + 1)) 3 = true then ((3 : Nat), wrun l (wrun l (j + 1) + 1)) else (2, wrun l (j + 1))).2 ≤ l.length
      split
      · rename_i hd
        have := (dotA_asc hd).1
        have := wr2.2 (by omega)
        exact ⟨by simp only; omega, by simp only; omega⟩
      · exact ⟨by simp only; omega, by simp only; omega⟩
    · split
      · show j < nrun l (j + 1) ∧ nrun l (j + 1) ≤ l.length
        omega
      · split
        · show j < wrun l (j + 1) ∧ wrun l (j + 1) ≤ l.length
          omega
        · split
          · rename_i hk
            have hq : quoE l j = 0 := Classical.byContradiction (fun h => h7 ⟨hk, h⟩)
            show j < quoJ l j ∧ quoJ l j ≤ l.length
            have hg := insS_ge l _ (j + 1) [] (Nat.le_refl _) hj1
            have hle := insS_le l _ (j + 1) [] (Nat.le_refl _) hj1
            unfold quoJ
            unfold quoE at hq
            split
            · rename_i hc
              rw [if_neg (by rw [hc.1]; simp), if_pos hc] at hq
              cases hq
            · omega
          · rename_i k3 k4 k6 k7
            rw [if_neg k3, if_neg k4, if_neg k6, if_neg k7] at he
            obtain ⟨hs1, _⟩ := sgn_pre (l.drop j)
            rw [List.length_drop] at hs1
            have hne : subL l j (j + sgn (l.drop j)) ≠ [] := fun e => by
              unfold faultE at he
              simp only [e] at he
              revert he
              decide
            have : 0 < sgn (l.drop j) := by
              refine Nat.pos_of_ne_zero (fun e => hne ?_)
              unfold subL
              rw [e]
              simp
            show j < j + sgn (l.drop j) ∧ j + sgn (l.drop j) ≤ l.length
            omega

def RunR (X : MX) (R : Res) (e : Ending) (w' : World) : Prop :=
  e = .returned (.int .i64 (R.2.1 : Int)) ∧ ∃ now fst line head v D, MS X w' now fst line head v D ∧ head ≤ now ∧ now ≤ 16384 ∧ (R.2.1 = 0 → R = (D, 0, 0, 0)) ∧ (R.2.1 ≠ 0 → R = ([], R.2.1, line, now - head + 1))
def RF (X : MX) (R : Res) (lab now j fst line head hb : Nat) (v : Value) (D : List Tok) (wr : World) : Prop :=
  (lab = 0 ∨ lab = 1 ∨ lab = 2) ∧ MS X wr now fst line head v D ∧ AT X.l now j ∧ AT X.l head hb ∧ head ≤ now ∧ j ≤ X.l.length ∧ D.length ≤ 2 * now ∧ line ≤ now + 1 ∧
  (lab = 0 → ∃ f, X.l.length - j < f ∧ runM f X.l j line hb D = R) ∧
  (lab = 1 → j < X.l.length ∧ kl X.l j ≠ 1 ∧ ∃ f, X.l.length - j ≤ f ∧ lendM f X.l (cend X.l (j + (dc X.l j).2)) line hb D = R) ∧
  (lab = 2 → (kl X.l j = 1 ∨ kl X.l j = 0) ∧ ∃ f, X.l.length - j ≤ f ∧ lendM f X.l j line hb D = R)
def RJ (X : MX) (R : Res) (lab : Nat) (a : Act) (wr : World) : Prop :=
  ∃ (now j fst line head hb : Nat) (v : Value) (D : List Tok) (u : Array Value), a = { tmps := u, defers := [] } ∧ u.size = 67 ∧ u.getD 0 undef = .pointer (some ⟨X.b, 0, none⟩) ∧ Hid (RF X R lab now j fst line head hb v D wr)
def rM (X : MX) (lab : Nat) (wr : World) : Nat := 3 * mNow X wr + (if lab = 0 then 2 else if lab = 1 then 1 else 0)
theorem results_rn (tmps : Array Value) (W : World) : (results Tryz.f32 tmps).run Tryz.prog W = .ok (tmps.getD 2 undef) W := by
  simp [results, go_sem]
theorem use_pass2 {P : Program} {a : Act} {w : World} {Q : Exit → Act → World → Prop} {c X : Code} {J : Nat → Act → World → Prop} {m : Nat → Act → World → Nat} {l K0 K1 : Nat} (h : ∃ Y, findLabel c l = some (.seq .skip Y) ∧ Y.wp P (jumpN (fun l' a' w' => J l' a' w' ∧ m l' a' w' < K0) Q) a w) (hf : findLabel c l = some (.seq .skip X)) (hK : K0 ≤ K1) : X.wp P (jumpN (fun l' a' w' => J l' a' w' ∧ m l' a' w' < K1) Q) a w := by
  obtain ⟨Y, hY, hr⟩ := h
  have e := Option.some.inj (hf.symm.trans hY)
  injection e with _ e
  rw [e]
  refine wp_mono hr ?_
  intro e a' w' hq
  cases e with
  | goto l' => exact ⟨hq.1, Nat.lt_of_lt_of_le hq.2 hK⟩
  | normal => exact hq
  | exit id => exact hq
  | ret => exact hq
  | panic ch => exact hq
  | outgrown => exact hq
end Go.Proofs.YtffgkjmfeannoaaGreatDoor
namespace Go.Proofs.YtffgkjmfeannoaaGreatDoor
open Go.RowKit
theorem bt_shift (P X : List UInt8) (j : Nat) : bt (P ++ X) (P.length + j) = bt X j := by
  unfold bt
  simp [List.getD, List.getElem?_append_right]
theorem drop_shift (P X : List UInt8) (j : Nat) : (P ++ X).drop (P.length + j) = X.drop j := by
  rw [← List.drop_drop, List.drop_left]
theorem getD_shift (P X : List UInt8) (j : Nat) : (P ++ X).getD (P.length + j) 0 = X.getD j 0 := by
  simp [List.getD, List.getElem?_append_right]
theorem brS_shift (P X : List UInt8) : brS (P ++ X) P.length = brS X 0 := by
  unfold brS
  rw [drop_shift, bt_shift, Nat.add_assoc, bt_shift, List.length_append]
  simp only [Nat.zero_add]
  have e1 : (P.length + X.length < P.length + 3 ∨ bt X 2 ≠ 123) = (X.length < 3 ∨ bt X 2 ≠ 123) := by rw [Nat.add_lt_add_iff_left]
  have e2 : ∀ k, (P.length + X.length ≤ P.length + (3 + k)) = (X.length ≤ 3 + k) := fun k => by rw [Nat.add_le_add_iff_left]
  simp only [e1, e2]
theorem escS_shift (P X : List UInt8) : escS (P ++ X) P.length = escS X 0 := by
  unfold escS
  rw [bt_shift, getD_shift, getD_shift, brS_shift, List.length_append]
  simp only [Nat.zero_add]
  have e1 : (P.length + X.length ≤ P.length + 1) = (X.length ≤ 1) := by rw [Nat.add_le_add_iff_left]
  have e2 : (P.length + 3 < P.length + X.length) = (3 < X.length) := by rw [Nat.add_lt_add_iff_left]
  simp only [e1, e2]
end Go.Proofs.YtffgkjmfeannoaaGreatDoor
namespace Go.Proofs.YtffgkjmfeannoaaGreatDoor
open Go.RowKit Go.Shelf
def stopL (S : List UInt8) : Prop := S = [] ∨ ∃ S', S = 10 :: S'
section
variable {P a S : List UInt8}
theorem btL {j : Nat} (hj : j < a.length) : bt (P ++ (a ++ S)) (P.length + j) = bt a j := by
  rw [bt_shift]
  unfold bt
  rw [List.getD_eq_getElem?_getD, List.getD_eq_getElem?_getD, List.getElem?_append_left hj]
theorem btE (hS : stopL S) : bt (P ++ (a ++ S)) (P.length + a.length) = 10 ∨ P.length + a.length = (P ++ (a ++ S)).length := by
  rcases hS with rfl | ⟨S', rfl⟩
  · exact .inr (by simp)
  · left
    rw [bt_shift]
    exact bt_of (l := a ++ 10 :: S') (c := 10) (by simp)
theorem lenL {j : Nat} (_ : j ≤ a.length) : a.length - j ≤ (P ++ (a ++ S)).length - (P.length + j) := by simp; omega
theorem decodeN_cut (n m b0 b1 b2 b3 c1 c2 c3 : Nat) (hn : 1 ≤ n) (hm : n ≤ m) (h1 : 1 < n → c1 = b1) (h2 : 2 < n → c2 = b2) (h3 : 3 < n → c3 = b3)
    (e1 : n = 1 → 1 < m → c1 = 10) (e2 : n = 2 → 2 < m → c2 = 10) (e3 : n = 3 → 3 < m → c3 = 10) : Lib.decodeN m b0 c1 c2 c3 = Lib.decodeN n b0 b1 b2 b3 := by
  have k1 : (1 < m ∧ c1 / 64 = 2) ↔ (1 < n ∧ b1 / 64 = 2) := by
    constructor
    · rintro ⟨p, q⟩
      by_cases hh : 1 < n
      · rw [h1 hh] at q; exact ⟨hh, q⟩
      · rw [e1 (by omega) p] at q; exact absurd q (by decide)
    · rintro ⟨p, q⟩
      exact ⟨by omega, by rw [h1 p]; exact q⟩
  have k2 : 1 < n → ((2 < m ∧ c2 / 64 = 2) ↔ (2 < n ∧ b2 / 64 = 2)) := fun hh1 => by
    constructor
    · rintro ⟨p, q⟩
      by_cases hh : 2 < n
      · rw [h2 hh] at q; exact ⟨hh, q⟩
      · rw [e2 (by omega) p] at q; exact absurd q (by decide)
    · rintro ⟨p, q⟩
      exact ⟨by omega, by rw [h2 p]; exact q⟩
  have k3 : 2 < n → ((3 < m ∧ c3 / 64 = 2) ↔ (3 < n ∧ b3 / 64 = 2)) := fun hh1 => by
    constructor
    · rintro ⟨p, q⟩
      by_cases hh : 3 < n
      · rw [h3 hh] at q; exact ⟨hh, q⟩
      · rw [e3 (by omega) p] at q; exact absurd q (by decide)
    · rintro ⟨p, q⟩
      exact ⟨by omega, by rw [h3 p]; exact q⟩
  unfold Lib.decodeN
  by_cases p1 : 1 < n ∧ b1 / 64 = 2
  · obtain ⟨q11, q12⟩ := k1.2 p1
    obtain ⟨p11, p12⟩ := p1
    have ec1 := h1 p11
    subst ec1
    simp only [p11, q11, p12, and_self, true_and]
    by_cases p2 : 2 < n ∧ b2 / 64 = 2
    · obtain ⟨q21, q22⟩ := (k2 p11).2 p2
      obtain ⟨p21, p22⟩ := p2
      have ec2 := h2 p21
      subst ec2
      simp only [p21, q21, p22, and_self, true_and]
      by_cases p3 : 3 < n ∧ b3 / 64 = 2
      · obtain ⟨q31, q32⟩ := (k3 p21).2 p3
        obtain ⟨p31, p32⟩ := p3
        have ec3 := h3 p31
        subst ec3
        simp only [p31, q31, p32]
      · have q3 : ¬ (3 < m ∧ c3 / 64 = 2) := fun h => p3 ((k3 p21).1 h)
        simp only [p3, q3, and_false, if_false]
    · have q2 : ¬ (2 < m ∧ c2 / 64 = 2) := fun h => p2 ((k2 p11).1 h)
      simp only [p2, q2, and_false, false_and, if_false]
  · have q1 : ¬ (1 < m ∧ c1 / 64 = 2) := fun h => p1 (k1.1 h)
    simp only [p1, q1, and_false, false_and, if_false]
theorem dcL (hS : stopL S) {j : Nat} (hj : j < a.length) : dc (P ++ (a ++ S)) (P.length + j) = dc a j := by
  unfold dc
  rw [btL hj]
  have hlen : ∀ k, j + k < a.length → bt (P ++ (a ++ S)) (P.length + j + k) = bt a (j + k) := fun k hk => by
    rw [Nat.add_assoc]
    exact btL hk
  have hend : ∀ k, j + k = a.length → k < (P ++ (a ++ S)).length - (P.length + j) → bt (P ++ (a ++ S)) (P.length + j + k) = 10 := fun k hk hlt => by
    rw [Nat.add_assoc, hk]
    rcases btE (P := P) (a := a) hS with h | h
    · exact h
    · omega
  exact decodeN_cut _ _ _ _ _ _ _ _ _ (by omega) (lenL (by omega)) (fun h => hlen 1 (by omega)) (fun h => hlen 2 (by omega)) (fun h => hlen 3 (by omega)) (fun h h2 => hend 1 (by omega) h2) (fun h h2 => hend 2 (by omega) h2) (fun h h2 => hend 3 (by omega) h2)
theorem chrL (hS : stopL S) {j : Nat} (hj : j < a.length) : chr (P ++ (a ++ S)) (P.length + j) = chr a j := by
  unfold chr lo1
  rw [dcL hS hj, if_pos hj, if_pos (by simp; omega)]
theorem klL (hS : stopL S) {j : Nat} (hj : j < a.length) : kl (P ++ (a ++ S)) (P.length + j) = kl a j := by
  unfold kl
  rw [chrL hS hj]
theorem klE (hS : stopL S) : kl (P ++ (a ++ S)) (P.length + a.length) = 0 ∨ kl (P ++ (a ++ S)) (P.length + a.length) = 1 := by
  rcases hS with rfl | ⟨S', rfl⟩
  · exact .inl (kl0.2 (by simp))
  · right
    have hb : bt (P ++ (a ++ 10 :: S')) (P.length + a.length) = 10 := by
      rw [bt_shift]
      exact bt_of (l := a ++ 10 :: S') (c := 10) (by simp)
    unfold kl
    rw [(chr_asc _ _ 10 (by decide)).2 ⟨by simp, hb⟩]
    rfl
theorem inWL (hS : stopL S) {j : Nat} (hj : j ≤ a.length) : inW (P ++ (a ++ S)) (P.length + j) = inW a j := by
  rcases Nat.lt_or_ge j a.length with h | h
  · unfold inW
    rw [klL hS h]
  · obtain rfl : j = a.length := by omega
    have k0 : kl a a.length = 0 := kl0.2 (by omega)
    unfold inW
    rcases klE (P := P) (a := a) hS with e | e
    · rw [e, k0]
    · rw [e, k0]; rfl
theorem dotAL (hS : stopL S) {j c : Nat} (hj : j ≤ a.length) (hc : 2 ≤ c) : dotA (P ++ (a ++ S)) (P.length + j) c = dotA a j c := by
  rcases Nat.lt_or_ge j a.length with h | h
  · unfold dotA
    rw [klL hS h]
    rcases Nat.lt_or_ge (j + 1) a.length with h2 | h2
    · rw [Nat.add_assoc, klL hS h2]
    · have e2 : j + 1 = a.length := by omega
      have k0 : kl a a.length = 0 := kl0.2 (by omega)
      have d0 : decide (kl a (j + 1) = c) = false := decide_eq_false (by rw [e2, k0]; omega)
      have d1 : decide (kl (P ++ (a ++ S)) (P.length + j + 1) = c) = false := decide_eq_false (by
        rw [Nat.add_assoc, e2]
        rcases klE (P := P) (a := a) hS with e | e
        · rw [e]; omega
        · rw [e]; omega)
      rw [d0, d1]
  · obtain rfl : j = a.length := by omega
    have k0 : kl a a.length = 0 := kl0.2 (by omega)
    unfold dotA
    have d0 : decide (kl a a.length = 5) = false := decide_eq_false (by rw [k0]; decide)
    have d1 : decide (kl (P ++ (a ++ S)) (P.length + a.length) = 5) = false := decide_eq_false (by
      rcases klE (P := P) (a := a) hS with e | e
      · rw [e]; decide
      · rw [e]; decide)
    rw [d0, d1]
    rfl
theorem wrunL (hS : stopL S) : ∀ (m j : Nat), a.length - j ≤ m → j ≤ a.length → wrun (P ++ (a ++ S)) (P.length + j) = P.length + wrun a j
  | m, j, hm, hj => by
    have hw := inWL (P := P) hS hj
    cases h : inW a j with
    | false => rw [wrun_no h, wrun_no (hw.trans h)]
    | true =>
      have hlt := (inW_asc h).1
      match m, hm with
      | 0, hm => omega
      | m + 1, hm =>
        rw [wrun_yes h, wrun_yes (hw.trans h), Nat.add_assoc]
        exact wrunL hS m (j + 1) (by omega) hlt
theorem nrunL (hS : stopL S) : ∀ (m j : Nat), a.length - j ≤ m → j ≤ a.length → nrun (P ++ (a ++ S)) (P.length + j) = P.length + nrun a j
  | m, j, hm, hj => by
    have hw : (inW (P ++ (a ++ S)) (P.length + j) || dotA (P ++ (a ++ S)) (P.length + j) 4) = (inW a j || dotA a j 4) := by rw [inWL hS hj, dotAL hS hj (by decide)]
    cases h : (inW a j || dotA a j 4) with
    | false => rw [nrun_no h, nrun_no (hw.trans h)]
    | true =>
      have hlt : j < a.length := by
        rcases Bool.or_eq_true_iff.1 h with h | h
        · exact (inW_asc h).1
        · exact (dotA_asc h).1
      match m, hm with
      | 0, hm => omega
      | m + 1, hm =>
        rw [nrun_yes h, nrun_yes (hw.trans h), Nat.add_assoc]
        exact nrunL hS m (j + 1) (by omega) hlt
theorem findc {α : Type} {p q : α → Bool} : ∀ (L : List α), (∀ x ∈ L, p x = q x) → L.find? p = L.find? q
  | [], _ => rfl
  | x :: L, h => by
    rw [List.find?_cons, List.find?_cons, h x (by simp), findc L (fun y hy => h y (by simp [hy]))]
theorem pre_stop {s : List UInt8} (hs : ∀ c ∈ s, c ≠ 10) (hS : stopL S) : ∀ x : List UInt8, Lib.hasPrefix (x ++ S) s = Lib.hasPrefix x s := by
  unfold Lib.hasPrefix
  induction s with
  | nil => intro x; simp
  | cons c s ih =>
    intro x
    cases x with
    | nil =>
      rcases hS with rfl | ⟨S', rfl⟩
      · rfl
      · have : (c == 10) = false := beq_eq_false_iff_ne.2 (hs c (by simp))
        show (c :: s).isPrefixOf (10 :: S') = (c :: s).isPrefixOf []
        rw [List.isPrefixOf_cons_cons, this]
        rfl
    | cons y x =>
      have := ih (fun d hd => hs d (by simp [hd])) x
      simp only [List.cons_append, List.isPrefixOf_cons_cons, this]
theorem sgnL (hS : stopL S) (j : Nat) (hj : j ≤ a.length) : sgn ((P ++ (a ++ S)).drop (P.length + j)) = sgn (a.drop j) := by
  have e : (P ++ (a ++ S)).drop (P.length + j) = a.drop j ++ S := by
    rw [drop_shift, List.drop_append_of_le_length hj]
  rw [e]
  unfold sgn
  have hall : ∀ s ∈ signsL, ∀ c ∈ s, c ≠ 10 := by decide
  have : signsL.find? (fun s => Lib.hasPrefix (a.drop j ++ S) s) = signsL.find? (fun s => Lib.hasPrefix (a.drop j) s) := by
    apply findc
    intro s hs
    exact pre_stop (hall s hs) hS _
  rw [this]
end
end Go.Proofs.YtffgkjmfeannoaaGreatDoor
