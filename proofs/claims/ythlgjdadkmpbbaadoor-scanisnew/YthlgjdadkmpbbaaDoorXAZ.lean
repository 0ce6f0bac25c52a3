import Derived.Test.YthlgjdadkmpbbaaDoorXAX
import Derived.Test.YthlgjdadkmpbbaaDoorXAY
namespace Go.Proofs.YthlgjdadkmpbbaaDoor
open Go.RowKit Go.Shelf
set_option maxRecDepth 100000 in
theorem arr_105 (u : Array Value) (h : u.size = 105) : ∃ u0 u1 u2 u3 u4 u5 u6 u7 u8 u9 u10 u11 u12 u13 u14 u15 u16 u17 u18 u19 u20 u21 u22 u23 u24 u25 u26 u27 u28 u29 u30 u31 u32 u33 u34 u35 u36 u37 u38 u39 u40 u41 u42 u43 u44 u45 u46 u47 u48 u49 u50 u51 u52 u53 u54 u55 u56 u57 u58 u59 u60 u61 u62 u63 u64 u65 u66 u67 u68 u69 u70 u71 u72 u73 u74 u75 u76 u77 u78 u79 u80 u81 u82 u83 u84 u85 u86 u87 u88 u89 u90 u91 u92 u93 u94 u95 u96 u97 u98 u99 u100 u101 u102 u103 u104, u = #[u0, u1, u2, u3, u4, u5, u6, u7, u8, u9, u10, u11, u12, u13, u14, u15, u16, u17, u18, u19, u20, u21, u22, u23, u24, u25, u26, u27, u28, u29, u30, u31, u32, u33, u34, u35, u36, u37, u38, u39, u40, u41, u42, u43, u44, u45, u46, u47, u48, u49, u50, u51, u52, u53, u54, u55, u56, u57, u58, u59, u60, u61, u62, u63, u64, u65, u66, u67, u68, u69, u70, u71, u72, u73, u74, u75, u76, u77, u78, u79, u80, u81, u82, u83, u84, u85, u86, u87, u88, u89, u90, u91, u92, u93, u94, u95, u96, u97, u98, u99, u100, u101, u102, u103, u104] := by
  obtain ⟨l⟩ := u
  have h' : l.length = 105 := by simpa using h
  obtain ⟨u0, r0, rfl, h0⟩ := uncons h'
  obtain ⟨u1, r1, rfl, h1⟩ := uncons h0
  obtain ⟨u2, r2, rfl, h2⟩ := uncons h1
  obtain ⟨u3, r3, rfl, h3⟩ := uncons h2
  obtain ⟨u4, r4, rfl, h4⟩ := uncons h3
  obtain ⟨u5, r5, rfl, h5⟩ := uncons h4
  obtain ⟨u6, r6, rfl, h6⟩ := uncons h5
  obtain ⟨u7, r7, rfl, h7⟩ := uncons h6
  obtain ⟨u8, r8, rfl, h8⟩ := uncons h7
  obtain ⟨u9, r9, rfl, h9⟩ := uncons h8
  obtain ⟨u10, r10, rfl, h10⟩ := uncons h9
  obtain ⟨u11, r11, rfl, h11⟩ := uncons h10
  obtain ⟨u12, r12, rfl, h12⟩ := uncons h11
  obtain ⟨u13, r13, rfl, h13⟩ := uncons h12
  obtain ⟨u14, r14, rfl, h14⟩ := uncons h13
  obtain ⟨u15, r15, rfl, h15⟩ := uncons h14
  obtain ⟨u16, r16, rfl, h16⟩ := uncons h15
  obtain ⟨u17, r17, rfl, h17⟩ := uncons h16
  obtain ⟨u18, r18, rfl, h18⟩ := uncons h17
  obtain ⟨u19, r19, rfl, h19⟩ := uncons h18
  obtain ⟨u20, r20, rfl, h20⟩ := uncons h19
  obtain ⟨u21, r21, rfl, h21⟩ := uncons h20
  obtain ⟨u22, r22, rfl, h22⟩ := uncons h21
  obtain ⟨u23, r23, rfl, h23⟩ := uncons h22
  obtain ⟨u24, r24, rfl, h24⟩ := uncons h23
  obtain ⟨u25, r25, rfl, h25⟩ := uncons h24
  obtain ⟨u26, r26, rfl, h26⟩ := uncons h25
  obtain ⟨u27, r27, rfl, h27⟩ := uncons h26
  obtain ⟨u28, r28, rfl, h28⟩ := uncons h27
  obtain ⟨u29, r29, rfl, h29⟩ := uncons h28
  obtain ⟨u30, r30, rfl, h30⟩ := uncons h29
  obtain ⟨u31, r31, rfl, h31⟩ := uncons h30
  obtain ⟨u32, r32, rfl, h32⟩ := uncons h31
  obtain ⟨u33, r33, rfl, h33⟩ := uncons h32
  obtain ⟨u34, r34, rfl, h34⟩ := uncons h33
  obtain ⟨u35, r35, rfl, h35⟩ := uncons h34
  obtain ⟨u36, r36, rfl, h36⟩ := uncons h35
  obtain ⟨u37, r37, rfl, h37⟩ := uncons h36
  obtain ⟨u38, r38, rfl, h38⟩ := uncons h37
  obtain ⟨u39, r39, rfl, h39⟩ := uncons h38
  obtain ⟨u40, r40, rfl, h40⟩ := uncons h39
  obtain ⟨u41, r41, rfl, h41⟩ := uncons h40
  obtain ⟨u42, r42, rfl, h42⟩ := uncons h41
  obtain ⟨u43, r43, rfl, h43⟩ := uncons h42
  obtain ⟨u44, r44, rfl, h44⟩ := uncons h43
  obtain ⟨u45, r45, rfl, h45⟩ := uncons h44
  obtain ⟨u46, r46, rfl, h46⟩ := uncons h45
  obtain ⟨u47, r47, rfl, h47⟩ := uncons h46
  obtain ⟨u48, r48, rfl, h48⟩ := uncons h47
  obtain ⟨u49, r49, rfl, h49⟩ := uncons h48
  obtain ⟨u50, r50, rfl, h50⟩ := uncons h49
  obtain ⟨u51, r51, rfl, h51⟩ := uncons h50
  obtain ⟨u52, r52, rfl, h52⟩ := uncons h51
  obtain ⟨u53, r53, rfl, h53⟩ := uncons h52
  obtain ⟨u54, r54, rfl, h54⟩ := uncons h53
  obtain ⟨u55, r55, rfl, h55⟩ := uncons h54
  obtain ⟨u56, r56, rfl, h56⟩ := uncons h55
  obtain ⟨u57, r57, rfl, h57⟩ := uncons h56
  obtain ⟨u58, r58, rfl, h58⟩ := uncons h57
  obtain ⟨u59, r59, rfl, h59⟩ := uncons h58
  obtain ⟨u60, r60, rfl, h60⟩ := uncons h59
  obtain ⟨u61, r61, rfl, h61⟩ := uncons h60
  obtain ⟨u62, r62, rfl, h62⟩ := uncons h61
  obtain ⟨u63, r63, rfl, h63⟩ := uncons h62
  obtain ⟨u64, r64, rfl, h64⟩ := uncons h63
  obtain ⟨u65, r65, rfl, h65⟩ := uncons h64
  obtain ⟨u66, r66, rfl, h66⟩ := uncons h65
  obtain ⟨u67, r67, rfl, h67⟩ := uncons h66
  obtain ⟨u68, r68, rfl, h68⟩ := uncons h67
  obtain ⟨u69, r69, rfl, h69⟩ := uncons h68
  obtain ⟨u70, r70, rfl, h70⟩ := uncons h69
  obtain ⟨u71, r71, rfl, h71⟩ := uncons h70
  obtain ⟨u72, r72, rfl, h72⟩ := uncons h71
  obtain ⟨u73, r73, rfl, h73⟩ := uncons h72
  obtain ⟨u74, r74, rfl, h74⟩ := uncons h73
  obtain ⟨u75, r75, rfl, h75⟩ := uncons h74
  obtain ⟨u76, r76, rfl, h76⟩ := uncons h75
  obtain ⟨u77, r77, rfl, h77⟩ := uncons h76
  obtain ⟨u78, r78, rfl, h78⟩ := uncons h77
  obtain ⟨u79, r79, rfl, h79⟩ := uncons h78
  obtain ⟨u80, r80, rfl, h80⟩ := uncons h79
  obtain ⟨u81, r81, rfl, h81⟩ := uncons h80
  obtain ⟨u82, r82, rfl, h82⟩ := uncons h81
  obtain ⟨u83, r83, rfl, h83⟩ := uncons h82
  obtain ⟨u84, r84, rfl, h84⟩ := uncons h83
  obtain ⟨u85, r85, rfl, h85⟩ := uncons h84
  obtain ⟨u86, r86, rfl, h86⟩ := uncons h85
  obtain ⟨u87, r87, rfl, h87⟩ := uncons h86
  obtain ⟨u88, r88, rfl, h88⟩ := uncons h87
  obtain ⟨u89, r89, rfl, h89⟩ := uncons h88
  obtain ⟨u90, r90, rfl, h90⟩ := uncons h89
  obtain ⟨u91, r91, rfl, h91⟩ := uncons h90
  obtain ⟨u92, r92, rfl, h92⟩ := uncons h91
  obtain ⟨u93, r93, rfl, h93⟩ := uncons h92
  obtain ⟨u94, r94, rfl, h94⟩ := uncons h93
  obtain ⟨u95, r95, rfl, h95⟩ := uncons h94
  obtain ⟨u96, r96, rfl, h96⟩ := uncons h95
  obtain ⟨u97, r97, rfl, h97⟩ := uncons h96
  obtain ⟨u98, r98, rfl, h98⟩ := uncons h97
  obtain ⟨u99, r99, rfl, h99⟩ := uncons h98
  obtain ⟨u100, r100, rfl, h100⟩ := uncons h99
  obtain ⟨u101, r101, rfl, h101⟩ := uncons h100
  obtain ⟨u102, r102, rfl, h102⟩ := uncons h101
  obtain ⟨u103, r103, rfl, h103⟩ := uncons h102
  obtain ⟨u104, r104, rfl, h104⟩ := uncons h103
  obtain rfl := List.length_eq_zero_iff.1 h104
  exact ⟨u0, u1, u2, u3, u4, u5, u6, u7, u8, u9, u10, u11, u12, u13, u14, u15, u16, u17, u18, u19, u20, u21, u22, u23, u24, u25, u26, u27, u28, u29, u30, u31, u32, u33, u34, u35, u36, u37, u38, u39, u40, u41, u42, u43, u44, u45, u46, u47, u48, u49, u50, u51, u52, u53, u54, u55, u56, u57, u58, u59, u60, u61, u62, u63, u64, u65, u66, u67, u68, u69, u70, u71, u72, u73, u74, u75, u76, u77, u78, u79, u80, u81, u82, u83, u84, u85, u86, u87, u88, u89, u90, u91, u92, u93, u94, u95, u96, u97, u98, u99, u100, u101, u102, u103, u104, rfl⟩

/-- what stands at a label of token -/
def TF (X : MX) (now0 line head j0 : Nat) (D : List Tok) (lab now j : Nat) (v : Value) (wr : World) : Prop :=
  (lab = 0 ∨ lab = 1 ∨ lab = 2 ∨ lab = 3 ∨ lab = 4) ∧ MS X wr now now0 line head v D ∧ AT X.l now j ∧ j0 ≤ j ∧ j < X.l.length ∧ bt X.l j < 128 ∧ endF lab X.l j = tokC X.l j0 ∧ (lab = 3 → j = j0 ∧ now = now0 ∧ bt X.l j = 34) ∧ (lab ≠ 3 → kl X.l j0 ≠ 7) ∧ (lab = 3 → kl X.l j0 = 7)
def TJ (X : MX) (now0 line head j0 : Nat) (D : List Tok) (lab : Nat) (a : Act) (wr : World) : Prop :=
  ∃ (now j : Nat) (v : Value) (u : Array Value), a = { tmps := u, defers := [] } ∧ u.size = 105 ∧ u.getD 0 undef = .pointer (some ⟨X.b, 0, none⟩) ∧ Hid (TF X now0 line head j0 D lab now j v wr)
theorem tokR_of_whole {X : MX} {now' now0 line head j0 kind e : Nat} {D : List Tok} {E : Ending} {w' : World} (h1 : AT X.l now' e) (h0 : AT X.l now0 j0) (hk : tokC X.l j0 = (kind, e)) (h7 : kl X.l j0 = 7 → quoE X.l j0 = 0) (h : wholeR X now' now0 line head D kind (subL X.l j0 e) E w') : tokR X now0 line head j0 D E w' := by
  have hE : tokE X.l j0 = faultE kind (subL X.l j0 e) := by unfold tokE; rw [if_neg (fun x => x.2 (h7 x.1)), hk]
  have hJ : tokJ X.l j0 = if faultE kind (subL X.l j0 e) = 0 then e else j0 := by unfold tokJ; rw [if_neg (fun x => x.2 (h7 x.1)), hk]
  obtain ⟨rfl, v', m⟩ := h
  unfold tokR
  rw [hE, hJ, hk]
  refine ⟨rfl, (if faultE kind (subL X.l j0 e) = 0 then now' else now0), v', ?_, m⟩
  split
  · exact h1
  · exact h0
theorem tokR_of_quo {X : MX} {now0 line head j0 k : Nat} {D : List Tok} {w' : World} {v' : Value} (h1 : AT X.l k (quoJ X.l j0)) (h7 : kl X.l j0 = 7) (h0 : quoE X.l j0 ≠ 0) (m : MS X w' k now0 line head v' D) : tokR X now0 line head j0 D (.returned (.int .i64 (quoE X.l j0 : Int))) w' := by
  have hE : tokE X.l j0 = quoE X.l j0 := by unfold tokE; rw [if_pos ⟨h7, h0⟩]
  have hJ : tokJ X.l j0 = quoJ X.l j0 := by unfold tokJ; rw [if_pos ⟨h7, h0⟩]
  unfold tokR
  rw [hE, hJ, if_neg h0]
  exact ⟨rfl, k, v', h1, m⟩
theorem results_tk (tmps : Array Value) (W : World) : (results Tryd.f15 tmps).run Tryd.prog W = .ok (tmps.getD 2 undef) W := by
  simp [results, go_sem]
theorem insS_ge (l : List UInt8) : ∀ (m j : Nat) (s : List UInt8), l.length - j ≤ m → j ≤ l.length → j ≤ (insS l j s).2.1 := by
  intro m
  induction m with
  | zero =>
    intro j s h hj
    rw [insS, if_neg (by omega)]
    exact hj
  | succ m ih =>
    intro j s h hj
    rw [insS]
    by_cases h1 : j < l.length
    · rw [if_pos h1]
      split
      · exact Nat.le_succ _
      · split
        · split
          · exact Nat.le_refl _
          · rename_i hne
            have := (escS_end l j (by omega)).1
            have := ih (j + (escS l j).1) (s ++ (escS l j).2) (by omega) (by omega)
            omega
        · split
          · exact Nat.le_refl _
          · have hp := dc_pos l j
            have hl := dc_le l j h1
            have := ih (j + (dc l j).2) (s ++ (l.drop j).take (dc l j).2) (by omega) (by omega)
            omega
    · rw [if_neg h1]
      exact hj
theorem quoE_lt (l : List UInt8) (j : Nat) : quoE l j < 1000 := by
  have := insS_e l _ (j + 1) [] (Nat.le_refl _)
  unfold quoE
  repeat' split
  all_goals omega
end Go.Proofs.YthlgjdadkmpbbaaDoor
