import Derived.Test.YtciffggmobblpaaGreatDoorXAH
import Derived.Test.YtciffggmobblpaaGreatDoorXAB
import Derived.Shelf.Strings.SlTrimAscii
import Derived.Ground.NamesProg
import Derived.Test.YtciffggmobblpaaGreatDoorProg
import Derived.Test.YtciffggmobblpaaGreatDoorXAF
import Derived.Lib.SlTrimSet
namespace Go.Proofs.YtciffggmobblpaaGreatDoor
open Go.RowKit Go.Shelf
set_option maxRecDepth 100000 in
theorem arr_105 (u:Array Value) (h:u.size=105):∃ u0 u1 u2 u3 u4 u5 u6 u7 u8 u9 u10 u11 u12 u13 u14 u15 u16 u17 u18 u19 u20 u21 u22 u23 u24 u25 u26 u27 u28 u29 u30 u31 u32 u33 u34 u35 u36 u37 u38 u39 u40 u41 u42 u43 u44 u45 u46 u47 u48 u49 u50 u51 u52 u53 u54 u55 u56 u57 u58 u59 u60 u61 u62 u63 u64 u65 u66 u67 u68 u69 u70 u71 u72 u73 u74 u75 u76 u77 u78 u79 u80 u81 u82 u83 u84 u85 u86 u87 u88 u89 u90 u91 u92 u93 u94 u95 u96 u97 u98 u99 u100 u101 u102 u103 u104,u=#[u0,u1,u2,u3,u4,u5,u6,u7,u8,u9,u10,u11,u12,u13,u14,u15,u16,u17,u18,u19,u20,u21,u22,u23,u24,u25,u26,u27,u28,u29,u30,u31,u32,u33,u34,u35,u36,u37,u38,u39,u40,u41,u42,u43,u44,u45,u46,u47,u48,u49,u50,u51,u52,u53,u54,u55,u56,u57,u58,u59,u60,u61,u62,u63,u64,u65,u66,u67,u68,u69,u70,u71,u72,u73,u74,u75,u76,u77,u78,u79,u80,u81,u82,u83,u84,u85,u86,u87,u88,u89,u90,u91,u92,u93,u94,u95,u96,u97,u98,u99,u100,u101,u102,u103,u104]:=by
 obtain ⟨l⟩:=u
 have h':l.length=105:=by simpa using h
 obtain ⟨u0,r0,rfl,h0⟩:=uncons h'
 obtain ⟨u1,r1,rfl,h1⟩:=uncons h0
 obtain ⟨u2,r2,rfl,h2⟩:=uncons h1
 obtain ⟨u3,r3,rfl,h3⟩:=uncons h2
 obtain ⟨u4,r4,rfl,h4⟩:=uncons h3
 obtain ⟨u5,r5,rfl,h5⟩:=uncons h4
 obtain ⟨u6,r6,rfl,h6⟩:=uncons h5
 obtain ⟨u7,r7,rfl,h7⟩:=uncons h6
 obtain ⟨u8,r8,rfl,h8⟩:=uncons h7
 obtain ⟨u9,r9,rfl,h9⟩:=uncons h8
 obtain ⟨u10,r10,rfl,h10⟩:=uncons h9
 obtain ⟨u11,r11,rfl,h11⟩:=uncons h10
 obtain ⟨u12,r12,rfl,h12⟩:=uncons h11
 obtain ⟨u13,r13,rfl,h13⟩:=uncons h12
 obtain ⟨u14,r14,rfl,h14⟩:=uncons h13
 obtain ⟨u15,r15,rfl,h15⟩:=uncons h14
 obtain ⟨u16,r16,rfl,h16⟩:=uncons h15
 obtain ⟨u17,r17,rfl,h17⟩:=uncons h16
 obtain ⟨u18,r18,rfl,h18⟩:=uncons h17
 obtain ⟨u19,r19,rfl,h19⟩:=uncons h18
 obtain ⟨u20,r20,rfl,h20⟩:=uncons h19
 obtain ⟨u21,r21,rfl,h21⟩:=uncons h20
 obtain ⟨u22,r22,rfl,h22⟩:=uncons h21
 obtain ⟨u23,r23,rfl,h23⟩:=uncons h22
 obtain ⟨u24,r24,rfl,h24⟩:=uncons h23
 obtain ⟨u25,r25,rfl,h25⟩:=uncons h24
 obtain ⟨u26,r26,rfl,h26⟩:=uncons h25
 obtain ⟨u27,r27,rfl,h27⟩:=uncons h26
 obtain ⟨u28,r28,rfl,h28⟩:=uncons h27
 obtain ⟨u29,r29,rfl,h29⟩:=uncons h28
 obtain ⟨u30,r30,rfl,h30⟩:=uncons h29
 obtain ⟨u31,r31,rfl,h31⟩:=uncons h30
 obtain ⟨u32,r32,rfl,h32⟩:=uncons h31
 obtain ⟨u33,r33,rfl,h33⟩:=uncons h32
 obtain ⟨u34,r34,rfl,h34⟩:=uncons h33
 obtain ⟨u35,r35,rfl,h35⟩:=uncons h34
 obtain ⟨u36,r36,rfl,h36⟩:=uncons h35
 obtain ⟨u37,r37,rfl,h37⟩:=uncons h36
 obtain ⟨u38,r38,rfl,h38⟩:=uncons h37
 obtain ⟨u39,r39,rfl,h39⟩:=uncons h38
 obtain ⟨u40,r40,rfl,h40⟩:=uncons h39
 obtain ⟨u41,r41,rfl,h41⟩:=uncons h40
 obtain ⟨u42,r42,rfl,h42⟩:=uncons h41
 obtain ⟨u43,r43,rfl,h43⟩:=uncons h42
 obtain ⟨u44,r44,rfl,h44⟩:=uncons h43
 obtain ⟨u45,r45,rfl,h45⟩:=uncons h44
 obtain ⟨u46,r46,rfl,h46⟩:=uncons h45
 obtain ⟨u47,r47,rfl,h47⟩:=uncons h46
 obtain ⟨u48,r48,rfl,h48⟩:=uncons h47
 obtain ⟨u49,r49,rfl,h49⟩:=uncons h48
 obtain ⟨u50,r50,rfl,h50⟩:=uncons h49
 obtain ⟨u51,r51,rfl,h51⟩:=uncons h50
 obtain ⟨u52,r52,rfl,h52⟩:=uncons h51
 obtain ⟨u53,r53,rfl,h53⟩:=uncons h52
 obtain ⟨u54,r54,rfl,h54⟩:=uncons h53
 obtain ⟨u55,r55,rfl,h55⟩:=uncons h54
 obtain ⟨u56,r56,rfl,h56⟩:=uncons h55
 obtain ⟨u57,r57,rfl,h57⟩:=uncons h56
 obtain ⟨u58,r58,rfl,h58⟩:=uncons h57
 obtain ⟨u59,r59,rfl,h59⟩:=uncons h58
 obtain ⟨u60,r60,rfl,h60⟩:=uncons h59
 obtain ⟨u61,r61,rfl,h61⟩:=uncons h60
 obtain ⟨u62,r62,rfl,h62⟩:=uncons h61
 obtain ⟨u63,r63,rfl,h63⟩:=uncons h62
 obtain ⟨u64,r64,rfl,h64⟩:=uncons h63
 obtain ⟨u65,r65,rfl,h65⟩:=uncons h64
 obtain ⟨u66,r66,rfl,h66⟩:=uncons h65
 obtain ⟨u67,r67,rfl,h67⟩:=uncons h66
 obtain ⟨u68,r68,rfl,h68⟩:=uncons h67
 obtain ⟨u69,r69,rfl,h69⟩:=uncons h68
 obtain ⟨u70,r70,rfl,h70⟩:=uncons h69
 obtain ⟨u71,r71,rfl,h71⟩:=uncons h70
 obtain ⟨u72,r72,rfl,h72⟩:=uncons h71
 obtain ⟨u73,r73,rfl,h73⟩:=uncons h72
 obtain ⟨u74,r74,rfl,h74⟩:=uncons h73
 obtain ⟨u75,r75,rfl,h75⟩:=uncons h74
 obtain ⟨u76,r76,rfl,h76⟩:=uncons h75
 obtain ⟨u77,r77,rfl,h77⟩:=uncons h76
 obtain ⟨u78,r78,rfl,h78⟩:=uncons h77
 obtain ⟨u79,r79,rfl,h79⟩:=uncons h78
 obtain ⟨u80,r80,rfl,h80⟩:=uncons h79
 obtain ⟨u81,r81,rfl,h81⟩:=uncons h80
 obtain ⟨u82,r82,rfl,h82⟩:=uncons h81
 obtain ⟨u83,r83,rfl,h83⟩:=uncons h82
 obtain ⟨u84,r84,rfl,h84⟩:=uncons h83
 obtain ⟨u85,r85,rfl,h85⟩:=uncons h84
 obtain ⟨u86,r86,rfl,h86⟩:=uncons h85
 obtain ⟨u87,r87,rfl,h87⟩:=uncons h86
 obtain ⟨u88,r88,rfl,h88⟩:=uncons h87
 obtain ⟨u89,r89,rfl,h89⟩:=uncons h88
 obtain ⟨u90,r90,rfl,h90⟩:=uncons h89
 obtain ⟨u91,r91,rfl,h91⟩:=uncons h90
 obtain ⟨u92,r92,rfl,h92⟩:=uncons h91
 obtain ⟨u93,r93,rfl,h93⟩:=uncons h92
 obtain ⟨u94,r94,rfl,h94⟩:=uncons h93
 obtain ⟨u95,r95,rfl,h95⟩:=uncons h94
 obtain ⟨u96,r96,rfl,h96⟩:=uncons h95
 obtain ⟨u97,r97,rfl,h97⟩:=uncons h96
 obtain ⟨u98,r98,rfl,h98⟩:=uncons h97
 obtain ⟨u99,r99,rfl,h99⟩:=uncons h98
 obtain ⟨u100,r100,rfl,h100⟩:=uncons h99
 obtain ⟨u101,r101,rfl,h101⟩:=uncons h100
 obtain ⟨u102,r102,rfl,h102⟩:=uncons h101
 obtain ⟨u103,r103,rfl,h103⟩:=uncons h102
 obtain ⟨u104,r104,rfl,h104⟩:=uncons h103
 obtain rfl:=List.length_eq_zero_iff.1 h104
 exact ⟨u0,u1,u2,u3,u4,u5,u6,u7,u8,u9,u10,u11,u12,u13,u14,u15,u16,u17,u18,u19,u20,u21,u22,u23,u24,u25,u26,u27,u28,u29,u30,u31,u32,u33,u34,u35,u36,u37,u38,u39,u40,u41,u42,u43,u44,u45,u46,u47,u48,u49,u50,u51,u52,u53,u54,u55,u56,u57,u58,u59,u60,u61,u62,u63,u64,u65,u66,u67,u68,u69,u70,u71,u72,u73,u74,u75,u76,u77,u78,u79,u80,u81,u82,u83,u84,u85,u86,u87,u88,u89,u90,u91,u92,u93,u94,u95,u96,u97,u98,u99,u100,u101,u102,u103,u104,rfl⟩

def TF (X:MX) (now0 line head j0:Nat) (D:List Tok) (lab now j:Nat) (v:Value) (wr:World):Prop:=
 (lab=0∨lab=1∨lab=2∨lab=3∨lab=4)∧MS X wr now now0 line head v D∧AT X.l now j∧j0≤j∧j < X.l.length∧bt X.l j < 128∧endF lab X.l j=tokC X.l j0∧(lab=3→j=j0∧now=now0∧bt X.l j=34)∧(lab≠3→kl X.l j0≠7)∧(lab=3→kl X.l j0=7)
def TJ (X:MX) (now0 line head j0:Nat) (D:List Tok) (lab:Nat) (a:Act) (wr:World):Prop:=
 ∃ (now j:Nat) (v:Value) (u:Array Value),a={ tmps:=u,defers:=[] }∧u.size=105∧u.getD 0 undef=.pointer (some ⟨X.b,0,none⟩)∧Hid (TF X now0 line head j0 D lab now j v wr)
theorem tokR_of_whole {X:MX} {now' now0 line head j0 kind e:Nat} {D:List Tok} {E:Ending} {w':World} (h1:AT X.l now' e) (h0:AT X.l now0 j0) (hk:tokC X.l j0=(kind,e)) (h7:kl X.l j0=7→quoE X.l j0=0) (h:wholeR X now' now0 line head D kind (subL X.l j0 e) E w'):tokR X now0 line head j0 D E w':=by
 have hE:tokE X.l j0=faultE kind (subL X.l j0 e):=by unfold tokE;rw [if_neg (fun x=>x.2 (h7 x.1)),hk]
 have hJ:tokJ X.l j0=if faultE kind (subL X.l j0 e)=0 then e else j0:=by unfold tokJ;rw [if_neg (fun x=>x.2 (h7 x.1)),hk]
 obtain ⟨rfl,v',m⟩:=h
 unfold tokR
 rw [hE,hJ,hk]
 refine ⟨rfl,(if faultE kind (subL X.l j0 e)=0 then now' else now0),v',?_,m⟩
 split
 ·exact h1
 ·exact h0
theorem tokR_of_quo {X:MX} {now0 line head j0 k:Nat} {D:List Tok} {w':World} {v':Value} (h1:AT X.l k (quoJ X.l j0)) (h7:kl X.l j0=7) (h0:quoE X.l j0≠0) (m:MS X w' k now0 line head v' D):tokR X now0 line head j0 D (.returned (.int .i64 (quoE X.l j0:Int))) w':=by
 have hE:tokE X.l j0=quoE X.l j0:=by unfold tokE;rw [if_pos ⟨h7,h0⟩]
 have hJ:tokJ X.l j0=quoJ X.l j0:=by unfold tokJ;rw [if_pos ⟨h7,h0⟩]
 unfold tokR
 rw [hE,hJ,if_neg h0]
 exact ⟨rfl,k,v',h1,m⟩
theorem results_tk (tmps:Array Value) (W:World):(results Tryz.f116 tmps).run Tryz.prog W=.ok (tmps.getD 2 undef) W:=by
 simp [results,go_sem]
theorem insS_ge (l:List UInt8):∀ (m j:Nat) (s:List UInt8),l.length - j≤m→j≤l.length→j≤(insS l j s).2.1:=by
 intro m
 induction m with
 | zero=>
  intro j s h hj
  rw [insS,if_neg (by omega)]
  exact hj
 | succ m ih=>
  intro j s h hj
  rw [insS]
  by_cases h1:j < l.length
  ·rw [if_pos h1]
   split
   ·exact Nat.le_succ _
   ·split
    ·split
     ·exact Nat.le_refl _
     ·rename_i hne
      have:=(escS_end l j (by omega)).1
      have:=ih (j+(escS l j).1) (s++(escS l j).2) (by omega) (by omega)
      omega
    ·split
     ·exact Nat.le_refl _
     ·have hp:=dc_pos l j
      have hl:=dc_le l j h1
      have:=ih (j+(dc l j).2) (s++(l.drop j).take (dc l j).2) (by omega) (by omega)
      omega
  ·rw [if_neg h1]
   exact hj
theorem quoE_lt (l:List UInt8) (j:Nat):quoE l j < 1000:=by
 have:=insS_e l _ (j+1) [] (Nat.le_refl _)
 unfold quoE
 repeat' split
 all_goals omega
end Go.Proofs.YtciffggmobblpaaGreatDoor
namespace Go.Proofs.YtciffggmobblpaaGreatDoor
open Go.RowKit Go.Shelf
set_option maxRecDepth 100000 in
theorem arr_67 (u:Array Value) (h:u.size=67):∃ u0 u1 u2 u3 u4 u5 u6 u7 u8 u9 u10 u11 u12 u13 u14 u15 u16 u17 u18 u19 u20 u21 u22 u23 u24 u25 u26 u27 u28 u29 u30 u31 u32 u33 u34 u35 u36 u37 u38 u39 u40 u41 u42 u43 u44 u45 u46 u47 u48 u49 u50 u51 u52 u53 u54 u55 u56 u57 u58 u59 u60 u61 u62 u63 u64 u65 u66,u=#[u0,u1,u2,u3,u4,u5,u6,u7,u8,u9,u10,u11,u12,u13,u14,u15,u16,u17,u18,u19,u20,u21,u22,u23,u24,u25,u26,u27,u28,u29,u30,u31,u32,u33,u34,u35,u36,u37,u38,u39,u40,u41,u42,u43,u44,u45,u46,u47,u48,u49,u50,u51,u52,u53,u54,u55,u56,u57,u58,u59,u60,u61,u62,u63,u64,u65,u66]:=by
 obtain ⟨l⟩:=u
 have h':l.length=67:=by simpa using h
 obtain ⟨u0,r0,rfl,h0⟩:=uncons h'
 obtain ⟨u1,r1,rfl,h1⟩:=uncons h0
 obtain ⟨u2,r2,rfl,h2⟩:=uncons h1
 obtain ⟨u3,r3,rfl,h3⟩:=uncons h2
 obtain ⟨u4,r4,rfl,h4⟩:=uncons h3
 obtain ⟨u5,r5,rfl,h5⟩:=uncons h4
 obtain ⟨u6,r6,rfl,h6⟩:=uncons h5
 obtain ⟨u7,r7,rfl,h7⟩:=uncons h6
 obtain ⟨u8,r8,rfl,h8⟩:=uncons h7
 obtain ⟨u9,r9,rfl,h9⟩:=uncons h8
 obtain ⟨u10,r10,rfl,h10⟩:=uncons h9
 obtain ⟨u11,r11,rfl,h11⟩:=uncons h10
 obtain ⟨u12,r12,rfl,h12⟩:=uncons h11
 obtain ⟨u13,r13,rfl,h13⟩:=uncons h12
 obtain ⟨u14,r14,rfl,h14⟩:=uncons h13
 obtain ⟨u15,r15,rfl,h15⟩:=uncons h14
 obtain ⟨u16,r16,rfl,h16⟩:=uncons h15
 obtain ⟨u17,r17,rfl,h17⟩:=uncons h16
 obtain ⟨u18,r18,rfl,h18⟩:=uncons h17
 obtain ⟨u19,r19,rfl,h19⟩:=uncons h18
 obtain ⟨u20,r20,rfl,h20⟩:=uncons h19
 obtain ⟨u21,r21,rfl,h21⟩:=uncons h20
 obtain ⟨u22,r22,rfl,h22⟩:=uncons h21
 obtain ⟨u23,r23,rfl,h23⟩:=uncons h22
 obtain ⟨u24,r24,rfl,h24⟩:=uncons h23
 obtain ⟨u25,r25,rfl,h25⟩:=uncons h24
 obtain ⟨u26,r26,rfl,h26⟩:=uncons h25
 obtain ⟨u27,r27,rfl,h27⟩:=uncons h26
 obtain ⟨u28,r28,rfl,h28⟩:=uncons h27
 obtain ⟨u29,r29,rfl,h29⟩:=uncons h28
 obtain ⟨u30,r30,rfl,h30⟩:=uncons h29
 obtain ⟨u31,r31,rfl,h31⟩:=uncons h30
 obtain ⟨u32,r32,rfl,h32⟩:=uncons h31
 obtain ⟨u33,r33,rfl,h33⟩:=uncons h32
 obtain ⟨u34,r34,rfl,h34⟩:=uncons h33
 obtain ⟨u35,r35,rfl,h35⟩:=uncons h34
 obtain ⟨u36,r36,rfl,h36⟩:=uncons h35
 obtain ⟨u37,r37,rfl,h37⟩:=uncons h36
 obtain ⟨u38,r38,rfl,h38⟩:=uncons h37
 obtain ⟨u39,r39,rfl,h39⟩:=uncons h38
 obtain ⟨u40,r40,rfl,h40⟩:=uncons h39
 obtain ⟨u41,r41,rfl,h41⟩:=uncons h40
 obtain ⟨u42,r42,rfl,h42⟩:=uncons h41
 obtain ⟨u43,r43,rfl,h43⟩:=uncons h42
 obtain ⟨u44,r44,rfl,h44⟩:=uncons h43
 obtain ⟨u45,r45,rfl,h45⟩:=uncons h44
 obtain ⟨u46,r46,rfl,h46⟩:=uncons h45
 obtain ⟨u47,r47,rfl,h47⟩:=uncons h46
 obtain ⟨u48,r48,rfl,h48⟩:=uncons h47
 obtain ⟨u49,r49,rfl,h49⟩:=uncons h48
 obtain ⟨u50,r50,rfl,h50⟩:=uncons h49
 obtain ⟨u51,r51,rfl,h51⟩:=uncons h50
 obtain ⟨u52,r52,rfl,h52⟩:=uncons h51
 obtain ⟨u53,r53,rfl,h53⟩:=uncons h52
 obtain ⟨u54,r54,rfl,h54⟩:=uncons h53
 obtain ⟨u55,r55,rfl,h55⟩:=uncons h54
 obtain ⟨u56,r56,rfl,h56⟩:=uncons h55
 obtain ⟨u57,r57,rfl,h57⟩:=uncons h56
 obtain ⟨u58,r58,rfl,h58⟩:=uncons h57
 obtain ⟨u59,r59,rfl,h59⟩:=uncons h58
 obtain ⟨u60,r60,rfl,h60⟩:=uncons h59
 obtain ⟨u61,r61,rfl,h61⟩:=uncons h60
 obtain ⟨u62,r62,rfl,h62⟩:=uncons h61
 obtain ⟨u63,r63,rfl,h63⟩:=uncons h62
 obtain ⟨u64,r64,rfl,h64⟩:=uncons h63
 obtain ⟨u65,r65,rfl,h65⟩:=uncons h64
 obtain ⟨u66,r66,rfl,h66⟩:=uncons h65
 obtain rfl:=List.length_eq_zero_iff.1 h66
 exact ⟨u0,u1,u2,u3,u4,u5,u6,u7,u8,u9,u10,u11,u12,u13,u14,u15,u16,u17,u18,u19,u20,u21,u22,u23,u24,u25,u26,u27,u28,u29,u30,u31,u32,u33,u34,u35,u36,u37,u38,u39,u40,u41,u42,u43,u44,u45,u46,u47,u48,u49,u50,u51,u52,u53,u54,u55,u56,u57,u58,u59,u60,u61,u62,u63,u64,u65,u66,rfl⟩

theorem insS_le (l:List UInt8):∀ (m j:Nat) (s:List UInt8),l.length - j≤m→j≤l.length→(insS l j s).2.1≤l.length:=by
 intro m
 induction m with
 | zero=>
  intro j s h hj
  rw [insS,if_neg (by omega)]
  exact Nat.le_refl _
 | succ m ih=>
  intro j s h hj
  rw [insS]
  by_cases h1:j < l.length
  ·rw [if_pos h1]
   split
   ·exact h1
   ·split
    ·split
     ·exact hj
     ·have:=(escS_end l j (by omega)).1
      exact ih (j+(escS l j).1) (s++(escS l j).2) (by omega) (by omega)
    ·split
     ·exact hj
     ·have hp:=dc_pos l j
      have hl:=dc_le l j h1
      exact ih (j+(dc l j).2) (s++(l.drop j).take (dc l j).2) (by omega) (by omega)
  ·rw [if_neg h1]
   exact Nat.le_refl _
theorem tok_ge {l:List UInt8} {j:Nat} (hj:j < l.length) (he:tokE l j≠0):j≤tokJ l j∧tokJ l j≤l.length:=by
 have hj1:j+1≤l.length:=hj
 unfold tokE at he
 unfold tokJ
 split
 ·have hg:=insS_ge l _ (j+1) [] (Nat.le_refl _) hj1
  have hle:=insS_le l _ (j+1) [] (Nat.le_refl _) hj1
  unfold quoJ
  split
  ·omega
  ·omega
 ·rename_i h7
  rw [if_neg h7] at he
  rw [if_neg he]
  omega
theorem tok_adv {l:List UInt8} {j:Nat} (hj:j < l.length) (_:kl l j≠1) (he:tokE l j=0):j < tokJ l j∧tokJ l j≤l.length:=by
 have hj1:j+1≤l.length:=hj
 have wr:=wrun_ge l _ (j+1) (Nat.le_refl _)
 have nr:=nrun_ge l _ (j+1) (Nat.le_refl _)
 have wr2:=wrun_ge l _ (wrun l (j+1)+1) (Nat.le_refl _)
 have hw1:=wr.2 hj1
 have hn1:=nr.2 hj1
 by_cases h7:kl l j=7∧quoE l j≠0
 ·unfold tokE at he
  rw [if_pos h7] at he
  exact absurd he h7.2
 ·unfold tokE at he
  rw [if_neg h7] at he
  unfold tokJ
  rw [if_neg h7,if_pos he]
  unfold tokC at he ⊢
  split
  ·show j < (endF 0 l j).2∧(endF 0 l j).2≤l.length
   show j < (if dotA l (wrun l (j+1)) 3=true then ((3:Nat),wrun l (wrun l (j+1)+1)) else (2,wrun l (j+1))).2∧(if dotA l (wrun l (j+1)) 3=true then ((3:Nat),wrun l (wrun l (j+1)+1)) else (2,wrun l (j+1))).2≤l.length
   split
   ·rename_i hd
    have:=(dotA_asc hd).1
    have:=wr2.2 (by omega)
    exact ⟨by simp only;omega,by simp only;omega⟩
   ·exact ⟨by simp only;omega,by simp only;omega⟩
  ·split
   ·show j < nrun l (j+1)∧nrun l (j+1)≤l.length
    omega
   ·split
    ·show j < wrun l (j+1)∧wrun l (j+1)≤l.length
     omega
    ·split
     ·rename_i hk
      have hq:quoE l j=0:=Classical.byContradiction (fun h=>h7 ⟨hk,h⟩)
      show j < quoJ l j∧quoJ l j≤l.length
      have hg:=insS_ge l _ (j+1) [] (Nat.le_refl _) hj1
      have hle:=insS_le l _ (j+1) [] (Nat.le_refl _) hj1
      unfold quoJ
      unfold quoE at hq
      split
      ·rename_i hc
       rw [if_neg (by rw [hc.1];simp),if_pos hc] at hq
       cases hq
      ·omega
     ·rename_i k3 k4 k6 k7
      rw [if_neg k3,if_neg k4,if_neg k6,if_neg k7] at he
      obtain ⟨hs1,_⟩:=sgn_pre (l.drop j)
      rw [List.length_drop] at hs1
      have hne:subL l j (j+sgn (l.drop j))≠[]:=fun e=>by
       unfold faultE at he
       simp only [e] at he
       revert he
       decide
      have:0 < sgn (l.drop j):=by
       refine Nat.pos_of_ne_zero (fun e=>hne ?_)
       unfold subL
       rw [e]
       simp
      show j < j+sgn (l.drop j)∧j+sgn (l.drop j)≤l.length
      omega

def RunR (X:MX) (R:Res) (e:Ending) (w':World):Prop:=
 e=.returned (.int .i64 (R.2.1:Int))∧∃ now fst line head v D,MS X w' now fst line head v D∧head≤now∧now≤16384∧(R.2.1=0→R=(D,0,0,0))∧(R.2.1≠0→R=([],R.2.1,line,now - head+1))
def RF (X:MX) (R:Res) (lab now j fst line head hb:Nat) (v:Value) (D:List Tok) (wr:World):Prop:=
 (lab=0∨lab=1∨lab=2)∧MS X wr now fst line head v D∧AT X.l now j∧AT X.l head hb∧head≤now∧j≤X.l.length∧D.length≤2*now∧line≤now+1∧
 (lab=0→∃ f,X.l.length - j < f∧runM f X.l j line hb D=R)∧
 (lab=1→j < X.l.length∧kl X.l j≠1∧∃ f,X.l.length - j≤f∧lendM f X.l (cend X.l (j+(dc X.l j).2)) line hb D=R)∧
 (lab=2→(kl X.l j=1∨kl X.l j=0)∧∃ f,X.l.length - j≤f∧lendM f X.l j line hb D=R)
def RJ (X:MX) (R:Res) (lab:Nat) (a:Act) (wr:World):Prop:=
 ∃ (now j fst line head hb:Nat) (v:Value) (D:List Tok) (u:Array Value),a={ tmps:=u,defers:=[] }∧u.size=67∧u.getD 0 undef=.pointer (some ⟨X.b,0,none⟩)∧Hid (RF X R lab now j fst line head hb v D wr)
def rM (X:MX) (lab:Nat) (wr:World):Nat:=3*mNow X wr+(if lab=0 then 2 else if lab=1 then 1 else 0)
theorem results_rn (tmps:Array Value) (W:World):(results Tryz.f104 tmps).run Tryz.prog W=.ok (tmps.getD 2 undef) W:=by
 simp [results,go_sem]
theorem use_pass2 {P:Program} {a:Act} {w:World} {Q:Exit→Act→World→Prop} {c X:Code} {J:Nat→Act→World→Prop} {m:Nat→Act→World→Nat} {l K0 K1:Nat} (h:∃ Y,findLabel c l=some (.seq .skip Y)∧Y.wp P (jumpN (fun l' a' w'=>J l' a' w'∧m l' a' w' < K0) Q) a w) (hf:findLabel c l=some (.seq .skip X)) (hK:K0≤K1):X.wp P (jumpN (fun l' a' w'=>J l' a' w'∧m l' a' w' < K1) Q) a w:=by
 obtain ⟨Y,hY,hr⟩:=h
 have e:=Option.some.inj (hf.symm.trans hY)
 injection e with _ e
 rw [e]
 refine wp_mono hr ?_
 intro e a' w' hq
 cases e with
 | goto l'=>exact ⟨hq.1,Nat.lt_of_lt_of_le hq.2 hK⟩
 | normal=>exact hq
 | exit id=>exact hq
 | ret=>exact hq
 | panic ch=>exact hq
 | outgrown=>exact hq
end Go.Proofs.YtciffggmobblpaaGreatDoor
namespace Go.Proofs.YtciffggmobblpaaGreatDoor
open Go.RowKit
end Go.Proofs.YtciffggmobblpaaGreatDoor
namespace Go.Proofs.YtciffggmobblpaaGreatDoor
open Go.RowKit Go.Shelf
section
variable {P a S:List UInt8}
end
end Go.Proofs.YtciffggmobblpaaGreatDoor
namespace Go.Proofs.YtciffggmobblpaaGreatDoor
open Go.RowKit Go.Shelf
section
variable {P a S:List UInt8}
end
end Go.Proofs.YtciffggmobblpaaGreatDoor
namespace Go.Proofs.YtciffggmobblpaaGreatDoor
open Go.RowKit Go.Shelf
section
variable {P a S:List UInt8}
end
end Go.Proofs.YtciffggmobblpaaGreatDoor
namespace Go.Proofs.YtciffggmobblpaaGreatDoor
open Go.RowKit Go.Shelf
def RE (l:List UInt8) (j:Nat):Prop:=∃ k,AT l k j
section
variable {P a S:List UInt8}
end
end Go.Proofs.YtciffggmobblpaaGreatDoor
namespace Go.Proofs.YtciffggmobblpaaGreatDoor
open Go.RowKit Go.Shelf
section
variable {P a S:List UInt8}
end
end Go.Proofs.YtciffggmobblpaaGreatDoor
namespace Go.Proofs.YtciffggmobblpaaGreatDoor
open Go.RowKit Go.Shelf
theorem cend_ge {l:List UInt8}:∀ (m j:Nat),l.length - j≤m→j≤cend l j
 | m,j,hm=>by
  by_cases hk:kl l j=1∨kl l j=0
  ·rw [cend_end hk];exact Nat.le_refl _
  ·have h1:kl l j≠1:=fun e=>hk (.inl e)
   have h0:kl l j≠0:=fun e=>hk (.inr e)
   have hj:j < l.length:=Classical.byContradiction (fun e=>h0 (kl0.2 e))
   have hp:=dc_pos l j
   match m,hm with
   | 0,hm=>omega
   | m+1,hm=>
    rw [cend_on h1 h0]
    have:=cend_ge (l:=l) m (j+(dc l j).2) (by omega)
    omega
end Go.Proofs.YtciffggmobblpaaGreatDoor
namespace Go.Proofs.YtciffggmobblpaaGreatDoor
open Go.RowKit Go.Shelf
theorem sub_get {l:List UInt8} {i j k:Nat} {c:UInt8} (h:(subL l i j)[k]?=some c):l[i+k]?=some c∧i+k < j:=by
 unfold subL at h
 rw [List.getElem?_take] at h
 split at h
 ·rw [List.getElem?_drop] at h
  exact ⟨h,by omega⟩
 ·cases h
theorem tok_same {l:List UInt8} {j:Nat} (he:tokE l j=0):tokJ l j=(tokC l j).2:=by
 by_cases h7:kl l j=7∧quoE l j≠0
 ·unfold tokE at he
  rw [if_pos h7] at he
  exact absurd he h7.2
 ·unfold tokE at he
  rw [if_neg h7] at he
  unfold tokJ
  rw [if_neg h7,if_pos he]
theorem cls_high (r:Int) (h2:r≠-2) (h:¬(0≤r∧r < 128)):cls r=9:=by
 unfold cls
 rw [if_neg (by omega),if_neg (by omega),if_neg (by omega),if_neg (by omega),if_neg (by omega),if_neg (by omega),if_neg (by omega),if_neg (by omega),if_neg (by omega),if_neg (by omega),if_neg (by omega)]
theorem kl_bt {l:List UInt8} {i:Nat} (h:i < l.length):kl l i=cls (bt l i:Int):=by
 unfold kl
 by_cases hb:bt l i < 128
 ·rw [(chr_asc l i (bt l i) hb).2 ⟨h,rfl⟩]
 ·have hn:∀ x:Nat,x < 128→chr l i≠(x:Int):=fun x hx e=>hb (by rw [((chr_asc l i x hx).1 e).2];exact hx)
  have h2:chr l i≠-2:=by unfold chr;rw [if_pos h];split <;> omega
  rw [cls_high _ h2 (fun hh=>hn (chr l i).toNat (by omega) (by omega)),cls_high _ (by omega) (by omega)]
def letX (x:Nat):Bool:=decide ((65≤x∧x≤90)∨(97≤x∧x≤122)∨x=95)
def digX (x:Nat):Bool:=decide (48≤x∧x≤57)
def blaX (x:Nat):Bool:=decide (x=32∨x=9∨x=13)
theorem cls_tab:∀ x:Fin 256,letX x.val=decide (cls (x.val:Int)=3)∧digX x.val=decide (cls (x.val:Int)=4)∧blaX x.val=decide (cls (x.val:Int)=2)∧(cls (x.val:Int)=8→x.val=35):=by decide +kernel
theorem letX_cls {x:Nat} (h:x < 256):letX x=decide (cls (x:Int)=3):=(cls_tab ⟨x,h⟩).1
theorem digX_cls {x:Nat} (h:x < 256):digX x=decide (cls (x:Int)=4):=(cls_tab ⟨x,h⟩).2.1
end Go.Proofs.YtciffggmobblpaaGreatDoor
namespace Go.Proofs
open Go.Shelf
def Tryz.l160_ren:Go.Shelf.Ren:=⟨fun | 160=>100 | 232=>107 | 231=>106 | 227=>108 | 234=>110 | 233=>109 | 236=>112 | 235=>111 | 228=>118 | 271=>121 | 151=>120 | 197=>119 | 120=>132 | 152=>131 | 260=>130 | 137=>135 | 119=>136 | 224=>137 | 225=>138 | 217=>144 | 266=>149 | n=>n,fun | 9=>9 | 4=>4 | 3=>3 | 5=>5 | 117=>155 | 116=>154 | 0=>0 | 124=>158 | 21=>21 | 105=>164 | 46=>179 | 119=>178 | 139=>182 | 138=>181 | n=>n,fun | 3=>1 | 4=>2 | n=>n⟩
theorem Tryz.l160:Go.Proofs.Lays.n160 Tryz.prog Tryz.l160_ren:={
 mixed:=by kernel_rfl
 f119:=Tryz.func136.trans (congrArg some (by kernel_rfl))
 f120:=Tryz.func132.trans (congrArg some (by kernel_rfl))
 f137:=Tryz.func135.trans (congrArg some (by kernel_rfl))
 f151:=Tryz.func120.trans (congrArg some (by kernel_rfl))
 f152:=Tryz.func131.trans (congrArg some (by kernel_rfl))
 f160:=Tryz.func100.trans (congrArg some (by kernel_rfl))
 f197:=Tryz.func119.trans (congrArg some (by kernel_rfl))
 f217:=Tryz.func144.trans (congrArg some (by kernel_rfl))
 f224:=Tryz.func137.trans (congrArg some (by kernel_rfl))
 f225:=Tryz.func138.trans (congrArg some (by kernel_rfl))
 f227:=Tryz.func108.trans (congrArg some (by kernel_rfl))
 f228:=Tryz.func118.trans (congrArg some (by kernel_rfl))
 f231:=Tryz.func106.trans (congrArg some (by kernel_rfl))
 f232:=Tryz.func107.trans (congrArg some (by kernel_rfl))
 f233:=Tryz.func109.trans (congrArg some (by kernel_rfl))
 f234:=Tryz.func110.trans (congrArg some (by kernel_rfl))
 f235:=Tryz.func111.trans (congrArg some (by kernel_rfl))
 f236:=Tryz.func112.trans (congrArg some (by kernel_rfl))
 f260:=Tryz.func130.trans (congrArg some (by kernel_rfl))
 f266:=Tryz.func149.trans (congrArg some (by kernel_rfl))
 f271:=Tryz.func121.trans (congrArg some (by kernel_rfl))
 t0:=Tryz.underlying0
 a0:=Tryz.isAgg0
 z0:=Tryz.sizeOf0
 v0:=Tryz.zeroValue0
 t3:=Tryz.underlying3
 a3:=Tryz.isAgg3
 z3:=Tryz.sizeOf3
 v3:=Tryz.zeroValue3
 t4:=Tryz.underlying4
 a4:=Tryz.isAgg4
 z4:=Tryz.sizeOf4
 v4:=Tryz.zeroValue4
 t5:=Tryz.underlying5
 a5:=Tryz.isAgg5
 z5:=Tryz.sizeOf5
 v5:=Tryz.zeroValue5
 t9:=Tryz.underlying9
 a9:=Tryz.isAgg9
 z9:=Tryz.sizeOf9
 v9:=Tryz.zeroValue9
 t21:=Tryz.underlying21
 a21:=Tryz.isAgg21
 z21:=Tryz.sizeOf21
 v21:=Tryz.zeroValue21
 t46:=Tryz.underlying179
 a46:=Tryz.isAgg179
 z46:=Tryz.sizeOf179
 v46:=Tryz.zeroValue179
 t105:=Tryz.underlying164
 a105:=Tryz.isAgg164
 z105:=Tryz.sizeOf164
 v105:=Tryz.zeroValue164
 t116:=Tryz.underlying154
 a116:=Tryz.isAgg154
 z116:=Tryz.sizeOf154
 t117:=Tryz.underlying155
 a117:=Tryz.isAgg155
 z117:=Tryz.sizeOf155
 v117:=Tryz.zeroValue155
 t119:=Tryz.underlying178
 a119:=Tryz.isAgg178
 z119:=Tryz.sizeOf178
 t124:=Tryz.underlying158
 a124:=Tryz.isAgg158
 z124:=Tryz.sizeOf158
 v124:=Tryz.zeroValue158
 t138:=Tryz.underlying181
 a138:=Tryz.isAgg181
 z138:=Tryz.sizeOf181
 v138:=Tryz.zeroValue181
 t139:=Tryz.underlying182
 a139:=Tryz.isAgg182
 z139:=Tryz.sizeOf182
 v139:=Tryz.zeroValue182
 g3:=by kernel_rfl
 g4:=by kernel_rfl }
end Go.Proofs
namespace Go.Proofs.YtciffggmobblpaaGreatDoor
open Go.RowKit Go.Shelf
theorem res_fault (tmps:Array Value) (W:World) (b:Nat) (x:Int) {m:Nat×Nat} (hp:tmps.getD 4 undef=.pointer (some ⟨b,0,none⟩)) (h:W.heap[b]?=some (.cells #[.int .i64 x] 30 m)) :
  (results Tryz.f133 tmps).run Tryz.prog W=.ok (.int .i64 x) W:=by
 have hc:∀ j,W.cell? ⟨b,j,none⟩=(#[.int .i64 x]:Array Value)[j]?:=by
  intro j;unfold World.cell?;rw [h];simp
 have hp':tmps[4]?.getD undef=.pointer (some ⟨b,0,none⟩):=by simpa using hp
 simp [results,hp',go_sem,hc]
set_option maxRecDepth 100000 in
set_option maxHeartbeats 1000000 in
theorem fault6 (t:List UInt8) (w:World):Calls Tryz.prog 133 #[.int .i64 6,.string ⟨t.toArray⟩] w fun e w'=>e=.returned (.int .i64 0)∧Below w.heap.size w w':=by
 go_enter Tryz.func133,Tryz.ntmps133
 go_wp2_with fail
 exact bodyPost_ret (res_fault _ _ w.heap.size 0 rfl (alloc_get _ _)) rfl ⟨rfl,(Below.refl _ _).alloc (Nat.le_refl _) _⟩
set_option maxRecDepth 100000 in
set_option maxHeartbeats 1000000 in
theorem fault7 (t:List UInt8) (w:World):Calls Tryz.prog 133 #[.int .i64 7,.string ⟨t.toArray⟩] w fun e w'=>e=.returned (.int .i64 (if t=[] then 30 else 0:Nat))∧Below w.heap.size w w':=by
 cases t with
 | nil=>
  go_enter Tryz.func133,Tryz.ntmps133
  go_wp2_with fail
  exact bodyPost_ret (res_fault _ _ w.heap.size 30 rfl (alloc_get _ _)) rfl ⟨rfl,(Below.refl _ _).alloc (Nat.le_refl _) _⟩
 | cons c t=>
  go_enter Tryz.func133,Tryz.ntmps133
  go_wp2_with fail
  exact bodyPost_ret (res_fault _ _ w.heap.size 0 rfl (alloc_get _ _)) rfl ⟨rfl,(Below.refl _ _).alloc (Nat.le_refl _) _⟩
theorem valE_nat (t:List UInt8):valE t=((valE t).toNat:Int):=by
 unfold valE
 repeat' split
 all_goals rfl
set_option maxRecDepth 100000 in
set_option maxHeartbeats 1000000 in
theorem fault4 (t:List UInt8) (w:World) (ht:t.length≤16384) (hv:VW w):Calls Tryz.prog 133 #[.int .i64 4,.string ⟨t.toArray⟩] w fun e w'=>e=.returned (.int .i64 ((valE t).toNat:Int))∧Below w.heap.size w w':=by
 have HV:=value_any t (w.alloc (.cells #[.int .i64 0] 30)) (by omega) (hv.below ((Below.refl _ _).alloc (Nat.le_refl _) _))
 rw [←valE_nat t]
 obtain ⟨x,hx⟩:∃ x,valV t=x:=⟨_,rfl⟩
 obtain ⟨y,hy⟩:∃ y,valE t=y:=⟨_,rfl⟩
 rw [hx,hy] at HV
 rw [hy]
 clear hx hy hv
 go_enter Tryz.func133,Tryz.ntmps133
 go_wp2_with fail
 refine HV.mono ?_
 rintro e w1 ⟨rfl,hb⟩
 have k0:=keepblk hb (alloc_get w (.cells #[.int .i64 0] 30))
 have c0:=cell_of k0
 have f0:=froz_of k0
 go_wp2_with fail
 refine bodyPost_ret (res_fault _ _ w.heap.size y rfl (set_one _ k0)) rfl ⟨rfl,(bel1 hb).setCell (p:=⟨w.heap.size,0,none⟩) (Nat.le_refl _) _⟩
theorem dropW_nil {α:Type} (p:α→Bool):∀ l:List α,l.dropWhile p=[]↔∀ x∈l,p x=true
 | []=>by simp
 | a :: l=>by
  rw [List.dropWhile_cons]
  cases h:p a with
  | true=>
   simp only [if_true]
   rw [dropW_nil p l]
   simp [h]
  | false=>
   simp [h]
theorem trim_nil (l:List UInt8):Lib.trimS l [48,49,120]=[]↔l.all is01x=true:=by
 have hc:∀ b:UInt8,([48,49,120]:List UInt8).contains b=is01x b:=fun b=>by
  unfold is01x
  simp [List.contains,List.elem]
  cases b==48 <;> cases b==49 <;> cases b==120 <;> rfl
 have hr:Lib.trimRightS l [48,49,120]=[]↔∀ x∈l,is01x x=true:=by
  unfold Lib.trimRightS
  rw [List.reverse_eq_nil_iff,dropW_nil]
  simp only [List.mem_reverse,hc]
 have hpre:∀ x,x∈Lib.trimRightS l [48,49,120]→x∈l:=fun x hx=>by
  unfold Lib.trimRightS at hx
  rw [List.mem_reverse] at hx
  exact List.mem_reverse.1 ((List.dropWhile_sublist _).subset hx)
 rw [List.all_eq_true]
 unfold Lib.trimS Lib.trimLeftS
 rw [dropW_nil]
 simp only [hc]
 constructor
 ·intro h
  refine hr.1 (Classical.byContradiction (fun hne=>?_))
  have hlast:=List.getLast_mem hne
  have h1:=h _ hlast
  have h2:is01x ((Lib.trimRightS l [48,49,120]).getLast hne)=false:=by
   have hd:l.reverse.dropWhile (([48,49,120]:List UInt8).contains ·)≠[]:=fun e=>hne (by unfold Lib.trimRightS;rw [e];rfl)
   have hh:=List.head_dropWhile_not (([48,49,120]:List UInt8).contains ·) hd
   have he:(Lib.trimRightS l [48,49,120]).getLast hne=(l.reverse.dropWhile (([48,49,120]:List UInt8).contains ·)).head hd:=by
    simp only [Lib.trimRightS,List.getLast_reverse]
   rw [he,←hc]
   simpa using hh
  rw [h1] at h2
  cases h2
 ·intro h x hx
  exact h x (hpre x hx)
theorem trim_any (r:List UInt8) (w:World) (hr:r.length≤16384):Calls Tryz.prog 100 #[.string ⟨r.toArray⟩,.string ⟨#[48,49,120]⟩] w fun e w'=>e=.returned (.string ⟨(Lib.trimS r [48,49,120]).toArray⟩)∧Below w.heap.size w w':=
 Any.strings_Trim_ascii Tryz.l160 (by intro w;kernel_rfl) (by kernel_rfl) ⟨r.toArray⟩ ⟨#[48,49,120]⟩ w (by simp [ByteArray.size];omega) (by decide) (fun j b h=>by
  have:b∈([48,49,120]:List UInt8):=List.mem_of_getElem? h
  clear h
  revert b
  decide)
set_option maxRecDepth 100000 in
set_option maxHeartbeats 1000000 in
theorem fault5 (c:UInt8) (d:List UInt8) (w:World) (hd:d.length≤16383):Calls Tryz.prog 133 #[.int .i64 5,.string ⟨(c :: d).toArray⟩] w fun e w'=>e=.returned (.int .i64 (if d=[]∨32 < d.length∨d.all is01x=false then 44 else 0:Nat))∧Below w.heap.size w w':=by
 have hE:(ByteArray.mk (c :: d).toArray).extract 1 (d.length+1)=⟨d.toArray⟩:=by
  have:=ext_drop (c :: d) 1
  simpa using this
 have q1:(1:Int)≤(d.length:Int)+1:=by omega
 have q2:(0:Int)≤(d.length:Int):=by omega
 have HT:Hid (∀ W,Calls Tryz.prog 100 #[.string ⟨d.toArray⟩,.string ⟨#[48,49,120]⟩] W fun e w'=>e=.returned (.string ⟨(Lib.trimS d [48,49,120]).toArray⟩)∧Below W.heap.size W w'):=fun W=>trim_any d W (by omega)
 have hn:=trim_nil d
 by_cases d0:d=[]
 ·have HR:Hid ((if d=[]∨32 < d.length∨d.all is01x=false then 44 else 0:Nat)=44):=if_pos (.inl d0)
  rw [HR.out]
  subst d0
  clear hn
  go_enter Tryz.func133,Tryz.ntmps133
  go_wp2_with fail
  exact bodyPost_ret (res_fault _ _ w.heap.size 44 rfl (alloc_get _ _)) rfl ⟨rfl,(Below.refl _ _).alloc (Nat.le_refl _) _⟩
 ·have hem:d.isEmpty=false:=by cases d with
   | nil=>exact absurd rfl d0
   | cons _ _=>rfl
  by_cases d32:32 < d.length
  ·have HR:Hid ((if d=[]∨32 < d.length∨d.all is01x=false then 44 else 0:Nat)=44):=if_pos (.inr (.inl d32))
   rw [HR.out]
   have i32:(32:Int) < (d.length:Int):=by omega
   clear hn
   go_enter Tryz.func133,Tryz.ntmps133
   go_wp2_with fail
   exact bodyPost_ret (res_fault _ _ w.heap.size 44 rfl (alloc_get _ _)) rfl ⟨rfl,(Below.refl _ _).alloc (Nat.le_refl _) _⟩
  ·have i32:¬(32:Int) < (d.length:Int):=by omega
   obtain ⟨T,hT⟩:∃ T,Lib.trimS d [48,49,120]=T:=⟨_,rfl⟩
   rw [hT] at HT hn
   cases ha:d.all is01x with
   | true=>
    have HR:Hid ((if d=[]∨32 < d.length∨true=false then 44 else 0:Nat)=0):=if_neg (by simp [d0];omega)
    rw [HR.out]
    obtain rfl:=hn.2 ha
    clear hn hT ha
    go_enter Tryz.func133,Tryz.ntmps133
    go_wp2_with fail
    refine (HT.out _).mono ?_
    rintro e w1 ⟨rfl,hb⟩
    have k0:=keepblk hb (alloc_get w (.cells #[.int .i64 0] 30))
    have c0:=cell_of k0
    have f0:=froz_of k0
    go_wp2_with fail
    exact bodyPost_ret (res_fault _ _ w.heap.size 0 rfl (set_one _ k0)) rfl ⟨rfl,(bel1 hb).setCell (p:=⟨w.heap.size,0,none⟩) (Nat.le_refl _) _⟩
   | false=>
    have HR:Hid ((if d=[]∨32 < d.length∨false=false then 44 else 0:Nat)=44):=if_pos (.inr (.inr rfl))
    rw [HR.out]
    have hT0:T≠[]:=fun e=>by
     have:=hn.1 e
     rw [ha] at this
     cases this
    have hTe:T.isEmpty=false:=by cases T with
     | nil=>exact absurd rfl hT0
     | cons _ _=>rfl
    clear hn hT ha
    go_enter Tryz.func133,Tryz.ntmps133
    go_wp2_with fail
    refine (HT.out _).mono ?_
    rintro e w1 ⟨rfl,hb⟩
    have k0:=keepblk hb (alloc_get w (.cells #[.int .i64 0] 30))
    have c0:=cell_of k0
    have f0:=froz_of k0
    go_wp2_with fail
    exact bodyPost_ret (res_fault _ _ w.heap.size 44 rfl (set_one _ k0)) rfl ⟨rfl,(bel1 hb).setCell (p:=⟨w.heap.size,0,none⟩) (Nat.le_refl _) _⟩
end Go.Proofs.YtciffggmobblpaaGreatDoor
