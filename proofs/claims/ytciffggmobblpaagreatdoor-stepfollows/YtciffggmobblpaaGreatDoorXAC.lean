import Derived.Test.YtciffggmobblpaaGreatDoorXAB
import Derived.Test.YtciffggmobblpaaGreatDoorXAA
import Derived.Scope
import Derived.WalkMore
import Derived.OneCell
import Derived.Laws.Rows
namespace Go.Proofs.YtciffggmobblpaaGreatDoor
open Go.RowKit Go.Shelf
theorem info_u8:(Tryz.prog.info? 5).map (fun i=>(i.zero,i.size,i.bytes))=some (some (.int .u8 0),1,1):=by kernel_rfl
theorem appendRune_any (B:Nat) (v:Value) (n:Nat) (xs:List Value) (r:Int) (w:World) (hr0:-2147483648≤r) (hr1:r≤2147483647) (hown:w.ownsRow B 5 1 v n xs) (hlen:n+4≤140737488355328) (hBw:B≤w.heap.size) :
  Calls Tryz.prog 142 #[v,.int .i32 r] w fun e w'=>∃ v',e=.returned v'∧w'.ownsRow B 5 1 v' (n+(Lib.runeCells r).length) (xs++Lib.runeCells r)∧Below B w w':=by
 refine (Any.utf8_AppendRune_plain Tryz.l242 info_u8 B v n xs r hr0 hr1 w hown hlen hBw).mono ?_
 rintro e w' ⟨v',rfl,ho,o,hg⟩
 exact ⟨v',rfl,ho,((Below.refl _ _).alloc hBw _).grown hg (by simp;omega) (fun k e=>(hown.lt k e).1)⟩
theorem validRune_any (r:Int) (w:World):Calls Tryz.prog 136 #[.int .i32 r] w fun e w'=>e=.returned (.bool (Lib.validRune r))∧w'=w:=Any.utf8_ValidRune Tryz.l119 r w
set_option maxRecDepth 100000 in
set_option maxHeartbeats 1000000 in
theorem esc_u (l:List UInt8) (i:Nat) (ad:Addr) (cap:Nat) (w:World) (_hs:l.length≤16384) (hi:i+1 < l.length) (b0:bt l i=92) (b1:bt l (i+1)=117) (hcap0:(chars l i).length≤cap) (hC0:CH w ad (chars l i)) :
  Calls Tryz.prog 143 #[.slice (some ad) (chars l i).length cap] w fun e w'=>escR w (escS l i).1 (escS l i).2 e w':=by
 have hc0:chars l i=(92,i) :: (117,i+1) :: chars l (i+2):=by
  rw [chars_asc (by omega) (by omega),b0,chars_asc hi (by omega),b1];rfl
 have hE:escS l i=if 0 < (brS l i).1 then ((brS l i).1,utfL (brS l i).2) else (0,[]):=by
  unfold escS
  rw [if_neg (by omega),if_neg (by omega),if_neg (by omega),if_neg (by omega),if_neg (by omega),if_neg (by omega),if_neg (by omega),if_pos b1]
 have h1:=(hC0 1 (117,i+1) (by rw [hc0];rfl)).1
 have h1':w.cell? ⟨ad.block,ad.off+2,none⟩=some (.int .i32 117):=by simpa [Addr.add] using h1
 obtain ⟨r2,hr2⟩:=chars_head l (i+2)
 have h2:=(hC0 2 _ (by rw [hc0,hr2];rfl)).1
 have h2':w.cell? ⟨ad.block,ad.off+4,none⟩=some (.int .i32 (chr l (i+2))):=by simpa [Addr.add] using h2
 have hlm:=chars_len l _ i (Nat.le_refl _)
 by_cases g2:i+2 < l.length∧bt l (i+2)=123
 ·obtain ⟨g2a,g2b⟩:=g2
  have hc3:chars l (i+2)=(123,i+2) :: chars l (i+3):=by rw [chars_asc g2a (by omega),g2b];rfl
  have e2:chr l (i+2)=123:=(chr_asc l (i+2) 123 (by decide)).2 ⟨g2a,g2b⟩
  rw [e2] at h2'
  have hc03:chars l i=(92,i) :: (117,i+1) :: (123,i+2) :: chars l (i+3):=by rw [hc0,hc3]
  have hC3:=hC0.drop 3
  rw [hc03] at hC3
  simp only [List.drop_succ_cons,List.drop_zero] at hC3
  have hadd:ad.add (3*2)=⟨ad.block,ad.off+6,none⟩:=by simp [Addr.add]
  rw [hadd] at hC3
  have HX:=hexAt_any (chars l (i+3)) ⟨ad.block,ad.off+6,none⟩ (cap - 3) 6 w (by decide) hC3 (chars_range l _ (i+3) (Nat.le_refl _)) (chars_no l _ (i+3) (Nat.le_refl _))
  rw [hexC_chars] at HX
  have hlen:(chars l i).length=(chars l (i+3)).length+3:=by rw [hc03];rfl
  have hbr:brS l i=if (hexRun 6 (l.drop (i+3)) 0).1=0∨l.length≤i+3+(hexRun 6 (l.drop (i+3)) 0).1∨bt l (i+3+(hexRun 6 (l.drop (i+3)) 0).1)≠125∨1114111 < (hexRun 6 (l.drop (i+3)) 0).2∨(55296≤(hexRun 6 (l.drop (i+3)) 0).2∧(hexRun 6 (l.drop (i+3)) 0).2≤57343) then (0,0) else (4+(hexRun 6 (l.drop (i+3)) 0).1,(hexRun 6 (l.drop (i+3)) 0).2):=by
   unfold brS
   rw [if_neg (by omega)]
  have hdr:=drop_hex 6 l (i+3) 0
  have hk6:=(hexRun_le 6 (l.drop (i+3)) 0).2
  have hv6:=hexRun_lt 6 (l.drop (i+3)) 0
  obtain ⟨k,hk⟩:∃ k,(hexRun 6 (l.drop (i+3)) 0).1=k:=⟨_,rfl⟩
  obtain ⟨v,hv⟩:∃ v,(hexRun 6 (l.drop (i+3)) 0).2=v:=⟨_,rfl⟩
  rw [hk,hv] at hbr HX
  rw [hk] at hdr hk6
  rw [hv] at hv6
  clear hk hv
  obtain ⟨rk,hrk⟩:=chars_head l (i+3+k)
  have hget:(chars l i)[3+k]?=some (chr l (i+3+k),(if i+3+k < l.length then i+3+k else l.length)):=by
   have:(chars l (i+3))[k]?=some (chr l (i+3+k),(if i+3+k < l.length then i+3+k else l.length)):=by
    have h0:=congrArg (·[0]?) hdr
    simpa [hrk,List.getElem?_drop] using h0
   rw [hc03,show 3+k=k+1+1+1 by omega]
   exact this
  have hx:=(hC0 _ _ hget).1
  have hkn:3+k < (chars l i).length:=(List.getElem?_eq_some_iff.1 hget).1
  simp only at hx
  have hca:=chr_asc l (i+3+k) 125 (by decide)
  rw [hlen] at hkn hcap0 hlm ⊢
  obtain ⟨m,hm⟩:∃ m,(chars l (i+3)).length=m:=⟨_,rfl⟩
  rw [hm] at HX hkn hcap0 hlm ⊢
  have j0:(3:Int)+(k:Int) < (m:Int)+3:=by omega
  have j1:(0:Int)≤(3:Int)+(k:Int):=by omega
  clear hc0 hc3 hc03 hdr hrk hget hlen hm hC3 hC0 hr2 h1 h2 e2 hadd
  by_cases k0:k=0
  ·subst k0
   have hr:Hid (escS l i=(0,[])):=by rw [if_pos (.inl rfl)] at hbr;rw [hbr] at hE;exact hE
   rw [hr.out]
   clear hbr hE hr hx hca
   go_enter Tryz.func143,Tryz.ntmps143
   go_wp2_with fail
   refine HX.mono ?_
   rintro e w2 ⟨rfl,rfl⟩
   go_wp2_with fail
   go_ret2
   exact ⟨_,rfl,World.ownsRow_nil _ _ _ _,Below.refl _ _⟩
  ·have k0':(0:Int) < (k:Int):=by omega
   by_cases h125:i+3+k < l.length∧bt l (i+3+k)=125
   ·rw [hca.2 h125] at hx
    have HV:=fun W=>validRune_any (v:Int) W
    by_cases hok:v≤1114111∧¬(55296≤v∧v≤57343)
    ·have hr:Hid (escS l i=(4+k,utfL v)):=by
      rw [if_neg (by omega)] at hbr
      rw [hbr] at hE
      rw [if_pos (by simp only;omega)] at hE
      exact hE
     rw [hr.out]
     have hvr:Lib.validRune (v:Int)=true:=decide_eq_true (by omega)
     rw [hvr] at HV
     have hz:=utf_cells v hok.1 hok.2
     have hul:(utfL v).length=(Lib.runeCells (v:Int)).length:=by rw [hz,Lib.byteCells_length]
     have e4:IntKind.i64.wrap ((k:Int)+4)=(k:Int)+4:=by rw [IntKind.wrap_i64];omega
     have h4:(k:Int)+4=((4+k:Nat):Int):=by omega
     have HR:=fun W:World=>appendRune_any W.heap.size (.slice none 0 0) 0 [] (v:Int) W (by omega) (by omega) (World.ownsRow_nil _ _ _ _) (by omega) (Nat.le_refl _)
     have HH4:Hid ((k:Int)+4=((4+k:Nat):Int)):=h4
     clear hbr hE hr hca hvr h4
     go_enter Tryz.func143,Tryz.ntmps143
     go_wp2_with fail
     refine HX.mono ?_
     rintro e w2 ⟨rfl,rfl⟩
     go_wp2_with fail
     refine (HV _).mono ?_
     rintro e w3 ⟨rfl,rfl⟩
     go_wp2_with fail
     refine (HR _).mono ?_
     rintro e w4 ⟨v4,rfl,ho4,hb4⟩
     go_wp2_with fail
     go_ret2
     refine ⟨v4,by rw [←HH4.out];rfl,?_,hb4⟩
     rw [hul,←hz]
     simpa using ho4
    ·have hr:Hid (escS l i=(0,[])):=by
      rw [if_pos (by omega)] at hbr
      rw [hbr] at hE
      exact hE
     rw [hr.out]
     have hvr:Lib.validRune (v:Int)=false:=decide_eq_false (by omega)
     rw [hvr] at HV
     clear hbr hE hr hca hvr
     go_enter Tryz.func143,Tryz.ntmps143
     go_wp2_with fail
     refine HX.mono ?_
     rintro e w2 ⟨rfl,rfl⟩
     go_wp2_with fail
     refine (HV _).mono ?_
     rintro e w3 ⟨rfl,rfl⟩
     go_wp2_with fail
     go_ret2
     exact ⟨_,rfl,World.ownsRow_nil _ _ _ _,Below.refl _ _⟩
   ·have hr:Hid (escS l i=(0,[])):=by
     rw [if_pos (by omega)] at hbr
     rw [hbr] at hE
     exact hE
    rw [hr.out]
    have hx1:chr l (i+3+k)≠125:=fun e=>h125 (hca.1 e)
    obtain ⟨R,hR⟩:∃ R,chr l (i+3+k)=R:=⟨_,rfl⟩
    rw [hR] at hx hx1
    have hx2:(R==125)=false:=beq_eq_false_iff_ne.2 hx1
    clear hbr hE hr hca hR hx1
    go_enter Tryz.func143,Tryz.ntmps143
    go_wp2_with fail
    refine HX.mono ?_
    rintro e w2 ⟨rfl,rfl⟩
    go_wp2_with fail
    go_ret2
    exact ⟨_,rfl,World.ownsRow_nil _ _ _ _,Below.refl _ _⟩
 ·have hr:Hid (escS l i=(0,[])):=by
   have hbr:brS l i=(0,0):=by unfold brS;rw [if_pos (by omega)]
   rw [hbr] at hE
   exact hE
  rw [hr.out]
  have hx1:chr l (i+2)≠123:=fun e=>g2 ((chr_asc l (i+2) 123 (by decide)).1 e)
  obtain ⟨R,hR⟩:∃ R,chr l (i+2)=R:=⟨_,rfl⟩
  rw [hR] at h2' hx1
  have hx2:(R==123)=false:=beq_eq_false_iff_ne.2 hx1
  have hx3:(R != 123)=true:=by rw [bne,hx2];rfl
  have hlen:3≤(chars l i).length:=by rw [hc0,hr2];simp
  obtain ⟨m,hm⟩:∃ m,(chars l i).length=m:=⟨_,rfl⟩
  rw [hm] at hlm hlen ⊢
  have j1:(1:Int) < (m:Int):=by omega
  have j2:(2:Int) < (m:Int):=by omega
  clear hE hr hR hx1 hc0 hr2 h1 h2 hC0 hm g2
  go_enter Tryz.func143,Tryz.ntmps143
  go_wp2_with fail
  go_ret2
  exact ⟨_,rfl,World.ownsRow_nil _ _ _ _,Below.refl _ _⟩
theorem escS_sh (l:List UInt8) (i:Nat) (h:i+1 < l.length→bt l (i+1)≠120∧bt l (i+1)≠117):escS l i=(if shO (chr l (i+1))=none then 0 else 2,(shO (chr l (i+1))).elim [] (fun y=>[UInt8.ofNat y.toNat])):=by
 by_cases hi:i+1 < l.length
 ·obtain ⟨h1,h2⟩:=h hi
  have key:∀ k:Nat,k < 128→(chr l (i+1)=(k:Int)↔bt l (i+1)=k):=fun k hk=>by rw [chr_asc l (i+1) k hk];exact ⟨fun e=>e.2,fun e=>⟨hi,e⟩⟩
  have k1:chr l (i+1)=34↔bt l (i+1)=34:=key 34 (by decide)
  have k2:chr l (i+1)=92↔bt l (i+1)=92:=key 92 (by decide)
  have k3:chr l (i+1)=110↔bt l (i+1)=110:=key 110 (by decide)
  have k4:chr l (i+1)=114↔bt l (i+1)=114:=key 114 (by decide)
  have k5:chr l (i+1)=116↔bt l (i+1)=116:=key 116 (by decide)
  unfold escS
  rw [if_neg (show ¬l.length≤i+1 by omega)]
  unfold shO
  by_cases g1:bt l (i+1)=34
  ·rw [if_pos g1,if_pos (k1.2 g1)];rfl
  rw [if_neg g1,if_neg (fun e=>g1 (k1.1 e))]
  by_cases g2:bt l (i+1)=92
  ·rw [if_pos g2,if_pos (k2.2 g2)];rfl
  rw [if_neg g2,if_neg (fun e=>g2 (k2.1 e))]
  by_cases g3:bt l (i+1)=110
  ·rw [if_pos g3,if_pos (k3.2 g3)];rfl
  rw [if_neg g3,if_neg (fun e=>g3 (k3.1 e))]
  by_cases g4:bt l (i+1)=114
  ·rw [if_pos g4,if_pos (k4.2 g4)];rfl
  rw [if_neg g4,if_neg (fun e=>g4 (k4.1 e))]
  by_cases g5:bt l (i+1)=116
  ·rw [if_pos g5,if_pos (k5.2 g5)];rfl
  rw [if_neg g5,if_neg (fun e=>g5 (k5.1 e)),if_neg h1,if_neg h2]
  rfl
 ·have hc:chr l (i+1)=-2:=by unfold chr;rw [if_neg hi]
  rw [hc]
  unfold escS
  rw [if_pos (by omega)]
  rfl
theorem escapeAt_any (l:List UInt8) (i:Nat) (ad:Addr) (cap:Nat) (w:World) (hs:l.length≤16384) (hi:i < l.length) (b0:bt l i=92) (hcap:(chars l i).length≤cap) (hC:CH w ad (chars l i)) (hsh:SH w) :
  Calls Tryz.prog 143 #[.slice (some ad) (chars l i).length cap] w fun e w'=>escR w (escS l i).1 (escS l i).2 e w':=by
 have short:(i+1 < l.length→bt l (i+1)≠120∧bt l (i+1)≠117)→Calls Tryz.prog 143 #[.slice (some ad) (chars l i).length cap] w fun e w'=>escR w (escS l i).1 (escS l i).2 e w':=fun hno=>by
  have hc0:chars l i=(92,i) :: chars l (i+1):=by rw [chars_asc hi (by omega),b0];rfl
  obtain ⟨r,hr⟩:=chars_head l (i+1)
  have h1:=(hC 1 _ (by rw [hc0,hr];rfl)).1
  have hl:=chars_len l _ i (Nat.le_refl _)
  rw [escS_sh l i hno]
  have key:∀ k:Nat,k < 128→(i+1 < l.length→bt l (i+1)≠k)→chr l (i+1)≠(k:Int):=fun k hk h e=>by
   have:=(chr_asc l (i+1) k hk).1 e
   exact h this.1 this.2
  exact esc_short ad _ cap (chr l (i+1)) w (by rw [hc0,hr];simp) (by omega) h1 (key 120 (by decide) (fun h=>(hno h).1)) (key 117 (by decide) (fun h=>(hno h).2)) hsh
 by_cases h1:i+1 < l.length
 ·by_cases g1:bt l (i+1)=120
  ·exact esc_x l i ad cap w hs h1 b0 g1 hcap hC
  ·by_cases g2:bt l (i+1)=117
   ·exact esc_u l i ad cap w hs h1 b0 g2 hcap hC
   ·exact short (fun _=>⟨g1,g2⟩)
 ·exact short (fun h=>absurd h h1)
end Go.Proofs.YtciffggmobblpaaGreatDoor
namespace Go.Proofs.YtciffggmobblpaaGreatDoor
open Go.RowKit
def jumpN (J:Nat→Act→World→Prop) (Q:Exit→Act→World→Prop):Exit→Act→World→Prop
 | .goto l,a,w=>J l a w
 | e,a,w=>Q e a w
theorem wp_scope_many {P:Program} {a:Act} {w:World} {Q:Exit→Act→World→Prop} {c:Code} (J:Nat→Act→World→Prop) (m:Nat→Act→World→Nat)
  (first:c.wp P (jumpN J Q) a w)
  (pass:∀ l a w,J l a w→∃ rest,findLabel c l=some rest∧rest.wp P (jumpN (fun l' a' w'=>J l' a' w'∧m l' a' w' < m l a w) Q) a w):(Code.scope c).wp P Q a w:=by
 intro b k cs
 have key:∀ n l a w,m l a w=n→J l a w→∃ rest,findLabel c l=some rest∧∃ e a' w',Q e a' w'∧Arrives P (lone (b.at a (.code rest :: .inScope c :: k)) cs w) b k cs e a' w':=by
  intro n
  induction n using Nat.strongRecOn with
  | _ n ih=>
   intro l a w hn hJ
   obtain ⟨rest,hf,hr⟩:=pass l a w hJ
   refine ⟨rest,hf,?_⟩
   obtain ⟨e,a1,w1,hq,harr⟩:=hr b (.inScope c :: k) cs
   cases e with
   | normal=>exact ⟨.normal,a1,w1,hq,Steps.trans harr (.one step_inScope)⟩
   | exit id=>exact ⟨.exit id,a1,w1,hq,fun k' hk=>harr k' (by simp [exitTo,hk])⟩
   | goto l'=>
    obtain ⟨hJ',hlt⟩:=hq
    obtain ⟨rest2,hf2,e2,a2,w2,hq2,harr2⟩:=ih _ (by omega) l' a1 w1 rfl hJ'
    have hg:gotoIn l' (.inScope c :: k)=some (.code rest2 :: .inScope c :: k):=by simp [gotoIn,hf2]
    exact ⟨e2,a2,w2,hq2,.of_steps (harr _ hg) harr2⟩
   | ret=>exact ⟨_,a1,w1,hq,harr⟩
   | panic ch=>exact ⟨_,a1,w1,hq,harr⟩
   | outgrown=>exact ⟨_,a1,w1,hq,harr⟩
 obtain ⟨e,a1,w1,hq,harr⟩:=first b (.inScope c :: k) cs
 cases e with
 | normal=>exact ⟨.normal,a1,w1,hq,.head step_scope (Steps.trans harr (.one step_inScope))⟩
 | exit id=>exact ⟨.exit id,a1,w1,hq,fun k' hk=>.head step_scope (harr k' (by simp [exitTo,hk]))⟩
 | goto l'=>
  obtain ⟨rest2,hf2,e2,a2,w2,hq2,harr2⟩:=key _ l' a1 w1 rfl hq
  have hg:gotoIn l' (.inScope c :: k)=some (.code rest2 :: .inScope c :: k):=by simp [gotoIn,hf2]
  exact ⟨e2,a2,w2,hq2,.of_steps (.head step_scope (harr _ hg)) harr2⟩
 | ret=>exact ⟨_,a1,w1,hq,.of_steps (.one step_scope) harr⟩
 | panic ch=>exact ⟨_,a1,w1,hq,.of_steps (.one step_scope) harr⟩
 | outgrown=>exact ⟨_,a1,w1,hq,.of_steps (.one step_scope) harr⟩
def insS (l:List UInt8) (j:Nat) (said:List UInt8):List UInt8×Nat×Nat:=
 if j < l.length then
  if bt l j=34 then (said,j+1,0)
  else if bt l j=92 then (if (escS l j).1=0 then ([],j,34) else insS l (j+(escS l j).1) (said++(escS l j).2))
  else if lo1 l j=true∨bt l j < 32∨bt l j=127 then ([],j,33)
  else insS l (j+(dc l j).2) (said++(l.drop j).take (dc l j).2)
 else ([],l.length,32)
termination_by l.length - j
decreasing_by
 ·omega
 ·have:=dc_pos l j
  omega
end Go.Proofs.YtciffggmobblpaaGreatDoor
namespace Go.Proofs.YtciffggmobblpaaGreatDoor
open Go.RowKit Go.Shelf
theorem uncons {n:Nat} {l:List Value} (h:l.length=n+1):∃ a r,l=a :: r∧r.length=n:=by
 cases l with
 | nil=>simp at h
 | cons a r=>exact ⟨a,r,rfl,by simpa using h⟩
theorem arr_58 (u:Array Value) (h:u.size=58):∃ u0 u1 u2 u3 u4 u5 u6 u7 u8 u9 u10 u11 u12 u13 u14 u15 u16 u17 u18 u19 u20 u21 u22 u23 u24 u25 u26 u27 u28 u29 u30 u31 u32 u33 u34 u35 u36 u37 u38 u39 u40 u41 u42 u43 u44 u45 u46 u47 u48 u49 u50 u51 u52 u53 u54 u55 u56 u57:Value,u=#[u0,u1,u2,u3,u4,u5,u6,u7,u8,u9,u10,u11,u12,u13,u14,u15,u16,u17,u18,u19,u20,u21,u22,u23,u24,u25,u26,u27,u28,u29,u30,u31,u32,u33,u34,u35,u36,u37,u38,u39,u40,u41,u42,u43,u44,u45,u46,u47,u48,u49,u50,u51,u52,u53,u54,u55,u56,u57]:=by
 obtain ⟨l⟩:=u
 have h':l.length=58:=by simpa using h
 obtain ⟨u0,r0,rfl,h0⟩:=uncons h'
 obtain ⟨u1,r1,rfl,h1⟩:=uncons h0
 obtain ⟨u2,r2,rfl,h2⟩:=uncons h1
 obtain ⟨u3,r3,rfl,h3⟩:=uncons h2
 obtain ⟨u4,r4,rfl,h4⟩:=uncons h3
 obtain ⟨u5,r5,rfl,h5⟩:=uncons h4
 obtain ⟨u6,r6,rfl,h6⟩:=uncons h5
 obtain ⟨u7,r7,rfl,h7⟩:=uncons h6
 obtain ⟨u8,r8,rfl,h8⟩:=uncons h7
 obtain ⟨u9,r9,rfl,h9⟩:=uncons h8
 obtain ⟨u10,r10,rfl,h10⟩:=uncons h9
 obtain ⟨u11,r11,rfl,h11⟩:=uncons h10
 obtain ⟨u12,r12,rfl,h12⟩:=uncons h11
 obtain ⟨u13,r13,rfl,h13⟩:=uncons h12
 obtain ⟨u14,r14,rfl,h14⟩:=uncons h13
 obtain ⟨u15,r15,rfl,h15⟩:=uncons h14
 obtain ⟨u16,r16,rfl,h16⟩:=uncons h15
 obtain ⟨u17,r17,rfl,h17⟩:=uncons h16
 obtain ⟨u18,r18,rfl,h18⟩:=uncons h17
 obtain ⟨u19,r19,rfl,h19⟩:=uncons h18
 obtain ⟨u20,r20,rfl,h20⟩:=uncons h19
 obtain ⟨u21,r21,rfl,h21⟩:=uncons h20
 obtain ⟨u22,r22,rfl,h22⟩:=uncons h21
 obtain ⟨u23,r23,rfl,h23⟩:=uncons h22
 obtain ⟨u24,r24,rfl,h24⟩:=uncons h23
 obtain ⟨u25,r25,rfl,h25⟩:=uncons h24
 obtain ⟨u26,r26,rfl,h26⟩:=uncons h25
 obtain ⟨u27,r27,rfl,h27⟩:=uncons h26
 obtain ⟨u28,r28,rfl,h28⟩:=uncons h27
 obtain ⟨u29,r29,rfl,h29⟩:=uncons h28
 obtain ⟨u30,r30,rfl,h30⟩:=uncons h29
 obtain ⟨u31,r31,rfl,h31⟩:=uncons h30
 obtain ⟨u32,r32,rfl,h32⟩:=uncons h31
 obtain ⟨u33,r33,rfl,h33⟩:=uncons h32
 obtain ⟨u34,r34,rfl,h34⟩:=uncons h33
 obtain ⟨u35,r35,rfl,h35⟩:=uncons h34
 obtain ⟨u36,r36,rfl,h36⟩:=uncons h35
 obtain ⟨u37,r37,rfl,h37⟩:=uncons h36
 obtain ⟨u38,r38,rfl,h38⟩:=uncons h37
 obtain ⟨u39,r39,rfl,h39⟩:=uncons h38
 obtain ⟨u40,r40,rfl,h40⟩:=uncons h39
 obtain ⟨u41,r41,rfl,h41⟩:=uncons h40
 obtain ⟨u42,r42,rfl,h42⟩:=uncons h41
 obtain ⟨u43,r43,rfl,h43⟩:=uncons h42
 obtain ⟨u44,r44,rfl,h44⟩:=uncons h43
 obtain ⟨u45,r45,rfl,h45⟩:=uncons h44
 obtain ⟨u46,r46,rfl,h46⟩:=uncons h45
 obtain ⟨u47,r47,rfl,h47⟩:=uncons h46
 obtain ⟨u48,r48,rfl,h48⟩:=uncons h47
 obtain ⟨u49,r49,rfl,h49⟩:=uncons h48
 obtain ⟨u50,r50,rfl,h50⟩:=uncons h49
 obtain ⟨u51,r51,rfl,h51⟩:=uncons h50
 obtain ⟨u52,r52,rfl,h52⟩:=uncons h51
 obtain ⟨u53,r53,rfl,h53⟩:=uncons h52
 obtain ⟨u54,r54,rfl,h54⟩:=uncons h53
 obtain ⟨u55,r55,rfl,h55⟩:=uncons h54
 obtain ⟨u56,r56,rfl,h56⟩:=uncons h55
 obtain ⟨u57,r57,rfl,h57⟩:=uncons h56
 obtain rfl:=List.length_eq_zero_iff.1 h57
 exact ⟨u0,u1,u2,u3,u4,u5,u6,u7,u8,u9,u10,u11,u12,u13,u14,u15,u16,u17,u18,u19,u20,u21,u22,u23,u24,u25,u26,u27,u28,u29,u30,u31,u32,u33,u34,u35,u36,u37,u38,u39,u40,u41,u42,u43,u44,u45,u46,u47,u48,u49,u50,u51,u52,u53,u54,u55,u56,u57,rfl⟩
theorem own_below {w W:World} {B e sz n:Nat} {v:Value} {xs:List Value} (h:w.ownsRow B e sz v n xs) (hb:Below w.heap.size w W):W.ownsRow B e sz v n xs:=by
 refine ⟨h.1,?_⟩
 rcases h.2 with hh | ⟨g,c,cur,h1,h2,h3,h4⟩
 ·exact .inl hh
 ·exact .inr ⟨g,c,cur,h1,h2,(hb.block _ (lt_of_get h3)).trans h3,h4⟩
theorem own_form {w:World} {B e sz n:Nat} {v:Value} {xs:List Value} (h:w.ownsRow B e sz v n xs) (hn:0 < n):∃ g cap,v=.slice (some ⟨g,0,none⟩) n cap:=by
 rcases h.2 with hh | ⟨g,c,cur,h1,h2,h3,h4⟩
 ·omega
 ·exact ⟨g,c,h1⟩
set_option maxRecDepth 100000 in
theorem barred_any (r:Int) (w:World):Calls Tryz.prog 141 #[.int .i32 r] w fun e w'=>e=.returned (.bool (decide (r < 32∨r=127)))∧w'=w:=by
 by_cases h1:r < 32
 ·have hr:Hid (decide (r < 32∨r=127)=true):=decide_eq_true (.inl h1)
  rw [hr.out]
  go_enter Tryz.func141,Tryz.ntmps141
  go_wp2
  go_ret
  exact ⟨rfl,rfl⟩
 ·by_cases h2:r=127
  ·have hr:Hid (decide (r < 32∨r=127)=true):=decide_eq_true (.inr h2)
   rw [hr.out]
   subst h2
   go_enter Tryz.func141,Tryz.ntmps141
   go_wp2
   go_ret
   exact ⟨rfl,rfl⟩
  ·have hr:Hid (decide (r < 32∨r=127)=false):=decide_eq_false (by omega)
   have h3:(r==127)=false:=beq_eq_false_iff_ne.2 h2
   rw [hr.out]
   go_enter Tryz.func141,Tryz.ntmps141
   go_wp2
   go_ret
   exact ⟨rfl,rfl⟩
theorem utfL_ne (n:Nat):utfL n≠[]:=by
 unfold utfL
 repeat' split
 all_goals simp
theorem escS_ne (l:List UInt8) (i:Nat) (h:0 < (escS l i).1):(escS l i).2≠[]:=by
 unfold escS at h ⊢
 split at h
 ·simp at h
 rename_i g0
 rw [if_neg g0]
 repeat' split
 all_goals first
  | (simp;done)
  | (simp_all [utfL_ne];done)
def PF (l:List UInt8) (w:World) (lab now j:Nat) (said:List UInt8) (v:Value) (wr:World):Prop:=
 (lab=0∨lab=1)∧(chars l 0).drop now=chars l j∧j≤l.length∧insS l j said=insS l 1 []∧said.length≤j∧wr.ownsRow w.heap.size 5 1 v said.length (Lib.byteCells said)∧Below w.heap.size w wr∧(lab=0→j < l.length∧bt l j=92)
theorem drop_lt {l:List UInt8} {now j:Nat} (h:(chars l 0).drop now=chars l j):now < (chars l 0).length:=by
 obtain ⟨r,hr⟩:=chars_head l j
 rw [hr] at h
 refine Classical.byContradiction (fun hn=>?_)
 rw [List.drop_eq_nil_of_le (by omega)] at h
 cases h
theorem drop_get {l:List UInt8} {now j:Nat} (h:(chars l 0).drop now=chars l j):(chars l 0)[now]?=some (chr l j,(if j < l.length then j else l.length)):=by
 obtain ⟨r,hr⟩:=chars_head l j
 have h0:=congrArg (·[0]?) h
 simpa [hr,List.getElem?_drop] using h0
theorem drop_next {l:List UInt8} {now j:Nat} (h:(chars l 0).drop now=chars l j) (hj:j < l.length):(chars l 0).drop (now+1)=chars l (j+(dc l j).2):=by
 rw [←List.drop_drop,h,chars_lt hj]
 rfl
theorem own_not {W:World} {B g n:Nat} {e e2:TypeId} {sz:Nat} {v:Value} {xs:List Value} {cs:Array Value} {m:Nat×Nat} (h:W.ownsRow B e sz v n xs) (hk:W.heap[g]?=some (.cells cs e2 m)) (hne:e≠e2):v.ownBlock≠some g:=by
 intro hb
 rcases h.2 with ⟨rfl,_⟩ | ⟨g2,c2,cur2,rfl,_,hg2,_⟩
 ·cases hb
 ·have:g2=g:=by injection hb
  subst this
  rw [hk] at hg2
  exact hne (by injection hg2 with hg2;injection hg2 with _ h2 _;exact h2.symm)
abbrev Tok:=Nat×List UInt8×Nat×Nat
def tcel (t:Tok):List Value:=[.int .i64 (t.1:Int),.string ⟨t.2.1.toArray⟩,.int .i64 (t.2.2.1:Int),.int .i64 (t.2.2.2:Int)]
def tcels (L:List Tok):List Value:=L.flatMap tcel
theorem tcels_snoc (L:List Tok) (t:Tok):tcels (L++[t])=tcels L++tcel t:=by simp [tcels]
theorem info_tok:(Tryz.prog.info? 143).map (fun i=>(i.zero,i.size,i.bytes))=some (some (.agg #[.int .i64 0,.string ⟨#[]⟩,.int .i64 0,.int .i64 0]),4,40):=by kernel_rfl
abbrev signsL:List (List UInt8):=[[33,61],[60,61],[62,61],[46,46],[45,62],[40],[41],[33],[61],[60],[62],[38],[124],[44],[58],[47]]
abbrev signsC:Array Value:=#[.string ⟨#[33,61]⟩,.string ⟨#[60,61]⟩,.string ⟨#[62,61]⟩,.string ⟨#[46,46]⟩,.string ⟨#[45,62]⟩,.string ⟨#[40]⟩,.string ⟨#[41]⟩,.string ⟨#[33]⟩,.string ⟨#[61]⟩,.string ⟨#[60]⟩,.string ⟨#[62]⟩,.string ⟨#[38]⟩,.string ⟨#[124]⟩,.string ⟨#[44]⟩,.string ⟨#[58]⟩,.string ⟨#[47]⟩]
def SG (w:World):Prop:=∃ t fr,w.heap[0]?=some (.cells signsC t fr)
theorem SG.below {w W:World} (h:SG w) (hb:Below w.heap.size w W):SG W:=by
 obtain ⟨t,fr,h⟩:=h
 exact ⟨t,fr,(hb.block _ (lt_of_get h)).trans h⟩
theorem SG.cell {w:World} (h:SG w) (j:Nat):w.cell? ⟨0,j,none⟩=signsC[j]?:=by
 obtain ⟨t,fr,h⟩:=h
 exact cell_of_row w _ j _ _ _ h
structure MX where
 w0:World
 l:List UInt8
 b:Nat
 g:Nat
 cap:Nat
 gc:Array Value
 gf:Nat×Nat
structure MC (X:MX):Prop where
 gcc:∀ k c,(chars X.l 0)[k]?=some c→X.gc[k*2]?=some (.int .i32 c.1)∧X.gc[k*2+1]?=some (.int .i64 (c.2:Int))
 bB:X.w0.heap.size≤X.b
 capN:(chars X.l 0).length≤X.cap
 len:X.l.length≤16384
 sh:SH X.w0
 sg:SG X.w0
def mcells (X:MX) (now fst line head:Nat) (v:Value):Array Value:=#[.string ⟨X.l.toArray⟩,.slice (some ⟨X.g,0,none⟩) (chars X.l 0).length X.cap,.int .i64 (now:Int),.int .i64 (fst:Int),.int .i64 (line:Int),.int .i64 (head:Int),v]
structure MS (X:MX) (W:World) (now fst line head:Nat) (v:Value) (D:List Tok):Prop where
 blk:W.heap[X.b]?=some (.cells (mcells X now fst line head v) 149 (0,0))
 gk:W.heap[X.g]?=some (.cells X.gc 160 X.gf)
 own:W.ownsRow X.w0.heap.size 143 4 v D.length (tcels D)
 bel:Below X.w0.heap.size X.w0 W
theorem MS.bg {X:MX} {W:World} {now fst line head:Nat} {v:Value} {D:List Tok} (h:MS X W now fst line head v D):X.g≠X.b:=fun e=>by
 have h1:=h.blk
 have h2:=h.gk
 rw [e] at h2
 rw [h1] at h2
 injection h2 with h2
 injection h2 with _ h3 _
 exact absurd h3 (by decide)
theorem MS.below {X:MX} {W W':World} {now fst line head:Nat} {v:Value} {D:List Tok} (h:MS X W now fst line head v D) (hb:Below W.heap.size W W'):MS X W' now fst line head v D:=
 ⟨keepblk hb h.blk,keepblk hb h.gk,own_below h.own hb,bel0 h.bel hb⟩
theorem MS.drewN {X:MX} {W:World} {now fst line head:Nat} {v:Value} {D:List Tok} (h:MS X W now fst line head v D) (n:Nat):MS X (W.drewN n) now fst line head v D:=
 h.below (bel_drewN n (Below.refl _ _))
theorem MS.drew {X:MX} {W:World} {now fst line head:Nat} {v:Value} {D:List Tok} (h:MS X W now fst line head v D):MS X W.drew now fst line head v D:=
 h.below (Below.refl _ _).drew
theorem MS.alloc {X:MX} {W:World} {now fst line head:Nat} {v:Value} {D:List Tok} (h:MS X W now fst line head v D) (o:Obj):MS X (W.alloc o) now fst line head v D:=
 h.below ((Below.refl _ _).alloc (Nat.le_refl _) _)
theorem MS.set {X:MX} (hC:MC X) {W:World} {now fst line head now' fst' line' head':Nat} {v:Value} {D:List Tok} (h:MS X W now fst line head v D) (i:Nat) (u:Value) (hc:(mcells X now fst line head v).setIfInBounds i u=mcells X now' fst' line' head' v):MS X (W.setCell ⟨X.b,i,none⟩ u) now' fst' line' head' v D:=
 ⟨by rw [heap_setCell_same W X.b i _ _ u h.blk,hc],(heap_setCell_other W ⟨X.b,i,none⟩ X.g u h.bg).trans h.gk,ownsRow_setCell_other h.own (a:=⟨X.b,i,none⟩) (own_not h.own h.blk (by decide)) u,h.bel.setCell (p:=⟨X.b,i,none⟩) hC.bB u⟩
theorem MS.setNow {X:MX} (hC:MC X) {W:World} {now fst line head:Nat} {v:Value} {D:List Tok} (h:MS X W now fst line head v D) (n:Nat) {z:Int} (hz:z=(n:Int)):MS X (W.setCell ⟨X.b,2,none⟩ (.int .i64 z)) n fst line head v D:=h.set hC 2 _ (by rw [hz];rfl)
theorem MS.setFst {X:MX} (hC:MC X) {W:World} {now fst line head:Nat} {v:Value} {D:List Tok} (h:MS X W now fst line head v D) (n:Nat) {z:Int} (hz:z=(n:Int)):MS X (W.setCell ⟨X.b,3,none⟩ (.int .i64 z)) now n line head v D:=h.set hC 3 _ (by rw [hz];rfl)
theorem MS.setLine {X:MX} (hC:MC X) {W:World} {now fst line head:Nat} {v:Value} {D:List Tok} (h:MS X W now fst line head v D) (n:Nat) {z:Int} (hz:z=(n:Int)):MS X (W.setCell ⟨X.b,4,none⟩ (.int .i64 z)) now fst n head v D:=h.set hC 4 _ (by rw [hz];rfl)
theorem MS.setHead {X:MX} (hC:MC X) {W:World} {now fst line head:Nat} {v:Value} {D:List Tok} (h:MS X W now fst line head v D) (n:Nat) {z:Int} (hz:z=(n:Int)):MS X (W.setCell ⟨X.b,5,none⟩ (.int .i64 z)) now fst line n v D:=h.set hC 5 _ (by rw [hz];rfl)
theorem MS.c {X:MX} {W:World} {now fst line head:Nat} {v:Value} {D:List Tok} (h:MS X W now fst line head v D) (i:Nat):W.cell? ⟨X.b,i,none⟩=(mcells X now fst line head v)[i]?:=cell_of_row W X.b i _ _ _ h.blk
theorem MS.c0 {X:MX} {W:World} {now fst line head:Nat} {v:Value} {D:List Tok} (h:MS X W now fst line head v D):W.cell? ⟨X.b,0,none⟩=some (.string ⟨X.l.toArray⟩):=h.c 0
theorem MS.c1 {X:MX} {W:World} {now fst line head:Nat} {v:Value} {D:List Tok} (h:MS X W now fst line head v D):W.cell? ⟨X.b,1,none⟩=some (.slice (some ⟨X.g,0,none⟩) (chars X.l 0).length X.cap):=h.c 1
theorem MS.c2 {X:MX} {W:World} {now fst line head:Nat} {v:Value} {D:List Tok} (h:MS X W now fst line head v D):W.cell? ⟨X.b,2,none⟩=some (.int .i64 (now:Int)):=h.c 2
theorem MS.c3 {X:MX} {W:World} {now fst line head:Nat} {v:Value} {D:List Tok} (h:MS X W now fst line head v D):W.cell? ⟨X.b,3,none⟩=some (.int .i64 (fst:Int)):=h.c 3
theorem MS.c4 {X:MX} {W:World} {now fst line head:Nat} {v:Value} {D:List Tok} (h:MS X W now fst line head v D):W.cell? ⟨X.b,4,none⟩=some (.int .i64 (line:Int)):=h.c 4
theorem MS.c5 {X:MX} {W:World} {now fst line head:Nat} {v:Value} {D:List Tok} (h:MS X W now fst line head v D):W.cell? ⟨X.b,5,none⟩=some (.int .i64 (head:Int)):=h.c 5
theorem MS.c6 {X:MX} {W:World} {now fst line head:Nat} {v:Value} {D:List Tok} (h:MS X W now fst line head v D):W.cell? ⟨X.b,6,none⟩=some v:=h.c 6
theorem MS.fz {X:MX} {W:World} {now fst line head:Nat} {v:Value} {D:List Tok} (h:MS X W now fst line head v D) (i:Nat):W.frozen? ⟨X.b,i,none⟩=false:=by
 have:=h.blk
 simp [World.frozen?,this]
def AT (l:List UInt8) (now j:Nat):Prop:=(chars l 0).drop now=chars l j
theorem MS.cr {X:MX} (hC:MC X) {W:World} {now fst line head:Nat} {v:Value} {D:List Tok} (h:MS X W now fst line head v D) {k j:Nat} (hj:AT X.l k j):W.cell? ⟨X.g,k*2,none⟩=some (.int .i32 (chr X.l j)):=
 (cell_of_row W X.g _ _ _ _ h.gk).trans (hC.gcc k _ (drop_get hj)).1
theorem MS.ca {X:MX} (hC:MC X) {W:World} {now fst line head:Nat} {v:Value} {D:List Tok} (h:MS X W now fst line head v D) {k j:Nat} (hj:AT X.l k j) (hl:j≤X.l.length):W.cell? ⟨X.g,k*2+1,none⟩=some (.int .i64 (j:Int)):=by
 have:=(cell_of_row W X.g (k*2+1) _ _ _ h.gk).trans (hC.gcc k _ (drop_get hj)).2
 rw [this]
 simp only
 split
 ·rfl
 ·have:j=X.l.length:=by omega
  rw [this]
theorem AT.lt {l:List UInt8} {now j:Nat} (h:AT l now j):now < (chars l 0).length:=drop_lt h
theorem AT.le {l:List UInt8} {now j:Nat} (h:AT l now j):now≤16384∨16384 < l.length:=by
 have:=h.lt
 have:=chars_len l _ 0 (Nat.le_refl _)
 omega
theorem AT.asc {l:List UInt8} {now j:Nat} (h:AT l now j) (hj:j < l.length) (hb:bt l j < 128):AT l (now+1) (j+1):=by
 have:=drop_next h hj
 rw [dc_asc hb] at this
 exact this
theorem AT.next {l:List UInt8} {now j:Nat} (h:AT l now j) (hj:j < l.length):AT l (now+1) (j+(dc l j).2):=drop_next h hj
def ci (l:List UInt8) (j:Nat):Nat:=(chars l 0).length - (chars l j).length
theorem AT.ci {l:List UInt8} {now j:Nat} (h:AT l now j):now=ci l j:=by
 have h1:=h.lt
 have h2:=congrArg List.length h
 rw [List.length_drop] at h2
 unfold Proofs.YtciffggmobblpaaGreatDoor.ci
 omega
def cls (r:Int):Nat:=
 if r=-2 then 0 else if r=10 then 1 else if r=32 then 2 else if r=9 then 2 else if r=13 then 2 else if r=46 then 5 else if r=37 then 6 else if r=34 then 7 else if r=35 then 8
 else if (97≤r∧r≤122)∨(65≤r∧r≤90)∨r=95 then 3 else if 48≤r∧r≤57 then 4 else 9
def kl (l:List UInt8) (j:Nat):Nat:=cls (chr l j)
end Go.Proofs.YtciffggmobblpaaGreatDoor
