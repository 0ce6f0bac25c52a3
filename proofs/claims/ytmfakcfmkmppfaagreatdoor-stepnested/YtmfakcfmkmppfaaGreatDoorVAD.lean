import Derived.Test.YtmfakcfmkmppfaaGreatDoorVAC
import Derived.Deep.RegionHeldLaw
import Derived.RangeFuncNested
import Derived.RangeFuncBound
import Derived.RangeFuncCalls
import Derived.RangeFuncLeaves
import Derived.RangeFuncBox
import Derived.Shelf.Abstract
import Derived.Shelf.RegionOpen
import Derived.OwnWalkIn
import Derived.TacticsInMore
import Derived.LoopNIn
import Derived.LoopIn
import Derived.Maps.AppendAt
import Derived.Lib.ItoaNum
import Derived.Lib.AtoiTie
import Derived.Laws.Strings3
import Derived.Shelf.Strconv.Itoa3
namespace Go.Proofs.YtmfakcfmkmppfaaGreatDoor
open Go.RowKit Go.Shelf
def PF2 (l:List UInt8) (p:Nat) (w:World) (lab now j:Nat) (said:List UInt8) (v:Value) (wr:World):Prop:=
 (lab=0∨lab=1)/\(zak l 0).drop now=zak l j/\j<=l.length/\zbx l j said=zbx l p []/\said.length<=j/\wr.ownsRow w.heap.size 5 1 v said.length (Lib.byteCells said)/\Below w.heap.size w wr/\(lab=0->j < l.length/\bt l j=92)
def PJ2 (l:List UInt8) (p:Nat) (w:World) (ad:Addr) (N cap:Nat) (lab:Nat) (a:Act) (wr:World):Prop:=
 ∃ (now j:Nat) (said:List UInt8) (v:Value) (u:Array Value),a={ tmps:=u,defers:=[] }/\u.size=58/\u.getD 0 undef=.slice (some ad) N cap/\u.getD 1 undef=.int .i64 now/\u.getD 7 undef=v/\Hid (PF2 l p w lab now j said v wr)
def pcR2 (l:List UInt8) (p:Nat) (w:World) (e:Ending) (w':World):Prop:=∃ v k,e=.returned (.tuple #[v,.int .i64 ((zbx l p []).2.2:Int),.int .i64 ((k:Nat):Int)])/\(zak l 0).drop k=zak l (zbx l p []).2.1/\(zbx l p []).2.1<=l.length/\w'.ownsRow w.heap.size 5 1 v (zbx l p []).1.length (Lib.byteCells (zbx l p []).1)/\Below w.heap.size w w'
set_option maxRecDepth 100000 in
set_option maxHeartbeats 2000000 in
theorem zp9 (l:List UInt8) (k0 p:Nat) (ad:Addr) (cap:Nat) (w:World) (hs:l.length<=16384) (hp:p<=l.length) (start0:(zak l 0).drop k0=zak l p) (hcap:(zak l 0).length<=cap) (hC0:CH w ad (zak l 0)) (hsh0:SH w) :
  Calls Tryz.prog 162 #[.slice (some ad) (zak l 0).length cap,.int .i64 (k0:Int)] w fun e w'=>pcR2 l p w e w':=by
 have hC:Hid (CH w ad (zak l 0)):=hC0;have hsh:Hid (SH w):=hsh0;have hNm:=zcn l _ 0 (Nat.le_refl _);have start:Hid ((zak l 0).drop k0=zak l p):=start0;clear hC0 hsh0 start0;obtain ⟨i0,hi,hz0,hz1,hz2⟩:=info_parts zgs
 go_enter Tryz.func162,Tryz.ntmps162
 go_wp2_with fail
 refine zcs (PJ2 l p w ad (zak l 0).length cap) (fun lab a _=>2*((zak l 0).length - (intOf (a.tmps.getD 1 undef)).toNat)+(if lab=1 then 1 else 0)) ?pass ?first
 case first=>
  intro pass
  go_wp2_with fail
  go_step3
  simp only [Exit.then]
  rename_i hK
  refine hK _ _ ?_;exact zl1 (pass 1) ⟨k0,p,[],.slice none 0 0,_,rfl,rfl,rfl,rfl,rfl,.inr rfl,start.out,hp,rfl,Nat.zero_le _,World.ownsRow_nil _ _ _ _,Below.refl _ _,fun h=>by cases h⟩ rfl
 case pass=>
  intro lab a wr hJ;have hlab:lab=0∨lab=1:=by
   obtain ⟨_,_,_,_,_,_,_,_,_,_,HF⟩:=hJ;exact HF.out.1
  rcases hlab with rfl | rfl
  ·refine ⟨_,rfl,?_⟩
   obtain ⟨now,j,said,v,u,rfl,hu,h0,h1,h7,HF⟩:=hJ;obtain ⟨u0,u1,u2,u3,u4,u5,u6,u7,u8,u9,u10,u11,u12,u13,u14,u15,u16,u17,u18,u19,u20,u21,u22,u23,u24,u25,u26,u27,u28,u29,u30,u31,u32,u33,u34,u35,u36,u37,u38,u39,u40,u41,u42,u43,u44,u45,u46,u47,u48,u49,u50,u51,u52,u53,u54,u55,u56,u57,rfl⟩:=arr_58 u hu;have e0:u0=.slice (some ad) (zak l 0).length cap:=h0;have e1:u1=.int .i64 now:=h1;have e7:u7=v:=h7;subst e0 e1 e7;clear hu h0 h1 h7;obtain ⟨-,hdr,hjl,hins,hsj,hown,hB,h92⟩:=HF.out;clear HF;obtain ⟨hlt,g92⟩:=h92 rfl;have hnow:=ziq hdr;have n0:(0:Int)<=(now:Int):=by omega
   have n1:(now:Int)<=((zak l 0).length:Int):=by omega
   have hsz:=hB.size;have hlen:(zak l j).length=(zak l 0).length - now:=by rw [<-hdr];simp
   have hCj:=(hC.out.below hB).drop now;rw [hdr] at hCj;have HE:=zkb l j (ad.add (now*2)) (cap - now) wr hs hlt g92 (by omega) hCj (hsh.out.below hB);rw [hlen] at HE;rw [zbx,if_pos hlt,if_neg (by omega),if_pos g92] at hins
   by_cases hz:(zbj l j).1=0
   ·rw [if_pos hz] at hins
    have HR:Hid (zbx l p []=([],j,34)):=hins.symm;have HN:Hid ((zak l 0).drop now=zak l j):=hdr;rw [hz] at HE;obtain ⟨b,hb⟩:=ex ((zbj l j).2);rw [hb] at HE;clear hins hdr hCj hb hlen hz
    go_wp2_with fail
    refine HE.mono ?_;rintro e w2 ⟨v2,rfl,ho2,hb2⟩
    go_wp2_with fail
    refine zbo (bodyPost_ret (zdw _ _ _ _ _ ⟨rfl,rfl,rfl⟩) rfl ?_);refine ⟨.slice none 0 0,now,?_⟩;rw [HR.out];exact ⟨rfl,HN.out,hjl,World.ownsRow_nil _ _ _ _,zhx hB hb2⟩
   ·rw [if_neg hz] at hins
    obtain ⟨hq1,hq2⟩:=zez l j (by omega);have hbne:=escS_ne l j (by omega);have hdr2:=zrk l j hlt g92 (by omega);obtain ⟨k,hk⟩:=ex ((zbj l j).1);obtain ⟨b,hb⟩:=ex ((zbj l j).2);rw [hk] at hz hq1 hq2 hins HE hdr2;rw [hb] at hq2 hins HE hbne;have hbl:0 < b.length:=List.length_pos_iff.2 hbne;have kz:(0:Int) < (k:Int):=by omega
    have HF:∀ (v5:Value) (w5:World),w5.ownsRow w.heap.size 5 1 v5 (said++b).length (Lib.byteCells (said++b))->Below w.heap.size w w5->Hid (PF2 l p w 1 (now+k) (j+k) (said++b) v5 w5):=fun v5 w5 ho hb=>⟨.inr rfl,by rw [<-List.drop_drop,hdr,hdr2],hq1,hins,by rw [List.length_append];omega,ho,hb,fun h=>by cases h⟩;have hkN:now+k < (zak l 0).length:=ziq (j:=j+k) (by rw [<-List.drop_drop,hdr,hdr2]);clear hins hdr hCj hk hb hlen hdr2 hbne
    go_wp2_with fail
    refine HE.mono ?_;rintro e w2 ⟨v2,rfl,ho2,hb2⟩;have hB2:=zhx hB hb2;have hown2:=zjr hown hb2;have hsz2:=hB2.size;obtain ⟨g,c,rfl⟩:=zii ho2 hbl;have hnews:=ho2.cells (g:=g) rfl;clear hown HE hB
    go_wp2_with (at_builtin;refine wpList_append_own _ rfl _ _ 145 rfl w.heap.size 5 i0 _ 1 1 Tryz.underlying145 hi hz0 hz1 hz2 rfl (by decide) _ _ _ rfl hown2 ⟨g,0,none⟩ b.length c (Lib.byteCells b) rfl (by rw [Lib.byteCells_length,Nat.mul_one]) hnews (zi2 b) (by unfold maxLen;omega) (by omega) hsz2 ?_;intro v5 w5 oB hg5 _)
    have b5:Below w.heap.size w w5:=hB2.grown hg5 hsz2 (fun k e=>(hown2.lt k e).1);have HF5:=HF v5 w5 (by rw [List.length_append,zdj];exact oB) b5;clear HF hg5 oB b5 hown2 ho2 hnews
    go_wp2_with fail
    go_step3
    simp only [Exit.then];refine And.intro ⟨now+k,_,_,v5,_,rfl,rfl,rfl,by go_num,rfl,HF5⟩ ?_
    simp [intOf];omega
  ·refine ⟨_,rfl,?_⟩
   obtain ⟨now,j,said,v,u,rfl,hu,h0,h1,h7,HF⟩:=hJ;obtain ⟨u0,u1,u2,u3,u4,u5,u6,u7,u8,u9,u10,u11,u12,u13,u14,u15,u16,u17,u18,u19,u20,u21,u22,u23,u24,u25,u26,u27,u28,u29,u30,u31,u32,u33,u34,u35,u36,u37,u38,u39,u40,u41,u42,u43,u44,u45,u46,u47,u48,u49,u50,u51,u52,u53,u54,u55,u56,u57,rfl⟩:=arr_58 u hu;have e0:u0=.slice (some ad) (zak l 0).length cap:=h0;have e1:u1=.int .i64 now:=h1;have e7:u7=v:=h7;subst e0 e1 e7;clear hu h0 h1 h7;obtain ⟨-,hdr,hjl,hins,hsj,hown,hB,-⟩:=HF.out;clear HF;have hnow:=ziq hdr;have hget:=zf3 hdr;have hx:=((hC.out.below hB) _ _ hget).1;simp only at hx;have n0:(0:Int)<=(now:Int):=by omega
   have n1:(now:Int) < ((zak l 0).length:Int):=by omega
   have hsz:=hB.size
   by_cases hlt:j < l.length
   ·have hnx:=zgv hdr hlt
    rw [zbx,if_pos hlt] at hins
    by_cases g34:bt l j=34
    ·rw [(zbs l j 34 (by decide)).2 ⟨hlt,g34⟩] at hx
     rw [if_pos g34] at hins;rw [zfp (by omega)] at hnx;have HR:Hid (zbx l p []=(said,j+1,0)):=hins.symm;have HN:Hid ((zak l 0).drop (now+1)=zak l (j+1)):=hnx;clear hins hnx hdr hget
     go_wp2_with fail
     refine zbo (bodyPost_ret (zdw _ _ _ _ _ ⟨rfl,rfl,rfl⟩) rfl ?_);refine ⟨u7,now+1,?_⟩;rw [HR.out];exact ⟨rfl,HN.out,(by omega:j+1<=l.length),hown,hB⟩
    ·rw [if_neg g34] at hins
     have c34:chr l j≠34:=fun e=>g34 ((zbs l j 34 (by decide)).1 e).2
     by_cases g92:bt l j=92
     ·rw [(zbs l j 92 (by decide)).2 ⟨hlt,g92⟩] at hx
      have HF:Hid (PF2 l p w 0 now j said u7 wr):=⟨.inl rfl,hdr,hjl,by rw [zbx,if_pos hlt,if_neg g34];exact hins,hsj,hown,hB,fun _=>⟨hlt,g92⟩⟩;clear hins hnx hdr hget
      go_wp2_with fail
      go_step3
      simp only [Exit.inBlock,Exit.then];refine And.intro ⟨now,j,said,u7,_,rfl,rfl,rfl,rfl,rfl,HF⟩ ?_;simp
     ·rw [if_neg g92] at hins
      have c92:chr l j≠92:=fun e=>g92 ((zbs l j 92 (by decide)).1 e).2;have cm2:chr l j≠-2:=by unfold chr;rw [if_pos hlt];split <;> omega
      have HB:=fun W=>zon (chr l j) W;have hbi:=bar_iff l j hlt;have d34:(chr l j==34)=false:=beq_eq_false_iff_ne.2 c34;have d92:(chr l j==92)=false:=beq_eq_false_iff_ne.2 c92;have dm2:(chr l j==-2)=false:=beq_eq_false_iff_ne.2 cm2
      by_cases hbad:lo1 l j=true∨bt l j < 32∨bt l j=127
      ·rw [if_pos hbad] at hins
       rw [decide_eq_true (hbi.2 hbad)] at HB;have HR:Hid (zbx l p []=([],j,33)):=hins.symm;have HN:Hid ((zak l 0).drop now=zak l j):=hdr;obtain ⟨R,hR⟩:=ex (chr l j);rw [hR] at hx HB d34 d92 dm2;clear hins hnx hdr hget c34 c92 cm2 hbi hbad hR
       go_wp2_with fail
       refine (HB _).mono ?_;rintro e w2 ⟨rfl,rfl⟩
       go_wp2_with fail
       refine zbo (bodyPost_ret (zdw _ _ _ _ _ ⟨rfl,rfl,rfl⟩) rfl ?_);refine ⟨.slice none 0 0,now,?_⟩;rw [HR.out];exact ⟨rfl,HN.out,hjl,World.ownsRow_nil _ _ _ _,hB⟩
      ·rw [if_neg hbad] at hins
       rw [decide_eq_false (fun e=>hbad (hbi.1 e))] at HB;have hlo:lo1 l j=false:=Bool.eq_false_iff.2 (fun h=>hbad (.inl h));have hcr:chr l j=((dc l j).1:Int):=by unfold chr;rw [if_pos hlt,hlo];rfl
       have htk:=take_own l j hlt hlo;have hle:=ziw l j hlt;have hp:=zb8 l j;have hrg:=zg2 l j;rw [<-hcr] at htk;have HR:=fun hl=>zee w.heap.size u7 said.length (Lib.byteCells said) (chr l j) wr (by omega) (by omega) hown hl hsz;have HR2:=HR (by omega);rw [htk,<-zdj,Lib.byteCells_length] at HR2;have hTl:((l.drop j).take (dc l j).2).length=(dc l j).2:=by simp;omega
       have HF:∀ (v5:Value) (w5:World),w5.ownsRow w.heap.size 5 1 v5 (said++(l.drop j).take (dc l j).2).length (Lib.byteCells (said++(l.drop j).take (dc l j).2))->Below w.heap.size w w5->Hid (PF2 l p w 1 (now+1) (j+(dc l j).2) (said++(l.drop j).take (dc l j).2) v5 w5):=fun v5 w5 ho hb=>⟨.inr rfl,hnx,hle,hins,by rw [List.length_append,hTl];omega,ho,hb,fun h=>by cases h⟩;rw [<-List.length_append] at HR2;obtain ⟨R,hR⟩:=ex (chr l j);rw [hR] at hx HB d34 d92 dm2 HR2;obtain ⟨S,hS⟩:=ex (said++(l.drop j).take (dc l j).2);rw [hS] at HR2 HF;have hbel:∀ w5,Below w.heap.size wr w5->Below w.heap.size w w5:=fun w5 h=>hB.trans h;clear hins hnx hdr hget c34 c92 cm2 hbi hbad hR hS htk hTl HR hcr hlo hrg
       go_wp2_with fail
       refine (HB _).mono ?_;rintro e w2 ⟨rfl,rfl⟩
       go_wp2_with fail
       refine HR2.mono ?_;rintro e w3 ⟨v3,rfl,ho3,hb3⟩;have HF3:=HF v3 w3 ho3 (hbel _ hb3);clear HF HR2 HB hbel
       go_wp2_with fail
       go_step3
       simp only [Exit.then];refine And.intro ⟨now+1,_,_,v3,_,rfl,rfl,rfl,by go_num,rfl,HF3⟩ ?_
       simp [intOf];omega
   ·have hcr:chr l j=-2:=by unfold chr;rw [if_neg hlt]
    rw [hcr] at hx;rw [zbx,if_neg hlt] at hins;obtain rfl:j=l.length:=by omega
    have HR:Hid (zbx l p []=([],l.length,32)):=hins.symm;have HN:Hid ((zak l 0).drop now=zak l l.length):=hdr;clear hins hdr hget hcr
    go_wp2_with fail
    refine zbo (bodyPost_ret (zdw _ _ _ _ _ ⟨rfl,rfl,rfl⟩) rfl ?_);refine ⟨.slice none 0 0,now,?_⟩;rw [HR.out];exact ⟨rfl,HN.out,Nat.le_refl _,World.ownsRow_nil _ _ _ _,hB⟩
def sgn (r:List UInt8):Nat:=((zdq.find? (fun s=>Lib.hasPrefix r s)).map List.length).getD 0
theorem hasP_any (r s:List UInt8) (w:World):Calls Tryz.prog 142 #[.string ⟨r.toArray⟩,.string ⟨s.toArray⟩] w fun e w'=>e=.returned (.bool (Lib.hasPrefix r s))/\w'=w:=Any.strings_HasPrefix Tryz.l99 ⟨r.toArray⟩ ⟨s.toArray⟩ w
set_option maxRecDepth 100000 in
theorem idx_sign (k:Nat) (z:List UInt8) (h:zdq[k]?=some z) (W:World):Sem.run Tryz.prog (Instr.index 209 (.agg zl8) (.int .i64 (k:Int))) W=.ok (.string ⟨z.toArray⟩) W:=by
 match k,h with
 | 0,h=>obtain rfl:=Option.some.inj h;rfl
 | 1,h=>obtain rfl:=Option.some.inj h;rfl
 | 2,h=>obtain rfl:=Option.some.inj h;rfl
 | 3,h=>obtain rfl:=Option.some.inj h;rfl
 | 4,h=>obtain rfl:=Option.some.inj h;rfl
 | 5,h=>obtain rfl:=Option.some.inj h;rfl
 | 6,h=>obtain rfl:=Option.some.inj h;rfl
 | 7,h=>obtain rfl:=Option.some.inj h;rfl
 | 8,h=>obtain rfl:=Option.some.inj h;rfl
 | 9,h=>obtain rfl:=Option.some.inj h;rfl
 | 10,h=>obtain rfl:=Option.some.inj h;rfl
 | 11,h=>obtain rfl:=Option.some.inj h;rfl
 | 12,h=>obtain rfl:=Option.some.inj h;rfl
 | 13,h=>obtain rfl:=Option.some.inj h;rfl
 | 14,h=>obtain rfl:=Option.some.inj h;rfl
 | 15,h=>obtain rfl:=Option.some.inj h;rfl
 | k+16,h=>simp at h
theorem zrh {α:Type} (p:α->Bool):∀ (L:List α) (k:Nat) (z:α),L[k]?=some z->p z=true->(∀ j y,j < k->L[j]?=some y->p y=false)->L.find? p=some z
 | [],k,z,h,_,_=>by simp at h
 | a :: L,0,z,h,hz,_=>by
  simp at h;subst h;simp [hz]
 | a :: L,k+1,z,h,hz,hn=>by
  have h0:p a=false:=hn 0 a (by omega) rfl;rw [List.find?_cons,h0];exact zrh p L k z (by simpa using h) hz (fun j y hj hy=>hn (j+1) y (by omega) (by simpa using hy))
theorem zim {α:Type} (p:α->Bool) (L:List α) (h:∀ j y,j < L.length->L[j]?=some y->p y=false):L.find? p=none:=by
 rw [List.find?_eq_none];intro x hx;obtain ⟨j,hj,e⟩:=List.mem_iff_getElem.1 hx;have:=h j x hj (by rw [List.getElem?_eq_getElem hj,e]);simp [this]
set_option maxRecDepth 100000 in
set_option maxHeartbeats 1000000 in
theorem znp (r:List UInt8) (w:World) (hg:SG w):Calls Tryz.prog 152 #[.string ⟨r.toArray⟩] w fun e w'=>e=.returned (.int .i64 (sgn r:Int))/\w'=w:=by
 have c0:w.cell? ⟨0,0,none⟩=some (.string ⟨#[33,61]⟩):=hg.cell 0;have c1:w.cell? ⟨0,1,none⟩=some (.string ⟨#[60,61]⟩):=hg.cell 1;have c2:w.cell? ⟨0,2,none⟩=some (.string ⟨#[62,61]⟩):=hg.cell 2;have c3:w.cell? ⟨0,3,none⟩=some (.string ⟨#[46,46]⟩):=hg.cell 3;have c4:w.cell? ⟨0,4,none⟩=some (.string ⟨#[45,62]⟩):=hg.cell 4;have c5:w.cell? ⟨0,5,none⟩=some (.string ⟨#[40]⟩):=hg.cell 5;have c6:w.cell? ⟨0,6,none⟩=some (.string ⟨#[41]⟩):=hg.cell 6;have c7:w.cell? ⟨0,7,none⟩=some (.string ⟨#[33]⟩):=hg.cell 7;have c8:w.cell? ⟨0,8,none⟩=some (.string ⟨#[61]⟩):=hg.cell 8;have c9:w.cell? ⟨0,9,none⟩=some (.string ⟨#[60]⟩):=hg.cell 9;have c10:w.cell? ⟨0,10,none⟩=some (.string ⟨#[62]⟩):=hg.cell 10;have c11:w.cell? ⟨0,11,none⟩=some (.string ⟨#[38]⟩):=hg.cell 11;have c12:w.cell? ⟨0,12,none⟩=some (.string ⟨#[124]⟩):=hg.cell 12;have c13:w.cell? ⟨0,13,none⟩=some (.string ⟨#[44]⟩):=hg.cell 13;have c14:w.cell? ⟨0,14,none⟩=some (.string ⟨#[58]⟩):=hg.cell 14;have c15:w.cell? ⟨0,15,none⟩=some (.string ⟨#[47]⟩):=hg.cell 15;clear hg
 go_enter Tryz.func152,Tryz.ntmps152
 go_wp2_with fail
 go_loop [6] (fun vk=>∃ k:Nat,vk=.int .i64 k/\k<=16/\(∀ (j:Nat) (z:List UInt8),j < k->zdq[j]?=some z->Lib.hasPrefix r z=false)) (fun vk=>16 - (intOf vk).toNat)
 case atStart=>exact ⟨0,rfl,by omega,fun j z hj=>by omega⟩
 case round=>
  clear c0 c1 c2 c3 c4 c5 c6 c7 c8 c9 c10 c11 c12 c13 c14 c15;obtain ⟨k,rfl,hk,hno⟩:=hrel
  by_cases hk5:k < 16
  ·have hk5':(k:Int) < 16:=by omega
   obtain ⟨z,hz⟩:∃ z,zdq[k]?=some z:=⟨_,List.getElem?_eq_getElem hk5⟩;have hx:=fun W=>idx_sign k z hz W;have HP:=fun W=>hasP_any r z W;have HN:Hid (∀ (j:Nat) (z:List UInt8),j < k->zdq[j]?=some z->Lib.hasPrefix r z=false):=hno;have HZ:Hid (zdq[k]?=some z):=hz;obtain ⟨q,hq⟩:=ex (Lib.hasPrefix r z);rw [hq] at HP;have HQ:Hid (Lib.hasPrefix r z=q):=hq;have hzl:z.length<=2:=by
    have hzz:=hz
    match k,hzz with
    | 0,h=>obtain rfl:=Option.some.inj h;decide
    | 1,h=>obtain rfl:=Option.some.inj h;decide
    | 2,h=>obtain rfl:=Option.some.inj h;decide
    | 3,h=>obtain rfl:=Option.some.inj h;decide
    | 4,h=>obtain rfl:=Option.some.inj h;decide
    | 5,h=>obtain rfl:=Option.some.inj h;decide
    | 6,h=>obtain rfl:=Option.some.inj h;decide
    | 7,h=>obtain rfl:=Option.some.inj h;decide
    | 8,h=>obtain rfl:=Option.some.inj h;decide
    | 9,h=>obtain rfl:=Option.some.inj h;decide
    | 10,h=>obtain rfl:=Option.some.inj h;decide
    | 11,h=>obtain rfl:=Option.some.inj h;decide
    | 12,h=>obtain rfl:=Option.some.inj h;decide
    | 13,h=>obtain rfl:=Option.some.inj h;decide
    | 14,h=>obtain rfl:=Option.some.inj h;decide
    | 15,h=>obtain rfl:=Option.some.inj h;decide
    | k+16,h=>simp at h
   clear hno hz hq;cases q with
   | true=>
    have HS:Hid (sgn r=z.length):=by
     unfold Hid sgn;rw [zrh _ _ k z HZ.out HQ.out HN.out];rfl
    go_wp2_with fail
    refine (HP _).mono ?_;rintro e w1 ⟨rfl,rfl⟩
    go_wp2_with fail
    go_ret
    exact ⟨by rw [HS.out];rfl,rfl⟩
   | false=>
    go_wp2_with fail
    refine (HP _).mono ?_;rintro e w1 ⟨rfl,rfl⟩
    go_wp2_with fail
    go_round
    case rel=>
     refine ⟨k+1,by go_num,by omega,fun j y hj hy=>?_⟩
     rcases Nat.lt_or_ge j k with h | h
     ·exact HN.out j y h hy
     ·obtain rfl:j=k:=by omega
      rw [HZ.out] at hy;obtain rfl:=Option.some.inj hy;exact HQ.out
    case measure=>simp [intOf];omega
  ·have hk5':¬(k:Int) < 16:=by omega
   have HS:Hid (sgn r=0):=by
    unfold Hid sgn;rw [zim _ _ (fun j y hj hy=>hno j y (by have:j < 16:=hj;omega) hy)];rfl
   clear hno
   go_wp2_with fail
   go_ret
   exact ⟨by rw [HS.out];rfl,rfl⟩

section
variable {F:Fence} {m:Nat} {P:Program}

def zry (l:Nat) (r:Loop) (In:World->Prop) (Out:Code->World->Prop):Exit->Act->World->Prop
  | .normal,_,W=>W.heap[l]?=some (.loop { r with state:=.busy })/\In (W.putObj l (.loop r))
  | .exit id,_,W=>W.heap[l]?=some (.loop { r with state:=.busy })/\Out (.exit id) (W.putObj l (.loop { r with state:=.done,pending:=some (.exit id) }))
  | .ret,_,W=>W.heap[l]?=some (.loop { r with state:=.busy })/\Out .ret (W.putObj l (.loop { r with state:=.done,pending:=some .ret }))
  | _,_,_=>False

theorem zic {l:Nat} {r:Loop} {W:World} {args:Array Value} {In:World->Prop} {Out:Code->World->Prop} (hF:F.fn r.fn) (hl:W.heap[l]?=some (.loop r)) (hr:r.state=.ready) (hp:r.pending=none) (hs:args.size=r.params.size)
    (a1:Act) (has:∀ K:Act->World->Prop,K a1 W->r.assign.wpIn (F.inRound l) m P (Exit.then K (fun _ _ _=>False)) { tmps:=(r.params.zip args).foldl (fun tmps (t,a)=>tmps.setIfInBounds t a) r.tmps,defers:=[] } W)
    (hb:r.body.wpIn (F.inRound l) m P (zry l r In Out) a1 (W.putObj l (.loop { r with state:=.busy }))) :
    YieldAt F m P l args W fun e W'=>(e=.returned (.bool true)/\In W')∨(e=.returned (.bool false)/\∃ c,Out c W'):=by
  refine ⟨_,_,_,_,run_yield hl hs,roundIn_of_wpIn hF (has _ ⟨_,run_beginRound hl hr,wpIn_mono hb ?_⟩)⟩;intro e a2 W2 h;cases e with
  | normal=>
    have q:=run_endRound (P:=P) none h.1;have e1:({ ({ r with state:=.busy }:Loop) with state:=if (none:Option Code).isNone=true then .ready else .done,pending:=none }:Loop)=r:=by
      cases r;simp_all
    rw [e1] at q;exact ⟨_,_,q,.inl ⟨rfl,h.2⟩⟩
  | exit id=>exact ⟨_,_,run_endRound (P:=P) (some (.exit id)) h.1,.inr ⟨rfl,_,h.2⟩⟩
  | ret=>exact ⟨_,_,run_endRound (P:=P) (some .ret) h.1,.inr ⟨rfl,_,h.2⟩⟩
  | goto t=>exact h.elim
  | panic c=>exact h.elim
  | outgrown=>exact h.elim

def zb7 (fn:FuncId) (tmps:Array Value) (ps:Array Tmp) (assign body:Code) (D:Nat):Loop:={ state:=.ready,pending:=none,fn,tmps,params:=ps,assign,body,defers:=D }

theorem zfy {n:Nat} {g:Operand} {ps:Array Tmp} {assign body:Code} {Q:Exit->Act->World->Prop} {a:Act} {w:World}
    (hro:F.round=none) (h1:1<=n) {gf:Nat} {lb:Array Value} (hg:a.eval g=.func (.func gf) #[] lb) (hFg:F.fn gf) (eg:∀ args w,(callFunc gf args).run P w=.ok (.enter gf args) w)
    (h:∀ fn,F.fn fn->CallsIn F (n - 1) P gf (#[.func (.yield (w.heap.size+1)) #[] #[]]++lb) ((w.alloc (.deferred (some []))).alloc (.loop (zb7 fn a.tmps ps assign body w.heap.size)))
      fun e W=>(∃ v,e=.returned v)/\∃ r,W.heap[w.heap.size+1]?=some (.loop r)/\r.state≠.busy/\
        ((r.pending=none/\Q .normal { a with defers:={ target:=.collected w.heap.size,args:=#[] } :: a.defers } (W.putObj (w.heap.size+1) (.loop { r with state:=.exhausted })))∨
         ∃ c, r.pending = some c /\ c.wpIn F n P Q { a with defers := { target := .collected w.heap.size, args := #[] } :: a.defers } (W.putObj (w.heap.size + 1) (.loop { r with state := .exhausted })))) :
    (Code.rangeFunc g ps assign body).wpIn F n P Q a w:=by
  refine wpIn_rangeFunc (fun fn hfn=>?_);rw [hro];have hd:(resolve a.eval (rangeCall g (w.heap.size+1)) 0).run P ((w.alloc (.deferred (some []))).alloc (.loop (zb7 fn a.tmps ps assign body w.heap.size)))=.ok { target:=.fn (.func gf) lb,args:=#[.func (.yield (w.heap.size+1)) #[] #[]] } ((w.alloc (.deferred (some []))).alloc (.loop (zb7 fn a.tmps ps assign body w.heap.size))):=by
    simp only [resolve,hg];simp [go_sem]
  refine ⟨_,_,_,_,_,gf,_,_,run_enterLoop_outer fn a.tmps ps assign body,hd,?_,?_,fun _=>h1,(h fn hfn).mono ?_⟩
  · intro f' hf';simp [Target.leads] at hf';subst hf';exact hFg
  · simp [invoke,go_sem,eg]
  · rintro e W ⟨⟨v,rfl⟩,r,hr,hb,hq⟩;refine ⟨_,_,run_endLoop (P:=P) hr hb,?_⟩;rcases hq with ⟨hp,hq⟩ | ⟨c,hp,hq⟩
    · rw [hp] at hq ⊢;exact hq
    · rw [hp] at hq ⊢;exact hq

theorem range_in {n:Nat} {g:Operand} {ps:Array Tmp} {assign body:Code} {Q:Exit->Act->World->Prop} {a:Act} {w:World} {l0:Nat} {r0:Loop}
    (hro:F.round=some l0) (hr0:w.heap[l0]?=some (.loop r0)) (h1:1<=n) {gf:Nat} {lb:Array Value} (hg:a.eval g=.func (.func gf) #[] lb) (hFg:F.fn gf) (eg:∀ args w,(callFunc gf args).run P w=.ok (.enter gf args) w)
    (h:∀ fn,F.fn fn->CallsIn F (n - 1) P gf (#[.func (.yield w.heap.size) #[] #[]]++lb) (w.alloc (.loop (zb7 fn a.tmps ps assign body r0.defers)))
      fun e W=>(∃ v,e=.returned v)/\∃ r,W.heap[w.heap.size]?=some (.loop r)/\r.state≠.busy/\
        ((r.pending=none/\Q .normal a (W.putObj w.heap.size (.loop { r with state:=.exhausted })))∨
         ∃ c, r.pending = some c /\ c.wpIn F n P Q a (W.putObj w.heap.size (.loop { r with state := .exhausted })))) :
    (Code.rangeFunc g ps assign body).wpIn F n P Q a w:=by
  refine wpIn_rangeFunc (fun fn hfn=>?_);rw [hro];have hd:(resolve a.eval (rangeCall g w.heap.size) 0).run P (w.alloc (.loop (zb7 fn a.tmps ps assign body r0.defers)))=.ok { target:=.fn (.func gf) lb,args:=#[.func (.yield w.heap.size) #[] #[]] } (w.alloc (.loop (zb7 fn a.tmps ps assign body r0.defers))):=by
    simp only [resolve,hg];simp [go_sem]
  refine ⟨_,_,_,_,_,gf,_,_,run_enterLoop_inner hr0 fn a.tmps ps assign body,hd,?_,?_,fun _=>h1,(h fn hfn).mono ?_⟩
  · intro f' hf';simp [Target.leads] at hf';subst hf';exact hFg
  · simp [invoke,go_sem,eg]
  · rintro e W ⟨⟨v,rfl⟩,r,hr,hb,hq⟩;refine ⟨_,_,run_endLoop (P:=P) hr hb,?_⟩;rcases hq with ⟨hp,hq⟩ | ⟨c,hp,hq⟩
    · rw [hp] at hq ⊢;exact hq
    · rw [hp] at hq ⊢;exact hq
end
end Go.Proofs.YtmfakcfmkmppfaaGreatDoor
namespace Go.Proofs.YtmfakcfmkmppfaaGreatDoor

theorem zil {α:Type} {l:List α} (m:List α) (h:l≠[]):(l++m).head?=l.head?:=by
 cases l with
 | nil=>exact absurd rfl h
 | cons a l=>rfl
def zdk (c:UInt8):Bool:=48<=c.toNat&&c.toNat<=57
def zlo (l:List UInt8):Nat:=l.foldl (fun n c=>10*n+(c.toNat - 48)) 0
def decP (l:List UInt8):Prop:=l≠[]/\l.all zdk=true/\(1 < l.length->l.head?≠some 48)
theorem zgx (l:List UInt8) (c:UInt8):zlo (l++[c])=10*zlo l+(c.toNat - 48):=by simp [zlo]
theorem decV_pos (l:List UInt8) (h:l.all zdk=true) (hn:l≠[]) (hh:l.head?≠some 48):0 < zlo l:=by
 suffices ∀ m:Nat,∀ l:List UInt8,l.length=m->l.all zdk=true->l≠[]->l.head?≠some 48->0 < zlo l from this _ l rfl h hn hh
 intro m
 induction m with
 | zero=>intro l hl _ hn _;exact absurd (List.length_eq_zero_iff.1 hl) hn
 | succ m ih=>
  intro l hl ha hn hh;obtain ⟨l',c,rfl⟩:∃ l' c,l=l'++[c]:=⟨l.dropLast,l.getLast hn,(List.dropLast_concat_getLast hn).symm⟩;rw [zgx]
  by_cases h0:l'=[]
  ·subst h0
   simp only [List.nil_append,List.head?_cons,ne_eq,Option.some.injEq] at hh;simp only [List.nil_append,List.all_cons,List.all_nil,Bool.and_true,zdk,Bool.and_eq_true,decide_eq_true_eq] at ha;have:c.toNat≠48:=fun e=>hh (UInt8.toNat_inj.1 (by simpa using e));omega
  ·have hl':l'.length=m:=by simpa using hl
   rw [List.all_append,Bool.and_eq_true] at ha;have:=ih l' hl' ha.1 h0 (by rw [zil _ h0] at hh;exact hh);omega
theorem dig_of {c:UInt8} (h:zdk c=true):UInt8.ofNat (48+(c.toNat - 48))=c:=by
 simp only [zdk,Bool.and_eq_true,decide_eq_true_eq] at h;rw [show 48+(c.toNat - 48)=c.toNat by omega];exact UInt8.ofNat_toNat
theorem dec_of (l:List UInt8) (h:decP l):Lib.decDigits (zlo l)=l:=by
 suffices ∀ m:Nat,∀ l:List UInt8,l.length=m->decP l->Lib.decDigits (zlo l)=l from this _ l rfl h
 intro m
 induction m with
 | zero=>intro l hl h;exact absurd (List.length_eq_zero_iff.1 hl) h.1
 | succ m ih=>
  intro l hl ⟨hn,ha,hh⟩;obtain ⟨l',c,rfl⟩:∃ l' c,l=l'++[c]:=⟨l.dropLast,l.getLast hn,(List.dropLast_concat_getLast hn).symm⟩;rw [List.all_append,Bool.and_eq_true] at ha;have hc:zdk c=true:=by simpa using ha.2
  have hc':=hc;simp only [zdk,Bool.and_eq_true,decide_eq_true_eq] at hc';rw [zgx]
  by_cases h0:l'=[]
  ·subst h0
   show Lib.decDigits (10*0+(c.toNat - 48))=[c];rw [Lib.decDigits_one (by omega)];simp only [Nat.mul_zero,Nat.zero_add];rw [dig_of hc]
  ·have hl':l'.length=m:=by simpa using hl
   have hl2:0 < l'.length:=List.length_pos_iff.2 h0;have hh':l'.head?≠some 48:=by
    have:=hh (by simp;omega);rw [zil _ h0] at this;exact this
   have hp:=decV_pos l' ha.1 h0 hh';rw [Lib.decDigits,dif_neg (by omega),show (10*zlo l'+(c.toNat - 48)) / 10=zlo l' by omega,show (10*zlo l'+(c.toNat - 48)) % 10=c.toNat - 48 by omega,ih l' hl' ⟨h0,ha.1,fun _=>hh'⟩,dig_of hc]
theorem zjs (d:Nat) (h:d < 10):zdk (UInt8.ofNat (48+d))=true/\(UInt8.ofNat (48+d)).toNat=48+d:=by
 have:(UInt8.ofNat (48+d)).toNat=48+d:=by rw [UInt8.toNat_ofNat'];omega
 refine ⟨?_,this⟩;simp only [zdk,this,Bool.and_eq_true,decide_eq_true_eq];omega
theorem of_dec (n:Nat):decP (Lib.decDigits n)/\zlo (Lib.decDigits n)=n/\(0 < n->(Lib.decDigits n).head?≠some 48):=by
 induction n using Nat.strongRecOn with
 | ind n ih=>
 rw [Lib.decDigits]
 split
 ·rename_i h
  obtain ⟨h1,h2⟩:=zjs n h;refine ⟨⟨by simp,by rw [List.all_cons,h1];rfl,by simp⟩,by simp only [zlo,List.foldl_cons,List.foldl_nil,h2];omega,fun hn e=>?_⟩;simp only [List.head?_cons,Option.some.injEq] at e;have:=congrArg UInt8.toNat e;rw [h2] at this;simp at this;omega
 ·rename_i h
  obtain ⟨⟨a1,a2,a3⟩,b,c⟩:=ih (n / 10) (by omega);obtain ⟨h1,h2⟩:=zjs (n % 10) (by omega);have hc:=c (by omega);have hd:(Lib.decDigits (n / 10)++[UInt8.ofNat (48+n % 10)]).head?≠some 48:=by rw [zil _ a1];exact hc
  refine ⟨⟨by simp,by rw [List.all_append,a2,List.all_cons,h1];rfl,fun _=>hd⟩,by rw [zgx,b,h2];omega,fun _=>hd⟩
theorem zkd (k n:Nat) (h:n < 10 ^ (k+1)):(Lib.decDigits n).length<=k+1:=by
 induction k generalizing n with
 | zero=>rw [Lib.decDigits_one (by simpa using h)];simp
 | succ k ih=>
  rw [Lib.decDigits]
  split
  ·simp
  ·have:=ih (n / 10) (by rw [Nat.pow_succ] at h;omega)
   rw [List.length_append,List.length_singleton];omega
theorem zln {c:UInt8} (h:zdk c=true):Lib.digitVal c=some (c.toNat - 48):=by
 simp only [zdk,Bool.and_eq_true,decide_eq_true_eq] at h;simp [Lib.digitVal,h]
theorem zoh (l:List UInt8) (h:l.all zdk=true) (a:Nat):Lib.decFrom a l=some (l.foldl (fun n c=>10*n+(c.toNat - 48)) a):=by
 induction l generalizing a with
 | nil=>rfl
 | cons c l ih=>
  rw [List.all_cons,Bool.and_eq_true] at h;simp only [Lib.decFrom,zln h.1,List.foldl_cons];rw [show a*10+(c.toNat - 48)=10*a+(c.toNat - 48) by omega];exact ih h.2 _
theorem atoi_dec (n:Nat) (hn:n < 10 ^ 10):Lib.atoiAll (Lib.decDigits n)=.ok (n:Int):=by
 obtain ⟨⟨a1,a2,a3⟩,b,_⟩:=of_dec n;rw [Lib.atoiAll_short _ (Nat.le_trans (zkd 9 n hn) (by omega))];cases hd:Lib.decDigits n with
 | nil=>exact absurd hd a1
 | cons c r=>
  rw [hd] at a2 b;have hc:zdk c=true:=by rw [List.all_cons,Bool.and_eq_true] at a2;exact a2.1
  simp only [zdk,Bool.and_eq_true,decide_eq_true_eq] at hc;have c1:(c==45)=false:=by cases h:c==45 with | false=>rfl | true=>have:=eq_of_beq h;subst this;simp at hc
  have c2:(c==43)=false:=by cases h:c==43 with | false=>rfl | true=>have:=eq_of_beq h;subst this;simp at hc
  have e:Lib.decNat (c :: r)=some n:=by
   unfold Lib.decNat;rw [zoh _ a2];show some (zlo (c :: r))=some n;rw [b]
  simp only [Lib.atoi,c1,c2,e];rfl
def zfo (l:List UInt8) (top:Nat):Option Nat:=if l≠[]/\l.all zdk=true/\¬(1 < l.length/\l.head?=some 48)/\l.length<=10/\zlo l<=top then some (zlo l) else none
theorem zm0 (l:List UInt8) (top v:Nat) (ht:top < 10 ^ 10):zfo l top=some v↔l=Lib.decDigits v/\v<=top:=by
 unfold zfo;constructor
 ·intro h
  split at h
  ·rename_i hc
   obtain ⟨h1,h2,h3,h4,h5⟩:=hc;obtain rfl:=Option.some.inj h;exact ⟨(dec_of l ⟨h1,h2,fun hl e=>h3 ⟨hl,e⟩⟩).symm,h5⟩
  ·cases h
 ·rintro ⟨rfl,hv⟩
  obtain ⟨⟨a1,a2,a3⟩,b,_⟩:=of_dec v;rw [if_pos ⟨a1,a2,fun h=>a3 h.1 h.2,zkd 9 v (by omega),by rw [b];exact hv⟩,b]
end Go.Proofs.YtmfakcfmkmppfaaGreatDoor
namespace Go.Proofs.YtmfakcfmkmppfaaGreatDoor
open Go.RowKit
theorem idx_eq {l:List UInt8} {c:UInt8} {k:Nat} (h:l[k]?=some c) (hn:∀ j,j < k->l[j]?≠some c):Lib.indexByte l c=(k:Int):=by
 have hg:=Lib.indexByte_ge l c;rcases Int.lt_or_le (Lib.indexByte l c) 0 with hi | hi
 ·exact absurd h (Lib.indexByte_none (by omega) k)
 ·obtain ⟨o,ho⟩:∃ o:Nat,Lib.indexByte l c=o:=⟨(Lib.indexByte l c).toNat,by omega⟩
  obtain ⟨h1,h2⟩:=Lib.indexByte_some ho;rcases Nat.lt_trichotomy o k with hlt | rfl | hgt
  ·exact absurd h1 (hn o hlt)
  ·exact ho
  ·exact absurd h (h2 k hgt)
theorem idx_no {l:List UInt8} {c:UInt8} (hn:∀ j,j < l.length->l[j]?≠some c):Lib.indexByte l c=-1:=by
 have hg:=Lib.indexByte_ge l c;rcases Int.lt_or_le (Lib.indexByte l c) 0 with hi | hi
 ·omega
 ·obtain ⟨o,ho⟩:∃ o:Nat,Lib.indexByte l c=o:=⟨(Lib.indexByte l c).toNat,by omega⟩
  obtain ⟨h1,_⟩:=Lib.indexByte_some ho;exact absurd h1 (hn o (List.getElem?_eq_some_iff.1 h1).1)
def zd7:Nat->Nat->List UInt8->Option Nat
 | 0,n,l=>match zfo l 255 with
  | some v=>some (256*n+v)
  | none=>none
 | k+1,n,l=>if Lib.indexByte l 46 < 0 then none else match zfo (l.take (Lib.indexByte l 46).toNat) 255 with
  | some v=>zd7 k (256*n+v) (l.drop ((Lib.indexByte l 46).toNat+1))
  | none=>none
theorem decN_le {l:List UInt8} {t v:Nat} (h:zfo l t=some v):v<=t:=by
 unfold zfo at h
 split at h
 ·rename_i hc;obtain rfl:=Option.some.inj h;exact hc.2.2.2.2
 ·cases h
theorem zq7 (l:List UInt8) (c:UInt8):Lib.indexByte l c < l.length:=by
 rcases Int.lt_or_le (Lib.indexByte l c) 0 with hi | hi
 ·omega
 ·obtain ⟨o,ho⟩:∃ o:Nat,Lib.indexByte l c=o:=⟨(Lib.indexByte l c).toNat,by omega⟩
  have:=(List.getElem?_eq_some_iff.1 (Lib.indexByte_some ho).1).1;omega
theorem zin (l:List UInt8) (i:Nat):(ByteArray.mk l.toArray).extract 0 i=⟨(l.take i).toArray⟩:=ByteArray.ext (by simp)
end Go.Proofs.YtmfakcfmkmppfaaGreatDoor
namespace Go.Proofs.YtmfakcfmkmppfaaGreatDoor
open Go.RowKit Go.Shelf

attribute [local go_sem] Oper.semAt_some

theorem zq4 (r:List UInt8) (w:World):Calls Tryz.prog 179 #[.string ⟨r.toArray⟩,.string ⟨#[46]⟩] w fun e w'=>e=.returned (.int .i64 (Lib.indexByte r 46))/\w'=w:=Any.strings_Index_one Tryz.l143 ⟨r.toArray⟩ 46 w
theorem zaz {W:World} {b:Nat} {v:Value} {t:TypeId} {m:Nat×Nat} (h:W.heap[b]?=some (.cells #[v] t m)):W.cell? ⟨b,0,none⟩=some v:=by
 unfold World.cell?;rw [h];simp
theorem zb3 {W:World} {b:Nat} {v:Value} {t:TypeId} (h:W.heap[b]?=some (.cells #[v] t (0,0))):W.frozen? ⟨b,0,none⟩=false:=by
 simp [World.frozen?,h]
def sLen (b:Nat) (W:World):Nat:=match W.cell? ⟨b,0,none⟩ with
 | some (.string s)=>s.size
 | _=>0
theorem zpo {W:World} {b:Nat} {r:List UInt8} (h:W.cell? ⟨b,0,none⟩=some (.string ⟨r.toArray⟩)):sLen b W=r.length:=by
 unfold sLen;rw [h];simp [ByteArray.size]
theorem zeg (r:List UInt8) (w:World):Calls Tryz.prog 167 #[.string ⟨r.toArray⟩,.string ⟨#[46]⟩] w fun e w'=>e=.returned (.func (.func 178) #[] #[.pointer (some ⟨w.heap.size+1,0,none⟩),.pointer (some ⟨w.heap.size,0,none⟩),.pointer (some ⟨w.heap.size+1+1,0,none⟩)])/\w'=((w.alloc (.cells #[.string ⟨r.toArray⟩] 9)).alloc (.cells #[.string ⟨#[46]⟩] 9)).alloc (.cells #[.int .i64 0] 3):=by
 go_enter Tryz.func167,Tryz.ntmps167
 go_wp2
 go_ret
 exact ⟨rfl,rfl⟩

set_option maxRecDepth 100000 in
set_option maxHeartbeats 1000000 in
theorem zh9 (n:Nat) (hn:1<=n) (l b:Nat) (J:List UInt8->World->Prop) (Jx Je:World->Prop)
  (hbox:∀ r W,J r W->W.heap[b]?=some (.cells #[.string ⟨r.toArray⟩] 9 (0,0))/\W.heap[b+1]?=some (.cells #[.string ⟨#[46]⟩] 9 (0,0))/\W.heap[b+1+1]?=some (.cells #[.int .i64 0] 3 (0,0))/\r.length<=16384)
  (hY1:∀ r W (i:Nat),J r W->Lib.indexByte r 46=i->YieldAt Fence.wide (n - 1) Tryz.prog l #[.string ⟨(r.take i).toArray⟩] W fun e W'=>
   (e=.returned (.bool true)/\W'.heap[b]?=some (.cells #[.string ⟨r.toArray⟩] 9 (0,0))/\W'.heap[b+1]?=some (.cells #[.string ⟨#[46]⟩] 9 (0,0))/\J (r.drop (i+1)) (W'.setCell ⟨b,0,none⟩ (.string ⟨(r.drop (i+1)).toArray⟩)))∨(e=.returned (.bool false)/\Jx W'))
  (hY2:∀ r W,J r W->Lib.indexByte r 46 < 0->YieldAt Fence.wide (n - 1) Tryz.prog l #[.string ⟨r.toArray⟩] W fun e W'=>(∃ x,e=.returned (.bool x))/\Je W')
  (r0:List UInt8) (W0:World) (h0:J r0 W0) :
  CallsIn Fence.wide n Tryz.prog 178 #[.func (.yield l) #[] #[],.pointer (some ⟨b+1,0,none⟩),.pointer (some ⟨b,0,none⟩),.pointer (some ⟨b+1+1,0,none⟩)] W0 fun e W'=>(∃ v,e=.returned v)/\(Jx W'∨Je W'):=by
 obtain ⟨z1,z2,z3,z4⟩:=hbox _ _ h0;have c2:=zaz z2;refine callsIn_of_wp Tryz.func178 rfl trivial ?_ rfl;simp only [Tryz.ntmps178,List.size_toArray,List.length_cons,List.length_nil,Nat.reduceAdd,Nat.reduceSub,Array.replicate_succ,Array.replicate_zero,List.push_toArray,List.append_toArray,List.nil_append,List.cons_append]
 gi_wp2
 gi_loopw [7] (fun _ wr=>∃ r,J r wr) (fun _ wr=>sLen b wr)
 case atStart=>exact ⟨r0,h0⟩
 case round=>
  clear z1 z2 z3 z4 c2;obtain ⟨r,hJ⟩:=hrel;obtain ⟨z1,z2,z3,z4⟩:=hbox _ _ hJ;have c1:=zaz z1;have c2:=zaz z2;have c3:=zaz z3;have hI:=zq4 r wr;obtain ⟨di,hdi⟩:=ex (Lib.indexByte r 46);have hd1:-1<=di:=by rw [<-hdi];exact Lib.indexByte_ge _ _
  have hd2:di < r.length:=by rw [<-hdi];exact zq7 _ _
  rw [hdi] at hI
  by_cases hneg:di < 0
  ·obtain ⟨fn,tmps,assign,body,hy,hR⟩:=hY2 r wr hJ (by rw [hdi];exact hneg)
   gi_wp2_with (refine ⟨trivial,?_⟩;gi_at_call 179;refine (callsIn_wide.2 hI).mono ?_;rintro e w' ⟨rfl,rfl⟩)
   refine hR.mono ?_;rintro e W3 ⟨⟨x,rfl⟩,hJe⟩
   gi_wp2
   go_end0
   exact ⟨⟨_,rfl⟩,.inr hJe⟩
  ·obtain ⟨i,rfl⟩:∃ i:Nat,di=i:=⟨di.toNat,by omega⟩
   have hnn:¬(i:Int) < 0:=by omega
   obtain ⟨fn,tmps,assign,body,hy,hR⟩:=hY1 r wr i hJ hdi;have hE1:=zin r i;have hE2:=zf2 r (i+1)
   gi_wp2_with (refine ⟨trivial,?_⟩;gi_at_call 179;refine (callsIn_wide.2 hI).mono ?_;rintro e w' ⟨rfl,rfl⟩)
   refine hR.mono ?_;rintro e W3 (⟨rfl,y1,y2,hJ3⟩ | ⟨rfl,hJx3⟩)
   ·have d1:=zaz y1
    have d2:=zaz y2;have f1:=zb3 y1;have hm:sLen b (W3.setCell ⟨b,0,none⟩ (.string ⟨(r.drop (i+1)).toArray⟩)) < sLen b w':=by
     rw [zpo c1,zpo (zaz (hbox _ _ hJ3).1)];simp;omega
    have HM:Hid (sLen b (W3.setCell ⟨b,0,none⟩ (.string ⟨(r.drop (i+1)).toArray⟩)) < sLen b w'):=hm;clear hm
    gi_wp2
    go_roundw
    case rel=>exact ⟨_,hJ3⟩
    case measure=>exact HM.out
   ·gi_wp2
    refine bodyPost_ret (results_none rfl _ _ _) rfl ?_;exact ⟨⟨_,rfl⟩,.inl hJx3⟩
def zau (r:List UInt8):List (List UInt8):=
 if Lib.indexByte r 46 < 0 then [r] else r.take (Lib.indexByte r 46).toNat :: zau (r.drop ((Lib.indexByte r 46).toNat+1))
termination_by r.length
decreasing_by
 have:=zq7 r 46;simp;omega
theorem zc3 {r:List UInt8} (h:Lib.indexByte r 46 < 0):zau r=[r]:=by rw [zau,if_pos h]
theorem zc2 {r:List UInt8} {i:Nat} (h:Lib.indexByte r 46=i):zau r=r.take i :: zau (r.drop (i+1)):=by
 rw [zau,if_neg (by omega),h];rfl
theorem parts_ne (r:List UInt8):0 < (zau r).length:=by
 rw [zau];split <;> simp
theorem zqc (m:Nat):∀ r:List UInt8,r.length<=m->(zau r).length<=m+1:=by
 induction m using Nat.strongRecOn with
 | ind m ih=>
 intro r hr;rw [zau]
 split
 ·simp
 ·rename_i h
  have h1:=zq7 r 46;have h2:=ih (m - 1) (by omega) (r.drop ((Lib.indexByte r 46).toNat+1)) (by simp;omega);simp only [List.length_cons];omega
def zdl (n:Nat):List (List UInt8)->Option Nat
 | []=>some n
 | p :: ps=>match zfo p 255 with
  | some v=>zdl (256*n+v) ps
  | none=>none
theorem decN_dot {r:List UInt8} {i:Nat} (h:Lib.indexByte r 46=i) (t:Nat):zfo r t=none:=by
 unfold zfo;rw [if_neg];rintro ⟨_,ha,_⟩;have h1:=(Lib.indexByte_some h).1;rw [List.all_eq_true] at ha;exact absurd (ha 46 (List.mem_of_getElem? h1)) (by decide)
theorem zeh (k:Nat):∀ (n:Nat) (r:List UInt8),zd7 k n r=if (zau r).length=k+1 then zdl n (zau r) else none:=by
 induction k with
 | zero=>
  intro n r;rw [zd7]
  by_cases h:Lib.indexByte r 46 < 0
  ·rw [zc3 h,if_pos (show [r].length=0+1 from rfl),zdl]
   cases zfo r 255 <;> rfl
  ·obtain ⟨i,hi⟩:∃ i:Nat,Lib.indexByte r 46=i:=⟨(Lib.indexByte r 46).toNat,by omega⟩
   rw [decN_dot hi,zc2 hi,if_neg];have:=parts_ne (r.drop (i+1));simp only [List.length_cons];omega
 | succ k ih=>
  intro n r;rw [zd7]
  by_cases h:Lib.indexByte r 46 < 0
  ·rw [if_pos h,zc3 h,if_neg (by simp)]
  ·obtain ⟨i,hi⟩:∃ i:Nat,Lib.indexByte r 46=i:=⟨(Lib.indexByte r 46).toNat,by omega⟩
   rw [if_neg h,zc2 hi,hi,show ((i:Int)).toNat=i from Int.toNat_natCast i,zdl];cases hd:zfo (r.take i) 255 with
   | none=>
    show none=if (r.take i :: zau (r.drop (i+1))).length=k+1+1 then none else none
    rw [ite_self]
   | some v=>
    show zd7 k (256*n+v) (r.drop (i+1))=if (r.take i :: zau (r.drop (i+1))).length=k+1+1 then zdl (256*n+v) (zau (r.drop (i+1))) else none
    rw [ih];simp only [List.length_cons,Nat.add_right_cancel_iff]
theorem zp2 {l:List UInt8} (h:(zau l).length=4->zdl 0 (zau l)=none):zd7 3 0 l=none:=by
 rw [zeh]
 split
 ·rename_i h4;exact h h4
 ·rfl
theorem shl_or (m v:Nat) (hm:m < 16777216) (hv:v<=255):bits .or .i64 (wrap64 ((m:Int)*256)) (v:Int)=((256*m+v:Nat):Int):=by
 have h1:wrap64 ((m:Int)*256)=((256*m:Nat):Int):=by unfold wrap64;omega
 rw [h1];have a1:(BitVec.ofInt 64 ((256*m:Nat):Int)).toNat=256*m:=by
  rw [BitVec.ofInt_natCast,BitVec.toNat_ofNat];exact Nat.mod_eq_of_lt (by omega)
 have a2:(BitVec.ofInt 64 (v:Int)).toNat=v:=by
  rw [BitVec.ofInt_natCast,BitVec.toNat_ofNat];exact Nat.mod_eq_of_lt (by omega)
 have a3:256*m ||| v=256*m+v:=by
  have:=Nat.two_pow_add_eq_or_of_lt (i:=8) (b:=v) (by omega) m;rw [show (256:Nat)=2 ^ 8 by decide];exact this.symm
 show IntKind.i64.wrap ((BitVec.ofInt 64 ((256*m:Nat):Int) ||| BitVec.ofInt 64 (v:Int)).toNat:Int)=_;rw [BitVec.toNat_or,a1,a2,a3,IntKind.wrap_i64];omega
end Go.Proofs.YtmfakcfmkmppfaaGreatDoor
namespace Go.Proofs.YtmfakcfmkmppfaaGreatDoor
open Go.RowKit
end Go.Proofs.YtmfakcfmkmppfaaGreatDoor
namespace Go.Proofs
open Go.Shelf
def Tryz.l171_ren:Go.Shelf.Ren:=⟨fun | 171=>190 | 243=>195 | 246=>204 | 283=>206 | 284=>207 | 285=>208 | 286=>209 | 129=>211 | 317=>210 | 318=>212 | 319=>213 | 320=>214 | 337=>215 | 338=>216 | n=>n,fun | 3=>3 | 9=>9 | 2=>2 | 4=>4 | 171=>262 | 0=>0 | 53=>66 | 37=>145 | 5=>5 | 173=>265 | 212=>271 | 51=>232 | 20=>20 | 213=>272 | 46=>214 | 232=>275 | 233=>276 | n=>n,fun | 17=>7 | 18=>8 | 19=>9 | n=>n⟩
theorem Tryz.l171:Go.Proofs.LaysM.n171 Tryz.prog Tryz.l171_ren:={
 mixed:=by kernel_rfl
 f129:=Tryz.func211.trans (congrArg some (by kernel_rfl))
 f171:=Tryz.func190.trans (congrArg some (by kernel_rfl))
 f243:=Tryz.func195.trans (congrArg some (by kernel_rfl))
 f246:=Tryz.func204.trans (congrArg some (by kernel_rfl))
 f283:=Tryz.func206.trans (congrArg some (by kernel_rfl))
 f284:=Tryz.func207.trans (congrArg some (by kernel_rfl))
 f285:=Tryz.func208.trans (congrArg some (by kernel_rfl))
 f286:=Tryz.func209.trans (congrArg some (by kernel_rfl))
 f317:=Tryz.func210.trans (congrArg some (by kernel_rfl))
 f318:=Tryz.func212.trans (congrArg some (by kernel_rfl))
 f319:=Tryz.func213.trans (congrArg some (by kernel_rfl))
 f320:=Tryz.func214.trans (congrArg some (by kernel_rfl))
 f337:=Tryz.func215.trans (congrArg some (by kernel_rfl))
 f338:=Tryz.func216.trans (congrArg some (by kernel_rfl))
 t0:=Tryz.underlying0
 a0:=Tryz.isAgg0
 z0:=Tryz.sizeOf0
 v0:=Tryz.zeroValue0
 t2:=Tryz.underlying2
 a2:=Tryz.isAgg2
 z2:=Tryz.sizeOf2
 v2:=Tryz.zeroValue2
 t3:=Tryz.underlying3
 a3:=Tryz.isAgg3
 z3:=Tryz.sizeOf3
 v3:=Tryz.zeroValue3
 t4:=Tryz.underlying4
 a4:=Tryz.isAgg4
 z4:=Tryz.sizeOf4
 v4:=Tryz.zeroValue4
 t5:=Tryz.underlying5
 a5:=Tryz.isAgg5
 z5:=Tryz.sizeOf5
 v5:=Tryz.zeroValue5
 t9:=Tryz.underlying9
 a9:=Tryz.isAgg9
 z9:=Tryz.sizeOf9
 v9:=Tryz.zeroValue9
 t20:=Tryz.underlying20
 a20:=Tryz.isAgg20
 z20:=Tryz.sizeOf20
 v20:=Tryz.zeroValue20
 t37:=Tryz.underlying145
 a37:=Tryz.isAgg145
 z37:=Tryz.sizeOf145
 v37:=Tryz.zeroValue145
 t46:=Tryz.underlying214
 a46:=Tryz.isAgg214
 z46:=Tryz.sizeOf214
 v46:=Tryz.zeroValue214
 t51:=Tryz.underlying232
 a51:=Tryz.isAgg232
 z51:=Tryz.sizeOf232
 v51:=Tryz.zeroValue232
 t53:=Tryz.underlying66
 a53:=Tryz.isAgg66
 z53:=Tryz.sizeOf66
 v53:=Tryz.zeroValue66
 t171:=Tryz.underlying262
 a171:=Tryz.isAgg262
 z171:=Tryz.sizeOf262
 v171:=Tryz.zeroValue262
 t173:=Tryz.underlying265
 a173:=Tryz.isAgg265
 z173:=Tryz.sizeOf265
 v173:=Tryz.zeroValue265
 t212:=Tryz.underlying271
 a212:=Tryz.isAgg271
 z212:=Tryz.sizeOf271
 v212:=Tryz.zeroValue271
 t213:=Tryz.underlying272
 a213:=Tryz.isAgg272
 z213:=Tryz.sizeOf272
 t232:=Tryz.underlying275
 a232:=Tryz.isAgg275
 z232:=Tryz.sizeOf275
 v232:=Tryz.zeroValue275
 t233:=Tryz.underlying276
 a233:=Tryz.isAgg276
 z233:=Tryz.sizeOf276
 v233:=Tryz.zeroValue276
 g17:=by kernel_rfl
 g18:=by kernel_rfl
 g19:=by kernel_rfl
 i0:=by kernel_rfl
 i2:=by kernel_rfl
 i3:=by kernel_rfl
 i4:=by kernel_rfl
 i5:=by kernel_rfl
 i9:=by kernel_rfl
 i20:=by kernel_rfl
 i37:=by kernel_rfl
 i46:=by kernel_rfl
 i51:=by kernel_rfl
 i53:=by kernel_rfl
 i171:=by kernel_rfl
 i173:=by kernel_rfl
 i212:=by kernel_rfl
 i232:=by kernel_rfl
 i233:=by kernel_rfl
 m17:=by kernel_rfl
 m18:=by kernel_rfl
 m19:=by kernel_rfl }
end Go.Proofs
