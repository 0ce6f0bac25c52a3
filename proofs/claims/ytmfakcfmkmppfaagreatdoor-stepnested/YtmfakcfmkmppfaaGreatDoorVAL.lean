import Derived.Test.YtmfakcfmkmppfaaGreatDoorVAK
import Derived.Deep.LoopGhost
namespace Go.Proofs.YtmfakcfmkmppfaaGreatDoor.Nt
open Go.RowKit Go.Shelf
theorem zqs {x:List UInt8} {j:Nat} (hj:j < x.length) (h:zcz (bt x j)=false/\(zdm (bt x j)=false∨j=0)):zct x=false:=by
 cases hb:zct x with
 | false=>rfl
 | true=>
  unfold zct at hb;simp only [Bool.and_eq_true,decide_eq_true_eq] at hb;obtain ⟨h0,h24,hl,ha⟩:=hb;have:=List.all_eq_true.1 ha x[j] (List.getElem_mem hj);rw [<-zdh (List.getElem?_eq_getElem hj),h.1,Bool.false_or] at this;rcases h.2 with e | e
  ·rw [e] at this;cases this
  ·subst e
   rw [h.1] at hl;cases hl
theorem nameB_ok {x:List UInt8} (h0:0 < x.length) (h24:x.length<=24) (h:∀ j,j < x.length->¬(zcz (bt x j)=false/\(zdm (bt x j)=false∨j=0))):zct x=true:=by
 unfold zct;have hl:zcz (bt x 0)=true:=by
  cases hh:zcz (bt x 0) with
  | true=>rfl
  | false=>exact absurd ⟨hh,.inr rfl⟩ (h 0 h0)
 have ha:x.all (fun c=>zcz c.toNat || zdm c.toNat)=true:=by
  rw [List.all_eq_true];intro c hc;obtain ⟨k,hk,rfl⟩:=List.getElem_of_mem hc;have:=h k hk;rw [zdh (List.getElem?_eq_getElem hk)] at this;cases h1:zcz x[k].toNat with
  | true=>rfl
  | false=>
   cases h2:zdm x[k].toNat with
   | true=>rfl
   | false=>exact absurd ⟨h1,.inl h2⟩ this
 rw [hl,ha,decide_eq_true h0,decide_eq_true h24];rfl
set_option maxRecDepth 100000 in
set_option maxHeartbeats 4000000 in
theorem zjb (x:List UInt8) (w:World):Calls Tryz.prog 107 #[.string ⟨x.toArray⟩] w fun e w'=>e=.returned (.bool (zct x))/\w'=w:=by
 by_cases h0:x.length < 1
 ·have hr:Hid (zct x=false):=by
   unfold Hid zct;rw [decide_eq_false (show ¬0 < x.length by omega)];rfl
  have i0:(x.length:Int) < 1:=by omega
  go_enter Tryz.func107,Tryz.ntmps107
  go_wp2_with fail
  go_ret
  exact ⟨by rw [hr.out];rfl,rfl⟩
 have i0:¬(x.length:Int) < 1:=by omega
 by_cases h24:24 < x.length
 ·have hr:Hid (zct x=false):=by
   unfold Hid zct;rw [decide_eq_false (show ¬x.length<=24 by omega)];simp
  have i1:(24:Int) < (x.length:Int):=by omega
  go_enter Tryz.func107,Tryz.ntmps107
  go_wp2_with fail
  go_ret
  exact ⟨by rw [hr.out];rfl,rfl⟩
 have i1:¬(24:Int) < (x.length:Int):=by omega
 obtain ⟨q,hq⟩:=ex (zct x);have HBAD:Hid (∀ j,j < x.length->zcz (bt x j)=false/\(zdm (bt x j)=false∨j=0)->q=false):=fun j hj h=>by rw [<-hq];exact zqs hj h
 have HOK:Hid ((∀ j,j < x.length->¬(zcz (bt x j)=false/\(zdm (bt x j)=false∨j=0)))->q=true):=fun h=>by rw [<-hq];exact nameB_ok (by omega) (by omega) h
 rw [hq];clear hq
 go_enter Tryz.func107,Tryz.ntmps107
 go_wp2_with fail
 go_loopw [3] (fun vj wr=>∃ j:Nat,vj=.int .i64 j/\j<=x.length/\Hid (∀ i,i < j->¬(zcz (bt x i)=false/\(zdm (bt x i)=false∨i=0)))/\wr=w) (fun vj _=>x.length - (intOf vj).toNat)
 case atStart=>exact ⟨0,rfl,Nat.zero_le _,fun i hi=>by omega,rfl⟩
 case round=>
  obtain ⟨j,rfl,hj,hno,rfl⟩:=hrel
  by_cases hlt:j < x.length
  ·have j0:(0:Int)<=(j:Int):=by omega
   have j1:(j:Int) < (x.length:Int):=by omega
   obtain ⟨d,hd,hld⟩:=zf7 x j hlt;have hbt:=zdh hld;have hd256:=d.toNat_lt;have HNX:Hid (¬(zcz (bt x j)=false/\(zdm (bt x j)=false∨j=0))->∀ i,i < j+1->¬(zcz (bt x i)=false/\(zdm (bt x i)=false∨i=0))):=fun h i hi=>by
    rcases Nat.lt_or_ge i j with h1 | h1
    ·exact hno.out i h1
    ·obtain rfl:i=j:=by omega
     exact h
   have HBJ:Hid (zcz (bt x j)=false/\(zdm (bt x j)=false∨j=0)->q=false):=HBAD.out j hlt;rw [hbt] at HNX HBJ;clear hld hno hbt;rcases (show d.toNat<=47∨(48<=d.toNat/\d.toNat<=57)∨(58<=d.toNat/\d.toNat<=64)∨(65<=d.toNat/\d.toNat<=90)∨(91<=d.toNat/\d.toNat<=94)∨d.toNat=95∨d.toNat=96∨(97<=d.toNat/\d.toNat<=122)∨123<=d.toNat by omega) with hr | hr | hr | hr | hr | hr | hr | hr | hr
   ·have a97:¬(97:Int)<=(d.toNat:Int):=by omega
    have a122:(d.toNat:Int)<=122:=by omega
    have a65:¬(65:Int)<=(d.toNat:Int):=by omega
    have a90:(d.toNat:Int)<=90:=by omega
    have a48:(d.toNat:Int) < 48:=by omega
    have a57:¬(57:Int) < (d.toNat:Int):=by omega
    have a95:((d.toNat:Int)==95)=false:=beq_eq_false_iff_ne.2 (by omega);have hl:zcz d.toNat=false:=by unfold zcz;simp;omega
    have hdg:zdm d.toNat=false:=by unfold zdm;simp;omega
    obtain rfl:q=false:=HBJ.out ⟨hl,.inl hdg⟩
    by_cases hz:j=0
    ·have z0:((j:Int)==0)=true:=beq_iff_eq.2 (by omega)
     clear hz;clear hl hdg;clear HNX HBJ
     go_wp2_with fail
     go_ret
     exact ⟨rfl,rfl⟩
    ·have z0:((j:Int)==0)=false:=beq_eq_false_iff_ne.2 (by omega)
     clear hz;clear hl hdg;clear HNX HBJ
     go_wp2_with fail
     go_ret
     exact ⟨rfl,rfl⟩
   ·have a97:¬(97:Int)<=(d.toNat:Int):=by omega
    have a122:(d.toNat:Int)<=122:=by omega
    have a65:¬(65:Int)<=(d.toNat:Int):=by omega
    have a90:(d.toNat:Int)<=90:=by omega
    have a48:¬(d.toNat:Int) < 48:=by omega
    have a57:¬(57:Int) < (d.toNat:Int):=by omega
    have a95:((d.toNat:Int)==95)=false:=beq_eq_false_iff_ne.2 (by omega);have hl:zcz d.toNat=false:=by unfold zcz;simp;omega
    have hdg:zdm d.toNat=true:=by unfold zdm;simp;omega
    by_cases hz:j=0
    ·have z0:((j:Int)==0)=true:=beq_iff_eq.2 (by omega)
     obtain rfl:q=false:=HBJ.out ⟨hl,.inr hz⟩;clear hz;clear hl hdg;clear HNX HBJ
     go_wp2_with fail
     go_ret
     exact ⟨rfl,rfl⟩
    ·have z0:((j:Int)==0)=false:=beq_eq_false_iff_ne.2 (by omega)
     have HN2:Hid (∀ i,i < j+1->¬(zcz (bt x i)=false/\(zdm (bt x i)=false∨i=0))):=HNX.out (fun h=>by
      rw [hdg] at h;rcases h.2 with e | e
      ·cases e
      ·exact hz e)
     clear hz;clear hl hdg;clear HBJ HNX
     go_wp2_with fail
     go_roundw
     case rel=>exact ⟨j+1,by go_num,by omega,HN2,by first | rfl | trivial⟩
     case measure=>simp [intOf];omega
   ·have a97:¬(97:Int)<=(d.toNat:Int):=by omega
    have a122:(d.toNat:Int)<=122:=by omega
    have a65:¬(65:Int)<=(d.toNat:Int):=by omega
    have a90:(d.toNat:Int)<=90:=by omega
    have a48:¬(d.toNat:Int) < 48:=by omega
    have a57:(57:Int) < (d.toNat:Int):=by omega
    have a95:((d.toNat:Int)==95)=false:=beq_eq_false_iff_ne.2 (by omega);have hl:zcz d.toNat=false:=by unfold zcz;simp;omega
    have hdg:zdm d.toNat=false:=by unfold zdm;simp;omega
    obtain rfl:q=false:=HBJ.out ⟨hl,.inl hdg⟩
    by_cases hz:j=0
    ·have z0:((j:Int)==0)=true:=beq_iff_eq.2 (by omega)
     clear hz;clear hl hdg;clear HNX HBJ
     go_wp2_with fail
     go_ret
     exact ⟨rfl,rfl⟩
    ·have z0:((j:Int)==0)=false:=beq_eq_false_iff_ne.2 (by omega)
     clear hz;clear hl hdg;clear HNX HBJ
     go_wp2_with fail
     go_ret
     exact ⟨rfl,rfl⟩
   ·have a97:¬(97:Int)<=(d.toNat:Int):=by omega
    have a122:(d.toNat:Int)<=122:=by omega
    have a65:(65:Int)<=(d.toNat:Int):=by omega
    have a90:(d.toNat:Int)<=90:=by omega
    have a48:¬(d.toNat:Int) < 48:=by omega
    have a57:(57:Int) < (d.toNat:Int):=by omega
    have a95:((d.toNat:Int)==95)=false:=beq_eq_false_iff_ne.2 (by omega);have hl:zcz d.toNat=true:=by unfold zcz;simp;omega
    have hdg:zdm d.toNat=false:=by unfold zdm;simp;omega
    have HN2:Hid (∀ i,i < j+1->¬(zcz (bt x i)=false/\(zdm (bt x i)=false∨i=0))):=HNX.out (fun h=>by rw [hl] at h;cases h.1);clear hl hdg;clear HBJ HNX
    go_wp2_with fail
    go_roundw
    case rel=>exact ⟨j+1,by go_num,by omega,HN2,by first | rfl | trivial⟩
    case measure=>simp [intOf];omega
   ·have a97:¬(97:Int)<=(d.toNat:Int):=by omega
    have a122:(d.toNat:Int)<=122:=by omega
    have a65:(65:Int)<=(d.toNat:Int):=by omega
    have a90:¬(d.toNat:Int)<=90:=by omega
    have a48:¬(d.toNat:Int) < 48:=by omega
    have a57:(57:Int) < (d.toNat:Int):=by omega
    have a95:((d.toNat:Int)==95)=false:=beq_eq_false_iff_ne.2 (by omega);have hl:zcz d.toNat=false:=by unfold zcz;simp;omega
    have hdg:zdm d.toNat=false:=by unfold zdm;simp;omega
    obtain rfl:q=false:=HBJ.out ⟨hl,.inl hdg⟩
    by_cases hz:j=0
    ·have z0:((j:Int)==0)=true:=beq_iff_eq.2 (by omega)
     clear hz;clear hl hdg;clear HNX HBJ
     go_wp2_with fail
     go_ret
     exact ⟨rfl,rfl⟩
    ·have z0:((j:Int)==0)=false:=beq_eq_false_iff_ne.2 (by omega)
     clear hz;clear hl hdg;clear HNX HBJ
     go_wp2_with fail
     go_ret
     exact ⟨rfl,rfl⟩
   ·have a97:¬(97:Int)<=(d.toNat:Int):=by omega
    have a122:(d.toNat:Int)<=122:=by omega
    have a65:(65:Int)<=(d.toNat:Int):=by omega
    have a90:¬(d.toNat:Int)<=90:=by omega
    have a48:¬(d.toNat:Int) < 48:=by omega
    have a57:(57:Int) < (d.toNat:Int):=by omega
    have a95:((d.toNat:Int)==95)=true:=beq_iff_eq.2 (by omega);have hl:zcz d.toNat=true:=by unfold zcz;simp;omega
    have hdg:zdm d.toNat=false:=by unfold zdm;simp;omega
    have HN2:Hid (∀ i,i < j+1->¬(zcz (bt x i)=false/\(zdm (bt x i)=false∨i=0))):=HNX.out (fun h=>by rw [hl] at h;cases h.1);clear hl hdg;clear HBJ HNX
    go_wp2_with fail
    go_roundw
    case rel=>exact ⟨j+1,by go_num,by omega,HN2,by first | rfl | trivial⟩
    case measure=>simp [intOf];omega
   ·have a97:¬(97:Int)<=(d.toNat:Int):=by omega
    have a122:(d.toNat:Int)<=122:=by omega
    have a65:(65:Int)<=(d.toNat:Int):=by omega
    have a90:¬(d.toNat:Int)<=90:=by omega
    have a48:¬(d.toNat:Int) < 48:=by omega
    have a57:(57:Int) < (d.toNat:Int):=by omega
    have a95:((d.toNat:Int)==95)=false:=beq_eq_false_iff_ne.2 (by omega);have hl:zcz d.toNat=false:=by unfold zcz;simp;omega
    have hdg:zdm d.toNat=false:=by unfold zdm;simp;omega
    obtain rfl:q=false:=HBJ.out ⟨hl,.inl hdg⟩
    by_cases hz:j=0
    ·have z0:((j:Int)==0)=true:=beq_iff_eq.2 (by omega)
     clear hz;clear hl hdg;clear HNX HBJ
     go_wp2_with fail
     go_ret
     exact ⟨rfl,rfl⟩
    ·have z0:((j:Int)==0)=false:=beq_eq_false_iff_ne.2 (by omega)
     clear hz;clear hl hdg;clear HNX HBJ
     go_wp2_with fail
     go_ret
     exact ⟨rfl,rfl⟩
   ·have a97:(97:Int)<=(d.toNat:Int):=by omega
    have a122:(d.toNat:Int)<=122:=by omega
    have a65:(65:Int)<=(d.toNat:Int):=by omega
    have a90:¬(d.toNat:Int)<=90:=by omega
    have a48:¬(d.toNat:Int) < 48:=by omega
    have a57:(57:Int) < (d.toNat:Int):=by omega
    have a95:((d.toNat:Int)==95)=false:=beq_eq_false_iff_ne.2 (by omega);have hl:zcz d.toNat=true:=by unfold zcz;simp;omega
    have hdg:zdm d.toNat=false:=by unfold zdm;simp;omega
    have HN2:Hid (∀ i,i < j+1->¬(zcz (bt x i)=false/\(zdm (bt x i)=false∨i=0))):=HNX.out (fun h=>by rw [hl] at h;cases h.1);clear hl hdg;clear HBJ HNX
    go_wp2_with fail
    go_roundw
    case rel=>exact ⟨j+1,by go_num,by omega,HN2,by first | rfl | trivial⟩
    case measure=>simp [intOf];omega
   ·have a97:(97:Int)<=(d.toNat:Int):=by omega
    have a122:¬(d.toNat:Int)<=122:=by omega
    have a65:(65:Int)<=(d.toNat:Int):=by omega
    have a90:¬(d.toNat:Int)<=90:=by omega
    have a48:¬(d.toNat:Int) < 48:=by omega
    have a57:(57:Int) < (d.toNat:Int):=by omega
    have a95:((d.toNat:Int)==95)=false:=beq_eq_false_iff_ne.2 (by omega);have hl:zcz d.toNat=false:=by unfold zcz;simp;omega
    have hdg:zdm d.toNat=false:=by unfold zdm;simp;omega
    obtain rfl:q=false:=HBJ.out ⟨hl,.inl hdg⟩
    by_cases hz:j=0
    ·have z0:((j:Int)==0)=true:=beq_iff_eq.2 (by omega)
     clear hz;clear hl hdg;clear HNX HBJ
     go_wp2_with fail
     go_ret
     exact ⟨rfl,rfl⟩
    ·have z0:((j:Int)==0)=false:=beq_eq_false_iff_ne.2 (by omega)
     clear hz;clear hl hdg;clear HNX HBJ
     go_wp2_with fail
     go_ret
     exact ⟨rfl,rfl⟩
  ·have j1:¬(j:Int) < (x.length:Int):=by omega
   obtain rfl:j=x.length:=by omega
   obtain rfl:q=true:=HOK.out hno.out
   go_wp2_with fail
   go_ret
   exact ⟨rfl,rfl⟩
def zoq (x:List UInt8):Bool:=decide (1<=x.length)&&(decide (x.length<=256)&&x.all zb9)
set_option maxRecDepth 100000 in
set_option maxHeartbeats 4000000 in
theorem cube_any (x:List UInt8) (w:World):Calls Tryz.prog 108 #[.string ⟨x.toArray⟩] w fun e w'=>e=.returned (.bool (zoq x))/\w'=w:=by
 by_cases h0:x.length < 1
 ·have hr:Hid (zoq x=false):=by
   unfold Hid zoq;rw [decide_eq_false (show ¬1<=x.length by omega)];rfl
  have i0:(x.length:Int) < 1:=by omega
  go_enter Tryz.func108,Tryz.ntmps108
  go_wp2_with fail
  go_ret
  exact ⟨by rw [hr.out];rfl,rfl⟩
 have i0:¬(x.length:Int) < 1:=by omega
 by_cases h24:256 < x.length
 ·have hr:Hid (zoq x=false):=by
   unfold Hid zoq;rw [decide_eq_false (show ¬x.length<=256 by omega)];simp
  have i1:(256:Int) < (x.length:Int):=by omega
  go_enter Tryz.func108,Tryz.ntmps108
  go_wp2_with fail
  go_ret
  exact ⟨by rw [hr.out];rfl,rfl⟩
 have i1:¬(256:Int) < (x.length:Int):=by omega
 obtain ⟨q,hq⟩:=ex (zoq x);have HBAD:Hid (∀ (j:Nat) (c:UInt8),x[j]?=some c->zb9 c=false->q=false):=fun j c hj h=>by
  rw [<-hq];unfold zoq;have:x.all zb9=false:=by
   rw [List.all_eq_false];exact ⟨c,List.mem_of_getElem? hj,by rw [h];decide⟩
  rw [this];simp
 have HOK:Hid ((∀ (j:Nat) (c:UInt8),j < x.length->x[j]?=some c->zb9 c=true)->q=true):=fun h=>by
  rw [<-hq];unfold zoq;have:x.all zb9=true:=by
   rw [List.all_eq_true];intro c hc;obtain ⟨k,hk,rfl⟩:=List.getElem_of_mem hc;exact h k _ hk (List.getElem?_eq_getElem hk)
  rw [this,decide_eq_true (by omega),decide_eq_true (by omega)];rfl
 rw [hq];clear hq
 go_enter Tryz.func108,Tryz.ntmps108
 go_wp2_with fail
 go_loopw [3] (fun vj wr=>∃ j:Nat,vj=.int .i64 j/\j<=x.length/\Hid (∀ (i:Nat) (c:UInt8),i < j->x[i]?=some c->zb9 c=true)/\wr=w) (fun vj _=>x.length - (intOf vj).toNat)
 case atStart=>exact ⟨0,rfl,Nat.zero_le _,fun i c hi=>by omega,rfl⟩
 case round=>
  obtain ⟨j,rfl,hj,hno,rfl⟩:=hrel
  by_cases hlt:j < x.length
  ·have j0:(0:Int)<=(j:Int):=by omega
   have j1:(j:Int) < (x.length:Int):=by omega
   obtain ⟨d,hd,hld⟩:=zf7 x j hlt;have HNX:Hid (zb9 d=true->∀ (i:Nat) (c:UInt8),i < j+1->x[i]?=some c->zb9 c=true):=fun h i c hi hc=>by
    rcases Nat.lt_or_ge i j with h1 | h1
    ·exact hno.out i c h1 hc
    ·obtain rfl:i=j:=by omega
     rw [hld] at hc;rw [<-Option.some.inj hc];exact h
   have HBJ:Hid (zb9 d=false->q=false):=HBAD.out j d hld;have HIS:Hid (zb9 d=(d.toNat==48 || d.toNat==49 || d.toNat==120)):=by
    show zb9 d=_;unfold zb9;have e:∀ k:UInt8,(d==k)=(d.toNat==k.toNat):=fun k=>by
     rw [Bool.eq_iff_iff,beq_iff_eq,beq_iff_eq];exact ⟨fun h=>by rw [h],fun h=>UInt8.toNat_inj.1 h⟩
    rw [e,e,e];rfl
   clear hld hno;rcases (show d.toNat=48∨d.toNat=49∨d.toNat=120∨(d.toNat≠48/\d.toNat≠49/\d.toNat≠120) by omega) with hr | hr | hr | hr
   ·have a1:((d.toNat:Int) != 48)=false:=by rw [hr];rfl
    have b1:((d.toNat:Int)==48)=true:=by rw [hr];rfl
    have a2:((d.toNat:Int) != 49)=true:=by rw [bne_iff_ne];omega
    have b2:((d.toNat:Int)==49)=false:=beq_eq_false_iff_ne.2 (by omega);have a3:((d.toNat:Int) != 120)=true:=by rw [bne_iff_ne];omega
    have b3:((d.toNat:Int)==120)=false:=beq_eq_false_iff_ne.2 (by omega);have HN2:=zab (HNX.out (by rw [HIS.out,hr];rfl));clear HBJ HNX HIS hr
    go_wp2_with fail
    go_roundw
    case rel=>exact ⟨j+1,by go_num,by omega,HN2,by first | rfl | trivial⟩
    case measure=>simp [intOf];omega
   ·have a1:((d.toNat:Int) != 48)=true:=by rw [bne_iff_ne];omega
    have b1:((d.toNat:Int)==48)=false:=beq_eq_false_iff_ne.2 (by omega);have a2:((d.toNat:Int) != 49)=false:=by rw [hr];rfl
    have b2:((d.toNat:Int)==49)=true:=by rw [hr];rfl
    have a3:((d.toNat:Int) != 120)=true:=by rw [bne_iff_ne];omega
    have b3:((d.toNat:Int)==120)=false:=beq_eq_false_iff_ne.2 (by omega);have HN2:=zab (HNX.out (by rw [HIS.out,hr];rfl));clear HBJ HNX HIS hr
    go_wp2_with fail
    go_roundw
    case rel=>exact ⟨j+1,by go_num,by omega,HN2,by first | rfl | trivial⟩
    case measure=>simp [intOf];omega
   ·have a1:((d.toNat:Int) != 48)=true:=by rw [bne_iff_ne];omega
    have b1:((d.toNat:Int)==48)=false:=beq_eq_false_iff_ne.2 (by omega);have a2:((d.toNat:Int) != 49)=true:=by rw [bne_iff_ne];omega
    have b2:((d.toNat:Int)==49)=false:=beq_eq_false_iff_ne.2 (by omega);have a3:((d.toNat:Int) != 120)=false:=by rw [hr];rfl
    have b3:((d.toNat:Int)==120)=true:=by rw [hr];rfl
    have HN2:=zab (HNX.out (by rw [HIS.out,hr];rfl));clear HBJ HNX HIS hr
    go_wp2_with fail
    go_roundw
    case rel=>exact ⟨j+1,by go_num,by omega,HN2,by first | rfl | trivial⟩
    case measure=>simp [intOf];omega
   ·have a1:((d.toNat:Int) != 48)=true:=by rw [bne_iff_ne];omega
    have b1:((d.toNat:Int)==48)=false:=beq_eq_false_iff_ne.2 (by omega);have a2:((d.toNat:Int) != 49)=true:=by rw [bne_iff_ne];omega
    have b2:((d.toNat:Int)==49)=false:=beq_eq_false_iff_ne.2 (by omega);have a3:((d.toNat:Int) != 120)=true:=by rw [bne_iff_ne];omega
    have b3:((d.toNat:Int)==120)=false:=beq_eq_false_iff_ne.2 (by omega);obtain rfl:q=false:=HBJ.out (by rw [HIS.out];simp [hr]);clear HNX HBJ HIS
    go_wp2_with fail
    go_ret
    exact ⟨rfl,rfl⟩
  ·have j1:¬(j:Int) < (x.length:Int):=by omega
   obtain rfl:j=x.length:=by omega
   obtain rfl:q=true:=HOK.out hno.out
   go_wp2_with fail
   go_ret
   exact ⟨rfl,rfl⟩
theorem cubD_iff {bits:Int} (hb:1<=bits/\bits<=256) (x:List UInt8):(zoq x=true/\(x.length:Int)=bits)↔za4 bits x:=by
 unfold zoq za4;simp only [Bool.and_eq_true,decide_eq_true_eq];constructor
 ·rintro ⟨⟨_,_,h⟩,h2⟩
  exact ⟨h2,h⟩
 ·rintro ⟨h2,h⟩
  exact ⟨⟨by omega,by omega,h⟩,h2⟩
theorem zin (x:List UInt8) (i:Nat) (_h:i<=x.length):ByteArray.extract ⟨x.toArray⟩ 0 i=⟨(x.take i).toArray⟩:=ByteArray.ext (by simp)
theorem ext_from (x:List UInt8) (i:Nat):ByteArray.extract ⟨x.toArray⟩ i x.length=⟨(x.drop i).toArray⟩:=ByteArray.ext (by simp;exact List.take_of_length_le (by simp))
set_option maxRecDepth 100000 in
set_option maxHeartbeats 8000000 in
theorem zou (x:List UInt8) (w:World) (hl:okS x):Calls Tryz.prog 90 #[.string ⟨x.toArray⟩] w fun e w'=>e=.returned (.bool (zcw x))/\w'=w:=by
 have hl:x.length<=140737488351232:=hl;obtain ⟨q,hq⟩:=ex (zcw x);have HDOT:Hid (∀ j,(∀ i,i < j->bt x i≠46)->j < x.length->bt x j=46->q=(zct (x.take j)&&zct (x.drop (j+1)))):=fun j h1 h2 h3=>by
  rw [<-hq];unfold zcw;rw [zf4 x j h1 (by omega) (fun _=>h3),decide_eq_true h2,Bool.true_and]
 have HNOD:Hid ((∀ i,i < x.length->bt x i≠46)->q=false):=fun h1=>by
  rw [<-hq];unfold zcw;rw [zf4 x x.length h1 (Nat.le_refl _) (fun h=>by omega),decide_eq_false (by omega),Bool.false_and]
 rw [hq];clear hq
 go_enter Tryz.func90,Tryz.ntmps90
 go_wp2_with fail
 go_loopw [3] (fun vj wr=>∃ j:Nat,vj=.int .i64 (j:Int)/\j<=x.length/\Hid (∀ i,i < j->bt x i≠46)/\wr=w) (fun vj _=>x.length - (intOf vj).toNat)
 case atStart=>exact ⟨0,rfl,Nat.zero_le _,fun i hi=>by omega,rfl⟩
 case round=>
  obtain ⟨j,rfl,hj,hno,rfl⟩:=hrel
  by_cases hlt:j < x.length
  ·have j0:(0:Int)<=(j:Int):=by omega
   have j1:(j:Int) < (x.length:Int):=by omega
   obtain ⟨d,hd,hld⟩:=zf7 x j hlt;have hbt:=zdh hld
   by_cases h46:d.toNat=46
   ·have a1:((d.toNat:Int)==46)=true:=by rw [h46];rfl
    have HQ:=zab (HDOT.out j hno.out hlt (by rw [hbt,h46]));have j2:(j:Int)<=(x.length:Int):=by omega
    have j3:j<=x.length:=by omega
    have y1:IntKind.i64.wrap ((j:Int)+1)=((j+1:Nat):Int):=by rw [IntKind.wrap_i64];omega
    obtain ⟨j9,hj9⟩:=ex (j+1);rw [hj9] at y1 HQ;have j4:(j9:Int)<=(x.length:Int):=by omega
    have j5:j9<=x.length:=by omega
    have j6:(0:Int)<=(j9:Int):=by omega
    have HN1:Calls Tryz.prog 107 #[.string (ByteArray.extract ⟨x.toArray⟩ 0 j)] wr fun e w'=>e=.returned (.bool (zct (x.take j)))/\w'=wr:=by rw [zin x j j3];exact zjb _ wr
    have HN2:Calls Tryz.prog 107 #[.string (ByteArray.extract ⟨x.toArray⟩ j9 x.length)] wr fun e w'=>e=.returned (.bool (zct (x.drop j9)))/\w'=wr:=by rw [ext_from x j9];exact zjb _ wr
    obtain ⟨A,hA⟩:=ex (zct (x.take j));obtain ⟨C,hC⟩:=ex (zct (x.drop j9));rw [hA] at HN1 HQ;rw [hC] at HN2 HQ;clear hbt hld hno HDOT HNOD hj9 hA hC;cases A with
    | false=>
     go_wp2_with fail
     refine HN1.mono ?_;rintro e W2 ⟨rfl,hw⟩;obtain rfl:=hw.symm;clear hw HN1
     go_wp2_with fail
     go_ret
     exact ⟨by rw [HQ.out];rfl,by first | rfl | trivial⟩
    | true=>
     go_wp2_with fail
     refine HN1.mono ?_;rintro e W2 ⟨rfl,hw⟩;obtain rfl:=hw.symm;clear hw HN1
     go_wp2_with fail
     refine HN2.mono ?_;rintro e W2 ⟨rfl,hw⟩;obtain rfl:=hw.symm;clear hw HN2
     go_wp2_with fail
     go_ret
     exact ⟨by rw [HQ.out];rfl,by first | rfl | trivial⟩
   ·have a1:((d.toNat:Int)==46)=false:=beq_eq_false_iff_ne.2 (by omega)
    have HN2:Hid (∀ i,i < j+1->bt x i≠46):=fun i hi=>by
     rcases Nat.lt_or_ge i j with h1 | h1
     ·exact hno.out i h1
     ·obtain rfl:i=j:=by omega
      rw [hbt];exact h46
    clear hbt hld hno HDOT HNOD h46
    go_wp2_with fail
    go_roundw
    case rel=>exact ⟨j+1,by go_num,by omega,HN2,by first | rfl | trivial⟩
    case measure=>simp [intOf];omega
  ·obtain rfl:j=x.length:=by omega
   have j1:¬(x.length:Int) < (x.length:Int):=by omega
   have HQ:=zab (HNOD.out hno.out);clear hno HDOT HNOD
   go_wp2_with fail
   go_ret
   exact ⟨by rw [HQ.out];rfl,by first | rfl | trivial⟩
set_option maxRecDepth 100000 in
set_option maxHeartbeats 8000000 in
theorem ze6 (bits:Int) (L:List (List UInt8)) (p:Option Addr) (n c mo:Nat) (w:World) (hn:L.length=n) (hL:LS w p L) (hb:1<=bits/\bits<=256) (hO:okLs L) :
  Calls Tryz.prog 91 #[.int .i64 bits,.slice p n c,.int .i64 (mo:Int)] w (BQ (L.length<=mo/\∀ c∈L,za4 bits c) w):=by
 have HN:Hid (L.length=n/\LS w p L/\n<=140737488351232):=⟨hn,hL,by have:=hO.1;omega⟩;have HCU:Hid (∀ x:List UInt8,(zoq x=true/\(x.length:Int)=bits)↔za4 bits x):=cubD_iff hb;have HQN:Hid (∀ k x,L[k]?=some x->¬za4 bits x->BQ (L.length<=mo/\∀ c∈L,za4 bits c) w (.returned (.bool false)) w):=fun k x hx h=>BQ.no (fun hh=>h (hh.2 x (List.mem_of_getElem? hx))) (Below.refl _ _);clear hn hL hb hO
 by_cases hm:mo < n
 ·have j0:(mo:Int) < (n:Int):=by omega
  have HQ:Hid (BQ (L.length<=mo/\∀ c∈L,za4 bits c) w (.returned (.bool false)) w):=BQ.no (fun hh=>by have:=HN.out.1;omega) (Below.refl _ _);clear HN HCU HQN hm
  go_enter Tryz.func91,Tryz.ntmps91
  go_wp2_with fail
  go_ret
  exact HQ.out
 have j0:¬(mo:Int) < (n:Int):=by omega
 go_enter Tryz.func91,Tryz.ntmps91
 go_wp2_with fail
 go_loopw [7] (fun vj wr=>∃ k:Nat,vj=.int .i64 (k:Int)/\k<=n/\Hid (∀ i x,i < k->L[i]?=some x->za4 bits x)/\wr=w) (fun vj _=>n - (intOf vj).toNat)
 case atStart=>exact ⟨0,rfl,Nat.zero_le _,fun i x hi=>by omega,rfl⟩
 case round=>
  obtain ⟨k,rfl,hk,hok,rfl⟩:=hrel;have hn47:=HN.out.2.2
  by_cases hlt:k < n
  ·obtain ⟨x,hx⟩:∃ x,L[k]?=some x:=⟨_,List.getElem?_eq_getElem (by have:=HN.out.1;omega)⟩
   obtain ⟨g,o,rfl,c0⟩:=HN.out.2.1 k x hx;have j1:(0:Int)<=(k:Int):=by omega
   have j2:(k:Int) < (n:Int):=by omega
   have HCB:=cube_any x wr;have HX:=zab hx;have HI:=zab (HCU.out x);have HNX:Hid (za4 bits x->∀ i y,i < k+1->L[i]?=some y->za4 bits y):=fun h i y hi hy=>by
    rcases Nat.lt_or_ge i k with h1 | h1
    ·exact hok.out i y h1 hy
    ·obtain rfl:i=k:=by omega
     rw [HX.out] at hy;rw [<-Option.some.inj hy];exact h
   clear hx hok HCU;cases hcb:zoq x with
   | false=>
    rw [hcb] at HCB;have HQ:=zab (HQN.out k x HX.out (fun h=>by have:=(HI.out.2 h).1;rw [hcb] at this;cases this));clear hcb HI HNX HQN HX
    go_wp2_with fail
    refine HCB.mono ?_;rintro e W2 ⟨rfl,hw⟩;obtain rfl:=hw.symm;clear hw HCB
    go_wp2_with fail
    go_ret
    exact HQ.out
   | true=>
    rw [hcb] at HCB
    by_cases hle:(x.length:Int)=bits
    ·have HN1:=zab (HNX.out (HI.out.1 ⟨hcb,hle⟩))
     have y1:((x.length:Int)==bits)=true:=beq_iff_eq.2 hle;have y2:((x.length:Int) != bits)=false:=by simp only [bne,y1];rfl
     clear hcb HI HNX HQN HX hle
     go_wp2_with fail
     refine HCB.mono ?_;rintro e W2 ⟨rfl,hw⟩;obtain rfl:=hw.symm;clear hw HCB
     go_wp2_with fail
     go_roundw
     case rel=>exact ⟨k+1,by go_num,by omega,HN1,by first | rfl | trivial⟩
     case measure=>simp [intOf];omega
    ·have HQ:=zab (HQN.out k x HX.out (fun h=>hle (HI.out.2 h).2))
     have y1:((x.length:Int)==bits)=false:=beq_eq_false_iff_ne.2 hle;have y2:((x.length:Int) != bits)=true:=by simp only [bne,y1];rfl
     clear hcb HI HNX HQN HX hle
     go_wp2_with fail
     refine HCB.mono ?_;rintro e W2 ⟨rfl,hw⟩;obtain rfl:=hw.symm;clear hw HCB
     go_wp2_with fail
     go_ret
     exact HQ.out
  ·obtain rfl:k=n:=by omega
   have j1:¬(k:Int) < (k:Int):=by omega
   have HQ:Hid (BQ (L.length<=mo/\∀ c∈L,za4 bits c) wr (.returned (.bool true)) wr):=BQ.yes ⟨by have:=HN.out.1;omega,fun x hx=>by
    obtain ⟨i,hi,rfl⟩:=List.getElem_of_mem hx;exact hok.out i _ (by have:=HN.out.1;omega) (List.getElem?_eq_getElem hi)⟩ (Below.refl _ _)
   clear HCU HQN hok
   go_wp2_with fail
   go_ret
   exact HQ.out
set_option maxRecDepth 100000 in
set_option maxHeartbeats 8000000 in
theorem zot (n:NN) (v:NV) (p box:Int) (b:Bool) (w:World) (hN:LN w n v) :
  Calls Tryz.prog 109 #[.agg (nnA n v),.int .i64 p,.int .i64 box,.bool b] w (BQ (zbt n box p b) w):=by
 obtain ⟨pp,cp,pt,ct,pg,cg⟩:=v;unfold nnA;simp only at hN ⊢;obtain ⟨W1,hW1⟩:=ex (w.alloc (Obj.cells #[.int .i64 n.bits,.slice pp n.ports.length cp,.slice pt n.tabs.length ct,.slice pg n.grds.length cg] 26));have b1:Below w.heap.size w W1:=by rw [<-hW1];exact zah (Below.refl _ _) _
 obtain ⟨B,hB⟩:=ex w.heap.size;have k1:W1.heap[B]?=some (.cells #[.int .i64 n.bits,.slice pp n.ports.length cp,.slice pt n.tabs.length ct,.slice pg n.grds.length cg] 26 (0,0)):=by rw [<-hW1,<-hB];exact zaa _ _
 have HC:Hid (∀ U,Below W1.heap.size W1 U->U.cell? ⟨B,0,none⟩=some (.int .i64 n.bits)/\U.cell? ⟨B,1,none⟩=some (.slice pp n.ports.length cp)/\U.cell? ⟨B,2,none⟩=some (.slice pt n.tabs.length ct)/\U.cell? ⟨B,3,none⟩=some (.slice pg n.grds.length cg)):=fun U hU=>by
  have:=(zaf (zae hU k1)).1;exact ⟨by rw [this];rfl,by rw [this];rfl,by rw [this];rfl,by rw [this];rfl⟩
 have HNN:Hid (∀ U,Below W1.heap.size W1 U->LN U n ⟨pp,cp,pt,ct,pg,cg⟩):=fun U hU=>hN.below (zac b1 hU);have HB1:=zab b1;have HBB:=zab hB;have HW:=zab hW1;clear k1 b1 hB hW1 hN;obtain ⟨q0,q1,q2,q3⟩:=HC.out W1 (Below.refl _ _);have hP:=(HNN.out W1 (Below.refl _ _)).1;have HQT:Hid (zbt n box p b->BQ (zbt n box p b) w (.returned (.bool true)) W1):=fun h=>BQ.yes h HB1.out;have HQF:Hid (¬zbt n box p b->BQ (zbt n box p b) w (.returned (.bool false)) W1):=fun h=>BQ.no h HB1.out
 by_cases h0:(0:Int)<=p
 ·by_cases h1:p < (n.ports.length:Int)
  ·obtain ⟨k,rfl⟩:∃ k:Nat,p=(k:Int):=⟨p.toNat,by omega⟩
   obtain ⟨x,hx⟩:∃ x,n.ports[k]?=some x:=⟨_,List.getElem?_eq_getElem (by omega)⟩;obtain ⟨g,o,e,c0,c1,c2,c3⟩:=hP k x hx;simp only at e;subst e;have hpa:=zdr hx;have HX:Hid (zbt n box (k:Int) b↔(x.bx=box/\x.inn=b)):=by
    show _↔_;unfold zbt;rw [hpa];exact ⟨fun h=>⟨h.2.2.1,h.2.2.2⟩,fun h=>⟨h0,h1,h.1,h.2⟩⟩
   clear hP hx hpa HNN HC
   by_cases hb:x.bx=box
   ·have y1:(x.bx==box)=true:=beq_iff_eq.2 hb
    by_cases hi:x.inn=b
    ·have HQ:=zab (HQT.out (HX.out.2 ⟨hb,hi⟩))
     have y2:(x.inn==b)=true:=beq_iff_eq.2 hi;clear HQT HQF HX hb;rw [hi] at c2;clear hi y2
     go_enter Tryz.func109,Tryz.ntmps109
     go_upto_region 1 with fail
     rw [HW.out,HBB.out]
     go_wp2_with fail
     go_ret
     exact HQ.out
    ·have HQ:=zab (HQF.out (fun h=>hi (HX.out.1 h).2))
     have hnb:x.inn=!b:=by cases hh:x.inn <;> cases b <;> simp_all
     clear HQT HQF HX hb hi;rw [hnb] at c2;clear hnb;cases b with
     | false=>
      go_enter Tryz.func109,Tryz.ntmps109
      go_upto_region 1 with fail
      rw [HW.out,HBB.out]
      go_wp2_with fail
      go_ret
      exact HQ.out
     | true=>
      go_enter Tryz.func109,Tryz.ntmps109
      go_upto_region 1 with fail
      rw [HW.out,HBB.out]
      go_wp2_with fail
      go_ret
      exact HQ.out
   ·have y1:(x.bx==box)=false:=beq_eq_false_iff_ne.2 hb
    have HQ:=zab (HQF.out (fun h=>hb (HX.out.1 h).1));clear HQT HQF HX hb
    go_enter Tryz.func109,Tryz.ntmps109
    go_upto_region 1 with fail
    rw [HW.out,HBB.out]
    go_wp2_with fail
    go_ret
    exact HQ.out
  ·have HQ:=zab (HQF.out (fun h=>h1 h.2.1))
   clear HQT HQF HNN HC hP
   go_enter Tryz.func109,Tryz.ntmps109
   go_upto_region 1 with fail
   rw [HW.out,HBB.out]
   go_wp2_with fail
   go_ret
   exact HQ.out
 ·have HQ:=zab (HQF.out (fun h=>h0 h.1))
  clear HQT HQF HNN HC hP
  go_enter Tryz.func109,Tryz.ntmps109
  go_upto_region 1 with fail
  rw [HW.out,HBB.out]
  go_wp2_with fail
  go_ret
  exact HQ.out
theorem zjh {g:List NG} {k:Nat} {x:NG} (h:g[k]?=some x):sumG (g.take (k+1))=sumG (g.take k)+x.cubes.length:=by
 unfold sumG;rw [List.take_add_one,h];simp
theorem zji {g:List NE} {k:Nat} {x:NE} (h:g[k]?=some x):sumE (g.take (k+1))=sumE (g.take k)+x.cubes.length:=by
 unfold sumE;rw [List.take_add_one,h];simp
theorem zfw {α:Type} {L:List (List α)} {k:Nat} {x:List α} (h:L[k]?=some x):((L.take (k+1)).map (·.length)).sum=((L.take k).map (·.length)).sum+x.length:=by
 rw [List.take_add_one,h];simp
theorem zba {α:Type} {P:α->Prop} {L:List α} {k:Nat} {x:α} (h:L[k]?=some x) (h1:∀ y∈L.take k,P y) (h2:P x):∀ y∈L.take (k+1),P y:=fun y hy=>by
 rw [List.take_add_one,h] at hy;rcases List.mem_append.1 hy with h3 | h3
 ·exact h1 y h3
 ·simp at h3
  rw [h3];exact h2
set_option maxRecDepth 100000 in
set_option maxHeartbeats 8000000 in
theorem zkm (n:NN) (v:NV) (w:World) (hN:LN w n v) (hS:zdn n) (hO:okN n) :
  Calls Tryz.prog 78 #[.agg (nnA n v)] w (BQ ((∀ g∈n.grds,zbk n.bits g)/\zhk n<=64) w):=by
 obtain ⟨pp,cp,pt,ct,pg,cg⟩:=v;unfold nnA;simp only at hN ⊢;obtain ⟨W1,hW1⟩:=ex (w.alloc (Obj.cells #[.int .i64 n.bits,.slice pp n.ports.length cp,.slice pt n.tabs.length ct,.slice pg n.grds.length cg] 26));have b1:Below w.heap.size w W1:=by rw [<-hW1];exact zah (Below.refl _ _) _
 obtain ⟨B,hB⟩:=ex w.heap.size;have k1:W1.heap[B]?=some (.cells #[.int .i64 n.bits,.slice pp n.ports.length cp,.slice pt n.tabs.length ct,.slice pg n.grds.length cg] 26 (0,0)):=by rw [<-hW1,<-hB];exact zaa _ _
 have HC:Hid (∀ U,Below W1.heap.size W1 U->U.cell? ⟨B,0,none⟩=some (.int .i64 n.bits)/\U.cell? ⟨B,1,none⟩=some (.slice pp n.ports.length cp)/\U.cell? ⟨B,2,none⟩=some (.slice pt n.tabs.length ct)/\U.cell? ⟨B,3,none⟩=some (.slice pg n.grds.length cg)):=fun U hU=>by
  have:=(zaf (zae hU k1)).1;exact ⟨by rw [this];rfl,by rw [this];rfl,by rw [this];rfl,by rw [this];rfl⟩
 have HNN:Hid (∀ U,Below W1.heap.size W1 U->LN U n ⟨pp,cp,pt,ct,pg,cg⟩):=fun U hU=>hN.below (zac b1 hU);have HB1:=zab b1;have HBB:=zab hB;have HW:=zab hW1;clear k1 b1 hB hW1 hN;have HZ:Hid (zdn n/\okN n):=⟨hS,hO⟩;have HQT:Hid (∀ U,Below W1.heap.size W1 U->((∀ g∈n.grds,zbk n.bits g)/\zhk n<=64)->BQ ((∀ g∈n.grds,zbk n.bits g)/\zhk n<=64) w (.returned (.bool true)) U):=fun U hU h=>BQ.yes h (zac HB1.out hU);have HQF:Hid (∀ U,Below W1.heap.size W1 U->¬((∀ g∈n.grds,zbk n.bits g)/\zhk n<=64)->BQ ((∀ g∈n.grds,zbk n.bits g)/\zhk n<=64) w (.returned (.bool false)) U):=fun U hU h=>BQ.no h (zac HB1.out hU);obtain ⟨ng,hng⟩:=ex n.grds.length;have hng48:ng<=48:=by have:=hS.2.2.2.1;have:=hS.2.2.2.2;omega
 have HNG:=zab hng;rw [hng] at HC HW ⊢;clear hS hO hng
 go_enter Tryz.func78,Tryz.ntmps78
 go_wp2_with fail
 rw [HW.out,HBB.out]
 go_loopw [3,4] (fun v3 v4 wr=>∃ k t:Nat,v3=.int .i64 (t:Int)/\v4=.int .i64 (k:Int)/\k<=ng/\t<=k*4398046510976/\Hid (((n.grds.take k).map (·.length)).sum=t/\∀ g∈n.grds.take k,zbk n.bits g)/\Hid (Below W1.heap.size W1 wr)) (fun _ v4 _=>ng - (intOf v4).toNat)
 case atStart=>exact ⟨0,0,rfl,rfl,Nat.zero_le _,Nat.zero_le _,⟨rfl,fun g hg=>by simp at hg⟩,Below.refl _ _⟩
 case round=>
  obtain ⟨wo,rfl⟩:∃ wo,wo=wr:=⟨wr,rfl⟩;obtain ⟨k,t,rfl,rfl,hk,htk,HSO,HB⟩:=hrel;obtain ⟨q0,q1,q2,q3⟩:=HC.out wo HB.out
  by_cases hlt:k < ng
  ·obtain ⟨gl,hx⟩:∃ gl,n.grds[k]?=some gl:=⟨_,List.getElem?_eq_getElem (by have:=HNG.out;omega)⟩
   obtain ⟨g0,o0,p5,c5,e5,e0,hG,hcl⟩:=(HNN.out wo HB.out).2.2.2.2.1 k gl hx;simp only at e5;subst e5;have hok:=HZ.out.2.2.2.2.2.2 gl (List.mem_of_getElem? hx);obtain ⟨m,hm⟩:=ex gl.length;have hm43:m<=4398046510976:=by have:=hok.1;omega
   rw [hm] at e0;have HX:Hid (n.grds[k]?=some gl/\gl.length=m/\okGl gl):=⟨hx,hm,hok⟩;have HG:Hid (∀ U,Below wo.heap.size wo U->U.cell? ⟨g0,o0+k,none⟩=some (.slice p5 m c5)/\LG U p5 gl/\(U.cell? ⟨B,0,none⟩=some (.int .i64 n.bits)/\U.cell? ⟨B,3,none⟩=some (.slice (some ⟨g0,o0,none⟩) ng cg))):=fun U hU=>⟨zao hU e0,hG.below hU,zao hU q0,zao hU q3⟩;have j1:(0:Int)<=(k:Int):=by omega
   have j2:(k:Int) < (ng:Int):=by omega
   clear hx hG hcl hok hm q0 q1 q2 e0 HNN HC
   go_wp2_with fail
   clear q3
   go_loopw [3,5,6] (fun v3 v5 v6 wr=>∃ i a s:Nat,v3=.int .i64 (s:Int)/\v5=.int .i64 (a:Int)/\v6=.int .i64 (i:Int)/\i<=m/\a<=i*64/\s<=211106232526848+i/\Hid (s=t+i)/\Hid (sumG (gl.take i)=a/\∀ l∈gl.take i,zb1 n.bits l.cubes)/\Hid (Below wo.heap.size wo wr)) (fun _ _ v6 _=>m - (intOf v6).toNat)
   case atStart=>exact ⟨0,0,t,rfl,rfl,rfl,Nat.zero_le _,Nat.zero_le _,by omega,rfl,⟨rfl,fun g hg=>by simp at hg⟩,Below.refl _ _⟩
   case round=>
    obtain ⟨i,a,s,rfl,rfl,rfl,hi,hai,hsi,HS,HSI,HBI⟩:=hrel;obtain ⟨e0,hG,q0,q3⟩:=HG.out _ HBI.out
    by_cases hlt2:i < m
    ·obtain ⟨l,hl⟩:∃ l,gl[i]?=some l:=⟨_,List.getElem?_eq_getElem (by have:=HX.out.2.1;omega)⟩
     obtain ⟨g2,o2,pc,cc,e5,e1,e2,hLS,hcc⟩:=hG i l hl;subst e5;have hokl:=HX.out.2.2.2 l (List.mem_of_getElem? hl);obtain ⟨lc,hlc⟩:=ex l.cubes.length;rw [hlc] at e2;obtain ⟨W3,hW3⟩:=ex (wr.alloc (Obj.cells #[.bool l.pm,.slice pc lc cc] 93));have b3:Below wr.heap.size wr W3:=by rw [<-hW3];exact zah (Below.refl _ _) _
     obtain ⟨b7,hb7⟩:=ex wr.heap.size;have k3:W3.heap[b7]?=some (.cells #[.bool l.pm,.slice pc lc cc] 93 (0,0)):=by rw [<-hW3,<-hb7];exact zaa _ _
     have HK7:Hid (∀ U,Below W3.heap.size W3 U->U.cell? ⟨b7,1,none⟩=some (.slice pc lc cc)/\U.cell? ⟨B,0,none⟩=some (.int .i64 n.bits)/\Below wo.heap.size wo U):=fun U hU=>⟨by rw [(zaf (zae hU k3)).1];rfl,zao hU (zao b3 q0),zac (zac HBI.out b3) hU⟩;have HCU:=ze6 n.bits l.cubes pc lc cc 64 W3 hlc (hLS.below b3) ⟨HZ.out.1.1,HZ.out.1.2.1⟩ hokl;have HLL:Hid (gl[i]?=some l/\l.cubes.length=lc):=⟨hl,hlc⟩;have j3:(0:Int)<=(i:Int):=by omega
     have j4:(i:Int) < (m:Int):=by omega
     have HW3:=zab hW3;have HB7:=zab hb7;obtain ⟨u1,u0,-⟩:=HK7.out W3 (Below.refl _ _);clear hl hlc hokl hLS hcc hG hW3 hb7 k3 b3 HG
     go_upto_region 10 with fail
     rw [HW3.out,HB7.out];clear e0 e1 e2 q0 q3
     go_wp2_with fail
     refine HCU.mono ?_;rintro en W4 ⟨rfl,b4⟩;obtain ⟨c1,c0,hb4⟩:=HK7.out W4 b4;have HB4:Hid (Below W1.heap.size W1 W4):=zac HB.out hb4;have HB5:Hid (Below wo.heap.size wo W4):=hb4;clear HCU b4 hb4 u0 u1;cases hp:pb (l.cubes.length<=64/\∀ c∈l.cubes,za4 n.bits c) with
     | false=>
      have HQ:=zab (HQF.out W4 HB4.out (fun h=>za6 hp ((h.1 gl (List.mem_of_getElem? HX.out.1)).1 l (List.mem_of_getElem? HLL.out.1))));clear hp
      go_wp2_with fail
      go_ret
      exact HQ.out
     | true=>
      have hcp:=za0.1 hp;have hl64:lc<=64:=by have:=hcp.1;have:=HLL.out.2;omega
      have HN1:Hid (sumG (gl.take (i+1))=a+lc/\∀ l∈gl.take (i+1),zb1 n.bits l.cubes):=⟨by rw [zjh HLL.out.1,HSI.out.1,HLL.out.2],zba HLL.out.1 HSI.out.2 hcp⟩;have HS1:Hid (s+1=t+(i+1)):=by have:=HS.out;show _=_;omega
      clear hp hcp HSI HS
      go_wp2_with fail
      go_roundw
      case rel=>exact ⟨i+1,a+lc,s+1,by go_num,by go_num,by go_num,by omega,by omega,by omega,HS1,HN1,HB5⟩
      case measure=>simp [intOf];omega
    ·obtain rfl:i=m:=by omega
     have j4:¬(i:Int) < (i:Int):=by omega
     have HE:Hid (sumG gl=a/\∀ l∈gl,zb1 n.bits l.cubes):=by
      have h1:=HSI.out;rw [List.take_of_length_le (by have:=HX.out.2.1;omega)] at h1;exact h1
     have HB4:Hid (Below W1.heap.size W1 wr):=zac HB.out HBI.out
     by_cases h512:512 < a
     ·have j5:(512:Int) < (a:Int):=by omega
      have HQ:=zab (HQF.out wr HB4.out (fun h=>by have h9:=(h.1 gl (List.mem_of_getElem? HX.out.1)).2;have:=HE.out.1;omega));clear hG HG HSI HS h512
      go_wp2_with fail
      go_ret
      exact HQ.out
     ·have j5:¬(512:Int) < (a:Int):=by omega
      have HN1:Hid (((n.grds.take (k+1)).map (·.length)).sum=s/\∀ g∈n.grds.take (k+1),zbk n.bits g):=⟨by rw [zfw HX.out.1,HSO.out.1,HX.out.2.1,HS.out],zba HX.out.1 HSO.out.2 ⟨HE.out.2,by have:=HE.out.1;omega⟩⟩;have hs9:s<=(k+1)*4398046510976:=by have:=HS.out;omega
      clear hG HG HSI HS h512 HE HSO
      go_wp2_with fail
      go_roundw
      case rel=>exact ⟨k+1,s,rfl,by go_num,by omega,hs9,HN1,HB4⟩
      case measure=>simp [intOf];omega
  ·obtain rfl:k=ng:=by omega
   have j2:¬(k:Int) < (k:Int):=by omega
   have HE:Hid (zhk n=t/\∀ g∈n.grds,zbk n.bits g):=by
    have h1:=HSO.out;rw [List.take_of_length_le (by have:=HNG.out;omega)] at h1;exact h1
   by_cases h64:t<=64
   ·have j5:(t:Int)<=64:=by omega
    have HQ:=zab (HQT.out wo HB.out ⟨HE.out.2,by have:=HE.out.1;omega⟩);clear HSO HE h64 HNN HC
    go_wp2_with fail
    go_ret
    exact HQ.out
   ·have j5:¬(t:Int)<=64:=by omega
    have HQ:=zab (HQF.out wo HB.out (fun h=>by have:=h.2;have:=HE.out.1;omega));clear HSO HE h64 HNN HC
    go_wp2_with fail
    go_ret
    exact HQ.out
end Go.Proofs.YtmfakcfmkmppfaaGreatDoor.Nt
