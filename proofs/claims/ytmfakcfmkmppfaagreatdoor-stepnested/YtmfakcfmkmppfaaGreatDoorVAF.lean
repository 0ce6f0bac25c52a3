import Derived.Test.YtmfakcfmkmppfaaGreatDoorVAE
import Derived.Shelf.Strconv.ToError
import Derived.Shelf.Strconv.ToErrorRange
namespace Go.Proofs.YtmfakcfmkmppfaaGreatDoor
open Go.RowKit

set_option maxRecDepth 100000 in
set_option maxHeartbeats 2000000 in
theorem pu2 (l:List UInt8) (w:World) (hs:l.length<=16384) (hne:l≠[]) :
  Calls Tryz.prog 192 #[.string ⟨l.toArray⟩,.int .i64 2,.int .i64 64] w fun e w'=>(∃ (n:Int) (r:Value),e=.returned (.tuple #[.int .u64 n,r])/\((r=.nilIface/\(l.length<=32->∃ v:Nat,n=v/\zaw 2 zcr l 0=some v))∨((r=.iface 251 (.int .i64 2)∨r=.iface 251 (.int .i64 1))/\(l.length<=32->zaw 2 zcr l 0=none))))/\Below w.heap.size w w':=by
 have hz:(l==[])=false:=beq_eq_false_iff_ne.2 hne;have hsz:(ByteArray.mk l.toArray).size=l.length:=by simp [ByteArray.size]
 have hcv:=Lib.run_convert_string_bytes (P:=Tryz.prog) w 9 145 5 ⟨l.toArray⟩ (u:=.string) Tryz.underlying9 Tryz.underlying145 Tryz.underlying5;have hB:Hid (∀ j c,l[j]?=some c->(Lib.bytesWorld w 5 ⟨l.toArray⟩).cell? ⟨w.heap.size,j,none⟩=some (.int .u8 (c.toNat:Int))):=fun j c hj=>by
  obtain ⟨h1,h2⟩:=List.getElem?_eq_some_iff.1 hj;rw [Lib.bytesWorld_cell w 5 ⟨l.toArray⟩ j (by rw [hsz];exact h1)];simp [List.getD,hj]
 have hbel:Hid (Below w.heap.size w (Lib.bytesWorld w 5 ⟨l.toArray⟩)):=Lib.bytesWorld_below _ _ _;obtain ⟨cp,hcp⟩:=ex (grownCap w (ByteArray.mk l.toArray).size 0 5);rw [hcp,hsz] at hcv;obtain ⟨W1,hW1⟩:∃ W1,W1=Lib.bytesWorld w 5 ⟨l.toArray⟩:=⟨_,rfl⟩;rw [<-hW1] at hcv hB hbel;clear hW1 hcp;have hmv:IntKind.u64.wrap (IntKind.u64.wrap 18446744073709551616 - 1)=18446744073709551615:=by
  rw [IntKind.wrap_u64,IntKind.wrap_u64];decide
 go_enter Tryz.func192,Tryz.ntmps192
 go_wp2_with fail
 go_loop [12,13,101] (fun vu vn vi=>∃ (k:Nat) (a:Int),vu=.bool false/\vn=.int .u64 a/\vi=.int .i64 k/\k<=l.length/\0<=a/\a < 18446744073709551616/\Hid (l.length<=32->∃ acc:Nat,a=(acc:Int)/\acc < 2 ^ k/\zaw 2 zcr (l.drop k) acc=zaw 2 zcr l 0)) (fun _ _ vi=>l.length - (intOf vi).toNat)
 case atStart=>exact ⟨0,0,rfl,rfl,rfl,Nat.zero_le _,by omega,by omega,fun _=>⟨0,rfl,by decide,by rw [List.drop_zero]⟩⟩
 case round=>
  obtain ⟨k,a,rfl,rfl,rfl,hk,a0,a1,hh⟩:=hrel
  by_cases hlt:k < l.length
  ·have j1:(k:Int) < (l.length:Int):=by omega
   have j0:(0:Int)<=(k:Int):=by omega
   obtain ⟨c,hlc⟩:∃ c,l[k]?=some c:=⟨_,List.getElem?_eq_getElem hlt⟩;have hc:=hB.out k c hlc;obtain ⟨lo,hlo0,hlo2,htab⟩:=zqt c;have HL:∀ W,Calls Tryz.prog 197 #[.int .u8 (c.toNat:Int)] W fun e w'=>e=.returned (.int .u8 (lo:Int))/\w'=W:=fun W=>by rw [<-hlo0];exact zjw _ W
   have hlo:Hid (bits .or .u8 (c.toNat:Int) 32=(lo:Int)):=hlo0;clear hlo0;rcases htab with ⟨h1,h2,hD⟩ | ⟨h1,h2,h3,hD⟩ | ⟨h1,h2,h3,hD⟩ | ⟨h1,h2,hD⟩
   ·clear hD
    obtain ⟨x,hx⟩:=ex c.toNat;rw [hx] at hc h1 h2 HL
    by_cases hb:x<=49
    ·obtain ⟨dn,hdn⟩:=ex (x - 48)
     have hD:zcr c=some dn:=by
      unfold zcr
      by_cases e:x=48
      ·rw [if_pos (UInt8.toNat_inj.1 (by rw [hx,e];rfl)),<-hdn,e]
      ·have e2:x=49:=by omega
       rw [if_neg (fun h=>e (by rw [<-hx,h];rfl)),if_pos (UInt8.toNat_inj.1 (by rw [hx,e2];rfl)),<-hdn,e2]
     have c95:((x:Int)==95)=false:=by rw [beq_eq_false_iff_ne];omega
     have b1:(48:Int)<=(x:Int):=by omega
     have b2:(x:Int)<=57:=by omega
     have hw0:IntKind.u8.wrap ((x:Int) - 48)=(x:Int) - 48:=by rw [IntKind.wrap_u8];omega
     have b3:¬(2:Int)<=(x:Int) - 48:=by omega
     by_cases hcut:9223372036854775808<=a
     ·have HF:Hid (l.length<=32->zaw 2 zcr l 0=none):=by
       unfold Hid;intro hl;obtain ⟨acc,ha,hlt2,_⟩:=hh.out hl;have:=Nat.lt_of_lt_of_le hlt2 (Nat.pow_le_pow_right (j:=32) (show 2 > 0 by decide) (by omega));have h2:(2:Nat) ^ 32<=9223372036854775808:=by decide
       omega
      clear hh
      go_wp2_with (go_at_call 197;refine (HL _).mono ?_;rintro e w' ⟨rfl,rfl⟩)
      go_ret2
      exact ⟨⟨_,_,rfl,.inr ⟨.inr rfl,HF.out⟩⟩,hbel.out⟩
     ·have icut:a < 9223372036854775808:=by omega
      have iov:a*2+((x:Int) - 48) < 18446744073709551616:=by omega
      have hw1:IntKind.u64.wrap (a*2)=a*2:=by rw [IntKind.wrap_u64];omega
      have hw2:IntKind.u64.wrap (a*2+((x:Int) - 48))=a*2+((x:Int) - 48):=by rw [IntKind.wrap_u64];omega
      have hi1:¬a*2+((x:Int) - 48) < a*2:=by omega
      have hi2:¬(18446744073709551615:Int) < a*2+((x:Int) - 48):=by omega
      have HH:Hid (l.length<=32->∃ acc:Nat,a*2+((x:Int) - 48)=(acc:Int)/\acc < 2 ^ (k+1)/\zaw 2 zcr (l.drop (k+1)) acc=zaw 2 zcr l 0):=by
       unfold Hid;intro hl;obtain ⟨acc,ha,hlt2,hf⟩:=hh.out hl;exact ⟨2*acc+dn,by omega,by rw [Nat.pow_succ];omega,by rw [<-hf];exact (zd1 hlc hD acc).symm⟩
      clear hh hcut
      go_wp2_with (go_at_call 197;refine (HL _).mono ?_;rintro e w' ⟨rfl,rfl⟩)
      go_round
      case rel=>exact ⟨k+1,a*2+((x:Int) - 48),rfl,by go_num,by go_num,by omega,by omega,by omega,HH⟩
      case measure=>simp [intOf];omega
    ·have hD:zcr c=none:=by
      unfold zcr;rw [if_neg (fun h=>hb (by rw [<-hx,h];decide)),if_neg (fun h=>hb (by rw [<-hx,h];decide))]
     have HF:Hid (l.length<=32->zaw 2 zcr l 0=none):=by
      unfold Hid;intro hl;obtain ⟨acc,_,_,hf⟩:=hh.out hl;rw [<-hf];exact zat hlc hD acc
     clear hh;have c95:((x:Int)==95)=false:=by rw [beq_eq_false_iff_ne];omega
     have b1:(48:Int)<=(x:Int):=by omega
     have b2:(x:Int)<=57:=by omega
     have hw0:IntKind.u8.wrap ((x:Int) - 48)=(x:Int) - 48:=by rw [IntKind.wrap_u8];omega
     have b3:(2:Int)<=(x:Int) - 48:=by omega
     go_wp2_with (go_at_call 197;refine (HL _).mono ?_;rintro e w' ⟨rfl,rfl⟩)
     all_goals go_ret2
     all_goals exact ⟨⟨_,_,rfl,.inr ⟨.inl rfl,HF.out⟩⟩,hbel.out⟩
   ·obtain ⟨x,hx⟩:=ex c.toNat
    rw [hx] at hc h1 HL;have hx95:x≠95:=hx ▸ zml hlo h2;clear hD;have hD:zcr c=none:=by
     unfold zcr;rw [if_neg (fun h=>h1 (by rw [<-hx,h];decide)),if_neg (fun h=>h1 (by rw [<-hx,h];decide))]
    by_cases b1:(48:Int)<=(x:Int)
    ·have b2:¬(x:Int)<=57:=by omega
     have HF:Hid (l.length<=32->zaw 2 zcr l 0=none):=by
      unfold Hid;intro hl;obtain ⟨acc,_,_,hf⟩:=hh.out hl;rw [<-hf];exact zat hlc hD acc
     clear hh;have c95:((x:Int)==95)=false:=by rw [beq_eq_false_iff_ne];omega
     have b3:(97:Int)<=(lo:Int):=by omega
     have b4:(lo:Int)<=122:=by omega
     have hw0:IntKind.u8.wrap ((lo:Int) - 97)=(lo:Int) - 97:=by rw [IntKind.wrap_u8];omega
     have hw00:IntKind.u8.wrap ((lo:Int) - 97+10)=(lo:Int) - 97+10:=by rw [IntKind.wrap_u8];omega
     have b5:(2:Int)<=(lo:Int) - 97+10:=by omega
     go_wp2_with (go_at_call 197;refine (HL _).mono ?_;rintro e w' ⟨rfl,rfl⟩)
     all_goals go_ret2
     all_goals exact ⟨⟨_,_,rfl,.inr ⟨.inl rfl,HF.out⟩⟩,hbel.out⟩
    ·skip
     have HF:Hid (l.length<=32->zaw 2 zcr l 0=none):=by
      unfold Hid;intro hl;obtain ⟨acc,_,_,hf⟩:=hh.out hl;rw [<-hf];exact zat hlc hD acc
     clear hh;have c95:((x:Int)==95)=false:=by rw [beq_eq_false_iff_ne];omega
     have b3:(97:Int)<=(lo:Int):=by omega
     have b4:(lo:Int)<=122:=by omega
     have hw0:IntKind.u8.wrap ((lo:Int) - 97)=(lo:Int) - 97:=by rw [IntKind.wrap_u8];omega
     have hw00:IntKind.u8.wrap ((lo:Int) - 97+10)=(lo:Int) - 97+10:=by rw [IntKind.wrap_u8];omega
     have b5:(2:Int)<=(lo:Int) - 97+10:=by omega
     go_wp2_with (go_at_call 197;refine (HL _).mono ?_;rintro e w' ⟨rfl,rfl⟩)
     all_goals go_ret2
     all_goals exact ⟨⟨_,_,rfl,.inr ⟨.inl rfl,HF.out⟩⟩,hbel.out⟩
   ·obtain ⟨x,hx⟩:=ex c.toNat
    rw [hx] at hc h1 HL;have hx95:x≠95:=hx ▸ zml hlo (by omega);clear hD;have hD:zcr c=none:=by
     unfold zcr;rw [if_neg (fun h=>h1 (by rw [<-hx,h];decide)),if_neg (fun h=>h1 (by rw [<-hx,h];decide))]
    by_cases b1:(48:Int)<=(x:Int)
    ·have b2:¬(x:Int)<=57:=by omega
     have HF:Hid (l.length<=32->zaw 2 zcr l 0=none):=by
      unfold Hid;intro hl;obtain ⟨acc,_,_,hf⟩:=hh.out hl;rw [<-hf];exact zat hlc hD acc
     clear hh;have c95:((x:Int)==95)=false:=by rw [beq_eq_false_iff_ne];omega
     have b3:(97:Int)<=(lo:Int):=by omega
     have b4:(lo:Int)<=122:=by omega
     have hw0:IntKind.u8.wrap ((lo:Int) - 97)=(lo:Int) - 97:=by rw [IntKind.wrap_u8];omega
     have hw00:IntKind.u8.wrap ((lo:Int) - 97+10)=(lo:Int) - 97+10:=by rw [IntKind.wrap_u8];omega
     have b5:(2:Int)<=(lo:Int) - 97+10:=by omega
     go_wp2_with (go_at_call 197;refine (HL _).mono ?_;rintro e w' ⟨rfl,rfl⟩)
     all_goals go_ret2
     all_goals exact ⟨⟨_,_,rfl,.inr ⟨.inl rfl,HF.out⟩⟩,hbel.out⟩
    ·skip
     have HF:Hid (l.length<=32->zaw 2 zcr l 0=none):=by
      unfold Hid;intro hl;obtain ⟨acc,_,_,hf⟩:=hh.out hl;rw [<-hf];exact zat hlc hD acc
     clear hh;have c95:((x:Int)==95)=false:=by rw [beq_eq_false_iff_ne];omega
     have b3:(97:Int)<=(lo:Int):=by omega
     have b4:(lo:Int)<=122:=by omega
     have hw0:IntKind.u8.wrap ((lo:Int) - 97)=(lo:Int) - 97:=by rw [IntKind.wrap_u8];omega
     have hw00:IntKind.u8.wrap ((lo:Int) - 97+10)=(lo:Int) - 97+10:=by rw [IntKind.wrap_u8];omega
     have b5:(2:Int)<=(lo:Int) - 97+10:=by omega
     go_wp2_with (go_at_call 197;refine (HL _).mono ?_;rintro e w' ⟨rfl,rfl⟩)
     all_goals go_ret2
     all_goals exact ⟨⟨_,_,rfl,.inr ⟨.inl rfl,HF.out⟩⟩,hbel.out⟩
   ·obtain ⟨x,hx⟩:=ex c.toNat
    rw [hx] at hc h1 HL;clear hD;have hD:zcr c=none:=by
     unfold zcr;rw [if_neg (fun h=>h1 (by rw [<-hx,h];decide)),if_neg (fun h=>h1 (by rw [<-hx,h];decide))]
    by_cases b1:(48:Int)<=(x:Int)
    ·have b2:¬(x:Int)<=57:=by omega
     by_cases hx95:x=95
     ·subst hx95
      have HF:Hid (l.length<=32->zaw 2 zcr l 0=none):=by
       unfold Hid;intro hl;obtain ⟨acc,_,_,hf⟩:=hh.out hl;rw [<-hf];exact zat hlc hD acc
      clear hh
      go_wp2_with (go_at_call 197;refine (HL _).mono ?_;rintro e w' ⟨rfl,rfl⟩)
      all_goals go_ret2
      all_goals exact ⟨⟨_,_,rfl,.inr ⟨.inl rfl,HF.out⟩⟩,hbel.out⟩
     ·have c95:((x:Int)==95)=false:=by rw [beq_eq_false_iff_ne];omega
      by_cases b3:(97:Int)<=(lo:Int)
      ·have b4:¬(lo:Int)<=122:=by omega
       have HF:Hid (l.length<=32->zaw 2 zcr l 0=none):=by
        unfold Hid;intro hl;obtain ⟨acc,_,_,hf⟩:=hh.out hl;rw [<-hf];exact zat hlc hD acc
       clear hh
       go_wp2_with (go_at_call 197;refine (HL _).mono ?_;rintro e w' ⟨rfl,rfl⟩)
       all_goals go_ret2
       all_goals exact ⟨⟨_,_,rfl,.inr ⟨.inl rfl,HF.out⟩⟩,hbel.out⟩
      ·skip
       have HF:Hid (l.length<=32->zaw 2 zcr l 0=none):=by
        unfold Hid;intro hl;obtain ⟨acc,_,_,hf⟩:=hh.out hl;rw [<-hf];exact zat hlc hD acc
       clear hh
       go_wp2_with (go_at_call 197;refine (HL _).mono ?_;rintro e w' ⟨rfl,rfl⟩)
       all_goals go_ret2
       all_goals exact ⟨⟨_,_,rfl,.inr ⟨.inl rfl,HF.out⟩⟩,hbel.out⟩
    ·skip
     by_cases hx95:x=95
     ·subst hx95
      have HF:Hid (l.length<=32->zaw 2 zcr l 0=none):=by
       unfold Hid;intro hl;obtain ⟨acc,_,_,hf⟩:=hh.out hl;rw [<-hf];exact zat hlc hD acc
      clear hh
      go_wp2_with (go_at_call 197;refine (HL _).mono ?_;rintro e w' ⟨rfl,rfl⟩)
      all_goals go_ret2
      all_goals exact ⟨⟨_,_,rfl,.inr ⟨.inl rfl,HF.out⟩⟩,hbel.out⟩
     ·have c95:((x:Int)==95)=false:=by rw [beq_eq_false_iff_ne];omega
      by_cases b3:(97:Int)<=(lo:Int)
      ·have b4:¬(lo:Int)<=122:=by omega
       have HF:Hid (l.length<=32->zaw 2 zcr l 0=none):=by
        unfold Hid;intro hl;obtain ⟨acc,_,_,hf⟩:=hh.out hl;rw [<-hf];exact zat hlc hD acc
       clear hh
       go_wp2_with (go_at_call 197;refine (HL _).mono ?_;rintro e w' ⟨rfl,rfl⟩)
       all_goals go_ret2
       all_goals exact ⟨⟨_,_,rfl,.inr ⟨.inl rfl,HF.out⟩⟩,hbel.out⟩
      ·skip
       have HF:Hid (l.length<=32->zaw 2 zcr l 0=none):=by
        unfold Hid;intro hl;obtain ⟨acc,_,_,hf⟩:=hh.out hl;rw [<-hf];exact zat hlc hD acc
       clear hh
       go_wp2_with (go_at_call 197;refine (HL _).mono ?_;rintro e w' ⟨rfl,rfl⟩)
       all_goals go_ret2
       all_goals exact ⟨⟨_,_,rfl,.inr ⟨.inl rfl,HF.out⟩⟩,hbel.out⟩
  ·have j1:¬(k:Int) < (l.length:Int):=by omega
   obtain rfl:k=l.length:=by omega
   have HF:Hid (l.length<=32->∃ v:Nat,a=v/\zaw 2 zcr l 0=some v):=by
    unfold Hid;intro hl;obtain ⟨acc,ha,_,hf⟩:=hh.out hl;exact ⟨acc,ha,by rw [<-hf];exact zj5 _ _ _ _⟩
   clear hh
   go_wp2_with fail
   go_ret2
   exact ⟨⟨_,_,rfl,.inl ⟨rfl,HF.out⟩⟩,hbel.out⟩
end Go.Proofs.YtmfakcfmkmppfaaGreatDoor
namespace Go.Proofs
open Go.Shelf
def Tryz.l245_ren:Go.Shelf.Ren:=⟨fun | 245=>193 | 279=>199 | 280=>200 | 281=>201 | 282=>202 | 316=>141 | 171=>190 | 205=>205 | 243=>195 | 246=>204 | 283=>206 | 284=>207 | 285=>208 | 286=>209 | 129=>211 | 317=>210 | 318=>212 | 319=>213 | 320=>214 | 337=>215 | 338=>216 | n=>n,fun | 9=>9 | 3=>3 | 75=>242 | 167=>251 | 4=>4 | 168=>253 | 210=>260 | 37=>145 | 0=>0 | 127=>203 | 145=>269 | 143=>267 | 2=>2 | 171=>262 | 53=>66 | 5=>5 | 173=>265 | 212=>271 | 51=>232 | 20=>20 | 213=>272 | 46=>214 | 232=>275 | 233=>276 | 80=>130 | n=>n,fun | 15=>5 | 16=>6 | 17=>7 | 18=>8 | 19=>9 | n=>n⟩
theorem Tryz.l245:Go.Proofs.LaysC.n245 Tryz.prog Tryz.l245_ren:={
 mixed:=by kernel_rfl
 f129:=Tryz.func211.trans (congrArg some (by kernel_rfl))
 f171:=Tryz.func190.trans (congrArg some (by kernel_rfl))
 f205:=Tryz.func205.trans (congrArg some (by kernel_rfl))
 f243:=Tryz.func195.trans (congrArg some (by kernel_rfl))
 f245:=Tryz.func193.trans (congrArg some (by kernel_rfl))
 f246:=Tryz.func204.trans (congrArg some (by kernel_rfl))
 f279:=Tryz.func199.trans (congrArg some (by kernel_rfl))
 f280:=Tryz.func200.trans (congrArg some (by kernel_rfl))
 f281:=Tryz.func201.trans (congrArg some (by kernel_rfl))
 f282:=Tryz.func202.trans (congrArg some (by kernel_rfl))
 f283:=Tryz.func206.trans (congrArg some (by kernel_rfl))
 f284:=Tryz.func207.trans (congrArg some (by kernel_rfl))
 f285:=Tryz.func208.trans (congrArg some (by kernel_rfl))
 f286:=Tryz.func209.trans (congrArg some (by kernel_rfl))
 f316:=Tryz.func141.trans (congrArg some (by kernel_rfl))
 f317:=Tryz.func210.trans (congrArg some (by kernel_rfl))
 f318:=Tryz.func212.trans (congrArg some (by kernel_rfl))
 f319:=Tryz.func213.trans (congrArg some (by kernel_rfl))
 f320:=Tryz.func214.trans (congrArg some (by kernel_rfl))
 f337:=Tryz.func215.trans (congrArg some (by kernel_rfl))
 f338:=Tryz.func216.trans (congrArg some (by kernel_rfl))
 t0:=Tryz.underlying0
 a0:=Tryz.isAgg0
 z0:=Tryz.sizeOf0
 v0:=Tryz.zeroValue0
 t2:=Tryz.underlying2
 a2:=Tryz.isAgg2
 z2:=Tryz.sizeOf2
 v2:=Tryz.zeroValue2
 t3:=Tryz.underlying3
 a3:=Tryz.isAgg3
 z3:=Tryz.sizeOf3
 v3:=Tryz.zeroValue3
 t4:=Tryz.underlying4
 a4:=Tryz.isAgg4
 z4:=Tryz.sizeOf4
 v4:=Tryz.zeroValue4
 t5:=Tryz.underlying5
 a5:=Tryz.isAgg5
 z5:=Tryz.sizeOf5
 v5:=Tryz.zeroValue5
 t9:=Tryz.underlying9
 a9:=Tryz.isAgg9
 z9:=Tryz.sizeOf9
 v9:=Tryz.zeroValue9
 t20:=Tryz.underlying20
 a20:=Tryz.isAgg20
 z20:=Tryz.sizeOf20
 v20:=Tryz.zeroValue20
 t37:=Tryz.underlying145
 a37:=Tryz.isAgg145
 z37:=Tryz.sizeOf145
 v37:=Tryz.zeroValue145
 t46:=Tryz.underlying214
 a46:=Tryz.isAgg214
 z46:=Tryz.sizeOf214
 v46:=Tryz.zeroValue214
 t51:=Tryz.underlying232
 a51:=Tryz.isAgg232
 z51:=Tryz.sizeOf232
 v51:=Tryz.zeroValue232
 t53:=Tryz.underlying66
 a53:=Tryz.isAgg66
 z53:=Tryz.sizeOf66
 v53:=Tryz.zeroValue66
 t75:=Tryz.underlying242
 a75:=Tryz.isAgg242
 z75:=Tryz.sizeOf242
 v75:=Tryz.zeroValue242
 t127:=Tryz.underlying203
 a127:=Tryz.isAgg203
 z127:=Tryz.sizeOf203
 v127:=Tryz.zeroValue203
 t143:=Tryz.underlying267
 a143:=Tryz.isAgg267
 z143:=Tryz.sizeOf267
 v143:=Tryz.zeroValue267
 t145:=Tryz.underlying269
 a145:=Tryz.isAgg269
 z145:=Tryz.sizeOf269
 v145:=Tryz.zeroValue269
 t167:=Tryz.underlying251
 a167:=Tryz.isAgg251
 z167:=Tryz.sizeOf251
 v167:=Tryz.zeroValue251
 t168:=Tryz.underlying253
 a168:=Tryz.isAgg253
 z168:=Tryz.sizeOf253
 v168:=Tryz.zeroValue253
 t171:=Tryz.underlying262
 a171:=Tryz.isAgg262
 z171:=Tryz.sizeOf262
 v171:=Tryz.zeroValue262
 t173:=Tryz.underlying265
 a173:=Tryz.isAgg265
 z173:=Tryz.sizeOf265
 v173:=Tryz.zeroValue265
 t210:=Tryz.underlying260
 a210:=Tryz.isAgg260
 z210:=Tryz.sizeOf260
 v210:=Tryz.zeroValue260
 t212:=Tryz.underlying271
 a212:=Tryz.isAgg271
 z212:=Tryz.sizeOf271
 v212:=Tryz.zeroValue271
 t213:=Tryz.underlying272
 a213:=Tryz.isAgg272
 z213:=Tryz.sizeOf272
 t232:=Tryz.underlying275
 a232:=Tryz.isAgg275
 z232:=Tryz.sizeOf275
 v232:=Tryz.zeroValue275
 t233:=Tryz.underlying276
 a233:=Tryz.isAgg276
 z233:=Tryz.sizeOf276
 v233:=Tryz.zeroValue276
 g15:=by kernel_rfl
 g16:=by kernel_rfl
 g17:=by kernel_rfl
 g18:=by kernel_rfl
 g19:=by kernel_rfl
 t80:=Tryz.underlying130
 a80:=Tryz.isAgg130
 z80:=Tryz.sizeOf130
 v80:=Tryz.zeroValue130
 i0:=by kernel_rfl
 i2:=by kernel_rfl
 i3:=by kernel_rfl
 i4:=by kernel_rfl
 i5:=by kernel_rfl
 i9:=by kernel_rfl
 i20:=by kernel_rfl
 i37:=by kernel_rfl
 i46:=by kernel_rfl
 i51:=by kernel_rfl
 i53:=by kernel_rfl
 i75:=by kernel_rfl
 i80:=by kernel_rfl
 i127:=by kernel_rfl
 i143:=by kernel_rfl
 i145:=by kernel_rfl
 i167:=by kernel_rfl
 i168:=by kernel_rfl
 i171:=by kernel_rfl
 i173:=by kernel_rfl
 i210:=by kernel_rfl
 i212:=by kernel_rfl
 i232:=by kernel_rfl
 i233:=by kernel_rfl
 m15:=by kernel_rfl
 m16:=by kernel_rfl
 m17:=by kernel_rfl
 m18:=by kernel_rfl
 m19:=by kernel_rfl
 c0:=by kernel_rfl
 c2:=by kernel_rfl
 c3:=by kernel_rfl
 c4:=by kernel_rfl
 c5:=by kernel_rfl
 c9:=by kernel_rfl
 c20:=by kernel_rfl
 c37:=by kernel_rfl
 c46:=by kernel_rfl
 c51:=by kernel_rfl
 c53:=by kernel_rfl
 c75:=by kernel_rfl
 c80:=by kernel_rfl
 c127:=by kernel_rfl
 c143:=by kernel_rfl
 c145:=by kernel_rfl
 c167:=by kernel_rfl
 c168:=by kernel_rfl
 c171:=by kernel_rfl
 c173:=by kernel_rfl
 c210:=by kernel_rfl
 c212:=by kernel_rfl
 c213:=by kernel_rfl
 c232:=by kernel_rfl
 c233:=by kernel_rfl }
end Go.Proofs
namespace Go.Proofs.YtmfakcfmkmppfaaGreatDoor
open Go.RowKit Go.Shelf
def zea (b:Nat) (D:UInt8->Option Nat) (M:Nat) (l:List UInt8):Option Nat:=if l=[]∨M < l.length then none else zaw b D l 0
theorem foldN_lt {b:Nat} {D:UInt8->Option Nat} (hD:∀ c d,D c=some d->d < b) (l:List UInt8) (m v:Nat) (h:zaw b D l m=some v):v < (m+1)*b ^ l.length:=by
 induction l generalizing m with
 | nil=>obtain rfl:=Option.some.inj h;simp
 | cons c l ih=>
  unfold zaw at h;cases hd:D c with
  | none=>rw [hd] at h;cases h
  | some d=>
   rw [hd] at h;have h1:=ih _ h;have h2:=hD c d hd;have h3:b*m+d+1<=(m+1)*b:=by rw [Nat.add_mul,Nat.mul_comm m b];omega
   calc v < (b*m+d+1)*b ^ l.length:=h1
    _<=((m+1)*b)*b ^ l.length:=Nat.mul_le_mul_right _ h3
    _=(m+1)*b ^ (l.length+1):=by rw [Nat.pow_succ,Nat.mul_assoc,Nat.mul_comm b]
theorem zj4 {b M:Nat} {D:UInt8->Option Nat} (hb:0 < b) (hD:∀ c d,D c=some d->d < b) {l:List UInt8} {v:Nat} (h:zaw b D l 0=some v) (hl:l.length<=M):v < b ^ M:=by
 have:=foldN_lt hD l 0 v h;rw [Nat.zero_add,Nat.one_mul] at this;exact Nat.lt_of_lt_of_le this (Nat.pow_le_pow_right hb hl)
theorem zgd (l:List UInt8) (base:Int) (r:Value) (w:World) (hs:l.length<=16384) (hv:VW w) (hr:r=.iface 251 (.int .i64 2)∨r=.iface 251 (.int .i64 1)) :
  Calls Tryz.prog 193 #[.string ⟨#[80,97,114,115,101,85,105,110,116]⟩,.string ⟨l.toArray⟩,.int .i64 base,.int .i64 64,r] w fun e w'=>(∃ t p,e=.returned (.iface t p))/\Below w.heap.size w w':=by
 have hz:(ByteArray.mk l.toArray).size=l.length:=by simp [ByteArray.size]
 rcases hr with rfl | rfl
 ·obtain ⟨tp,p,hp⟩:=hv.syn
  exact (Any.strconv_toError_syntax Tryz.l245 _ ⟨l.toArray⟩ base 64 (.iface tp p) w (by rw [hz];omega) (by have h0:=World.var?_cell Tryz.l245.m15 hp 0;simpa using h0) (Or.inr ⟨tp,p,rfl⟩)).mono fun e w' ⟨N,he,_,_,hb⟩=>⟨⟨_,_,he⟩,hb⟩
 ·obtain ⟨tp,p,hp⟩:=hv.rng
  exact (Any.strconv_toError_range Tryz.l245 _ ⟨l.toArray⟩ base 64 (.iface tp p) w (by rw [hz];omega) (by have h0:=World.var?_cell Tryz.l245.m16 hp 0;simpa using h0) (Or.inr ⟨tp,p,rfl⟩)).mono fun e w' ⟨N,he,_,_,hb⟩=>⟨⟨_,_,he⟩,hb⟩

set_option maxRecDepth 100000 in
theorem znu (w:World):Calls Tryz.prog 192 #[.string ⟨#[]⟩,.int .i64 16,.int .i64 64] w fun e w'=>e=.returned (.tuple #[.int .u64 0,.iface 251 (.int .i64 2)])/\w'=w:=by
 go_enter Tryz.func192,Tryz.ntmps192
 go_wp2_with fail
 go_ret2
 exact ⟨rfl,rfl⟩
theorem pu16_any (l:List UInt8) (w:World) (hs:l.length<=16384) :
  Calls Tryz.prog 192 #[.string ⟨l.toArray⟩,.int .i64 16,.int .i64 64] w fun e w'=>(∃ (n:Int) (r:Value),e=.returned (.tuple #[.int .u64 n,r])/\((r=.nilIface/\(l.length<=8->∃ v:Nat,n=v/\zea 16 zbu 8 l=some v))∨((r=.iface 251 (.int .i64 2)∨r=.iface 251 (.int .i64 1))/\zea 16 zbu 8 l=none)))/\Below w.heap.size w w':=by
 by_cases h0:l=[]
 ·subst h0
  exact (znu w).mono fun e w' ⟨he,hw⟩=>⟨⟨_,_,he,.inr ⟨.inl rfl,if_pos (.inl rfl)⟩⟩,by rw [hw];exact Below.refl _ _⟩
 ·refine (pu16 l w hs h0).mono fun e w' ⟨⟨n,r,he,h⟩,hb⟩=>⟨⟨n,r,he,?_⟩,hb⟩
  rcases h with ⟨h1,h2⟩ | ⟨h1,h2⟩
  ·refine .inl ⟨h1,fun hl=>?_⟩
   obtain ⟨v,hv,hf⟩:=h2 hl;refine ⟨v,hv,?_⟩;unfold zea;rw [if_neg (fun h=>h.elim h0 (by omega))];exact hf
  ·refine .inr ⟨h1,?_⟩
   unfold zea
   split
   ·rfl
   ·rename_i hc
    exact h2 (by omega)
set_option maxRecDepth 100000 in
theorem zk3 (l:List UInt8) (w:World) (hs:l.length<=16384) (hv:VW w) :
  Calls Tryz.prog 188 #[.string ⟨l.toArray⟩,.int .i64 16,.int .i64 64] w fun e w'=>(∃ (n:Int) (r:Value),e=.returned (.tuple #[.int .u64 n,r])/\((r=.nilIface/\(l.length<=8->∃ v:Nat,n=v/\zea 16 zbu 8 l=some v))∨((∃ t p,r=.iface t p)/\zea 16 zbu 8 l=none)))/\Below w.heap.size w w':=by
 have HV:Hid (VW w):=hv;have HP:=pu16_any l w hs;clear hv
 go_enter Tryz.func188,Tryz.ntmps188
 go_wp2_with fail
 refine HP.mono ?_;rintro e w1 ⟨⟨n,r,rfl,hr⟩,hb1⟩;rcases hr with ⟨rfl,hr⟩ | ⟨hr,hn⟩
 ·have HR:Hid (l.length<=8->∃ v:Nat,n=v/\zea 16 zbu 8 l=some v):=hr
  clear hr
  go_wp2_with fail
  go_ret2
  exact ⟨⟨_,_,rfl,.inl ⟨rfl,HR.out⟩⟩,hb1⟩
 ·have HN:Hid (zea 16 zbu 8 l=none):=hn
  have HT:=zgd l 16 r w1 hs (HV.out.below hb1) hr;clear hn;rcases hr with rfl | rfl
  ·go_wp2_with fail
   refine HT.mono ?_;rintro e w2 ⟨⟨t,p,rfl⟩,hb2⟩
   go_wp2_with fail
   go_ret2
   exact ⟨⟨_,_,rfl,.inr ⟨⟨_,_,rfl⟩,HN.out⟩⟩,zhx hb1 hb2⟩
  ·go_wp2_with fail
   refine HT.mono ?_;rintro e w2 ⟨⟨t,p,rfl⟩,hb2⟩
   go_wp2_with fail
   go_ret2
   exact ⟨⟨_,_,rfl,.inr ⟨⟨_,_,rfl⟩,HN.out⟩⟩,zhx hb1 hb2⟩
set_option maxRecDepth 100000 in
theorem zhe (l:List UInt8) (w:World) (hs:l.length<=16384) (hv:VW w) :
  Calls Tryz.prog 181 #[.string ⟨l.toArray⟩,.int .i64 16,.int .i64 8] w fun e w'=>(∃ v:Int,e=.returned (.tuple #[.int .i64 v,.bool (zea 16 zbu 8 l).isSome])/\∀ n,zea 16 zbu 8 l=some n->v=n)/\Below w.heap.size w w':=by
 have HP:=zk3 l w hs hv;clear hv
 go_enter Tryz.func181,Tryz.ntmps181
 go_wp2_with fail
 refine HP.mono ?_;rintro e w1 ⟨⟨n,r,rfl,hr⟩,hb1⟩;rcases hr with ⟨rfl,hr⟩ | ⟨⟨t,p,rfl⟩,hn⟩
 ·by_cases hl:l.length<=8
  ·obtain ⟨v,rfl,hd⟩:=hr hl
   have hlt:v < 16 ^ 8:=by
    unfold zea at hd
    split at hd
    ·cases hd
    ·exact zj4 (by decide) (fun c d h=>zik h) hd hl
   have hlt2:v < 4294967296:=hlt;have HD:Hid (zea 16 zbu 8 l=some v):=hd;have hw:IntKind.i64.wrap (v:Int)=(v:Int):=by rw [IntKind.wrap_i64];omega
   have i1:(l.length:Int)<=8:=by omega
   clear hd hr hlt
   go_wp2_with fail
   go_ret2
   rw [HD.out];exact ⟨⟨_,rfl,fun n hn=>by injection hn with hn;rw [hn]⟩,hb1⟩
  ·have i1:¬(l.length:Int)<=8:=by omega
   have hi1:Hid (decide ((l.length:Int)<=8)=false):=decide_eq_false i1;have HD:Hid (zea 16 zbu 8 l=none):=if_pos (.inr (by omega));clear hr
   go_wp2_with fail
   go_ret2
   rw [HD.out,hi1.out];exact ⟨⟨_,rfl,fun n hn=>by cases hn⟩,hb1⟩
 ·have HD:Hid (zea 16 zbu 8 l=none):=hn
  clear hn
  go_wp2_with fail
  go_ret2
  rw [HD.out];exact ⟨⟨_,rfl,fun n hn=>by cases hn⟩,hb1⟩


set_option maxRecDepth 100000 in
theorem zp5 (w:World):Calls Tryz.prog 192 #[.string ⟨#[]⟩,.int .i64 2,.int .i64 64] w fun e w'=>e=.returned (.tuple #[.int .u64 0,.iface 251 (.int .i64 2)])/\w'=w:=by
 go_enter Tryz.func192,Tryz.ntmps192
 go_wp2_with fail
 go_ret2
 exact ⟨rfl,rfl⟩
theorem pu2_any (l:List UInt8) (w:World) (hs:l.length<=16384) :
  Calls Tryz.prog 192 #[.string ⟨l.toArray⟩,.int .i64 2,.int .i64 64] w fun e w'=>(∃ (n:Int) (r:Value),e=.returned (.tuple #[.int .u64 n,r])/\((r=.nilIface/\(l.length<=32->∃ v:Nat,n=v/\zea 2 zcr 32 l=some v))∨((r=.iface 251 (.int .i64 2)∨r=.iface 251 (.int .i64 1))/\zea 2 zcr 32 l=none)))/\Below w.heap.size w w':=by
 by_cases h0:l=[]
 ·subst h0
  exact (zp5 w).mono fun e w' ⟨he,hw⟩=>⟨⟨_,_,he,.inr ⟨.inl rfl,if_pos (.inl rfl)⟩⟩,by rw [hw];exact Below.refl _ _⟩
 ·refine (pu2 l w hs h0).mono fun e w' ⟨⟨n,r,he,h⟩,hb⟩=>⟨⟨n,r,he,?_⟩,hb⟩
  rcases h with ⟨h1,h2⟩ | ⟨h1,h2⟩
  ·refine .inl ⟨h1,fun hl=>?_⟩
   obtain ⟨v,hv,hf⟩:=h2 hl;refine ⟨v,hv,?_⟩;unfold zea;rw [if_neg (fun h=>h.elim h0 (by omega))];exact hf
  ·refine .inr ⟨h1,?_⟩
   unfold zea
   split
   ·rfl
   ·rename_i hc
    exact h2 (by omega)
set_option maxRecDepth 100000 in
theorem znz (l:List UInt8) (w:World) (hs:l.length<=16384) (hv:VW w) :
  Calls Tryz.prog 188 #[.string ⟨l.toArray⟩,.int .i64 2,.int .i64 64] w fun e w'=>(∃ (n:Int) (r:Value),e=.returned (.tuple #[.int .u64 n,r])/\((r=.nilIface/\(l.length<=32->∃ v:Nat,n=v/\zea 2 zcr 32 l=some v))∨((∃ t p,r=.iface t p)/\zea 2 zcr 32 l=none)))/\Below w.heap.size w w':=by
 have HV:Hid (VW w):=hv;have HP:=pu2_any l w hs;clear hv
 go_enter Tryz.func188,Tryz.ntmps188
 go_wp2_with fail
 refine HP.mono ?_;rintro e w1 ⟨⟨n,r,rfl,hr⟩,hb1⟩;rcases hr with ⟨rfl,hr⟩ | ⟨hr,hn⟩
 ·have HR:Hid (l.length<=32->∃ v:Nat,n=v/\zea 2 zcr 32 l=some v):=hr
  clear hr
  go_wp2_with fail
  go_ret2
  exact ⟨⟨_,_,rfl,.inl ⟨rfl,HR.out⟩⟩,hb1⟩
 ·have HN:Hid (zea 2 zcr 32 l=none):=hn
  have HT:=zgd l 2 r w1 hs (HV.out.below hb1) hr;clear hn;rcases hr with rfl | rfl
  ·go_wp2_with fail
   refine HT.mono ?_;rintro e w2 ⟨⟨t,p,rfl⟩,hb2⟩
   go_wp2_with fail
   go_ret2
   exact ⟨⟨_,_,rfl,.inr ⟨⟨_,_,rfl⟩,HN.out⟩⟩,zhx hb1 hb2⟩
  ·go_wp2_with fail
   refine HT.mono ?_;rintro e w2 ⟨⟨t,p,rfl⟩,hb2⟩
   go_wp2_with fail
   go_ret2
   exact ⟨⟨_,_,rfl,.inr ⟨⟨_,_,rfl⟩,HN.out⟩⟩,zhx hb1 hb2⟩
set_option maxRecDepth 100000 in
theorem zit (l:List UInt8) (w:World) (hs:l.length<=16384) (hv:VW w) :
  Calls Tryz.prog 181 #[.string ⟨l.toArray⟩,.int .i64 2,.int .i64 32] w fun e w'=>(∃ v:Int,e=.returned (.tuple #[.int .i64 v,.bool (zea 2 zcr 32 l).isSome])/\∀ n,zea 2 zcr 32 l=some n->v=n)/\Below w.heap.size w w':=by
 have HP:=znz l w hs hv;clear hv
 go_enter Tryz.func181,Tryz.ntmps181
 go_wp2_with fail
 refine HP.mono ?_;rintro e w1 ⟨⟨n,r,rfl,hr⟩,hb1⟩;rcases hr with ⟨rfl,hr⟩ | ⟨⟨t,p,rfl⟩,hn⟩
 ·by_cases hl:l.length<=32
  ·obtain ⟨v,rfl,hd⟩:=hr hl
   have hlt:v < 2 ^ 32:=by
    unfold zea at hd
    split at hd
    ·cases hd
    ·exact zj4 (by decide) (fun c d h=>by rcases binD_or h with ⟨_,rfl⟩ | ⟨_,rfl⟩ <;> omega) hd hl
   have hlt2:v < 4294967296:=hlt;have HD:Hid (zea 2 zcr 32 l=some v):=hd;have hw:IntKind.i64.wrap (v:Int)=(v:Int):=by rw [IntKind.wrap_i64];omega
   have i1:(l.length:Int)<=32:=by omega
   clear hd hr hlt
   go_wp2_with fail
   go_ret2
   rw [HD.out];exact ⟨⟨_,rfl,fun n hn=>by injection hn with hn;rw [hn]⟩,hb1⟩
  ·have i1:¬(l.length:Int)<=32:=by omega
   have hi1:Hid (decide ((l.length:Int)<=32)=false):=decide_eq_false i1;have HD:Hid (zea 2 zcr 32 l=none):=if_pos (.inr (by omega));clear hr
   go_wp2_with fail
   go_ret2
   rw [HD.out,hi1.out];exact ⟨⟨_,rfl,fun n hn=>by cases hn⟩,hb1⟩
 ·have HD:Hid (zea 2 zcr 32 l=none):=hn
  clear hn
  go_wp2_with fail
  go_ret2
  rw [HD.out];exact ⟨⟨_,rfl,fun n hn=>by cases hn⟩,hb1⟩

theorem zre {b:Nat} {D:UInt8->Option Nat} {c:UInt8} (hc:D c=none) (l:List UInt8) (h:c∈l) (m:Nat):zaw b D l m=none:=by
 induction l generalizing m with
 | nil=>cases h
 | cons a l ih=>
  unfold zaw;cases hd:D a with
  | none=>rfl
  | some d=>
   rcases List.mem_cons.1 h with e | e
   ·subst e;rw [hc] at hd;cases hd
   ·exact ih e _
theorem ziv {l:List UInt8} {c:UInt8} (hc:zdk c=false) (h:c∈l) (t:Nat):zfo l t=none:=by
 unfold zfo;rw [if_neg];rintro ⟨_,ha,_⟩;rw [List.all_eq_true] at ha;rw [ha c h] at hc;cases hc
theorem zqn {b:Nat} {D:UInt8->Option Nat} {M:Nat} {l:List UInt8} {x:UInt8} (hx:zdk x=false) (hx2:x≠46) (hD:D 46=none) (ht:l.take 2=[48,x])
  (hn:¬0<=Lib.indexByte l 46->zhq l=if 3<=l.length/\l.length<=M+2 then zaw b D (l.drop 2) 0 else zfo l 4294967295):zhq l=zea b D M (l.drop 2):=by
 obtain ⟨r,rfl⟩:∃ r,l=48 :: x :: r:=by
  match l,ht with
  | [],h=>simp at h
  | [_],h=>simp at h
  | a :: c :: r,h=>
   simp at h;exact ⟨r,by rw [h.1,h.2]⟩
 have hd:(48 :: x :: r).drop 2=r:=rfl;rw [hd] at hn ⊢;have hxm:x∈(48 :: x :: r):=by simp
 by_cases hdot:0<=Lib.indexByte (48 :: x :: r) 46
 ·obtain ⟨i,hi⟩:∃ i:Nat,Lib.indexByte (48 :: x :: r) 46=i:=⟨_,(Int.toNat_of_nonneg hdot).symm⟩
  obtain ⟨h1,h2⟩:=Lib.indexByte_some hi;have hi2:2<=i:=by
   match i,h1 with
   | 0,h=>simp at h
   | 1,h=>simp at h;exact absurd h hx2
   | i+2,_=>omega
  have hmem:(46:UInt8)∈r:=by
   obtain ⟨j,rfl⟩:∃ j,i=j+2:=⟨i - 2,by omega⟩;simp only [List.getElem?_cons_succ] at h1;exact List.mem_of_getElem? h1
  have hL:zhq (48 :: x :: r)=none:=by
   unfold zhq;rw [if_pos hdot,zd7,hi,if_neg (by omega),show ((i:Int)).toNat=i from Int.toNat_natCast i,ziv hx];obtain ⟨j,rfl⟩:∃ j,i=j+2:=⟨i - 2,by omega⟩;simp
  rw [hL];unfold zea
  split
  ·rfl
  ·exact (zre hD r hmem 0).symm
 ·rw [hn hdot]
  unfold zea
  by_cases hr:r=[]
  ·rw [if_neg (show ¬(3<=(48 :: x :: r).length/\(48 :: x :: r).length<=M+2) by subst hr;simp),if_pos (.inl hr),ziv hx hxm]
  ·have hl:0 < r.length:=List.length_pos_iff.2 hr
   by_cases hm:M < r.length
   ·rw [if_neg (show ¬(3<=(48 :: x :: r).length/\(48 :: x :: r).length<=M+2) by simp;omega),if_pos (.inr hm),ziv hx hxm]
   ·rw [if_pos (show 3<=(48 :: x :: r).length/\(48 :: x :: r).length<=M+2 by simp;omega),if_neg (fun h=>h.elim hr hm)]
theorem num_hex {l:List UInt8} (ht:l.take 2=[48,120]):zhq l=zea 16 zbu 8 (l.drop 2):=by
 refine zqn (by decide) (by decide) (by decide) ht (fun hd=>?_);unfold zhq;rw [if_neg hd]
 by_cases h:3<=l.length/\l.length<=8+2
 ·rw [if_pos h,if_pos ⟨h,ht⟩]
 ·rw [if_neg h,if_neg (fun e=>h e.1),if_neg (fun e=>by rw [ht] at e;exact absurd e.2 (by decide))]
theorem num_bin {l:List UInt8} (ht:l.take 2=[48,98]):zhq l=zea 2 zcr 32 (l.drop 2):=by
 refine zqn (by decide) (by decide) (by decide) ht (fun hd=>?_);unfold zhq;rw [if_neg hd,if_neg (fun e=>by rw [ht] at e;exact absurd e.2 (by decide))]
 by_cases h:3<=l.length/\l.length<=32+2
 ·rw [if_pos h,if_pos ⟨h,ht⟩]
 ·rw [if_neg h,if_neg (fun e=>h e.1)]
theorem num_dec {l:List UInt8} (hd:¬0<=Lib.indexByte l 46) (h1:l.take 2≠[48,120]) (h2:l.take 2≠[48,98]):zhq l=zfo l 4294967295:=by
 unfold zhq;rw [if_neg hd,if_neg (fun e=>h1 e.2),if_neg (fun e=>h2 e.2)]
theorem pre2 (a b:UInt8) (l:List UInt8):Lib.hasPrefix l [a,b]=decide (l.take 2=[a,b]):=by
 unfold Lib.hasPrefix
 match l with
 | []=>simp
 | [c]=>simp [List.isPrefixOf]
 | c :: d :: r=>
  simp only [List.isPrefixOf,List.take_succ_cons,List.take_zero,Bool.and_true]
  by_cases h1:a=c
  ·by_cases h2:b=d
   ·subst h1 h2;simp
   ·simp [h1,h2,Ne.symm h2]
  ·simp [h1,Ne.symm h1]
theorem zrn (a b:UInt8) (l:List UInt8) (w:World):Calls Tryz.prog 180 #[.string ⟨l.toArray⟩,.string ⟨#[a,b]⟩] w fun e w'=>e=.returned (.tuple #[.string ⟨(if l.take 2=[a,b] then l.drop 2 else l).toArray⟩,.bool (decide (l.take 2=[a,b]))])/\w'=w:=by
 have h:=Any.strings_CutPrefix Tryz.l103 ⟨l.toArray⟩ ⟨#[a,b]⟩ w;refine h.mono fun e w' ⟨he,hw⟩=>⟨?_,hw⟩;rw [he];show Ending.returned (.tuple #[.string ⟨(Lib.trimPrefix l [a,b]).toArray⟩,.bool (Lib.hasPrefix l [a,b])])=_;unfold Lib.trimPrefix;rw [pre2]
 by_cases ht:l.take 2=[a,b]
 ·rw [if_pos (decide_eq_true ht),if_pos ht];rfl
 ·rw [if_neg (by simpa using ht),if_neg ht]
theorem zke (l:List UInt8) (w:World):Calls Tryz.prog 182 #[.string ⟨l.toArray⟩,.string ⟨#[46]⟩] w fun e w'=>e=.returned (.bool (decide (0<=Lib.indexByte l 46)))/\w'=w:=Any.strings_Contains_one Tryz.l144 ⟨l.toArray⟩ 46 w
set_option maxRecDepth 100000 in
theorem zkr (l:List UInt8) (w:World) (hs:l.length<=16384) (hv0:VW w) :
  Calls Tryz.prog 174 #[.string ⟨l.toArray⟩] w fun e w'=>(∃ v:Int,e=.returned (.tuple #[.int .i64 v,.bool (zhq l).isSome])/\∀ n,zhq l=some n->v=n)/\Below w.heap.size w w':=by
 have hv:Hid (VW w):=hv0;clear hv0;have HC1:=zrn 48 120 l w;have HC2:=zrn 48 98 l w
 by_cases h1:l.take 2=[48,120]
 ·rw [if_pos h1,decide_eq_true h1] at HC1
  have HD:=zhe (l.drop 2) w (by simp;omega) hv.out;rw [<-num_hex h1] at HD;clear HC2 h1;obtain ⟨N,hN⟩:=ex (zhq l);rw [hN] at HD ⊢
  go_enter Tryz.func174,Tryz.ntmps174
  go_wp2_with fail
  refine HC1.mono ?_;rintro e w1 ⟨rfl,rfl⟩
  go_wp2_with fail
  refine HD.mono ?_;rintro e w2 ⟨⟨v,rfl,hvn⟩,hb⟩;have HVN:Hid (∀ n,N=some n->v=n):=hvn;clear hvn
  go_wp2_with fail
  go_ret2
  exact ⟨⟨v,rfl,HVN.out⟩,hb⟩
 ·rw [if_neg h1,decide_eq_false h1] at HC1
  by_cases h2:l.take 2=[48,98]
  ·rw [if_pos h2,decide_eq_true h2] at HC2
   have HD:=zit (l.drop 2) w (by simp;omega) hv.out;rw [<-num_bin h2] at HD;clear h1 h2;obtain ⟨N,hN⟩:=ex (zhq l);rw [hN] at HD ⊢
   go_enter Tryz.func174,Tryz.ntmps174
   go_wp2_with fail
   refine HC1.mono ?_;rintro e w1 ⟨rfl,rfl⟩
   go_wp2_with fail
   refine HC2.mono ?_;rintro e w1 ⟨rfl,rfl⟩
   go_wp2_with fail
   refine HD.mono ?_;rintro e w2 ⟨⟨v,rfl,hvn⟩,hb⟩;have HVN:Hid (∀ n,N=some n->v=n):=hvn;clear hvn
   go_wp2_with fail
   go_ret2
   exact ⟨⟨v,rfl,HVN.out⟩,hb⟩
  ·rw [if_neg h2,decide_eq_false h2] at HC2
   have HK:=zke l w
   by_cases h3:0<=Lib.indexByte l 46
   ·rw [decide_eq_true h3] at HK
    have HD:=znt l w hs hv.out;have e0:zhq l=zd7 3 0 l:=if_pos h3;rw [<-e0] at HD;clear h1 h2 h3 e0;obtain ⟨N,hN⟩:=ex (zhq l);rw [hN] at HD ⊢
    go_enter Tryz.func174,Tryz.ntmps174
    go_wp2_with fail
    refine HC1.mono ?_;rintro e w1 ⟨rfl,rfl⟩
    go_wp2_with fail
    refine HC2.mono ?_;rintro e w1 ⟨rfl,rfl⟩
    go_wp2_with fail
    refine HK.mono ?_;rintro e w1 ⟨rfl,rfl⟩
    go_wp2_with fail
    refine HD.mono ?_;rintro e w2 ⟨⟨v,rfl,hvn⟩,hb⟩;have HVN:Hid (∀ n,N=some n->v=n):=hvn;clear hvn
    go_wp2_with fail
    go_ret2
    exact ⟨⟨v,rfl,HVN.out⟩,hb⟩
   ·rw [decide_eq_false h3] at HK
    have HD:=ze0 l 4294967295 w hs (by omega) hv.out;rw [<-num_dec h3 h1 h2] at HD;clear h1 h2 h3;obtain ⟨N,hN⟩:=ex (zhq l);rw [hN] at HD ⊢
    go_enter Tryz.func174,Tryz.ntmps174
    go_wp2_with fail
    refine HC1.mono ?_;rintro e w1 ⟨rfl,rfl⟩
    go_wp2_with fail
    refine HC2.mono ?_;rintro e w1 ⟨rfl,rfl⟩
    go_wp2_with fail
    refine HK.mono ?_;rintro e w1 ⟨rfl,rfl⟩
    go_wp2_with fail
    refine HD.mono ?_;rintro e w2 ⟨⟨v,rfl,hvn⟩,hb⟩;have HVN:Hid (∀ n,N=some n->v=n):=hvn;clear hvn
    go_wp2_with fail
    go_ret2
    exact ⟨⟨v,rfl,HVN.out⟩,hb⟩
set_option maxRecDepth 100000 in
theorem zo7 (l:List UInt8) (w:World) (hm:l.length<=281474976710656) (hv0:VW w) :
  Calls Tryz.prog 168 #[.string ⟨l.toArray⟩] w fun e w'=>e=.returned (.tuple #[.int .i64 (valV l),.int .i64 (znl l)])/\Below w.heap.size w w':=by
 have hv:Hid (VW w):=hv0;clear hv0
 by_cases hs:16384 < l.length
 ·have e1:Hid (valV l=0):=if_pos hs
  have e2:Hid (znl l=2):=if_pos hs;have i1:(16384:Int) < (l.length:Int):=by omega
  go_enter Tryz.func168,Tryz.ntmps168
  go_wp2_with fail
  go_ret2
  exact ⟨by rw [e1.out,e2.out];rfl,Below.refl _ _⟩
 ·have i1:¬(16384:Int) < (l.length:Int):=by omega
  have HN:=zkr l w (by omega) hv.out;cases hn:zhq l with
  | none=>
   have e1:Hid (valV l=0):=by unfold Hid valV;rw [if_neg hs,hn]
   have e2:Hid (znl l=31):=by unfold Hid znl;rw [if_neg hs,hn]
   rw [hn] at HN;simp only [Option.isSome_none] at HN;clear hn
   go_enter Tryz.func168,Tryz.ntmps168
   go_wp2_with fail
   refine HN.mono ?_;rintro e w1 ⟨⟨v,rfl,_⟩,hb1⟩
   go_wp2_with fail
   go_ret2
   exact ⟨by rw [e1.out,e2.out];rfl,hb1⟩
  | some n=>
   have e1:Hid (valV l=n):=by unfold Hid valV;rw [if_neg hs,hn]
   have e2:Hid (znl l=0):=by unfold Hid znl;rw [if_neg hs,hn]
   rw [hn] at HN;simp only [Option.isSome_some] at HN;clear hn
   go_enter Tryz.func168,Tryz.ntmps168
   go_wp2_with fail
   refine HN.mono ?_;rintro e w1 ⟨⟨v,rfl,hvn⟩,hb1⟩;obtain rfl:=hvn n rfl;clear hvn
   go_wp2_with fail
   go_ret2
   exact ⟨by rw [e1.out,e2.out];rfl,hb1⟩
def zbw (l:List UInt8) (a b:Nat):List UInt8:=(l.drop a).take (b - a)
theorem ext_sub (l:List UInt8) (a b:Nat):(ByteArray.mk l.toArray).extract a b=⟨(zbw l a b).toArray⟩:=ByteArray.ext (by simp [zbw,List.take_drop])
theorem subL_len (l:List UInt8) (a b:Nat):(zbw l a b).length<=l.length:=by unfold zbw;simp;omega
def zb9 (c:UInt8):Bool:=c==48 || c==49 || c==120
def zbq (kind:Nat) (t:List UInt8):Nat:=
 if kind=2∨kind=3 then (if (zau t).any (fun n=>decide (24 < n.length)) then 36 else 0)
 else if kind=4 then (znl t).toNat
 else if kind=5 then (if t.drop 1=[]∨32 < (t.drop 1).length∨(t.drop 1).all zb9=false then 44 else 0)
 else if kind=7 then (if t=[] then 30 else 0) else 0
def FOK (w0:World):Prop:=∀ (kind:Nat) (t:List UInt8) (W:World),2<=kind->kind<=7->(kind=5->t≠[])->t.length<=16384->Below w0.heap.size w0 W->
 Calls Tryz.prog 161 #[.int .i64 (kind:Int),.string ⟨t.toArray⟩] W fun e w'=>e=.returned (.int .i64 (zbq kind t:Int))/\Below W.heap.size W w'
theorem zka (kind:Nat) (t:List UInt8):zbq kind t < 1000:=by
 unfold zbq znl
 repeat' split
 all_goals omega
def zo5 (X:MX) (now fst line head:Nat) (D:List Tok) (kind:Nat) (t:List UInt8) (e:Ending) (w':World):Prop:=
 e=.returned (.int .i64 (zbq kind t:Int))/\∃ v',MS X w' (if zbq kind t=0 then now else fst) fst line head v' (if zbq kind t=0 then D++[(kind,t,line,fst - head+1)] else D)
set_option maxRecDepth 100000 in
set_option maxHeartbeats 2000000 in
theorem zb6 {X:MX} (hC:MC X) (hF:FOK X.w0) {W:World} {now fst line head:Nat} {v:Value} {D:List Tok} (h:MS X W now fst line head v D) {i j:Nat} (hi:AT X.l fst i) (hj:AT X.l now j) (hij:i<=j) (hjl:j<=X.l.length) (hh:head<=fst) (hD:D.length<=65536) (kind:Nat) (k2:2<=kind) (k7:kind<=7) (k5:kind=5->i < j) :
  Calls Tryz.prog 153 #[.pointer (some ⟨X.b,0,none⟩),.int .i64 (kind:Int)] W fun e w'=>zo5 X now fst line head D kind (zbw X.l i j) e w':=by
 have hM:Hid (MS X W now fst line head v D):=h;have hc0:=h.c0;have hc1:=h.c1;have hc2:=h.c2;have hc3:=h.c3;have hxi:=h.ca hC hi (by omega);have hxj:=h.ca hC hj hjl;have hli:=hi.lt;have hlj:=hj.lt;have hlen:=hC.len;have hle:=hi.le;have n0:(0:Int)<=(now:Int):=by omega
 have n1:(now:Int) < ((zak X.l 0).length:Int):=by omega
 have n2:(0:Int)<=(fst:Int):=by omega
 have n3:(fst:Int) < ((zak X.l 0).length:Int):=by omega
 have p0:(0:Int)<=(i:Int):=by omega
 have p1:(i:Int)<=(j:Int):=by omega
 have p2:(j:Int)<=(X.l.length:Int):=by omega
 have hT:=ext_sub X.l i j;obtain ⟨T,hTT⟩:=ex (zbw X.l i j);have hTl:T.length<=16384:=by rw [<-hTT];have:=subL_len X.l i j;omega
 have hT5:kind=5->T≠[]:=fun hk e=>by
  have:=k5 hk;have h1:=congrArg List.length (hTT.trans e);unfold zbw at h1;simp at h1;omega
 rw [hTT] at hT ⊢;have HF:Hid (∀ W',Below X.w0.heap.size X.w0 W'->Calls Tryz.prog 161 #[.int .i64 (kind:Int),.string ⟨T.toArray⟩] W' fun e w'=>e=.returned (.int .i64 (zbq kind T:Int))/\Below W'.heap.size W' w'):=fun W' hW=>hF kind T W' k2 k7 hT5 hTl hW;have HH:Hid (∀ W',MS X W' now fst line head v D->Calls Tryz.prog 157 #[.pointer (some ⟨X.b,0,none⟩),.int .i64 (kind:Int),.string ⟨T.toArray⟩,.int .i64 (fst:Int)] W' fun e w'=>e=.returned (.tuple #[])/\∃ v',MS X w' now fst line head v' (D++[(kind,T,line,fst - head+1)])):=fun W' h'=>zmt hC h' kind T fst hh (by omega) hD;have hfl:=zka kind T;obtain ⟨f,hf⟩:=ex (zbq kind T);unfold zo5;rw [hf] at HF hfl ⊢;have hCC:Hid (MC X):=hC;clear h hi hj hF hTT hC hf hT5 k5
 by_cases f0:f=0
 ·subst f0
  rw [if_pos rfl,if_pos rfl]
  go_enter Tryz.func153,Tryz.ntmps153
  go_wp2_with fail
  go_quiet (fail)
  go_wp2_with fail
  refine (HF.out _ (by exact (hM.out.drewN _).bel)).mono ?_;rintro e w1 ⟨rfl,hb1⟩;have m1:=(hM.out.drewN _).below hb1;have m3:=m1.c3
  go_wp2_with fail
  refine (HH.out _ m1).mono ?_;rintro e w2 ⟨rfl,v2,m2⟩
  go_wp2_with fail
  go_ret
  exact ⟨rfl,v2,m2⟩
 ·have e0:((f:Int)==0)=false:=by rw [beq_eq_false_iff_ne];omega
  have e1:((f:Int) != 0)=true:=by rw [bne,e0];rfl
  rw [if_neg f0,if_neg f0]
  go_enter Tryz.func153,Tryz.ntmps153
  go_wp2_with fail
  go_quiet (fail)
  go_wp2_with fail
  refine (HF.out _ (by exact (hM.out.drewN _).bel)).mono ?_;rintro e w1 ⟨rfl,hb1⟩;have m1:=(hM.out.drewN _).below hb1;have m3:=m1.c3;have m2:=m1.c2;have f2:=m1.fz 2
  go_wp2_with fail
  go_ret
  exact ⟨rfl,v,m1.setNow hCC.out fst rfl⟩
end Go.Proofs.YtmfakcfmkmppfaaGreatDoor
