import Derived.Test.YtmfakcfmkmppfaaGreatDoorVAG
import Derived.Shelf.Strings.SlTrimAscii
import Derived.Lib.SlTrimSet
namespace Go.Proofs.YtmfakcfmkmppfaaGreatDoor
open Go.RowKit Go.Shelf
theorem zpg {l:List UInt8} {i j k:Nat} {c:UInt8} (h:(zbw l i j)[k]?=some c):l[i+k]?=some c/\i+k < j:=by
 unfold zbw at h;rw [List.getElem?_take] at h
 split at h
 ·rw [List.getElem?_drop] at h
  exact ⟨h,by omega⟩
 ·cases h
theorem zl4 {l:List UInt8} {j:Nat} (he:zcy l j=0):zdv l j=(za7 l j).2:=by
 by_cases h7:kl l j=7/\zg6 l j≠0
 ·unfold zcy at he
  rw [if_pos h7] at he;exact absurd he h7.2
 ·unfold zcy at he
  rw [if_neg h7] at he;unfold zdv;rw [if_neg h7,if_pos he]
theorem zm3 (r:Int) (h2:r≠-2) (h:¬(0<=r/\r < 128)):cls r=9:=by
 unfold cls;rw [if_neg (by omega),if_neg (by omega),if_neg (by omega),if_neg (by omega),if_neg (by omega),if_neg (by omega),if_neg (by omega),if_neg (by omega),if_neg (by omega),if_neg (by omega),if_neg (by omega)]
theorem zn7 {l:List UInt8} {i:Nat} (h:i < l.length):kl l i=cls (bt l i:Int):=by
 unfold kl
 by_cases hb:bt l i < 128
 ·rw [(zbs l i (bt l i) hb).2 ⟨h,rfl⟩]
 ·have hn:∀ x:Nat,x < 128->chr l i≠(x:Int):=fun x hx e=>hb (by rw [((zbs l i x hx).1 e).2];exact hx)
  have h2:chr l i≠-2:=by unfold chr;rw [if_pos h];split <;> omega
  rw [zm3 _ h2 (fun hh=>hn (chr l i).toNat (by omega) (by omega)),zm3 _ (by omega) (by omega)]
def zcz (x:Nat):Bool:=decide ((65<=x/\x<=90)∨(97<=x/\x<=122)∨x=95)
def zdm (x:Nat):Bool:=decide (48<=x/\x<=57)
def blaX (x:Nat):Bool:=decide (x=32∨x=9∨x=13)
theorem zro:∀ x:Fin 256,zcz x.val=decide (cls (x.val:Int)=3)/\zdm x.val=decide (cls (x.val:Int)=4)/\blaX x.val=decide (cls (x.val:Int)=2)/\(cls (x.val:Int)=8->x.val=35):=by decide +kernel
theorem zmm {x:Nat} (h:x < 256):zcz x=decide (cls (x:Int)=3):=(zro ⟨x,h⟩).1
theorem digX_cls {x:Nat} (h:x < 256):zdm x=decide (cls (x:Int)=4):=(zro ⟨x,h⟩).2.1
end Go.Proofs.YtmfakcfmkmppfaaGreatDoor
namespace Go.Proofs
open Go.Shelf
def Tryz.l160_ren:Go.Shelf.Ren:=⟨fun | 160=>128 | 232=>135 | 231=>134 | 227=>136 | 234=>138 | 233=>137 | 236=>140 | 235=>139 | 228=>146 | 271=>149 | 151=>148 | 197=>147 | 120=>160 | 152=>159 | 260=>158 | 137=>163 | 119=>164 | 224=>165 | 225=>166 | 217=>172 | 266=>177 | n=>n,fun | 9=>9 | 4=>4 | 3=>3 | 5=>5 | 117=>191 | 116=>190 | 0=>0 | 124=>194 | 21=>21 | 105=>200 | 46=>214 | 119=>213 | 139=>217 | 138=>216 | n=>n,fun | 3=>1 | 4=>2 | n=>n⟩
theorem Tryz.l160:Go.Proofs.Lays.n160 Tryz.prog Tryz.l160_ren:={
 mixed:=by kernel_rfl
 f119:=Tryz.func164.trans (congrArg some (by kernel_rfl))
 f120:=Tryz.func160.trans (congrArg some (by kernel_rfl))
 f137:=Tryz.func163.trans (congrArg some (by kernel_rfl))
 f151:=Tryz.func148.trans (congrArg some (by kernel_rfl))
 f152:=Tryz.func159.trans (congrArg some (by kernel_rfl))
 f160:=Tryz.func128.trans (congrArg some (by kernel_rfl))
 f197:=Tryz.func147.trans (congrArg some (by kernel_rfl))
 f217:=Tryz.func172.trans (congrArg some (by kernel_rfl))
 f224:=Tryz.func165.trans (congrArg some (by kernel_rfl))
 f225:=Tryz.func166.trans (congrArg some (by kernel_rfl))
 f227:=Tryz.func136.trans (congrArg some (by kernel_rfl))
 f228:=Tryz.func146.trans (congrArg some (by kernel_rfl))
 f231:=Tryz.func134.trans (congrArg some (by kernel_rfl))
 f232:=Tryz.func135.trans (congrArg some (by kernel_rfl))
 f233:=Tryz.func137.trans (congrArg some (by kernel_rfl))
 f234:=Tryz.func138.trans (congrArg some (by kernel_rfl))
 f235:=Tryz.func139.trans (congrArg some (by kernel_rfl))
 f236:=Tryz.func140.trans (congrArg some (by kernel_rfl))
 f260:=Tryz.func158.trans (congrArg some (by kernel_rfl))
 f266:=Tryz.func177.trans (congrArg some (by kernel_rfl))
 f271:=Tryz.func149.trans (congrArg some (by kernel_rfl))
 t0:=Tryz.underlying0
 a0:=Tryz.isAgg0
 z0:=Tryz.sizeOf0
 v0:=Tryz.zeroValue0
 t3:=Tryz.underlying3
 a3:=Tryz.isAgg3
 z3:=Tryz.sizeOf3
 v3:=Tryz.zeroValue3
 t4:=Tryz.underlying4
 a4:=Tryz.isAgg4
 z4:=Tryz.sizeOf4
 v4:=Tryz.zeroValue4
 t5:=Tryz.underlying5
 a5:=Tryz.isAgg5
 z5:=Tryz.sizeOf5
 v5:=Tryz.zeroValue5
 t9:=Tryz.underlying9
 a9:=Tryz.isAgg9
 z9:=Tryz.sizeOf9
 v9:=Tryz.zeroValue9
 t21:=Tryz.underlying21
 a21:=Tryz.isAgg21
 z21:=Tryz.sizeOf21
 v21:=Tryz.zeroValue21
 t46:=Tryz.underlying214
 a46:=Tryz.isAgg214
 z46:=Tryz.sizeOf214
 v46:=Tryz.zeroValue214
 t105:=Tryz.underlying200
 a105:=Tryz.isAgg200
 z105:=Tryz.sizeOf200
 v105:=Tryz.zeroValue200
 t116:=Tryz.underlying190
 a116:=Tryz.isAgg190
 z116:=Tryz.sizeOf190
 t117:=Tryz.underlying191
 a117:=Tryz.isAgg191
 z117:=Tryz.sizeOf191
 v117:=Tryz.zeroValue191
 t119:=Tryz.underlying213
 a119:=Tryz.isAgg213
 z119:=Tryz.sizeOf213
 t124:=Tryz.underlying194
 a124:=Tryz.isAgg194
 z124:=Tryz.sizeOf194
 v124:=Tryz.zeroValue194
 t138:=Tryz.underlying216
 a138:=Tryz.isAgg216
 z138:=Tryz.sizeOf216
 v138:=Tryz.zeroValue216
 t139:=Tryz.underlying217
 a139:=Tryz.isAgg217
 z139:=Tryz.sizeOf217
 v139:=Tryz.zeroValue217
 g3:=by kernel_rfl
 g4:=by kernel_rfl }
end Go.Proofs
namespace Go.Proofs.YtmfakcfmkmppfaaGreatDoor
open Go.RowKit Go.Shelf
theorem zbb (tmps:Array Value) (W:World) (b:Nat) (x:Int) {m:Nat×Nat} (hp:tmps.getD 4 undef=.pointer (some ⟨b,0,none⟩)) (h:W.heap[b]?=some (.cells #[.int .i64 x] 47 m)) :
  (results Tryz.f161 tmps).run Tryz.prog W=.ok (.int .i64 x) W:=by
 have hc:∀ j,W.cell? ⟨b,j,none⟩=(#[.int .i64 x]:Array Value)[j]?:=by
  intro j;unfold World.cell?;rw [h];simp
 have hp':tmps[4]?.getD undef=.pointer (some ⟨b,0,none⟩):=by simpa using hp
 simp [results,hp',go_sem,hc]
set_option maxRecDepth 100000 in
set_option maxHeartbeats 1000000 in
theorem fault6 (t:List UInt8) (w:World):Calls Tryz.prog 161 #[.int .i64 6,.string ⟨t.toArray⟩] w fun e w'=>e=.returned (.int .i64 0)/\Below w.heap.size w w':=by
 go_enter Tryz.func161,Tryz.ntmps161
 go_wp2_with fail
 exact bodyPost_ret (zbb _ _ w.heap.size 0 rfl (zam _ _)) rfl ⟨rfl,(Below.refl _ _).alloc (Nat.le_refl _) _⟩
set_option maxRecDepth 100000 in
set_option maxHeartbeats 1000000 in
theorem fault7 (t:List UInt8) (w:World):Calls Tryz.prog 161 #[.int .i64 7,.string ⟨t.toArray⟩] w fun e w'=>e=.returned (.int .i64 (if t=[] then 30 else 0:Nat))/\Below w.heap.size w w':=by
 cases t with
 | nil=>
  go_enter Tryz.func161,Tryz.ntmps161
  go_wp2_with fail
  exact bodyPost_ret (zbb _ _ w.heap.size 30 rfl (zam _ _)) rfl ⟨rfl,(Below.refl _ _).alloc (Nat.le_refl _) _⟩
 | cons c t=>
  go_enter Tryz.func161,Tryz.ntmps161
  go_wp2_with fail
  exact bodyPost_ret (zbb _ _ w.heap.size 0 rfl (zam _ _)) rfl ⟨rfl,(Below.refl _ _).alloc (Nat.le_refl _) _⟩
theorem valE_nat (t:List UInt8):znl t=((znl t).toNat:Int):=by
 unfold znl
 repeat' split
 all_goals rfl
set_option maxRecDepth 100000 in
set_option maxHeartbeats 1000000 in
theorem fault4 (t:List UInt8) (w:World) (ht:t.length<=16384) (hv:VW w):Calls Tryz.prog 161 #[.int .i64 4,.string ⟨t.toArray⟩] w fun e w'=>e=.returned (.int .i64 ((znl t).toNat:Int))/\Below w.heap.size w w':=by
 have HV:=zo7 t (w.alloc (.cells #[.int .i64 0] 47)) (by omega) (hv.below ((Below.refl _ _).alloc (Nat.le_refl _) _));rw [<-valE_nat t];obtain ⟨x,hx⟩:=ex (valV t);obtain ⟨y,hy⟩:=ex (znl t);rw [hx,hy] at HV;rw [hy];clear hx hy hv
 go_enter Tryz.func161,Tryz.ntmps161
 go_wp2_with fail
 refine HV.mono ?_;rintro e w1 ⟨rfl,hb⟩;have k0:=zbi hb (zam w (.cells #[.int .i64 0] 47));have c0:=zaz k0;have f0:=zb3 k0
 go_wp2_with fail
 refine bodyPost_ret (zbb _ _ w.heap.size y rfl (zb2 _ k0)) rfl ⟨rfl,(zeb hb).setCell (p:=⟨w.heap.size,0,none⟩) (Nat.le_refl _) _⟩
theorem zgw {α:Type} (p:α->Bool):∀ l:List α,l.dropWhile p=[]↔∀ x∈l,p x=true
 | []=>by simp
 | a :: l=>by
  rw [List.dropWhile_cons];cases h:p a with
  | true=>
   simp only [if_true];rw [zgw p l];simp [h]
  | false=>
   simp [h]
theorem zl2 (l:List UInt8):Lib.trimS l [48,49,120]=[]↔l.all zb9=true:=by
 have hc:∀ b:UInt8,([48,49,120]:List UInt8).contains b=zb9 b:=fun b=>by
  unfold zb9;simp [List.contains,List.elem];cases b==48 <;> cases b==49 <;> cases b==120 <;> rfl
 have hr:Lib.trimRightS l [48,49,120]=[]↔∀ x∈l,zb9 x=true:=by
  unfold Lib.trimRightS;rw [List.reverse_eq_nil_iff,zgw];simp only [List.mem_reverse,hc]
 have hpre:∀ x,x∈Lib.trimRightS l [48,49,120]->x∈l:=fun x hx=>by
  unfold Lib.trimRightS at hx;rw [List.mem_reverse] at hx;exact List.mem_reverse.1 ((List.dropWhile_sublist _).subset hx)
 rw [List.all_eq_true];unfold Lib.trimS Lib.trimLeftS;rw [zgw];simp only [hc];constructor
 ·intro h
  refine hr.1 (Classical.byContradiction (fun hne=>?_));have hlast:=List.getLast_mem hne;have h1:=h _ hlast;have h2:zb9 ((Lib.trimRightS l [48,49,120]).getLast hne)=false:=by
   have hd:l.reverse.dropWhile (([48,49,120]:List UInt8).contains ·)≠[]:=fun e=>hne (by unfold Lib.trimRightS;rw [e];rfl);have hh:=List.head_dropWhile_not (([48,49,120]:List UInt8).contains ·) hd;have he:(Lib.trimRightS l [48,49,120]).getLast hne=(l.reverse.dropWhile (([48,49,120]:List UInt8).contains ·)).head hd:=by
    simp only [Lib.trimRightS,List.getLast_reverse]
   rw [he,<-hc]
   simpa using hh
  rw [h1] at h2;cases h2
 ·intro h x hx
  exact h x (hpre x hx)
theorem zl3 (r:List UInt8) (w:World) (hr:r.length<=16384):Calls Tryz.prog 128 #[.string ⟨r.toArray⟩,.string ⟨#[48,49,120]⟩] w fun e w'=>e=.returned (.string ⟨(Lib.trimS r [48,49,120]).toArray⟩)/\Below w.heap.size w w':=
 Any.strings_Trim_ascii Tryz.l160 (by intro w;kernel_rfl) (by kernel_rfl) ⟨r.toArray⟩ ⟨#[48,49,120]⟩ w (by simp [ByteArray.size];omega) (by decide) (fun j b h=>by
  have:b∈([48,49,120]:List UInt8):=List.mem_of_getElem? h;clear h
  revert b
  decide)
set_option maxRecDepth 100000 in
set_option maxHeartbeats 1000000 in
theorem fault5 (c:UInt8) (d:List UInt8) (w:World) (hd:d.length<=16383):Calls Tryz.prog 161 #[.int .i64 5,.string ⟨(c :: d).toArray⟩] w fun e w'=>e=.returned (.int .i64 (if d=[]∨32 < d.length∨d.all zb9=false then 44 else 0:Nat))/\Below w.heap.size w w':=by
 have hE:(ByteArray.mk (c :: d).toArray).extract 1 (d.length+1)=⟨d.toArray⟩:=by
  have:=zf2 (c :: d) 1
  simpa using this
 have q1:(1:Int)<=(d.length:Int)+1:=by omega
 have q2:(0:Int)<=(d.length:Int):=by omega
 have HT:Hid (∀ W,Calls Tryz.prog 128 #[.string ⟨d.toArray⟩,.string ⟨#[48,49,120]⟩] W fun e w'=>e=.returned (.string ⟨(Lib.trimS d [48,49,120]).toArray⟩)/\Below W.heap.size W w'):=fun W=>zl3 d W (by omega);have hn:=zl2 d
 by_cases d0:d=[]
 ·have HR:Hid ((if d=[]∨32 < d.length∨d.all zb9=false then 44 else 0:Nat)=44):=if_pos (.inl d0)
  rw [HR.out];subst d0;clear hn
  go_enter Tryz.func161,Tryz.ntmps161
  go_wp2_with fail
  exact bodyPost_ret (zbb _ _ w.heap.size 44 rfl (zam _ _)) rfl ⟨rfl,(Below.refl _ _).alloc (Nat.le_refl _) _⟩
 ·have hem:d.isEmpty=false:=by cases d with
   | nil=>exact absurd rfl d0
   | cons _ _=>rfl
  by_cases d32:32 < d.length
  ·have HR:Hid ((if d=[]∨32 < d.length∨d.all zb9=false then 44 else 0:Nat)=44):=if_pos (.inr (.inl d32))
   rw [HR.out];have i32:(32:Int) < (d.length:Int):=by omega
   clear hn
   go_enter Tryz.func161,Tryz.ntmps161
   go_wp2_with fail
   exact bodyPost_ret (zbb _ _ w.heap.size 44 rfl (zam _ _)) rfl ⟨rfl,(Below.refl _ _).alloc (Nat.le_refl _) _⟩
  ·have i32:¬(32:Int) < (d.length:Int):=by omega
   obtain ⟨T,hT⟩:=ex (Lib.trimS d [48,49,120]);rw [hT] at HT hn;cases ha:d.all zb9 with
   | true=>
    have HR:Hid ((if d=[]∨32 < d.length∨true=false then 44 else 0:Nat)=0):=if_neg (by simp [d0];omega)
    rw [HR.out];obtain rfl:=hn.2 ha;clear hn hT ha
    go_enter Tryz.func161,Tryz.ntmps161
    go_wp2_with fail
    refine (HT.out _).mono ?_;rintro e w1 ⟨rfl,hb⟩;have k0:=zbi hb (zam w (.cells #[.int .i64 0] 47));have c0:=zaz k0;have f0:=zb3 k0
    go_wp2_with fail
    exact bodyPost_ret (zbb _ _ w.heap.size 0 rfl (zb2 _ k0)) rfl ⟨rfl,(zeb hb).setCell (p:=⟨w.heap.size,0,none⟩) (Nat.le_refl _) _⟩
   | false=>
    have HR:Hid ((if d=[]∨32 < d.length∨false=false then 44 else 0:Nat)=44):=if_pos (.inr (.inr rfl))
    rw [HR.out];have hT0:T≠[]:=fun e=>by
     have:=hn.1 e;rw [ha] at this;cases this
    have hTe:T.isEmpty=false:=by cases T with
     | nil=>exact absurd rfl hT0
     | cons _ _=>rfl
    clear hn hT ha
    go_enter Tryz.func161,Tryz.ntmps161
    go_wp2_with fail
    refine (HT.out _).mono ?_;rintro e w1 ⟨rfl,hb⟩;have k0:=zbi hb (zam w (.cells #[.int .i64 0] 47));have c0:=zaz k0;have f0:=zb3 k0
    go_wp2_with fail
    exact bodyPost_ret (zbb _ _ w.heap.size 44 rfl (zb2 _ k0)) rfl ⟨rfl,(zeb hb).setCell (p:=⟨w.heap.size,0,none⟩) (Nat.le_refl _) _⟩
structure FS (w:World) (S:Nat) (x:Int) (r:List UInt8) (lo:Loop) (W:World):Prop where
 a0:W.heap[S]?=some (.cells #[.int .i64 x] 47 (0,0))
 a4:W.heap[S+1]?=some (.cells #[.string ⟨r.toArray⟩] 9 (0,0))
 a5:W.heap[S+1+1]?=some (.cells #[.string ⟨#[46]⟩] 9 (0,0))
 a6:W.heap[S+1+1+1]?=some (.cells #[.int .i64 0] 3 (0,0))
 a7:W.heap[S+1+1+1+1]?=some (.deferred (some []))
 a8:W.heap[S+1+1+1+1+1]?=some (.loop lo)
 be:Below S w W
 sz:w.heap.size=S
theorem FS.loop {w W:World} {S:Nat} {x:Int} {r:List UInt8} {lo:Loop} (h:FS w S x r lo W) (lo':Loop):FS w S x r lo' (W.putObj (S+1+1+1+1+1) (.loop lo')):=
 ⟨zas h.a0 (by omega),zas h.a4 (by omega),zas h.a5 (by omega),zas h.a6 (by omega),zas h.a7 (by omega),World.putObj_heap_same (zay h.a8),zi5 h.be (grownBy_putObj' W _ _) (by rw [<-h.sz];exact h.sz ▸ h.be.size) (fun x e=>by cases e;omega),h.sz⟩
theorem FS.set0 {w W:World} {S:Nat} {x:Int} {r:List UInt8} {lo:Loop} (h:FS w S x r lo W) (y:Int):FS w S y r lo (W.setCell ⟨S,0,none⟩ (.int .i64 y)):=
 ⟨zb2 _ h.a0,zaj h.a4 (by omega),zaj h.a5 (by omega),zaj h.a6 (by omega),zaj h.a7 (by omega),zaj h.a8 (by omega),h.be.setCell (p:=⟨S,0,none⟩) (Nat.le_refl _) _,h.sz⟩
theorem FS.sets {w W:World} {S:Nat} {x:Int} {r:List UInt8} {lo:Loop} (h:FS w S x r lo W) (y:List UInt8):FS w S x y lo (W.setCell ⟨S+1,0,none⟩ (.string ⟨y.toArray⟩)):=
 ⟨zaj h.a0 (by omega),zb2 _ h.a4,zaj h.a5 (by omega),zaj h.a6 (by omega),zaj h.a7 (by omega),zaj h.a8 (by omega),h.be.setCell (p:=⟨S+1,0,none⟩) (by show S<=S+1;omega) _,h.sz⟩
theorem zna (w:World) (S:Nat) (l:List UInt8) (R:Loop) (hS:w.heap.size=S):FS w S 0 l R ((((((w.alloc (.cells #[.int .i64 0] 47)).alloc (.cells #[.string ⟨l.toArray⟩] 9)).alloc (.cells #[.string ⟨#[46]⟩] 9)).alloc (.cells #[.int .i64 0] 3)).alloc (.deferred (some []))).alloc (.loop R)):=by
 subst hS;obtain ⟨w1,e1⟩:=ex (w.alloc (.cells #[.int .i64 0] 47));have z1:w1.heap.size=w.heap.size+1:=by rw [<-e1];simp
 obtain ⟨w2,e2⟩:=ex (w1.alloc (.cells #[.string ⟨l.toArray⟩] 9));have z2:w2.heap.size=w.heap.size+1+1:=by rw [<-e2];simp [z1]
 obtain ⟨w3,e3⟩:=ex (w2.alloc (.cells #[.string ⟨#[46]⟩] 9));have z3:w3.heap.size=w.heap.size+1+1+1:=by rw [<-e3];simp [z2]
 obtain ⟨w4,e4⟩:=ex (w3.alloc (.cells #[.int .i64 0] 3));have z4:w4.heap.size=w.heap.size+1+1+1+1:=by rw [<-e4];simp [z3]
 obtain ⟨w5,e5⟩:=ex (w4.alloc (.deferred (some [])));have z5:w5.heap.size=w.heap.size+1+1+1+1+1:=by rw [<-e5];simp [z4]
 rw [e1,e2,e3,e4,e5];have k1:w1.heap[w.heap.size]?=some (.cells #[.int .i64 0] 47 (0,0)):=by rw [<-e1];exact zam _ _
 have k2:w2.heap[w.heap.size+1]?=some (.cells #[.string ⟨l.toArray⟩] 9 (0,0)):=by rw [<-e2,<-z1];exact zam _ _
 have k3:w3.heap[w.heap.size+1+1]?=some (.cells #[.string ⟨#[46]⟩] 9 (0,0)):=by rw [<-e3,<-z2];exact zam _ _
 have k4:w4.heap[w.heap.size+1+1+1]?=some (.cells #[.int .i64 0] 3 (0,0)):=by rw [<-e4,<-z3];exact zam _ _
 have k5:w5.heap[w.heap.size+1+1+1+1]?=some (.deferred (some [])):=by rw [<-e5,<-z4];exact zam _ _
 have k6:(w5.alloc (.loop R)).heap[w.heap.size+1+1+1+1+1]?=some (.loop R):=by rw [<-z5];exact zam _ _
 have t2:∀ b o,w1.heap[b]?=some o->w2.heap[b]?=some o:=fun b o h=>by rw [<-e2];exact zax h _
 have t3:∀ b o,w2.heap[b]?=some o->w3.heap[b]?=some o:=fun b o h=>by rw [<-e3];exact zax h _
 have t4:∀ b o,w3.heap[b]?=some o->w4.heap[b]?=some o:=fun b o h=>by rw [<-e4];exact zax h _
 have t5:∀ b o,w4.heap[b]?=some o->w5.heap[b]?=some o:=fun b o h=>by rw [<-e5];exact zax h _
 have t6:∀ b o,w5.heap[b]?=some o->(w5.alloc (.loop R)).heap[b]?=some o:=fun b o h=>zax h _;refine ⟨t6 _ _ (t5 _ _ (t4 _ _ (t3 _ _ (t2 _ _ (k1))))),t6 _ _ (t5 _ _ (t4 _ _ (t3 _ _ (k2)))),t6 _ _ (t5 _ _ (t4 _ _ (k3))),t6 _ _ (t5 _ _ (k4)),t6 _ _ (k5),k6,?_,rfl⟩;have b0:Below w.heap.size w w:=Below.refl _ _;have b1:=b0.alloc (Nat.le_refl _) (.cells #[.int .i64 0] 47);rw [e1] at b1;have b2:=b1.alloc (by omega) (.cells #[.string ⟨l.toArray⟩] 9);rw [e2] at b2;have b3:=b2.alloc (by omega) (.cells #[.string ⟨#[46]⟩] 9);rw [e3] at b3;have b4:=b3.alloc (by omega) (.cells #[.int .i64 0] 3);rw [e4] at b4;have b5:=b4.alloc (by omega) (.deferred (some []));rw [e5] at b5;exact b5.alloc (by omega) _
def lng (n:List UInt8):Bool:=decide (24 < n.length)
def FJ (w:World) (S:Nat) (l:List UInt8) (R:Loop) (r:List UInt8) (W:World):Prop:=FS w S 0 r R W/\r.length<=16384/\(zau r).any lng=(zau l).any lng
def FX (w:World) (S:Nat) (l:List UInt8) (W:World):Prop:=(zau l).any lng=true/\∃ r lo,FS w S 36 r lo W/\lo.state=.done/\lo.pending=some .ret
def FE (w:World) (S:Nat) (l:List UInt8) (R:Loop) (W:World):Prop:=FX w S l W∨((zau l).any lng=false/\∃ r,FS w S 0 r R W)
theorem zi8 {w W:World} {S:Nat} (hS:w.heap.size=S) (h:Below S w W) (k:Nat) (hk:S<=k):Below w.heap.size w (W.putObj k (.deferred none)):=zd5 hS h k hk
attribute [local go_sem] Oper.semAt_some
set_option maxRecDepth 100000 in
set_option maxHeartbeats 2000000 in
theorem fault2 (l:List UInt8) (w:World) (hs:l.length<=16384) :
  Calls Tryz.prog 161 #[.int .i64 2,.string ⟨l.toArray⟩] w fun e w'=>e=.returned (.int .i64 ((if (zau l).any lng=true then 36 else 0:Nat):Int))/\Below w.heap.size w w':=by
 obtain ⟨Fr,hFr⟩:=ex ((if (zau l).any lng=true then 36 else 0:Nat))
 rw [hFr];have HFr:Hid ((if (zau l).any lng=true then 36 else 0:Nat)=Fr):=hFr
 clear hFr;refine (callsIn_wide (n:=4)).1 ?_;refine callsIn_of_wp_marks Tryz.func161 rfl trivial ?_ rfl;simp only [Tryz.ntmps161,List.size_toArray,List.length_cons,List.length_nil,Nat.reduceAdd,Nat.reduceSub,Array.replicate_succ,Array.replicate_zero,List.push_toArray,List.append_toArray,List.nil_append,List.cons_append]
 gi_wp2_with (refine ⟨trivial,?_⟩;gi_at_call 167;refine (callsIn_wide.2 (zeg l _)).mono ?_;rintro e w' ⟨rfl,rfl⟩)
 refine zfy rfl (by omega) (gf:=178) (lb:=#[.pointer (some ⟨w.heap.size+1+1,0,none⟩),.pointer (some ⟨w.heap.size+1,0,none⟩),.pointer (some ⟨w.heap.size+1+1+1,0,none⟩)]) rfl trivial (enters_of Tryz.func178 (by kernel_rfl) rfl) ?_;intro fn hfn;obtain ⟨S,hS⟩:=ex w.heap.size;have Hs:Hid (w.heap.size=S):=hS;simp only [World.size_alloc,hS];generalize hR:zb7 fn _ _ _ _ _=R;have rs:R.state=.ready:=by rw [<-hR];rfl
 have rp:R.pending=none:=by rw [<-hR];rfl
 have rf:R.fn=fn:=by rw [<-hR];rfl
 have rq:R.params=#[15]:=by rw [<-hR];rfl
 have q0:=zna w S l R hS;obtain ⟨W0,hW0⟩:=ex (((((((w.alloc (.cells #[.int .i64 0] 47)).alloc (.cells #[.string ⟨l.toArray⟩] 9)).alloc (.cells #[.string ⟨#[46]⟩] 9)).alloc (.cells #[.int .i64 0] 3)).alloc (.deferred (some []))).alloc (.loop R)));rw [hW0] at q0;have HB:∀ (p r:List UInt8) (W:World),FS w S 0 r R W->p.length<=16384->(lng p=true->(zau l).any lng=true)->
   YieldAt Fence.wide (4 - 1 - 1) Tryz.prog (S+1+1+1+1+1) #[.string ⟨p.toArray⟩] W fun e W'=>(e=.returned (.bool true)/\lng p=false/\FS w S 0 r R W')∨(e=.returned (.bool false)/\FX w S l W'):=by
  intro p r W q hp hf;have qb:=q.loop { R with state:=.busy };refine (zic (F:=Fence.wide) (m:=4 - 1 - 1) (In:=fun W'=>lng p=false/\FS w S 0 r R W') (Out:=fun _ W'=>FX w S l W') (by rw [rf];exact hfn) q.a8 rs rp (by rw [rq];rfl) ?a1 ?has ?hb).mono ?_
  case has=>
   intro K hK;rw [congrArg Loop.assign hR.symm,rq,congrArg Loop.tmps hR.symm];simp only [zb7]
   gi_wp2
   exact hK
  case hb=>
   obtain ⟨V,hV⟩:∃ V,W.putObj (S+1+1+1+1+1) (.loop { R with state:=.busy })=V:=⟨_,rfl⟩;rw [hV] at qb ⊢;rw [congrArg Loop.body hR.symm];simp only [zb7];clear hV;cases hl:lng p with
   | true=>
    have hp24:24 < p.length:=by unfold lng at hl;simpa using hl
    have i1:(24:Int) < (p.length:Int):=by omega
    have HQ:Hid ((zau l).any lng=true):=hf hl;have c0:=zaz qb.a0;have f0:=zb3 qb.a0;clear hf hl hp24
    gi_wp2
    have q3:=qb.set0 36;exact ⟨q3.a8,HQ.out,_,_,q3.loop _,rfl,rfl⟩
   | false=>
    have hp24:¬24 < p.length:=by unfold lng at hl;simpa using hl
    have i1:¬(24:Int) < (p.length:Int):=by omega
    clear hf hl hp24
    gi_wp2
    first | exact ⟨qb.a8,rfl,qb.loop R⟩ | exact ⟨qb.a8,qb.loop R⟩
  rintro e W' h;rcases h with ⟨he,h⟩ | ⟨he,c,h⟩
  ·exact .inl ⟨he,h⟩
  ·exact .inr ⟨he,h⟩
 have hgo:CallsIn Fence.wide (4 - 1) Tryz.prog 178 #[.func (.yield (S+1+1+1+1+1)) #[] #[],.pointer (some ⟨S+1+1,0,none⟩),.pointer (some ⟨S+1,0,none⟩),.pointer (some ⟨S+1+1+1,0,none⟩)] W0 fun e W'=>(∃ v,e=.returned v)/\(FX w S l W'∨FE w S l R W'):=by
  refine zh9 (4 - 1) (by omega) (S+1+1+1+1+1) (S+1) (FJ w S l R) (FX w S l) (FE w S l R) ?hbox ?hY1 ?hY2 l W0 ⟨q0,hs,rfl⟩
  case hbox=>
   rintro r W ⟨q,hr,_⟩;exact ⟨q.a4,q.a5,q.a6,hr⟩
  case hY1=>
   rintro r W i ⟨q,hr,hf⟩ hi;rw [zc2 hi,List.any_cons] at hf;refine (HB (r.take i) r W q (by simp;omega) (fun h=>by rw [<-hf,h];rfl)).mono ?_;rintro e W' (⟨he,hn,q'⟩ | ⟨he,hx⟩)
   ·refine .inl ⟨he,q'.a4,q'.a5,q'.sets _,by simp;omega,?_⟩
    rw [hn,Bool.false_or] at hf;exact hf
   ·exact .inr ⟨he,hx⟩
  case hY2=>
   rintro r W ⟨q,hr,hf⟩ hi;rw [zc3 hi] at hf;refine (HB r r W q hr (fun h=>by rw [<-hf];simp [h])).mono ?_;rintro e W' (⟨he,hn,q'⟩ | ⟨he,hx⟩)
   ·exact ⟨⟨_,he⟩,.inr ⟨by rw [<-hf];simp [hn],r,q'⟩⟩
   ·exact ⟨⟨_,he⟩,.inl hx⟩
 rw [hW0];refine hgo.mono ?_;rintro e W ⟨hv1,hJ⟩;refine ⟨hv1,?_⟩;have hJ2:FX w S l W∨((zau l).any lng=false/\∃ r,FS w S 0 r R W):=by
  rcases hJ with h | h
  ·exact .inl h
  ·exact h
 rcases hJ2 with ⟨hq,r,lo,q,h1,h2⟩ | ⟨hq,r,q⟩
 ·refine ⟨lo,q.a8,(fun e=>by rw [h1] at e;cases e),.inr ⟨_,h2,?_⟩⟩
  have q2:=q.loop { lo with state:=.exhausted };have HQ:Hid ((zau l).any lng=true):=hq;obtain ⟨V,hV⟩:∃ V,W.putObj (S+1+1+1+1+1) (.loop { lo with state:=.exhausted })=V:=⟨_,rfl⟩;rw [hV] at q2 ⊢;clear hV hq;have c0:=zaz q2.a0
  gi_wp2
  refine ⟨by simp,.inl ⟨_,_,rfl,run_takeDeferred q2.a7,?_⟩⟩;refine ⟨_,zbb _ _ S 36 rfl (zas q2.a0 (by omega)),?_,?_⟩
  ·rw [show Fr=36 by rw [<-HFr.out,HQ.out];rfl];rfl
  ·have hfin:=zi8 Hs.out q2.be (S+1+1+1+1) (by omega)
   first
    | exact hfin
    | (rw [Hs.out] at hfin;exact hfin)
 ·refine ⟨R,q.a8,(fun e=>by rw [rs] at e;cases e),.inl ⟨rp,?_⟩⟩
  have q2:=q.loop { R with state:=.exhausted };have HQ:Hid ((zau l).any lng=false):=hq;obtain ⟨V,hV⟩:∃ V,W.putObj (S+1+1+1+1+1) (.loop { R with state:=.exhausted })=V:=⟨_,rfl⟩;rw [hV] at q2 ⊢;clear hV hq;have c0:=zaz q2.a0;have f0:=zb3 q2.a0
  gi_wp2
  have q3:=q2.set0 0;refine ⟨by simp,.inl ⟨_,_,rfl,run_takeDeferred q3.a7,?_⟩⟩;refine ⟨_,zbb _ _ S 0 rfl (zas q3.a0 (by omega)),?_,?_⟩
  ·rw [show Fr=0 by rw [<-HFr.out,HQ.out];rfl];rfl
  ·have hfin:=zi8 Hs.out q3.be (S+1+1+1+1) (by omega)
   first
    | exact hfin
    | (rw [Hs.out] at hfin;exact hfin)
set_option maxRecDepth 100000 in
set_option maxHeartbeats 2000000 in
theorem fault3 (l:List UInt8) (w:World) (hs:l.length<=16384) :
  Calls Tryz.prog 161 #[.int .i64 3,.string ⟨l.toArray⟩] w fun e w'=>e=.returned (.int .i64 ((if (zau l).any lng=true then 36 else 0:Nat):Int))/\Below w.heap.size w w':=by
 obtain ⟨Fr,hFr⟩:=ex ((if (zau l).any lng=true then 36 else 0:Nat))
 rw [hFr];have HFr:Hid ((if (zau l).any lng=true then 36 else 0:Nat)=Fr):=hFr
 clear hFr;refine (callsIn_wide (n:=4)).1 ?_;refine callsIn_of_wp_marks Tryz.func161 rfl trivial ?_ rfl;simp only [Tryz.ntmps161,List.size_toArray,List.length_cons,List.length_nil,Nat.reduceAdd,Nat.reduceSub,Array.replicate_succ,Array.replicate_zero,List.push_toArray,List.append_toArray,List.nil_append,List.cons_append]
 gi_wp2_with (refine ⟨trivial,?_⟩;gi_at_call 167;refine (callsIn_wide.2 (zeg l _)).mono ?_;rintro e w' ⟨rfl,rfl⟩)
 refine zfy rfl (by omega) (gf:=178) (lb:=#[.pointer (some ⟨w.heap.size+1+1,0,none⟩),.pointer (some ⟨w.heap.size+1,0,none⟩),.pointer (some ⟨w.heap.size+1+1+1,0,none⟩)]) rfl trivial (enters_of Tryz.func178 (by kernel_rfl) rfl) ?_;intro fn hfn;obtain ⟨S,hS⟩:=ex w.heap.size;have Hs:Hid (w.heap.size=S):=hS;simp only [World.size_alloc,hS];generalize hR:zb7 fn _ _ _ _ _=R;have rs:R.state=.ready:=by rw [<-hR];rfl
 have rp:R.pending=none:=by rw [<-hR];rfl
 have rf:R.fn=fn:=by rw [<-hR];rfl
 have rq:R.params=#[15]:=by rw [<-hR];rfl
 have q0:=zna w S l R hS;obtain ⟨W0,hW0⟩:=ex (((((((w.alloc (.cells #[.int .i64 0] 47)).alloc (.cells #[.string ⟨l.toArray⟩] 9)).alloc (.cells #[.string ⟨#[46]⟩] 9)).alloc (.cells #[.int .i64 0] 3)).alloc (.deferred (some []))).alloc (.loop R)));rw [hW0] at q0;have HB:∀ (p r:List UInt8) (W:World),FS w S 0 r R W->p.length<=16384->(lng p=true->(zau l).any lng=true)->
   YieldAt Fence.wide (4 - 1 - 1) Tryz.prog (S+1+1+1+1+1) #[.string ⟨p.toArray⟩] W fun e W'=>(e=.returned (.bool true)/\lng p=false/\FS w S 0 r R W')∨(e=.returned (.bool false)/\FX w S l W'):=by
  intro p r W q hp hf;have qb:=q.loop { R with state:=.busy };refine (zic (F:=Fence.wide) (m:=4 - 1 - 1) (In:=fun W'=>lng p=false/\FS w S 0 r R W') (Out:=fun _ W'=>FX w S l W') (by rw [rf];exact hfn) q.a8 rs rp (by rw [rq];rfl) ?a1 ?has ?hb).mono ?_
  case has=>
   intro K hK;rw [congrArg Loop.assign hR.symm,rq,congrArg Loop.tmps hR.symm];simp only [zb7]
   gi_wp2
   exact hK
  case hb=>
   obtain ⟨V,hV⟩:∃ V,W.putObj (S+1+1+1+1+1) (.loop { R with state:=.busy })=V:=⟨_,rfl⟩;rw [hV] at qb ⊢;rw [congrArg Loop.body hR.symm];simp only [zb7];clear hV;cases hl:lng p with
   | true=>
    have hp24:24 < p.length:=by unfold lng at hl;simpa using hl
    have i1:(24:Int) < (p.length:Int):=by omega
    have HQ:Hid ((zau l).any lng=true):=hf hl;have c0:=zaz qb.a0;have f0:=zb3 qb.a0;clear hf hl hp24
    gi_wp2
    have q3:=qb.set0 36;exact ⟨q3.a8,HQ.out,_,_,q3.loop _,rfl,rfl⟩
   | false=>
    have hp24:¬24 < p.length:=by unfold lng at hl;simpa using hl
    have i1:¬(24:Int) < (p.length:Int):=by omega
    clear hf hl hp24
    gi_wp2
    first | exact ⟨qb.a8,rfl,qb.loop R⟩ | exact ⟨qb.a8,qb.loop R⟩
  rintro e W' h;rcases h with ⟨he,h⟩ | ⟨he,c,h⟩
  ·exact .inl ⟨he,h⟩
  ·exact .inr ⟨he,h⟩
 have hgo:CallsIn Fence.wide (4 - 1) Tryz.prog 178 #[.func (.yield (S+1+1+1+1+1)) #[] #[],.pointer (some ⟨S+1+1,0,none⟩),.pointer (some ⟨S+1,0,none⟩),.pointer (some ⟨S+1+1+1,0,none⟩)] W0 fun e W'=>(∃ v,e=.returned v)/\(FX w S l W'∨FE w S l R W'):=by
  refine zh9 (4 - 1) (by omega) (S+1+1+1+1+1) (S+1) (FJ w S l R) (FX w S l) (FE w S l R) ?hbox ?hY1 ?hY2 l W0 ⟨q0,hs,rfl⟩
  case hbox=>
   rintro r W ⟨q,hr,_⟩;exact ⟨q.a4,q.a5,q.a6,hr⟩
  case hY1=>
   rintro r W i ⟨q,hr,hf⟩ hi;rw [zc2 hi,List.any_cons] at hf;refine (HB (r.take i) r W q (by simp;omega) (fun h=>by rw [<-hf,h];rfl)).mono ?_;rintro e W' (⟨he,hn,q'⟩ | ⟨he,hx⟩)
   ·refine .inl ⟨he,q'.a4,q'.a5,q'.sets _,by simp;omega,?_⟩
    rw [hn,Bool.false_or] at hf;exact hf
   ·exact .inr ⟨he,hx⟩
  case hY2=>
   rintro r W ⟨q,hr,hf⟩ hi;rw [zc3 hi] at hf;refine (HB r r W q hr (fun h=>by rw [<-hf];simp [h])).mono ?_;rintro e W' (⟨he,hn,q'⟩ | ⟨he,hx⟩)
   ·exact ⟨⟨_,he⟩,.inr ⟨by rw [<-hf];simp [hn],r,q'⟩⟩
   ·exact ⟨⟨_,he⟩,.inl hx⟩
 rw [hW0];refine hgo.mono ?_;rintro e W ⟨hv1,hJ⟩;refine ⟨hv1,?_⟩;have hJ2:FX w S l W∨((zau l).any lng=false/\∃ r,FS w S 0 r R W):=by
  rcases hJ with h | h
  ·exact .inl h
  ·exact h
 rcases hJ2 with ⟨hq,r,lo,q,h1,h2⟩ | ⟨hq,r,q⟩
 ·refine ⟨lo,q.a8,(fun e=>by rw [h1] at e;cases e),.inr ⟨_,h2,?_⟩⟩
  have q2:=q.loop { lo with state:=.exhausted };have HQ:Hid ((zau l).any lng=true):=hq;obtain ⟨V,hV⟩:∃ V,W.putObj (S+1+1+1+1+1) (.loop { lo with state:=.exhausted })=V:=⟨_,rfl⟩;rw [hV] at q2 ⊢;clear hV hq;have c0:=zaz q2.a0
  gi_wp2
  refine ⟨by simp,.inl ⟨_,_,rfl,run_takeDeferred q2.a7,?_⟩⟩;refine ⟨_,zbb _ _ S 36 rfl (zas q2.a0 (by omega)),?_,?_⟩
  ·rw [show Fr=36 by rw [<-HFr.out,HQ.out];rfl];rfl
  ·have hfin:=zi8 Hs.out q2.be (S+1+1+1+1) (by omega)
   first
    | exact hfin
    | (rw [Hs.out] at hfin;exact hfin)
 ·refine ⟨R,q.a8,(fun e=>by rw [rs] at e;cases e),.inl ⟨rp,?_⟩⟩
  have q2:=q.loop { R with state:=.exhausted };have HQ:Hid ((zau l).any lng=false):=hq;obtain ⟨V,hV⟩:∃ V,W.putObj (S+1+1+1+1+1) (.loop { R with state:=.exhausted })=V:=⟨_,rfl⟩;rw [hV] at q2 ⊢;clear hV hq;have c0:=zaz q2.a0;have f0:=zb3 q2.a0
  gi_wp2
  have q3:=q2.set0 0;refine ⟨by simp,.inl ⟨_,_,rfl,run_takeDeferred q3.a7,?_⟩⟩;refine ⟨_,zbb _ _ S 0 rfl (zas q3.a0 (by omega)),?_,?_⟩
  ·rw [show Fr=0 by rw [<-HFr.out,HQ.out];rfl];rfl
  ·have hfin:=zi8 Hs.out q3.be (S+1+1+1+1) (by omega)
   first
    | exact hfin
    | (rw [Hs.out] at hfin;exact hfin)
theorem FOK_of {w:World} (hv:VW w):FOK w:=fun kind t W h2 h7 h5 hl hb=>by
 have hvW:=hv.below hb;have hcase:kind=2∨kind=3∨kind=4∨kind=5∨kind=6∨kind=7:=by omega
 rcases hcase with rfl | rfl | rfl | rfl | rfl | rfl
 ·exact fault2 t W hl
 ·exact fault3 t W hl
 ·exact fault4 t W hl hvW
 ·cases t with
  | nil=>exact absurd rfl (h5 rfl)
  | cons c d=>exact fault5 c d W (by simp at hl;omega)
 ·exact fault6 t W
 ·exact fault7 t W
theorem ze7 {l:List UInt8}:∀ (m j:Nat),l.length - j<=m->∀ k,j<=k->k < za8 l j->inW l k=true
 | m,j,hm,k,h1,h2=>by
  cases h:inW l j with
  | false=>rw [zcj h] at h2;omega
  | true=>
   have hj:=(zca h).1;rw [zbd h] at h2;rcases Nat.lt_or_ge j k with hk | hk
   ·match m,hm with
    | 0,hm=>omega
    | m+1,hm=>exact ze7 m (j+1) (by omega) k hk h2
   ·rw [show k=j by omega];exact h
theorem zmr {l:List UInt8} {k:Nat} (h:inW l k=true):bt l k≠46:=fun e=>by
 have hk:=(zca h).1;have h5:kl l k=5:=by rw [zn7 hk,e];rfl
 unfold inW at h;rw [h5] at h;cases h
theorem sub_dot {l:List UInt8} {i j:Nat} (h:∀ k,i<=k->k < j->bt l k≠46):Lib.indexByte (zbw l i j) 46 < 0:=by
 rw [idx_no (fun k hk e=>?_)]
 ·decide
 ·obtain ⟨h1,h2⟩:=zpg e
  exact h (i+k) (by omega) h2 (by rw [zdh h1];rfl)
theorem ze9 {l:List UInt8} {i j:Nat} (h:j<=l.length):(zbw l i j).length=j - i:=by
 unfold zbw;simp;omega
theorem zjo {l:List UInt8} {i j:Nat} (h:∀ k,i<=k->k < j->bt l k≠46):zau (zbw l i j)=[zbw l i j]:=zc3 (sub_dot h)
theorem sub_take {l:List UInt8} {i j k:Nat} (h1:i<=j) (h2:j<=k):(zbw l i k).take (j - i)=zbw l i j:=by
 unfold zbw;rw [List.take_take,Nat.min_eq_left (by omega)]
theorem sub_drop {l:List UInt8} {i j k:Nat} (h1:i<=j) (h2:j < k):(zbw l i k).drop (j - i+1)=zbw l (j+1) k:=by
 unfold zbw;rw [List.drop_take,List.drop_drop,show i+(j - i+1)=j+1 by omega,show k - i - (j - i+1)=k - (j+1) by omega]
theorem zqb {l:List UInt8} {i j k:Nat} (h1:i<=j) (h2:j < k) (hk:k<=l.length) (hd:bt l j=46) (ha:∀ m,i<=m->m < j->bt l m≠46) (hb:∀ m,j+1<=m->m < k->bt l m≠46):zau (zbw l i k)=[zbw l i j,zbw l (j+1) k]:=by
 have hj:j < l.length:=by omega
 have h46:l[j]?=some 46:=by
  rw [List.getElem?_eq_getElem hj];have:=zdh (List.getElem?_eq_getElem hj);rw [hd] at this;exact congrArg some (UInt8.toNat_inj.1 this.symm)
 have hi:Lib.indexByte (zbw l i k) 46=((j - i:Nat):Int):=by
  refine idx_eq ?_ (fun m hm e=>?_)
  ·unfold zbw
   rw [List.getElem?_take,if_pos (by omega),List.getElem?_drop,show i+(j - i)=j by omega];exact h46
  ·obtain ⟨e1,e2⟩:=zpg e
   exact ha (i+m) (by omega) (by omega) (by rw [zdh e1];rfl)
 rw [zc2 hi,sub_take h1 (by omega),sub_drop h1 h2,zjo hb]
theorem tok_name {l:List UInt8} {i j:Nat} (hi:i < l.length) (h3:kl l i=3) (hj:za8 l i=j) (hd:zcl l j 3=false) :
  i < j/\j<=l.length/\zcy l i=(if 24 < j - i then 36 else 0)/\zdv l i=(if 24 < j - i then i else j)/\za7 l i=(2,j):=by
 have hw:inW l i=true:=by unfold inW;rw [h3];rfl
 have hj':za8 l (i+1)=j:=by rw [<-hj,zbd hw]
 have hg:=zdp l _ (i+1) (Nat.le_refl _);rw [hj'] at hg;have hle:=hg.2 hi;have hC:za7 l i=(2,j):=by unfold za7 zek;rw [if_pos h3,if_pos rfl,hj',hd,if_neg (by decide)]
 have hp:=zjo (l:=l) (i:=i) (j:=j) (fun k h1 h2=>zmr (ze7 _ i (Nat.le_refl _) k h1 (by rw [hj];exact h2)));have hF:zbq 2 (zbw l i j)=if 24 < j - i then 36 else 0:=by
  unfold zbq;rw [if_pos (.inl rfl),hp,List.any_cons,List.any_nil,Bool.or_false,ze9 hle];simp
 refine ⟨by omega,hle,?_,?_,hC⟩
 ·unfold zcy
  rw [hC,if_neg (by omega)];exact hF
 ·unfold zdv
  rw [hC,if_neg (by omega),hF]
  by_cases h:24 < j - i
  ·rw [if_pos h,if_pos h,if_neg (by decide)]
  ·rw [if_neg h,if_neg h,if_pos rfl]
theorem zl5 {l:List UInt8} {i j k:Nat} (hi:i < l.length) (h3:kl l i=3) (hj:za8 l i=j) (hd:zcl l j 3=true) (hk:za8 l (j+1)=k) :
  i < j/\j+1 < l.length/\j+1 < k/\k<=l.length/\zcy l i=(if 24 < j - i∨24 < k - j - 1 then 36 else 0)/\zdv l i=(if 24 < j - i∨24 < k - j - 1 then i else k)/\za7 l i=(3,k):=by
 have hw:inW l i=true:=by unfold inW;rw [h3];rfl
 have hj':za8 l (i+1)=j:=by rw [<-hj,zbd hw]
 have hg:=zdp l _ (i+1) (Nat.le_refl _);rw [hj'] at hg;have hle:=hg.2 hi;obtain ⟨d1,d2⟩:kl l j=5/\kl l (j+1)=3:=by unfold zcl at hd;simpa using hd
 obtain ⟨e1,e2⟩:=kl5 d1;have e3:j+1 < l.length:=Classical.byContradiction (fun h=>by rw [kl0.2 h] at d2;cases d2);have hw2:inW l (j+1)=true:=by unfold inW;rw [d2];rfl
 have hg2:=zdp l _ (j+1+1) (Nat.le_refl _);rw [<-zbd hw2,hk] at hg2;have hle2:=hg2.2 (by omega);have hC:za7 l i=(3,k):=by unfold za7 zek;rw [if_pos h3,if_pos rfl,hj',hd,if_pos rfl,hk]
 have hp:=zqb (l:=l) (i:=i) (j:=j) (k:=k) (by omega) (by omega) hle2 e2 (fun m h1 h2=>zmr (ze7 _ i (Nat.le_refl _) m h1 (by rw [hj];exact h2))) (fun m h1 h2=>zmr (ze7 _ (j+1) (Nat.le_refl _) m h1 (by rw [hk];exact h2)));have hF:zbq 3 (zbw l i k)=if 24 < j - i∨24 < k - j - 1 then 36 else 0:=by
  unfold zbq;rw [if_pos (.inr rfl),hp,List.any_cons,List.any_cons,List.any_nil,Bool.or_false,ze9 (by omega),ze9 hle2,show k - (j+1)=k - j - 1 by omega];simp
 refine ⟨by omega,e3,by omega,hle2,?_,?_,hC⟩
 ·unfold zcy
  rw [hC,if_neg (by omega)];exact hF
 ·unfold zdv
  rw [hC,if_neg (by omega),hF]
  by_cases h:24 < j - i∨24 < k - j - 1
  ·rw [if_pos h,if_pos h,if_neg (by decide)]
  ·rw [if_neg h,if_neg h,if_pos rfl]
theorem zh6 {l:List UInt8} {i:Nat} (h3:kl l i≠3) (h4:kl l i≠4) (h6:kl l i≠6) (h7:kl l i≠7) :
  za7 l i=(7,i+sgn (l.drop i))/\zcy l i=(if sgn (l.drop i)=0 then 30 else 0)/\zdv l i=i+sgn (l.drop i):=by
 have hC:za7 l i=(7,i+sgn (l.drop i)):=by
  unfold za7;rw [if_neg h3,if_neg h4,if_neg h6,if_neg h7]
 have hl:=(zkw (l.drop i)).1;have hF:zbq 7 (zbw l i (i+sgn (l.drop i)))=if sgn (l.drop i)=0 then 30 else 0:=by
  unfold zbq;rw [if_neg (by decide),if_neg (by decide),if_neg (by decide),if_pos rfl];have e:zbw l i (i+sgn (l.drop i))=[]↔sgn (l.drop i)=0:=by
   unfold zbw;rw [<-List.length_eq_zero_iff,List.length_take,Nat.add_sub_cancel_left];omega
  by_cases h:sgn (l.drop i)=0
  ·rw [if_pos (e.2 h),if_pos h]
  ·rw [if_neg (fun hh=>h (e.1 hh)),if_neg h]
 refine ⟨hC,?_,?_⟩
 ·unfold zcy
  rw [hC,if_neg (fun h=>h7 h.1)];exact hF
 ·unfold zdv
  rw [hC,if_neg (fun h=>h7 h.1),hF]
  by_cases h:sgn (l.drop i)=0
  ·rw [if_pos h,if_neg (by decide),h];rfl
  ·rw [if_neg h,if_pos rfl]
def AG (l:List UInt8) (j:Nat) (l':List UInt8) (j' n:Nat):Prop:=j+n<=l.length/\j'+n<=l'.length/\∀ k,k < n->bt l (j+k)=bt l' (j'+k)
section
variable {l l':List UInt8} {j j' n:Nat}
theorem AG.more (h:AG l j l' j' n) {m:Nat} (hm:m<=n):AG l (j+m) l' (j'+m) (n - m):=⟨by have:=h.1;omega,by have:=h.2.1;omega,fun k hk=>by
 have:=h.2.2 (m+k) (by omega);rw [<-Nat.add_assoc,<-Nat.add_assoc] at this;exact this⟩
theorem AG.kl (h:AG l j l' j' n) {k:Nat} (hk:k < n):Proofs.YtmfakcfmkmppfaaGreatDoor.kl l (j+k)=Proofs.YtmfakcfmkmppfaaGreatDoor.kl l' (j'+k):=by
 rw [zn7 (by have:=h.1;omega),zn7 (by have:=h.2.1;omega),h.2.2 k hk]
theorem AG.kl0 (h:AG l j l' j' n) (hn:0 < n):Proofs.YtmfakcfmkmppfaaGreatDoor.kl l j=Proofs.YtmfakcfmkmppfaaGreatDoor.kl l' j':=h.kl (k:=0) hn
theorem AG.sub (h:AG l j l' j' n):zbw l' j' (j'+n)=zbw l j (j+n):=by
 unfold zbw;rw [Nat.add_sub_cancel_left,Nat.add_sub_cancel_left];refine List.ext_getElem (by have:=h.1;have:=h.2.1;simp;omega) (fun k h1 h2=>?_);simp only [List.length_take,List.length_drop] at h1;have hk:k < n:=by omega
 have e:=h.2.2 k hk;rw [zdh (List.getElem?_eq_getElem (show j+k < l.length by have:=h.1;omega)),zdh (List.getElem?_eq_getElem (show j'+k < l'.length by have:=h.2.1;omega))] at e;simp only [List.getElem_take,List.getElem_drop];exact (UInt8.toNat_inj.1 e).symm
theorem zga:∀ (m:Nat) {l l':List UInt8} {j j' n:Nat},n<=m->AG l j l' j' n->za8 l j=j+n->inW l' (j'+n)=false->za8 l' j'=j'+n
 | 0,l,l',j,j',n,hm,h,_,hs=>by
  obtain rfl:n=0:=by omega
  exact zcj hs
 | m+1,l,l',j,j',n,hm,h,hw,hs=>by
  by_cases hn:n=0
  ·subst hn
   exact zcj hs
  ·have hk:=h.kl0 (by omega)
   cases hi:inW l j with
   | false=>rw [zcj hi] at hw;omega
   | true=>
    have hi':inW l' j'=true:=by unfold inW at hi ⊢;rw [<-hk];exact hi
    rw [zbd hi] at hw;rw [zbd hi',zga m (by omega) (h.more (m:=1) (by omega)) (by omega) (by rw [show j'+1+(n - 1)=j'+n by omega];exact hs)];omega
theorem zqp:∀ (m:Nat) {l l':List UInt8} {j j' n:Nat},n<=m->AG l j l' j' n->zg8 l j=j+n->(inW l' (j'+n) || zcl l' (j'+n) 4)=false->(∀ k,k+1=n->zcl l (j+k) 4=false)->zg8 l' j'=j'+n
 | 0,l,l',j,j',n,hm,h,_,hs,_=>by
  obtain rfl:n=0:=by omega
  exact zfe hs
 | m+1,l,l',j,j',n,hm,h,hw,hs,hlast=>by
  by_cases hn:n=0
  ·subst hn
   exact zfe hs
  ·have hk:=h.kl0 (by omega)
   cases hi:(inW l j || zcl l j 4) with
   | false=>rw [zfe hi] at hw;omega
   | true=>
    have hi':(inW l' j' || zcl l' j' 4)=true:=by
     by_cases h1:n=1
     ·have h0:=hlast 0 (by omega)
      rw [Nat.add_zero] at h0;rw [h0,Bool.or_false] at hi;unfold inW at hi ⊢;rw [<-hk,hi];rfl
     ·have hk1:=h.kl (k:=1) (by omega)
      unfold inW zcl at hi ⊢;rw [<-hk,<-hk1];exact hi
    rw [zdx hi] at hw;rw [zdx hi',zqp m (by omega) (h.more (m:=1) (by omega)) (by omega) (by rw [show j'+1+(n - 1)=j'+n by omega];exact hs) (fun k hk=>by rw [show j+1+k=j+(k+1) by omega];exact hlast (k+1) (by omega))];omega
theorem dc_ag (h:AG l j l' j' n) (hlo:lo1 l j=false) (hd:(dc l j).2<=n):dc l' j'=dc l j:=by
 have hne:¬(dc l j=(65533,1)):=of_decide_eq_false hlo;have hb:=h.2.2;have hl:n<=l'.length - j':=by have:=h.2.1;omega
 have hdd:dc l j=Lib.decodeN (l.length - j) (bt l j) (bt l (j+1)) (bt l (j+2)) (bt l (j+3)):=rfl;have hdd':dc l' j'=Lib.decodeN (l'.length - j') (bt l' j') (bt l' (j'+1)) (bt l' (j'+2)) (bt l' (j'+3)):=rfl;rcases Lib.decodeN_shape (l.length - j) (bt l j) (bt l (j+1)) (bt l (j+2)) (bt l (j+3)) with ⟨a1,e⟩ | ⟨a1,a2,a3,a4,e⟩ | ⟨a1,a2,a3,a4,a5,a6,e⟩ | ⟨a1,a2,a3,a4,a5,a6,a7,e⟩ | e
 all_goals rw [e] at hdd
 ·rw [hdd] at hd ⊢
  rw [hdd'];have h0:=hb 0 (by simp only at hd;omega);simp only [Nat.add_zero] at h0;rw [<-h0];unfold Lib.decodeN;rw [if_pos a1]
 ·rw [hdd] at hd ⊢
  rw [hdd'];simp only at hd;have h0:=hb 0 (by omega);have h1:=hb 1 (by omega);simp only [Nat.add_zero] at h0;rw [<-h0,<-h1];unfold Lib.decodeN;rw [if_neg (by omega),if_pos ⟨a1,by omega,a3⟩,if_pos (by omega)]
 ·rw [hdd] at hd ⊢
  rw [hdd'];simp only at hd;have h0:=hb 0 (by omega);have h1:=hb 1 (by omega);have h2:=hb 2 (by omega);simp only [Nat.add_zero] at h0;rw [<-h0,<-h1,<-h2];unfold Lib.decodeN;rw [if_neg (by omega),if_neg (by omega),if_pos ⟨a1,⟨by omega,a3⟩,by omega,a4⟩,if_pos (by omega)]
 ·rw [hdd] at hd ⊢
  rw [hdd'];simp only at hd;have h0:=hb 0 (by omega);have h1:=hb 1 (by omega);have h2:=hb 2 (by omega);have h3:=hb 3 (by omega);simp only [Nat.add_zero] at h0;rw [<-h0,<-h1,<-h2,<-h3];unfold Lib.decodeN;rw [if_neg (by omega),if_neg (by omega),if_neg (by omega),if_pos ⟨a1,⟨by omega,a3⟩,⟨by omega,a4⟩,by omega,a5⟩,if_pos (by omega)]
 ·exact absurd hdd hne
end
end Go.Proofs.YtmfakcfmkmppfaaGreatDoor
