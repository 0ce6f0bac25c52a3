import Derived.Test.YtmfakcfmkmppfaaGreatDoorVAQ
import Derived.ChangeKeysEq
import Derived.RegionTactic
import Derived.LoopN
namespace Go.Proofs.YtmfakcfmkmppfaaGreatDoor.Tn
open Go.RowKit

theorem zar {W:World} {b T:Nat} {cs:Array Value} (h:W.heap[b]?=some (.cells cs T (0,0))):(∀ j,W.cell? ⟨b,j,none⟩=cs[j]?)/\∀ j,W.frozen? ⟨b,j,none⟩=false:=by
  constructor
  · intro j;unfold World.cell?;rw [h];simp
  · intro j;unfold World.frozen?;rw [h];simp

set_option maxHeartbeats 400000 in
theorem znx (s:ByteArray) (w:World) (hs:s.size<=maxLen) (h:256 < s.size) :
    Calls Tryz.prog 82 #[.string s] w fun e w'=>e=.returned (.tuple #[cv 0 0 0 0 0 0 0 0 0,.int .i64 2])/\Below w.heap.size w w':=by
  unfold maxLen at hs;have h':(256:Int) < s.size:=by omega
  go_enter Tryz.func82,Tryz.ntmps82
  go_wp2_with fail
  exact bodyPost_ret (v:=.tuple #[cv 0 0 0 0 0 0 0 0 0,.int .i64 2]) (by simp [results,Tryz.results82,go_sem,cv]) rfl ⟨rfl,(Below.refl _ _).alloc (Nat.le_refl _) _⟩

set_option maxHeartbeats 400000 in
theorem znv (s:ByteArray) (w:World) (h:s.toList=[]) :
    Calls Tryz.prog 82 #[.string s] w fun e w'=>e=.returned (.tuple #[cv 0 0 0 0 0 0 0 0 0,.int .i64 10])/\Below w.heap.size w w':=by
  have hz:s=⟨#[]⟩:=by
    rw [ByteArray.toList_eq] at h;obtain ⟨⟨l⟩⟩:=s;simp at h;subst h;rfl
  subst hz
  go_enter Tryz.func82,Tryz.ntmps82
  go_wp2_with fail
  exact bodyPost_ret (v:=.tuple #[cv 0 0 0 0 0 0 0 0 0,.int .i64 10]) (by simp [results,Tryz.results82,go_sem,cv]) rfl ⟨rfl,(Below.refl _ _).alloc (Nat.le_refl _) _⟩

theorem zam (w:World) (o:Obj):(w.alloc o).heap[w.heap.size]?=some o:=by
  show (w.heap.push o)[w.heap.size]?=_;simp

theorem zay {w:World} {b:Nat} {o:Obj} (h:w.heap[b]?=some o):b < w.heap.size:=by
  rcases Nat.lt_or_ge b w.heap.size with h1 | h1
  · exact h1
  · rw [Array.getElem?_eq_none h1] at h;cases h

theorem zbg {W:World} {b j T:Nat} {m:Nat×Nat} {cs:Array Value} (v:Value) (h:W.heap[b]?=some (.cells cs T m)):(W.setCell ⟨b,j,none⟩ v).heap[b]?=some (.cells (cs.setIfInBounds j v) T m):=by
  simp only [World.setCell,Array.getElem?_modify,if_pos,h,Option.map_some];simp

def put9 (W:World) (b:Nat) (v0 v1 v2 v3 v4 v5 v6 v7 v8:Value):World:=
  ((((((((W.setCell ⟨b,0,none⟩ v0).setCell ⟨b,1,none⟩ v1).setCell ⟨b,2,none⟩ v2).setCell ⟨b,3,none⟩ v3).setCell ⟨b,4,none⟩ v4).setCell ⟨b,5,none⟩ v5).setCell ⟨b,6,none⟩ v6).setCell ⟨b,7,none⟩ v7).setCell ⟨b,8,none⟩ v8

theorem zer {W:World} {b T:Nat} {m:Nat×Nat} {x0 x1 x2 x3 x4 x5 x6 x7 x8:Value} (v0 v1 v2 v3 v4 v5 v6 v7 v8:Value) (h:W.heap[b]?=some (.cells #[x0,x1,x2,x3,x4,x5,x6,x7,x8] T m)) :
    (put9 W b v0 v1 v2 v3 v4 v5 v6 v7 v8).heap[b]?=some (.cells #[v0,v1,v2,v3,v4,v5,v6,v7,v8] T m):=by
  unfold put9;have h0:=zbg (j:=0) v0 h;have h1:=zbg (j:=1) v1 h0;have h2:=zbg (j:=2) v2 h1;have h3:=zbg (j:=3) v3 h2;have h4:=zbg (j:=4) v4 h3;have h5:=zbg (j:=5) v5 h4;have h6:=zbg (j:=6) v6 h5;have h7:=zbg (j:=7) v7 h6;have h8:=zbg (j:=8) v8 h7;rw [h8];simp

theorem zc1 {B:Nat} {a W:World} {b:Nat} (v0 v1 v2 v3 v4 v5 v6 v7 v8:Value) (h:Below B a W) (hb:B<=b):Below B a (put9 W b v0 v1 v2 v3 v4 v5 v6 v7 v8):=
  ((((((((h.setCell (p:=⟨b,0,none⟩) hb v0).setCell (p:=⟨b,1,none⟩) hb v1).setCell (p:=⟨b,2,none⟩) hb v2).setCell (p:=⟨b,3,none⟩) hb v3).setCell (p:=⟨b,4,none⟩) hb v4).setCell (p:=⟨b,5,none⟩) hb v5).setCell (p:=⟨b,6,none⟩) hb v6).setCell (p:=⟨b,7,none⟩) hb v7).setCell (p:=⟨b,8,none⟩) hb v8

theorem zjm {fn:Func} {p u:Tmp} {m:Nat×Nat} (tmps:Array Value) (W:World) (b:Nat) (n a1 a2 a3 a4 o1 o2 o3 o4:Int) (hr:fn.results=#[.cell p 70,.tmp u]) (hp:tmps.getD p undef=.pointer (some ⟨b,0,none⟩))
    (h:W.heap[b]?=some (.cells #[.int .i64 n,.int .u64 a1,.int .u64 a2,.int .u64 a3,.int .u64 a4,.int .u64 o1,.int .u64 o2,.int .u64 o3,.int .u64 o4] 70 m)) :
    (results fn tmps).run Tryz.prog W=.ok (.tuple #[cv n a1 a2 a3 a4 o1 o2 o3 o4,tmps.getD u undef]) W:=by
  have hc:∀ j,W.cell? ⟨b,j,none⟩=(#[.int .i64 n,.int .u64 a1,.int .u64 a2,.int .u64 a3,.int .u64 a4,.int .u64 o1,.int .u64 o2,.int .u64 o3,.int .u64 o4]:Array Value)[j]?:=by
    intro j;unfold World.cell?;rw [h];simp
  rw [results_cell_tmp hr,hp];simp [go_sem,cv,hc]

theorem zgk {fn:Func} {p:Tmp} {m:Nat×Nat} (tmps:Array Value) (W:World) (b:Nat) (n a1 a2 a3 a4 o1 o2 o3 o4:Int) (hr:fn.results=#[.cell p 70]) (hp:tmps.getD p undef=.pointer (some ⟨b,0,none⟩))
    (h:W.heap[b]?=some (.cells #[.int .i64 n,.int .u64 a1,.int .u64 a2,.int .u64 a3,.int .u64 a4,.int .u64 o1,.int .u64 o2,.int .u64 o3,.int .u64 o4] 70 m)) :
    (results fn tmps).run Tryz.prog W=.ok (cv n a1 a2 a3 a4 o1 o2 o3 o4) W:=by
  have hc:∀ j,W.cell? ⟨b,j,none⟩=(#[.int .i64 n,.int .u64 a1,.int .u64 a2,.int .u64 a3,.int .u64 a4,.int .u64 o1,.int .u64 o2,.int .u64 o3,.int .u64 o4]:Array Value)[j]?:=by
    intro j;unfold World.cell?;rw [h];simp
  have hp':tmps[p]?.getD undef=.pointer (some ⟨b,0,none⟩):=by simpa using hp
  simp [results,hr,hp',go_sem,cv,hc]

theorem spotX (p q r X:Nat) (w:World) (hq:q < 4) (hr:r < 64) (hX:X=2 ^ r) (he:p=64*q+r) :
    Calls Tryz.prog 98 #[.int .i64 (p:Int)] w fun e w'=>e=.returned (.tuple #[.int .i64 (q:Int),.int .u64 (X:Int)])/\∃ n,w'=w.drewN n:=by
  subst hX;exact zgf p q r w hq hr (by rw [he])

theorem zem (s:ByteArray) (k:Nat) (h:k < s.size):s.data.toList[k]'(by simpa using h)=s[k]:=rfl

theorem zpj (s:ByteArray):(#[.int .i64 (s.size:Int),.int .u64 0,.int .u64 0,.int .u64 0,.int .u64 0,.int .u64 0,.int .u64 0,.int .u64 0,.int .u64 0]:Array Value)=(fun t=>#[.int .i64 (t.length:Int),.int .u64 (FW t 0:Int),.int .u64 (FW t 1:Int),.int .u64 (FW t 2:Int),.int .u64 (FW t 3:Int),.int .u64 (OW t 0:Int),.int .u64 (OW t 1:Int),.int .u64 (OW t 2:Int),.int .u64 (OW t 3:Int)]) (st s.data.toList 0):=by
  have h:=ze2 s.data.toList.length;rw [<-st_zero] at h;unfold cubeV cv at h;have hl:s.data.toList.length=s.size:=by simp
  simp only [Value.agg.injEq] at h;rw [hl] at h;exact h.symm

theorem zh5 {s:ByteArray} {k:Nat} (hlt:k < s.size) (htri:∀ j (h:j < s.data.toList.length),j < k->tri s.data.toList[j]=true) (hc:s[k]=48∨s[k]=49∨s[k]=120) :
    ∀ j (h:j < s.data.toList.length),j < k+1->tri s.data.toList[j]=true:=by
  intro j hj hjk
  by_cases e:j=k
  · subst e;rw [zem s j hlt];rcases hc with h | h | h <;> rw [h] <;> decide
  · exact htri j hj (by omega)

theorem zld {b:UInt8} {n:Nat} (h:b≠UInt8.ofNat n):((b.toNat:Int)==((n:Nat):Int))=false:=by
  rw [beq_eq_false_iff_ne];intro e;have e2:b.toNat=n:=by omega
  apply h;rw [<-e2];simp

theorem zqd (s:ByteArray) (k:Nat) (hlt:k < s.size) (h2:s.size<=256) (c48:¬s[k]=48) (c49:¬s[k]=49) (c120:¬s[k]=120):refP s.data.toList=10/\cubeT s.data.toList=[]:=by
  have hlen:s.data.toList.length=s.size:=by simp
  have hall:¬s.data.toList.all tri=true:=by
    intro h;rw [List.all_eq_true] at h;have:=h s[k] (by rw [<-zem s k hlt];exact List.getElem_mem _);simp [tri,c48,c49,c120] at this
  have h1:refP s.data.toList=10:=by
    unfold refP;rw [if_neg (by omega)]
    split <;> rfl
  refine ⟨h1,?_⟩;unfold cubeT;rw [h1];rfl

theorem zny (s:ByteArray) (h1:1<=s.size) (h2:s.size<=256) (h:∀ j (h:j < s.data.toList.length),tri s.data.toList[j]=true):refP s.data.toList=0/\cubeT s.data.toList=s.data.toList:=by
  have hlen:s.data.toList.length=s.size:=by simp
  have hz:refP s.data.toList=0:=by
    rw [zpw];refine ⟨?_,?_⟩
    · intro e;rw [e] at hlen;simp at hlen;omega
    · unfold good;rw [Bool.and_eq_true,List.all_eq_true];refine ⟨by simp;omega,?_⟩;intro x hx;obtain ⟨j,hj,rfl⟩:=List.getElem_of_mem hx;exact h j hj
  exact ⟨hz,zok _ hz⟩

theorem ze1:cubeV []=cv 0 0 0 0 0 0 0 0 0:=by
  have:=ze2 0;rw [List.replicate_zero] at this;rw [this];rfl

theorem below3 {w w1 wr:World} {o:Obj} (hb1:Below (w.alloc o).heap.size (w.alloc o) w1) (hB:Below w1.heap.size w1 wr) (nq:Nat):Below w.heap.size w (wr.drewN nq):=by
  have h0:Below w.heap.size w (w.alloc o):=(Below.refl _ _).alloc (Nat.le_refl _) _;have hz:w.heap.size<=(w.alloc o).heap.size:=h0.size;have hz1:=hb1.size;exact ((h0.trans (hb1.mono hz)).trans (hB.mono (by omega))).trans (zai _ _ _)

theorem bits_or0 (t:List UInt8) (q r:Nat) (hr:r < 64):bits .or .u64 (OW t q:Int) (bits .and .u64 ((2 ^ r:Nat):Int) ((0:Nat):Int))=(OW t q:Nat):=by
  rw [u64_and_nat _ _ (zdc r hr) (by decide),Nat.and_zero,u64_or_nat _ _ (zfv _ _) (by decide),Nat.or_zero]
theorem bits_or1 (t:List UInt8) (q r:Nat) (hr:r < 64):bits .or .u64 (OW t q:Int) (bits .and .u64 ((2 ^ r:Nat):Int) ((2 ^ r:Nat):Int))=bits .or .u64 (OW t q:Int) ((2 ^ r:Nat):Int):=by
  rw [u64_and_nat _ _ (zdc r hr) (zdc r hr),Nat.and_self]
theorem set48 {t:List UInt8} {p q r X b T:Nat} {W:World} (hq:q < 4) (hr:r < 64) (hX:X=2 ^ r) (he:p=64*q+r) (hp:p < t.length) (hx:t[p]=120) (h:W.heap[b]?=some (.cells (#[.int .i64 (t.length:Int),.int .u64 (FW t 0:Int),.int .u64 (FW t 1:Int),.int .u64 (FW t 2:Int),.int .u64 (FW t 3:Int),.int .u64 (OW t 0:Int),.int .u64 (OW t 1:Int),.int .u64 (OW t 2:Int),.int .u64 (OW t 3:Int)]) T (0,0))) :
    (W.setCell ⟨b,1+q,none⟩ (.int .u64 (bits .or .u64 (FW t q:Int) (X:Int)))).heap[b]?=some (.cells ((fun t=>#[.int .i64 (t.length:Int),.int .u64 (FW t 0:Int),.int .u64 (FW t 1:Int),.int .u64 (FW t 2:Int),.int .u64 (FW t 3:Int),.int .u64 (OW t 0:Int),.int .u64 (OW t 1:Int),.int .u64 (OW t 2:Int),.int .u64 (OW t 3:Int)]) (t.set p 48)) T (0,0)):=by
  subst he hX;have h1:=FW_set t q r 48 hr (by decide) hp;have h2:=OW_set t q r 0 hr (by decide) hp hx;rw [show dg 0 r=48 by simp [dg],bits_or0 t q r hr] at h2;have g1:=fun j hj=>zki t q j r 48 hr (by decide) hp hj;have g2:=fun j hj=>zkh t q j r 48 hr hp hx hj;have hl:(t.set (64*q+r) 48).length=t.length:=by simp
  rw [heap_setCell_same W b (1+q) _ _ _ h,h1];simp only [hl]
  match q,hq with
  | 0,_=>rw [<-h2,g1 1 (by decide),g1 2 (by decide),g1 3 (by decide),g2 1 (by decide),g2 2 (by decide),g2 3 (by decide)];rfl
  | 1,_=>rw [<-h2,g1 0 (by decide),g1 2 (by decide),g1 3 (by decide),g2 0 (by decide),g2 2 (by decide),g2 3 (by decide)];rfl
  | 2,_=>rw [<-h2,g1 0 (by decide),g1 1 (by decide),g1 3 (by decide),g2 0 (by decide),g2 1 (by decide),g2 3 (by decide)];rfl
  | 3,_=>rw [<-h2,g1 0 (by decide),g1 1 (by decide),g1 2 (by decide),g2 0 (by decide),g2 1 (by decide),g2 2 (by decide)];rfl
theorem set49 {t:List UInt8} {p q r X b T:Nat} {W:World} (hq:q < 4) (hr:r < 64) (hX:X=2 ^ r) (he:p=64*q+r) (hp:p < t.length) (hx:t[p]=120) (h:W.heap[b]?=some (.cells (#[.int .i64 (t.length:Int),.int .u64 (FW t 0:Int),.int .u64 (FW t 1:Int),.int .u64 (FW t 2:Int),.int .u64 (FW t 3:Int),.int .u64 (OW t 0:Int),.int .u64 (OW t 1:Int),.int .u64 (OW t 2:Int),.int .u64 (OW t 3:Int)]) T (0,0))) :
    ((W.setCell ⟨b,1+q,none⟩ (.int .u64 (bits .or .u64 (FW t q:Int) (X:Int)))).setCell ⟨b,5+q,none⟩ (.int .u64 (bits .or .u64 (OW t q:Int) (X:Int)))).heap[b]?=some (.cells ((fun t=>#[.int .i64 (t.length:Int),.int .u64 (FW t 0:Int),.int .u64 (FW t 1:Int),.int .u64 (FW t 2:Int),.int .u64 (FW t 3:Int),.int .u64 (OW t 0:Int),.int .u64 (OW t 1:Int),.int .u64 (OW t 2:Int),.int .u64 (OW t 3:Int)]) (t.set p 49)) T (0,0)):=by
  subst he hX;have h1:=FW_set t q r 49 hr (by decide) hp;have h2:=OW_set t q r (2 ^ r) hr (zdc r hr) hp hx;rw [show dg (2 ^ r) r=49 by simp [dg],bits_or1 t q r hr] at h2;have g1:=fun j hj=>zki t q j r 49 hr (by decide) hp hj;have g2:=fun j hj=>zkh t q j r 49 hr hp hx hj;have hl:(t.set (64*q+r) 49).length=t.length:=by simp
  rw [heap_setCell_same _ b (5+q) _ _ _ (heap_setCell_same W b (1+q) _ _ _ h),h1,h2];simp only [hl]
  match q,hq with
  | 0,_=>rw [g1 1 (by decide),g1 2 (by decide),g1 3 (by decide),g2 1 (by decide),g2 2 (by decide),g2 3 (by decide)];rfl
  | 1,_=>rw [g1 0 (by decide),g1 2 (by decide),g1 3 (by decide),g2 0 (by decide),g2 2 (by decide),g2 3 (by decide)];rfl
  | 2,_=>rw [g1 0 (by decide),g1 1 (by decide),g1 3 (by decide),g2 0 (by decide),g2 1 (by decide),g2 3 (by decide)];rfl
  | 3,_=>rw [g1 0 (by decide),g1 1 (by decide),g1 2 (by decide),g2 0 (by decide),g2 1 (by decide),g2 2 (by decide)];rfl

set_option maxHeartbeats 400000 in
theorem znw (s:ByteArray) (w:World) (h1:1<=s.size) (h2:s.size<=256) :
    Calls Tryz.prog 82 #[.string s] w fun e w'=>e=.returned (.tuple #[cubeV (cubeT s.data.toList),.int .i64 (refP s.data.toList)])/\Below w.heap.size w w':=by
  have he:(s.toList.isEmpty)=false:=by
    rw [ByteArray.toList_eq];obtain ⟨⟨l⟩⟩:=s;simp [ByteArray.size] at h1 ⊢;intro h;subst h;simp at h1
  have hd:decide ((256:Int) < (s.size:Int))=false:=by simp;omega
  go_enter Tryz.func82,Tryz.ntmps82
  go_wp2_with (go_at_call 53;refine (zr7 _ _ (by omega) (by omega)).mono ?_;rintro e w1 ⟨rfl,hb1⟩;obtain ⟨hc1,hf1⟩:=bcell hb1;unfold cv)
  clear hd he;rw [zpj]
  go_loopw [20] (fun i wr=>∃ k:Nat,k<=s.size/\i=.int .i64 k/\wr.heap[w1.heap.size]?=some (.cells ((fun t=>#[.int .i64 (t.length:Int),.int .u64 (FW t 0:Int),.int .u64 (FW t 1:Int),.int .u64 (FW t 2:Int),.int .u64 (FW t 3:Int),.int .u64 (OW t 0:Int),.int .u64 (OW t 1:Int),.int .u64 (OW t 2:Int),.int .u64 (OW t 3:Int)]) (st s.data.toList k)) 70 (0,0))/\Below w1.heap.size w1 wr/\∀ j (h:j < s.data.toList.length),j < k->tri s.data.toList[j]=true) (fun i _=>s.size - (intOf i).toNat)
  case atStart=>exact ⟨0,Nat.zero_le _,rfl,zam _ _,(Below.refl _ _).alloc (Nat.le_refl _) _,fun j _ h=>by omega⟩
  case round=>
    obtain ⟨k,hk,rfl,hblk,hB,htri⟩:=hrel
    by_cases hlt:k < s.size
    · obtain ⟨hcb,hfb⟩:=zar hblk;have hlB:=zay hblk;have hkr:∃ q r X:Nat,q < 4/\r < 64/\X=2 ^ r/\k=64*q+r:=⟨k / 64,k % 64,_,by omega,by omega,rfl,by omega⟩;obtain ⟨q,r,X,hq,hr,hX0,hk0⟩:=hkr;have hX:Hid (X=2 ^ r):=hX0;have hkq:Hid (k=64*q+r):=hk0;clear hX0 hk0;have hlen:Hid (s.data.toList.length=s.size):=by simp [Hid]
      by_cases c48:s[k]=48
      · have b48:((s[k].toNat:Int)==48)=true:=by rw [c48];decide
        have hpl:k < (st s.data.toList k).length:=by rw [zl7 _ _ (by rw [hlen.out];omega),hlen.out];exact hlt
        have hxk:(st s.data.toList k)[k]=120:=zpi _ _ (by rw [hlen.out];exact hlt);have hsn:(st s.data.toList k).set k 48=st s.data.toList (k+1):=by rw [<-zkv _ _ (by rw [hlen.out];exact hlt),zem s k hlt,c48]
        have HB0:Hid (∀ nq:Nat,((wr.drewN nq).setCell ⟨w1.heap.size,1+q,none⟩ (.int .u64 (bits .or .u64 (FW (st s.data.toList k) q:Int) (X:Int)))).heap[w1.heap.size]?=some (.cells ((fun t=>#[.int .i64 (t.length:Int),.int .u64 (FW t 0:Int),.int .u64 (FW t 1:Int),.int .u64 (FW t 2:Int),.int .u64 (FW t 3:Int),.int .u64 (OW t 0:Int),.int .u64 (OW t 1:Int),.int .u64 (OW t 2:Int),.int .u64 (OW t 3:Int)]) (st s.data.toList (k+1))) 70 (0,0))):=fun nq=>by
          have:=set48 (W:=wr.drewN nq) hq hr hX.out hkq.out hpl hxk hblk;rw [hsn] at this;exact this
        clear hpl hxk hsn;rcases (show q=0∨q=1∨q=2∨q=3 by omega) with rfl | rfl | rfl | rfl
        all_goals (
          go_wp2_with (go_at_call 98;refine (spotX k _ r X _ hq hr hX.out hkq.out).mono ?_;rintro e w' ⟨rfl,nq,rfl⟩)
          exact ⟨⟨k+1,by omega,by go_num,HB0.out nq,(hB.trans (zai _ nq wr)).setCell (p:=⟨w1.heap.size,_,none⟩) (Nat.le_refl _) _,zh5 hlt htri (.inl c48)⟩,by simp [intOf];omega⟩)
      · by_cases c49:s[k]=49
        · have b48:((s[k].toNat:Int)==48)=false:=by rw [c49];decide
          have b49:((s[k].toNat:Int)==49)=true:=by rw [c49];decide
          have hpl:k < (st s.data.toList k).length:=by rw [zl7 _ _ (by rw [hlen.out];omega),hlen.out];exact hlt
          have hxk:(st s.data.toList k)[k]=120:=zpi _ _ (by rw [hlen.out];exact hlt);have hsn:(st s.data.toList k).set k 49=st s.data.toList (k+1):=by rw [<-zkv _ _ (by rw [hlen.out];exact hlt),zem s k hlt,c49]
          have HB0:Hid (∀ nq:Nat,(((wr.drewN nq).setCell ⟨w1.heap.size,1+q,none⟩ (.int .u64 (bits .or .u64 (FW (st s.data.toList k) q:Int) (X:Int)))).setCell ⟨w1.heap.size,5+q,none⟩ (.int .u64 (bits .or .u64 (OW (st s.data.toList k) q:Int) (X:Int)))).heap[w1.heap.size]?=some (.cells ((fun t=>#[.int .i64 (t.length:Int),.int .u64 (FW t 0:Int),.int .u64 (FW t 1:Int),.int .u64 (FW t 2:Int),.int .u64 (FW t 3:Int),.int .u64 (OW t 0:Int),.int .u64 (OW t 1:Int),.int .u64 (OW t 2:Int),.int .u64 (OW t 3:Int)]) (st s.data.toList (k+1))) 70 (0,0))):=fun nq=>by
            have:=set49 (W:=wr.drewN nq) hq hr hX.out hkq.out hpl hxk hblk;rw [hsn] at this;exact this
          clear hpl hxk hsn;rcases (show q=0∨q=1∨q=2∨q=3 by omega) with rfl | rfl | rfl | rfl
          all_goals (
            go_wp2_with (go_at_call 98;refine (spotX k _ r X _ hq hr hX.out hkq.out).mono ?_;rintro e w' ⟨rfl,nq,rfl⟩)
            exact ⟨⟨k+1,by omega,by go_num,HB0.out nq,((hB.trans (zai _ nq wr)).setCell (p:=⟨w1.heap.size,_,none⟩) (Nat.le_refl _) _).setCell (p:=⟨w1.heap.size,_,none⟩) (Nat.le_refl _) _,zh5 hlt htri (.inr (.inl c49))⟩,by simp [intOf];omega⟩)
        · by_cases c120:s[k]=120
          · have b48:((s[k].toNat:Int)==48)=false:=by rw [c120];decide
            have b49:((s[k].toNat:Int)==49)=false:=by rw [c120];decide
            have b120:((s[k].toNat:Int)==120)=true:=by rw [c120];decide
            go_wp2_with (go_at_call 98;refine (spotX k q r X _ hq hr hX.out hkq.out).mono ?_;rintro e w' ⟨rfl,nq,rfl⟩)
            have hst:=st_skip s.data.toList k (by rw [hlen.out];exact hlt) (by rw [zem s k hlt];exact c120);exact ⟨⟨k+1,by omega,by go_num,by rw [hst];exact hblk,hB.trans (zai _ nq wr),zh5 hlt htri (.inr (.inr c120))⟩,by simp [intOf];omega⟩
          · have b48:((s[k].toNat:Int)==48)=false:=zld c48;have b49:((s[k].toNat:Int)==49)=false:=zld c49;have b120:((s[k].toNat:Int)==120)=false:=zld c120;have hfin:=zqd s k hlt h2 c48 c49 c120;have hZ:Hid (refP s.data.toList=10/\cubeT s.data.toList=[]):=hfin;clear hfin;have hcw:∀ o,wr.cell? ⟨w.heap.size,o,none⟩=w1.cell? ⟨w.heap.size,o,none⟩:=fun o=>hB.cell (p:=⟨w.heap.size,o,none⟩) (by have:=hb1.size;simp at this;show w.heap.size < _;omega);have hfw:∀ o,wr.frozen? ⟨w.heap.size,o,none⟩=w1.frozen? ⟨w.heap.size,o,none⟩:=fun o=>hB.frozen (p:=⟨w.heap.size,o,none⟩) (by have:=hb1.size;simp at this;show w.heap.size < _;omega)
            go_wp2_with (go_at_call 98;refine (spotX k q r X _ hq hr hX.out hkq.out).mono ?_;rintro e w' ⟨rfl,nq,rfl⟩)
            have hwb:(wr.drewN nq).heap[w.heap.size]?=some (.cells #[.int .i64 0,.int .u64 0,.int .u64 0,.int .u64 0,.int .u64 0,.int .u64 0,.int .u64 0,.int .u64 0,.int .u64 0] 70 (0,0)):=by
              have e1:=hB.block w.heap.size (by have:=hb1.size;simp at this;omega);have e2:=hb1.block w.heap.size (by simp);exact (e1.trans e2).trans (zam _ _)
            refine bodyPost_ret (v:=.tuple #[cv 0 0 0 0 0 0 0 0 0,.int .i64 10]) ?_ rfl ⟨?_,?_⟩
            · exact zjm _ _ w.heap.size 0 0 0 0 0 0 0 0 0 Tryz.results82 rfl (zer _ _ _ _ _ _ _ _ _ hwb)
            · rw [hZ.out.1,hZ.out.2,ze1]
            · exact zc1 _ _ _ _ _ _ _ _ _ (below3 hb1 hB nq) (Nat.le_refl _)
    · obtain ⟨hcb,hfb⟩:=zar hblk;have hcw:∀ o,wr.cell? ⟨w.heap.size,o,none⟩=w1.cell? ⟨w.heap.size,o,none⟩:=fun o=>hB.cell (p:=⟨w.heap.size,o,none⟩) (by have:=hb1.size;simp at this;show w.heap.size < _;omega);have hfw:∀ o,wr.frozen? ⟨w.heap.size,o,none⟩=w1.frozen? ⟨w.heap.size,o,none⟩:=fun o=>hB.frozen (p:=⟨w.heap.size,o,none⟩) (by have:=hb1.size;simp at this;show w.heap.size < _;omega);have hkn:k=s.size:=by omega
      have hall := zny s h1 h2 (fun j h => htri j h (by have : s.data.toList.length = s.size := (by simp); omega))
      have hZ:Hid (refP s.data.toList=0/\cubeT s.data.toList=s.data.toList):=hall;subst hkn;clear hall htri;have hwb:wr.heap[w.heap.size]?=some (.cells #[.int .i64 0,.int .u64 0,.int .u64 0,.int .u64 0,.int .u64 0,.int .u64 0,.int .u64 0,.int .u64 0,.int .u64 0] 70 (0,0)):=by
        have e1:=hB.block w.heap.size (by have:=hb1.size;simp at this;omega);have e2:=hb1.block w.heap.size (by simp);exact (e1.trans e2).trans (zam _ _)
      go_wp2
      refine bodyPost_ret (v:=.tuple #[cubeV (st s.data.toList s.size),.int .i64 0]) ?_ rfl ⟨?_,?_⟩
      · exact zjm _ _ w.heap.size _ _ _ _ _ _ _ _ _ Tryz.results82 rfl (zer _ _ _ _ _ _ _ _ _ hwb)
      · rw [hZ.out.1,hZ.out.2];have hlen:s.size=s.data.toList.length:=by simp
        rw [hlen,st_all]
      · exact zc1 _ _ _ _ _ _ _ _ _ (below3 hb1 hB 0) (Nat.le_refl _)

theorem parse_any (s:ByteArray) (w:World) (hs:s.size<=maxLen) :
    Calls Tryz.prog 82 #[.string s] w fun e w'=>e=.returned (.tuple #[cubeV (cubeT s.data.toList),.int .i64 (refP s.data.toList)])/\Below w.heap.size w w':=by
  have hlen:s.data.toList.length=s.size:=by simp
  by_cases h1:256 < s.size
  · refine (znx s w hs h1).mono ?_;rintro e w' ⟨rfl,hb⟩;have hz:refP s.data.toList=2:=by unfold refP;rw [if_pos (by omega)]
    refine ⟨?_,hb⟩;rw [ze3 _ (by rw [hz];decide),hz,ze1]
  · by_cases h2:s.size=0
    · have hz0:s.data.toList=[]:=List.eq_nil_of_length_eq_zero (by omega);refine (znv s w (by rw [ByteArray.toList_eq];exact hz0)).mono ?_;rintro e w' ⟨rfl,hb⟩;refine ⟨?_,hb⟩;rw [hz0];have hz:refP []=10:=by decide
      rw [ze3 _ (by rw [hz];decide),hz,ze1]
    · exact znw s w (by omega) (by omega)

theorem zrt:Tryz.prog.cellsOf 66=1:=by kernel_rfl
theorem info_u64:(Tryz.prog.info? 66).map (fun i=>(i.zero,i.size,i.bytes))=some (some (.int .u64 0),1,8):=by kernel_rfl

theorem arr_eq (d:Nat) (a0 a1 a2 a3 b0 b1 b2 b3:Int) (w:World) :
  (Op.equalIn (d+2) 68 (.agg #[.int .u64 a0,.int .u64 a1,.int .u64 a2,.int .u64 a3]) (.agg #[.int .u64 b0,.int .u64 b1,.int .u64 b2,.int .u64 b3])).run Tryz.prog w=.ok (a0==b0&&(a1==b1&&(a2==b2&&(a3==b3)))) w:=by
 obtain ⟨i0,hi,_,_,_⟩:=info_parts info_u64;rw [run_equalIn_array w (d+1) _ _ Tryz.underlying68 hi,zrt];have hr:List.range 4=[0,1,2,3]:=by decide
 rw [hr];simp [Op.eqItems,go_sem]
 by_cases h0:a0=b0 <;> by_cases h1:a1=b1 <;> by_cases h2:a2=b2 <;> by_cases h3:a3=b3 <;> simp [h0,h1,h2,h3]

theorem cub_eq (n a0 a1 a2 a3 c0 c1 c2 c3 m b0 b1 b2 b3 d0 d1 d2 d3:Int) (w:World) :
  (Op.equalIn 10000 70 (.agg #[.int .i64 n,.int .u64 a0,.int .u64 a1,.int .u64 a2,.int .u64 a3,.int .u64 c0,.int .u64 c1,.int .u64 c2,.int .u64 c3]) (.agg #[.int .i64 m,.int .u64 b0,.int .u64 b1,.int .u64 b2,.int .u64 b3,.int .u64 d0,.int .u64 d1,.int .u64 d2,.int .u64 d3])).run Tryz.prog w
   = .ok (n==m&&((a0==b0&&(a1==b1&&(a2==b2&&(a3==b3))))&&(c0==d0&&(c1==d1&&(c2==d2&&(c3==d3)))))) w:=by
 have hA:=fun w=>arr_eq 9997 a0 a1 a2 a3 b0 b1 b2 b3 w;have hC:=fun w=>arr_eq 9997 c0 c1 c2 c3 d0 d1 d2 d3 w;generalize (a0==b0&&(a1==b1&&(a2==b2&&(a3==b3))))=A at hA ⊢;generalize (c0==d0&&(c1==d1&&(c2==d2&&(c3==d3))))=C at hC ⊢;rw [show 10000=(9997+2)+1 from rfl,run_equalIn_agg w (9997+2) _ _ _ (by kernel_rfl) (by kernel_rfl)]
 by_cases hn:n=m
 ·subst hn
  cases A <;> cases C <;> simp [Op.eqFields,go_sem,hA,hC]
 ·simp [Op.eqFields,go_sem,hn]

theorem bool9 (a b c d e f g h i:Bool):(a&&((b&&(c&&(d&&e)))&&(f&&(g&&(h&&i)))))=(a&&b&&c&&d&&e&&f&&g&&h&&i):=by
 cases a <;> cases b <;> cases c <;> cases d <;> cases e <;> simp [Bool.and_assoc]

theorem eql_cube (a b:List UInt8) (ha:good a=true) (hb:good b=true) (w:World) :
  (Op.equalIn 10000 70 (.agg #[.int .i64 (a.length:Int),.int .u64 (FW a 0:Int),.int .u64 (FW a 1:Int),.int .u64 (FW a 2:Int),.int .u64 (FW a 3:Int),.int .u64 (OW a 0:Int),.int .u64 (OW a 1:Int),.int .u64 (OW a 2:Int),.int .u64 (OW a 3:Int)]) (.agg #[.int .i64 (b.length:Int),.int .u64 (FW b 0:Int),.int .u64 (FW b 1:Int),.int .u64 (FW b 2:Int),.int .u64 (FW b 3:Int),.int .u64 (OW b 0:Int),.int .u64 (OW b 1:Int),.int .u64 (OW b 2:Int),.int .u64 (OW b 3:Int)])).run Tryz.prog w=.ok (a==b) w:=by
 rw [cub_eq,<-znk a b ha hb,bool9];rfl

theorem zeb {w w1:World} {o:Obj} (h:Below (w.alloc o).heap.size (w.alloc o) w1):Below w.heap.size w w1:=
 ((Below.refl _ _).alloc (Nat.le_refl _) _).trans (h.mono (by simp))
theorem belA {w w1:World} (h:Below w.heap.size w w1) (o:Obj):Below w.heap.size w (w1.alloc o):=h.alloc h.size o
theorem zhx {w w1 w2:World} (h:Below w.heap.size w w1) (h2:Below w1.heap.size w1 w2):Below w.heap.size w w2:=h.trans (h2.mono h.size)
end Go.Proofs.YtmfakcfmkmppfaaGreatDoor.Tn
namespace Go.Proofs.YtmfakcfmkmppfaaGreatDoor.Tn

def allTo (p:Nat->Bool):Nat->Bool
 | 0=>true
 | k+1=>allTo p k&&p k

theorem allTo_iff (p:Nat->Bool) (n:Nat):allTo p n=true↔∀ k,k < n->p k=true:=by
 induction n with
 | zero=>simp [allTo]
 | succ n ih=>
  simp only [allTo,Bool.and_eq_true,ih];constructor
  ·rintro ⟨h1,h2⟩ k hk
   by_cases e:k=n
   ·subst e;exact h2
   ·exact h1 k (by omega)
  ·intro h
   exact ⟨fun k hk=>h k (by omega),h n (by omega)⟩

theorem zen {p:Nat->Bool} {n:Nat} (k:Nat) (hk:k < n) (h:p k=false):allTo p n=false:=by
 rw [Bool.eq_false_iff];intro e;rw [allTo_iff] at e;rw [e k hk] at h;cases h

def cfl (a b:List UInt8) (k:Nat):Bool:=fx a k&&fx b k&&(on a k ^^ on b k)
def cw (a b:List UInt8) (w:Nat):Bool:=bits .and .u64 (bits .and .u64 (FW a w:Int) (FW b w:Int)) (bits .xor .u64 (OW a w:Int) (OW b w:Int)) != 0

theorem xor_lt {a b:Nat} (ha:a < 18446744073709551616) (hb:b < 18446744073709551616):a ^^^ b < 18446744073709551616:=Nat.xor_lt_two_pow (n:=64) ha hb
theorem and_lt {a:Nat} (b:Nat) (ha:a < 18446744073709551616):a &&& b < 18446744073709551616:=Nat.lt_of_le_of_lt Nat.and_le_left ha
theorem cw_false (a b:List UInt8) (w:Nat):cw a b w=false↔∀ i,i < 64->cfl a b (64*w+i)=false:=by
 unfold cw;rw [u64_and_nat _ _ (ze5 _ _) (ze5 _ _),u64_xor_nat _ _ (zfv _ _) (zfv _ _),u64_and_nat _ _ (and_lt _ (ze5 _ _)) (xor_lt (zfv _ _) (zfv _ _))];have hbit:∀ i,(FW a w &&& FW b w &&& (OW a w ^^^ OW b w)).testBit i=(decide (i < 64)&&cfl a b (64*w+i)):=by
  intro i;rw [Nat.testBit_and,Nat.testBit_and,Nat.testBit_xor,zcd,zcd,zc8,zc8];unfold cfl
  by_cases hi:i < 64 <;> simp [hi]
 generalize FW a w &&& FW b w &&& (OW a w ^^^ OW b w)=x at hbit ⊢;constructor
 ·intro h i hi
  have hx:x=0:=by
   rw [bne_eq_false_iff_eq] at h;omega
  have:=hbit i;rw [hx] at this;simp [hi] at this;exact this.symm ▸ rfl
 ·intro h
  have hx:x=0:=by
   apply Nat.eq_of_testBit_eq;intro i;rw [hbit i,Nat.zero_testBit]
   by_cases hi:i < 64
   ·rw [h i hi];simp
   ·simp [hi]
  rw [hx];rfl

def fitB (a b:List UInt8):Bool:=!a.isEmpty&&(a.length==b.length)
def agB (a b:List UInt8):Bool:=fitB a b&&allTo (fun k=>!cfl a b k) a.length

theorem zrr (a b:List UInt8) (k:Nat) (h:a.length<=k):cfl a b k=false:=by
 unfold cfl fx;rw [List.getElem?_eq_none h];simp

theorem ag_words (a b:List UInt8) (ha:good a=true):allTo (fun k=>!cfl a b k) a.length=(!cw a b 0&&!cw a b 1&&!cw a b 2&&!cw a b 3):=by
 have hl:=zdf ha;rw [Bool.eq_iff_iff,allTo_iff];simp only [Bool.and_eq_true,Bool.not_eq_true',cw_false];constructor
 ·intro h
  have g:∀ k,cfl a b k=false:=by
   intro k
   by_cases hk:k < a.length
   ·exact h k hk
   ·exact zrr a b k (by omega)
  exact ⟨⟨⟨fun i _=>g _,fun i _=>g _⟩,fun i _=>g _⟩,fun i _=>g _⟩
 ·rintro ⟨⟨⟨h0,h1⟩,h2⟩,h3⟩ k hk
  have hk4:k / 64 < 4:=by omega
  have e:k=64*(k / 64)+k % 64:=by omega
  have hm:k % 64 < 64:=by omega
  rcases (show k / 64=0∨k / 64=1∨k / 64=2∨k / 64=3 by omega) with q | q | q | q <;> rw [q] at e <;> rw [e]
  ·exact h0 _ hm
  ·exact h1 _ hm
  ·exact h2 _ hm
  ·exact h3 _ hm

def zhc (a b:List UInt8):List UInt8:=List.zipWith (fun x y=>if x==120 then y else x) a b

theorem zdg {a b:List UInt8} (h:fitB a b=true):a.length=b.length:=by simp [fitB] at h;exact h.2
theorem agB_fit {a b:List UInt8} (h:agB a b=true):fitB a b=true:=by simp [agB] at h;exact h.1
theorem zr8 {a b:List UInt8} (h:agB a b=true) (k:Nat):cfl a b k=false:=by
 by_cases hk:k < a.length
 ·simp only [agB,Bool.and_eq_true,allTo_iff] at h
  simpa using h.2 k hk
 ·exact zrr a b k (by omega)

theorem zet (a b:List UInt8) (h:a.length=b.length):(zhc a b).length=a.length:=by simp [zhc];omega
theorem zeu (a b:List UInt8) (h:a.length=b.length) (k:Nat) (hk:k < a.length):(zhc a b)[k]?=some (if a[k]==120 then b[k]'(by omega) else a[k]):=by
 unfold zhc;rw [List.getElem?_zipWith,List.getElem?_eq_getElem hk,List.getElem?_eq_getElem (show k < b.length by omega)]

theorem fx_meet (a b:List UInt8) (h:a.length=b.length) (k:Nat):fx (zhc a b) k=(fx a k || fx b k):=by
 by_cases hk:k < a.length
 ·have hb:k < b.length:=by omega
  simp only [fx,zeu a b h k hk,List.getElem?_eq_getElem hk,List.getElem?_eq_getElem hb];generalize a[k]=x;generalize b[k]=y
  by_cases e:x=120 <;> simp [e]
 ·simp only [fx]
  rw [List.getElem?_eq_none (by rw [zet a b h];omega),List.getElem?_eq_none (by omega),List.getElem?_eq_none (by omega)];rfl

theorem on_meet (a b:List UInt8) (h:a.length=b.length) (k:Nat) (hc:cfl a b k=false):on (zhc a b) k=(on a k || on b k):=by
 by_cases hk:k < a.length
 ·have hb:k < b.length:=by omega
  simp only [cfl,fx,on,zeu a b h k hk,List.getElem?_eq_getElem hk,List.getElem?_eq_getElem hb] at hc ⊢;generalize a[k]=x at *;generalize b[k]=y at *
  by_cases e:x=120
  ·subst e;simp
  ·by_cases e2:y=120
   ·subst e2;simp [e]
   ·simp [e,e2] at hc ⊢
    by_cases e3:x=49 <;> by_cases e4:y=49 <;> simp_all
 ·simp only [on]
  rw [List.getElem?_eq_none (by rw [zet a b h];omega),List.getElem?_eq_none (by omega),List.getElem?_eq_none (by omega)];rfl

theorem zi7 (a b:List UInt8) (h:a.length=b.length) (w:Nat):bits .or .u64 (FW a w:Int) (FW b w:Int)=(FW (zhc a b) w:Nat):=by
 rw [u64_or_nat _ _ (ze5 _ _) (ze5 _ _)]
 congr 1
 apply Nat.eq_of_testBit_eq;intro i;rw [Nat.testBit_or,zcd,zcd,zcd,fx_meet a b h]
 by_cases hi:i < 64 <;> simp [hi]
theorem zi6 (a b:List UInt8) (h:a.length=b.length) (hc:∀ k,cfl a b k=false) (w:Nat):bits .or .u64 (OW a w:Int) (OW b w:Int)=(OW (zhc a b) w:Nat):=by
 rw [u64_or_nat _ _ (zfv _ _) (zfv _ _)]
 congr 1
 apply Nat.eq_of_testBit_eq;intro i;rw [Nat.testBit_or,zc8,zc8,zc8,on_meet a b h _ (hc _)]
 by_cases hi:i < 64 <;> simp [hi]

theorem good_zip (f:UInt8->UInt8->UInt8) (a b:List UInt8) (ha:good a=true) (hb:good b=true) (hf:∀ x y,tri x=true->tri y=true->tri (f x y)=true):good (List.zipWith f a b)=true:=by
 have h1:=zdf ha;simp only [good,Bool.and_eq_true,decide_eq_true_eq,List.all_eq_true];refine ⟨by simp;omega,?_⟩;intro x hx;obtain ⟨k,hk,rfl⟩:=List.getElem_of_mem hx;simp at hk;rw [List.getElem_zipWith];exact hf _ _ (zde ha k (by omega)) (zde hb k (by omega))

theorem zrc (a b:List UInt8) (ha:good a=true) (hb:good b=true):good (zhc a b)=true:=
 good_zip _ a b ha hb (fun x y hx hy=>by split <;> assumption)

def mtT (a b:List UInt8):List UInt8:=if agB a b=true then zhc a b else []
theorem good_mtT (a b:List UInt8) (ha:good a=true) (hb:good b=true):good (mtT a b)=true:=by
 unfold mtT;split
 ·exact zrc a b ha hb
 ·exact good_nil

def wiB (a b:List UInt8):Bool:=fitB a b&&allTo (fun k=>match a[k]?,b[k]? with | some x,some y=>y==120 || x==y | _,_=>true) a.length

end Go.Proofs.YtmfakcfmkmppfaaGreatDoor.Tn
namespace Go.Proofs.YtmfakcfmkmppfaaGreatDoor.Tn
open Go.RowKit

theorem zfk (w:World) (o1 o2 o3:Obj):(((w.alloc o1).alloc o2).alloc o3).heap[w.heap.size+2]?=some o3:=by
 have:=zam ((w.alloc o1).alloc o2) o3
 simpa using this

set_option maxHeartbeats 400000 in
theorem fits_any (a b:List UInt8) (w:World):Calls Tryz.prog 115 #[cubeV a,cubeV b] w fun e w'=>e=.returned (.bool (fitB a b))/\Below w.heap.size w w':=by
 have hfin:Hid (fitB a b=(((a.length:Int) != 0)&&((a.length:Int)==(b.length:Int)))):=by
  unfold Hid fitB;cases a with
  | nil=>simp
  | cons x l=>
   rw [Bool.eq_iff_iff];simp;omega
 unfold cubeV cv;cases h0:((a.length:Int) != 0)
 all_goals
  go_enter Tryz.func115,Tryz.ntmps115
  go_wp2
  go_ret
  refine ⟨?_,((Below.refl _ _).alloc (Nat.le_refl _) _).alloc (by simp) _⟩;rw [hfin.out,h0];rfl

theorem zmw (a b:List UInt8) (q:Bool) (w:World) (h:fitB a b=q):Calls Tryz.prog 115 #[cubeV a,cubeV b] w fun e w'=>e=.returned (.bool q)/\Below w.heap.size w w':=by
 subst h;exact fits_any a b w

set_option maxHeartbeats 1000000 in
theorem zlt (a b:List UInt8) (q q0 q1 q2 q3:Bool) (w:World) (hq0:fitB a b=q) (h0:cw a b 0=q0) (h1:cw a b 1=q1) (h2:cw a b 2=q2) (h3:cw a b 3=q3) :
  Calls Tryz.prog 124 #[cubeV a,cubeV b] w fun e w'=>e=.returned (.bool (q&&(!q0&&!q1&&!q2&&!q3)))/\Below w.heap.size w w':=by
 have hq:Hid (fitB a b=q):=hq0;clear hq0;unfold cw at h0 h1 h2 h3;unfold cubeV cv;cases q
 ·go_enter Tryz.func124,Tryz.ntmps124
  go_wp2_with (go_at_call 115;refine (zmw a b false _ hq.out).mono ?_;rintro e w1 ⟨rfl,hb1⟩)
  go_ret
  exact ⟨rfl,zeb (zeb hb1)⟩
 ·go_enter Tryz.func124,Tryz.ntmps124
  go_wp2_with (go_at_call 115;refine (zmw a b true _ hq.out).mono ?_;rintro e w1 ⟨rfl,hb1⟩;obtain ⟨hc1,hf1⟩:=bcell hb1)
  refine wp_loop_rounds 5 ?_;rw [rounds_succ]
  go_wp2
  go_quiet (fail)
  cases q0
  rotate_left
  ·go_wp2
   go_ret
   exact ⟨rfl,by first | exact (zeb (zeb hb1)).trans (zai _ _ _) | exact ((zeb (zeb hb1)).trans (zai _ _ _)).trans (zai _ _ _)⟩
  go_wp2
  rw [rounds_succ]
  go_wp2
  go_quiet (fail)
  cases q1
  rotate_left
  ·go_wp2
   go_ret
   exact ⟨rfl,by first | exact (zeb (zeb hb1)).trans (zai _ _ _) | exact ((zeb (zeb hb1)).trans (zai _ _ _)).trans (zai _ _ _)⟩
  go_wp2
  rw [rounds_succ]
  go_wp2
  go_quiet (fail)
  cases q2
  rotate_left
  ·go_wp2
   go_ret
   exact ⟨rfl,by first | exact (zeb (zeb hb1)).trans (zai _ _ _) | exact ((zeb (zeb hb1)).trans (zai _ _ _)).trans (zai _ _ _)⟩
  go_wp2
  rw [rounds_succ]
  go_wp2
  go_quiet (fail)
  cases q3
  rotate_left
  ·go_wp2
   go_ret
   exact ⟨rfl,by first | exact (zeb (zeb hb1)).trans (zai _ _ _) | exact ((zeb (zeb hb1)).trans (zai _ _ _)).trans (zai _ _ _)⟩
  go_wp2
  rw [rounds_succ]
  go_wp2
  go_ret
  exact ⟨rfl,(zeb (zeb hb1)).trans (zai _ _ _)⟩

theorem zoo (a b:List UInt8) (w:World) (ha:good a=true):Calls Tryz.prog 124 #[cubeV a,cubeV b] w fun e w'=>e=.returned (.bool (agB a b))/\Below w.heap.size w w':=by
 refine (zlt a b _ _ _ _ _ w rfl rfl rfl rfl rfl).mono ?_;rintro e w' ⟨rfl,hb⟩;exact ⟨by unfold agB;rw [ag_words a b ha],hb⟩

theorem zm8 (a b:List UInt8) (q:Bool) (w:World) (ha:good a=true) (h:agB a b=q):Calls Tryz.prog 124 #[cubeV a,cubeV b] w fun e w'=>e=.returned (.bool q)/\Below w.heap.size w w':=by
 subst h;exact zoo a b w ha


def mxi (k j:Nat) (x y:Int):Int:=if j < k then y else x

theorem set2_0 {W:World} {b T:Nat} {m:Nat×Nat} {x0 x1 x2 x3 x4 x5 x6 x7 x8:Value} (u v:Value) (h:W.heap[b]?=some (.cells #[x0,x1,x2,x3,x4,x5,x6,x7,x8] T m)) :
  ((W.setCell ⟨b,1,none⟩ u).setCell ⟨b,5,none⟩ v).heap[b]?=some (.cells #[x0,u,x2,x3,x4,v,x6,x7,x8] T m):=by
 have h0:=zbg (j:=1) u h;have h1:=zbg (j:=5) v h0;rw [h1];simp

theorem set2_1 {W:World} {b T:Nat} {m:Nat×Nat} {x0 x1 x2 x3 x4 x5 x6 x7 x8:Value} (u v:Value) (h:W.heap[b]?=some (.cells #[x0,x1,x2,x3,x4,x5,x6,x7,x8] T m)) :
  ((W.setCell ⟨b,2,none⟩ u).setCell ⟨b,6,none⟩ v).heap[b]?=some (.cells #[x0,x1,u,x3,x4,x5,v,x7,x8] T m):=by
 have h0:=zbg (j:=2) u h;have h1:=zbg (j:=6) v h0;rw [h1];simp

theorem set2_2 {W:World} {b T:Nat} {m:Nat×Nat} {x0 x1 x2 x3 x4 x5 x6 x7 x8:Value} (u v:Value) (h:W.heap[b]?=some (.cells #[x0,x1,x2,x3,x4,x5,x6,x7,x8] T m)) :
  ((W.setCell ⟨b,3,none⟩ u).setCell ⟨b,7,none⟩ v).heap[b]?=some (.cells #[x0,x1,x2,u,x4,x5,x6,v,x8] T m):=by
 have h0:=zbg (j:=3) u h;have h1:=zbg (j:=7) v h0;rw [h1];simp

theorem set2_3 {W:World} {b T:Nat} {m:Nat×Nat} {x0 x1 x2 x3 x4 x5 x6 x7 x8:Value} (u v:Value) (h:W.heap[b]?=some (.cells #[x0,x1,x2,x3,x4,x5,x6,x7,x8] T m)) :
  ((W.setCell ⟨b,4,none⟩ u).setCell ⟨b,8,none⟩ v).heap[b]?=some (.cells #[x0,x1,x2,x3,u,x5,x6,x7,v] T m):=by
 have h0:=zbg (j:=4) u h;have h1:=zbg (j:=8) v h0;rw [h1];simp

theorem zbr {W:World} {a1 a2:Addr} {c:Nat} {o:Obj} (u v:Value) (h1:c≠a1.block) (h2:c≠a2.block) (h:W.heap[c]?=some o):((W.setCell a1 u).setCell a2 v).heap[c]?=some o:=by
 rw [Below.heap_setCell _ _ _ _ h2,Below.heap_setCell _ _ _ _ h1];exact h

theorem zm7 (w:World) (o1 o2 o3:Obj):(((w.alloc o1).alloc o2).alloc o3).heap[w.heap.size]?=some o1:=by
 rw [Below.heap_alloc _ _ _ (by simp;omega),Below.heap_alloc _ _ _ (by simp)];exact zam _ _
theorem zm6 (w:World) (o1 o2 o3:Obj):(((w.alloc o1).alloc o2).alloc o3).heap[w.heap.size+1]?=some o2:=by
 rw [Below.heap_alloc _ _ _ (by simp)];have:=zam (w.alloc o1) o2
 simpa using this

set_option maxHeartbeats 1000000 in
theorem zol (n f0 f1 f2 f3 o0 o1 o2 o3 m g0 g1 g2 g3 p0 p1 p2 p3:Int) (w:World) :
  Calls Tryz.prog 125 #[cv n f0 f1 f2 f3 o0 o1 o2 o3,cv m g0 g1 g2 g3 p0 p1 p2 p3] w fun e w'=>e=.returned (cv n (bits .or .u64 f0 g0) (bits .or .u64 f1 g1) (bits .or .u64 f2 g2) (bits .or .u64 f3 g3) (bits .or .u64 o0 p0) (bits .or .u64 o1 p1) (bits .or .u64 o2 p2) (bits .or .u64 o3 p3))/\Below w.heap.size w w':=by
 unfold cv
 go_enter Tryz.func125,Tryz.ntmps125
 go_wp2
 have hA1:=zm7 w (.cells #[.int .i64 n,.int .u64 f0,.int .u64 f1,.int .u64 f2,.int .u64 f3,.int .u64 o0,.int .u64 o1,.int .u64 o2,.int .u64 o3] 70 (0,0)) (.cells #[.int .i64 m,.int .u64 g0,.int .u64 g1,.int .u64 g2,.int .u64 g3,.int .u64 p0,.int .u64 p1,.int .u64 p2,.int .u64 p3] 70 (0,0)) (.cells #[.int .i64 0,.int .u64 0,.int .u64 0,.int .u64 0,.int .u64 0,.int .u64 0,.int .u64 0,.int .u64 0,.int .u64 0] 70 (0,0));have hB1:=zm6 w (.cells #[.int .i64 n,.int .u64 f0,.int .u64 f1,.int .u64 f2,.int .u64 f3,.int .u64 o0,.int .u64 o1,.int .u64 o2,.int .u64 o3] 70 (0,0)) (.cells #[.int .i64 m,.int .u64 g0,.int .u64 g1,.int .u64 g2,.int .u64 g3,.int .u64 p0,.int .u64 p1,.int .u64 p2,.int .u64 p3] 70 (0,0)) (.cells #[.int .i64 0,.int .u64 0,.int .u64 0,.int .u64 0,.int .u64 0,.int .u64 0,.int .u64 0,.int .u64 0,.int .u64 0] 70 (0,0));have hC1:=zfk w (.cells #[.int .i64 n,.int .u64 f0,.int .u64 f1,.int .u64 f2,.int .u64 f3,.int .u64 o0,.int .u64 o1,.int .u64 o2,.int .u64 o3] 70 (0,0)) (.cells #[.int .i64 m,.int .u64 g0,.int .u64 g1,.int .u64 g2,.int .u64 g3,.int .u64 p0,.int .u64 p1,.int .u64 p2,.int .u64 p3] 70 (0,0)) (.cells #[.int .i64 0,.int .u64 0,.int .u64 0,.int .u64 0,.int .u64 0,.int .u64 0,.int .u64 0,.int .u64 0,.int .u64 0] 70 (0,0));have hW1:=zeb (zeb (zeb (Below.refl _ (((w.alloc (.cells #[.int .i64 n,.int .u64 f0,.int .u64 f1,.int .u64 f2,.int .u64 f3,.int .u64 o0,.int .u64 o1,.int .u64 o2,.int .u64 o3] 70 (0,0))).alloc (.cells #[.int .i64 m,.int .u64 g0,.int .u64 g1,.int .u64 g2,.int .u64 g3,.int .u64 p0,.int .u64 p1,.int .u64 p2,.int .u64 p3] 70 (0,0))).alloc (.cells #[.int .i64 0,.int .u64 0,.int .u64 0,.int .u64 0,.int .u64 0,.int .u64 0,.int .u64 0,.int .u64 0,.int .u64 0] 70 (0,0))))))
 go_loopw [6] (fun i wr=>∃ k:Nat,k<=4/\i=.int .i64 k/\wr.heap[w.heap.size]?=some (.cells #[.int .i64 n,.int .u64 (mxi k 0 f0 (bits .or .u64 f0 g0)),.int .u64 (mxi k 1 f1 (bits .or .u64 f1 g1)),.int .u64 (mxi k 2 f2 (bits .or .u64 f2 g2)),.int .u64 (mxi k 3 f3 (bits .or .u64 f3 g3)),.int .u64 (mxi k 0 o0 (bits .or .u64 o0 p0)),.int .u64 (mxi k 1 o1 (bits .or .u64 o1 p1)),.int .u64 (mxi k 2 o2 (bits .or .u64 o2 p2)),.int .u64 (mxi k 3 o3 (bits .or .u64 o3 p3))] 70 (0,0))/\wr.heap[w.heap.size+1]?=some (.cells #[.int .i64 m,.int .u64 g0,.int .u64 g1,.int .u64 g2,.int .u64 g3,.int .u64 p0,.int .u64 p1,.int .u64 p2,.int .u64 p3] 70 (0,0))/\wr.heap[w.heap.size+2]?=some (.cells #[.int .i64 0,.int .u64 0,.int .u64 0,.int .u64 0,.int .u64 0,.int .u64 0,.int .u64 0,.int .u64 0,.int .u64 0] 70 (0,0))/\Below w.heap.size w wr) (fun i _=>4 - (intOf i).toNat)
 case atStart=>exact ⟨0,by omega,rfl,hA1,hB1,hC1,hW1⟩
 case round=>
  clear hA1 hB1 hC1 hW1;obtain ⟨k,hk,rfl,hA0,hB,hC,hW⟩:=hrel;obtain ⟨hcB,hfB⟩:=zar hB;rcases (show k=0∨k=1∨k=2∨k=3∨k=4 by omega) with rfl | rfl | rfl | rfl | rfl
  ·have hA:wr.heap[w.heap.size]?=some (.cells #[.int .i64 n,.int .u64 f0,.int .u64 f1,.int .u64 f2,.int .u64 f3,.int .u64 o0,.int .u64 o1,.int .u64 o2,.int .u64 o3] 70 (0,0)):=hA0
   obtain ⟨hcA,hfA⟩:=zar hA;clear hA0
   go_wp2
   go_region
   go_wp2
   go_region
   go_wp2
   go_roundw
   case rel=>exact ⟨1,by omega,rfl,set2_0 _ _ hA,zbr _ _ (by simp) (by simp) hB,zbr _ _ (by simp) (by simp) hC,((hW.setCell (Nat.le_refl _) _).setCell (Nat.le_refl _) _).drew.drew⟩
   case measure=>simp [intOf]
  ·have hA:wr.heap[w.heap.size]?=some (.cells #[.int .i64 n,.int .u64 (bits .or .u64 f0 g0),.int .u64 f1,.int .u64 f2,.int .u64 f3,.int .u64 (bits .or .u64 o0 p0),.int .u64 o1,.int .u64 o2,.int .u64 o3] 70 (0,0)):=hA0
   obtain ⟨hcA,hfA⟩:=zar hA;clear hA0
   go_wp2
   go_region
   go_wp2
   go_region
   go_wp2
   go_roundw
   case rel=>exact ⟨2,by omega,rfl,set2_1 _ _ hA,zbr _ _ (by simp) (by simp) hB,zbr _ _ (by simp) (by simp) hC,((hW.setCell (Nat.le_refl _) _).setCell (Nat.le_refl _) _).drew.drew⟩
   case measure=>simp [intOf]
  ·have hA:wr.heap[w.heap.size]?=some (.cells #[.int .i64 n,.int .u64 (bits .or .u64 f0 g0),.int .u64 (bits .or .u64 f1 g1),.int .u64 f2,.int .u64 f3,.int .u64 (bits .or .u64 o0 p0),.int .u64 (bits .or .u64 o1 p1),.int .u64 o2,.int .u64 o3] 70 (0,0)):=hA0
   obtain ⟨hcA,hfA⟩:=zar hA;clear hA0
   go_wp2
   go_region
   go_wp2
   go_region
   go_wp2
   go_roundw
   case rel=>exact ⟨3,by omega,rfl,set2_2 _ _ hA,zbr _ _ (by simp) (by simp) hB,zbr _ _ (by simp) (by simp) hC,((hW.setCell (Nat.le_refl _) _).setCell (Nat.le_refl _) _).drew.drew⟩
   case measure=>simp [intOf]
  ·have hA:wr.heap[w.heap.size]?=some (.cells #[.int .i64 n,.int .u64 (bits .or .u64 f0 g0),.int .u64 (bits .or .u64 f1 g1),.int .u64 (bits .or .u64 f2 g2),.int .u64 f3,.int .u64 (bits .or .u64 o0 p0),.int .u64 (bits .or .u64 o1 p1),.int .u64 (bits .or .u64 o2 p2),.int .u64 o3] 70 (0,0)):=hA0
   obtain ⟨hcA,hfA⟩:=zar hA;clear hA0
   go_wp2
   go_region
   go_wp2
   go_region
   go_wp2
   go_roundw
   case rel=>exact ⟨4,by omega,rfl,set2_3 _ _ hA,zbr _ _ (by simp) (by simp) hB,zbr _ _ (by simp) (by simp) hC,((hW.setCell (Nat.le_refl _) _).setCell (Nat.le_refl _) _).drew.drew⟩
   case measure=>simp [intOf]
  ·have hA:wr.heap[w.heap.size]?=some (.cells #[.int .i64 n,.int .u64 (bits .or .u64 f0 g0),.int .u64 (bits .or .u64 f1 g1),.int .u64 (bits .or .u64 f2 g2),.int .u64 (bits .or .u64 f3 g3),.int .u64 (bits .or .u64 o0 p0),.int .u64 (bits .or .u64 o1 p1),.int .u64 (bits .or .u64 o2 p2),.int .u64 (bits .or .u64 o3 p3)] 70 (0,0)):=hA0
   obtain ⟨hcA,hfA⟩:=zar hA;obtain ⟨hcC,hfC⟩:=zar hC;clear hA0
   go_wp2
   refine bodyPost_ret (v:=cv n (bits .or .u64 f0 g0) (bits .or .u64 f1 g1) (bits .or .u64 f2 g2) (bits .or .u64 f3 g3) (bits .or .u64 o0 p0) (bits .or .u64 o1 p1) (bits .or .u64 o2 p2) (bits .or .u64 o3 p3)) ?_ rfl ⟨rfl,?_⟩
   ·exact zgk _ _ (w.heap.size+2) _ _ _ _ _ _ _ _ _ Tryz.results125 rfl (zer _ _ _ _ _ _ _ _ _ hC)
   ·exact zc1 _ _ _ _ _ _ _ _ _ hW (by omega)

end Go.Proofs.YtmfakcfmkmppfaaGreatDoor.Tn
