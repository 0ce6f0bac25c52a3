import Derived.Test.YtbplhianpelmfaaGreatDoorRows
import Derived.WalkKit
import Derived.WalkSpells
import Derived.WalkLawsBesides
import Derived.Deep.QuietTactic
import Derived.BigQuiet
import Derived.Laws.BitsAllLaws
import Derived.Laws.IdiomStrings
namespace Go.Proofs.YtbplhianpelmfaaGreatDoor.Tn
open Go.RowKit

def cv (n a b c d e f g h:Int):Value:=.agg #[.int .i64 n,.int .u64 a,.int .u64 b,.int .u64 c,.int .u64 d,.int .u64 e,.int .u64 f,.int .u64 g,.int .u64 h]

theorem bcell {W w1:World} (hb:Below W.heap.size W w1):(∀ b o,b < W.heap.size→w1.cell? ⟨b,o,none⟩=W.cell? ⟨b,o,none⟩)∧(∀ b o,b < W.heap.size→w1.frozen? ⟨b,o,none⟩=W.frozen? ⟨b,o,none⟩):=
 ⟨fun b o h=>hb.cell (p:=⟨b,o,none⟩) h,fun b o h=>hb.frozen (p:=⟨b,o,none⟩) h⟩

theorem below_drewN (B n:Nat) (w:World):Below B w (w.drewN n):=by
 induction n with
 | zero=>exact Below.refl _ _
 | succ n ih=>exact ⟨ih.os,ih.tape,ih.output,ih.size,ih.block⟩

set_option maxHeartbeats 400000 in
theorem all_yes (n:Int) (w:World) (h1:1≤n) (h2:n≤256) :
  Calls Tryz.prog 38 #[.int .i64 n] w fun e w'=>e=.returned (cv n 0 0 0 0 0 0 0 0)∧Below w.heap.size w w':=by
 go_enter Tryz.func38,Tryz.ntmps38
 go_wp2
 exact bodyPost_ret (v:=cv n 0 0 0 0 0 0 0 0) (by simp [results,Tryz.results38,go_sem,cv]) rfl ⟨rfl,(Below.refl _ _).alloc (Nat.le_refl _) _⟩

set_option maxHeartbeats 400000 in
theorem all_no (n:Int) (w:World) (h:n < 1∨256 < n) :
  Calls Tryz.prog 38 #[.int .i64 n] w fun e w'=>e=.returned (cv 0 0 0 0 0 0 0 0 0)∧Below w.heap.size w w':=by
 rcases h with h | h
 ·go_enter Tryz.func38,Tryz.ntmps38
  go_wp2
  exact bodyPost_ret (v:=cv 0 0 0 0 0 0 0 0 0) (by simp [results,Tryz.results38,go_sem,cv]) rfl ⟨rfl,(Below.refl _ _).alloc (Nat.le_refl _) _⟩
 ·have h':¬n < 1:=by omega
  go_enter Tryz.func38,Tryz.ntmps38
  go_wp2
  exact bodyPost_ret (v:=cv 0 0 0 0 0 0 0 0 0) (by simp [results,Tryz.results38,go_sem,cv]) rfl ⟨rfl,(Below.refl _ _).alloc (Nat.le_refl _) _⟩

theorem wrap_pow (r:Nat) (h:r < 64):IntKind.u64.wrap ((2:Int) ^ r)=((2 ^ r:Nat):Int):=by
 rw [IntKind.wrap_u64]
 have h1:2 ^ r < 2 ^ 64:=Nat.pow_lt_pow_right (by omega) h
 have h2:((2:Int) ^ r)=((2 ^ r:Nat):Int):=by simp
 rw [h2];generalize 2 ^ r=x at h1 ⊢;omega

set_option maxHeartbeats 400000 in
theorem spot_raw (p:Int) (w:World) (h1:0≤p) (h2:p < 256) :
  Calls Tryz.prog 65 #[.int .i64 p] w fun e w'=>e=.returned (.tuple #[.int .i64 (p / 64),.int .u64 ((2 ^ (p % 64).toNat:Nat):Int)])∧∃ n,w'=w.drewN n:=by
 have hm:0≤p % 64∧p % 64 < 64:=by omega
 go_enter Tryz.func65,Tryz.ntmps65
 go_wp2
 go_quiet (fail)
 go_wp2
 go_ret2
 exact ⟨by rw [wrap_pow _ (by omega)];rfl,_,rfl⟩

theorem spot_at (p:Int) (k r:Nat) (w:World) (hk:k < 4) (hr:r < 64) (hp:p=((64*k+r:Nat):Int)) :
  Calls Tryz.prog 65 #[.int .i64 p] w fun e w'=>e=.returned (.tuple #[.int .i64 k,.int .u64 ((2 ^ r:Nat):Int)])∧∃ n,w'=w.drewN n:=by
 refine (spot_raw p w (by omega) (by omega)).mono ?_
 rintro e w' ⟨rfl,h⟩
 have e1:p / 64=(k:Int):=by omega
 have e2:(p % 64).toNat=r:=by omega
 rw [e1,e2]
 exact ⟨rfl,h⟩

set_option maxHeartbeats 400000 in
theorem at_0 (n a b c d e f g h p:Int) (r:Nat) (w:World) (hr:r < 64) (hp:p=((64*0+r:Nat):Int)) :
  Calls Tryz.prog 46 #[cv n a b c d e f g h,.int .i64 p] w fun e' w'=>e'=.returned (.int .u8 (if (bits .and .u64 a ((2 ^ r:Nat):Int)==0)=true then 120 else if (bits .and .u64 e ((2 ^ r:Nat):Int)==0)=true then 48 else 49))∧Below w.heap.size w w':=by
 have HP:Hid (p=((64*0+r:Nat):Int)):=hp
 clear hp
 unfold cv
 generalize hX:(2 ^ r:Nat)=X
 have HX:Hid ((2 ^ r:Nat)=X):=hX
 clear hX
 go_enter Tryz.func46,Tryz.ntmps46
 go_wp2_with (go_at_call 65;refine (spot_at p 0 r _ (by decide) hr HP.out).mono ?_;rintro e w' ⟨rfl,nq,rfl⟩;rw [HX.out])
 all_goals go_ret
 all_goals exact ⟨by simp_all,((Below.refl _ _).alloc (Nat.le_refl _) _).trans (below_drewN _ _ _)⟩

set_option maxHeartbeats 400000 in
theorem at_1 (n a b c d e f g h p:Int) (r:Nat) (w:World) (hr:r < 64) (hp:p=((64*1+r:Nat):Int)) :
  Calls Tryz.prog 46 #[cv n a b c d e f g h,.int .i64 p] w fun e' w'=>e'=.returned (.int .u8 (if (bits .and .u64 b ((2 ^ r:Nat):Int)==0)=true then 120 else if (bits .and .u64 f ((2 ^ r:Nat):Int)==0)=true then 48 else 49))∧Below w.heap.size w w':=by
 have HP:Hid (p=((64*1+r:Nat):Int)):=hp
 clear hp
 unfold cv
 generalize hX:(2 ^ r:Nat)=X
 have HX:Hid ((2 ^ r:Nat)=X):=hX
 clear hX
 go_enter Tryz.func46,Tryz.ntmps46
 go_wp2_with (go_at_call 65;refine (spot_at p 1 r _ (by decide) hr HP.out).mono ?_;rintro e w' ⟨rfl,nq,rfl⟩;rw [HX.out])
 all_goals go_ret
 all_goals exact ⟨by simp_all,((Below.refl _ _).alloc (Nat.le_refl _) _).trans (below_drewN _ _ _)⟩

set_option maxHeartbeats 400000 in
theorem at_2 (n a b c d e f g h p:Int) (r:Nat) (w:World) (hr:r < 64) (hp:p=((64*2+r:Nat):Int)) :
  Calls Tryz.prog 46 #[cv n a b c d e f g h,.int .i64 p] w fun e' w'=>e'=.returned (.int .u8 (if (bits .and .u64 c ((2 ^ r:Nat):Int)==0)=true then 120 else if (bits .and .u64 g ((2 ^ r:Nat):Int)==0)=true then 48 else 49))∧Below w.heap.size w w':=by
 have HP:Hid (p=((64*2+r:Nat):Int)):=hp
 clear hp
 unfold cv
 generalize hX:(2 ^ r:Nat)=X
 have HX:Hid ((2 ^ r:Nat)=X):=hX
 clear hX
 go_enter Tryz.func46,Tryz.ntmps46
 go_wp2_with (go_at_call 65;refine (spot_at p 2 r _ (by decide) hr HP.out).mono ?_;rintro e w' ⟨rfl,nq,rfl⟩;rw [HX.out])
 all_goals go_ret
 all_goals exact ⟨by simp_all,((Below.refl _ _).alloc (Nat.le_refl _) _).trans (below_drewN _ _ _)⟩

set_option maxHeartbeats 400000 in
theorem at_3 (n a b c d e f g h p:Int) (r:Nat) (w:World) (hr:r < 64) (hp:p=((64*3+r:Nat):Int)) :
  Calls Tryz.prog 46 #[cv n a b c d e f g h,.int .i64 p] w fun e' w'=>e'=.returned (.int .u8 (if (bits .and .u64 d ((2 ^ r:Nat):Int)==0)=true then 120 else if (bits .and .u64 h ((2 ^ r:Nat):Int)==0)=true then 48 else 49))∧Below w.heap.size w w':=by
 have HP:Hid (p=((64*3+r:Nat):Int)):=hp
 clear hp
 unfold cv
 generalize hX:(2 ^ r:Nat)=X
 have HX:Hid ((2 ^ r:Nat)=X):=hX
 clear hX
 go_enter Tryz.func46,Tryz.ntmps46
 go_wp2_with (go_at_call 65;refine (spot_at p 3 r _ (by decide) hr HP.out).mono ?_;rintro e w' ⟨rfl,nq,rfl⟩;rw [HX.out])
 all_goals go_ret
 all_goals exact ⟨by simp_all,((Below.refl _ _).alloc (Nat.le_refl _) _).trans (below_drewN _ _ _)⟩
end Go.Proofs.YtbplhianpelmfaaGreatDoor.Tn
namespace Go.Proofs.YtbplhianpelmfaaGreatDoor.Tn

def wd (p:Nat→Bool):Nat→Nat
 | 0=>0
 | n+1=>wd p n ||| (if p n then 2 ^ n else 0)

theorem wd_lt (p:Nat→Bool) (n:Nat):wd p n < 2 ^ n:=by
 induction n with
 | zero=>simp [wd]
 | succ n ih=>
  have h1:2 ^ n < 2 ^ (n+1):=Nat.pow_lt_pow_right (by omega) (by omega)
  unfold wd
  refine Nat.or_lt_two_pow (by omega) ?_
  split
  ·exact h1
  ·omega

theorem wd_bit (p:Nat→Bool) (n i:Nat):(wd p n).testBit i=(decide (i < n)&&p i):=by
 induction n with
 | zero=>simp [wd]
 | succ n ih=>
  unfold wd
  rw [Nat.testBit_or,ih]
  by_cases h:i=n
  ·subst h
   cases p i <;> simp
  ·have h2:(if p n then 2 ^ n else 0).testBit i=false:=by
    cases p n <;> simp [Nat.testBit_two_pow]
    omega
   rw [h2,Bool.or_false]
   congr 1
   simp
   omega

theorem wd_congr (p q:Nat→Bool) (n:Nat) (h:∀ i,i < n→p i=q i):wd p n=wd q n:=by
 apply Nat.eq_of_testBit_eq
 intro i
 rw [wd_bit,wd_bit]
 by_cases hi:i < n
 ·rw [h i hi]
 ·simp [hi]

theorem wd_zero (p:Nat→Bool) (n:Nat) (h:∀ i,i < n→p i=false):wd p n=0:=by
 apply Nat.eq_of_testBit_eq
 intro i
 rw [wd_bit]
 by_cases hi:i < n
 ·simp [h i hi]
 ·simp [hi]

def fx (t:List UInt8) (k:Nat):Bool:=match t[k]? with | some b=>b != 120 | none=>false
def on (t:List UInt8) (k:Nat):Bool:=match t[k]? with | some b=>b==49 | none=>false
def FW (t:List UInt8) (w:Nat):Nat:=wd (fun i=>fx t (64*w+i)) 64
def OW (t:List UInt8) (w:Nat):Nat:=wd (fun i=>on t (64*w+i)) 64

theorem FW_lt (t:List UInt8) (w:Nat):FW t w < 18446744073709551616:=wd_lt _ 64
theorem OW_lt (t:List UInt8) (w:Nat):OW t w < 18446744073709551616:=wd_lt _ 64
theorem FW_bit (t:List UInt8) (w i:Nat):(FW t w).testBit i=(decide (i < 64)&&fx t (64*w+i)):=wd_bit _ _ _
theorem OW_bit (t:List UInt8) (w i:Nat):(OW t w).testBit i=(decide (i < 64)&&on t (64*w+i)):=wd_bit _ _ _

def tri (b:UInt8):Bool:=b==48 || b==49 || b==120
def good (t:List UInt8):Bool:=decide (t.length≤256)&&t.all tri

theorem good_len {t:List UInt8} (h:good t=true):t.length≤256:=by
 simp [good] at h;exact h.1
theorem good_tri {t:List UInt8} (h:good t=true) (k:Nat) (hk:k < t.length):tri t[k]=true:=by
 simp [good] at h;exact h.2 _ (List.getElem_mem hk)

theorem pow_lt64 (r:Nat) (h:r < 64):2 ^ r < 18446744073709551616:=by
 have:2 ^ r < 2 ^ 64:=Nat.pow_lt_pow_right (by omega) h
 exact this

theorem and_bit (x r:Nat):(x &&& 2 ^ r==0)=!x.testBit r:=by
 rw [nat_bit,←Nat.shiftRight_eq_div_pow]
 have hp:0 < 2 ^ r:=Nat.two_pow_pos r
 have h:x.testBit r=decide (x >>> r % 2=1):=Nat.testBit_eq_decide_div_mod_eq ▸ by rw [Nat.shiftRight_eq_div_pow]
 rw [h]
 rcases Nat.mod_two_eq_zero_or_one (x >>> r) with e | e
 ·simp [e]
 ·simp [e]

theorem bits_and_bit (x r:Nat) (hx:x < 18446744073709551616) (hr:r < 64):(bits .and .u64 (x:Int) ((2 ^ r:Nat):Int)==0)=!x.testBit r:=by
 rw [u64_and_nat x (2 ^ r) hx (pow_lt64 r hr),←and_bit x r]
 rw [Bool.eq_iff_iff]
 simp only [beq_iff_eq]
 omega

theorem FW_at (t:List UInt8) (k r:Nat) (hr:r < 64):(bits .and .u64 (FW t k:Int) ((2 ^ r:Nat):Int)==0)=!fx t (64*k+r):=by
 rw [bits_and_bit _ _ (FW_lt _ _) hr,FW_bit];simp [hr]
theorem OW_at (t:List UInt8) (k r:Nat) (hr:r < 64):(bits .and .u64 (OW t k:Int) ((2 ^ r:Nat):Int)==0)=!on t (64*k+r):=by
 rw [bits_and_bit _ _ (OW_lt _ _) hr,OW_bit];simp [hr]

theorem at_eq (t:List UInt8) (p:Nat) (hp:p < t.length) (ht:tri t[p]=true) :
  (if (!fx t p)=true then (120:Int) else if (!on t p)=true then 48 else 49)=(t[p].toNat:Int):=by
 have h0:t[p]?=some t[p]:=List.getElem?_eq_getElem hp
 simp only [fx,on,h0]
 generalize t[p]=b at *
 simp [tri] at ht
 rcases ht with (rfl | rfl) | rfl <;> simp

theorem fx_set (t:List UInt8) (p j:Nat) (b:UInt8) (hb:b≠120) (hp:p < t.length):fx (t.set p b) j=(fx t j || decide (j=p)):=by
 unfold fx
 by_cases h:j=p
 ·subst h
  simp [List.getElem?_set_self hp,hb]
 ·rw [List.getElem?_set_ne (by omega)];simp [h]

theorem on_set (t:List UInt8) (p j:Nat) (b:UInt8) (hp:p < t.length) (hx:t[p]=120):on (t.set p b) j=(on t j || (decide (j=p)&&(b==49))):=by
 unfold on
 by_cases h:j=p
 ·subst h
  simp [List.getElem?_set_self hp,List.getElem?_eq_getElem hp,hx]
 ·rw [List.getElem?_set_ne (by omega)];simp [h]

theorem FW_set_ne (t:List UInt8) (k j r:Nat) (b:UInt8) (hr:r < 64) (hb:b≠120) (hp:64*k+r < t.length) (hj:j≠k):FW (t.set (64*k+r) b) j=FW t j:=by
 apply wd_congr
 intro i hi
 rw [fx_set _ _ _ _ hb hp]
 have:64*j+i≠64*k+r:=by omega
 simp [this]

theorem OW_set_ne (t:List UInt8) (k j r:Nat) (b:UInt8) (hr:r < 64) (hp:64*k+r < t.length) (hx:t[64*k+r]=120) (hj:j≠k):OW (t.set (64*k+r) b) j=OW t j:=by
 apply wd_congr
 intro i hi
 rw [on_set _ _ _ _ hp hx]
 have:64*j+i≠64*k+r:=by omega
 simp [this]

theorem FW_set (t:List UInt8) (k r:Nat) (b:UInt8) (hr:r < 64) (hb:b≠120) (hp:64*k+r < t.length) :
  bits .or .u64 (FW t k:Int) ((2 ^ r:Nat):Int)=(FW (t.set (64*k+r) b) k:Nat):=by
 rw [u64_or_nat _ _ (FW_lt _ _) (pow_lt64 r hr)]
 congr 1
 apply Nat.eq_of_testBit_eq
 intro i
 rw [Nat.testBit_or,FW_bit,FW_bit,Nat.testBit_two_pow,fx_set _ _ _ _ hb hp]
 by_cases hi:i < 64
 ·by_cases h:r=i
  ·subst h;simp [hi]
  ·have h2:¬i=r:=by omega
   simp [hi,h,h2]
 ·have:¬r=i:=by omega
  simp [hi,this]

def dg (D r:Nat):UInt8:=if D.testBit r then 49 else 48
theorem dg_49 (D r:Nat):(dg D r==49)=D.testBit r:=by unfold dg;cases D.testBit r <;> simp

theorem OW_set (t:List UInt8) (k r D:Nat) (hr:r < 64) (hD:D < 18446744073709551616) (hp:64*k+r < t.length) (hx:t[64*k+r]=120) :
  bits .or .u64 (OW t k:Int) (bits .and .u64 ((2 ^ r:Nat):Int) (D:Int))=(OW (t.set (64*k+r) (dg D r)) k:Nat):=by
 have hand:2 ^ r &&& D < 18446744073709551616:=Nat.lt_of_le_of_lt Nat.and_le_right hD
 rw [u64_and_nat _ _ (pow_lt64 r hr) hD,u64_or_nat _ _ (OW_lt _ _) hand]
 congr 1
 apply Nat.eq_of_testBit_eq
 intro i
 rw [Nat.testBit_or,Nat.testBit_and,OW_bit,OW_bit,Nat.testBit_two_pow,on_set _ _ _ _ hp hx,dg_49]
 by_cases hi:i < 64
 ·by_cases h:r=i
  ·subst h;simp [hi]
  ·have h2:¬i=r:=by omega
   simp [hi,h,h2]
 ·have:¬r=i:=by omega
  simp [hi,this]

theorem FW_all (n w:Nat):FW (List.replicate n 120) w=0:=by
 apply wd_zero
 intro i _
 unfold fx
 rw [List.getElem?_replicate]
 split <;> simp_all
theorem OW_all (n w:Nat):OW (List.replicate n 120) w=0:=by
 apply wd_zero
 intro i _
 unfold on
 rw [List.getElem?_replicate]
 by_cases h:64*w+i < n <;> simp [h]

def st (t:List UInt8) (k:Nat):List UInt8:=t.take k++List.replicate (t.length - k) 120
theorem st_len (t:List UInt8) (k:Nat) (h:k≤t.length):(st t k).length=t.length:=by simp [st];omega
theorem st_zero (t:List UInt8):st t 0=List.replicate t.length 120:=by simp [st]
theorem st_all (t:List UInt8):st t t.length=t:=by simp [st]
theorem st_get (t:List UInt8) (k:Nat) (h:k < t.length):(st t k)[k]'(by rw [st_len _ _ (by omega)];exact h)=120:=by
 unfold st
 rw [List.getElem_append_right (by simp;omega)]
 simp
theorem st_succ (t:List UInt8) (k:Nat) (h:k < t.length):(st t k).set k t[k]=st t (k+1):=by
 apply List.ext_getElem?
 intro i
 by_cases hi:i=k
 ·subst hi
  rw [List.getElem?_set_self (by rw [st_len _ _ (by omega)];exact h)]
  unfold st
  rw [List.getElem?_append_left (by simp;omega),List.getElem?_take_of_lt (by omega),List.getElem?_eq_getElem h]
 ·rw [List.getElem?_set_ne (by omega)]
  unfold st
  rw [List.getElem?_append,List.getElem?_append]
  simp only [List.length_take,List.getElem?_take,List.getElem?_replicate]
  repeat' split
  all_goals first | rfl | omega | skip
theorem st_skip (t:List UInt8) (k:Nat) (h:k < t.length) (hx:t[k]=120):st t (k+1)=st t k:=by
 rw [←st_succ t k h,hx]
 have:=st_get t k h
 rw [←this]
 exact List.set_getElem_self _

theorem eq_of_words (a b:List UInt8) (ha:good a=true) (hb:good b=true) (hl:a.length=b.length)
  (hf:∀ w,w < 4→FW a w=FW b w) (ho:∀ w,w < 4→OW a w=OW b w):a=b:=by
 apply List.ext_getElem hl
 intro i h1 h2
 have l1:=good_len ha
 have hw:i / 64 < 4:=by omega
 have e1:(FW a (i / 64)).testBit (i % 64)=(FW b (i / 64)).testBit (i % 64):=by rw [hf _ hw]
 have e2:(OW a (i / 64)).testBit (i % 64)=(OW b (i / 64)).testBit (i % 64):=by rw [ho _ hw]
 rw [FW_bit,FW_bit] at e1
 rw [OW_bit,OW_bit] at e2
 have hi:64*(i / 64)+i % 64=i:=by omega
 have hlt:i % 64 < 64:=by omega
 rw [hi] at e1 e2
 simp only [hlt,decide_true,Bool.true_and] at e1 e2
 simp only [fx,on,List.getElem?_eq_getElem h1,List.getElem?_eq_getElem h2] at e1 e2
 have ta:=good_tri ha i h1
 have tb:=good_tri hb i h2
 generalize a[i]=x at *
 generalize b[i]=y at *
 simp [tri] at ta tb
 rcases ta with (rfl | rfl) | rfl <;> rcases tb with (rfl | rfl) | rfl <;> simp_all

def wordsEq (a b:List UInt8):Bool:=((a.length:Int)==(b.length:Int))&&((FW a 0:Int)==(FW b 0:Int))&&((FW a 1:Int)==(FW b 1:Int))&&((FW a 2:Int)==(FW b 2:Int))&&((FW a 3:Int)==(FW b 3:Int))&&((OW a 0:Int)==(OW b 0:Int))&&((OW a 1:Int)==(OW b 1:Int))&&((OW a 2:Int)==(OW b 2:Int))&&((OW a 3:Int)==(OW b 3:Int))

theorem wordsEq_eq (a b:List UInt8) (ha:good a=true) (hb:good b=true):wordsEq a b=(a==b):=by
 rw [Bool.eq_iff_iff]
 constructor
 ·intro h
  simp only [wordsEq,Bool.and_eq_true,beq_iff_eq] at h
  obtain ⟨⟨⟨⟨⟨⟨⟨⟨h0,h1⟩,h2⟩,h3⟩,h4⟩,h5⟩,h6⟩,h7⟩,h8⟩:=h
  have:a=b:=by
   apply eq_of_words a b ha hb (by omega)
   ·intro w hw
    match w,hw with
    | 0,_=>omega
    | 1,_=>omega
    | 2,_=>omega
    | 3,_=>omega
   ·intro w hw
    match w,hw with
    | 0,_=>omega
    | 1,_=>omega
    | 2,_=>omega
    | 3,_=>omega
  subst this;simp
 ·intro h
  have:a=b:=by simpa using h
  subst this
  simp [wordsEq]

def refP (t:List UInt8):Int:=if 256 < t.length then 2 else if t=[] then 10 else if t.all tri=true then 0 else 10
def cubeT (t:List UInt8):List UInt8:=if refP t=0 then t else []

theorem refP_zero (t:List UInt8):refP t=0↔(t≠[]∧good t=true):=by
 unfold refP good
 by_cases h1:256 < t.length
 ·simp [h1];omega
 ·by_cases h2:t=[]
  ·simp [h2]
  ·by_cases h3:t.all tri=true
   ·simp [h1,h2,h3];omega
   ·simp [h1,h2,h3]

theorem good_nil:good []=true:=by decide
theorem cubeT_nil_iff (t:List UInt8) (h:refP t≠0):cubeT t=[]:=by unfold cubeT;rw [if_neg h]
theorem cubeT_self (t:List UInt8) (h:refP t=0):cubeT t=t:=by unfold cubeT;rw [if_pos h]
theorem good_replicate (n:Nat) (h:n≤256):good (List.replicate n 120)=true:=by
 simp [good,h,tri]

end Go.Proofs.YtbplhianpelmfaaGreatDoor.Tn
namespace Go.Proofs.YtbplhianpelmfaaGreatDoor.Tn
open Go.RowKit

def cubeV (t:List UInt8):Value:=cv t.length (FW t 0) (FW t 1) (FW t 2) (FW t 3) (OW t 0) (OW t 1) (OW t 2) (OW t 3)

theorem cubeV_all (n:Nat):cubeV (List.replicate n 120)=cv n 0 0 0 0 0 0 0 0:=by
 unfold cubeV;simp only [FW_all,OW_all,List.length_replicate];rfl

theorem all_any (n:Int) (w:World):Calls Tryz.prog 38 #[.int .i64 n] w fun e w'=>e=.returned (cubeV (if 1≤n∧n≤256 then List.replicate n.toNat 120 else []))∧Below w.heap.size w w':=by
 by_cases h:1≤n∧n≤256
 ·rw [if_pos h]
  refine (all_yes n w h.1 h.2).mono ?_
  rintro e w' ⟨rfl,hb⟩
  refine ⟨?_,hb⟩
  rw [cubeV_all]
  have:((n.toNat:Nat):Int)=n:=by omega
  rw [this]
 ·rw [if_neg h]
  refine (all_no n w (by omega)).mono ?_
  rintro e w' ⟨rfl,hb⟩
  refine ⟨?_,hb⟩
  have:=cubeV_all 0
  rw [List.replicate_zero] at this
  rw [this];rfl

theorem at_any (t:List UInt8) (p:Int) (q:Nat) (w:World) (hg:good t=true) (hp:p=(q:Int)) (hq:q < t.length) :
  Calls Tryz.prog 46 #[cubeV t,.int .i64 p] w fun e w'=>e=.returned (.int .u8 (t[q].toNat:Int))∧Below w.heap.size w w':=by
 have hl:=good_len hg
 have ht:=good_tri hg q hq
 have hkr:∃ k r,k < 4∧r < 64∧q=64*k+r:=⟨q / 64,q % 64,by omega,by omega,by omega⟩
 obtain ⟨k,r,hk,hr,rfl⟩:=hkr
 have e:=at_eq t (64*k+r) hq ht
 rw [←FW_at t k r hr,←OW_at t k r hr] at e
 match k,hk with
 | 0,_=>
  refine (at_0 _ _ _ _ _ _ _ _ _ p r w hr hp).mono ?_
  rintro e' w' ⟨rfl,hb⟩
  exact ⟨by rw [e],hb⟩
 | 1,_=>
  refine (at_1 _ _ _ _ _ _ _ _ _ p r w hr hp).mono ?_
  rintro e' w' ⟨rfl,hb⟩
  exact ⟨by rw [e],hb⟩
 | 2,_=>
  refine (at_2 _ _ _ _ _ _ _ _ _ p r w hr hp).mono ?_
  rintro e' w' ⟨rfl,hb⟩
  exact ⟨by rw [e],hb⟩
 | 3,_=>
  refine (at_3 _ _ _ _ _ _ _ _ _ p r w hr hp).mono ?_
  rintro e' w' ⟨rfl,hb⟩
  exact ⟨by rw [e],hb⟩

theorem info_u8:(Tryz.prog.info? 5).map (fun i=>(i.zero,i.size,i.bytes))=some (some (.int .u8 0),1,1):=by kernel_rfl

theorem grown_of_below {w w':World} (h:Below w.heap.size w w') (row:Option Nat):w.grownBy w' row:=
 ⟨h.os,h.tape,h.output,h.size,fun k hk _=>h.block k hk⟩

theorem owns_below {w w':World} {base:Nat} {e:TypeId} {size:Nat} {v:Value} {n:Nat} {xs:List Value} (h:w.ownsRow base e size v n xs) (hb:Below w.heap.size w w'):w'.ownsRow base e size v n xs:=by
 refine h.kept (grown_of_below hb none) ?_
 cases v.ownBlock <;> simp

def bys (t:List UInt8):List Value:=t.map fun b=>.int .u8 (b.toNat:Int)
def rowAt (t:List UInt8) (k:Nat):List Value:=bys (t.take k)++List.replicate (t.length - k) (.int .u8 0)

theorem rowAt_all (t:List UInt8):rowAt t t.length=bys t:=by simp [rowAt]
theorem rowAt_zero (t:List UInt8):rowAt t 0=List.replicate t.length (.int .u8 0):=by simp [rowAt,bys]
theorem rowAt_get (t:List UInt8) (k:Nat) (h:k < t.length):(rowAt t k)[k]?=some (.int .u8 0):=by
 unfold rowAt bys
 rw [List.getElem?_append_right (by simp;omega)]
 have h1:min k t.length=k:=by omega
 have h2:0 < t.length - k:=by omega
 simp [h1,h2]
theorem rowAt_succ (t:List UInt8) (k:Nat) (h:k < t.length):(rowAt t k).set k (.int .u8 (t[k].toNat:Int))=rowAt t (k+1):=by
 unfold rowAt bys
 have hs:t.take (k+1)=t.take k++[t[k]]:=List.take_succ_eq_append_getElem h
 have:t.length - k=(t.length - (k+1))+1:=by omega
 rw [this,List.replicate_succ,List.set_append_right _ _ (by simp;omega),hs,List.map_append]
 simp [Nat.min_eq_left (Nat.le_of_lt h)]

theorem add_plain (b o j:Nat):(⟨b,o,none⟩:Addr).add j=⟨b,o+j,none⟩:=by unfold Addr.add;split <;> simp_all

theorem conv_owned (W:World) (B g cap:Nat) (t:List UInt8) (hown:W.ownsRow B 5 1 (.slice (some ⟨g,0,none⟩) t.length cap) t.length (bys t)) :
  (convert 87 9 (.slice (some ⟨g,0,none⟩) t.length cap)).run Tryz.prog W=.ok (.string ⟨t.toArray⟩) W:=by
 refine run_convert_bytes_back _ _ _ 5 _ _ t Tryz.underlying87 Tryz.underlying5 Tryz.underlying9 ?_
 intro j hj
 have:=hown.cellAt j (by omega)
 rw [add_plain,Nat.zero_add,this]
 simp [bys,List.getElem?_eq_getElem hj]

set_option maxHeartbeats 400000 in
theorem text_any (t:List UInt8) (w:World) (hg:good t=true) :
  Calls Tryz.prog 29 #[cubeV t] w fun e w'=>e=.returned (.string ⟨t.toArray⟩)∧Below w.heap.size w w':=by
 have hl:=good_len hg
 obtain ⟨i0,hi,hz0,hz1,hz2⟩:=info_parts info_u8
 unfold cubeV cv
 go_enter Tryz.func29,Tryz.ntmps29
 go_wp2_with (at_make;refine wpList_make_full _ rfl _ _ 87 rfl (w.heap.size+1) 5 i0 (.int .u8 0) 1 Tryz.underlying87 hi hz0 hz1 .i64 .i64 _ _ t.length rfl rfl rfl rfl (by rw [hz2];omega) (by unfold maxLen;omega) (by simp) ?_;intro w1 hown hgrow)
 have hB:Below (w.heap.size+1) (w.alloc (.cells #[.int .i64 (t.length:Int),.int .u64 (FW t 0:Int),.int .u64 (FW t 1:Int),.int .u64 (FW t 2:Int),.int .u64 (FW t 3:Int),.int .u64 (OW t 0:Int),.int .u64 (OW t 1:Int),.int .u64 (OW t 2:Int),.int .u64 (OW t 3:Int)] 79)) w1:=(Below.refl _ _).grown hgrow (by simp) (fun k h=>by cases h)
 have hown':w1.ownsRow (w.heap.size+1) 5 1 (.slice (some ⟨w.heap.size+1,0,none⟩) t.length t.length) t.length (rowAt t 0):=by
  rw [rowAt_zero]
  have h1:(madeCells (Value.int IntKind.u8 0).cells (t.length*1)).toList=List.replicate t.length (.int .u8 0):=by rw [Nat.mul_one];exact toList_madeCells_one _ _
  rw [h1] at hown
  simpa using hown
 clear hown hgrow
 go_loopw [10] (fun i wr=>∃ k:Nat,k≤t.length∧i=.int .i64 k∧wr.ownsRow (w.heap.size+1) 5 1 (.slice (some ⟨w.heap.size+1,0,none⟩) t.length t.length) t.length (rowAt t k)∧Below (w.heap.size+1) (w.alloc (.cells #[.int .i64 (t.length:Int),.int .u64 (FW t 0:Int),.int .u64 (FW t 1:Int),.int .u64 (FW t 2:Int),.int .u64 (FW t 3:Int),.int .u64 (OW t 0:Int),.int .u64 (OW t 1:Int),.int .u64 (OW t 2:Int),.int .u64 (OW t 3:Int)] 79)) wr) (fun i _=>t.length - (intOf i).toNat)
 case atStart=>exact ⟨0,Nat.zero_le _,rfl,hown',hB⟩
 case round=>
  clear hB hown'
  obtain ⟨k,hk,rfl,hown,hB⟩:=hrel
  have hc:∀ b o,b < w.heap.size+1→wr.cell? ⟨b,o,none⟩=(w.alloc (.cells #[.int .i64 (t.length:Int),.int .u64 (FW t 0:Int),.int .u64 (FW t 1:Int),.int .u64 (FW t 2:Int),.int .u64 (FW t 3:Int),.int .u64 (OW t 0:Int),.int .u64 (OW t 1:Int),.int .u64 (OW t 2:Int),.int .u64 (OW t 3:Int)] 79)).cell? ⟨b,o,none⟩:=fun b o h=>hB.cell (p:=⟨b,o,none⟩) h
  have hsz:w.heap.size+1≤wr.heap.size:=by have:=hB.size;simpa using this
  by_cases hlt:k < t.length
  ·go_wp2_with (go_at_call 46;refine (at_any t _ k _ hg rfl hlt).mono ?_;rintro e w2 ⟨rfl,hb2⟩;have hown2:=owns_below hown hb2;have hc2:=(hown2.cellAt k (by omega)).trans (rowAt_get t k hlt);have hf2:=hown2.frozenAt k)
   go_roundw
   case rel=>
    refine ⟨k+1,by omega,by go_num,?_,?_⟩
    ·have:=hown2.stored k (.int .u8 (t[k].toNat:Int))
     rw [rowAt_succ t k hlt] at this
     exact this.1
    ·exact (hB.trans (hb2.mono hsz)).setCell (Nat.le_refl _) _
   case measure=>simp [intOf];omega
  ·have hkn:k=t.length:=by omega
   subst hkn
   rw [rowAt_all] at hown
   have hcv:=conv_owned wr (w.heap.size+1) (w.heap.size+1) t.length t hown
   go_wp2
   go_ret
   exact ⟨rfl,((Below.refl _ _).alloc (Nat.le_refl _) _).trans (hB.mono (by omega))⟩
end Go.Proofs.YtbplhianpelmfaaGreatDoor.Tn
