import Derived.Test.YtpmcnonmkghokaaGreatDoorT11
set_option maxRecDepth 100000
set_option maxHeartbeats 4000000
set_option linter.unusedVariables false
set_option linter.unusedSimpArgs false
namespace Go.Proofs.YtpmcnonmkghokaaGreatDoor
open Go.RowKit
attribute [local go_sem ↓] Go.wp_at_zero Go.wp_at_succ
def kwu (i:Nat):ByteArray:=⟨#[(48+i).toUInt8]⟩
theorem qkb (i:Nat)(hi:i<10)(w:World):Calls Tryz.prog 28 #[.int .i64 i] w fun e w'=>e=.returned (.string (kwu i))∧w'=w:=by
 have h:i=0∨i=1∨i=2∨i=3∨i=4∨i=5∨i=6∨i=7∨i=8∨i=9:=by omega
 rcases h with rfl|rfl|rfl|rfl|rfl|rfl|rfl|rfl|rfl|rfl;all_goals
  go_enter Tryz.func28,Tryz.ntmps28
  go_wp2
  go_ret
  exact ⟨rfl,rfl⟩
theorem Tryz.infoStr0:(Tryz.prog.info? 9).map (fun i=>(i.zero,i.size,i.bytes))=some (some (.string ⟨#[]⟩),1,16):=by kernel_rfl
def ky9 (n:Nat):List ByteArray:=(List.range n).map kwu
theorem jw9 (k:Nat):ky9 (k+1)=ky9 k++[kwu k]:=by rw[ky9,List.range_succ,ng];rfl
theorem kxa (k:Nat):(ky9 k).length=k:=by simp[ky9]
def vkm (w:World)(n:Nat)(x i:Value)(wr:World):Prop:=
 ∃ (k:Nat) (la:Option Addr) (ll lc:Nat),k≤n∧i=.int .i64 k∧x=.slice la ll lc∧wr.ownsRow w.heap.size 9 1 (.slice la ll lc) k ((ky9 k).map Value.string)∧Below w.heap.size w wr
theorem qjl (n:Nat)(hn:n≤10)(w:World):Calls Tryz.prog 167 #[.int .i64 n] w fun e w'=>∃ v,e=.returned v∧w'.ownsRow w.heap.size 9 1 v n ((ky9 n).map Value.string)∧Below w.heap.size w w':=by
 obtain ⟨i0,hi,hz0,hz1,hz2⟩:=info_parts Tryz.infoStr0;have HS:=hide (show vkm w n (.slice none 0 0) (.int .i64 0) w from ⟨0,none,0,0,tu _,rfl,rfl,rP _ _ _ _,Below.refl _ _⟩);go_enter Tryz.func167,Tryz.ntmps167
 go_wp2_with fail
 go_loopw [3,4,6] (fun x _ i wr=>vkm w n x i wr) (fun _ _ i _=>n-(intOf i).toNat)
 case atStart=>exact ku HS
 case round=>
  obtain ⟨k,la,ll,lc,hk,rfl,rfl,ho,hb⟩:=hrel;have HO:=hide ho;have HB:=hide hb;have hsz:=hb.size;clear ho hb;by_cases hlt:k<n
  ·have hk10:k<10:=by omega
   have HIT:=hide (qkb k hk10 wr);have HSTEP:=hide (jw9 k);generalize kwu k=dk at *;go_wp2_with (first
    | (go_at_call 28;refine (ku HIT).mono ?_;rintro e w2 ⟨rfl,rfl⟩)
    | (at_builtin;refine lJ _ rfl _ _ 22 rfl w.heap.size 9 i0 _ 1 16 Tryz.underlying22 hi hz0 hz1 hz2 rfl (by decide) (.slice la ll lc) _ _ rfl ((ku HO).alloc _) ⟨w2.heap.size,0,none⟩ 1 1 [.string dk] rfl rfl (kj3 w2 _ [.string dk] _ rfl) (by intro y hy;simp at hy;subst hy;rfl) (by unfold maxLen;omega) (by omega) (by simp;omega) ?_))
   intro v' w' hown hgrow _ hat;obtain ⟨a3,l3,c3,rfl⟩:=jy hown;have HO':=hide (show w'.ownsRow w.heap.size 9 1 (.slice a3 l3 c3) (k+1) ((ky9 (k+1)).map Value.string) by rw[ku HSTEP,ng];exact hown);have HB':=hide (((ku HB).alloc hsz _).grown hgrow (by simp;omega) (yw (ku HO)));clear hown hgrow hat;go_wp2
   go_roundw
   case rel=>exact ⟨k+1,a3,l3,c3,by omega,by go_num,rfl,ku HO',ku HB'⟩
   case measure=>simp[intOf];omega
  ·have:k=n:=by omega
   subst this;go_wp2
   go_ret
   exact ⟨_,rfl,ku HO,ku HB⟩
def vkt (w W:World)(l:List Tok)(x i:Value)(wr:World):Prop:=
 ∃ (k:Nat) (la:Option Addr) (ll lc:Nat),k≤l.length∧i=.int .i64 k∧x=.slice la ll lc∧wr.ownsRow W.heap.size 9 1 (.slice la ll lc) k ((l.take k).map (fun t=>Value.string t.text))∧Below W.heap.size W wr
theorem zq6 (w:World)(lo:Nat)(l:List Tok)(nm:Tok)(ma:Option Addr)(mn mc:Nat)(hM:w.ownsRow lo 107 2 (.slice ma mn mc) l.length (bf l))(hl:l.length≤1000) :
  Calls Tryz.prog 168 #[.agg #[.string nm.text,.int .i64 nm.at_,.slice ma mn mc]] w fun e w'=>∃ v,e=.returned v∧w'.ownsRow w.heap.size 9 1 v l.length (l.map (fun t=>Value.string t.text))∧Below w.heap.size w w':=by
 obtain ⟨i0,hi,hz0,hz1,hz2⟩:=info_parts Tryz.infoStr0;obtain ⟨W,hW⟩:∃ W,W=w.alloc (.cells #[.string nm.text,.int .i64 nm.at_,.slice ma mn mc] 114):=⟨_,rfl⟩;have hbW:Below w.heap.size w W:=by rw[hW];exact below_alloc1 w _
 have hsW:w.heap.size<W.heap.size:=by rw[hW];simp
 obtain ⟨xa,cap,e1,hview⟩:=zq (qj hM hbW);injection e1 with e1 e2 e3;subst e1;subst e2;subst e3;have HW:=hide hview;have HS:=hide (show vkt w W l (.slice none 0 0) (.int .i64 0) W from ⟨0,none,0,0,tu _,rfl,rfl,rP _ _ _ _,Below.refl _ _⟩);have HBW:=hide hbW;have HWE:=hide hW.symm;clear hview hM hbW hW;go_enter Tryz.func168,Tryz.ntmps168
 go_wp2_with fail
 rw[ku HWE];go_loopw [3,5,9] (fun x _ i wr=>vkt w W l x i wr) (fun _ _ i _=>l.length-(intOf i).toNat)
 case atStart=>exact ku HS
 case round=>
  obtain ⟨k,la,ll,lc,hk,rfl,rfl,ho,hb⟩:=hrel;have HO:=hide ho;have HB:=hide hb;have hsz:=hb.size;by_cases hlt:k<l.length
  ·obtain ⟨g,rfl,hg1,hg2,hc⟩:=ku HW k hlt;have fl:=fun j (hj:j<2)=>kjx kqq 2 (fun _=>rfl) l k j hlt hj
   have cc:∀ j,j<l.length * 2→wr.cell? ⟨g,j,none⟩=(bf l)[j]?:=fun j hj=>(hb.cell (p:=⟨g,j,none⟩) hg2).trans (hc j hj)
   have e0:=(cc (k * 2+0) (by omega)).trans (fl 0 (by omega));have e1:=(cc (k * 2+1) (by omega)).trans (fl 1 (by omega));simp only[kqq,sW,sK,nV] at e0 e1;have HSTEP:=hide (show (l.take (k+1)).map (fun t=>Value.string t.text)=(l.take k).map (fun t=>Value.string t.text)++[.string l[k].text] by rw[nG hlt,ng];rfl);generalize l[k]=t at *;clear cc fl hc ho hb;go_wp2_with (at_builtin;refine lJ _ rfl _ _ 22 rfl W.heap.size 9 i0 _ 1 16 Tryz.underlying22 hi hz0 hz1 hz2 rfl (by decide) (.slice la ll lc) _ _ rfl (((ku HO).alloc _).alloc _) ⟨wr.heap.size+1,0,none⟩ 1 1 [.string t.text] rfl rfl (kj3 (wr.alloc _) _ [.string t.text] _ (by simp)) (by intro y hy;simp at hy;subst hy;rfl) (by unfold maxLen;omega) (by omega) (by simp;omega) ?_)
   intro v' w' hown hgrow _ hat;obtain ⟨a3,l3,c3,rfl⟩:=jy hown;have HO':=hide (show w'.ownsRow W.heap.size 9 1 (.slice a3 l3 c3) (k+1) ((l.take (k+1)).map (fun t=>Value.string t.text)) by rw[ku HSTEP,List.map_take];exact hown);have HB':=hide ((((ku HB).alloc hsz _).alloc (by simp;omega) _).grown hgrow (by simp;omega) (yw (ku HO)));clear hown hgrow hat;go_wp2
   go_roundw
   case rel=>exact ⟨k+1,a3,l3,c3,by omega,by go_num,rfl,ku HO',ku HB'⟩
   case measure=>simp[intOf];omega
  ·have:k=l.length:=by omega
   subst this;rw[Qk] at ho;have HO':=hide (zu (Qv hsW) ho);have HB':=hide ((ku HBW).trans (hb.mono (Qv hsW)));clear ho hb HO;go_wp2
   go_ret
   exact ⟨_,rfl,ku HO',ku HB'⟩
def qz5:List PSet→List UInt8→Option Nat
 | [],_=>none
 | x::l,s=>if x.name.text.toList==s then some 0 else (qz5 l s).map (·+1)
def qqj (l:List PSet)(s:List UInt8):Int:=match qz5 l s with|some k=>k|none=>-1
theorem qw6:∀ (l:List PSet) (k:Nat) (s:List UInt8),(∀ i (hi:i<l.length),i<k→(l[i].name.text.toList==s)=false)→k≤l.length→qz5 l s=(qz5 (l.drop k) s).map (·+k)
 | [],k,s,_,hk=>by simp at hk;subst hk;simp[qz5]
 | x::l,0,s,_,_=>by simp
 | x::l,k+1,s,h,hk=>by
  have h0:=h 0 (by simp) (by omega);simp only[fB] at h0;have:=qw6 l k s (fun i hi hk=>by have:=h (i+1) (by simpa using hi) (by omega);simpa using this) (by simpa using hk);rw[qz5,h0,QU,if_neg (by simp),this,Option.map_map];rfl
theorem zw6 (w:World)(lo cb:Nat)(l:List PSet)(n:Tok)(xa:Option Addr)(xn xc:Nat)(ho:w.ownsRow lo 111 4 (.slice xa xn xc) l.length (zqo l))(hc:w.heap[cb]?=some (.cells #[.string n.text,.int .i64 n.at_] 107 (0,0)))(hl:l.length≤1000) :
  Calls Tryz.prog 169 #[.slice xa xn xc,.func (.func 170) #[] #[.pointer (some ⟨cb,0,none⟩)]] w fun e w'=>e=.returned (.int .i64 (qqj l n.text.toList))∧Below w.heap.size w w':=by
 obtain ⟨ya,yc,e1,hview⟩:=zq ho;injection e1 with e1 e2 e3;subst e1;subst e2;subst e3;have HW:=hide hview;have HC:=hide hc;have hcl:=wX hc;clear hview ho hc;go_enter Tryz.func169,Tryz.ntmps169
 go_wp2_with fail
 go_loopw [5,8] (fun _ i wr=>∃ k:Nat,k≤l.length∧i=.int .i64 k∧(∀ i (hi:i<l.length),i<k→(l[i].name.text.toList==n.text.toList)=false)∧Below w.heap.size w wr) (fun _ i _=>l.length-(intOf i).toNat)
 case atStart=>exact ⟨0,tu _,rfl,fun i _ h=>by omega,Below.refl _ _⟩
 case round=>
  obtain ⟨k,hk,rfl,hno,hb⟩:=hrel;have HNO:=hide hno;have HB:=hide hb;have hsz:=hb.size;obtain ⟨m0,m1,_,_⟩:=yj ((hb.block cb hcl).trans (ku HC));have hcr:cb<wr.heap.size:=by omega
  clear hno;by_cases hlt:k<l.length
  ·obtain ⟨g,rfl,hg1,hg2,hc⟩:=ku HW k hlt;have fl:=fun j (hj:j<4)=>kjx qj7 4 (fun _=>rfl) l k j hlt hj
   have cc:∀ j,j<l.length * 4→wr.cell? ⟨g,j,none⟩=(zqo l)[j]?:=fun j hj=>(hb.cell (p:=⟨g,j,none⟩) hg2).trans (hc j hj)
   have e0:=(cc (k * 4+0) (by omega)).trans (fl 0 (by omega));have e1:=(cc (k * 4+1) (by omega)).trans (fl 1 (by omega));have e2:=(cc (k * 4+2) (by omega)).trans (fl 2 (by omega));have e3:=(cc (k * 4+3) (by omega)).trans (fl 3 (by omega));simp only[qj7,sW,sK,nV] at e0 e1 e2 e3;have hsk:=qw6 l k n.text.toList (ku HNO) hk;rw[sQ hlt,qz5] at hsk;have HSK:=hide hsk;have HST:=hide (fun (hq:(l[k].name.text.toList==n.text.toList)=false)=>(show ∀ i (hi:i<l.length),i<k+1→(l[i].name.text.toList==n.text.toList)=false from fun i hi h=>by
    by_cases e:i=k
    ·subst e;exact hq
    ·exact (ku HNO) i hi (by omega)))
   generalize l[k]=p at *;clear cc fl hc hsk hb;cases hq:(p.name.text.toList==n.text.toList)
   ·have HS2:=hide ((ku HST) hq);clear HSK;go_wp2
    go_roundw
    case rel=>exact ⟨k+1,by omega,by go_num,ku HS2,(ku HB).alloc hsz _⟩
    case measure=>simp[intOf];omega
   ·have HE:=hide (show qqj l n.text.toList=k by rw[qqj,ku HSK,hq];simp);clear HSK HST;go_wp2
    go_ret
    exact ⟨kvd (ku HE).symm,(ku HB).alloc hsz _⟩
  ·have hsk:=qw6 l l.length n.text.toList (fun i hi _=>(ku HNO) i hi (by omega)) (wW _);rw[lW,qz5] at hsk;have HE:=hide (show qqj l n.text.toList=-1 by rw[qqj,hsk];rfl);clear hsk hb;go_wp2
   go_ret
   exact ⟨kvd (ku HE).symm,ku HB⟩
theorem kyf (w:World)(lo:Nat)(l:List PSet)(n:Tok)(a0 a1 a2 a3 a4:Option Addr)(n0 n1 n2 n3 n4 c0 c1 c2 c3 c4:Nat)(ho:w.ownsRow lo 111 4 (.slice a0 n0 c0) l.length (zqo l))(hl:l.length≤1000) :
  Calls Tryz.prog 99 #[.agg #[.slice a0 n0 c0,.slice a1 n1 c1,.slice a2 n2 c2,.slice a3 n3 c3,.slice a4 n4 c4],ptV n] w fun e w'=>e=.returned (.int .i64 (qqj l n.text.toList))∧Below w.heap.size w w':=by
 obtain ⟨W,hW⟩:∃ W,W=(w.alloc (.cells #[.slice a0 n0 c0,.slice a1 n1 c1,.slice a2 n2 c2,.slice a3 n3 c3,.slice a4 n4 c4] 68)).alloc (.cells #[.string n.text,.int .i64 n.at_] 107):=⟨_,rfl⟩;have hbW:Below w.heap.size w W:=by rw[hW];exact (below_alloc1 w _).trans ((below_alloc1 _ _).mono (by simp))
 have hN:W.heap[w.heap.size+1]?=some (.cells #[.string n.text,.int .i64 n.at_] 107 (0,0)):=by
  rw[hW];have:=qy (w.alloc (.cells #[.slice a0 n0 c0,.slice a1 n1 c1,.slice a2 n2 c2,.slice a3 n3 c3,.slice a4 n4 c4] 68)) (.cells #[.string n.text,.int .i64 n.at_] 107);simp only[tJ] at this;exact this
 have HI:=hide (zw6 W lo (w.heap.size+1) l n a0 n0 c0 (qj ho hbW) hN hl);have hsW:w.heap.size≤W.heap.size:=hbW.size;have HBW:=hide hbW;have HWE:=hide hW.symm;clear ho hN hbW hW;generalize qqj l n.text.toList=y at *;unfold ptV;go_enter Tryz.func99,Tryz.ntmps99
 go_wp2_with fail
 rw[ku HWE];refine (ku HI).mono ?_;rintro e w1 ⟨rfl,hb1⟩;have HB1:=hide ((ku HBW).trans (hb1.mono hsW));clear hb1 HI;go_wp2
 go_ret
 exact ⟨rfl,ku HB1⟩
theorem qz3 (w:World)(lo:Nat)(l:List PSet)(n:Tok)(a0 a1 a2 a3 a4:Option Addr)(n0 n1 n2 n3 n4 c0 c1 c2 c3 c4:Nat)(ho:w.ownsRow lo 111 4 (.slice a0 n0 c0) l.length (zqo l))(hl:l.length≤1000)(k:Nat)(hk:qz5 l n.text.toList=some k)(s:PSet)(hs:l[k]?=some s) :
  Calls Tryz.prog 97 #[.agg #[.slice a0 n0 c0,.slice a1 n1 c1,.slice a2 n2 c2,.slice a3 n3 c3,.slice a4 n4 c4],ptV n] w fun e w'=>e=.returned (.int .i64 (gu s.size.text))∧Below w.heap.size w w':=by
 obtain ⟨hkl,hke⟩:=nJ.mp hs;obtain ⟨W,hW⟩:∃ W,W=(w.alloc (.cells #[.slice a0 n0 c0,.slice a1 n1 c1,.slice a2 n2 c2,.slice a3 n3 c3,.slice a4 n4 c4] 68)).alloc (.cells #[.string n.text,.int .i64 n.at_] 107):=⟨_,rfl⟩;have hbW:Below w.heap.size w W:=by rw[hW];exact (below_alloc1 w _).trans ((below_alloc1 _ _).mono (by simp))
 have hsW:w.heap.size+1<W.heap.size:=by rw[hW];simp
 have hD:W.heap[w.heap.size]?=some (.cells #[.slice a0 n0 c0,.slice a1 n1 c1,.slice a2 n2 c2,.slice a3 n3 c3,.slice a4 n4 c4] 68 (0,0)):=by rw[hW];exact qp (qy _ _)
 have hN:W.heap[w.heap.size+1]?=some (.cells #[.string n.text,.int .i64 n.at_] 107 (0,0)):=by
  rw[hW];have:=qy (w.alloc (.cells #[.slice a0 n0 c0,.slice a1 n1 c1,.slice a2 n2 c2,.slice a3 n3 c3,.slice a4 n4 c4] 68)) (.cells #[.string n.text,.int .i64 n.at_] 107);simp only[tJ] at this;exact this
 have HSN:=hide (kyf W.drew lo l n a0 a1 a2 a3 a4 n0 n1 n2 n3 n4 c0 c1 c2 c3 c4 (qj ho hbW.drew) hl);rw[show qqj l n.text.toList=(k:Int) by rw[qqj,hk]] at HSN;obtain ⟨ya,yc,e1,hview⟩:=zq (qj ho hbW);injection e1 with e1 e2 e3;subst e1;subst e2;subst e3;obtain ⟨g,rfl,hg1,hg2,hc⟩:=hview k hkl;have d0:=(hc (k * 4+2) (by omega)).trans (kjx qj7 4 (fun _=>rfl) l k 2 hkl (by omega));simp only[qj7,sW,sK] at d0;rw[hke] at d0;obtain ⟨q0,q1,q2,q3,q4,_⟩:=zo hD;obtain ⟨m0,m1,_,_⟩:=yj hN;have HD:=hide hD;have HN:=hide hN;have HBW:=hide hbW;have HWE:=hide hW.symm;have hgW:g<W.heap.size:=hg2;clear hview hc ho hD hN hbW hW hs hke hk;unfold ptV at *;go_enter Tryz.func97,Tryz.ntmps97
 go_upto_region 1 with fail
 rw[ku HWE];go_region_held3 (fun w'=>w'.cell? ⟨w.heap.size,0,none⟩=some (.slice (some ⟨g,0,none⟩) l.length c0)∧w'.cell? ⟨w.heap.size,1,none⟩=some (.slice a1 n1 c1)∧w'.cell? ⟨w.heap.size,2,none⟩=some (.slice a2 n2 c2)∧w'.cell? ⟨w.heap.size,3,none⟩=some (.slice a3 n3 c3)∧w'.cell? ⟨w.heap.size,4,none⟩=some (.slice a4 n4 c4)∧w'.cell? ⟨w.heap.size+1,0,none⟩=some (.string n.text)∧w'.cell? ⟨w.heap.size+1,1,none⟩=some (.int .i64 n.at_)∧w'.cell? ⟨g,k * 4+2,none⟩=some (.int .i64 (gu s.size.text)))
  (first|exact ⟨q0,q1,q2,q3,q4,m0,m1,d0⟩|exact ⟨u0,u1,u2,u3,u4,v0,v1,z0⟩)
  ((go_at_call 99;refine (ku HSN).mono ?_;rintro e w1 ⟨rfl,hb1⟩;obtain ⟨u0,u1,u2,u3,u4,_⟩:=zo ((hb1.block w.heap.size (by show w.heap.size<W.heap.size;omega)).trans (ku HD));obtain ⟨v0,v1,_⟩:=yj ((hb1.block (w.heap.size+1) (by show w.heap.size+1<W.heap.size;omega)).trans (ku HN));have z0:=(hb1.cell (p:=⟨g,k * 4+2,none⟩) (by show g<W.heap.size;omega)).trans d0;have HB1:=hide ((ku HBW).drew.trans (hb1.mono (by show w.heap.size≤W.heap.size;omega)));clear hb1;dsimp only))
 go_wp2
 go_ret
 exact ⟨rfl,ku HB1⟩
theorem qq5 (w:World)(f t:Int)(ta:Nat)(n:Tok)(a0 a1 a2 a3 a4:Option Addr)(n0 n1 n2 n3 n4 c0 c1 c2 c3 c4:Nat)(k:Nat)(hk:k≤10)(hf:(f==0&&k==2)=true∨(f==0)=false∧(f==1)=true∧t+1=k) :
  Calls Tryz.prog 98 #[.agg #[.slice a0 n0 c0,.slice a1 n1 c1,.slice a2 n2 c2,.slice a3 n3 c3,.slice a4 n4 c4],.agg #[.int .i64 f,.int .i64 t,.int .i64 ta,.string n.text,.int .i64 n.at_]] w fun e w'=>∃ v,e=.returned v∧w'.ownsRow w.heap.size 9 1 v k ((ky9 k).map Value.string)∧Below w.heap.size w w':=by
 obtain ⟨W,hW⟩:∃ W,W=(w.alloc (.cells #[.slice a0 n0 c0,.slice a1 n1 c1,.slice a2 n2 c2,.slice a3 n3 c3,.slice a4 n4 c4] 68)).alloc (.cells #[.int .i64 f,.int .i64 t,.int .i64 ta,.string n.text,.int .i64 n.at_] 119):=⟨_,rfl⟩;have hbW:Below w.heap.size w W:=by rw[hW];exact (below_alloc1 w _).trans ((below_alloc1 _ _).mono (by simp))
 have HN:=hide (qjl k hk W);have HBW:=hide hbW;have hsW:=hbW.size;have HWE:=hide hW.symm;clear hbW hW;rcases hf with hf|⟨h0,h1,ht⟩
 ·rw[wY] at hf;obtain ⟨h0,h2⟩:=hf;have h2':k=2:=by simpa using h2
  subst h2';clear h2;go_enter Tryz.func98,Tryz.ntmps98
  go_wp2_with fail
  rw[ku HWE];refine (ku HN).mono ?_;rintro e w1 ⟨v,rfl,ho,hb⟩;have HO:=hide (zu hsW ho);have HB:=hide ((ku HBW).trans (hb.mono hsW));clear ho hb;go_wp2
  go_ret
  exact ⟨_,rfl,ku HO,ku HB⟩
 ·have ht':t=(k:Int)-1:=by omega
  subst ht';go_enter Tryz.func98,Tryz.ntmps98
  go_wp2_with fail
  rw[ku HWE];refine (ku HN).mono ?_;rintro e w1 ⟨v,rfl,ho,hb⟩;have HO:=hide (zu hsW ho);have HB:=hide ((ku HBW).trans (hb.mono hsW));clear ho hb;go_wp2
  go_ret
  exact ⟨_,rfl,ku HO,ku HB⟩
def kyj:List PKind→List UInt8→Option PKind
 | [],_=>none
 | x::l,s=>if x.name.text.toList==s then some x else kyj l s
theorem qxj:∀ (l:List PKind) (k:Nat) (s:List UInt8),(∀ i (hi:i<l.length),i<k→(l[i].name.text.toList==s)=false)→kyj l s=kyj (l.drop k) s
 | [],k,s,_=>by simp
 | x::l,0,s,_=>rfl
 | x::l,k+1,s,h=>by
  have h0:=h 0 (by simp) (by omega);simp only[fB] at h0;rw[kyj,h0,QU];exact qxj l k s (fun i hi hk=>by have:=h (i+1) (by simpa using hi) (by omega);simpa using this)
theorem zq2 (w:World)(lo:Nat)(f t:Int)(ta:Nat)(n:Tok)(a0 a1 a2 a3 a4:Option Addr)(n0 n1 n2 n3 n4 c0 c1 c2 c3 c4:Nat)(ks:List PKind)(cs:List Value)(ho:w.ownsRow lo 114 3 (.slice a1 n1 c1) ks.length cs)(hki:kxu lo w ks cs)(hl:ks.length≤1000)(hml:∀ x∈ks,x.members.length≤1000)(h0:(f==0)=false)(h1:(f==1)=false)(kd:PKind)(hkd:kyj ks n.text.toList=some kd) :
  Calls Tryz.prog 98 #[.agg #[.slice a0 n0 c0,.slice a1 n1 c1,.slice a2 n2 c2,.slice a3 n3 c3,.slice a4 n4 c4],.agg #[.int .i64 f,.int .i64 t,.int .i64 ta,.string n.text,.int .i64 n.at_]] w fun e w'=>∃ v,e=.returned v∧w'.ownsRow w.heap.size 9 1 v kd.members.length (kd.members.map (fun t=>Value.string t.text))∧Below w.heap.size w w':=by
 obtain ⟨W,hW⟩:∃ W,W=(w.alloc (.cells #[.slice a0 n0 c0,.slice a1 n1 c1,.slice a2 n2 c2,.slice a3 n3 c3,.slice a4 n4 c4] 68)).alloc (.cells #[.int .i64 f,.int .i64 t,.int .i64 ta,.string n.text,.int .i64 n.at_] 119):=⟨_,rfl⟩;have hbW:Below w.heap.size w W:=by rw[hW];exact (below_alloc1 w _).trans ((below_alloc1 _ _).mono (by simp))
 have hsW:w.heap.size+1<W.heap.size:=by rw[hW];simp
 have hS:W.heap[w.heap.size+1]?=some (.cells #[.int .i64 f,.int .i64 t,.int .i64 ta,.string n.text,.int .i64 n.at_] 119 (0,0)):=by
  rw[hW];have:=qy (w.alloc (.cells #[.slice a0 n0 c0,.slice a1 n1 c1,.slice a2 n2 c2,.slice a3 n3 c3,.slice a4 n4 c4] 68)) (.cells #[.int .i64 f,.int .i64 t,.int .i64 ta,.string n.text,.int .i64 n.at_] 119);simp only[tJ] at this;exact this
 obtain ⟨ya,yc,e1,hview⟩:=zq (qj ho hbW);injection e1 with e1 e2 e3;subst e1;subst e2;subst e3;have HW:=hide hview;have HKI:=hide (show kxu lo W ks cs from hki.stay fun k _ hk=>hbW.block k hk);have HS:=hide hS;have HBW:=hide hbW;have HWE:=hide hW.symm;have HKD:=hide hkd;have HML:=hide hml;clear hview ho hki hS hbW hW hkd hml;go_enter Tryz.func98,Tryz.ntmps98
 go_wp2_with fail
 rw[ku HWE];go_loopw [6,22] (fun _ i wr=>∃ k:Nat,k≤ks.length∧i=.int .i64 k∧(∀ i (hi:i<ks.length),i<k→(ks[i].name.text.toList==n.text.toList)=false)∧Below W.heap.size W wr) (fun _ i _=>ks.length-(intOf i).toNat)
 case atStart=>exact ⟨0,tu _,rfl,fun i _ h=>by omega,Below.refl _ _⟩
 case round=>
  obtain ⟨k,hk,rfl,hno,hb⟩:=hrel;have HNO:=hide hno;have HB:=hide hb;have hsz:=hb.size;obtain ⟨m0,m1,m2,m3,m4,_⟩:=zo ((hb.block (w.heap.size+1) hsW).trans (ku HS));have hcr:w.heap.size+1<wr.heap.size:=by omega
  clear hno;have hlt:k<ks.length:=by
   apply sJ;intro hge;have:=(qxj ks ks.length n.text.toList (fun i hi _=>(ku HNO) i hi (by omega))).symm.trans (ku HKD);rw[lW,kyj] at this;cases this
  obtain ⟨g,rfl,hg1,hg2,hc⟩:=ku HW k hlt;obtain ⟨ma,mn,mc,s0,s1,s2,hmem⟩:=zz4 k hlt (ku HKI);have cc:∀ j,j<ks.length * 3→wr.cell? ⟨g,j,none⟩=cs[j]?:=fun j hj=>(hb.cell (p:=⟨g,j,none⟩) hg2).trans (hc j hj)
  have e0:=(cc (k * 3) (by omega)).trans s0;have e1:=(cc (k * 3+1) (by omega)).trans s1;have e2:=(cc (k * 3+2) (by omega)).trans s2;have hsk:=(qxj ks k n.text.toList (ku HNO)).symm.trans (ku HKD);rw[sQ hlt,kyj] at hsk;have HST:=hide (fun (hq:(ks[k].name.text.toList==n.text.toList)=false)=>(show ∀ i (hi:i<ks.length),i<k+1→(ks[i].name.text.toList==n.text.toList)=false from fun i hi h=>by
   by_cases e:i=k
   ·subst e;exact hq
   ·exact (ku HNO) i hi (by omega)))
  have HMT:=hide (zq6 (wr.alloc (.cells #[.string ks[k].name.text,.int .i64 ks[k].name.at_,.slice ma mn mc] 114)) lo ks[k].members ks[k].name ma mn mc (qj hmem (hb.alloc hsz _)) ((ku HML) _ (rJ _)));generalize ks[k]=p at *;clear cc hc hb hmem s0 s1 s2;cases hq:(p.name.text.toList==n.text.toList)
  ·have HS2:=hide ((ku HST) hq);clear hsk HMT;go_wp2
   go_roundw
   case rel=>exact ⟨k+1,by omega,by go_num,ku HS2,(ku HB).alloc hsz _⟩
   case measure=>simp[intOf];omega
  ·rw[hq,if_pos rfl] at hsk;injection hsk with hsk;subst hsk;go_wp2_with fail
   refine (ku HMT).mono ?_;rintro e w2 ⟨v,rfl,ho2,hb2⟩;have HO2:=hide (zu (by simp;omega) ho2:w2.ownsRow w.heap.size 9 1 v _ _);have HB2:=hide ((ku HBW).trans ((((ku HB).alloc hsz _).mono (by omega)).trans (hb2.mono (by simp;omega))));clear ho2 hb2 HMT;go_wp2
   go_ret
   exact ⟨_,rfl,ku HO2,ku HB2⟩
theorem zqh (w:World)(lo:Nat)(f t:Int)(ta:Nat)(n:Tok)(a0 a1 a2 a3 a4:Option Addr)(n0 n1 n2 n3 n4 c0 c1 c2 c3 c4:Nat)(ks:List PKind)(cs:List Value)(ho:w.ownsRow lo 114 3 (.slice a1 n1 c1) ks.length cs)(hki:kxu lo w ks cs)(hl:ks.length≤1000)(ss:List PSet)(hss:w.ownsRow lo 111 4 (.slice a0 n0 c0) ss.length (zqo ss))(hsl:ss.length≤1000)(j:Nat)(hj:qz5 ss n.text.toList=some j)(sx:PSet)(hsx:ss[j]?=some sx)(m:Nat)(hm:gu sx.size.text=m)(hm10:m≤10)(h0:(f==0)=false)(h1:(f==1)=false)(hkd:kyj ks n.text.toList=none) :
  Calls Tryz.prog 98 #[.agg #[.slice a0 n0 c0,.slice a1 n1 c1,.slice a2 n2 c2,.slice a3 n3 c3,.slice a4 n4 c4],.agg #[.int .i64 f,.int .i64 t,.int .i64 ta,.string n.text,.int .i64 n.at_]] w fun e w'=>∃ v,e=.returned v∧w'.ownsRow w.heap.size 9 1 v (m+1) (Value.string ⟨#[45]⟩::(ky9 m).map Value.string)∧Below w.heap.size w w':=by
 obtain ⟨W,hW⟩:∃ W,W=(w.alloc (.cells #[.slice a0 n0 c0,.slice a1 n1 c1,.slice a2 n2 c2,.slice a3 n3 c3,.slice a4 n4 c4] 68)).alloc (.cells #[.int .i64 f,.int .i64 t,.int .i64 ta,.string n.text,.int .i64 n.at_] 119):=⟨_,rfl⟩;have hbW:Below w.heap.size w W:=by rw[hW];exact (below_alloc1 w _).trans ((below_alloc1 _ _).mono (by simp))
 have hsW:w.heap.size+1<W.heap.size:=by rw[hW];simp
 have hS:W.heap[w.heap.size+1]?=some (.cells #[.int .i64 f,.int .i64 t,.int .i64 ta,.string n.text,.int .i64 n.at_] 119 (0,0)):=by
  rw[hW];have:=qy (w.alloc (.cells #[.slice a0 n0 c0,.slice a1 n1 c1,.slice a2 n2 c2,.slice a3 n3 c3,.slice a4 n4 c4] 68)) (.cells #[.int .i64 f,.int .i64 t,.int .i64 ta,.string n.text,.int .i64 n.at_] 119);simp only[tJ] at this;exact this
 obtain ⟨ya,yc,e1,hview⟩:=zq (qj ho hbW);injection e1 with e1 e2 e3;subst e1;subst e2;subst e3;have HW:=hide hview;have HKI:=hide (show kxu lo W ks cs from hki.stay fun k _ hk=>hbW.block k hk);have HS:=hide hS;have HBW:=hide hbW;have HWE:=hide hW.symm;have HKD:=hide hkd;have hD:W.heap[w.heap.size]?=some (.cells #[.slice a0 n0 c0,.slice a1 ks.length c1,.slice a2 n2 c2,.slice a3 n3 c3,.slice a4 n4 c4] 68 (0,0)):=by rw[hW];exact qp (qy _ _)
 have HD:=hide hD;have HSZ:=hide (fun (wx:World) (hb:Below w.heap.size w wx)=>qz3 wx lo ss n a0 a1 a2 a3 a4 n0 ks.length n2 n3 n4 c0 c1 c2 c3 c4 (qj hss hb) hsl j hj sx hsx);rw[hm] at HSZ;obtain ⟨i0,hi,hz0,hz1,hz2⟩:=info_parts Tryz.infoStr0;clear hview ho hki hS hbW hW hkd hD hss hsx hj;go_enter Tryz.func98,Tryz.ntmps98
 go_wp2_with fail
 rw[ku HWE];go_loopw [6,22] (fun _ i wr=>∃ k:Nat,k≤ks.length∧i=.int .i64 k∧(∀ i (hi:i<ks.length),i<k→(ks[i].name.text.toList==n.text.toList)=false)∧Below W.heap.size W wr) (fun _ i _=>ks.length-(intOf i).toNat)
 case atStart=>exact ⟨0,tu _,rfl,fun i _ h=>by omega,Below.refl _ _⟩
 case round=>
  obtain ⟨k,hk,rfl,hno,hb⟩:=hrel;have HNO:=hide hno;have HB:=hide hb;have hsz:=hb.size;obtain ⟨m0,m1,m2,m3,m4,_⟩:=zo ((hb.block (w.heap.size+1) hsW).trans (ku HS));have hcr:w.heap.size+1<wr.heap.size:=by omega
  clear hno;by_cases hlt:k<ks.length
  ·obtain ⟨g,rfl,hg1,hg2,hc⟩:=ku HW k hlt;obtain ⟨ma,mn,mc,s0,s1,s2,hmem⟩:=zz4 k hlt (ku HKI);have cc:∀ j,j<ks.length * 3→wr.cell? ⟨g,j,none⟩=cs[j]?:=fun j hj=>(hb.cell (p:=⟨g,j,none⟩) hg2).trans (hc j hj)
   have e0:=(cc (k * 3) (by omega)).trans s0;have e1:=(cc (k * 3+1) (by omega)).trans s1;have e2:=(cc (k * 3+2) (by omega)).trans s2;have hsk:=(qxj ks k n.text.toList (ku HNO)).symm.trans (ku HKD);rw[sQ hlt,kyj] at hsk;have HST:=hide (fun (hq:(ks[k].name.text.toList==n.text.toList)=false)=>(show ∀ i (hi:i<ks.length),i<k+1→(ks[i].name.text.toList==n.text.toList)=false from fun i hi h=>by
    by_cases e:i=k
    ·subst e;exact hq
    ·exact (ku HNO) i hi (by omega)))
   have hqk:(ks[k].name.text.toList==n.text.toList)=false:=by
    cases hq:(ks[k].name.text.toList==n.text.toList)
    ·rfl
    ·rw[hq,if_pos rfl] at hsk;cases hsk
   have HS2:=hide ((ku HST) hqk);generalize ks[k]=p at *;clear cc hc hb hmem s0 s1 s2 hsk HST;go_wp2
   go_roundw
   case rel=>exact ⟨k+1,by omega,by go_num,ku HS2,(ku HB).alloc hsz _⟩
   case measure=>simp[intOf];omega
  ·obtain ⟨q0,q1,q2,q3,q4,_⟩:=zo ((hb.block w.heap.size (by omega)).trans (ku HD));have hwr:w.heap.size<wr.heap.size:=by omega
   have hbw:Below w.heap.size w wr:=(ku HBW).trans (hb.mono (by omega));have HSZ1:=hide ((ku HSZ) (wr.alloc (.cells #[.string ⟨#[45]⟩] 9)) (hbw.alloc (by omega) _));have HBw:=hide hbw;unfold ptV at HSZ1;clear hb hbw;go_wp2_with fail
   refine (ku HSZ1).mono ?_;rintro e w2 ⟨rfl,hb2⟩;have hs2:=hb2.size;have HDASH:=hide (qj (show (wr.alloc (.cells #[.string ⟨#[45]⟩] 9)).ownsRow w.heap.size 9 1 (.slice (some ⟨wr.heap.size,0,none⟩) 1 1) 1 [.string ⟨#[45]⟩] from ⟨rfl,Or.inr ⟨wr.heap.size,1,_,rfl,by omega,qy _ _,wW _,by unfold maxLen;omega,rfl,rfl⟩⟩) hb2);have HB2:=hide (((ku HBw).alloc (by omega) _).trans (hb2.mono (by simp;omega)));have HNT:=hide (qjl m hm10 w2);simp at hs2;clear hb2 HSZ1;go_wp2_with fail
   refine (ku HNT).mono ?_;rintro e w3 ⟨v3,rfl,ho3,hb3⟩;have hs3:=hb3.size;obtain ⟨a5,l5,c5,rfl⟩:=jy ho3;have HD3:=hide (qj (ku HDASH) hb3);have HB3:=hide ((ku HB2).trans (hb3.mono (by omega)));have HO3:=hide ho3;clear ho3 hb3 HNT HDASH;go_wp2_with (at_builtin;refine kzz rfl _ _ 22 rfl w.heap.size 9 i0 _ 1 16 Tryz.underlying22 hi hz0 hz1 hz2 rfl (by decide) (.slice (some ⟨wr.heap.size,0,none⟩) 1 1) 1 _ rfl (ku HD3) (.slice a5 l5 c5) m _ _ rfl (ku HO3) (by intro y hy;obtain ⟨x,_,rfl⟩:=sV.mp hy;rfl) (by unfold maxLen;omega) (by omega) (by omega) ?_)
   intro v4 w4 hown4 hgrow4 hat4;obtain ⟨a6,l6,c6,rfl⟩:=jy hown4;have HO4:=hide (show w4.ownsRow w.heap.size 9 1 (.slice a6 l6 c6) (m+1) (Value.string ⟨#[45]⟩::(ky9 m).map Value.string) by rw[Jk m 1];exact hown4);have HB4:=hide ((ku HB3).grown hgrow4 (by omega) (yw (ku HD3)));clear hown4 hgrow4 hat4;go_wp2
   go_ret
   exact ⟨_,rfl,ku HO4,ku HB4⟩
end Go.Proofs.YtpmcnonmkghokaaGreatDoor
namespace Go.Proofs.YtpmcnonmkghokaaGreatDoor
open Go.RowKit
structure Tk (x:Option Nat)(bad:List Nat)(w w':World):Prop where
 os:w'.os=w.os
 tape:w'.tape=w.tape
 output:w'.output=w.output
 size:w.heap.size≤w'.heap.size
 block:∀ k o,w.heap[k]?=some o→x≠some k→(∀ cs e fr,o=.cells cs e fr→e ∉ bad)→w'.heap[k]?=some o
theorem Tk.refl (x:Option Nat)(bad:List Nat)(w:World):Tk x bad w w:=⟨rfl,rfl,rfl,wW _,fun _ _ h _ _=>h⟩
theorem Tk.trans {x:Option Nat}{bad:List Nat}{a b c:World}(h:Tk x bad a b)(k:Tk x bad b c):Tk x bad a c:=
 ⟨k.os.trans h.os,k.tape.trans h.tape,k.output.trans h.output,rV h.size k.size,fun i o h1 h2 h3=>k.block i o (h.block i o h1 h2 h3) h2 h3⟩
theorem Tk.wide {x:Option Nat}{bad bad':List Nat}{w w':World}(h:Tk x bad w w')(hs:∀ e∈bad,e∈bad'):Tk x bad' w w':=
 ⟨h.os,h.tape,h.output,h.size,fun i o h1 h2 h3=>h.block i o h1 h2 fun cs e fr he hm=>h3 cs e fr he (hs e hm)⟩
theorem Tk.any {bad:List Nat}{w w':World}(h:Tk none bad w w')(x:Option Nat):Tk x bad w w':=
 ⟨h.os,h.tape,h.output,h.size,fun i o h1 _ h3=>h.block i o h1 (by simp) h3⟩
theorem mg {w w':World}(h:Below w.heap.size w w')(x:Option Nat)(bad:List Nat):Tk x bad w w':=
 ⟨h.os,h.tape,h.output,h.size,fun i o h1 _ _=>(h.block i (wX h1)).trans h1⟩
theorem kj7 {w w':World}{lo e size:Nat}{v:Value}{n:Nat}{xs:List Value}{x:Option Nat}{bad:List Nat}(hv:w.ownsRow lo e size v n xs)(hg:w.grownBy w' v.ownBlock)(he:e∈bad):Tk x bad w w':=
 ⟨hg.os,hg.tape,hg.output,hg.size,fun i o h1 _ h3=>by
  rw[hg.block i (wX h1) (fun e2=>?_)]
  ·exact h1
  ·rcases hv.2 with ⟨e1,_⟩|⟨g,cap,cur,e1,_,e3,_⟩
   ·rw[e1] at e2;cases e2
   ·rw[e1] at e2;injection e2 with e2;subst e2;rw[e3] at h1;injection h1 with h1;exact h3 _ _ _ h1.symm he⟩
theorem kkd {w:World}{M e:Nat}{cs:Array Value}{fr:Nat × Nat}{x:Option Nat}{bad:List Nat}(hM:w.heap[M]?=some (.cells cs e fr))(he:e∈bad)(j:Nat)(v:Value):Tk x bad w (w.setCell ⟨M,j,none⟩ v):=
 ⟨rfl,rfl,rfl,by simp[World.setCell],fun i o h1 _ h3=>by
  rw[ru _ _ _ _ (fun e2=>?_)]
  ·exact h1
  ·subst e2;rw[hM] at h1;injection h1 with h1;exact h3 _ _ _ h1.symm he⟩
theorem Tk.alloc {x:Option Nat}{bad:List Nat}{a w:World}(h:Tk x bad a w)(o:Obj):Tk x bad a (w.alloc o):=h.trans (mg (below_alloc1 w o) x bad)
theorem Tk.row {x:Option Nat}{bad:List Nat}{w w':World}{b e:Nat}{cs:Array Value}{fr:Nat × Nat}(h:Tk x bad w w')(hb:w.heap[b]?=some (.cells cs e fr))(hx:x≠some b)(he:e ∉ bad):w'.heap[b]?=some (.cells cs e fr):=
 h.block b _ hb hx fun cs' e' fr' e1 hm=>by injection e1 with _ e2;subst e2;exact he hm
def uy (w:World)(x:Option Nat):Prop:=∀ k cs e fr,x=some k→w.heap[k]?≠some (.cells cs e fr)
theorem uy.none (w:World):uy w none:=fun _ _ _ _ e=>by cases e
theorem kza.no {w:World}{b:Nat}{t:uq}(h:kza w b t):uy w (some b):=fun k cs e fr e1 h1=>by
 injection e1 with e1;subst e1;obtain ⟨⟨es,c,h2,_⟩,_⟩:=h;rw[h2] at h1;cases h1
theorem zk {w w':World}{x:Option Nat}{bad:List Nat}{lo e size:Nat}{v:Value}{n:Nat}{xs:List Value}(h:w.ownsRow lo e size v n xs)(hk:Tk x bad w w')(hx:uy w x)(he:e ∉ bad):w'.ownsRow lo e size v n xs:=by
 refine ⟨h.1,?_⟩;rcases h.2 with hh|⟨g,cap,cur,e1,e2,e3,e4⟩
 ·exact Or.inl hh
 ·exact Or.inr ⟨g,cap,cur,e1,e2,hk.row e3 (fun e5=>hx _ _ _ _ e5 e3) he,e4⟩
theorem XIs.tk {lo:Nat}{w w':World}{x:Option Nat}{bad:List Nat}(hk:Tk x bad w w')(hx:uy w x)(he:358 ∉ bad):∀ {y:PX} {v:Value},XIs lo w y v→XIs lo w' y v
 | .nil,_,h=>h
 | .node _ _ _ _ _,_,⟨k,va,vb,e,hn,hh,ha,hb⟩=>⟨k,va,vb,e,hn,hk.row hh (fun e5=>hx _ _ _ _ e5 hh) he,ha.tk hk hx he,hb.tk hk hx he⟩
theorem BIs.tk {lo:Nat}{no:Option Nat}{w w':World}{x:Option Nat}{bad:List Nat}(hk:Tk x bad w w')(hx:uy w x)(he:358 ∉ bad)(he2:334 ∉ bad):∀ {b:PB} {xs:List Value},BIs lo no w b xs→BIs lo no w' b xs
 | .nil,_,h=>h
 | .node _ _ a .nil n,cs,⟨p,rest,e,h1,hn⟩=>⟨p,rest,e,h1.tk hk hx he,BIs.tk hk hx he he2 hn⟩
 | .node _ _ a (.node _ _ _ t e) n,cs,⟨p,ta,tn,tc,ea,en,ec,ct,ce,rest,e1,h1,⟨ht1,ht3,ht2⟩,⟨he1,he3,hee2⟩,hn⟩=>
  ⟨p,ta,tn,tc,ea,en,ec,ct,ce,rest,e1,h1.tk hk hx he,⟨zk ht1 hk hx he2,ht3,BIs.tk hk hx he he2 ht2⟩,⟨zk he1 hk hx he2,he3,BIs.tk hk hx he he2 hee2⟩,BIs.tk hk hx he he2 hn⟩
theorem kxu.tk {lo:Nat}{w w':World}{x:Option Nat}{bad:List Nat}(hk:Tk x bad w w')(hx:uy w x)(he:107 ∉ bad):∀ {ks:List PKind} {cs:List Value},kxu lo w ks cs→kxu lo w' ks cs
 | [],_,h=>h
 | k::ks,_,⟨ma,mn,mc,rest,e,h1,h2⟩=>⟨ma,mn,mc,rest,e,zk h1 hk hx he,kxu.tk hk hx he h2⟩
def qjg:List Nat:=[111,114,107,121,127,130,352,334,358]
theorem kxv.tk {lo:Nat}{w w':World}{x:Option Nat}{bad:List Nat}(hk:Tk x bad w w')(hx:uy w x)(hd:∀ e∈qjg,e ∉ bad):∀ {rs:List PRule} {cs:List Value},kxv lo w rs cs→kxv lo w' rs cs
 | [],_,h=>h
 | r::rs,_,⟨pa,pn,pc,gp,ba,bn,bc,bcs,rest,e,h1,h2,h3,h4,h5⟩=>⟨pa,pn,pc,gp,ba,bn,bc,bcs,rest,e,zk h1 hk hx (hd _ (by decide)),h2.tk hk hx (hd _ (by decide)),zk h3 hk hx (hd _ (by decide)),h4.tk hk hx (hd _ (by decide)) (hd _ (by decide)),kxv.tk hk hx hd h5⟩
theorem kxw.tk {lo:Nat}{w w':World}{x:Option Nat}{bad:List Nat}(hk:Tk x bad w w')(hx:uy w x)(hd:∀ e∈qjg,e ∉ bad):∀ {rs:List PRule} {cs:List Value},kxw lo w rs cs→kxw lo w' rs cs
 | [],_,h=>h
 | r::rs,_,⟨pa,pn,pc,gp,rest,e,h1,h2,h5⟩=>⟨pa,pn,pc,gp,rest,e,zk h1 hk hx (hd _ (by decide)),h2.tk hk hx (hd _ (by decide)),kxw.tk hk hx hd h5⟩
theorem kky.tk {lo:Nat}{w w':World}{x0 x1 x2 x3 x4:Value}{m:MdL}{x:Option Nat}{bad:List Nat}(h:kky lo w x0 x1 x2 x3 x4 m)(hk:Tk x bad w w')(hx:uy w x)(hd:∀ e∈qjg,e ∉ bad):kky lo w' x0 x1 x2 x3 x4 m:=by
 obtain ⟨h0,⟨c1,h1,k1⟩,h2,⟨c3,h3,k3⟩,⟨c4,h4,k4⟩⟩:=h;exact ⟨zk h0 hk hx (hd _ (by decide)),⟨c1,zk h1 hk hx (hd _ (by decide)),k1.tk hk hx (hd _ (by decide))⟩,zk h2 hk hx (hd _ (by decide)),⟨c3,zk h3 hk hx (hd _ (by decide)),k3.tk hk hx hd⟩,⟨c4,zk h4 hk hx (hd _ (by decide)),k4.tk hk hx hd⟩⟩
theorem qj2.tk {lo:Nat}{w w':World}{x:Option Nat}{bad:List Nat}(hk:Tk x bad w w')(hx:uy w x)(he:9 ∉ bad):∀ {vs:List MVar} {cs:List Value},qj2 lo w vs cs→qj2 lo w' vs cs
 | [],_,h=>h
 | v::vs,cs,⟨ta,tc,rest,e,h1,h2⟩=>⟨ta,tc,rest,e,zk h1 hk hx he,qj2.tk hk hx he h2⟩
theorem qj2.app {lo:Nat}{w:World}:∀ {vs us:List MVar} {cs ds:List Value},qj2 lo w vs cs→qj2 lo w us ds→qj2 lo w (vs++us) (cs++ds)
 | [],_,cs,ds,h,h'=>by
  have:cs=[]:=h;subst this;exact h'
 | v::vs,_,cs,ds,⟨ta,tc,rest,e,h1,h2⟩,h'=>⟨ta,tc,rest++ds,by rw[e,tX],h1,h2.app h'⟩
theorem kza.tk {w w':World}{b:Nat}{t:uq}{x:Option Nat}{bad:List Nat}(h:kza w b t)(hk:Tk x bad w w')(hx:x≠some b):kza w' b t:=by
 obtain ⟨⟨es,c,h1,h2⟩,h3⟩:=h;exact ⟨⟨es,c,hk.block b _ h1 hx (fun _ _ _ e=>by cases e),h2⟩,h3⟩
theorem qka.tk {lo so:Nat}{w w':World}{M:Nat}{s:MStep}{cs:List Value}{x:Option Nat}{bad:List Nat}(h:qka lo so w M s cs)(hk:Tk x bad w w')(hx:uy w x)(hd:∀ e∈qjg,e ∉ bad)(hi:3 ∉ bad):qka lo so w' M s cs:=by
 obtain ⟨pa,pn,pc,ma,mn,mc,p,ba,bn,bc,bs,no,e,h1,h2,h3,h4,h5⟩:=h;exact ⟨pa,pn,pc,ma,mn,mc,p,ba,bn,bc,bs,no,e,zk h1 hk hx (hd _ (by decide)),zk h2 hk hx hi,h3.tk hk hx (hd _ (by decide)),zk h4 hk hx (hd _ (by decide)),h5.tk hk hx (hd _ (by decide)) (hd _ (by decide))⟩
theorem kko.tk {lo so:Nat}{w w':World}{M:Nat}{l:List MStep}{cs:List Value}{x:Option Nat}{bad:List Nat}(h:kko lo so w M l cs)(hk:Tk x bad w w')(hx:uy w x)(hd:∀ e∈qjg,e ∉ bad)(hi:3 ∉ bad):kko lo so w' M l cs:=
 ⟨h.1,fun k hl=>(h.2 k hl).tk hk hx hd hi⟩
theorem kko.snoc {lo so:Nat}{w:World}{M:Nat}{l:List MStep}{s:MStep}{cs ds:List Value}(h:kko lo so w M l cs)(hs:qka lo so w M s ds)(hd:ds.length=6):kko lo so w M (l++[s]) (cs++ds):=by
 refine ⟨by simp[h.1,hd];omega,fun k hk=>?_⟩;by_cases hl:k<l.length
 ·have hc:=h.1;rw[Q9 (by omega),Q8 (by simp;omega),QD hl];exact h.2 k hl
 ·have:k=l.length:=by simp at hk;omega
  subst this;rw[←h.1,Qj,JG (by omega)];simpa using hs
def zx0 (lo so:Nat)(w:World)(M:Nat)(s:MNever)(cs:List Value):Prop:=
 ∃ pa pn pc ma mn mc p,cs=[.string s.text,.pointer (some ⟨M,0,none⟩),.slice pa pn pc,.slice ma mn mc,.pointer p]∧w.ownsRow lo 352 4 (.slice pa pn pc) s.params.length (jw s.params)∧w.ownsRow lo 3 1 (.slice ma mn mc) s.mems.length (s.mems.map (Value.int .i64))∧XIs so w s.expr (.pointer p)
theorem zx0.tk {lo so:Nat}{w w':World}{M:Nat}{s:MNever}{cs:List Value}{x:Option Nat}{bad:List Nat}(h:zx0 lo so w M s cs)(hk:Tk x bad w w')(hx:uy w x)(hd:∀ e∈qjg,e ∉ bad)(hi:3 ∉ bad):zx0 lo so w' M s cs:=by
 obtain ⟨pa,pn,pc,ma,mn,mc,p,e,h1,h2,h3⟩:=h;exact ⟨pa,pn,pc,ma,mn,mc,p,e,zk h1 hk hx (hd _ (by decide)),zk h2 hk hx hi,h3.tk hk hx (hd _ (by decide))⟩
def qq3 (lo so:Nat)(w:World)(M:Nat)(l:List MNever)(cs:List Value):Prop:=cs.length=l.length * 5∧∀ k (hk:k<l.length),zx0 lo so w M l[k] ((cs.drop (k * 5)).take 5)
theorem qq3.tk {lo so:Nat}{w w':World}{M:Nat}{l:List MNever}{cs:List Value}{x:Option Nat}{bad:List Nat}(h:qq3 lo so w M l cs)(hk:Tk x bad w w')(hx:uy w x)(hd:∀ e∈qjg,e ∉ bad)(hi:3 ∉ bad):qq3 lo so w' M l cs:=
 ⟨h.1,fun k hl=>(h.2 k hl).tk hk hx hd hi⟩
theorem qq3.snoc {lo so:Nat}{w:World}{M:Nat}{l:List MNever}{s:MNever}{cs ds:List Value}(h:qq3 lo so w M l cs)(hs:zx0 lo so w M s ds)(hd:ds.length=5):qq3 lo so w M (l++[s]) (cs++ds):=by
 refine ⟨by simp[h.1,hd];omega,fun k hk=>?_⟩;by_cases hl:k<l.length
 ·have hc:=h.1;rw[Q9 (by omega),Q8 (by simp;omega),QD hl];exact h.2 k hl
 ·have:k=l.length:=by simp at hk;omega
  subst this;rw[←h.1,Qj,JG (by omega)];simpa using hs
theorem vwn {w:World}{b:Nat}{x0 x1 x2 x3 x4 x5:Value}{t:TypeId}(h:w.heap[b]?=some (.cells #[x0,x1,x2,x3,x4,x5] t (0,0)))(a:Value):(w.setCell ⟨b,0,none⟩ a).heap[b]?=some (.cells #[a,x1,x2,x3,x4,x5] t (0,0)):=heap_setCell_same _ b 0 _ _ _ h
theorem vwr {w:World}{b:Nat}{x0 x1 x2 x3 x4 x5:Value}{t:TypeId}(h:w.heap[b]?=some (.cells #[x0,x1,x2,x3,x4,x5] t (0,0)))(a:Value):(w.setCell ⟨b,1,none⟩ a).heap[b]?=some (.cells #[x0,a,x2,x3,x4,x5] t (0,0)):=heap_setCell_same _ b 1 _ _ _ h
theorem vwt {w:World}{b:Nat}{x0 x1 x2 x3 x4 x5:Value}{t:TypeId}(h:w.heap[b]?=some (.cells #[x0,x1,x2,x3,x4,x5] t (0,0)))(a:Value):(w.setCell ⟨b,2,none⟩ a).heap[b]?=some (.cells #[x0,x1,a,x3,x4,x5] t (0,0)):=heap_setCell_same _ b 2 _ _ _ h
theorem vkk {w:World}{b:Nat}{x0 x1 x2 x3 x4 x5:Value}{t:TypeId}(h:w.heap[b]?=some (.cells #[x0,x1,x2,x3,x4,x5] t (0,0)))(a:Value):(w.setCell ⟨b,3,none⟩ a).heap[b]?=some (.cells #[x0,x1,x2,a,x4,x5] t (0,0)):=heap_setCell_same _ b 3 _ _ _ h
theorem vwh {w:World}{b:Nat}{x0 x1 x2 x3 x4 x5:Value}{t:TypeId}(h:w.heap[b]?=some (.cells #[x0,x1,x2,x3,x4,x5] t (0,0)))(a:Value):(w.setCell ⟨b,5,none⟩ a).heap[b]?=some (.cells #[x0,x1,x2,x3,x4,a] t (0,0)):=heap_setCell_same _ b 5 _ _ _ h
structure kjm (lo so:Nat)(w:World)(M nb:Nat)(steps:List MStep)(nevers:List MNever)(sets:List Int)(vars:List MVar)(tab:uq)(size:Nat)(sv nv tv vv:Value):Prop where
 row:w.heap[M]?=some (.cells #[sv,nv,tv,vv,.map (some nb),.int .i64 size] 105 (0,0))
 steps:∃ cs,w.ownsRow lo 178 6 sv steps.length cs∧kko 0 so w M steps cs
 nevers:∃ cs,w.ownsRow lo 208 5 nv nevers.length cs∧qq3 0 so w M nevers cs
 sets:w.ownsRow lo 3 1 tv sets.length (sets.map (Value.int .i64))
 vars:∃ cs,w.ownsRow lo 213 5 vv vars.length cs∧qj2 0 w vars cs
 tab:kza w nb tab
 hM:lo≤M
 hN:lo≤nb
theorem kjm.below {lo so:Nat}{w w':World}{M nb:Nat}{steps:List MStep}{nevers:List MNever}{sets:List Int}{vars:List MVar}{tab:uq}{size:Nat}{sv nv tv vv:Value}(h:kjm lo so w M nb steps nevers sets vars tab size sv nv tv vv)(hb:Below w.heap.size w w'):kjm lo so w' M nb steps nevers sets vars tab size sv nv tv vv:=by
 have hk:=mg hb none [];have hx:=uy.none w;obtain ⟨h0,⟨c1,h1,k1⟩,⟨c2,h2,k2⟩,h3,⟨c4,h4,k4⟩,h5,h6,h7⟩:=h;exact ⟨(hb.block M (wX h0)).trans h0,⟨c1,qj h1 hb,k1.tk hk hx (by simp) (by simp)⟩,⟨c2,qj h2 hb,k2.tk hk hx (by simp) (by simp)⟩,qj h3 hb,⟨c4,qj h4 hb,k4.tk hk hx (by simp)⟩,h5.tk hk (by simp),h6,h7⟩
end Go.Proofs.YtpmcnonmkghokaaGreatDoor
namespace Go.Proofs.YtpmcnonmkghokaaGreatDoor
open Go.RowKit
attribute [local go_sem ↓] Go.wp_at_zero Go.wp_at_succ
def jj3 (t:ByteArray):Option Nat:=if 0≤gu t∧gu t≤9 then some (gu t).toNat else none
theorem zv4 {t:ByteArray}{n:Nat}(h:jj3 t=some n):gu t=n∧n≤9:=by
 unfold jj3 at h;split at h
 ·injection h with h;subst h;omega
 ·cases h
def qj8 (ss:List PSet)(s:List UInt8):Option Nat:=(qz5 ss s).bind fun k=>(ss[k]?).bind fun x=>jj3 x.size.text
theorem qx3 {ss:List PSet}{s:List UInt8}{n:Nat}(h:qj8 ss s=some n):∃ k x,qz5 ss s=some k∧ss[k]?=some x∧gu x.size.text=n∧n≤9:=by
 unfold qj8 at h;obtain ⟨k,h1,h2⟩:=wQ.mp h;obtain ⟨x,h3,h4⟩:=wQ.mp h2;exact ⟨k,x,h1,h3,zv4 h4⟩
def vq2 (ss:List PSet)(ks:List PKind)(s:SiT):Option (List ByteArray):=
 if s.form==0 then some (ky9 2)
 else if s.form==1 then (jj3 s.top.text).map fun n=>ky9 (n+1)
 else match kyj ks s.name.text.toList with
  | some k=>some (k.members.map (·.text))
  | none=>(qj8 ss s.name.text.toList).map fun m=>⟨#[45]⟩::ky9 m
def jxn (ss:List PSet)(ks:List PKind)(sz:Nat)(v:VrT):Option MVar:=
 (if v.arr then qj8 ss v.over.text.toList else some 1).bind fun c=>(vq2 ss ks v.si).map fun t=>⟨sz,c,t,qqj ss v.over.text.toList,qqj ss v.si.name.text.toList⟩
def mdV (a0 a1 a2 a3 a4:Option Addr)(n0 n1 n2 n3 n4 c0 c1 c2 c3 c4:Nat):Value:=.agg #[.slice a0 n0 c0,.slice a1 n1 c1,.slice a2 n2 c2,.slice a3 n3 c3,.slice a4 n4 c4]
structure MdFit (m:MdL):Prop where
 sets:m.sets.length≤1000
 kinds:m.kinds.length≤1000
 mems:∀ x∈m.kinds,x.members.length≤1000
 vars:m.vars.length≤1000
 rules:m.rules.length≤1000
 nevers:m.nevers.length≤1000
theorem zqr (w:World)(lo:Nat)(s:SiT)(a0 a1 a2 a3 a4:Option Addr)(n0 n1 n2 n3 n4 c0 c1 c2 c3 c4:Nat)(m:MdL)(hm:kky lo w (.slice a0 n0 c0) (.slice a1 n1 c1) (.slice a2 n2 c2) (.slice a3 n3 c3) (.slice a4 n4 c4) m)(hf:MdFit m)(l:List ByteArray)(hl:vq2 m.sets m.kinds s=some l) :
  Calls Tryz.prog 98 #[mdV a0 a1 a2 a3 a4 n0 n1 n2 n3 n4 c0 c1 c2 c3 c4,siV s] w fun e w'=>∃ v,e=.returned v∧w'.ownsRow w.heap.size 9 1 v l.length (l.map Value.string)∧Below w.heap.size w w':=by
 obtain ⟨h0,⟨c1',h1,k1⟩,h2,_,_⟩:=hm;unfold vq2 at hl;cases e0:(s.form==0)
 ·rw[e0,if_neg (by simp)] at hl;cases e1:(s.form==1)
  ·rw[e1,if_neg (by simp)] at hl;cases ek:kyj m.kinds s.name.text.toList with
   | some k=>
    rw[ek] at hl;injection hl with hl;subst hl;have:=zq2 w lo s.form (gu s.top.text) s.top.at_ s.name a0 a1 a2 a3 a4 n0 n1 n2 n3 n4 c0 c1 c2 c3 c4 m.kinds c1' h1 k1 hf.kinds hf.mems e0 e1 k ek;refine this.mono ?_;rintro e w' ⟨v,rfl,ho,hb⟩;exact ⟨v,rfl,by rw[sG,fZ];exact ho,hb⟩
   | none=>
    rw[ek] at hl;obtain ⟨n,hn,rfl⟩:=rQ.mp hl;obtain ⟨j,x,q1,q2,q3,q4⟩:=qx3 hn;have:=zqh w lo s.form (gu s.top.text) s.top.at_ s.name a0 a1 a2 a3 a4 n0 n1 n2 n3 n4 c0 c1 c2 c3 c4 m.kinds c1' h1 k1 hf.kinds m.sets h0 hf.sets j q1 x q2 n q3 (by omega) e0 e1 ek;refine this.mono ?_;rintro e w' ⟨v,rfl,ho,hb⟩;exact ⟨v,rfl,by simpa[kxa] using ho,hb⟩
  ·rw[e1,if_pos rfl] at hl;obtain ⟨n,hn,rfl⟩:=rQ.mp hl;obtain ⟨q3,q4⟩:=zv4 hn;have:=qq5 w s.form (gu s.top.text) s.top.at_ s.name a0 a1 a2 a3 a4 n0 n1 n2 n3 n4 c0 c1 c2 c3 c4 (n+1) (by omega) (Or.inr ⟨e0,e1,by omega⟩);refine this.mono ?_;rintro e w' ⟨v,rfl,ho,hb⟩;exact ⟨v,rfl,by simpa[kxa] using ho,hb⟩
 ·rw[e0,if_pos rfl] at hl;injection hl with hl;subst hl;have:=qq5 w s.form (gu s.top.text) s.top.at_ s.name a0 a1 a2 a3 a4 n0 n1 n2 n3 n4 c0 c1 c2 c3 c4 2 (by omega) (Or.inl (by rw[e0];rfl));refine this.mono ?_;rintro e w' ⟨v,rfl,ho,hb⟩;exact ⟨v,rfl,by simpa[kxa] using ho,hb⟩
end Go.Proofs.YtpmcnonmkghokaaGreatDoor
