import Derived.Test.YtpmcnonmkghokaaGreatDoorT11
set_option maxRecDepth 100000
set_option maxHeartbeats 4000000
set_option linter.unusedVariables false
set_option linter.unusedSimpArgs false
namespace Go.Proofs.YtpmcnonmkghokaaGreatDoor
open Go.RowKit
attribute [local go_sem ↓] Go.wp_at_zero Go.wp_at_succ
def kyb (i:Nat):ByteArray:=⟨#[(48+i).toUInt8]⟩
theorem zjs (i:Nat)(hi:i<10)(w:World):Calls Tryz.prog 28 #[.int .i64 i] w fun e w'=>e=.returned (.string (kyb i))∧w'=w:=by
 have h:i=0∨i=1∨i=2∨i=3∨i=4∨i=5∨i=6∨i=7∨i=8∨i=9:=by omega
 rcases h with rfl|rfl|rfl|rfl|rfl|rfl|rfl|rfl|rfl|rfl;all_goals
  go_enter Tryz.func28,Tryz.ntmps28
  go_wp2
  go_ret
  exact ⟨rfl,rfl⟩
theorem Tryz.infoStr0:(Tryz.prog.info? 9).map (fun i=>(i.zero,i.size,i.bytes))=some (some (.string ⟨#[]⟩),1,16):=by kernel_rfl
def kwt (n:Nat):List ByteArray:=(List.range n).map kyb
theorem jvf (k:Nat):kwt (k+1)=kwt k++[kyb k]:=by rw[kwt,J4,sJ];rfl
theorem kzl (k:Nat):(kwt k).length=k:=by simp[kwt]
def vk4 (w:World)(n:Nat)(x i:Value)(wr:World):Prop:=
 ∃ (k:Nat) (la:Option Addr) (ll lc:Nat),k≤n∧i=.int .i64 k∧x=.slice la ll lc∧wr.ownsRow w.heap.size 9 1 (.slice la ll lc) k ((kwt k).map Value.string)∧Below w.heap.size w wr
theorem qjy (n:Nat)(hn:n≤10)(w:World):Calls Tryz.prog 167 #[.int .i64 n] w fun e w'=>∃ v,e=.returned v∧w'.ownsRow w.heap.size 9 1 v n ((kwt n).map Value.string)∧Below w.heap.size w w':=by
 obtain ⟨i0,hi,hz0,hz1,hz2⟩:=info_parts Tryz.infoStr0;have HS:=hide (show vk4 w n (.slice none 0 0) (.int .i64 0) w from ⟨0,none,0,0,rG _,rfl,rfl,rW _ _ _ _,Below.refl _ _⟩);go_enter Tryz.func167,Tryz.ntmps167
 go_wp2_with fail
 go_loopw [3,4,6] (fun x _ i wr=>vk4 w n x i wr) (fun _ _ i _=>n-(intOf i).toNat)
 case atStart=>exact ku HS
 case round=>
  obtain ⟨k,la,ll,lc,hk,rfl,rfl,ho,hb⟩:=hrel;have HO:=hide ho;have HB:=hide hb;have hsz:=hb.size;clear ho hb;by_cases hlt:k<n
  ·have hk10:k<10:=by omega
   have HIT:=hide (zjs k hk10 wr);have HSTEP:=hide (jvf k);generalize kyb k=dk at *;go_wp2_with (first
    | (go_at_call 28;refine (ku HIT).mono ?_;rintro e w2 ⟨rfl,rfl⟩)
    | (at_builtin;refine nC _ rfl _ _ 22 rfl w.heap.size 9 i0 _ 1 16 Tryz.underlying22 hi hz0 hz1 hz2 rfl (by decide) (.slice la ll lc) _ _ rfl ((ku HO).alloc _) ⟨w2.heap.size,0,none⟩ 1 1 [.string dk] rfl rfl (kqz w2 _ [.string dk] _ rfl) (by intro y hy;simp at hy;subst hy;rfl) (by unfold maxLen;omega) (by omega) (by simp;omega) ?_))
   intro v' w' hown hgrow _ hat;obtain ⟨a3,l3,c3,rfl⟩:=zu hown;have HO':=hide (show w'.ownsRow w.heap.size 9 1 (.slice a3 l3 c3) (k+1) ((kwt (k+1)).map Value.string) by rw[ku HSTEP,sJ];exact hown);have HB':=hide (((ku HB).alloc hsz _).grown hgrow (by simp;omega) (vg (ku HO)));clear hown hgrow hat;go_wp2
   go_roundw
   case rel=>exact ⟨k+1,a3,l3,c3,by omega,by go_num,rfl,ku HO',ku HB'⟩
   case measure=>simp[intOf];omega
  ·have:k=n:=by omega
   subst this;go_wp2
   go_ret
   exact ⟨_,rfl,ku HO,ku HB⟩
def vk6 (w W:World)(l:List Tok)(x i:Value)(wr:World):Prop:=
 ∃ (k:Nat) (la:Option Addr) (ll lc:Nat),k≤l.length∧i=.int .i64 k∧x=.slice la ll lc∧wr.ownsRow W.heap.size 9 1 (.slice la ll lc) k ((l.take k).map (fun t=>Value.string t.text))∧Below W.heap.size W wr
theorem qyl (w:World)(lo:Nat)(l:List Tok)(nm:Tok)(ma:Option Addr)(mn mc:Nat)(hM:w.ownsRow lo 107 2 (.slice ma mn mc) l.length (kq2 l))(hl:l.length≤1000) :
  Calls Tryz.prog 168 #[.agg #[.string nm.text,.int .i64 nm.at_,.slice ma mn mc]] w fun e w'=>∃ v,e=.returned v∧w'.ownsRow w.heap.size 9 1 v l.length (l.map (fun t=>Value.string t.text))∧Below w.heap.size w w':=by
 obtain ⟨i0,hi,hz0,hz1,hz2⟩:=info_parts Tryz.infoStr0;obtain ⟨W,hW⟩:∃ W,W=w.alloc (.cells #[.string nm.text,.int .i64 nm.at_,.slice ma mn mc] 114):=⟨_,rfl⟩;have hbW:Below w.heap.size w W:=by rw[hW];exact below_alloc1 w _
 have hsW:w.heap.size<W.heap.size:=by rw[hW];simp
 obtain ⟨xa,cap,e1,hview⟩:=qm (qj hM hbW);injection e1 with e1 e2 e3;subst e1;subst e2;subst e3;have HW:=hide hview;have HS:=hide (show vk6 w W l (.slice none 0 0) (.int .i64 0) W from ⟨0,none,0,0,rG _,rfl,rfl,rW _ _ _ _,Below.refl _ _⟩);have HBW:=hide hbW;have HWE:=hide hW.symm;clear hview hM hbW hW;go_enter Tryz.func168,Tryz.ntmps168
 go_wp2_with fail
 rw[ku HWE];go_loopw [3,5,9] (fun x _ i wr=>vk6 w W l x i wr) (fun _ _ i _=>l.length-(intOf i).toNat)
 case atStart=>exact ku HS
 case round=>
  obtain ⟨k,la,ll,lc,hk,rfl,rfl,ho,hb⟩:=hrel;have HO:=hide ho;have HB:=hide hb;have hsz:=hb.size;by_cases hlt:k<l.length
  ·obtain ⟨g,rfl,hg1,hg2,hc⟩:=ku HW k hlt;have fl:=fun j (hj:j<2)=>kjj kq9 2 (fun _=>rfl) l k j hlt hj
   have cc:∀ j,j<l.length * 2→wr.cell? ⟨g,j,none⟩=(kq2 l)[j]?:=fun j hj=>(hb.cell (p:=⟨g,j,none⟩) hg2).trans (hc j hj)
   have e0:=(cc (k * 2+0) (by omega)).trans (fl 0 (by omega));have e1:=(cc (k * 2+1) (by omega)).trans (fl 1 (by omega));simp only[kq9,sZ,sV,nP] at e0 e1;have HSTEP:=hide (show (l.take (k+1)).map (fun t=>Value.string t.text)=(l.take k).map (fun t=>Value.string t.text)++[.string l[k].text] by rw[nD hlt,sJ];rfl);generalize l[k]=t at *;clear cc fl hc ho hb;go_wp2_with (at_builtin;refine nC _ rfl _ _ 22 rfl W.heap.size 9 i0 _ 1 16 Tryz.underlying22 hi hz0 hz1 hz2 rfl (by decide) (.slice la ll lc) _ _ rfl (((ku HO).alloc _).alloc _) ⟨wr.heap.size+1,0,none⟩ 1 1 [.string t.text] rfl rfl (kqz (wr.alloc _) _ [.string t.text] _ (by simp)) (by intro y hy;simp at hy;subst hy;rfl) (by unfold maxLen;omega) (by omega) (by simp;omega) ?_)
   intro v' w' hown hgrow _ hat;obtain ⟨a3,l3,c3,rfl⟩:=zu hown;have HO':=hide (show w'.ownsRow W.heap.size 9 1 (.slice a3 l3 c3) (k+1) ((l.take (k+1)).map (fun t=>Value.string t.text)) by rw[ku HSTEP,J9];exact hown);have HB':=hide ((((ku HB).alloc hsz _).alloc (by simp;omega) _).grown hgrow (by simp;omega) (vg (ku HO)));clear hown hgrow hat;go_wp2
   go_roundw
   case rel=>exact ⟨k+1,a3,l3,c3,by omega,by go_num,rfl,ku HO',ku HB'⟩
   case measure=>simp[intOf];omega
  ·have:k=l.length:=by omega
   subst this;rw[Qq] at ho;have HO':=hide (zx (Qg hsW) ho);have HB':=hide ((ku HBW).trans (hb.mono (Qg hsW)));clear ho hb HO;go_wp2
   go_ret
   exact ⟨_,rfl,ku HO',ku HB'⟩
def kyg:List PSet→List UInt8→Option Nat
 | [],_=>none
 | x::l,s=>if x.name.text.toList==s then some 0 else (kyg l s).map (·+1)
def kzr (l:List PSet)(s:List UInt8):Int:=match kyg l s with|some k=>k|none=>-1
theorem qvn:∀ (l:List PSet) (k:Nat) (s:List UInt8),(∀ i (hi:i<l.length),i<k→(l[i].name.text.toList==s)=false)→k≤l.length→kyg l s=(kyg (l.drop k) s).map (·+k)
 | [],k,s,_,hk=>by simp at hk;subst hk;simp[kyg]
 | x::l,0,s,_,_=>by simp
 | x::l,k+1,s,h,hk=>by
  have h0:=h 0 (by simp) (by omega);simp only[fG] at h0;have:=qvn l k s (fun i hi hk=>by have:=h (i+1) (by simpa using hi) (by omega);simpa using this) (by simpa using hk);rw[kyg,h0,Jy,if_neg (by simp),this,Option.map_map];rfl
theorem zvr (w:World)(lo cb:Nat)(l:List PSet)(n:Tok)(xa:Option Addr)(xn xc:Nat)(ho:w.ownsRow lo 111 4 (.slice xa xn xc) l.length (zqy l))(hc:w.heap[cb]?=some (.cells #[.string n.text,.int .i64 n.at_] 107 (0,0)))(hl:l.length≤1000) :
  Calls Tryz.prog 169 #[.slice xa xn xc,.func (.func 170) #[] #[.pointer (some ⟨cb,0,none⟩)]] w fun e w'=>e=.returned (.int .i64 (kzr l n.text.toList))∧Below w.heap.size w w':=by
 obtain ⟨ya,yc,e1,hview⟩:=qm ho;injection e1 with e1 e2 e3;subst e1;subst e2;subst e3;have HW:=hide hview;have HC:=hide hc;have hcl:=wZ hc;clear hview ho hc;go_enter Tryz.func169,Tryz.ntmps169
 go_wp2_with fail
 go_loopw [5,8] (fun _ i wr=>∃ k:Nat,k≤l.length∧i=.int .i64 k∧(∀ i (hi:i<l.length),i<k→(l[i].name.text.toList==n.text.toList)=false)∧Below w.heap.size w wr) (fun _ i _=>l.length-(intOf i).toNat)
 case atStart=>exact ⟨0,rG _,rfl,fun i _ h=>by omega,Below.refl _ _⟩
 case round=>
  obtain ⟨k,hk,rfl,hno,hb⟩:=hrel;have HNO:=hide hno;have HB:=hide hb;have hsz:=hb.size;obtain ⟨m0,m1,_,_⟩:=yh ((hb.block cb hcl).trans (ku HC));have hcr:cb<wr.heap.size:=by omega
  clear hno;by_cases hlt:k<l.length
  ·obtain ⟨g,rfl,hg1,hg2,hc⟩:=ku HW k hlt;have fl:=fun j (hj:j<4)=>kjj qqn 4 (fun _=>rfl) l k j hlt hj
   have cc:∀ j,j<l.length * 4→wr.cell? ⟨g,j,none⟩=(zqy l)[j]?:=fun j hj=>(hb.cell (p:=⟨g,j,none⟩) hg2).trans (hc j hj)
   have e0:=(cc (k * 4+0) (by omega)).trans (fl 0 (by omega));have e1:=(cc (k * 4+1) (by omega)).trans (fl 1 (by omega));have e2:=(cc (k * 4+2) (by omega)).trans (fl 2 (by omega));have e3:=(cc (k * 4+3) (by omega)).trans (fl 3 (by omega));simp only[qqn,sZ,sV,nP] at e0 e1 e2 e3;have hsk:=qvn l k n.text.toList (ku HNO) hk;rw[rM hlt,kyg] at hsk;have HSK:=hide hsk;have HST:=hide (fun (hq:(l[k].name.text.toList==n.text.toList)=false)=>(show ∀ i (hi:i<l.length),i<k+1→(l[i].name.text.toList==n.text.toList)=false from fun i hi h=>by
    by_cases e:i=k
    ·subst e;exact hq
    ·exact (ku HNO) i hi (by omega)))
   generalize l[k]=p at *;clear cc fl hc hsk hb;cases hq:(p.name.text.toList==n.text.toList)
   ·have HS2:=hide ((ku HST) hq);clear HSK;go_wp2
    go_roundw
    case rel=>exact ⟨k+1,by omega,by go_num,ku HS2,(ku HB).alloc hsz _⟩
    case measure=>simp[intOf];omega
   ·have HE:=hide (show kzr l n.text.toList=k by rw[kzr,ku HSK,hq];simp);clear HSK HST;go_wp2
    go_ret
    exact ⟨kvv (ku HE).symm,(ku HB).alloc hsz _⟩
  ·have hsk:=qvn l l.length n.text.toList (fun i hi _=>(ku HNO) i hi (by omega)) (wX _);rw[nV,kyg] at hsk;have HE:=hide (show kzr l n.text.toList=-1 by rw[kzr,hsk];rfl);clear hsk hb;go_wp2
   go_ret
   exact ⟨kvv (ku HE).symm,ku HB⟩
theorem kyy (w:World)(lo:Nat)(l:List PSet)(n:Tok)(a0 a1 a2 a3 a4:Option Addr)(n0 n1 n2 n3 n4 c0 c1 c2 c3 c4:Nat)(ho:w.ownsRow lo 111 4 (.slice a0 n0 c0) l.length (zqy l))(hl:l.length≤1000) :
  Calls Tryz.prog 99 #[.agg #[.slice a0 n0 c0,.slice a1 n1 c1,.slice a2 n2 c2,.slice a3 n3 c3,.slice a4 n4 c4],ptV n] w fun e w'=>e=.returned (.int .i64 (kzr l n.text.toList))∧Below w.heap.size w w':=by
 obtain ⟨W,hW⟩:∃ W,W=(w.alloc (.cells #[.slice a0 n0 c0,.slice a1 n1 c1,.slice a2 n2 c2,.slice a3 n3 c3,.slice a4 n4 c4] 68)).alloc (.cells #[.string n.text,.int .i64 n.at_] 107):=⟨_,rfl⟩;have hbW:Below w.heap.size w W:=by rw[hW];exact (below_alloc1 w _).trans ((below_alloc1 _ _).mono (by simp))
 have hN:W.heap[w.heap.size+1]?=some (.cells #[.string n.text,.int .i64 n.at_] 107 (0,0)):=by
  rw[hW];have:=qg (w.alloc (.cells #[.slice a0 n0 c0,.slice a1 n1 c1,.slice a2 n2 c2,.slice a3 n3 c3,.slice a4 n4 c4] 68)) (.cells #[.string n.text,.int .i64 n.at_] 107);simp only[tZ] at this;exact this
 have HI:=hide (zvr W lo (w.heap.size+1) l n a0 n0 c0 (qj ho hbW) hN hl);have hsW:w.heap.size≤W.heap.size:=hbW.size;have HBW:=hide hbW;have HWE:=hide hW.symm;clear ho hN hbW hW;generalize kzr l n.text.toList=y at *;unfold ptV;go_enter Tryz.func99,Tryz.ntmps99
 go_wp2_with fail
 rw[ku HWE];refine (ku HI).mono ?_;rintro e w1 ⟨rfl,hb1⟩;have HB1:=hide ((ku HBW).trans (hb1.mono hsW));clear hb1 HI;go_wp2
 go_ret
 exact ⟨rfl,ku HB1⟩
theorem qjs (w:World)(lo:Nat)(l:List PSet)(n:Tok)(a0 a1 a2 a3 a4:Option Addr)(n0 n1 n2 n3 n4 c0 c1 c2 c3 c4:Nat)(ho:w.ownsRow lo 111 4 (.slice a0 n0 c0) l.length (zqy l))(hl:l.length≤1000)(k:Nat)(hk:kyg l n.text.toList=some k)(s:PSet)(hs:l[k]?=some s) :
  Calls Tryz.prog 97 #[.agg #[.slice a0 n0 c0,.slice a1 n1 c1,.slice a2 n2 c2,.slice a3 n3 c3,.slice a4 n4 c4],ptV n] w fun e w'=>e=.returned (.int .i64 (yx s.size.text))∧Below w.heap.size w w':=by
 obtain ⟨hkl,hke⟩:=nK.mp hs;obtain ⟨W,hW⟩:∃ W,W=(w.alloc (.cells #[.slice a0 n0 c0,.slice a1 n1 c1,.slice a2 n2 c2,.slice a3 n3 c3,.slice a4 n4 c4] 68)).alloc (.cells #[.string n.text,.int .i64 n.at_] 107):=⟨_,rfl⟩;have hbW:Below w.heap.size w W:=by rw[hW];exact (below_alloc1 w _).trans ((below_alloc1 _ _).mono (by simp))
 have hsW:w.heap.size+1<W.heap.size:=by rw[hW];simp
 have hD:W.heap[w.heap.size]?=some (.cells #[.slice a0 n0 c0,.slice a1 n1 c1,.slice a2 n2 c2,.slice a3 n3 c3,.slice a4 n4 c4] 68 (0,0)):=by rw[hW];exact ql (qg _ _)
 have hN:W.heap[w.heap.size+1]?=some (.cells #[.string n.text,.int .i64 n.at_] 107 (0,0)):=by
  rw[hW];have:=qg (w.alloc (.cells #[.slice a0 n0 c0,.slice a1 n1 c1,.slice a2 n2 c2,.slice a3 n3 c3,.slice a4 n4 c4] 68)) (.cells #[.string n.text,.int .i64 n.at_] 107);simp only[tZ] at this;exact this
 have HSN:=hide (kyy W.drew lo l n a0 a1 a2 a3 a4 n0 n1 n2 n3 n4 c0 c1 c2 c3 c4 (qj ho hbW.drew) hl);rw[show kzr l n.text.toList=(k:Int) by rw[kzr,hk]] at HSN;obtain ⟨ya,yc,e1,hview⟩:=qm (qj ho hbW);injection e1 with e1 e2 e3;subst e1;subst e2;subst e3;obtain ⟨g,rfl,hg1,hg2,hc⟩:=hview k hkl;have d0:=(hc (k * 4+2) (by omega)).trans (kjj qqn 4 (fun _=>rfl) l k 2 hkl (by omega));simp only[qqn,sZ,sV] at d0;rw[hke] at d0;obtain ⟨q0,q1,q2,q3,q4,_⟩:=jq hD;obtain ⟨m0,m1,_,_⟩:=yh hN;have HD:=hide hD;have HN:=hide hN;have HBW:=hide hbW;have HWE:=hide hW.symm;have hgW:g<W.heap.size:=hg2;clear hview hc ho hD hN hbW hW hs hke hk;unfold ptV at *;go_enter Tryz.func97,Tryz.ntmps97
 go_upto_region 1 with fail
 rw[ku HWE];go_region_held3 (fun w'=>w'.cell? ⟨w.heap.size,0,none⟩=some (.slice (some ⟨g,0,none⟩) l.length c0)∧w'.cell? ⟨w.heap.size,1,none⟩=some (.slice a1 n1 c1)∧w'.cell? ⟨w.heap.size,2,none⟩=some (.slice a2 n2 c2)∧w'.cell? ⟨w.heap.size,3,none⟩=some (.slice a3 n3 c3)∧w'.cell? ⟨w.heap.size,4,none⟩=some (.slice a4 n4 c4)∧w'.cell? ⟨w.heap.size+1,0,none⟩=some (.string n.text)∧w'.cell? ⟨w.heap.size+1,1,none⟩=some (.int .i64 n.at_)∧w'.cell? ⟨g,k * 4+2,none⟩=some (.int .i64 (yx s.size.text)))
  (first|exact ⟨q0,q1,q2,q3,q4,m0,m1,d0⟩|exact ⟨u0,u1,u2,u3,u4,v0,v1,z0⟩)
  ((go_at_call 99;refine (ku HSN).mono ?_;rintro e w1 ⟨rfl,hb1⟩;obtain ⟨u0,u1,u2,u3,u4,_⟩:=jq ((hb1.block w.heap.size (by show w.heap.size<W.heap.size;omega)).trans (ku HD));obtain ⟨v0,v1,_⟩:=yh ((hb1.block (w.heap.size+1) (by show w.heap.size+1<W.heap.size;omega)).trans (ku HN));have z0:=(hb1.cell (p:=⟨g,k * 4+2,none⟩) (by show g<W.heap.size;omega)).trans d0;have HB1:=hide ((ku HBW).drew.trans (hb1.mono (by show w.heap.size≤W.heap.size;omega)));clear hb1;dsimp only))
 go_wp2
 go_ret
 exact ⟨rfl,ku HB1⟩
theorem kyn (w:World)(f t:Int)(ta:Nat)(n:Tok)(a0 a1 a2 a3 a4:Option Addr)(n0 n1 n2 n3 n4 c0 c1 c2 c3 c4:Nat)(k:Nat)(hk:k≤10)(hf:(f==0&&k==2)=true∨(f==0)=false∧(f==1)=true∧t+1=k) :
  Calls Tryz.prog 98 #[.agg #[.slice a0 n0 c0,.slice a1 n1 c1,.slice a2 n2 c2,.slice a3 n3 c3,.slice a4 n4 c4],.agg #[.int .i64 f,.int .i64 t,.int .i64 ta,.string n.text,.int .i64 n.at_]] w fun e w'=>∃ v,e=.returned v∧w'.ownsRow w.heap.size 9 1 v k ((kwt k).map Value.string)∧Below w.heap.size w w':=by
 obtain ⟨W,hW⟩:∃ W,W=(w.alloc (.cells #[.slice a0 n0 c0,.slice a1 n1 c1,.slice a2 n2 c2,.slice a3 n3 c3,.slice a4 n4 c4] 68)).alloc (.cells #[.int .i64 f,.int .i64 t,.int .i64 ta,.string n.text,.int .i64 n.at_] 119):=⟨_,rfl⟩;have hbW:Below w.heap.size w W:=by rw[hW];exact (below_alloc1 w _).trans ((below_alloc1 _ _).mono (by simp))
 have HN:=hide (qjy k hk W);have HBW:=hide hbW;have hsW:=hbW.size;have HWE:=hide hW.symm;clear hbW hW;rcases hf with hf|⟨h0,h1,ht⟩
 ·rw[wG] at hf;obtain ⟨h0,h2⟩:=hf;have h2':k=2:=by simpa using h2
  subst h2';clear h2;go_enter Tryz.func98,Tryz.ntmps98
  go_wp2_with fail
  rw[ku HWE];refine (ku HN).mono ?_;rintro e w1 ⟨v,rfl,ho,hb⟩;have HO:=hide (zx hsW ho);have HB:=hide ((ku HBW).trans (hb.mono hsW));clear ho hb;go_wp2
  go_ret
  exact ⟨_,rfl,ku HO,ku HB⟩
 ·have ht':t=(k:Int)-1:=by omega
  subst ht';go_enter Tryz.func98,Tryz.ntmps98
  go_wp2_with fail
  rw[ku HWE];refine (ku HN).mono ?_;rintro e w1 ⟨v,rfl,ho,hb⟩;have HO:=hide (zx hsW ho);have HB:=hide ((ku HBW).trans (hb.mono hsW));clear ho hb;go_wp2
  go_ret
  exact ⟨_,rfl,ku HO,ku HB⟩
def kwv:List PKind→List UInt8→Option PKind
 | [],_=>none
 | x::l,s=>if x.name.text.toList==s then some x else kwv l s
theorem qx5:∀ (l:List PKind) (k:Nat) (s:List UInt8),(∀ i (hi:i<l.length),i<k→(l[i].name.text.toList==s)=false)→kwv l s=kwv (l.drop k) s
 | [],k,s,_=>by simp
 | x::l,0,s,_=>rfl
 | x::l,k+1,s,h=>by
  have h0:=h 0 (by simp) (by omega);simp only[fG] at h0;rw[kwv,h0,Jy];exact qx5 l k s (fun i hi hk=>by have:=h (i+1) (by simpa using hi) (by omega);simpa using this)
theorem qym (w:World)(lo:Nat)(f t:Int)(ta:Nat)(n:Tok)(a0 a1 a2 a3 a4:Option Addr)(n0 n1 n2 n3 n4 c0 c1 c2 c3 c4:Nat)(ks:List PKind)(cs:List Value)(ho:w.ownsRow lo 114 3 (.slice a1 n1 c1) ks.length cs)(hki:kx1 lo w ks cs)(hl:ks.length≤1000)(hml:∀ x∈ks,x.members.length≤1000)(h0:(f==0)=false)(h1:(f==1)=false)(kd:PKind)(hkd:kwv ks n.text.toList=some kd) :
  Calls Tryz.prog 98 #[.agg #[.slice a0 n0 c0,.slice a1 n1 c1,.slice a2 n2 c2,.slice a3 n3 c3,.slice a4 n4 c4],.agg #[.int .i64 f,.int .i64 t,.int .i64 ta,.string n.text,.int .i64 n.at_]] w fun e w'=>∃ v,e=.returned v∧w'.ownsRow w.heap.size 9 1 v kd.members.length (kd.members.map (fun t=>Value.string t.text))∧Below w.heap.size w w':=by
 obtain ⟨W,hW⟩:∃ W,W=(w.alloc (.cells #[.slice a0 n0 c0,.slice a1 n1 c1,.slice a2 n2 c2,.slice a3 n3 c3,.slice a4 n4 c4] 68)).alloc (.cells #[.int .i64 f,.int .i64 t,.int .i64 ta,.string n.text,.int .i64 n.at_] 119):=⟨_,rfl⟩;have hbW:Below w.heap.size w W:=by rw[hW];exact (below_alloc1 w _).trans ((below_alloc1 _ _).mono (by simp))
 have hsW:w.heap.size+1<W.heap.size:=by rw[hW];simp
 have hS:W.heap[w.heap.size+1]?=some (.cells #[.int .i64 f,.int .i64 t,.int .i64 ta,.string n.text,.int .i64 n.at_] 119 (0,0)):=by
  rw[hW];have:=qg (w.alloc (.cells #[.slice a0 n0 c0,.slice a1 n1 c1,.slice a2 n2 c2,.slice a3 n3 c3,.slice a4 n4 c4] 68)) (.cells #[.int .i64 f,.int .i64 t,.int .i64 ta,.string n.text,.int .i64 n.at_] 119);simp only[tZ] at this;exact this
 obtain ⟨ya,yc,e1,hview⟩:=qm (qj ho hbW);injection e1 with e1 e2 e3;subst e1;subst e2;subst e3;have HW:=hide hview;have HKI:=hide (show kx1 lo W ks cs from hki.stay fun k _ hk=>hbW.block k hk);have HS:=hide hS;have HBW:=hide hbW;have HWE:=hide hW.symm;have HKD:=hide hkd;have HML:=hide hml;clear hview ho hki hS hbW hW hkd hml;go_enter Tryz.func98,Tryz.ntmps98
 go_wp2_with fail
 rw[ku HWE];go_loopw [6,22] (fun _ i wr=>∃ k:Nat,k≤ks.length∧i=.int .i64 k∧(∀ i (hi:i<ks.length),i<k→(ks[i].name.text.toList==n.text.toList)=false)∧Below W.heap.size W wr) (fun _ i _=>ks.length-(intOf i).toNat)
 case atStart=>exact ⟨0,rG _,rfl,fun i _ h=>by omega,Below.refl _ _⟩
 case round=>
  obtain ⟨k,hk,rfl,hno,hb⟩:=hrel;have HNO:=hide hno;have HB:=hide hb;have hsz:=hb.size;obtain ⟨m0,m1,m2,m3,m4,_⟩:=jq ((hb.block (w.heap.size+1) hsW).trans (ku HS));have hcr:w.heap.size+1<wr.heap.size:=by omega
  clear hno;have hlt:k<ks.length:=by
   apply rD;intro hge;have:=(qx5 ks ks.length n.text.toList (fun i hi _=>(ku HNO) i hi (by omega))).symm.trans (ku HKD);rw[nV,kwv] at this;cases this
  obtain ⟨g,rfl,hg1,hg2,hc⟩:=ku HW k hlt;obtain ⟨ma,mn,mc,s0,s1,s2,hmem⟩:=zjn k hlt (ku HKI);have cc:∀ j,j<ks.length * 3→wr.cell? ⟨g,j,none⟩=cs[j]?:=fun j hj=>(hb.cell (p:=⟨g,j,none⟩) hg2).trans (hc j hj)
  have e0:=(cc (k * 3) (by omega)).trans s0;have e1:=(cc (k * 3+1) (by omega)).trans s1;have e2:=(cc (k * 3+2) (by omega)).trans s2;have hsk:=(qx5 ks k n.text.toList (ku HNO)).symm.trans (ku HKD);rw[rM hlt,kwv] at hsk;have HST:=hide (fun (hq:(ks[k].name.text.toList==n.text.toList)=false)=>(show ∀ i (hi:i<ks.length),i<k+1→(ks[i].name.text.toList==n.text.toList)=false from fun i hi h=>by
   by_cases e:i=k
   ·subst e;exact hq
   ·exact (ku HNO) i hi (by omega)))
  have HMT:=hide (qyl (wr.alloc (.cells #[.string ks[k].name.text,.int .i64 ks[k].name.at_,.slice ma mn mc] 114)) lo ks[k].members ks[k].name ma mn mc (qj hmem (hb.alloc hsz _)) ((ku HML) _ (wY _)));generalize ks[k]=p at *;clear cc hc hb hmem s0 s1 s2;cases hq:(p.name.text.toList==n.text.toList)
  ·have HS2:=hide ((ku HST) hq);clear hsk HMT;go_wp2
   go_roundw
   case rel=>exact ⟨k+1,by omega,by go_num,ku HS2,(ku HB).alloc hsz _⟩
   case measure=>simp[intOf];omega
  ·rw[hq,if_pos rfl] at hsk;injection hsk with hsk;subst hsk;go_wp2_with fail
   refine (ku HMT).mono ?_;rintro e w2 ⟨v,rfl,ho2,hb2⟩;have HO2:=hide (zx (by simp;omega) ho2:w2.ownsRow w.heap.size 9 1 v _ _);have HB2:=hide ((ku HBW).trans ((((ku HB).alloc hsz _).mono (by omega)).trans (hb2.mono (by simp;omega))));clear ho2 hb2 HMT;go_wp2
   go_ret
   exact ⟨_,rfl,ku HO2,ku HB2⟩
theorem zq8 (w:World)(lo:Nat)(f t:Int)(ta:Nat)(n:Tok)(a0 a1 a2 a3 a4:Option Addr)(n0 n1 n2 n3 n4 c0 c1 c2 c3 c4:Nat)(ks:List PKind)(cs:List Value)(ho:w.ownsRow lo 114 3 (.slice a1 n1 c1) ks.length cs)(hki:kx1 lo w ks cs)(hl:ks.length≤1000)(ss:List PSet)(hss:w.ownsRow lo 111 4 (.slice a0 n0 c0) ss.length (zqy ss))(hsl:ss.length≤1000)(j:Nat)(hj:kyg ss n.text.toList=some j)(sx:PSet)(hsx:ss[j]?=some sx)(m:Nat)(hm:yx sx.size.text=m)(hm10:m≤10)(h0:(f==0)=false)(h1:(f==1)=false)(hkd:kwv ks n.text.toList=none) :
  Calls Tryz.prog 98 #[.agg #[.slice a0 n0 c0,.slice a1 n1 c1,.slice a2 n2 c2,.slice a3 n3 c3,.slice a4 n4 c4],.agg #[.int .i64 f,.int .i64 t,.int .i64 ta,.string n.text,.int .i64 n.at_]] w fun e w'=>∃ v,e=.returned v∧w'.ownsRow w.heap.size 9 1 v (m+1) (Value.string ⟨#[45]⟩::(kwt m).map Value.string)∧Below w.heap.size w w':=by
 obtain ⟨W,hW⟩:∃ W,W=(w.alloc (.cells #[.slice a0 n0 c0,.slice a1 n1 c1,.slice a2 n2 c2,.slice a3 n3 c3,.slice a4 n4 c4] 68)).alloc (.cells #[.int .i64 f,.int .i64 t,.int .i64 ta,.string n.text,.int .i64 n.at_] 119):=⟨_,rfl⟩;have hbW:Below w.heap.size w W:=by rw[hW];exact (below_alloc1 w _).trans ((below_alloc1 _ _).mono (by simp))
 have hsW:w.heap.size+1<W.heap.size:=by rw[hW];simp
 have hS:W.heap[w.heap.size+1]?=some (.cells #[.int .i64 f,.int .i64 t,.int .i64 ta,.string n.text,.int .i64 n.at_] 119 (0,0)):=by
  rw[hW];have:=qg (w.alloc (.cells #[.slice a0 n0 c0,.slice a1 n1 c1,.slice a2 n2 c2,.slice a3 n3 c3,.slice a4 n4 c4] 68)) (.cells #[.int .i64 f,.int .i64 t,.int .i64 ta,.string n.text,.int .i64 n.at_] 119);simp only[tZ] at this;exact this
 obtain ⟨ya,yc,e1,hview⟩:=qm (qj ho hbW);injection e1 with e1 e2 e3;subst e1;subst e2;subst e3;have HW:=hide hview;have HKI:=hide (show kx1 lo W ks cs from hki.stay fun k _ hk=>hbW.block k hk);have HS:=hide hS;have HBW:=hide hbW;have HWE:=hide hW.symm;have HKD:=hide hkd;have hD:W.heap[w.heap.size]?=some (.cells #[.slice a0 n0 c0,.slice a1 ks.length c1,.slice a2 n2 c2,.slice a3 n3 c3,.slice a4 n4 c4] 68 (0,0)):=by rw[hW];exact ql (qg _ _)
 have HD:=hide hD;have HSZ:=hide (fun (wx:World) (hb:Below w.heap.size w wx)=>qjs wx lo ss n a0 a1 a2 a3 a4 n0 ks.length n2 n3 n4 c0 c1 c2 c3 c4 (qj hss hb) hsl j hj sx hsx);rw[hm] at HSZ;obtain ⟨i0,hi,hz0,hz1,hz2⟩:=info_parts Tryz.infoStr0;clear hview ho hki hS hbW hW hkd hD hss hsx hj;go_enter Tryz.func98,Tryz.ntmps98
 go_wp2_with fail
 rw[ku HWE];go_loopw [6,22] (fun _ i wr=>∃ k:Nat,k≤ks.length∧i=.int .i64 k∧(∀ i (hi:i<ks.length),i<k→(ks[i].name.text.toList==n.text.toList)=false)∧Below W.heap.size W wr) (fun _ i _=>ks.length-(intOf i).toNat)
 case atStart=>exact ⟨0,rG _,rfl,fun i _ h=>by omega,Below.refl _ _⟩
 case round=>
  obtain ⟨k,hk,rfl,hno,hb⟩:=hrel;have HNO:=hide hno;have HB:=hide hb;have hsz:=hb.size;obtain ⟨m0,m1,m2,m3,m4,_⟩:=jq ((hb.block (w.heap.size+1) hsW).trans (ku HS));have hcr:w.heap.size+1<wr.heap.size:=by omega
  clear hno;by_cases hlt:k<ks.length
  ·obtain ⟨g,rfl,hg1,hg2,hc⟩:=ku HW k hlt;obtain ⟨ma,mn,mc,s0,s1,s2,hmem⟩:=zjn k hlt (ku HKI);have cc:∀ j,j<ks.length * 3→wr.cell? ⟨g,j,none⟩=cs[j]?:=fun j hj=>(hb.cell (p:=⟨g,j,none⟩) hg2).trans (hc j hj)
   have e0:=(cc (k * 3) (by omega)).trans s0;have e1:=(cc (k * 3+1) (by omega)).trans s1;have e2:=(cc (k * 3+2) (by omega)).trans s2;have hsk:=(qx5 ks k n.text.toList (ku HNO)).symm.trans (ku HKD);rw[rM hlt,kwv] at hsk;have HST:=hide (fun (hq:(ks[k].name.text.toList==n.text.toList)=false)=>(show ∀ i (hi:i<ks.length),i<k+1→(ks[i].name.text.toList==n.text.toList)=false from fun i hi h=>by
    by_cases e:i=k
    ·subst e;exact hq
    ·exact (ku HNO) i hi (by omega)))
   have hqk:(ks[k].name.text.toList==n.text.toList)=false:=by
    cases hq:(ks[k].name.text.toList==n.text.toList)
    ·rfl
    ·rw[hq,if_pos rfl] at hsk;cases hsk
   have HS2:=hide ((ku HST) hqk);generalize ks[k]=p at *;clear cc hc hb hmem s0 s1 s2 hsk HST;go_wp2
   go_roundw
   case rel=>exact ⟨k+1,by omega,by go_num,ku HS2,(ku HB).alloc hsz _⟩
   case measure=>simp[intOf];omega
  ·obtain ⟨q0,q1,q2,q3,q4,_⟩:=jq ((hb.block w.heap.size (by omega)).trans (ku HD));have hwr:w.heap.size<wr.heap.size:=by omega
   have hbw:Below w.heap.size w wr:=(ku HBW).trans (hb.mono (by omega));have HSZ1:=hide ((ku HSZ) (wr.alloc (.cells #[.string ⟨#[45]⟩] 9)) (hbw.alloc (by omega) _));have HBw:=hide hbw;unfold ptV at HSZ1;clear hb hbw;go_wp2_with fail
   refine (ku HSZ1).mono ?_;rintro e w2 ⟨rfl,hb2⟩;have hs2:=hb2.size;have HDASH:=hide (qj (show (wr.alloc (.cells #[.string ⟨#[45]⟩] 9)).ownsRow w.heap.size 9 1 (.slice (some ⟨wr.heap.size,0,none⟩) 1 1) 1 [.string ⟨#[45]⟩] from ⟨rfl,Or.inr ⟨wr.heap.size,1,_,rfl,by omega,qg _ _,wX _,by unfold maxLen;omega,rfl,rfl⟩⟩) hb2);have HB2:=hide (((ku HBw).alloc (by omega) _).trans (hb2.mono (by simp;omega)));have HNT:=hide (qjy m hm10 w2);simp at hs2;clear hb2 HSZ1;go_wp2_with fail
   refine (ku HNT).mono ?_;rintro e w3 ⟨v3,rfl,ho3,hb3⟩;have hs3:=hb3.size;obtain ⟨a5,l5,c5,rfl⟩:=zu ho3;have HD3:=hide (qj (ku HDASH) hb3);have HB3:=hide ((ku HB2).trans (hb3.mono (by omega)));have HO3:=hide ho3;clear ho3 hb3 HNT HDASH;go_wp2_with (at_builtin;refine kz6 rfl _ _ 22 rfl w.heap.size 9 i0 _ 1 16 Tryz.underlying22 hi hz0 hz1 hz2 rfl (by decide) (.slice (some ⟨wr.heap.size,0,none⟩) 1 1) 1 _ rfl (ku HD3) (.slice a5 l5 c5) m _ _ rfl (ku HO3) (by intro y hy;obtain ⟨x,_,rfl⟩:=su.mp hy;rfl) (by unfold maxLen;omega) (by omega) (by omega) ?_)
   intro v4 w4 hown4 hgrow4 hat4;obtain ⟨a6,l6,c6,rfl⟩:=zu hown4;have HO4:=hide (show w4.ownsRow w.heap.size 9 1 (.slice a6 l6 c6) (m+1) (Value.string ⟨#[45]⟩::(kwt m).map Value.string) by rw[Zk m 1];exact hown4);have HB4:=hide ((ku HB3).grown hgrow4 (by omega) (vg (ku HD3)));clear hown4 hgrow4 hat4;go_wp2
   go_ret
   exact ⟨_,rfl,ku HO4,ku HB4⟩
end Go.Proofs.YtpmcnonmkghokaaGreatDoor
namespace Go.Proofs.YtpmcnonmkghokaaGreatDoor
open Go.RowKit
structure Tk (x:Option Nat)(bad:List Nat)(w w':World):Prop where
 os:w'.os=w.os
 tape:w'.tape=w.tape
 output:w'.output=w.output
 size:w.heap.size≤w'.heap.size
 block:∀ k o,w.heap[k]?=some o→x≠some k→(∀ cs e fr,o=.cells cs e fr→e ∉ bad)→w'.heap[k]?=some o
theorem Tk.refl (x:Option Nat)(bad:List Nat)(w:World):Tk x bad w w:=⟨rfl,rfl,rfl,wX _,fun _ _ h _ _=>h⟩
theorem Tk.trans {x:Option Nat}{bad:List Nat}{a b c:World}(h:Tk x bad a b)(k:Tk x bad b c):Tk x bad a c:=
 ⟨k.os.trans h.os,k.tape.trans h.tape,k.output.trans h.output,rQ h.size k.size,fun i o h1 h2 h3=>k.block i o (h.block i o h1 h2 h3) h2 h3⟩
theorem Tk.wide {x:Option Nat}{bad bad':List Nat}{w w':World}(h:Tk x bad w w')(hs:∀ e∈bad,e∈bad'):Tk x bad' w w':=
 ⟨h.os,h.tape,h.output,h.size,fun i o h1 h2 h3=>h.block i o h1 h2 fun cs e fr he hm=>h3 cs e fr he (hs e hm)⟩
theorem Tk.any {bad:List Nat}{w w':World}(h:Tk none bad w w')(x:Option Nat):Tk x bad w w':=
 ⟨h.os,h.tape,h.output,h.size,fun i o h1 _ h3=>h.block i o h1 (by simp) h3⟩
theorem vk {w w':World}(h:Below w.heap.size w w')(x:Option Nat)(bad:List Nat):Tk x bad w w':=
 ⟨h.os,h.tape,h.output,h.size,fun i o h1 _ _=>(h.block i (wZ h1)).trans h1⟩
theorem kqr {w w':World}{lo e size:Nat}{v:Value}{n:Nat}{xs:List Value}{x:Option Nat}{bad:List Nat}(hv:w.ownsRow lo e size v n xs)(hg:w.grownBy w' v.ownBlock)(he:e∈bad):Tk x bad w w':=
 ⟨hg.os,hg.tape,hg.output,hg.size,fun i o h1 _ h3=>by
  rw[hg.block i (wZ h1) (fun e2=>?_)]
  ·exact h1
  ·rcases hv.2 with ⟨e1,_⟩|⟨g,cap,cur,e1,_,e3,_⟩
   ·rw[e1] at e2;cases e2
   ·rw[e1] at e2;injection e2 with e2;subst e2;rw[e3] at h1;injection h1 with h1;exact h3 _ _ _ h1.symm he⟩
theorem kkq {w:World}{M e:Nat}{cs:Array Value}{fr:Nat × Nat}{x:Option Nat}{bad:List Nat}(hM:w.heap[M]?=some (.cells cs e fr))(he:e∈bad)(j:Nat)(v:Value):Tk x bad w (w.setCell ⟨M,j,none⟩ v):=
 ⟨rfl,rfl,rfl,by simp[World.setCell],fun i o h1 _ h3=>by
  rw[wP _ _ _ _ (fun e2=>?_)]
  ·exact h1
  ·subst e2;rw[hM] at h1;injection h1 with h1;exact h3 _ _ _ h1.symm he⟩
theorem Tk.alloc {x:Option Nat}{bad:List Nat}{a w:World}(h:Tk x bad a w)(o:Obj):Tk x bad a (w.alloc o):=h.trans (vk (below_alloc1 w o) x bad)
theorem Tk.row {x:Option Nat}{bad:List Nat}{w w':World}{b e:Nat}{cs:Array Value}{fr:Nat × Nat}(h:Tk x bad w w')(hb:w.heap[b]?=some (.cells cs e fr))(hx:x≠some b)(he:e ∉ bad):w'.heap[b]?=some (.cells cs e fr):=
 h.block b _ hb hx fun cs' e' fr' e1 hm=>by injection e1 with _ e2;subst e2;exact he hm
def jh (w:World)(x:Option Nat):Prop:=∀ k cs e fr,x=some k→w.heap[k]?≠some (.cells cs e fr)
theorem jh.none (w:World):jh w none:=fun _ _ _ _ e=>by cases e
theorem kzc.no {w:World}{b:Nat}{t:uw}(h:kzc w b t):jh w (some b):=fun k cs e fr e1 h1=>by
 injection e1 with e1;subst e1;obtain ⟨⟨es,c,h2,_⟩,_⟩:=h;rw[h2] at h1;cases h1
theorem zy {w w':World}{x:Option Nat}{bad:List Nat}{lo e size:Nat}{v:Value}{n:Nat}{xs:List Value}(h:w.ownsRow lo e size v n xs)(hk:Tk x bad w w')(hx:jh w x)(he:e ∉ bad):w'.ownsRow lo e size v n xs:=by
 refine ⟨h.1,?_⟩;rcases h.2 with hh|⟨g,cap,cur,e1,e2,e3,e4⟩
 ·exact Or.inl hh
 ·exact Or.inr ⟨g,cap,cur,e1,e2,hk.row e3 (fun e5=>hx _ _ _ _ e5 e3) he,e4⟩
theorem XIs.tk {lo:Nat}{w w':World}{x:Option Nat}{bad:List Nat}(hk:Tk x bad w w')(hx:jh w x)(he:358 ∉ bad):∀ {y:PX} {v:Value},XIs lo w y v→XIs lo w' y v
 | .nil,_,h=>h
 | .node _ _ _ _ _,_,⟨k,va,vb,e,hn,hh,ha,hb⟩=>⟨k,va,vb,e,hn,hk.row hh (fun e5=>hx _ _ _ _ e5 hh) he,ha.tk hk hx he,hb.tk hk hx he⟩
theorem BIs.tk {lo:Nat}{no:Option Nat}{w w':World}{x:Option Nat}{bad:List Nat}(hk:Tk x bad w w')(hx:jh w x)(he:358 ∉ bad)(he2:334 ∉ bad):∀ {b:PB} {xs:List Value},BIs lo no w b xs→BIs lo no w' b xs
 | .nil,_,h=>h
 | .node _ _ a .nil n,cs,⟨p,rest,e,h1,hn⟩=>⟨p,rest,e,h1.tk hk hx he,BIs.tk hk hx he he2 hn⟩
 | .node _ _ a (.node _ _ _ t e) n,cs,⟨p,ta,tn,tc,ea,en,ec,ct,ce,rest,e1,h1,⟨ht1,ht3,ht2⟩,⟨he1,he3,hee2⟩,hn⟩=>
  ⟨p,ta,tn,tc,ea,en,ec,ct,ce,rest,e1,h1.tk hk hx he,⟨zy ht1 hk hx he2,ht3,BIs.tk hk hx he he2 ht2⟩,⟨zy he1 hk hx he2,he3,BIs.tk hk hx he he2 hee2⟩,BIs.tk hk hx he he2 hn⟩
theorem kx1.tk {lo:Nat}{w w':World}{x:Option Nat}{bad:List Nat}(hk:Tk x bad w w')(hx:jh w x)(he:107 ∉ bad):∀ {ks:List PKind} {cs:List Value},kx1 lo w ks cs→kx1 lo w' ks cs
 | [],_,h=>h
 | k::ks,_,⟨ma,mn,mc,rest,e,h1,h2⟩=>⟨ma,mn,mc,rest,e,zy h1 hk hx he,kx1.tk hk hx he h2⟩
def qj3:List Nat:=[111,114,107,121,127,130,352,334,358]
theorem kze.tk {lo:Nat}{w w':World}{x:Option Nat}{bad:List Nat}(hk:Tk x bad w w')(hx:jh w x)(hd:∀ e∈qj3,e ∉ bad):∀ {rs:List PRule} {cs:List Value},kze lo w rs cs→kze lo w' rs cs
 | [],_,h=>h
 | r::rs,_,⟨pa,pn,pc,gp,ba,bn,bc,bcs,rest,e,h1,h2,h3,h4,h5⟩=>⟨pa,pn,pc,gp,ba,bn,bc,bcs,rest,e,zy h1 hk hx (hd _ (by decide)),h2.tk hk hx (hd _ (by decide)),zy h3 hk hx (hd _ (by decide)),h4.tk hk hx (hd _ (by decide)) (hd _ (by decide)),kze.tk hk hx hd h5⟩
theorem kzi.tk {lo:Nat}{w w':World}{x:Option Nat}{bad:List Nat}(hk:Tk x bad w w')(hx:jh w x)(hd:∀ e∈qj3,e ∉ bad):∀ {rs:List PRule} {cs:List Value},kzi lo w rs cs→kzi lo w' rs cs
 | [],_,h=>h
 | r::rs,_,⟨pa,pn,pc,gp,rest,e,h1,h2,h5⟩=>⟨pa,pn,pc,gp,rest,e,zy h1 hk hx (hd _ (by decide)),h2.tk hk hx (hd _ (by decide)),kzi.tk hk hx hd h5⟩
theorem kk6.tk {lo:Nat}{w w':World}{x0 x1 x2 x3 x4:Value}{m:MdL}{x:Option Nat}{bad:List Nat}(h:kk6 lo w x0 x1 x2 x3 x4 m)(hk:Tk x bad w w')(hx:jh w x)(hd:∀ e∈qj3,e ∉ bad):kk6 lo w' x0 x1 x2 x3 x4 m:=by
 obtain ⟨h0,⟨c1,h1,k1⟩,h2,⟨c3,h3,k3⟩,⟨c4,h4,k4⟩⟩:=h;exact ⟨zy h0 hk hx (hd _ (by decide)),⟨c1,zy h1 hk hx (hd _ (by decide)),k1.tk hk hx (hd _ (by decide))⟩,zy h2 hk hx (hd _ (by decide)),⟨c3,zy h3 hk hx (hd _ (by decide)),k3.tk hk hx hd⟩,⟨c4,zy h4 hk hx (hd _ (by decide)),k4.tk hk hx hd⟩⟩
theorem qqc.tk {lo:Nat}{w w':World}{x:Option Nat}{bad:List Nat}(hk:Tk x bad w w')(hx:jh w x)(he:9 ∉ bad):∀ {vs:List MVar} {cs:List Value},qqc lo w vs cs→qqc lo w' vs cs
 | [],_,h=>h
 | v::vs,cs,⟨ta,tc,rest,e,h1,h2⟩=>⟨ta,tc,rest,e,zy h1 hk hx he,qqc.tk hk hx he h2⟩
theorem qqc.app {lo:Nat}{w:World}:∀ {vs us:List MVar} {cs ds:List Value},qqc lo w vs cs→qqc lo w us ds→qqc lo w (vs++us) (cs++ds)
 | [],_,cs,ds,h,h'=>by
  have:cs=[]:=h;subst this;exact h'
 | v::vs,_,cs,ds,⟨ta,tc,rest,e,h1,h2⟩,h'=>⟨ta,tc,rest++ds,by rw[e,tK],h1,h2.app h'⟩
theorem kzc.tk {w w':World}{b:Nat}{t:uw}{x:Option Nat}{bad:List Nat}(h:kzc w b t)(hk:Tk x bad w w')(hx:x≠some b):kzc w' b t:=by
 obtain ⟨⟨es,c,h1,h2⟩,h3⟩:=h;exact ⟨⟨es,c,hk.block b _ h1 hx (fun _ _ _ e=>by cases e),h2⟩,h3⟩
theorem qku.tk {lo so:Nat}{w w':World}{M:Nat}{s:MStep}{cs:List Value}{x:Option Nat}{bad:List Nat}(h:qku lo so w M s cs)(hk:Tk x bad w w')(hx:jh w x)(hd:∀ e∈qj3,e ∉ bad)(hi:3 ∉ bad):qku lo so w' M s cs:=by
 obtain ⟨pa,pn,pc,ma,mn,mc,p,ba,bn,bc,bs,no,e,h1,h2,h3,h4,h5⟩:=h;exact ⟨pa,pn,pc,ma,mn,mc,p,ba,bn,bc,bs,no,e,zy h1 hk hx (hd _ (by decide)),zy h2 hk hx hi,h3.tk hk hx (hd _ (by decide)),zy h4 hk hx (hd _ (by decide)),h5.tk hk hx (hd _ (by decide)) (hd _ (by decide))⟩
theorem kkp.tk {lo so:Nat}{w w':World}{M:Nat}{l:List MStep}{cs:List Value}{x:Option Nat}{bad:List Nat}(h:kkp lo so w M l cs)(hk:Tk x bad w w')(hx:jh w x)(hd:∀ e∈qj3,e ∉ bad)(hi:3 ∉ bad):kkp lo so w' M l cs:=
 ⟨h.1,fun k hl=>(h.2 k hl).tk hk hx hd hi⟩
theorem kkp.snoc {lo so:Nat}{w:World}{M:Nat}{l:List MStep}{s:MStep}{cs ds:List Value}(h:kkp lo so w M l cs)(hs:qku lo so w M s ds)(hd:ds.length=6):kkp lo so w M (l++[s]) (cs++ds):=by
 refine ⟨by simp[h.1,hd];omega,fun k hk=>?_⟩;by_cases hl:k<l.length
 ·have hc:=h.1;rw[Jk (by omega),fJ (by simp;omega),lu hl];exact h.2 k hl
 ·have:k=l.length:=by simp at hk;omega
  subst this;rw[←h.1,JX,Ql (by omega)];simpa using hs
def zzb (lo so:Nat)(w:World)(M:Nat)(s:MNever)(cs:List Value):Prop:=
 ∃ pa pn pc ma mn mc p,cs=[.string s.text,.pointer (some ⟨M,0,none⟩),.slice pa pn pc,.slice ma mn mc,.pointer p]∧w.ownsRow lo 352 4 (.slice pa pn pc) s.params.length (jw s.params)∧w.ownsRow lo 3 1 (.slice ma mn mc) s.mems.length (s.mems.map (Value.int .i64))∧XIs so w s.expr (.pointer p)
theorem zzb.tk {lo so:Nat}{w w':World}{M:Nat}{s:MNever}{cs:List Value}{x:Option Nat}{bad:List Nat}(h:zzb lo so w M s cs)(hk:Tk x bad w w')(hx:jh w x)(hd:∀ e∈qj3,e ∉ bad)(hi:3 ∉ bad):zzb lo so w' M s cs:=by
 obtain ⟨pa,pn,pc,ma,mn,mc,p,e,h1,h2,h3⟩:=h;exact ⟨pa,pn,pc,ma,mn,mc,p,e,zy h1 hk hx (hd _ (by decide)),zy h2 hk hx hi,h3.tk hk hx (hd _ (by decide))⟩
def kyr (lo so:Nat)(w:World)(M:Nat)(l:List MNever)(cs:List Value):Prop:=cs.length=l.length * 5∧∀ k (hk:k<l.length),zzb lo so w M l[k] ((cs.drop (k * 5)).take 5)
theorem kyr.tk {lo so:Nat}{w w':World}{M:Nat}{l:List MNever}{cs:List Value}{x:Option Nat}{bad:List Nat}(h:kyr lo so w M l cs)(hk:Tk x bad w w')(hx:jh w x)(hd:∀ e∈qj3,e ∉ bad)(hi:3 ∉ bad):kyr lo so w' M l cs:=
 ⟨h.1,fun k hl=>(h.2 k hl).tk hk hx hd hi⟩
theorem kyr.snoc {lo so:Nat}{w:World}{M:Nat}{l:List MNever}{s:MNever}{cs ds:List Value}(h:kyr lo so w M l cs)(hs:zzb lo so w M s ds)(hd:ds.length=5):kyr lo so w M (l++[s]) (cs++ds):=by
 refine ⟨by simp[h.1,hd];omega,fun k hk=>?_⟩;by_cases hl:k<l.length
 ·have hc:=h.1;rw[Jk (by omega),fJ (by simp;omega),lu hl];exact h.2 k hl
 ·have:k=l.length:=by simp at hk;omega
  subst this;rw[←h.1,JX,Ql (by omega)];simpa using hs
theorem vw0 {w:World}{b:Nat}{x0 x1 x2 x3 x4 x5:Value}{t:TypeId}(h:w.heap[b]?=some (.cells #[x0,x1,x2,x3,x4,x5] t (0,0)))(a:Value):(w.setCell ⟨b,0,none⟩ a).heap[b]?=some (.cells #[a,x1,x2,x3,x4,x5] t (0,0)):=heap_setCell_same _ b 0 _ _ _ h
theorem vvi {w:World}{b:Nat}{x0 x1 x2 x3 x4 x5:Value}{t:TypeId}(h:w.heap[b]?=some (.cells #[x0,x1,x2,x3,x4,x5] t (0,0)))(a:Value):(w.setCell ⟨b,1,none⟩ a).heap[b]?=some (.cells #[x0,a,x2,x3,x4,x5] t (0,0)):=heap_setCell_same _ b 1 _ _ _ h
theorem vve {w:World}{b:Nat}{x0 x1 x2 x3 x4 x5:Value}{t:TypeId}(h:w.heap[b]?=some (.cells #[x0,x1,x2,x3,x4,x5] t (0,0)))(a:Value):(w.setCell ⟨b,2,none⟩ a).heap[b]?=some (.cells #[x0,x1,a,x3,x4,x5] t (0,0)):=heap_setCell_same _ b 2 _ _ _ h
theorem vxr {w:World}{b:Nat}{x0 x1 x2 x3 x4 x5:Value}{t:TypeId}(h:w.heap[b]?=some (.cells #[x0,x1,x2,x3,x4,x5] t (0,0)))(a:Value):(w.setCell ⟨b,3,none⟩ a).heap[b]?=some (.cells #[x0,x1,x2,a,x4,x5] t (0,0)):=heap_setCell_same _ b 3 _ _ _ h
theorem vva {w:World}{b:Nat}{x0 x1 x2 x3 x4 x5:Value}{t:TypeId}(h:w.heap[b]?=some (.cells #[x0,x1,x2,x3,x4,x5] t (0,0)))(a:Value):(w.setCell ⟨b,5,none⟩ a).heap[b]?=some (.cells #[x0,x1,x2,x3,x4,a] t (0,0)):=heap_setCell_same _ b 5 _ _ _ h
structure kjp (lo so:Nat)(w:World)(M nb:Nat)(steps:List MStep)(nevers:List MNever)(sets:List Int)(vars:List MVar)(tab:uw)(size:Nat)(sv nv tv vv:Value):Prop where
 row:w.heap[M]?=some (.cells #[sv,nv,tv,vv,.map (some nb),.int .i64 size] 105 (0,0))
 steps:∃ cs,w.ownsRow lo 178 6 sv steps.length cs∧kkp 0 so w M steps cs
 nevers:∃ cs,w.ownsRow lo 208 5 nv nevers.length cs∧kyr 0 so w M nevers cs
 sets:w.ownsRow lo 3 1 tv sets.length (sets.map (Value.int .i64))
 vars:∃ cs,w.ownsRow lo 213 5 vv vars.length cs∧qqc 0 w vars cs
 tab:kzc w nb tab
 hM:lo≤M
 hN:lo≤nb
theorem kjp.below {lo so:Nat}{w w':World}{M nb:Nat}{steps:List MStep}{nevers:List MNever}{sets:List Int}{vars:List MVar}{tab:uw}{size:Nat}{sv nv tv vv:Value}(h:kjp lo so w M nb steps nevers sets vars tab size sv nv tv vv)(hb:Below w.heap.size w w'):kjp lo so w' M nb steps nevers sets vars tab size sv nv tv vv:=by
 have hk:=vk hb none [];have hx:=jh.none w;obtain ⟨h0,⟨c1,h1,k1⟩,⟨c2,h2,k2⟩,h3,⟨c4,h4,k4⟩,h5,h6,h7⟩:=h;exact ⟨(hb.block M (wZ h0)).trans h0,⟨c1,qj h1 hb,k1.tk hk hx (by simp) (by simp)⟩,⟨c2,qj h2 hb,k2.tk hk hx (by simp) (by simp)⟩,qj h3 hb,⟨c4,qj h4 hb,k4.tk hk hx (by simp)⟩,h5.tk hk (by simp),h6,h7⟩
end Go.Proofs.YtpmcnonmkghokaaGreatDoor
namespace Go.Proofs.YtpmcnonmkghokaaGreatDoor
open Go.RowKit
attribute [local go_sem ↓] Go.wp_at_zero Go.wp_at_succ
def jqt (t:ByteArray):Option Nat:=if 0≤yx t∧yx t≤9 then some (yx t).toNat else none
theorem zkn {t:ByteArray}{n:Nat}(h:jqt t=some n):yx t=n∧n≤9:=by
 unfold jqt at h;split at h
 ·injection h with h;subst h;omega
 ·cases h
def qxv (ss:List PSet)(s:List UInt8):Option Nat:=(kyg ss s).bind fun k=>(ss[k]?).bind fun x=>jqt x.size.text
theorem kwy {ss:List PSet}{s:List UInt8}{n:Nat}(h:qxv ss s=some n):∃ k x,kyg ss s=some k∧ss[k]?=some x∧yx x.size.text=n∧n≤9:=by
 unfold qxv at h;obtain ⟨k,h1,h2⟩:=wJ.mp h;obtain ⟨x,h3,h4⟩:=wJ.mp h2;exact ⟨k,x,h1,h3,zkn h4⟩
def jvz (ss:List PSet)(ks:List PKind)(s:SiT):Option (List ByteArray):=
 if s.form==0 then some (kwt 2)
 else if s.form==1 then (jqt s.top.text).map fun n=>kwt (n+1)
 else match kwv ks s.name.text.toList with
  | some k=>some (k.members.map (·.text))
  | none=>(qxv ss s.name.text.toList).map fun m=>⟨#[45]⟩::kwt m
def zx7 (ss:List PSet)(ks:List PKind)(sz:Nat)(v:VrT):Option MVar:=
 (if v.arr then qxv ss v.over.text.toList else some 1).bind fun c=>(jvz ss ks v.si).map fun t=>⟨sz,c,t,kzr ss v.over.text.toList,kzr ss v.si.name.text.toList⟩
def mdV (a0 a1 a2 a3 a4:Option Addr)(n0 n1 n2 n3 n4 c0 c1 c2 c3 c4:Nat):Value:=.agg #[.slice a0 n0 c0,.slice a1 n1 c1,.slice a2 n2 c2,.slice a3 n3 c3,.slice a4 n4 c4]
structure MdFit (m:MdL):Prop where
 sets:m.sets.length≤1000
 kinds:m.kinds.length≤1000
 mems:∀ x∈m.kinds,x.members.length≤1000
 vars:m.vars.length≤1000
 rules:m.rules.length≤1000
 nevers:m.nevers.length≤1000
theorem zq9 (w:World)(lo:Nat)(s:SiT)(a0 a1 a2 a3 a4:Option Addr)(n0 n1 n2 n3 n4 c0 c1 c2 c3 c4:Nat)(m:MdL)(hm:kk6 lo w (.slice a0 n0 c0) (.slice a1 n1 c1) (.slice a2 n2 c2) (.slice a3 n3 c3) (.slice a4 n4 c4) m)(hf:MdFit m)(l:List ByteArray)(hl:jvz m.sets m.kinds s=some l) :
  Calls Tryz.prog 98 #[mdV a0 a1 a2 a3 a4 n0 n1 n2 n3 n4 c0 c1 c2 c3 c4,siV s] w fun e w'=>∃ v,e=.returned v∧w'.ownsRow w.heap.size 9 1 v l.length (l.map Value.string)∧Below w.heap.size w w':=by
 obtain ⟨h0,⟨c1',h1,k1⟩,h2,_,_⟩:=hm;unfold jvz at hl;cases e0:(s.form==0)
 ·rw[e0,if_neg (by simp)] at hl;cases e1:(s.form==1)
  ·rw[e1,if_neg (by simp)] at hl;cases ek:kwv m.kinds s.name.text.toList with
   | some k=>
    rw[ek] at hl;injection hl with hl;subst hl;have:=qym w lo s.form (yx s.top.text) s.top.at_ s.name a0 a1 a2 a3 a4 n0 n1 n2 n3 n4 c0 c1 c2 c3 c4 m.kinds c1' h1 k1 hf.kinds hf.mems e0 e1 k ek;refine this.mono ?_;rintro e w' ⟨v,rfl,ho,hb⟩;exact ⟨v,rfl,by rw[ni,Qz];exact ho,hb⟩
   | none=>
    rw[ek] at hl;obtain ⟨n,hn,rfl⟩:=tu.mp hl;obtain ⟨j,x,q1,q2,q3,q4⟩:=kwy hn;have:=zq8 w lo s.form (yx s.top.text) s.top.at_ s.name a0 a1 a2 a3 a4 n0 n1 n2 n3 n4 c0 c1 c2 c3 c4 m.kinds c1' h1 k1 hf.kinds m.sets h0 hf.sets j q1 x q2 n q3 (by omega) e0 e1 ek;refine this.mono ?_;rintro e w' ⟨v,rfl,ho,hb⟩;exact ⟨v,rfl,by simpa[kzl] using ho,hb⟩
  ·rw[e1,if_pos rfl] at hl;obtain ⟨n,hn,rfl⟩:=tu.mp hl;obtain ⟨q3,q4⟩:=zkn hn;have:=kyn w s.form (yx s.top.text) s.top.at_ s.name a0 a1 a2 a3 a4 n0 n1 n2 n3 n4 c0 c1 c2 c3 c4 (n+1) (by omega) (Or.inr ⟨e0,e1,by omega⟩);refine this.mono ?_;rintro e w' ⟨v,rfl,ho,hb⟩;exact ⟨v,rfl,by simpa[kzl] using ho,hb⟩
 ·rw[e0,if_pos rfl] at hl;injection hl with hl;subst hl;have:=kyn w s.form (yx s.top.text) s.top.at_ s.name a0 a1 a2 a3 a4 n0 n1 n2 n3 n4 c0 c1 c2 c3 c4 2 (by omega) (Or.inl (by rw[e0];rfl));refine this.mono ?_;rintro e w' ⟨v,rfl,ho,hb⟩;exact ⟨v,rfl,by simpa[kzl] using ho,hb⟩
end Go.Proofs.YtpmcnonmkghokaaGreatDoor
