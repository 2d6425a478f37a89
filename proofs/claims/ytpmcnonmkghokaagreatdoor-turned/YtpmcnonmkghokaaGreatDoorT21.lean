import Derived.Test.YtpmcnonmkghokaaGreatDoorT17
import Derived.Test.YtpmcnonmkghokaaGreatDoorT20
import Derived.Test.YtpmcnonmkghokaaGreatDoorT06
set_option maxRecDepth 100000
set_option maxHeartbeats 4000000
set_option linter.unusedVariables false
set_option linter.unusedSimpArgs false
namespace Go.Proofs.YtpmcnonmkghokaaGreatDoor
open Go.RowKit
attribute [local go_sem ↓] Go.wp_at_zero Go.wp_at_succ
structure VT where
 fam:Int
 name:ByteArray
def vtV (x:VT):Value:=.agg #[.int .i64 x.fam,.string x.name]
def jq1:VT:=⟨0,⟨#[]⟩⟩
def kkh (f:Int)(c:Bool):VT:=if c then ⟨f,⟨#[]⟩⟩ else jq1
theorem qwd (w:World)(f:Int)(c:Bool) :
  Calls Tryz.prog 245 #[.int .i64 f,.bool c] w fun e w'=>e=.returned (vtV (kkh f c))∧Below w.heap.size w w':=by
 cases c
 ·go_enter Tryz.func245,Tryz.ntmps245
  go_wp2
  refine rY (rZ Tryz.results245 _ _ w.heap.size _ _ _ _ rfl (qy _ _) Tryz.underlying362 rfl (by kernel_rfl)) rfl ?_;exact ⟨rfl,below_alloc1 _ _⟩
 ·go_enter Tryz.func245,Tryz.ntmps245
  go_wp2
  refine rY (rZ Tryz.results245 _ _ w.heap.size _ _ _ _ rfl (qy _ _) Tryz.underlying362 rfl (by kernel_rfl)) rfl ?_;exact ⟨rfl,below_alloc1 _ _⟩
def kyw (x y:VT):Bool:=((x.fam==y.fam&&x.name.toList==y.name.toList)&&!(x.fam==0))&&!(x.fam==5)
theorem kje (w:World)(o p:Obj):Below w.heap.size w ((w.alloc o).alloc p):=(below_alloc1 w _).trans ((below_alloc1 _ _).mono (by simp))
theorem zyk (w:World)(x y:VT) :
  Calls Tryz.prog 247 #[vtV x,vtV y] w fun e w'=>e=.returned (.bool (kyw x y))∧Below w.heap.size w w':=by
 unfold vtV;go_enter Tryz.func247,Tryz.ntmps247
 go_wp2
 all_goals
  go_ret
  exact ⟨jf (by simp[kyw,bne, *]),kje _ _ _⟩
def zwk (x y:VT):Bool:=(kyw x y||(x.fam==4&&y.fam==5))||(x.fam==5&&y.fam==4)
theorem vxi (w:World)(x y:VT) :
  Calls Tryz.prog 264 #[vtV x,vtV y] w fun e w'=>e=.returned (.bool (zwk x y))∧Below w.heap.size w w':=by
 have E:=hide (show zwk x y=((kyw x y||(x.fam==4&&y.fam==5))||(x.fam==5&&y.fam==4)) from rfl);have HS:=hide (zyk ((w.alloc (.cells #[.int .i64 x.fam,.string x.name] 362)).alloc (.cells #[.int .i64 y.fam,.string y.name] 362)) x y);unfold vtV at *;generalize zwk x y=fin at *;go_enter Tryz.func264,Tryz.ntmps264
 go_wp2_with fail
 refine (ku HS).mono ?_;rintro e w1 ⟨rfl,hb1⟩;have hx:=hb1.block w.heap.size (by simp;omega);have hy:=hb1.block (w.heap.size+1) (by simp);obtain ⟨a0,_⟩:=yj (hx.trans (qp (qy _ _)));obtain ⟨b0,_⟩:=yj (hy.trans (by have:=qy (w.alloc (.cells #[.int .i64 x.fam,.string x.name] 362)) (.cells #[.int .i64 y.fam,.string y.name] 362);simp only[tJ] at this;exact this));have HB:=hide ((kje w (.cells #[.int .i64 x.fam,.string x.name] 362) (.cells #[.int .i64 y.fam,.string y.name] 362)).trans (hb1.mono (by simp;omega)));generalize kyw x y=s at *;clear hb1 hx hy HS;cases s
 ·cases h4:(x.fam==4)
  ·cases h5:(x.fam==5)
   ·go_wp2
    go_ret
    exact ⟨jf (by rw[ku E,h4,h5];rfl),ku HB⟩
   ·go_wp2
    go_ret
    exact ⟨jf (by rw[ku E,h4,h5];simp),ku HB⟩
  ·have h5:(x.fam==5)=false:=by rw[wP] at h4;rw[h4];rfl
   cases h6:(y.fam==5)
   ·go_wp2
    go_ret
    exact ⟨jf (by rw[ku E,h4,h5,h6];rfl),ku HB⟩
   ·go_wp2
    go_ret
    exact ⟨jf (by rw[ku E,h4,h5,h6];rfl),ku HB⟩
 ·go_wp2
  go_ret
  exact ⟨jf (by rw[ku E];rfl),ku HB⟩
def qzr (o:Int)(x y:VT):VT:=
 if (o==6||o==7) then kkh 1 (x.fam==1&&y.fam==1) else if (o==11||o==12) then kkh 2 (x.fam==2&&y.fam==2) else if o==10 then kkh 1 (x.fam==2&&y.fam==2) else kkh 1 (zwk x y)
theorem jxb (w:World)(o:Int)(x y:VT) :
  Calls Tryz.prog 246 #[.int .i64 o,vtV x,vtV y] w fun e w'=>e=.returned (vtV (qzr o x y))∧Below w.heap.size w w':=by
 have E:=hide (show qzr o x y=if (o==6||o==7) then kkh 1 (x.fam==1&&y.fam==1) else if (o==11||o==12) then kkh 2 (x.fam==2&&y.fam==2) else if o==10 then kkh 1 (x.fam==2&&y.fam==2) else kkh 1 (zwk x y) from rfl);have HR:=hide (show (((w.alloc (.cells #[.int .i64 x.fam,.string x.name] 362)).alloc (.cells #[.int .i64 y.fam,.string y.name] 362)).alloc (.cells #[.int .i64 0,.string ⟨#[]⟩] 362)).heap[w.heap.size+2]?=some (.cells #[.int .i64 0,.string ⟨#[]⟩] 362 (0,0)) by
  have:=qy ((w.alloc (.cells #[.int .i64 x.fam,.string x.name] 362)).alloc (.cells #[.int .i64 y.fam,.string y.name] 362)) (.cells #[.int .i64 0,.string ⟨#[]⟩] 362);simp only[tJ] at this;exact this)
 have HB:=hide (show Below w.heap.size w (((w.alloc (.cells #[.int .i64 x.fam,.string x.name] 362)).alloc (.cells #[.int .i64 y.fam,.string y.name] 362)).alloc (.cells #[.int .i64 0,.string ⟨#[]⟩] 362)) from (kje w _ _).trans ((below_alloc1 _ _).mono (by simp;omega)));have HM:=hide (fun f c=>qwd (((w.alloc (.cells #[.int .i64 x.fam,.string x.name] 362)).alloc (.cells #[.int .i64 y.fam,.string y.name] 362)).alloc (.cells #[.int .i64 0,.string ⟨#[]⟩] 362)) f c);have HC:=hide (vxi (((w.alloc (.cells #[.int .i64 x.fam,.string x.name] 362)).alloc (.cells #[.int .i64 y.fam,.string y.name] 362)).alloc (.cells #[.int .i64 0,.string ⟨#[]⟩] 362)) x y);have hsz:(((w.alloc (.cells #[.int .i64 x.fam,.string x.name] 362)).alloc (.cells #[.int .i64 y.fam,.string y.name] 362)).alloc (.cells #[.int .i64 0,.string ⟨#[]⟩] 362)).heap.size=w.heap.size+3:=by simp
 generalize qzr o x y=fin at *;unfold vtV at *;go_enter Tryz.func246,Tryz.ntmps246
 cases h6:(o==6)
 ·cases h7:(o==7)
  ·rw[h6,h7] at E;cases h11:(o==11)
   ·cases h12:(o==12)
    ·rw[h11,h12] at E;cases h10:(o==10)
     ·rw[h10] at E;go_wp2_with fail
      refine (ku HC).mono ?_;rintro e w2 ⟨rfl,hb2⟩;have hr2:=(hb2.block (w.heap.size+2) (by simp)).trans (ku HR);have HB2:=hide ((ku HB).trans (hb2.mono (by simp;omega)));have hs2:=hb2.size;simp at hs2;have HR2:=hide hr2;clear HM HC HR HB hb2 hr2;go_wp2_with fail
      refine (qwd w2 1 (zwk x y)).mono ?_;rintro e w1 ⟨rfl,hb1⟩;have hr:=(hb1.block (w.heap.size+2) (by omega)).trans (ku HR2);obtain ⟨q0,q1,q2,q3⟩:=yj hr;have HB1:=hide ((ku HB2).trans (hb1.mono (by omega)));have HR1:=hide hr;clear hb1 hr HR2 HB2;unfold vtV;go_wp2
      refine rY (rZ Tryz.results246 _ _ (w.heap.size+2) _ _ _ _ rfl (set2 (ku HR1) _ _) Tryz.underlying362 rfl (by kernel_rfl)) rfl ?_;exact ⟨by rw[ku E];rfl,((ku HB1).setCell (show w.heap.size≤w.heap.size+2 by omega) _).setCell (show w.heap.size≤w.heap.size+2 by omega) _⟩
     ·rw[h10] at E;cases hx:(x.fam==2)
      ·rw[hx,lD] at E;go_wp2_with fail
       refine (ku HM 1 false).mono ?_;rintro e w1 ⟨rfl,hb1⟩;have hr:=(hb1.block (w.heap.size+2) (by simp)).trans (ku HR);obtain ⟨_,_,q2,q3⟩:=yj hr;obtain ⟨q0,q1,_,_⟩:=yj hr;have HB1:=hide ((ku HB).trans (hb1.mono (by simp;omega)));have HR1:=hide hr;clear hb1 hr HM HC HR HB;go_wp2
       refine rY (rZ Tryz.results246 _ _ (w.heap.size+2) _ _ _ _ rfl (set2 (ku HR1) _ _) Tryz.underlying362 rfl (by kernel_rfl)) rfl ?_;exact ⟨by rw[ku E];rfl,((ku HB1).setCell (show w.heap.size≤w.heap.size+2 by omega) _).setCell (show w.heap.size≤w.heap.size+2 by omega) _⟩
      ·rw[hx,Qz] at E;go_wp2_with fail
       refine (ku HM 1 (y.fam==2)).mono ?_;rintro e w1 ⟨rfl,hb1⟩;have hr:=(hb1.block (w.heap.size+2) (by simp)).trans (ku HR);obtain ⟨_,_,q2,q3⟩:=yj hr;obtain ⟨q0,q1,_,_⟩:=yj hr;have HB1:=hide ((ku HB).trans (hb1.mono (by simp;omega)));have HR1:=hide hr;clear hb1 hr HM HC HR HB;go_wp2
       refine rY (rZ Tryz.results246 _ _ (w.heap.size+2) _ _ _ _ rfl (set2 (ku HR1) _ _) Tryz.underlying362 rfl (by kernel_rfl)) rfl ?_;exact ⟨by rw[ku E];rfl,((ku HB1).setCell (show w.heap.size≤w.heap.size+2 by omega) _).setCell (show w.heap.size≤w.heap.size+2 by omega) _⟩
    ·rw[h11,h12] at E;cases hx:(x.fam==2)
     ·rw[hx,lD] at E;go_wp2_with fail
      refine (ku HM 2 false).mono ?_;rintro e w1 ⟨rfl,hb1⟩;have hr:=(hb1.block (w.heap.size+2) (by simp)).trans (ku HR);obtain ⟨_,_,q2,q3⟩:=yj hr;obtain ⟨q0,q1,_,_⟩:=yj hr;have HB1:=hide ((ku HB).trans (hb1.mono (by simp;omega)));have HR1:=hide hr;clear hb1 hr HM HC HR HB;go_wp2
      refine rY (rZ Tryz.results246 _ _ (w.heap.size+2) _ _ _ _ rfl (set2 (ku HR1) _ _) Tryz.underlying362 rfl (by kernel_rfl)) rfl ?_;exact ⟨by rw[ku E];rfl,((ku HB1).setCell (show w.heap.size≤w.heap.size+2 by omega) _).setCell (show w.heap.size≤w.heap.size+2 by omega) _⟩
     ·rw[hx,Qz] at E;go_wp2_with fail
      refine (ku HM 2 (y.fam==2)).mono ?_;rintro e w1 ⟨rfl,hb1⟩;have hr:=(hb1.block (w.heap.size+2) (by simp)).trans (ku HR);obtain ⟨_,_,q2,q3⟩:=yj hr;obtain ⟨q0,q1,_,_⟩:=yj hr;have HB1:=hide ((ku HB).trans (hb1.mono (by simp;omega)));have HR1:=hide hr;clear hb1 hr HM HC HR HB;go_wp2
      refine rY (rZ Tryz.results246 _ _ (w.heap.size+2) _ _ _ _ rfl (set2 (ku HR1) _ _) Tryz.underlying362 rfl (by kernel_rfl)) rfl ?_;exact ⟨by rw[ku E];rfl,((ku HB1).setCell (show w.heap.size≤w.heap.size+2 by omega) _).setCell (show w.heap.size≤w.heap.size+2 by omega) _⟩
   ·rw[h11] at E;cases hx:(x.fam==2)
    ·rw[hx,lD] at E;go_wp2_with fail
     refine (ku HM 2 false).mono ?_;rintro e w1 ⟨rfl,hb1⟩;have hr:=(hb1.block (w.heap.size+2) (by simp)).trans (ku HR);obtain ⟨_,_,q2,q3⟩:=yj hr;obtain ⟨q0,q1,_,_⟩:=yj hr;have HB1:=hide ((ku HB).trans (hb1.mono (by simp;omega)));have HR1:=hide hr;clear hb1 hr HM HC HR HB;go_wp2
     refine rY (rZ Tryz.results246 _ _ (w.heap.size+2) _ _ _ _ rfl (set2 (ku HR1) _ _) Tryz.underlying362 rfl (by kernel_rfl)) rfl ?_;exact ⟨by rw[ku E];rfl,((ku HB1).setCell (show w.heap.size≤w.heap.size+2 by omega) _).setCell (show w.heap.size≤w.heap.size+2 by omega) _⟩
    ·rw[hx,Qz] at E;go_wp2_with fail
     refine (ku HM 2 (y.fam==2)).mono ?_;rintro e w1 ⟨rfl,hb1⟩;have hr:=(hb1.block (w.heap.size+2) (by simp)).trans (ku HR);obtain ⟨_,_,q2,q3⟩:=yj hr;obtain ⟨q0,q1,_,_⟩:=yj hr;have HB1:=hide ((ku HB).trans (hb1.mono (by simp;omega)));have HR1:=hide hr;clear hb1 hr HM HC HR HB;go_wp2
     refine rY (rZ Tryz.results246 _ _ (w.heap.size+2) _ _ _ _ rfl (set2 (ku HR1) _ _) Tryz.underlying362 rfl (by kernel_rfl)) rfl ?_;exact ⟨by rw[ku E];rfl,((ku HB1).setCell (show w.heap.size≤w.heap.size+2 by omega) _).setCell (show w.heap.size≤w.heap.size+2 by omega) _⟩
  ·rw[h6,h7] at E;cases hx:(x.fam==1)
   ·rw[hx,lD] at E;go_wp2_with fail
    refine (ku HM 1 false).mono ?_;rintro e w1 ⟨rfl,hb1⟩;have hr:=(hb1.block (w.heap.size+2) (by simp)).trans (ku HR);obtain ⟨_,_,q2,q3⟩:=yj hr;obtain ⟨q0,q1,_,_⟩:=yj hr;have HB1:=hide ((ku HB).trans (hb1.mono (by simp;omega)));have HR1:=hide hr;clear hb1 hr HM HC HR HB;go_wp2
    refine rY (rZ Tryz.results246 _ _ (w.heap.size+2) _ _ _ _ rfl (set2 (ku HR1) _ _) Tryz.underlying362 rfl (by kernel_rfl)) rfl ?_;exact ⟨by rw[ku E];rfl,((ku HB1).setCell (show w.heap.size≤w.heap.size+2 by omega) _).setCell (show w.heap.size≤w.heap.size+2 by omega) _⟩
   ·rw[hx,Qz] at E;go_wp2_with fail
    refine (ku HM 1 (y.fam==1)).mono ?_;rintro e w1 ⟨rfl,hb1⟩;have hr:=(hb1.block (w.heap.size+2) (by simp)).trans (ku HR);obtain ⟨_,_,q2,q3⟩:=yj hr;obtain ⟨q0,q1,_,_⟩:=yj hr;have HB1:=hide ((ku HB).trans (hb1.mono (by simp;omega)));have HR1:=hide hr;clear hb1 hr HM HC HR HB;go_wp2
    refine rY (rZ Tryz.results246 _ _ (w.heap.size+2) _ _ _ _ rfl (set2 (ku HR1) _ _) Tryz.underlying362 rfl (by kernel_rfl)) rfl ?_;exact ⟨by rw[ku E];rfl,((ku HB1).setCell (show w.heap.size≤w.heap.size+2 by omega) _).setCell (show w.heap.size≤w.heap.size+2 by omega) _⟩
 ·rw[h6] at E;cases hx:(x.fam==1)
  ·rw[hx,lD] at E;go_wp2_with fail
   refine (ku HM 1 false).mono ?_;rintro e w1 ⟨rfl,hb1⟩;have hr:=(hb1.block (w.heap.size+2) (by simp)).trans (ku HR);obtain ⟨_,_,q2,q3⟩:=yj hr;obtain ⟨q0,q1,_,_⟩:=yj hr;have HB1:=hide ((ku HB).trans (hb1.mono (by simp;omega)));have HR1:=hide hr;clear hb1 hr HM HC HR HB;go_wp2
   refine rY (rZ Tryz.results246 _ _ (w.heap.size+2) _ _ _ _ rfl (set2 (ku HR1) _ _) Tryz.underlying362 rfl (by kernel_rfl)) rfl ?_;exact ⟨by rw[ku E];rfl,((ku HB1).setCell (show w.heap.size≤w.heap.size+2 by omega) _).setCell (show w.heap.size≤w.heap.size+2 by omega) _⟩
  ·rw[hx,Qz] at E;go_wp2_with fail
   refine (ku HM 1 (y.fam==1)).mono ?_;rintro e w1 ⟨rfl,hb1⟩;have hr:=(hb1.block (w.heap.size+2) (by simp)).trans (ku HR);obtain ⟨_,_,q2,q3⟩:=yj hr;obtain ⟨q0,q1,_,_⟩:=yj hr;have HB1:=hide ((ku HB).trans (hb1.mono (by simp;omega)));have HR1:=hide hr;clear hb1 hr HM HC HR HB;go_wp2
   refine rY (rZ Tryz.results246 _ _ (w.heap.size+2) _ _ _ _ rfl (set2 (ku HR1) _ _) Tryz.underlying362 rfl (by kernel_rfl)) rfl ?_;exact ⟨by rw[ku E];rfl,((ku HB1).setCell (show w.heap.size≤w.heap.size+2 by omega) _).setCell (show w.heap.size≤w.heap.size+2 by omega) _⟩
def tyV (b:Nat)(ps:Value):Value:=.agg #[.map (some b),ps]
def kzc (tab:Tab)(x:SiT):VT:=if x.form==0 then ⟨1,⟨#[]⟩⟩ else if x.form==1 then ⟨2,⟨#[]⟩⟩ else if (qo tab x.name.text.toList).role==1 then ⟨4,x.name.text⟩ else ⟨3,x.name.text⟩
theorem qy9 (w:World)(b:Nat)(tab:Tab)(ps:Value)(x:SiT)(ht:kqw w b tab)(hs:x.name.text.size≤1000)(hps:ps.oneCell'=true) :
  Calls Tryz.prog 263 #[tyV b ps,siV x] w fun e w'=>e=.returned (vtV (kzc tab x))∧Below w.heap.size w w':=by
 have E:=hide (show kzc tab x=if x.form==0 then ⟨1,⟨#[]⟩⟩ else if x.form==1 then ⟨2,⟨#[]⟩⟩ else if (qo tab x.name.text.toList).role==1 then ⟨4,x.name.text⟩ else ⟨3,x.name.text⟩ from rfl);obtain ⟨W,hW⟩:∃ W,W=((w.alloc (.cells #[.map (some b),ps] 301)).alloc (.cells #[.int .i64 x.form,.int .i64 (gu x.top.text),.int .i64 x.top.at_,.string x.name.text,.int .i64 x.name.at_] 119)).alloc (.cells #[.int .i64 0,.string ⟨#[]⟩] 362):=⟨_,rfl⟩;have hbW:Below w.heap.size w W:=by rw[hW];exact (kje w _ _).trans ((below_alloc1 _ _).mono (by simp;omega))
 have hsW:W.heap.size=w.heap.size+3:=by rw[hW];simp
 have hT:W.heap[w.heap.size]?=some (.cells #[.map (some b),ps] 301 (0,0)):=by rw[hW];exact qp (qp (qy _ _))
 have hX:W.heap[w.heap.size+1]?=some (.cells #[.int .i64 x.form,.int .i64 (gu x.top.text),.int .i64 x.top.at_,.string x.name.text,.int .i64 x.name.at_] 119 (0,0)):=by
  rw[hW];have:=qy (w.alloc (.cells #[.map (some b),ps] 301)) (.cells #[.int .i64 x.form,.int .i64 (gu x.top.text),.int .i64 x.top.at_,.string x.name.text,.int .i64 x.name.at_] 119);simp only[tJ] at this;exact qp this
 have hR:W.heap[w.heap.size+2]?=some (.cells #[.int .i64 0,.string ⟨#[]⟩] 362 (0,0)):=by
  rw[hW];have:=qy ((w.alloc (.cells #[.map (some b),ps] 301)).alloc (.cells #[.int .i64 x.form,.int .i64 (gu x.top.text),.int .i64 x.top.at_,.string x.name.text,.int .i64 x.name.at_] 119)) (.cells #[.int .i64 0,.string ⟨#[]⟩] 362);simp only[tJ] at this;exact this
 have hM:kqw W b tab:=ht.kept hbW;have hlk:=kxi hM hs;have hf:=kkq (qo tab x.name.text.toList);obtain ⟨t0,t1,_⟩:=yj hT;obtain ⟨x0,x1,x2,x3,x4,_⟩:=zo hX;obtain ⟨r0,r1,r2,r3⟩:=yj hR;have HR:=hide hR;have HB:=hide hbW;have HWE:=hide hW.symm;generalize kzc tab x=fin at *;generalize qo tab x.name.text.toList=q at *;clear hR hbW hW hM ht hT hX hsW;unfold tyV siV vtV;go_enter Tryz.func263,Tryz.ntmps263
 go_upto_region 1 with fail
 rw[ku HWE,show w.heap.size+1+1=w.heap.size+2 from rfl];cases h0:(x.form==0)
 ·cases h1:(x.form==1)
  ·cases h2:(q.role==1)
   ·rw[h0,h1,h2] at E;go_wp2
    refine rY (rZ Tryz.results263 _ _ (w.heap.size+2) _ _ _ _ rfl (set2 (ku HR) _ _) Tryz.underlying362 rfl (by kernel_rfl)) rfl ?_;exact ⟨by rw[ku E];rfl,((ku HB).setCell (show w.heap.size≤w.heap.size+2 by omega) _).setCell (show w.heap.size≤w.heap.size+2 by omega) _⟩
   ·rw[h0,h1,h2] at E;go_wp2
    refine rY (rZ Tryz.results263 _ _ (w.heap.size+2) _ _ _ _ rfl (set2 (ku HR) _ _) Tryz.underlying362 rfl (by kernel_rfl)) rfl ?_;exact ⟨by rw[ku E];rfl,((ku HB).setCell (show w.heap.size≤w.heap.size+2 by omega) _).setCell (show w.heap.size≤w.heap.size+2 by omega) _⟩
  ·rw[h0,h1] at E;go_wp2
   refine rY (rZ Tryz.results263 _ _ (w.heap.size+2) _ _ _ _ rfl (set2 (ku HR) _ _) Tryz.underlying362 rfl (by kernel_rfl)) rfl ?_;exact ⟨by rw[ku E];rfl,((ku HB).setCell (show w.heap.size≤w.heap.size+2 by omega) _).setCell (show w.heap.size≤w.heap.size+2 by omega) _⟩
 ·rw[h0] at E;go_wp2
  refine rY (rZ Tryz.results263 _ _ (w.heap.size+2) _ _ _ _ rfl (set2 (ku HR) _ _) Tryz.underlying362 rfl (by kernel_rfl)) rfl ?_;exact ⟨by rw[ku E];rfl,((ku HB).setCell (show w.heap.size≤w.heap.size+2 by omega) _).setCell (show w.heap.size≤w.heap.size+2 by omega) _⟩
def qk4 (tab:Tab):Prop:=∀ s,(qo tab s).var.si.name.text.size≤1000
def kjd (tab:Tab)(l:List PP)(n:Tok):VT:=
 if fpB l n.text.toList then ⟨4,(fpP l n.text.toList).set_.text⟩
 else if (qo tab n.text.toList).role==3 then ⟨3,(qo tab n.text.toList).kind⟩
 else if (qo tab n.text.toList).role==4&&!(qo tab n.text.toList).var.arr then kzc tab (qo tab n.text.toList).var.si else jq1
theorem zj1 (w:World)(b lo:Nat)(tab:Tab)(l:List PP)(pa:Option Addr)(pn pc:Nat)(n:Tok)(ht:kqw w b tab)(htz:qk4 tab)(ho:w.ownsRow lo 352 4 (.slice pa pn pc) l.length (jw l))(hl:l.length≤1000)(hs:n.text.size≤1000) :
  Calls Tryz.prog 261 #[tyV b (.slice pa pn pc),ptV n] w fun e w'=>e=.returned (vtV (kjd tab l n))∧Below w.heap.size w w':=by
 obtain ⟨ps,hps⟩:∃ ps,ps=Value.slice pa pn pc:=⟨_,rfl⟩;rw[←hps] at ho ⊢;have E:=hide (show kjd tab l n=if fpB l n.text.toList then ⟨4,(fpP l n.text.toList).set_.text⟩
  else if (qo tab n.text.toList).role==3 then ⟨3,(qo tab n.text.toList).kind⟩
  else if (qo tab n.text.toList).role==4&&!(qo tab n.text.toList).var.arr then kzc tab (qo tab n.text.toList).var.si else jq1 from rfl)
 obtain ⟨W,hW⟩:∃ W,W=((w.alloc (.cells #[.map (some b),ps] 301)).alloc (.cells #[.string n.text,.int .i64 n.at_] 107)).alloc (.cells #[.int .i64 0,.string ⟨#[]⟩] 362):=⟨_,rfl⟩;have hbW:Below w.heap.size w W:=by rw[hW];exact (kje w _ _).trans ((below_alloc1 _ _).mono (by simp;omega))
 have hsW:W.heap.size=w.heap.size+3:=by rw[hW];simp
 have hT:W.heap[w.heap.size]?=some (.cells #[.map (some b),ps] 301 (0,0)):=by rw[hW];exact qp (qp (qy _ _))
 have hX:W.heap[w.heap.size+1]?=some (.cells #[.string n.text,.int .i64 n.at_] 107 (0,0)):=by
  rw[hW];have:=qy (w.alloc (.cells #[.map (some b),ps] 301)) (.cells #[.string n.text,.int .i64 n.at_] 107);simp only[tJ] at this;exact qp this
 have hR:W.heap[w.heap.size+2]?=some (.cells #[.int .i64 0,.string ⟨#[]⟩] 362 (0,0)):=by
  rw[hW];have:=qy ((w.alloc (.cells #[.map (some b),ps] 301)).alloc (.cells #[.string n.text,.int .i64 n.at_] 107)) (.cells #[.int .i64 0,.string ⟨#[]⟩] 362);simp only[tJ] at this;exact this
 have hM:kqw W b tab:=ht.kept hbW;have HFP:=hide (kk1 W lo l ps n (qj ho hbW) hl);have hqs:=htz n.text.toList;obtain ⟨t0,t1,_⟩:=yj hT;obtain ⟨x0,x1,_⟩:=yj hX;have HT:=hide hT;have HX:=hide hX;have HR:=hide hR;have HB:=hide hbW;have HM:=hide hM;have HWE:=hide hW.symm;generalize kjd tab l n=fin at *;clear hR hbW hW hM ht hT hX ho;subst hps;unfold tyV ptV vtV at *;go_enter Tryz.func261,Tryz.ntmps261
 go_upto_region 1 with fail
 rw[ku HWE,show w.heap.size+1+1=w.heap.size+2 from rfl];go_wp2_with fail
 refine (ku HFP).mono ?_;rintro e w1 ⟨rfl,hb1⟩;have hs1:=hb1.size;generalize fpP l n.text.toList=p at *;generalize fpB l n.text.toList=r at *;have hR1:=(hb1.block (w.heap.size+2) (by omega)).trans (ku HR);have hT1:=(hb1.block w.heap.size (by omega)).trans (ku HT);have hX1:=(hb1.block (w.heap.size+1) (by omega)).trans (ku HX);have hM1:=(ku HM).kept hb1;have hlk:=kxi (hM1.kept (below_alloc1 w1 (.cells #[.string p.name.text,.int .i64 p.name.at_,.string p.set_.text,.int .i64 p.set_.at_] 352))) hs;obtain ⟨t0,t1,_⟩:=yj hT1;obtain ⟨x0,x1,_⟩:=yj hX1;obtain ⟨r0,r1,r2,r3⟩:=yj hR1;have HB1:=hide ((ku HB).trans (hb1.mono (by omega)));have HR1:=hide hR1;have HT1:=hide hT1;have HM1:=hide hM1;have hlt0:w.heap.size<w1.heap.size:=by omega
 have hlt1:w.heap.size+1<w1.heap.size:=by omega
 have hlt2:w.heap.size+2<w1.heap.size:=by omega
 clear hb1 hR1 hT1 hX1 hM1 HFP HR HT HX HM HB hs1 hsW;unfold paV;cases r
 case true=>
  go_wp2
  refine rY (rZ Tryz.results261 _ _ (w.heap.size+2) _ _ _ _ rfl (qp (set2 (ku HR1) _ _)) Tryz.underlying362 rfl (by kernel_rfl)) rfl ?_;exact ⟨by rw[ku E];rfl,((((ku HB1).setCell (show w.heap.size≤w.heap.size+2 by omega) _).setCell (show w.heap.size≤w.heap.size+2 by omega) _).alloc (by simp[World.setCell];omega) _)⟩
 case false=>
  generalize qo tab n.text.toList=q at *;simp only[qjb,qqf,kqx,fD,lK] at hlk;cases h3:(q.role==3)
  ·rw[h3] at E;cases h4:(q.role==4)
   ·rw[h4] at E;go_wp2
    refine rY (rZ Tryz.results261 _ _ (w.heap.size+2) _ _ _ _ rfl (qp (qp (set2 (ku HR1) _ _))) Tryz.underlying362 rfl (by kernel_rfl)) rfl ?_;exact ⟨by rw[ku E];rfl,(((((ku HB1).setCell (show w.heap.size≤w.heap.size+2 by omega) _).setCell (show w.heap.size≤w.heap.size+2 by omega) _).alloc (by simp[World.setCell];omega) _).alloc (by simp[World.setCell];omega) _)⟩
   ·rw[h4] at E;cases ha:q.var.arr
    ·rw[ha] at E hlk;have HSI:=hide (qy9 ((w1.alloc (.cells #[.string p.name.text,.int .i64 p.name.at_,.string p.set_.text,.int .i64 p.set_.at_] 352)).alloc (.cells #[.int .i64 q.role,.int .i64 q.place,.string q.kind,.string q.var.name.text,.int .i64 q.var.name.at_,.bool false,.string q.var.over.text,.int .i64 q.var.over.at_,.int .i64 q.var.si.form,.int .i64 (gu q.var.si.top.text),.int .i64 q.var.si.top.at_,.string q.var.si.name.text,.int .i64 q.var.si.name.at_] 294)) b tab (.slice pa pn pc) q.var.si (((ku HM1).kept (below_alloc1 _ _)).kept (below_alloc1 _ _)) hqs rfl);unfold tyV siV vtV at HSI;go_wp2_with fail
     refine (ku HSI).mono ?_;rintro e w3 ⟨rfl,hb3⟩;have hs3:=hb3.size;simp at hs3;have hR3:=(hb3.block (w.heap.size+2) (by simp;omega)).trans (qp (qp (ku HR1)));obtain ⟨s0,s1,s2,s3⟩:=yj hR3;have HR3:=hide hR3;have HB3:=hide ((((ku HB1).alloc (by omega) _).alloc (by simp;omega) _).trans (hb3.mono (by simp;omega)));clear hb3 hR3 HSI;go_wp2
     refine rY (rZ Tryz.results261 _ _ (w.heap.size+2) _ _ _ _ rfl (set2 (ku HR3) _ _) Tryz.underlying362 rfl (by kernel_rfl)) rfl ?_;exact ⟨by rw[ku E];rfl,((ku HB3).setCell (show w.heap.size≤w.heap.size+2 by omega) _).setCell (show w.heap.size≤w.heap.size+2 by omega) _⟩
    ·rw[ha] at E hlk;go_wp2
     refine rY (rZ Tryz.results261 _ _ (w.heap.size+2) _ _ _ _ rfl (qp (qp (set2 (ku HR1) _ _))) Tryz.underlying362 rfl (by kernel_rfl)) rfl ?_;exact ⟨by rw[ku E];rfl,(((((ku HB1).setCell (show w.heap.size≤w.heap.size+2 by omega) _).setCell (show w.heap.size≤w.heap.size+2 by omega) _).alloc (by simp[World.setCell];omega) _).alloc (by simp[World.setCell];omega) _)⟩
  ·rw[h3] at E;go_wp2
   refine rY (rZ Tryz.results261 _ _ (w.heap.size+2) _ _ _ _ rfl (qp (qp (set2 (ku HR1) _ _))) Tryz.underlying362 rfl (by kernel_rfl)) rfl ?_;exact ⟨by rw[ku E];rfl,(((((ku HB1).setCell (show w.heap.size≤w.heap.size+2 by omega) _).setCell (show w.heap.size≤w.heap.size+2 by omega) _).alloc (by simp[World.setCell];omega) _).alloc (by simp[World.setCell];omega) _)⟩
def qkh (tab:Tab)(l:List PP)(i s:Tok):Bool:=(kjd tab l i).fam==4&&(kjd tab l i).name.toList==s.text.toList
theorem jqr (w:World)(b lo:Nat)(tab:Tab)(l:List PP)(pa:Option Addr)(pn pc:Nat)(i s:Tok)(ht:kqw w b tab)(htz:qk4 tab)(ho:w.ownsRow lo 352 4 (.slice pa pn pc) l.length (jw l))(hl:l.length≤1000)(hs:i.text.size≤1000) :
  Calls Tryz.prog 262 #[tyV b (.slice pa pn pc),ptV i,ptV s] w fun e w'=>e=.returned (.bool (qkh tab l i s))∧Below w.heap.size w w':=by
 have E:=hide (show qkh tab l i s=((kjd tab l i).fam==4&&(kjd tab l i).name.toList==s.text.toList) from rfl);have HB:=hide ((kje w (.cells #[.map (some b),.slice pa pn pc] 301) (.cells #[.string i.text,.int .i64 i.at_] 107)).trans ((below_alloc1 _ (.cells #[.string s.text,.int .i64 s.at_] 107)).mono (by simp;omega))).drew;have HSG:=hide (zj1 (((w.alloc (.cells #[.map (some b),.slice pa pn pc] 301)).alloc (.cells #[.string i.text,.int .i64 i.at_] 107)).alloc (.cells #[.string s.text,.int .i64 s.at_] 107)).drew b lo tab l pa pn pc i (ht.kept (ku HB)) htz (qj ho (ku HB)) hl hs);have HX:=hide (show (((w.alloc (.cells #[.map (some b),.slice pa pn pc] 301)).alloc (.cells #[.string i.text,.int .i64 i.at_] 107)).alloc (.cells #[.string s.text,.int .i64 s.at_] 107)).drew.heap[w.heap.size+2]?=some (.cells #[.string s.text,.int .i64 s.at_] 107 (0,0)) by
  have:=qy ((w.alloc (.cells #[.map (some b),.slice pa pn pc] 301)).alloc (.cells #[.string i.text,.int .i64 i.at_] 107)) (.cells #[.string s.text,.int .i64 s.at_] 107);simp only[tJ] at this;exact this)
 unfold tyV ptV vtV at *;generalize qkh tab l i s=fin at *;generalize kjd tab l i=q at *;clear ht ho htz;go_enter Tryz.func262,Tryz.ntmps262
 go_wp2
 by_cases h4:q.fam=4
 ·by_cases hn:q.name.toList=s.text.toList
  ·go_region_law ((go_simp;go_at_call 261;refine (ku HSG).mono ?_;rintro e w1 ⟨rfl,hb1⟩;obtain ⟨y0,y1,_⟩:=yj ((hb1.block (w.heap.size+2) (by simp)).trans (ku HX));dsimp only))
   all_goals
    go_wp2
    go_ret
    exact ⟨jf (by rw[ku E];simp[h4,hn]),(ku HB).trans (hb1.mono (by simp;omega))⟩
  ·go_region_law ((go_simp;go_at_call 261;refine (ku HSG).mono ?_;rintro e w1 ⟨rfl,hb1⟩;obtain ⟨y0,y1,_⟩:=yj ((hb1.block (w.heap.size+2) (by simp)).trans (ku HX));dsimp only))
   all_goals
    go_wp2
    go_ret
    exact ⟨jf (by rw[ku E];simp[h4,hn]),(ku HB).trans (hb1.mono (by simp;omega))⟩
 ·go_region_law ((go_simp;go_at_call 261;refine (ku HSG).mono ?_;rintro e w1 ⟨rfl,hb1⟩;obtain ⟨y0,y1,_⟩:=yj ((hb1.block (w.heap.size+2) (by simp)).trans (ku HX));dsimp only))
  all_goals
   go_wp2
   go_ret
   exact ⟨jf (by rw[ku E];simp[h4]),(ku HB).trans (hb1.mono (by simp;omega))⟩
theorem jxk (q:Ent)(w:World):(Instr.field 294 (qjb q) 3).run Tryz.prog w=.ok (.agg #[.string q.var.name.text,.int .i64 q.var.name.at_,.bool q.var.arr,.string q.var.over.text,.int .i64 q.var.over.at_,.int .i64 q.var.si.form,.int .i64 (gu q.var.si.top.text),.int .i64 q.var.si.top.at_,.string q.var.si.name.text,.int .i64 q.var.si.name.at_]) w:=by kernel_rfl
def kx4 (tab:Tab)(l:List PP)(n i:Tok):VT:=
 if (!(i.kind.toList==[])) then (if (qo tab n.text.toList).var.arr then (if qkh tab l i (qo tab n.text.toList).var.over then kzc tab (qo tab n.text.toList).var.si else jq1) else jq1) else kjd tab l n
theorem zqs (w:World)(b lo:Nat)(tab:Tab)(l:List PP)(pa:Option Addr)(pn pc:Nat)(n i:Tok)(ht:kqw w b tab)(htz:qk4 tab)(ho:w.ownsRow lo 352 4 (.slice pa pn pc) l.length (jw l))(hl:l.length≤1000)(hs:∀ y∈kjb n i,y.text.size≤1000) :
  Calls Tryz.prog 244 #[tyV b (.slice pa pn pc),pl5 n i] w fun e w'=>e=.returned (vtV (kx4 tab l n i))∧Below w.heap.size w w':=by
 obtain ⟨ps,hps⟩:∃ ps,ps=Value.slice pa pn pc:=⟨_,rfl⟩;have hsn:n.text.size≤1000:=hs n (by unfold kjb;split<;>simp);have hsi:(!(i.kind.toList==[]))=true→i.text.size≤1000:=fun e=>hs i (by unfold kjb;rw[nP] at e;rw[e];simp)
 have E:=hide (show kx4 tab l n i=if (!(i.kind.toList==[])) then (if (qo tab n.text.toList).var.arr then (if qkh tab l i (qo tab n.text.toList).var.over then kzc tab (qo tab n.text.toList).var.si else jq1) else jq1) else kjd tab l n from rfl);have hqs:=htz n.text.toList;generalize kx4 tab l n i=fin at *;unfold pl5;generalize (!(i.kind.toList==[]))=d at *;rw[←hps] at ho ⊢;obtain ⟨W,hW⟩:∃ W,W=((w.alloc (.cells #[.map (some b),ps] 301)).alloc (.cells #[.string n.text,.int .i64 n.at_,.bool d,.string i.text,.int .i64 i.at_] 332)).alloc (.cells #[.int .i64 0,.string ⟨#[]⟩] 362):=⟨_,rfl⟩;have hbW:Below w.heap.size w W:=by rw[hW];exact (kje w _ _).trans ((below_alloc1 _ _).mono (by simp;omega))
 have hsW:W.heap.size=w.heap.size+3:=by rw[hW];simp
 have hT:W.heap[w.heap.size]?=some (.cells #[.map (some b),ps] 301 (0,0)):=by rw[hW];exact qp (qp (qy _ _))
 have hX:W.heap[w.heap.size+1]?=some (.cells #[.string n.text,.int .i64 n.at_,.bool d,.string i.text,.int .i64 i.at_] 332 (0,0)):=by
  rw[hW];have:=qy (w.alloc (.cells #[.map (some b),ps] 301)) (.cells #[.string n.text,.int .i64 n.at_,.bool d,.string i.text,.int .i64 i.at_] 332);simp only[tJ] at this;exact qp this
 have hR:W.heap[w.heap.size+2]?=some (.cells #[.int .i64 0,.string ⟨#[]⟩] 362 (0,0)):=by
  rw[hW];have:=qy ((w.alloc (.cells #[.map (some b),ps] 301)).alloc (.cells #[.string n.text,.int .i64 n.at_,.bool d,.string i.text,.int .i64 i.at_] 332)) (.cells #[.int .i64 0,.string ⟨#[]⟩] 362);simp only[tJ] at this;exact this
 have hM:kqw W b tab:=ht.kept hbW;have hOW:=qj ho hbW;have hlk:=kxi hM hsn;have hf:=jxk (qo tab n.text.toList);subst hps;have HSG:=hide (zj1 W b lo tab l pa pn pc n hM htz hOW hl hsn);obtain ⟨t0,t1,_⟩:=yj hT;obtain ⟨x0,x1,x2,x3,x4,_⟩:=zo hX;obtain ⟨r0,r1,r2,r3⟩:=yj hR;have HT:=hide hT;have HX:=hide hX;have HR:=hide hR;have HB:=hide hbW;have HM:=hide hM;have HO:=hide hOW;have HWE:=hide hW.symm;have hlt0:w.heap.size<W.heap.size:=by omega
 have hlt1:w.heap.size+1<W.heap.size:=by omega
 have hlt2:w.heap.size+2<W.heap.size:=by omega
 clear hR hbW hW hM ht hT hX ho hOW hs hsW;unfold tyV ptV vtV at *;go_enter Tryz.func244,Tryz.ntmps244
 go_upto_region 1 with fail
 rw[ku HWE,show w.heap.size+1+1=w.heap.size+2 from rfl];cases d
 case false=>
  clear hsi hlk hf;go_wp2_with fail
  refine (ku HSG).mono ?_;rintro e w1 ⟨rfl,hb1⟩;have hR1:=(hb1.block (w.heap.size+2) (by omega)).trans (ku HR);obtain ⟨s0,s1,s2,s3⟩:=yj hR1;have HR1:=hide hR1;have HB1:=hide ((ku HB).trans (hb1.mono (by omega)));clear hb1 hR1 HSG;go_wp2
  refine rY (rZ Tryz.results244 _ _ (w.heap.size+2) _ _ _ _ rfl (set2 (ku HR1) _ _) Tryz.underlying362 rfl (by kernel_rfl)) rfl ?_;exact ⟨by rw[ku E];rfl,((ku HB1).setCell (show w.heap.size≤w.heap.size+2 by omega) _).setCell (show w.heap.size≤w.heap.size+2 by omega) _⟩
 case true=>
 have hsi':=hsi rfl;have HIX:=hide (jqr (W.alloc (.cells #[.string (qo tab n.text.toList).var.name.text,.int .i64 (qo tab n.text.toList).var.name.at_,.bool (qo tab n.text.toList).var.arr,.string (qo tab n.text.toList).var.over.text,.int .i64 (qo tab n.text.toList).var.over.at_,.int .i64 (qo tab n.text.toList).var.si.form,.int .i64 (gu (qo tab n.text.toList).var.si.top.text),.int .i64 (qo tab n.text.toList).var.si.top.at_,.string (qo tab n.text.toList).var.si.name.text,.int .i64 (qo tab n.text.toList).var.si.name.at_] 121)) b lo tab l pa pn pc i (qo tab n.text.toList).var.over ((ku HM).kept (below_alloc1 _ _)) htz ((ku HO).alloc _) hl hsi');unfold tyV ptV at HIX;generalize qo tab n.text.toList=q at *;clear hsi HSG;cases ha:q.var.arr
 ·rw[ha] at E hf;go_wp2
  refine rY (rZ Tryz.results244 _ _ (w.heap.size+2) _ _ _ _ rfl (qp (set2 (ku HR) _ _)) Tryz.underlying362 rfl (by kernel_rfl)) rfl ?_;exact ⟨by rw[ku E];rfl,((((ku HB).setCell (show w.heap.size≤w.heap.size+2 by omega) _).setCell (show w.heap.size≤w.heap.size+2 by omega) _).alloc (by simp[World.setCell];omega) _)⟩
 ·rw[ha] at E hf HIX;go_wp2_with fail
  refine (ku HIX).mono ?_;rintro e w1 ⟨rfl,hb1⟩;generalize qkh tab l i q.var.over=c at *;have hs1:=hb1.size;simp at hs1;have hv1:=(hb1.block W.heap.size (by simp)).trans (qy _ _);have hT1:=(hb1.block w.heap.size (by simp;omega)).trans (qp (ku HT));have hR1:=(hb1.block (w.heap.size+2) (by simp;omega)).trans (qp (ku HR));have hM1:=((ku HM).kept (below_alloc1 _ _)).kept hb1;obtain ⟨⟨_,_,_,_,_,g5,g6,g7,g8,g9⟩,_⟩:=kk5 hv1;obtain ⟨t0,t1,_⟩:=yj hT1;obtain ⟨s0,s1,s2,s3⟩:=yj hR1;have HR1:=hide hR1;have HB1:=hide (((ku HB).alloc (by omega) _).trans (hb1.mono (by simp;omega)));have HSI:=hide (qy9 w1 b tab (.slice pa pn pc) q.var.si hM1 hqs rfl);unfold tyV siV vtV at HSI;clear hb1 hv1 hT1 hR1 hM1 HIX;cases c
  ·go_wp2
   refine rY (rZ Tryz.results244 _ _ (w.heap.size+2) _ _ _ _ rfl (set2 (ku HR1) _ _) Tryz.underlying362 rfl (by kernel_rfl)) rfl ?_;exact ⟨by rw[ku E];rfl,((ku HB1).setCell (show w.heap.size≤w.heap.size+2 by omega) _).setCell (show w.heap.size≤w.heap.size+2 by omega) _⟩
  ·go_wp2_with fail
   refine (ku HSI).mono ?_;rintro e w3 ⟨rfl,hb3⟩;have hR3:=(hb3.block (w.heap.size+2) (by omega)).trans (ku HR1);obtain ⟨u0,u1,u2,u3⟩:=yj hR3;have HR3:=hide hR3;have HB3:=hide ((ku HB1).trans (hb3.mono (by omega)));clear hb3 hR3 HSI;go_wp2
   refine rY (rZ Tryz.results244 _ _ (w.heap.size+2) _ _ _ _ rfl (set2 (ku HR3) _ _) Tryz.underlying362 rfl (by kernel_rfl)) rfl ?_;exact ⟨by rw[ku E];rfl,((ku HB3).setCell (show w.heap.size≤w.heap.size+2 by omega) _).setCell (show w.heap.size≤w.heap.size+2 by omega) _⟩
end Go.Proofs.YtpmcnonmkghokaaGreatDoor
namespace Go.Proofs.YtpmcnonmkghokaaGreatDoor
open Go.RowKit
structure NamesFine (t:PTree):Prop where
 uniq:∀ i j,j<i→∀ hi:i<(zf t).length,∀ hj:j<(zf t).length,((zf t)[j]).text.toList≠((zf t)[i]).text.toList
 pars:∀ r∈t.rules++t.nevers,∀ p∈r.params,∀ x∈zf t,x.text.toList≠p.name.text.toList
 psets:∀ r∈t.rules++t.nevers,∀ p∈r.params,¬vk (kj6 t) p.set_.text.toList<0
 over:∀ v∈t.vars,(v.over.kind.toList==[110,97,109,101])=true→¬vk (kj6 t) v.over.text.toList<0
 type_:∀ v∈t.vars,(v.type_.kind.toList==[110,97,109,101])=true→vk (kj6 t) v.type_.text.toList<0→¬vk (kja t) v.type_.text.toList<0
theorem jzt {t:PTree}(h:uf (zw8 t) (jxi t)<0):NamesFine t:=by
 rw[zzk,zxn,qys] at h;have e:=zjl h;have no:∀ y,y ∉ (jl (dG (zf t)) (zf t) 0++jl (dR (zf t)) (t.rules++t.nevers) 0)++(jl (uV t) t.vars 0++jl (uR t) (t.rules++t.nevers) 0):=fun y=>by rw[e];simp
 refine ⟨?_,?_,?_,?_,?_⟩
 ·intro i j hij hi hj e;exact no _ (wG _ (wG _ (zw2.mpr ⟨i,hi,rfl,j,hij,e⟩)))
 ·intro r hr p hp x hx e;obtain ⟨i,hi,rfl⟩:=sZ hr;obtain ⟨k,hk,rfl⟩:=sZ hp;refine no (t.rules++t.nevers)[i].params[k].name (wG _ (rW _ ((je _ _).mpr ⟨i,hi,?_⟩)));unfold dR;refine (je _ _).mpr ⟨k,hk,?_⟩;unfold dP;refine wG _ ((qqh (g:=fun y:Tok=>kqz (y.text.toList==_) _) _).mpr ⟨x,hx,?_⟩);rw[jd,wP];exact ⟨e,rfl⟩
 ·intro r hr p hp hlt;obtain ⟨i,hi,rfl⟩:=sZ hr;obtain ⟨k,hk,rfl⟩:=sZ hp;refine no (t.rules++t.nevers)[i].params[k].set_ (rW _ (rW _ ((je _ _).mpr ⟨i,hi,?_⟩)));unfold uR;refine wG _ ((je _ _).mpr ⟨k,hk,?_⟩);unfold uP;rw[jd,nU];exact ⟨hlt,rfl⟩
 ·intro v hv hk hlt;obtain ⟨i,hi,rfl⟩:=sZ hv;refine no t.vars[i].over (rW _ (wG _ ((je _ _).mpr ⟨i,hi,?_⟩)));unfold uV;rw[rM,jd,wY,nU];exact Or.inl ⟨⟨hk,hlt⟩,rfl⟩
 ·intro v hv hk hlt hlt2;obtain ⟨i,hi,rfl⟩:=sZ hv;refine no t.vars[i].type_ (rW _ (wG _ ((je _ _).mpr ⟨i,hi,?_⟩)));unfold uV;refine rW _ (jd.mpr ⟨?_,rfl⟩);rw[wY,wY,nU,nU];exact ⟨⟨hk,hlt⟩,hlt2⟩
theorem jko {t:PTree}(h:NamesFine t){x:Tok × Ent}(hx:x∈kqe (jq t)):qo (zx (jq t)) x.1.text.toList={ x.2 with place:=x.1.at_ }:=by
 rw[kjy];obtain ⟨i,hi,rfl⟩:=sZ hx;rcases kju (kqe (jq t)) (kqe (jq t))[i].1.text.toList with ⟨_,hn⟩|⟨j,hj,h1,h2,e⟩
 ·exact (hn _ (rJ hi) rfl).elim
 ·have hle:j≤i:=by
   apply sJ;intro hc;exact h2 i (by omega) rfl
  by_cases hne:j=i
  ·subst hne;exact e
  ·have:=h.uniq i j (by omega) (by rw[←kvk];exact hi) (by rw[←kvk];exact hj);rw[←kkn t hj,←kkn t hi] at this;exact (this h1).elim
theorem vjp {t:PTree}(h:NamesFine t)(s:List UInt8):((qo (zx (jq t)) s).role=4↔0≤vk (uh t) s)∧(0≤vk (uh t) s→∃ hi:(vk (uh t) s).toNat<t.vars.length,(qo (zx (jq t)) s).var=cu t.vars[(vk (uh t) s).toNat]):=by
 have back:0≤vk (uh t) s→(qo (zx (jq t)) s).role=4∧∃ hi:(vk (uh t) s).toNat<t.vars.length,(qo (zx (jq t)) s).var=cu t.vars[(vk (uh t) s).toNat]:=by
  intro h0;obtain ⟨hi,he⟩:=qqt h0;have hi':(vk (uh t) s).toNat<t.vars.length:=by simpa[uh] using hi
  have he':(t.vars[(vk (uh t) s).toNat]).name.text.toList=s:=by
   have:(uh t)[(vk (uh t) s).toNat]=(t.vars[(vk (uh t) s).toNat]).name.text:=by simp[uh]
   rw[←this];exact he
  have:=jko h (zwf (rJ hi'));simp only[he'] at this;rw[this];exact ⟨rfl,hi',rfl⟩
 refine ⟨⟨?_,fun h0=>(back h0).1⟩,fun h0=>(back h0).2⟩;intro hr;rw[kjy] at hr;rcases kju (kqe (jq t)) s with ⟨e,_⟩|⟨j,hj,g1,g2,e⟩
 ·rw[e] at hr;cases hr
 ·rw[e] at hr;simp only at hr;rcases kvx _ _ (rJ hj) with g|g|g|g|g|g
  ·have:=g.1;omega
  ·have:=g.1;omega
  ·have:=g.1;omega
  ·obtain ⟨_,v,hv,ek,_⟩:=g;have hv2:v∈t.vars.map cu:=hv;obtain ⟨v0,hv0,rfl⟩:=sV.mp hv2;apply sJ;intro hc;exact (kkk (uh t) s).mp (by omega) v0.name.text (tC (f:=fun s:PVar=>s.name.text) hv0) (by rw[←g1,ek];rfl)
  ·have:=g.1;omega
  ·have:=g.1;omega
theorem jzi (t:PTree)(s:List UInt8)(h:¬(qo (zx (jq t)) s).role=4):(qo (zx (jq t)) s).var.arr=false:=by
 have all:∀ x∈kqe (jq t),¬x.2.role=4→x.2.var.arr=false:=by
  intro x hx hr;unfold kqe at hx;simp only[rM,su] at hx;rcases hx with ⟨q,hq,hx⟩|⟨q,hq,hx⟩|⟨q,hq,hx⟩|⟨q,hq,hx⟩|⟨q,hq,hx⟩
  ·unfold jxw at hx;rw[tV] at hx;subst hx;rfl
  ·unfold jj2 at hx;rw[tK,sV] at hx;rcases hx with rfl|⟨y,hy,rfl⟩<;>rfl
  ·unfold jqi at hx;rw[tV] at hx;subst hx;exact (hr rfl).elim
  ·unfold jj0 at hx;rw[tV] at hx;subst hx;rfl
  ·unfold jj1 at hx;rw[tV] at hx;subst hx;rfl
 rw[kjy] at h ⊢;rcases kju (kqe (jq t)) s with ⟨e,_⟩|⟨j,hj,g1,g2,e⟩
 ·rw[e];rfl
 ·rw[e] at h ⊢;exact all _ (rJ hj) h
def kv9:PX→Prop
 | .nil=>True
 | .node _ _ x a c=>((5≤opN x.op.toList→isNil a=false)∧(6≤opN x.op.toList→isNil c=false))∧kv9 a∧kv9 c
def kqg (tab:Tab)(l:List PP):PX→VT
 | .nil=>jq1
 | .node _ _ x a c=>
  if (opN x.op.toList==0||opN x.op.toList==1) then ⟨1,⟨#[]⟩⟩ else if opN x.op.toList==3 then ⟨2,⟨#[]⟩⟩ else if opN x.op.toList==2 then ⟨5,⟨#[]⟩⟩
  else if opN x.op.toList==4 then kx4 tab l x.name x.index else if opN x.op.toList==5 then kkh 1 ((kqg tab l a).fam==1) else qzr (opN x.op.toList) (kqg tab l a) (kqg tab l c)
def jz2 (tab:Tab)(l:List PP)(p v:PX):Bool:=((qo tab (zqw p).toList).role==4)&&(kyw (kqg tab l p) (kqg tab l v)||((kqg tab l p).fam==4&&(kqg tab l v).fam==5))
def kzf (tab:Tab)(l:List PP):PB→Bool
 | .nil=>true
 | .node _ _ a .nil n=>jz2 tab l a.place a.value&&kzf tab l n
 | .node _ _ a (.node _ _ _ t e) n=>(((kqg tab l a.cond).fam==1&&kzf tab l t)&&kzf tab l e)&&kzf tab l n
def kwx:PB→Prop
 | .nil=>True
 | .node _ _ a .nil n=>(kv9 a.value∧isNil a.value=false∧∃ x,a.place=.node 0 0 x .nil .nil∧x.op.toList=[112,108,97,99,101])∧kwx n
 | .node _ _ a (.node _ _ _ t e) n=>(kv9 a.cond∧isNil a.cond=false)∧kwx t∧kwx e∧kwx n
def qxs (tab:Tab)(r:PRule):Bool:=(kqg tab r.params r.guard).fam==1&&kzf tab r.params r.body
def jq6 (tab:Tab)(r:PRule):Bool:=(kqg tab r.params r.guard).fam==1
def kwr (tab:Tab)(m:MdL):Bool:=m.rules.all (qxs tab)&&m.nevers.all (jq6 tab)
theorem zww {o:List UInt8}(h:o∈zwy):o=[124]∨o=[38]∨o=[61,61]∨o=[33,61]∨o=[60]∨o=[43]∨o=[45]:=by
 unfold zwy at h;simpa using h
theorem kks.full:∀ {x:PX},kks x→kv9 x
 | .nil,h=>trivial
 | .node _ _ x a c,h=>by
  rcases h with ⟨h1,rfl,rfl⟩|⟨h1,h2,rfl⟩|⟨h1,h2,h3⟩
  ·refine ⟨⟨fun h5=>?_,fun h5=>?_⟩,trivial,trivial⟩<;>(exfalso;rcases h1 with (h1|h1|h1)|⟨h1,_⟩|⟨h1,_⟩<;>rw[h1] at h5<;>revert h5<;>decide)
  ·refine ⟨⟨fun _=>h2.some,fun h5=>?_⟩,h2.full,trivial⟩;exfalso;rw[h1] at h5;revert h5;decide
  ·exact ⟨⟨fun _=>h2.some,fun _=>h3.some⟩,h2.full,h3.full⟩
end Go.Proofs.YtpmcnonmkghokaaGreatDoor
