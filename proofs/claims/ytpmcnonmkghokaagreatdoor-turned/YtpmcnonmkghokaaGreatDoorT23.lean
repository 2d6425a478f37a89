import Derived.Test.YtpmcnonmkghokaaGreatDoorT22
import Derived.Test.YtpmcnonmkghokaaGreatDoorT18
import Derived.Test.YtpmcnonmkghokaaGreatDoorT21
import Derived.Test.YtpmcnonmkghokaaGreatDoorT17
set_option maxRecDepth 100000
set_option maxHeartbeats 8000000
set_option linter.unusedVariables false
set_option linter.unusedSimpArgs false
namespace Go.Proofs.YtpmcnonmkghokaaGreatDoor
open Go.RowKit
attribute [local go_sem ↓] Go.wp_at_zero Go.wp_at_succ
structure MdTy (m:MdL):Prop where
 rules:∀ r∈m.rules,kv9 r.guard∧isNil r.guard=false∧kwx r.body
 nevers:∀ r∈m.nevers,kv9 r.guard∧isNil r.guard=false
def jyd {α:Type}(W:World)(f:α→Bool)(items:List α)(i:Value)(wr:World):Prop:=
 ∃ k:Nat,k≤items.length∧i=.int .i64 k∧(items.drop k).all f=items.all f∧Below W.heap.size W wr
theorem jyd.start {α:Type}{W wr:World}{f:α→Bool}{items:List α}(hb:Below W.heap.size W wr):jyd W f items (.int .i64 0) wr:=⟨0,tu _,rfl,rfl,hb⟩
theorem jju {α:Type}{f:α→Bool}{items:List α}{k:Nat}(hk:k<items.length)(h:(items.drop k).all f=items.all f):items.all f=(f items[k]&&(items.drop (k+1)).all f):=by
 rw[←h,sQ hk,Jf]
theorem jjg {α:Type}{f:α→Bool}{items:List α}{k:Nat}(hk:¬k<items.length)(h:(items.drop k).all f=items.all f):items.all f=true:=by
 rw[←h,QM (by omega)];rfl
theorem zvx (w:World)(lo b:Nat)(tab:Tab)(x0 x1 x2 x3 x4:Value)(m:MdL)(h:kky lo w x0 x1 x2 x3 x4 m)(hM:kqw w b tab)(htz:qk4 tab)(hok:MdOk m)(hnm:MdNm m)(hty:MdTy m) :
  Calls Tryz.prog 94 #[.agg #[x0,x1,x2,x3,x4],.map (some b)] w fun e w'=>e=.returned (.bool (kwr tab m))∧Below w.heap.size w w':=by
 obtain ⟨h0,⟨c1,h1,k1⟩,h2,⟨c3,h3,k3⟩,⟨c4,h4,k4⟩⟩:=h;obtain ⟨_,_,_,hok3,hok4,_,_⟩:=hok;obtain ⟨W,hW⟩:∃ W,W=w.alloc (.cells #[x0,x1,x2,x3,x4] 68):=⟨_,rfl⟩;have hbW:Below w.heap.size w W:=by rw[hW];exact below_alloc1 _ _
 have hsW:W.heap.size=w.heap.size+1:=by rw[hW];simp
 have hMd:W.heap[w.heap.size]?=some (.cells #[x0,x1,x2,x3,x4] 68 (0,0)):=by rw[hW];exact qy _ _
 have vw:∀ {e size:Nat} {v:Value} {n:Nat} {xs:List Value},w.ownsRow lo e size v n xs→∃ a cap,v=.slice a n cap∧∀ i,i<n→∃ g,a=some ⟨g,0,none⟩∧∀ j,j<n * size→∀ u,xs[j]?=some u→W.cell? ⟨g,j,none⟩=some u:=by
  intro e size v n xs h;obtain ⟨a,cap,e1,hv⟩:=zq h;refine ⟨a,cap,e1,fun i hi=>?_⟩;obtain ⟨g,e2,_,hg,hc⟩:=hv i hi;exact ⟨g,e2,fun j hj u hu=>(hbW.cell (p:=⟨g,j,none⟩) hg).trans ((hc j hj).trans hu)⟩
 obtain ⟨a0,l0,n0,rfl⟩:=jy h0;obtain ⟨a1,l1,n1,rfl⟩:=jy h1;obtain ⟨a2,l2,n2,rfl⟩:=jy h2;obtain ⟨a3,p3,rfl,hv3⟩:=vw h3;obtain ⟨a4,p4,rfl,hv4⟩:=vw h4;have HV3:=hide hv3;have HV4:=hide hv4;have HK3:=hide k3;have HK4:=hide k4;have HM:=hide hM;have HB:=hide hbW;have HMd:=hide hMd;obtain ⟨m0,m1,m2,m3,m4,_⟩:=zo hMd;have HWE:=hide hW.symm;have HR0:=hide (jyd.start (W:=W) (wr:=W) (f:=qxs tab) (items:=m.rules) (Below.refl _ _));have HE:=hide (show kwr tab m=(m.rules.all (qxs tab)&&m.nevers.all (jq6 tab)) from rfl);generalize kwr tab m=fin at *;clear h0 h1 h2 h3 h4 k1 k3 k4 hv3 hv4 hM hbW hMd hW vw;go_enter Tryz.func94,Tryz.ntmps94
 go_upto_region 1 with fail
 rw[ku HWE];go_wp2_with fail
 go_loopw [6,7,14] (fun _ _ i wr=>jyd W (qxs tab) m.rules i wr) (fun _ _ i _=>m.rules.length-(intOf i).toNat)
 case atStart=>exact ku HR0
 case round=>
  obtain ⟨k,hk,rfl,hall,hb⟩:=hrel;have HBr:=hide hb;have hsz:=hb.size;by_cases hlt:k<m.rules.length
  ·obtain ⟨g,rfl,hc⟩:=ku HV3 k hlt;obtain ⟨pa,pn,pc,gp,ba,bn,bc,bcs,⟨f0,f1,f2,f3,f4⟩,hpo,hgx,hbo,hbi⟩:=zyw k hlt (ku HK3);have e0:=fJ hb (hc (k * 5) (by omega) _ f0);have e1:=fJ hb (hc (k * 5+1) (by omega) _ f1);have e2:=fJ hb (hc (k * 5+2) (by omega) _ f2);have e3:=fJ hb (hc (k * 5+3) (by omega) _ f3);have e4:=fJ hb (hc (k * 5+4) (by omega) _ f4);have hst:=jju hlt hall;obtain ⟨n1',n2',n3',n4',n5',n6'⟩:=hnm.rules _ (rJ hlt);obtain ⟨y1,y2,y3⟩:=hty.rules _ (rJ hlt);generalize m.rules[k]=r at e0 e1 e2 e3 e4 hpo hgx hbo hbi n1' n2' n3' n4' n5' n6' y1 y2 y3 hst;obtain ⟨X,hX⟩:∃ X,X=(wr.alloc (.cells #[.string r.name.text,.int .i64 r.name.at_,.slice pa pn pc,.pointer gp,.slice ba bn bc] 127)).alloc (.cells #[.map (some b),.slice pa pn pc] 301):=⟨_,rfl⟩;have hbX:Below wr.heap.size wr X:=by rw[hX];exact kje _ _ _
   have hsX:X.heap.size=wr.heap.size+2:=by rw[hX];simp
   have hRu:X.heap[wr.heap.size]?=some (.cells #[.string r.name.text,.int .i64 r.name.at_,.slice pa pn pc,.pointer gp,.slice ba bn bc] 127 (0,0)):=by rw[hX];exact qp (qy _ _)
   have hTy:X.heap[wr.heap.size+1]?=some (.cells #[.map (some b),.slice pa pn pc] 301 (0,0)):=by
    rw[hX];have:=qy (wr.alloc (.cells #[.string r.name.text,.int .i64 r.name.at_,.slice pa pn pc,.pointer gp,.slice ba bn bc] 127)) (.cells #[.map (some b),.slice pa pn pc] 301);simp only[tJ] at this;exact this
   have hwX:Below w.heap.size w X:=(ku HB).trans ((hb.trans (hbX.mono hsz)).mono (by omega));have HTR:=hide (qzc r.guard X b lo lo tab r.params pa pn pc (.pointer gp) ((ku HM).kept hwX) htz (qj hpo hwX) n1' (hgx.below hwX) y1 y2 n3');have HBF:=hide (fun (w1:World) (h1:Below w.heap.size w w1)=>vzz r.body w1 b lo lo none tab r.params pa pn pc (.slice ba bn bc) bcs ((ku HM).kept h1) htz (qj hpo h1) n1' (qj hbo h1) (hbi.stay fun k _ hk=>h1.block k hk) n4' y3 n5' n6');have hru:qxs tab r=((kqg tab r.params r.guard).fam==1&&kzf tab r.params r.body):=rfl;rw[hru] at hst;have HST:=hide hst;have HXE:=hide hX.symm;have HRu:=hide hRu;have HTy:=hide hTy;have HBX:=hide hbX;have HWX:=hide hwX;obtain ⟨q0,q1,q2,q3,q4,_⟩:=zo hRu;obtain ⟨t0,t1,_⟩:=yj hTy;generalize (kqg tab r.params r.guard).fam=fc at *;generalize kzf tab r.params r.body=gb at *;unfold tyV at *;clear hc f0 f1 f2 f3 f4 hpo hgx hbo hbi n1' n2' n3' n4' n5' n6' y1 y2 y3 hst hX hbX hRu hTy hwX hb hall hru HR0;go_upto_region 5 with fail
   rw[ku HXE];go_wp2_with fail
   refine (ku HTR).mono ?_;rintro e w1 ⟨rfl,hb1⟩;have hRu1:=(hb1.block wr.heap.size (by omega)).trans (ku HRu);have hTy1:=(hb1.block (wr.heap.size+1) (by omega)).trans (ku HTy);have HB1:=hide ((ku HBr).trans (((ku HBX).trans (hb1.mono (by omega))).mono hsz));have HW1:=hide ((ku HWX).trans (hb1.mono (by omega)));have HBF1:=hide (ku HBF w1 (ku HW1));clear q0 q1 q2 q3 q4 t0 t1;obtain ⟨q0,q1,q2,q3,q4,_⟩:=zo hRu1;obtain ⟨t0,t1,_⟩:=yj hTy1;clear hb1 hRu1 hTy1 HRu HTy HBX HWX HTR HBF;cases hfc:(fc==1)
   ·rw[hfc] at HST;go_wp2
    go_ret
    exact ⟨by rw[ku HE,ku HST];rfl,(ku HB).trans ((ku HB1).mono (by omega))⟩
   ·rw[hfc] at HST;go_wp2_with fail
    refine (ku HBF1).mono ?_;rintro e w2 ⟨rfl,hb2⟩;have HB2:=hide ((ku HB1).trans (hb2.mono (ku HB1).size));clear hb2 HBF1;cases gb
    ·go_wp2
     go_ret
     exact ⟨by rw[ku HE,ku HST];rfl,(ku HB).trans ((ku HB2).mono (by omega))⟩
    ·go_wp2
     go_roundw
     case rel=>exact ⟨k+1,by omega,by go_num,by rw[ku HST];rfl,ku HB2⟩
     case measure=>simp[intOf];omega
  ·have hd:=jjg hlt hall;rw[hd,Qz] at HE;have hMr:=(hb.block w.heap.size (by omega)).trans (ku HMd);obtain ⟨_,_,_,_,z4,_⟩:=zo hMr;have HR1:=hide (jyd.start (W:=W) (wr:=wr) (f:=jq6 tab) (items:=m.nevers) hb);clear hd hall hb hMr HR0 m0 m1 m2 m3 m4;go_wp2_with fail
   go_loopw [9,10,38] (fun _ _ i wr=>jyd W (jq6 tab) m.nevers i wr) (fun _ _ i _=>m.nevers.length-(intOf i).toNat)
   case atStart=>exact ku HR1
   case round=>
    obtain ⟨k,hk,rfl,hall,hb⟩:=hrel;have HBr:=hide hb;have hsz:=hb.size;by_cases hlt:k<m.nevers.length
    ·obtain ⟨g,rfl,hc⟩:=ku HV4 k hlt;obtain ⟨pa,pn,pc,gp,⟨f0,f1,f2,f3⟩,hpo,hgx⟩:=zyi k hlt (ku HK4);have e0:=fJ hb (hc (k * 4) (by omega) _ f0);have e1:=fJ hb (hc (k * 4+1) (by omega) _ f1);have e2:=fJ hb (hc (k * 4+2) (by omega) _ f2);have e3:=fJ hb (hc (k * 4+3) (by omega) _ f3);have hst:=jju hlt hall;obtain ⟨n1',n2',n3'⟩:=hnm.nevers _ (rJ hlt);obtain ⟨y1,y2⟩:=hty.nevers _ (rJ hlt);generalize m.nevers[k]=r at e0 e1 e2 e3 hpo hgx n1' n2' n3' y1 y2 hst;obtain ⟨X,hX⟩:∃ X,X=(wr.alloc (.cells #[.string r.name.text,.int .i64 r.name.at_,.slice pa pn pc,.pointer gp] 130)).alloc (.cells #[.map (some b),.slice pa pn pc] 301):=⟨_,rfl⟩;have hbX:Below wr.heap.size wr X:=by rw[hX];exact kje _ _ _
     have hsX:X.heap.size=wr.heap.size+2:=by rw[hX];simp
     have hRu:X.heap[wr.heap.size]?=some (.cells #[.string r.name.text,.int .i64 r.name.at_,.slice pa pn pc,.pointer gp] 130 (0,0)):=by rw[hX];exact qp (qy _ _)
     have hTy:X.heap[wr.heap.size+1]?=some (.cells #[.map (some b),.slice pa pn pc] 301 (0,0)):=by
      rw[hX];have:=qy (wr.alloc (.cells #[.string r.name.text,.int .i64 r.name.at_,.slice pa pn pc,.pointer gp] 130)) (.cells #[.map (some b),.slice pa pn pc] 301);simp only[tJ] at this;exact this
     have hwX:Below w.heap.size w X:=(ku HB).trans ((hb.trans (hbX.mono hsz)).mono (by omega));have HTR:=hide (qzc r.guard X b lo lo tab r.params pa pn pc (.pointer gp) ((ku HM).kept hwX) htz (qj hpo hwX) n1' (hgx.below hwX) y1 y2 n3');have hru:jq6 tab r=((kqg tab r.params r.guard).fam==1):=rfl;rw[hru] at hst;have HST:=hide hst;have HXE:=hide hX.symm;have HBX:=hide hbX;obtain ⟨q0,q1,q2,q3,_⟩:=kx8 hRu;obtain ⟨t0,t1,_⟩:=yj hTy;generalize (kqg tab r.params r.guard).fam=fc at *;unfold tyV at *;clear hc f0 f1 f2 f3 hpo hgx n1' n2' n3' y1 y2 hst hX hbX hRu hTy hwX hb hall hru HR1;go_upto_region 12 with fail
     rw[ku HXE];go_wp2_with fail
     refine (ku HTR).mono ?_;rintro e w1 ⟨rfl,hb1⟩;have HB1:=hide ((ku HBr).trans (((ku HBX).trans (hb1.mono (by omega))).mono hsz));clear hb1 HTR q0 q1 q2 q3 t0 t1;cases hfc:(fc==1)
     ·rw[hfc] at HST;go_wp2
      go_ret
      exact ⟨by rw[ku HE,ku HST];rfl,(ku HB).trans ((ku HB1).mono (by omega))⟩
     ·rw[hfc] at HST;go_wp2
      go_roundw
      case rel=>exact ⟨k+1,by omega,by go_num,by rw[ku HST];rfl,ku HB1⟩
      case measure=>simp[intOf];omega
    ·have hd:=jjg hlt hall;rw[hd] at HE;clear hd hall;go_wp2
     go_ret
     exact ⟨by rw[ku HE];rfl,(ku HB).trans ((ku HBr).mono (by omega))⟩
def qxn (m:MdL):Int × Int:=
 if 0≤kvq m then (4,kvq m) else if 0≤kkg (zx m) m then (5,kkg (zx m) m) else if kwr (zx m) m then (0,0) else (6,0)
structure MdAll (m:MdL):Prop where
 ok:MdOk m
 sz:MdSz m
 nm:MdNm m
 ty:MdTy m
 tab:qk4 (zx m)
theorem kky.below {lo:Nat}{w w':World}{x0 x1 x2 x3 x4:Value}{m:MdL}(h:kky lo w x0 x1 x2 x3 x4 m)(hb:Below w.heap.size w w'):kky lo w' x0 x1 x2 x3 x4 m:=h.stay fun k _ hk=>hb.block k hk
theorem jve (w:World)(lo:Nat)(x0 x1 x2 x3 x4:Value)(m:MdL)(h:kky lo w x0 x1 x2 x3 x4 m)(ha:MdAll m) :
  Calls Tryz.prog 53 #[.agg #[x0,x1,x2,x3,x4]] w fun e w'=>e=.returned (.tuple #[.int .i64 (qxn m).1,.int .i64 (qxn m).2])∧Below w.heap.size w w':=by
 obtain ⟨⟨a0,n0,k0,rfl⟩,⟨a1,n1,k1,rfl⟩,⟨a2,n2,k2,rfl⟩,⟨a3,n3,k3,rfl⟩,⟨a4,n4,k4,rfl⟩⟩:=qzy h;obtain ⟨W,hW⟩:∃ W,W=w.alloc (.cells #[.slice a0 n0 k0,.slice a1 n1 k1,.slice a2 n2 k2,.slice a3 n3 k3,.slice a4 n4 k4] 68):=⟨_,rfl⟩;have hbW:Below w.heap.size w W:=by rw[hW];exact below_alloc1 _ _
 have hsW:W.heap.size=w.heap.size+1:=by rw[hW];simp
 have hMd:W.heap[w.heap.size]?=some (.cells #[.slice a0 n0 k0,.slice a1 n1 k1,.slice a2 n2 k2,.slice a3 n3 k3,.slice a4 n4 k4] 68 (0,0)):=by rw[hW];exact qy _ _
 have E:=hide (show qxn m=if 0≤kvq m then (4,kvq m) else if 0≤kkg (zx m) m then (5,kkg (zx m) m) else if kwr (zx m) m then (0,0) else (6,0) from rfl);have HTM:=hide (zva W lo _ _ _ _ _ m (h.below hbW) ha.ok);have HG:=hide (fun (w1:World) (h1:Below w.heap.size w w1)=>jxq w1 lo _ _ _ _ _ m (h.below h1) ha.ok ha.sz);have HWN:=hide (fun (w1:World) (b:Nat) (h1:Below w.heap.size w w1) (hm:kqw w1 b (zx m))=>zx4 w1 lo b (zx m) _ _ _ _ _ m (h.below h1) hm ha.ok ha.sz ha.nm);have HTF:=hide (fun (w1:World) (b:Nat) (h1:Below w.heap.size w w1) (hm:kqw w1 b (zx m))=>zvx w1 lo b (zx m) _ _ _ _ _ m (h.below h1) hm ha.tab ha.ok ha.nm ha.ty);have HMd:=hide hMd;have HB:=hide hbW;have HWE:=hide hW.symm;obtain ⟨m0,m1,m2,m3,m4,_⟩:=zo hMd;generalize qxn m=R at *;generalize kvq m=P at *;generalize kkg (zx m) m=N at *;generalize kwr (zx m) m=T at *;generalize zx m=tab at *;clear h ha hbW hMd hW;go_enter Tryz.func53,Tryz.ntmps53
 go_upto_region 1 with fail
 rw[ku HWE];go_wp2_with fail
 refine (ku HTM).mono ?_;rintro e w1 ⟨rfl,hb1⟩;have HB1:=hide ((ku HB).trans (hb1.mono (by omega)));have hM1:=(hb1.block w.heap.size (by omega)).trans (ku HMd);have HM1:=hide hM1;have hz1:=hb1.size;clear m0 m1 m2 m3 m4;obtain ⟨m0,m1,m2,m3,m4,_⟩:=zo hM1;have hl1:=wX hM1;clear hb1 hM1 HTM HMd HB;by_cases hP:0≤P
 ·rw[if_pos hP] at E;have hd:decide (0≤P)=true:=by simpa using hP
  have hfa:fAt P=P:=by unfold fAt;rw[if_neg (by omega)]
  rw[hfa];clear hfa;go_wp2
  go_region
  all_goals
   go_wp2
   go_ret2
   rw[ku E];exact ⟨rfl,((ku HB1).alloc (by omega) _).drew⟩
 ·rw[if_neg hP] at E;have hd:decide (0≤P)=false:=by simpa using hP
  have hbA:=((ku HB1).alloc (show w.heap.size≤w1.heap.size by omega) (.cells #[.bool (decide (0≤P)),.int .i64 (fAt P)] 199));have HG1:=hide (ku HG _ hbA);have HBA:=hide hbA;have HMA:=hide (show (w1.alloc (.cells #[.bool (decide (0≤P)),.int .i64 (fAt P)] 199)).heap[w.heap.size]?=some (.cells #[.slice a0 n0 k0,.slice a1 n1 k1,.slice a2 n2 k2,.slice a3 n3 k3,.slice a4 n4 k4] 68 (0,0)) from qp (ku HM1));rw[hd] at HG1 HBA HMA ⊢;clear HB1 HM1 HG hbA hP;generalize fAt P=fp at *;go_wp2_with fail
  refine (ku HG1).mono ?_;rintro e w2 ⟨b,rfl,hm2,_,hbl2,hb2⟩;have HB2:=hide ((ku HBA).trans (hb2.mono (by simp;omega)));have hM2:=(hb2.block w.heap.size (by simp;omega)).trans (ku HMA);have HM2:=hide hM2;have HT2:=hide hm2;have hz2:=hb2.size;simp at hz2;clear m0 m1 m2 m3 m4;obtain ⟨m0,m1,m2,m3,m4,_⟩:=zo hM2;have hl2:=wX hM2;have HN2:=hide (ku HWN w2 b (ku HB2) hm2);clear hb2 hM2 hm2 HG1 HMA HBA HWN;go_wp2_with fail
  refine (ku HN2).mono ?_;rintro e w3 ⟨rfl,hb3⟩;have HB3:=hide ((ku HB2).trans (hb3.mono (by omega)));have hM3:=(hb3.block w.heap.size (by omega)).trans (ku HM2);have HM3:=hide hM3;have HT3:=hide ((ku HT2).kept hb3);have hz3:=hb3.size;clear m0 m1 m2 m3 m4;obtain ⟨m0,m1,m2,m3,m4,_⟩:=zo hM3;have hl3:=wX hM3;clear hb3 hM3 HN2 HM2 HB2 HT2;by_cases hN:0≤N
  ·rw[if_pos hN] at E;have hd:decide (0≤N)=true:=by simpa using hN
   have hfa:fAt N=N:=by unfold fAt;rw[if_neg (by omega)]
   rw[hfa];clear hfa;go_wp2
   go_region
   all_goals
    go_wp2
    go_ret2
    rw[ku E];exact ⟨rfl,((ku HB3).alloc (by omega) _).drew⟩
  ·rw[if_neg hN] at E;have hd:decide (0≤N)=false:=by simpa using hN
   have hbA:=((ku HB3).alloc (show w.heap.size≤w3.heap.size by omega) (.cells #[.bool (decide (0≤N)),.int .i64 (fAt N)] 199));have HF3:=hide (ku HTF _ b hbA ((ku HT3).kept (below_alloc1 _ _)));have HBA:=hide hbA;rw[hd] at HF3 HBA ⊢;clear HB3 HM3 HTF hbA hN HT3;generalize fAt N=fn at *;go_wp2_with fail
   refine (ku HF3).mono ?_;rintro e w4 ⟨rfl,hb4⟩;have HB4:=hide ((ku HBA).trans (hb4.mono (by simp;omega)));clear hb4 HF3 HBA m0 m1 m2 m3 m4;cases T
   ·go_wp2
    go_ret2
    rw[ku E];exact ⟨rfl,ku HB4⟩
   ·go_wp2
    go_ret2
    rw[ku E];exact ⟨rfl,ku HB4⟩
def ky4 (s:ByteArray):Int × Int:=
 if 800<s.size then (1,0) else match (gq s).2 with
  | some k=>(2,k)
  | none=>match (kqy (gq s).1).2 with
   | some k=>(3,k)
   | none=>qxn (jq (kqy (gq s).1).1)
def zzo (s:ByteArray)(w:World)(e:Ending)(w':World):Prop:=
 Below w.heap.size w w'∧∃ x0 x1 x2 x3 x4,e=.returned (.tuple #[.agg #[x0,x1,x2,x3,x4],.int .i64 (ky4 s).1,.int .i64 (ky4 s).2])∧((ky4 s).1=0→kky w.heap.size w' x0 x1 x2 x3 x4 (jq (kqy (gq s).1).1)) ∧
  (∃ a l c,x0=.slice a l c)∧(∃ a l c,x1=.slice a l c)∧(∃ a l c,x2=.slice a l c)∧(∃ a l c,x3=.slice a l c)∧(∃ a l c,x4=.slice a l c)
theorem kxk {B:Nat}{a w:World}(h:Below B a w)(x0 x1 x2 x3 x4:Value):Below B a (((((w.setCell ⟨B,0,none⟩ x0).setCell ⟨B,1,none⟩ x1).setCell ⟨B,2,none⟩ x2).setCell ⟨B,3,none⟩ x3).setCell ⟨B,4,none⟩ x4):=
 ((((h.setCell (p:=⟨B,0,none⟩) (wW _) x0).setCell (p:=⟨B,1,none⟩) (wW _) x1).setCell (p:=⟨B,2,none⟩) (wW _) x2).setCell (p:=⟨B,3,none⟩) (wW _) x3).setCell (p:=⟨B,4,none⟩) (wW _) x4
end Go.Proofs.YtpmcnonmkghokaaGreatDoor
namespace Go.Proofs.YtpmcnonmkghokaaGreatDoor
open Go.RowKit
theorem ky2 {α:Type}{f:α→List Tok}(hf:∀ x,1≤(f x).length):∀ l:List α,l.length≤(l.flatMap f).length
 | []=>wW _
 | x::l=>by rw[lU,wU,sU];have:=ky2 hf l;have:=hf x;omega
theorem qvr {α:Type}{f:α→List Tok}:∀ {l:List α} {x:α},x∈l→(f x).length≤(l.flatMap f).length
 | y::l,x,h=>by
  rw[lU,wU];rcases tK.mp h with rfl|h
  ·omega
  ·have:=qvr (f:=f) h;omega
theorem qqw:∀ b:PB,uz b=qq1 b
 | .nil=>rfl
 | .node _ _ _ _ n=>by rw[uz,qq1,qqw n]
def vy5 (t:Tok):Prop:=0<t.text.size∧t.text.size≤800
theorem vv0 {t:Tok}(h:qvo t)(hk:(t.kind.toList==[110,97,109,101])=true):vy5 t:=by
 refine ⟨?_,h.size⟩;have:=h.name;rw[hk,wY] at this;have hl:=this.1;unfold kj9 inB at hl;by_cases h0:0<t.text.size
 ·exact h0
 ·rw[dif_neg h0] at hl;cases hl
structure TreeSize (t:PTree):Prop where
 nm:∀ x∈kx0 t,vy5 x
 sets:t.sets.length≤801
 kinds:t.kinds.length≤801
 vars:t.vars.length≤801
 rules:t.rules.length≤801
 nevers:t.nevers.length≤801
 members:∀ k∈t.kinds,k.members.length≤801
 all:∀ r∈t.rules++t.nevers,(kq6 r).length≤801
theorem qzi {L:List Tok}{t:PTree}(hL:pq L)(h:qzo L t):TreeSize t:=by
 have hle:=h.nms.le;have hlen:=hL.len;have h1:(kx0 t).length≤801:=by omega
 unfold kx0 at h1;simp only[wU] at h1;have l1:=ky2 (f:=zvm) (fun x=>wW _) t.sets;have l2:=ky2 (f:=kkv) (fun x=>by unfold kkv;simp) t.kinds;have l3:=ky2 (f:=kw2) (fun x=>by unfold kw2;simp) t.vars;have l4:=ky2 (f:=kq6) (fun x=>by unfold kq6;simp) t.rules;have l5:=ky2 (f:=kq6) (fun x=>by unfold kq6;simp) t.nevers;refine ⟨?_,by omega,by omega,by omega,by omega,by omega,?_,?_⟩
 ·intro x hx;obtain ⟨hm,hk⟩:=h.nms.mem x hx;obtain ⟨i,hi,rfl⟩:=sZ hm;have e:tk L i=L[i]:=getD_at _ _ _ hi;have ok:=hL.ok i hi;rw[e] at ok;exact vv0 ok hk
 ·intro k hk;have:=qvr (f:=kkv) hk;unfold kkv at this;simp only[sU] at this;have e:(t.kinds.flatMap (fun k=>k.name::k.members)).length=(t.kinds.flatMap kkv).length:=rfl;omega
 ·intro r hr;rcases rM.mp hr with hr|hr
  ·have:=qvr (f:=kq6) hr;omega
  ·have:=qvr (f:=kq6) hr;omega
theorem vjk {t:PTree}{s:PSet}(h:s∈t.sets):s.name∈kx0 t:=wG _ (su.mpr ⟨s,h,rG ..⟩)
theorem qwp {t:PTree}{k:PKind}(h:k∈t.kinds){x:Tok}(hx:x∈kkv k):x∈kx0 t:=rW _ (wG _ (su.mpr ⟨k,h,hx⟩))
theorem zja {t:PTree}{v:PVar}(h:v∈t.vars){x:Tok}(hx:x∈kw2 v):x∈kx0 t:=rW _ (rW _ (wG _ (su.mpr ⟨v,h,hx⟩)))
theorem kxm {t:PTree}{r:PRule}(h:r∈t.rules++t.nevers){x:Tok}(hx:x∈kq6 r):x∈kx0 t:=by
 refine rW _ (rW _ (rW _ ?_));rw[←Qy];exact su.mpr ⟨r,h,hx⟩
theorem jkl {r:PRule}{p:PP}(h:p∈r.params):p.name∈kq6 r∧p.set_∈kq6 r:=by
 unfold kq6;exact ⟨rU _ (wG _ (su.mpr ⟨p,h,rG ..⟩)),rU _ (wG _ (su.mpr ⟨p,h,rU _ (rG ..)⟩))⟩
theorem zkp {r:PRule}{x:Tok}(h:x∈yu r.guard):x∈kq6 r:=rU _ (rW _ (wG _ h))
theorem jqj {r:PRule}{x:Tok}(h:x∈dh r.body):x∈kq6 r:=rU _ (rW _ (rW _ h))
theorem vqg {r:PRule}(h:(kq6 r).length≤801):r.params.length≤801∧(yu r.guard).length≤801∧(dh r.body).length≤801:=by
 unfold kq6 at h;simp only[sU,wU] at h;have:=ky2 (f:=qjj) (fun x=>by unfold qjj;simp) r.params;omega
theorem kw1.len:∀ {b:PB},kw1 b→kke b
 | .nil,_=>trivial
 | .node _ _ a .nil n,⟨_,_,_,h⟩=>h.len
 | .node _ _ a (.node _ _ _ t e) n,⟨_,_,_,h4,h5,h6⟩=>⟨⟨h4.1.len,by rw[qqw];omega⟩,⟨h5.1.len,by rw[qqw];omega⟩,h6.len⟩
theorem kw1.full:∀ {b:PB},kw1 b→kwx b
 | .nil,_=>trivial
 | .node _ _ a .nil n,⟨h1,h2,_,h⟩=>⟨⟨h2.full,h2.some,h1.2⟩,h.full⟩
 | .node _ _ a (.node _ _ _ t e) n,⟨h1,_,_,h4,h5,h6⟩=>⟨⟨h1.full,h1.some⟩,h4.1.full,h5.1.full,h6.full⟩
theorem qjx:jk.text.size=0:=rfl
theorem zwr {t:PTree}(hs:TreeSize t){v:PVar}(hv:v∈t.vars)(hok:qyi v):(cu v).over.text.size≤800∧(cu v).si.name.text.size≤800:=by
 constructor
 ·show v.over.text.size≤800;obtain ⟨h1|h1,_⟩:=hok
  ·rw[h1,qjx];omega
  ·refine (hs.nm _ (zja hv ?_)).2;unfold kw2 qqc;rw[h1];simp
 ·obtain ⟨f1,f2⟩:=qze hok;cases hk:(v.type_.kind.toList==[110,97,109,101])
  ·obtain ⟨_,h1|h1|h1⟩:=hok
   ·obtain ⟨a,b,c⟩:=h1;unfold cu;simp only;rw[a,b];show jk.text.size≤800;rw[qjx];omega
   ·obtain ⟨a,b,c,d⟩:=h1;unfold cu;simp only;rw[a,b];show jk.text.size≤800;rw[qjx];omega
   ·rw[h1.1] at hk;cases hk
  ·rw[f2 hk];refine (hs.nm _ (zja hv ?_)).2;unfold kw2 qqc;rw[hk];simp
theorem vvb {L:List Tok}(hL:pq L)(h:(kqy L).2=none):MdAll (jq (kqy L).1):=by
 have g:=tree_good hL h;have s:=qzi hL g;generalize (kqy L).1=t at g s;have rok:∀ r∈t.rules++t.nevers,ky6 r:=fun r hr=>by
  rcases rM.mp hr with hr|hr
  ·exact g.rules r hr
  ·exact (g.nevers r hr).1
 have nmG:∀ r∈t.rules++t.nevers,r.params.length≤1000∧(∀ p∈r.params,p.name.text.size≤1000∧p.set_.text.size≤1000)∧(∀ y∈jr r.guard,y.text.size≤1000)∧kke r.body∧uz r.body≤1000∧(∀ y∈zh r.body,y.text.size≤1000):=fun r hr=>by
  obtain ⟨x,b,bl⟩:=rok r hr;obtain ⟨e1,e2,e3⟩:=vqg (s.all r hr);refine ⟨by omega,fun p hp=>?_,fun y hy=>?_,b.len,by rw[qqw];omega,fun y hy=>?_⟩
  ·have a1:=(s.nm _ (kxm hr (jkl hp).1)).2;have a2:=(s.nm _ (kxm hr (jkl hp).2)).2;omega
  ·rw[kjs x] at hy;have:=(s.nm _ (kxm hr (zkp hy))).2;omega
  ·rw[kzp b] at hy;have:=(s.nm _ (kxm hr (jqj hy))).2;omega
 refine ⟨⟨?_,?_,?_,?_,?_,?_,?_⟩,⟨?_,?_,?_,?_,?_⟩,⟨?_,?_,?_⟩,⟨?_,?_⟩,?_⟩
 ·exact rV s.sets (by omega)
 ·exact rV s.kinds (by omega)
 ·show (t.vars.map cu).length≤1000;rw[sG];exact rV s.vars (by omega)
 ·exact rV s.rules (by omega)
 ·exact rV s.nevers (by omega)
 ·intro k hk;exact rV (s.members k hk) (by omega)
 ·intro r hr;exact (nmG r hr).1
 ·intro x hx;have:=(s.nm _ (vjk hx)).2;omega
 ·intro k hk;refine ⟨?_,fun x hx=>?_⟩
  ·have:=(s.nm _ (qwp hk (rG ..))).2;omega
  ·have:=(s.nm _ (qwp hk (rU _ hx))).2;omega
 ·intro v hv;obtain ⟨v0,hv0,rfl⟩:=sV.mp (show v∈t.vars.map cu from hv);have:=(s.nm _ (zja hv0 (rG ..))).2;show v0.name.text.size≤1000;omega
 ·intro r hr;have:=(s.nm _ (kxm (wG _ hr) (rG ..))).2;omega
 ·intro r hr;have:=(s.nm _ (kxm (rW _ hr) (rG ..))).2;omega
 ·intro v hv;obtain ⟨v0,hv0,rfl⟩:=sV.mp (show v∈t.vars.map cu from hv);have:=zwr s hv0 (g.vars v0 hv0);omega
 ·intro r hr;exact nmG r (wG _ hr)
 ·intro r hr;obtain ⟨a,b,c,_⟩:=nmG r (rW _ hr);exact ⟨a,b,c⟩
 ·intro r hr;obtain ⟨x,b,_⟩:=rok r (wG _ hr);exact ⟨x.full,x.some,b.full⟩
 ·intro r hr;obtain ⟨x,_⟩:=rok r (rW _ hr);exact ⟨x.full,x.some⟩
 ·intro q;have noV:kz0.si.name.text.size≤1000:=by show jk.text.size≤1000;rw[qjx];omega
  have all:∀ x∈kqe (jq t),x.2.var.si.name.text.size≤1000:=by
   intro x hx;unfold kqe at hx;simp only[rM,su] at hx;rcases hx with ⟨q,hq,hx⟩|⟨q,hq,hx⟩|⟨q,hq,hx⟩|⟨q,hq,hx⟩|⟨q,hq,hx⟩
   ·unfold jxw at hx;rw[tV] at hx;subst hx;exact noV
   ·unfold jj2 at hx;rw[tK,sV] at hx;rcases hx with rfl|⟨y,hy,rfl⟩
    ·exact noV
    ·exact noV
   ·unfold jqi at hx;rw[tV] at hx;subst hx;obtain ⟨v0,hv0,rfl⟩:=sV.mp (show q∈t.vars.map cu from hq);have:=(zwr s hv0 (g.vars v0 hv0)).2;show (cu v0).si.name.text.size≤1000;omega
   ·unfold jj0 at hx;rw[tV] at hx;subst hx;exact noV
   ·unfold jj1 at hx;rw[tV] at hx;subst hx;exact noV
  rw[kjy];rcases kju (kqe (jq t)) q with ⟨e,_⟩|⟨j,hj,_,_,e⟩
  ·rw[e];exact noV
  ·rw[e];exact all _ (rJ hj)
end Go.Proofs.YtpmcnonmkghokaaGreatDoor
namespace Go.Proofs.YtpmcnonmkghokaaGreatDoor
open Go.RowKit
attribute [local go_sem ↓] Go.wp_at_zero Go.wp_at_succ
theorem zy0 (s:ByteArray)(w:World):Calls Tryz.prog 33 #[.string s] w fun e w'=>zzo s w e w':=by
 have hsl:∀ a:Option Addr,∀ l c:Nat,∃ a' l' c',Value.slice a l c=.slice a' l' c':=fun a l c=>⟨a,l,c,rfl⟩
 by_cases hbig:800<s.size
 ·have hE:ky4 s=(1,0):=by unfold ky4;rw[if_pos hbig]
  have HE:=hide hE;have HX:=hide (qy w (.cells #[.slice none 0 0,.slice none 0 0,.slice none 0 0,.slice none 0 0,.slice none 0 0] 68));clear hE;go_enter Tryz.func33,Tryz.ntmps33
  go_wp2
  refine rY (uw Tryz.results33 _ _ w.heap.size _ _ _ _ rfl (ku HX) Tryz.underlying68 rfl (by kernel_rfl)) rfl ?_;unfold zzo;rw[ku HE];exact ⟨below_alloc1 _ _,_,_,_,_,_,rfl,(fun e=>by cases e),hsl _ _ _,hsl _ _ _,hsl _ _ _,hsl _ _ _,hsl _ _ _⟩
 ·have hss:s.size≤800:=by omega
  have hE:ky4 s=match (gq s).2 with|some k=>(2,(k:Int))|none=>match (kqy (gq s).1).2 with|some k=>(3,(k:Int))|none=>qxn (jq (kqy (gq s).1).1):=by unfold ky4;rw[if_neg hbig]<;>rfl
  have HE:=hide hE;clear hE;go_enter Tryz.func33,Tryz.ntmps33
  go_wp2_with fail
  refine (vqw s _ hss).mono ?_;rintro e w1 ⟨hb1,hp⟩;have hX1:=(hb1.block w.heap.size (by simp)).trans (qy _ _);have HB1:=hide ((below_alloc1 w (.cells #[.slice none 0 0,.slice none 0 0,.slice none 0 0,.slice none 0 0,.slice none 0 0] 68)).trans (hb1.mono (by simp)));have HX1:=hide hX1;have hz1:=hb1.size;simp at hz1;obtain ⟨x0,x1,x2,x3,x4,f0,f1,f2,f3,f4⟩:=zo hX1;rcases hp with ⟨hno,v,rfl,hv⟩|⟨k,hk,rfl⟩
  ·rw[hno] at HE;have hL:=zj7 s hss hno;have HV:=hide (zu (tu _) hv);obtain ⟨va,vl,vc,rfl⟩:=jy hv;clear hb1 hX1 hv;go_wp2_with fail
   refine (parse_any w1 _ _ hL (ku HV)).mono ?_;rintro e w2 ⟨hb2,hp⟩;have hX2:=(hb2.block w.heap.size (by omega)).trans (ku HX1);have HB2:=hide ((ku HB1).trans (hb2.mono (by omega)));have HX2:=hide hX2;have hz2:=hb2.size;clear x0 x1 x2 x3 x4 f0 f1 f2 f3 f4;obtain ⟨x0,x1,x2,x3,x4,f0,f1,f2,f3,f4⟩:=zo hX2;rcases hp with ⟨hno2,y0,y1,y2,y3,y4,rfl,hmd⟩|⟨k,hk,rfl⟩
   ·rw[hno2] at HE;have hall:=vvb hL hno2;obtain ⟨⟨a0,n0,k0,rfl⟩,⟨a1,n1,k1,rfl⟩,⟨a2,n2,k2,rfl⟩,⟨a3,n3,k3,rfl⟩,⟨a4,n4,k4,rfl⟩⟩:=qzy hmd;have HMD:=hide (hmd.mono (show w.heap.size+1≤w1.heap.size by omega));obtain ⟨m,hm⟩:∃ m,m=jq (kqy (gq s).1).1:=⟨_,rfl⟩;rw[←hm] at HE HMD hall;have HMM:=hide hm;have HTC:=hide (jve (w2.alloc (.cells #[.slice a0 n0 k0,.slice a1 n1 k1,.slice a2 n2 k2,.slice a3 n3 k3,.slice a4 n4 k4] 68)) (w.heap.size+1) _ _ _ _ _ m ((ku HMD).below (below_alloc1 _ _)) hall);clear hm;clear hb2 hX2 hmd hall;go_wp2_with fail
    refine (ku HTC).mono ?_;rintro e w3 ⟨rfl,hb3⟩;have hz3:=hb3.size;simp at hz3;have hX3:=(hb3.block w.heap.size (by simp;omega)).trans (qp (ku HX2));have hM3:=(hb3.block w2.heap.size (by simp)).trans (qy _ _);have HB3:=hide (((ku HB2).alloc (by omega) _).trans (hb3.mono (by simp;omega)));have HMD3:=hide (((ku HMD).below (below_alloc1 _ _)).below hb3);have HX3:=hide hX3;clear x0 x1 x2 x3 x4 f0 f1 f2 f3 f4;obtain ⟨x0,x1,x2,x3,x4,f0,f1,f2,f3,f4⟩:=zo hX3;obtain ⟨g0,g1,g2,g3,g4,_⟩:=zo hM3;have hlX:=wX hX3;have hlM:=wX hM3;clear hb3 hX3 hM3 HTC;go_wp2
    refine rY (uw Tryz.results33 _ _ w.heap.size _ _ _ _ rfl (kjc (ku HX3) _ _ _ _ _) Tryz.underlying68 rfl (by kernel_rfl)) rfl ?_;unfold zzo;rw[←ku HMM,ku HE];exact ⟨kxk (ku HB3) _ _ _ _ _,_,_,_,_,_,rfl,fun _=>((ku HMD3).stay ((uo.refl _ w3).kv0 (b:=w.heap.size) (Or.inl (by omega)) _ _ _ _ _).block).mono (by omega),hsl _ _ _,hsl _ _ _,hsl _ _ _,hsl _ _ _,hsl _ _ _⟩
   ·rw[hk] at HE;have hlX:=wX hX2;clear hb2 hX2;go_wp2
    refine rY (uw Tryz.results33 _ _ w.heap.size _ _ _ _ rfl (qp (kjc (ku HX2) _ _ _ _ _)) Tryz.underlying68 rfl (by kernel_rfl)) rfl ?_;unfold zzo;rw[ku HE];exact ⟨(kxk (ku HB2) _ _ _ _ _).alloc (by simp[World.setCell];omega) _,_,_,_,_,_,rfl,(fun e=>by cases e),hsl _ _ _,hsl _ _ _,hsl _ _ _,hsl _ _ _,hsl _ _ _⟩
  ·rw[hk] at HE;clear hb1 hX1;go_wp2
   refine rY (uw Tryz.results33 _ _ w.heap.size _ _ _ _ rfl (kjc (ku HX1) _ _ _ _ _) Tryz.underlying68 rfl (by kernel_rfl)) rfl ?_;unfold zzo;rw[ku HE];exact ⟨kxk (ku HB1) _ _ _ _ _,_,_,_,_,_,rfl,(fun e=>by cases e),hsl _ _ _,hsl _ _ _,hsl _ _ _,hsl _ _ _,hsl _ _ _⟩
theorem check_any (s:ByteArray)(w:World):Calls Tryz.prog 16 #[.string s] w fun e w'=>e=.returned (.tuple #[.int .i64 (ky4 s).1,.int .i64 (ky4 s).2])∧Below w.heap.size w w':=by
 go_enter Tryz.func16,Tryz.ntmps16
 go_wp2_with fail
 refine (zy0 s w).mono ?_;rintro e w1 ⟨hb1,x0,x1,x2,x3,x4,rfl,_,⟨a0,n0,k0,rfl⟩,⟨a1,n1,k1,rfl⟩,⟨a2,n2,k2,rfl⟩,⟨a3,n3,k3,rfl⟩,⟨a4,n4,k4,rfl⟩⟩;have HB:=hide hb1;have hz:=hb1.size;clear hb1;go_wp2
 go_ret2
 exact ⟨rfl,(ku HB).alloc hz _⟩
abbrev jxl:=MView × Bool × Int × Int
def noView:MView:=⟨⟨#[]⟩,[],[],[]⟩
def zq1 (a:Mach):List ByteArray→Nat→List Int→Option jxl
 | [],_,st=>if st.length≤1000000 then (lookO a st).map fun v=>(v,kzb v,0,0) else none
 | t::l,i,st=>if st.length≤1000000 then (qjm a.vars a.tab st t.toList a.steps).bind fun r=>if r.2 then zq1 a l (i+1) r.1 else some (noView,false,7,i) else none
def zwt (a:Mach)(ts:List ByteArray):Option jxl:=if 60<ts.length then some (noView,false,8,0) else if a.size≤1000000 then zq1 a ts 0 (List.replicate a.size 0) else none
def qzf (w:World)(r:jxl)(e:Ending)(w':World):Prop:=
 ∃ ea en ec wa wn wc ba bn bc,e=.returned (.tuple #[.agg #[.string r.1.text,.slice ea en ec,.slice wa wn wc,.slice ba bn bc,.bool r.2.1],.int .i64 r.2.2.1,.int .i64 r.2.2.2])∧w'.ownsRow w.heap.size 9 1 (.slice ea en ec) r.1.enabled.length (r.1.enabled.map Value.string)∧w'.ownsRow w.heap.size 9 1 (.slice wa wn wc) r.1.wrong.length (r.1.wrong.map Value.string)∧w'.ownsRow w.heap.size 9 1 (.slice ba bn bc) r.1.broken.length (r.1.broken.map Value.string)∧Below w.heap.size w w'
structure zx2 (so:Nat)(w:World)(M nb:Nat)(a:Mach):Prop where
 mc:Mc 0 w M nb a.vars a.tab
 steps:∃ ta tc cs,w.cell? ⟨M,0,none⟩=some (.slice ta a.steps.length tc)∧w.ownsRow 0 178 6 (.slice ta a.steps.length tc) a.steps.length cs∧kko 0 so w M a.steps cs
 nevers:∃ na nc ds,w.cell? ⟨M,1,none⟩=some (.slice na a.nevers.length nc)∧w.ownsRow 0 208 5 (.slice na a.nevers.length nc) a.nevers.length ds∧qq3 0 so w M a.nevers ds
 size:w.cell? ⟨M,5,none⟩=some (.int .i64 a.size)
 lt:M<w.heap.size
theorem zx2.below {so:Nat}{w w':World}{M nb:Nat}{a:Mach}(h:zx2 so w M nb a)(hb:Below w.heap.size w w'):zx2 so w' M nb a:=by
 have hk:=mg hb none [];have nr:=uy.none w;obtain ⟨h0,⟨ta,tc,cs,h1,h2,h3⟩,⟨na,nc,ds,h4,h5,h6⟩,h7,h8⟩:=h;exact ⟨h0.below hb,⟨ta,tc,cs,(hb.cell (p:=⟨M,0,none⟩) h8).trans h1,qj h2 hb,h3.tk hk nr (by simp) (by simp)⟩,⟨na,nc,ds,(hb.cell (p:=⟨M,1,none⟩) h8).trans h4,qj h5 hb,h6.tk hk nr (by simp) (by simp)⟩,(hb.cell (p:=⟨M,5,none⟩) h8).trans h7,lX h8 hb.size⟩
theorem kjm.vvm {lo so:Nat}{w:World}{M nb:Nat}{a:Mach}{sv nv tv vv:Value}(h:kjm lo so w M nb a.steps a.nevers a.sets a.vars a.tab a.size sv nv tv vv):zx2 so w M nb a:=by
 obtain ⟨h0,⟨c1,h1,k1⟩,⟨c2,h2,k2⟩,h3,⟨c4,h4,k4⟩,h5,h6,h7⟩:=h;obtain ⟨ta,tc,e1,_⟩:=zq h1;obtain ⟨na,nc,e2,_⟩:=zq h2;obtain ⟨va,vc,e4,_⟩:=zq h4;subst e1;subst e2;subst e4;obtain ⟨m0,m1,m2,m3,m4,m5,_⟩:=kvt h0;exact ⟨⟨⟨_,_,_,va,vc,_,c4,h0,zu (tu _) h4,k4⟩,h5⟩,⟨ta,tc,c1,m0,zu (tu _) h1,k1⟩,⟨na,nc,c2,m1,zu (tu _) h2,k2⟩,m5,wX h0⟩
structure MachOk (a:Mach):Prop where
 steps:∀ s∈a.steps,qy6 s
 nevers:∀ s∈a.nevers,jvx s
 vars:a.vars.length≤1000
 sl:a.steps.length≤1000000
 nl:a.nevers.length≤1000000
theorem walk_any (w:World)(so M nb:Nat)(a:Mach)(ts:List ByteArray)(pa:Option Addr)(pn pc:Nat)(h:zx2 so w M nb a)(hok:MachOk a)(hP:w.ownsRow 0 9 1 (.slice pa pn pc) ts.length (ts.map Value.string))(htl:ts.length≤1000000)(r:jxl)(hr:zwt a ts=some r) :
  Calls Tryz.prog 34 #[.pointer (some ⟨M,0,none⟩),.slice pa pn pc] w fun e w'=>qzf w r e w':=by
 obtain ⟨za,zc,ez,hview⟩:=zq hP;injection ez with ez1 ez2 ez3;subst ez1;subst ez2;subst ez3;obtain ⟨W,hW⟩:∃ W,W=w.alloc (.cells #[.string ⟨#[]⟩,.slice none 0 0,.slice none 0 0,.slice none 0 0,.bool false] 24):=⟨_,rfl⟩;have hbW:Below w.heap.size w W:=by rw[hW];exact below_alloc1 w _
 have hsW:w.heap.size<W.heap.size:=by rw[hW];simp
 have hR:W.heap[w.heap.size]?=some (.cells #[.string ⟨#[]⟩,.slice none 0 0,.slice none 0 0,.slice none 0 0,.bool false] 24 (0,0)):=by rw[hW];exact qy _ _
 have HNO:=hide (fun (wx:World) (hb:Below w.heap.size w wx) (hx:wx.heap[w.heap.size]?=some (.cells #[.string ⟨#[]⟩,.slice none 0 0,.slice none 0 0,.slice none 0 0,.bool false] 24 (0,0))) (e:Int) (p:Int)=>(show qzf w (noView,false,e,p) (.returned (.tuple #[.agg #[.string ⟨#[]⟩,.slice none 0 0,.slice none 0 0,.slice none 0 0,.bool false],.int .i64 e,.int .i64 p])) (((((wx.setCell ⟨w.heap.size,0,none⟩ (.string ⟨#[]⟩)).setCell ⟨w.heap.size,1,none⟩ (.slice none 0 0)).setCell ⟨w.heap.size,2,none⟩ (.slice none 0 0)).setCell ⟨w.heap.size,3,none⟩ (.slice none 0 0)).setCell ⟨w.heap.size,4,none⟩ (.bool false)) from
  ⟨none,0,0,none,0,0,none,0,0,rfl,rP _ _ _ _,rP _ _ _ _,rP _ _ _ _,kxk hb _ _ _ _ _⟩))
 have HR:=hide hR;have HBW:=hide hbW;have HWE:=hide hW.symm;have HVIEW:=hide hview;have HMI:=hide h;have HOK:=hide hok;obtain ⟨r0,r1,r2,r3,r4,y0,y1,y2,y3,y4⟩:=zo hR;unfold zwt at hr;by_cases hbig:60<ts.length
 ·rw[if_pos hbig] at hr;injection hr with hr;subst hr;have hbig2:(60:Int)<ts.length:=by omega
  have HE:=hide ((ku HNO) W hbW hR 8 0);clear hview hP h hok hbW hW hR HNO HVIEW HMI HOK r0 r1 r2 r3 r4 y0 y1 y2 y3 y4;go_enter Tryz.func34,Tryz.ntmps34
  go_wp2
  refine rY (v:=.tuple #[.agg #[.string ⟨#[]⟩,.slice none 0 0,.slice none 0 0,.slice none 0 0,.bool false],.int .i64 8,.int .i64 0]) (uw Tryz.results34 _ _ w.heap.size _ _ _ _ rfl (qy _ _) Tryz.underlying24 rfl (by kernel_rfl)) rfl ?_;exact ⟨none,0,0,none,0,0,none,0,0,rfl,rP _ _ _ _,rP _ _ _ _,rP _ _ _ _,below_alloc1 _ _⟩
 ·rw[if_neg hbig] at hr;have hsz0:a.size≤1000000:=by
   apply sJ;intro hc;rw[if_neg hc] at hr;cases hr
  rw[if_pos hsz0] at hr;have hbig2:¬(60:Int)<ts.length:=by omega
  have HFS:=hide (jqa W M a.size (h.below hbW).size hsz0);have HRST:=hide hr;clear hview hP h hok hbW hW hR hr r0 r1 r2 r3 r4 y0 y1 y2 y3 y4;go_enter Tryz.func34,Tryz.ntmps34
  go_wp2_with fail
  rw[ku HWE];refine (ku HFS).mono ?_;rintro e w1 ⟨v1,rfl,ho1,hb1⟩;obtain ⟨xa,xn,xc,rfl⟩:=jy ho1;have hs1:=hb1.size;have HO1:=hide (show w1.ownsRow 0 5 1 (.slice xa xn xc) (List.replicate a.size (0:Int)).length ((List.replicate a.size (0:Int)).map (Value.int .u8)) by rw[JC];exact zu (tu _) ho1);have HB1:=hide ((ku HBW).trans (hb1.mono (by omega)));have HR1:=hide ((hb1.block w.heap.size hsW).trans (ku HR));clear ho1 hb1 HFS HR;go_wp2_with fail
  go_loopw [7,8,9,10,11,20] (fun x _ _ _ _ i wr=>∃ (k:Nat) (st:List Int) (sa:Option Addr) (sn sc:Nat),k≤ts.length∧i=.int .i64 k∧x=.slice sa sn sc∧wr.ownsRow 0 5 1 (.slice sa sn sc) st.length (st.map (Value.int .u8))∧zq1 a (ts.drop k) k st=some r∧Below w.heap.size w wr∧wr.heap[w.heap.size]?=some (.cells #[.string ⟨#[]⟩,.slice none 0 0,.slice none 0 0,.slice none 0 0,.bool false] 24 (0,0))) (fun _ _ _ _ _ i _=>ts.length-(intOf i).toNat)
  case atStart=>exact ⟨0,_,xa,xn,xc,tu _,rfl,rfl,ku HO1,ku HRST,ku HB1,ku HR1⟩
  case round=>
   obtain ⟨k,st,sa,sn,sc,hk,rfl,rfl,ho,hrest,hb,hrr⟩:=hrel;have hsz:=hb.size;have hRl:=wX hrr;by_cases hlt:k<ts.length
   ·obtain ⟨g,rfl,hg1,hg2,hc⟩:=ku HVIEW k hlt;have e0:wr.cell? ⟨g,k,none⟩=some (.string ts[k]):=by
     rw[hb.cell (p:=⟨g,k,none⟩) hg2,hc k (by omega),lq,ny hlt];rfl
    rw[sQ hlt,zq1] at hrest;have hstl:st.length≤1000000:=by
     apply sJ;intro hc;rw[if_neg hc] at hrest;cases hrest
    rw[if_pos hstl] at hrest;obtain ⟨q,hq,hrest⟩:=wQ.mp hrest;obtain ⟨h0,⟨ta,tc,cs,h1,h2,h3⟩,_,_,_⟩:=(ku HMI).below hb;have HBE:=hide (jxh wr 0 so M nb a.vars a.tab a.steps st ts[k] sa ta sn sc tc cs h0 ho h1 h2 h3 (ku HOK).steps (ku HOK).vars hstl (ku HOK).sl (tu _) q hq);have HREST:=hide hrest;have HB:=hide hb;have HRR:=hide hrr;generalize ts[k]=t at *;clear hc ho hrest hb hrr h0 h1 h2 h3 hq;go_wp2_with fail
    refine (ku HBE).mono ?_;rintro e w5 ⟨v5,rfl,ho5,hb5⟩;obtain ⟨a5,l5,c5,rfl⟩:=jy ho5;have hs5:=hb5.size;have HO5:=hide (zu (tu _) ho5);have hbw5:=(ku HB).trans (hb5.mono hsz);have hR5:=(hb5.block w.heap.size hRl).trans (ku HRR);obtain ⟨r0,r1,r2,r3,r4,y0,y1,y2,y3,y4⟩:=zo hR5;have hRl5:=wX hR5;cases hq2:q.2
    ·have hE:r=(noView,false,7,(k:Int)):=by
      have:=ku HREST;rw[hq2,if_neg (by simp)] at this;injection this with this;exact this.symm
     subst hE;have HE:=hide ((ku HNO) w5 hbw5 hR5 7 k);have HR5:=hide hR5;clear ho5 hb5 hbw5 hR5 HREST HBE;go_wp2
     refine rY (v:=.tuple #[.agg #[.string ⟨#[]⟩,.slice none 0 0,.slice none 0 0,.slice none 0 0,.bool false],.int .i64 7,.int .i64 k]) (uw Tryz.results34 _ _ w.heap.size _ _ _ _ rfl (kjc (ku HR5) _ _ _ _ _) Tryz.underlying24 rfl (by kernel_rfl)) rfl ?_;exact ku HE
    ·have HRS:=hide (show zq1 a (ts.drop (k+1)) (k+1) q.1=some r by have:=ku HREST;rw[hq2,if_pos rfl] at this;exact this);have HBw5:=hide hbw5;have HR5:=hide hR5;clear ho5 hb5 hbw5 hR5 HREST HBE r0 r1 r2 r3 r4 y0 y1 y2 y3 y4;go_wp2
     go_roundw
     case rel=>exact ⟨k+1,q.1,a5,l5,c5,by omega,by go_num,rfl,ku HO5,ku HRS,ku HBw5,ku HR5⟩
     case measure=>simp[intOf];omega
   ·have:k=ts.length:=by omega
    subst this;rw[lW,zq1] at hrest;have hstl:st.length≤1000000:=by
     apply sJ;intro hc;rw[if_neg hc] at hrest;cases hrest
    rw[if_pos hstl] at hrest;obtain ⟨v,hv,hrest⟩:=rQ.mp hrest;subst hrest;obtain ⟨h0,⟨ta,tc,cs,h1,h2,h3⟩,⟨na,nc,ds,h4,h5,h6⟩,_,_⟩:=(ku HMI).below hb;have HLO:=hide (vjd wr 0 so M nb a st sa ta na sn sc tc nc cs ds h0 ho h1 h2 h3 (ku HOK).steps h4 h5 h6 (ku HOK).nevers (ku HOK).vars hstl (ku HOK).sl (ku HOK).nl (tu _) v hv);have HB:=hide hb;have HRR:=hide hrr;clear ho hb hrr h0 h1 h2 h3 h4 h5 h6 hv;go_wp2_with fail
    refine (ku HLO).mono ?_;rintro e w5 ⟨x5,rfl,⟨ea,en,ec,wa,wn,wc,ba,bn,bc,rfl,hp1,hp2,hp3⟩,hb5⟩;have hs5:=hb5.size;have hbw5:=(ku HB).trans (hb5.mono hsz);have hR5:=(hb5.block w.heap.size hRl).trans (ku HRR);obtain ⟨r0,r1,r2,r3,r4,y0,y1,y2,y3,y4⟩:=zo hR5;have hRl5:=wX hR5;have K:=zvt hR5 (bad:=[24]) (by decide) (.string v.text) (.slice ea en ec) (.slice wa wn wc) (.slice ba bn bc) (.bool (kzb v));have HE:=hide (show qzf w (v,kzb v,0,0) (.returned (.tuple #[.agg #[.string v.text,.slice ea en ec,.slice wa wn wc,.slice ba bn bc,.bool (kzb v)],.int .i64 0,.int .i64 0])) _ from ⟨ea,en,ec,wa,wn,wc,ba,bn,bc,rfl,zu hsz (zk hp1 K (uy.none _) (by decide)),zu hsz (zk hp2 K (uy.none _) (by decide)),zu hsz (zk hp3 K (uy.none _) (by decide)),kxk hbw5 _ _ _ _ _⟩);have HR5:=hide hR5;clear hp1 hp2 hp3 hb5 hbw5 hR5 K HLO;go_wp2
    refine rY (v:=.tuple #[.agg #[.string v.text,.slice ea en ec,.slice wa wn wc,.slice ba bn bc,.bool (kzb v)],.int .i64 0,.int .i64 0]) (uw Tryz.results34 _ _ w.heap.size _ _ _ _ rfl (kjc (ku HR5) _ _ _ _ _) Tryz.underlying24 rfl (by kernel_rfl)) rfl ?_;exact ku HE
end Go.Proofs.YtpmcnonmkghokaaGreatDoor
