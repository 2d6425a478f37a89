import Derived.Test.YtpmcnonmkghokaaGreatDoorT15
import Derived.Test.YtpmcnonmkghokaaGreatDoorT23
import Derived.Test.YtpmcnonmkghokaaGreatDoorT08
set_option maxRecDepth 100000
set_option maxHeartbeats 16000000
set_option linter.unusedVariables false
set_option linter.unusedSimpArgs false
namespace Go.Proofs.YtpmcnonmkghokaaGreatDoor
open Go.RowKit
attribute [local go_sem ↓] Go.wp_at_zero Go.wp_at_succ
def zw4 (a b:Addr)(x y:Value)(w:World):Prop:=w.cell? a=some x∧w.cell? b=some y
theorem zw4.below {a b:Addr}{x y:Value}{B:Nat}{w w':World}(h:zw4 a b x y w)(hb:Below B w w')(h1:a.block<B)(h2:b.block<B):zw4 a b x y w':=⟨(hb.cell h1).trans h.1,(hb.cell h2).trans h.2⟩
theorem zk0 {w W:World}{lo so M nb:Nat}{steps:List MStep}{nevers:List MNever}{sets:List Int}{vars:List MVar}{tab:uw}{size:Nat}{sv nv tv vv:Value}{wr:World}(h:NwI w W lo so M nb steps nevers sets vars tab size sv nv tv vv wr):M<wr.heap.size:=wZ h.mc.row
def vxw (w:World)(so:Nat)(r:Mach)(e:Ending)(w':World):Prop:=∃ M nb sv nv tv vv,e=.returned (.pointer (some ⟨M,0,none⟩))∧kjp w.heap.size so w' M nb r.steps r.nevers r.sets r.vars r.tab r.size sv nv tv vv∧Below w.heap.size w w'
theorem new_any (w:World)(so:Nat)(a0 a1 a2 a3 a4:Option Addr)(n0 n1 n2 n3 n4 c0 c1 c2 c3 c4:Nat)(m:MdL)(hm:kk6 so w (.slice a0 n0 c0) (.slice a1 n1 c1) (.slice a2 n2 c2) (.slice a3 n3 c3) (.slice a4 n4 c4) m)(hf:MdFit m)(r:Mach)(hr:zyu m=some r) :
  Calls Tryz.prog 35 #[mdV a0 a1 a2 a3 a4 n0 n1 n2 n3 n4 c0 c1 c2 c3 c4] w fun e w'=>vxw w so r e w':=by
 unfold zyu at hr;obtain ⟨T,hK,hr⟩:=wJ.mp hr;obtain ⟨X,hV,hr⟩:=wJ.mp hr;obtain ⟨ST,hS,hr⟩:=wJ.mp hr;obtain ⟨NV,hN,rfl⟩:=tu.mp hr;obtain ⟨za,zc,e,_⟩:=qm hm.o0;injection e with e1 e2 e3;subst e1;subst e2;subst e3;obtain ⟨_,ho1,_⟩:=hm.o1;obtain ⟨za,zc,e,_⟩:=qm ho1;injection e with e1 e2 e3;subst e1;subst e2;subst e3;obtain ⟨za,zc,e,_⟩:=qm hm.o2;injection e with e1 e2 e3;subst e1;subst e2;subst e3;obtain ⟨_,ho3,_⟩:=hm.o3;obtain ⟨za,zc,e,_⟩:=qm ho3;injection e with e1 e2 e3;subst e1;subst e2;subst e3;obtain ⟨_,ho4,_⟩:=hm.o4;obtain ⟨za,zc,e,_⟩:=qm ho4;injection e with e1 e2 e3;subst e1;subst e2;subst e3;obtain ⟨nb,hnb⟩:∃ nb,nb=w.heap.size+1:=⟨_,rfl⟩;obtain ⟨M,hM⟩:∃ M,M=w.heap.size+1+1:=⟨_,rfl⟩;obtain ⟨W,hW⟩:∃ W,W=((w.alloc (.cells #[.slice a0 m.sets.length c0,.slice a1 m.kinds.length c1,.slice a2 m.vars.length c2,.slice a3 m.rules.length c3,.slice a4 m.nevers.length c4] 68)).alloc (.map #[] 0)).alloc (.cells #[.slice none 0 0,.slice none 0 0,.slice none 0 0,.slice none 0 0,.map (some (w.heap.size+1)),.int .i64 0] 105):=⟨_,rfl⟩;have hbW:Below w.heap.size w W:=by rw[hW];exact ((below_alloc1 w _).trans ((below_alloc1 _ _).mono (by simp))).trans ((below_alloc1 _ _).mono (by simp;omega))
 have hsW:W.heap.size=w.heap.size+3:=by rw[hW];simp
 have hBX:W.heap[w.heap.size]?=some (.cells #[.slice a0 m.sets.length c0,.slice a1 m.kinds.length c1,.slice a2 m.vars.length c2,.slice a3 m.rules.length c3,.slice a4 m.nevers.length c4] 68 (0,0)):=by rw[hW];exact ql (ql (qg _ _))
 have hMp:W.heap[nb]?=some (.map #[] 0):=by
  rw[hW,hnb];have:=qg (w.alloc (.cells #[.slice a0 m.sets.length c0,.slice a1 m.kinds.length c1,.slice a2 m.vars.length c2,.slice a3 m.rules.length c3,.slice a4 m.nevers.length c4] 68)) (.map #[] 0);simp only[tZ] at this;exact ql this
 have hMr:W.heap[M]?=some (.cells #[.slice none 0 0,.slice none 0 0,.slice none 0 0,.slice none 0 0,.map (some nb),.int .i64 0] 105 (0,0)):=by
  rw[hW,hM,hnb];have:=qg ((w.alloc (.cells #[.slice a0 m.sets.length c0,.slice a1 m.kinds.length c1,.slice a2 m.vars.length c2,.slice a3 m.rules.length c3,.slice a4 m.nevers.length c4] 68)).alloc (.map #[] 0)) (.cells #[.slice none 0 0,.slice none 0 0,.slice none 0 0,.slice none 0 0,.map (some (w.heap.size+1)),.int .i64 0] 105);simp only[tZ] at this;exact this
 have hMt:kzc W nb []:=⟨⟨#[],0,hMp,rfl⟩,Jc,fun x hx=>by simp at hx⟩;have HM0:=hide (show NwI w W w.heap.size so M nb [] [] [] [] [] 0 (.slice none 0 0) (.slice none 0 0) (.slice none 0 0) (.slice none 0 0) W from
  ⟨⟨hMr,⟨[],rW _ _ _ _,rfl,fun k hk=>by simp at hk⟩,⟨[],rW _ _ _ _,rfl,fun k hk=>by simp at hk⟩,rW _ _ _ _,⟨[],rW _ _ _ _,rfl⟩,hMt,by omega,by omega⟩,Tk.refl _ _ _,hbW⟩)
 have HMD:=hide (show kk6 so W (.slice a0 m.sets.length c0) (.slice a1 m.kinds.length c1) (.slice a2 m.vars.length c2) (.slice a3 m.rules.length c3) (.slice a4 m.nevers.length c4) m from hm.stay fun k _ hk=>hbW.block k hk);have HNR:=hide hMt.no;have HBX:=hide hBX;have HWE:=hide hW.symm;have HNB:=hide hnb;have HME:=hide hM;have HF:=hide hf;have HK:=hide hK;have HV:=hide hV;have HSS:=hide hS;have HNN:=hide hN;have hle1:w.heap.size<nb:=by omega
 have hle2:nb<M:=by omega
 have hle3:M<W.heap.size:=by omega
 have hl0:=hf.sets;have hl1:=hf.kinds;have hl2:=hf.vars;have hl3:=hf.rules;have hl4:=hf.nevers;clear hr hm ho1 ho3 ho4 hbW hsW hBX hMp hMr hMt hW hnb hM hf hK hV hS hN;obtain ⟨i0,hi,hz0,hz1,hz2⟩:=info_parts Tryz.infoInt;have hmk:∀ W:World,(Instr.makeMap 100 none).run Tryz.prog W=.ok (.map (some W.heap.size)) (W.alloc (.map #[] 0)):=fun W=>rfl
 unfold mdV;go_enter Tryz.func35,Tryz.ntmps35
 go_wp2_with fail
 clear hmk;rw[ku HWE,←ku HME,←ku HNB];go_loopw [5,22] (fun _ i wr=>∃ (k:Nat) (va:Option Addr) (vn vc:Nat),k≤m.sets.length∧i=.int .i64 k∧NwI w W w.heap.size so M nb [] [] (kj3 (m.sets.take k)) [] [] 0 (.slice none 0 0) (.slice none 0 0) (.slice va vn vc) (.slice none 0 0) wr) (fun _ i _=>m.sets.length-(intOf i).toNat)
 case atStart=>exact ⟨0,none,0,0,rG _,rfl,ku HM0⟩
 case round=>
  obtain ⟨k,va,vn,vc,hk,rfl,hI⟩:=hrel;have hMl:=zk0 hI;have htk:=hI.tk;have hsz:=htk.size;by_cases hlt:k<m.sets.length
  ·obtain ⟨zb,zd,ez,hvw⟩:=qm (zy (ku HMD).o0 htk (ku HNR) (by decide));injection ez with ez1 _ ez3;subst ez1;subst ez3;obtain ⟨g,rfl,hg1,hg2,hc⟩:=hvw k hlt;have fl:=fun j (hj:j<4)=>kjj qqn 4 (fun _=>rfl) m.sets k j hlt hj
   have e0:=(hc (k * 4+0) (by omega)).trans (fl 0 (by omega));have e1:=(hc (k * 4+1) (by omega)).trans (fl 1 (by omega));have e2:=(hc (k * 4+2) (by omega)).trans (fl 2 (by omega));have e3:=(hc (k * 4+3) (by omega)).trans (fl 3 (by omega));simp only[qqn,sZ,sV,nP] at e0 e1 e2 e3;have HSN:=hide (show kj3 (m.sets.take (k+1))=kj3 (m.sets.take k)++[yx m.sets[k].size.text] by rw[nD hlt,kj3,sJ];rfl);have hxl:(kj3 (m.sets.take k)).length≤1000:=by simp[kj3];omega
   generalize kj3 (m.sets.take k)=Lx at *;generalize m.sets[k]=s at *;obtain ⟨m0,m1,m2,m3,m4,m5,_⟩:=kk4 hI.mc.row;have hbx:Below wr.heap.size wr (wr.alloc (.cells #[.string s.name.text,.int .i64 s.name.at_,.int .i64 (yx s.size.text),.int .i64 s.size.at_] 111)):=below_alloc1 _ _;obtain ⟨b0,b1,b2,b3,_⟩:=kj5 (qg wr (.cells #[.string s.name.text,.int .i64 s.name.at_,.int .i64 (yx s.size.text),.int .i64 s.size.at_] 111));have HS0:=hide (show zw4 ⟨M,2,none⟩ ⟨wr.heap.size,2,none⟩ (.slice va vn vc) (.int .i64 (yx s.size.text)) (wr.alloc (.cells #[.string s.name.text,.int .i64 s.name.at_,.int .i64 (yx s.size.text),.int .i64 s.size.at_] 111)).drew from ⟨(hbx.cell (p:=⟨M,2,none⟩) hMl).trans m2,b2⟩);have HBXr:=hide (show Below wr.heap.size wr (wr.alloc (.cells #[.string s.name.text,.int .i64 s.name.at_,.int .i64 (yx s.size.text),.int .i64 s.size.at_] 111)).drew from hbx.drew);have HI:=hide hI;clear hc fl hvw hI htk m0 m1 m2 m3 m4 m5 hbx b0 b1 b2 b3;go_upto_region 5 with fail
   refine pz (S:=zw4 ⟨M,2,none⟩ ⟨wr.heap.size,2,none⟩ (.slice va vn vc) (.int .i64 (yx s.size.text))) (tl:=[9,10,11,12]) (by kernel_rfl) ?_;refine qy (i:=0) (v:=.pointer (some ⟨M,0,none⟩)) rfl (by kernel_rfl) (by kernel_rfl) (by kernel_rfl) (fun _ _ _ h=>h) (Or.inl ⟨by rfl,fun _ _=>by go_simp⟩) ?_;try simp only[Act.put,wz,wQ,wu]
   refine qy (i:=1) (v:=.pointer (some ⟨M,0,none⟩)) rfl (by kernel_rfl) (by kernel_rfl) (by kernel_rfl) (fun _ _ _ h=>h) (Or.inl ⟨by rfl,fun _ _=>by go_simp⟩) ?_;try simp only[Act.put,wz,wQ,wu]
   refine qy (i:=2) (v:=.pointer (some ⟨M,0,none⟩)) rfl (by kernel_rfl) (by kernel_rfl) (by kernel_rfl) (fun _ _ _ h=>h) (Or.inl ⟨by rfl,fun _ _=>by go_simp⟩) ?_;try simp only[Act.put,wz,wQ,wu]
   refine qy (i:=3) (v:=.pointer (some ⟨M,2,none⟩)) rfl (by kernel_rfl) (by kernel_rfl) (by kernel_rfl) (fun _ _ _ h=>h) (Or.inl ⟨by rfl,fun _ _=>by go_simp⟩) ?_;try simp only[Act.put,wz,wQ,wu]
   refine qo (i:=4) (v:=.slice va vn vc) [9,10,11,12] rfl (by kernel_rfl) (by kernel_rfl) (by kernel_rfl) (by kernel_rfl) (by decide) (fun _ _ _ h=>h) (Or.inl ⟨by rfl,fun wq hSw=>by (obtain ⟨s0,s1⟩:=hSw;go_simp)⟩) (ku HS0) ?_;try simp only[Act.put,wz,wQ,wu]
   refine qy (i:=5) (v:=.pointer (some ⟨wr.heap.size,2,none⟩)) rfl (by kernel_rfl) (by kernel_rfl) (by kernel_rfl) (fun _ _ _ h=>h) (Or.inl ⟨by rfl,fun _ _=>by go_simp⟩) ?_;try simp only[Act.put,wz,wQ,wu]
   refine qy (i:=6) (v:=.pointer (some ⟨wr.heap.size,2,none⟩)) rfl (by kernel_rfl) (by kernel_rfl) (by kernel_rfl) (fun _ _ _ h=>h) (Or.inl ⟨by rfl,fun _ _=>by go_simp⟩) ?_;try simp only[Act.put,wz,wQ,wu]
   refine qo (i:=7) (v:=.int .i64 (yx s.size.text)) [8,9,10,11,12] rfl (by kernel_rfl) (by kernel_rfl) (by kernel_rfl) (by kernel_rfl) (by decide) (fun _ _ _ h=>h) (Or.inl ⟨by rfl,fun wq hSw=>by (obtain ⟨s0,s1⟩:=hSw;go_simp)⟩) (ku HS0) ?_;try simp only[Act.put,wz,wQ,wu]
   refine yu (rs:=[8]) (by kernel_rfl) (by simp) ?_;refine jd.cons rfl (fun K hK=>?_) jd.nil;go_simp
   refine hK _ _ ((ku HS0).below (below_alloc1 _ _) (show M<(wr.alloc _).heap.size by simp;omega) (show wr.heap.size<(wr.alloc _).heap.size by simp)) ?_;clear hK K;refine kq1 _ _ _ _ (kjd (by kernel_rfl)) ?_;refine wpAny_ready (rs:=[9]) (by kernel_rfl) (by simp) (AllReady.cons rfl (fun K hK=>?_) AllReady.nil);refine step_append_lies _ (by rfl) _ _ _ (by rfl) w.heap.size 3 i0 _ 1 8 Tryz.underlying31 hi hz0 hz1 hz2 rfl (by omega) (.slice va vn vc) Lx.length (Lx.map (Value.int .i64)) (by rfl) (qj (ku HI).mc.sets ((ku HBXr).alloc (ku HBXr).size _)) ⟨wr.heap.size+1,0,none⟩ 1 1 [.int .i64 (yx s.size.text)] (by rfl) (by rfl) (World.news_of_block (cs:=#[.int .i64 (yx s.size.text)]) (t:=3) (fr:=(0,0)) (by have:=heap_alloc_new (wr.alloc (.cells #[.string s.name.text,.int .i64 s.name.at_,.int .i64 (yx s.size.text),.int .i64 s.size.at_] 111)) (.cells #[.int .i64 (yx s.size.text)] 3);simp only[tZ] at this;exact this)) (by intro y hy;simp only[tX,nM,or_false] at hy;subst hy;rfl) (by omega) (by unfold maxLen;omega) (by omega) (by simp;omega) (wr.heap.size+2) (by simp) ?_;intro gg gcap w4 hown4 hgrow hat hlt4;refine hK _ _ ?_;clear hK K;have hgrow:((wr.alloc (.cells #[.string s.name.text,.int .i64 s.name.at_,.int .i64 (yx s.size.text),.int .i64 s.size.at_] 111)).drew.alloc (.cells #[.int .i64 (yx s.size.text)] 3)).grownBy w4 (Value.slice va vn vc).ownBlock:=hgrow;have hr4:=jxl (ku HI).mc (ku HBXr) hgrow;obtain ⟨m0,m1,m2,m3,m4,m5,f0,f1,f2,f3,f4,f5⟩:=kk4 hr4;have hend:=vku (ku HI).mc (yx s.size.text) (ku HBXr) hgrow hown4 (by omega);have HEND:=hide (show ∃ gv gn gc,NwI w W w.heap.size so M nb [] [] (Lx++[yx s.size.text]) [] [] 0 (.slice none 0 0) (.slice none 0 0) (.slice gv gn gc) (.slice none 0 0) (w4.setCell ⟨M,2,none⟩ (.slice (some ⟨gg,0,none⟩) (Lx.length+1) gcap)) from by
    obtain ⟨⟨gv,gn,gc,q1⟩,q2,q3⟩:=hend;exact ⟨gv,gn,gc,q1,(ku HI).tk.trans ((q2.wide (by decide)).any _),(ku HI).be.trans q3⟩)
   clear hr4 hown4 hgrow hat hend;refine wpAny_ready (rs:=[10]) (by kernel_rfl) (by simp) (AllReady.cons rfl (fun K hK=>?_) AllReady.nil);go_simp
   refine hK _ _ ?_;clear hK K;refine wpAny_ready (rs:=[11]) (by kernel_rfl) (by simp) (AllReady.cons rfl (fun K hK=>?_) AllReady.nil);go_simp
   refine hK _ _ ?_;clear hK K;refine wpAny_ready (rs:=[12]) (by kernel_rfl) (by simp) (AllReady.cons rfl (fun K hK=>?_) AllReady.nil);go_simp
   refine hK _ _ ?_;clear hK K;refine wpAny_done (by kernel_rfl) ?_ _;go_wp2
   go_roundw
   case rel=>
    obtain ⟨gv,gn,gc,q⟩:=ku HEND;exact ⟨k+1,gv,gn,gc,by omega,by go_num,by rw[ku HSN];exact q⟩
   case measure=>simp[intOf];omega
  ·have:k=m.sets.length:=by omega
   subst this;rw[Qq] at hI;obtain ⟨q0,q1,q2,q3,q4,_⟩:=jq (htk.row (ku HBX) (fun e=>ku HNR _ _ _ _ e (ku HBX)) (by decide));have HI:=hide hI;have hHl:w.heap.size<wr.heap.size:=by omega
   clear hI htk;go_wp2_with fail
   go_loopw [7,8,9,42] (fun _ _ _ i wr=>∃ (k:Nat) (t:uw),k≤m.kinds.length∧i=.int .i64 k∧qj5 (m.kinds.drop k) t=some T∧NwI w W w.heap.size so M nb [] [] (kj3 m.sets) [] t 0 (.slice none 0 0) (.slice none 0 0) (.slice va vn vc) (.slice none 0 0) wr) (fun _ _ _ i _=>m.kinds.length-(intOf i).toNat)
   case atStart=>exact ⟨0,[],rG _,rfl,ku HK,ku HI⟩
   case round=>
    obtain ⟨k,t,hk,rfl,hrest,hI⟩:=hrel;have hMl:=zk0 hI;have htk:=hI.tk;have hsz:=htk.size;clear HI;by_cases hlt:k<m.kinds.length
    ·obtain ⟨kcs,ho1,hkd⟩:=(ku HMD).o1;obtain ⟨zb,zd,ez,hvw⟩:=qm (zy ho1 htk (ku HNR) (by decide));injection ez with ez1 _ ez3;subst ez1;subst ez3;obtain ⟨g,rfl,hg1,hg2,hc⟩:=hvw k hlt;obtain ⟨ma,mn,mc,fl0,fl1,fl2,hmem⟩:=zjn k hlt hkd;have e0:=(hc (k * 3) (by omega)).trans fl0;have e1:=(hc (k * 3+1) (by omega)).trans fl1;have e2:=(hc (k * 3+2) (by omega)).trans fl2;obtain ⟨zb,zd,ez,_⟩:=qm hmem;injection ez with ez1 ez2 ez3;subst ez1;subst ez2;subst ez3;rw[rM hlt,qj5] at hrest;obtain ⟨T1,hT1,hrest⟩:=wJ.mp hrest;have HREST:=hide hrest;have HT1:=hide hT1;have hml:=(ku HF).mems _ (wY hlt);have HMEM:=hide hmem;generalize m.kinds[k]=s at *;have HI:=hide (hI.below (below_alloc1 wr (.cells #[.string s.name.text,.int .i64 s.name.at_,.slice ma s.members.length mc] 114)) (by omega));clear hc fl0 fl1 fl2 hvw hI htk hmem hrest hT1 ho1 hkd q0 q1 q2 q3 q4;go_wp2_with fail
     go_loopw [8,9,49] (fun _ _ i wr=>∃ (j:Nat) (t:uw),j≤s.members.length∧i=.int .i64 j∧zjy (s.members.drop j) j t=some T1∧NwI w W w.heap.size so M nb [] [] (kj3 m.sets) [] t 0 (.slice none 0 0) (.slice none 0 0) (.slice va vn vc) (.slice none 0 0) wr) (fun _ _ i _=>s.members.length-(intOf i).toNat)
     case atStart=>exact ⟨0,t,rG _,rfl,ku HT1,ku HI⟩
     case round=>
      obtain ⟨j,t2,hj,rfl,hrest2,hI⟩:=hrel;have hMl:=zk0 hI;have htk:=hI.tk;have hsz:=htk.size;clear HI;by_cases hlj:j<s.members.length
      ·obtain ⟨zb,zd,ez,hvw⟩:=qm (zy (ku HMEM) htk (ku HNR) (by decide));injection ez with ez1 _ ez3;subst ez1;subst ez3;obtain ⟨g2,rfl,hg21,hg22,hc2⟩:=hvw j hlj;have fl:=fun q (hq:q<2)=>kjj kq9 2 (fun _=>rfl) s.members j q hlj hq
       have e0:=(hc2 (j * 2+0) (by omega)).trans (fl 0 (by omega));have e1:=(hc2 (j * 2+1) (by omega)).trans (fl 1 (by omega));simp only[kq9,sZ,sV,nP] at e0 e1;rw[rM hlj,zjy] at hrest2;obtain ⟨t3,ht3,hrest2⟩:=wJ.mp hrest2;obtain ⟨rfl,hys,hyn⟩:=zxl ht3;have HR2:=hide hrest2;generalize s.members[j]=y at *;obtain ⟨m0,m1,m2,m3,m4,m5,_⟩:=kk4 hI.mc.row;have hbx:Below wr.heap.size wr (wr.alloc (.cells #[.string y.text,.int .i64 y.at_] 107)):=below_alloc1 _ _;obtain ⟨b0,b1,_,_⟩:=yh (qg wr (.cells #[.string y.text,.int .i64 y.at_] 107));have HS0:=hide (show zw4 ⟨M,4,none⟩ ⟨wr.heap.size,0,none⟩ (.map (some nb)) (.string y.text) (wr.alloc (.cells #[.string y.text,.int .i64 y.at_] 107)).drew from ⟨(hbx.cell (p:=⟨M,4,none⟩) hMl).trans m4,b0⟩);have hI2:=hI.below (show Below wr.heap.size wr (wr.alloc (.cells #[.string y.text,.int .i64 y.at_] 107)).drew from hbx.drew) (by omega);obtain ⟨w5,hrun,hmp5,hkp5⟩:=zyc (e:=⟨false,j⟩) hI2.mc.tab hys hyn;unfold kw9 at hrun;have HN5:=hide (show NwI w W w.heap.size so M nb [] [] (kj3 m.sets) [] (t2++[(y.text,⟨false,j⟩)]) 0 (.slice none 0 0) (.slice none 0 0) (.slice va vn vc) (.slice none 0 0) w5 from ⟨jv4 hI2.mc hkp5 hmp5,hI2.tk.trans (zq0 hkp5 _),hI2.be.trans ⟨hkp5.os,hkp5.tape,hkp5.output,hkp5.size,fun q hq=>hkp5.block q (by have:=hI2.be.size;omega) (by omega)⟩⟩);clear hc2 fl hvw hI htk hI2 hmp5 hkp5 m0 m1 m2 m3 m4 m5 hbx b0 b1 ht3 hrest2 hyn;go_upto_region 13 with fail
       refine pz (S:=zw4 ⟨M,4,none⟩ ⟨wr.heap.size,0,none⟩ (.map (some nb)) (.string y.text)) (tl:=[8]) (by kernel_rfl) ?_;refine qy (i:=0) (v:=.pointer (some ⟨M,0,none⟩)) rfl (by kernel_rfl) (by kernel_rfl) (by kernel_rfl) (fun _ _ _ h=>h) (Or.inl ⟨by rfl,fun _ _=>by go_simp⟩) ?_;try simp only[Act.put,wz,wQ,wu]
       refine qy (i:=1) (v:=.pointer (some ⟨M,0,none⟩)) rfl (by kernel_rfl) (by kernel_rfl) (by kernel_rfl) (fun _ _ _ h=>h) (Or.inl ⟨by rfl,fun _ _=>by go_simp⟩) ?_;try simp only[Act.put,wz,wQ,wu]
       refine qy (i:=2) (v:=.pointer (some ⟨M,4,none⟩)) rfl (by kernel_rfl) (by kernel_rfl) (by kernel_rfl) (fun _ _ _ h=>h) (Or.inl ⟨by rfl,fun _ _=>by go_simp⟩) ?_;try simp only[Act.put,wz,wQ,wu]
       refine qo (i:=3) (v:=.map (some nb)) [8] rfl (by kernel_rfl) (by kernel_rfl) (by kernel_rfl) (by kernel_rfl) (by decide) (fun _ _ _ h=>h) (Or.inl ⟨by rfl,fun wq hSw=>by (obtain ⟨s0,s1⟩:=hSw;go_simp)⟩) (ku HS0) ?_;try simp only[Act.put,wz,wQ,wu]
       refine qy (i:=4) (v:=.pointer (some ⟨wr.heap.size,0,none⟩)) rfl (by kernel_rfl) (by kernel_rfl) (by kernel_rfl) (fun _ _ _ h=>h) (Or.inl ⟨by rfl,fun _ _=>by go_simp⟩) ?_;try simp only[Act.put,wz,wQ,wu]
       refine qo (i:=5) (v:=.string y.text) [8] rfl (by kernel_rfl) (by kernel_rfl) (by kernel_rfl) (by kernel_rfl) (by decide) (fun _ _ _ h=>h) (Or.inl ⟨by rfl,fun wq hSw=>by (obtain ⟨s0,s1⟩:=hSw;go_simp)⟩) (ku HS0) ?_;try simp only[Act.put,wz,wQ,wu]
       refine qy (i:=6) (v:=.int .i64 j) rfl (by kernel_rfl) (by kernel_rfl) (by kernel_rfl) (fun _ _ _ h=>h) (Or.inl ⟨by rfl,fun _ _=>by go_simp⟩) ?_;try simp only[Act.put,wz,wQ,wu]
       refine qy (i:=7) (v:=.agg #[.bool false,.int .i64 j]) rfl (by kernel_rfl) (by kernel_rfl) (by kernel_rfl) (fun _ _ _ h=>h) (Or.inl ⟨by rfl,fun _ _=>by go_simp⟩) ?_;try simp only[Act.put,wz,wQ,wu]
       refine kq1 _ _ _ _ (kjd (by kernel_rfl)) ?_;refine wpAny_ready (rs:=[8]) (by kernel_rfl) (by simp) (AllReady.cons rfl (fun K hK=>?_) AllReady.nil);go_simp
       refine hK _ _ ?_;clear hK K;refine wpAny_done (by kernel_rfl) ?_ _;clear hrun;go_wp2
       go_roundw
       case rel=>exact ⟨j+1,_,by omega,by go_num,ku HR2,ku HN5⟩
       case measure=>simp[intOf];omega
      ·have:j=s.members.length:=by omega
       subst this;rw[nV,zjy] at hrest2;injection hrest2 with hrest2;subst hrest2;have HI:=hide hI;clear hI htk;go_wp2
       go_roundw
       case rel=>exact ⟨k+1,_,by omega,by go_num,ku HREST,ku HI⟩
       case measure=>simp[intOf];omega
    ·have:k=m.kinds.length:=by omega
     subst this;rw[nV,qj5] at hrest;injection hrest with hrest;subst hrest;obtain ⟨q0,q1,q2,q3,q4,_⟩:=jq (htk.row (ku HBX) (fun e=>ku HNR _ _ _ _ e (ku HBX)) (by decide));have HI:=hide hI;have hHl:w.heap.size<wr.heap.size:=by omega
     clear hI htk;go_wp2_with fail
     go_loopw [10,11,67] (fun _ _ i wr=>∃ (k:Nat) (t:uw) (vs:List MVar) (sz:Nat) (vv:Value),k≤m.vars.length∧i=.int .i64 k∧ky5 m.sets m.kinds (m.vars.drop k) k t vs sz=some X∧NwI w W w.heap.size so M nb [] [] (kj3 m.sets) vs t sz (.slice none 0 0) (.slice none 0 0) (.slice va vn vc) vv wr) (fun _ _ i _=>m.vars.length-(intOf i).toNat)
     case atStart=>exact ⟨0,t,[],0,_,rG _,rfl,ku HV,ku HI⟩
     case round=>
      obtain ⟨k,t,vs,sz,vv,hk,rfl,hrest,hI⟩:=hrel;have hMl:=zk0 hI;have htk:=hI.tk;have hsz:=htk.size;clear HI;by_cases hlt:k<m.vars.length
      ·obtain ⟨zb,zd,ez,hvw⟩:=qm (zy (ku HMD).o2 htk (ku HNR) (by decide));injection ez with ez1 _ ez3;subst ez1;subst ez3;obtain ⟨g,rfl,hg1,hg2,hc⟩:=hvw k hlt;have fl:=fun j (hj:j<10)=>kjj kqx 10 (fun _=>rfl) m.vars k j hlt hj
       have cc:=fun j (hj:j<10)=>(hc (k * 10+j) (by omega)).trans (fl j hj)
       have e0:=cc 0 (by omega);have e1:=cc 1 (by omega);have e2:=cc 2 (by omega);have e3:=cc 3 (by omega);have e4:=cc 4 (by omega);have e5:=cc 5 (by omega);have e6:=cc 6 (by omega);have e7:=cc 7 (by omega);have e8:=cc 8 (by omega);have e9:=cc 9 (by omega);simp only[kqx,sZ,sV,nP] at e0 e1 e2 e3 e4 e5 e6 e7 e8 e9;rw[rM hlt,ky5] at hrest;obtain ⟨t3,ht3,hrest⟩:=wJ.mp hrest;obtain ⟨rfl,hys,hyn⟩:=zxl ht3;have hcond:sz≤100000∧vs.length≤1000:=by
        apply rD;intro hc;rw[if_neg hc] at hrest;cases hrest
       rw[if_pos hcond] at hrest;obtain ⟨u,hu,hrest⟩:=wJ.mp hrest;have HREST:=hide hrest;have HU:=hide hu;generalize m.vars[k]=s at *;obtain ⟨m0,m1,m2,m3,m4,m5,_⟩:=kk4 hI.mc.row;have hbx:Below wr.heap.size wr (wr.alloc (.cells #[.string s.name.text,.int .i64 s.name.at_,.bool s.arr,.string s.over.text,.int .i64 s.over.at_,.int .i64 s.si.form,.int .i64 (yx s.si.top.text),.int .i64 s.si.top.at_,.string s.si.name.text,.int .i64 s.si.name.at_] 121)):=below_alloc1 _ _;have hbr:=qg wr (.cells #[.string s.name.text,.int .i64 s.name.at_,.bool s.arr,.string s.over.text,.int .i64 s.over.at_,.int .i64 s.si.form,.int .i64 (yx s.si.top.text),.int .i64 s.si.top.at_,.string s.si.name.text,.int .i64 s.si.name.at_] 121);obtain ⟨⟨b0,b1,b2,b3,b4,b5,b6,b7,b8,b9⟩,_⟩:=kxs hbr;have HS0:=hide (show zw4 ⟨M,4,none⟩ ⟨wr.heap.size,0,none⟩ (.map (some nb)) (.string s.name.text) (wr.alloc (.cells #[.string s.name.text,.int .i64 s.name.at_,.bool s.arr,.string s.over.text,.int .i64 s.over.at_,.int .i64 s.si.form,.int .i64 (yx s.si.top.text),.int .i64 s.si.top.at_,.string s.si.name.text,.int .i64 s.si.name.at_] 121)).drew from ⟨(hbx.cell (p:=⟨M,4,none⟩) hMl).trans m4,b0⟩);have hI2:=hI.below (show Below wr.heap.size wr (wr.alloc (.cells #[.string s.name.text,.int .i64 s.name.at_,.bool s.arr,.string s.over.text,.int .i64 s.over.at_,.int .i64 s.si.form,.int .i64 (yx s.si.top.text),.int .i64 s.si.top.at_,.string s.si.name.text,.int .i64 s.si.name.at_] 121)).drew from hbx.drew) (by omega);obtain ⟨w5,hrun,hmp5,hkp5⟩:=zyc (e:=⟨true,k⟩) hI2.mc.tab hys hyn;unfold kw9 at hrun;have hN5:NwI w W w.heap.size so M nb [] [] (kj3 m.sets) vs (t++[(s.name.text,⟨true,k⟩)]) sz (.slice none 0 0) (.slice none 0 0) (.slice va vn vc) vv w5:=⟨jv4 hI2.mc hkp5 hmp5,hI2.tk.trans (zq0 hkp5 _),hI2.be.trans ⟨hkp5.os,hkp5.tape,hkp5.output,hkp5.size,fun q hq=>hkp5.block q (by have:=hI2.be.size;omega) (by omega)⟩⟩;have hs5:wr.heap.size<w5.heap.size:=by have:=hkp5.size;simp at this;omega
       have hbr5:=(zq0 hkp5 []).row (show (wr.alloc (.cells #[.string s.name.text,.int .i64 s.name.at_,.bool s.arr,.string s.over.text,.int .i64 s.over.at_,.int .i64 s.si.form,.int .i64 (yx s.si.top.text),.int .i64 s.si.top.at_,.string s.si.name.text,.int .i64 s.si.name.at_] 121)).drew.heap[wr.heap.size]?=some (.cells #[.string s.name.text,.int .i64 s.name.at_,.bool s.arr,.string s.over.text,.int .i64 s.over.at_,.int .i64 s.si.form,.int .i64 (yx s.si.top.text),.int .i64 s.si.top.at_,.string s.si.name.text,.int .i64 s.si.name.at_] 121 (0,0)) from hbr) (fun e=>hI2.mc.tab.no _ _ _ _ e hbr) (by simp);obtain ⟨⟨d0,d1,d2,d3,d4,d5,d6,d7,d8,d9⟩,_⟩:=kxs hbr5;obtain ⟨q0,q1,q2,q3,q4,_⟩:=jq (hN5.tk.row (ku HBX) (fun e=>ku HNR _ _ _ _ e (ku HBX)) (by decide));have HAV:=hide (jxg w5 w.heap.size so so M nb [] [] (kj3 m.sets) vs (t++[(s.name.text,⟨true,k⟩)]) sz (.slice none 0 0) (.slice none 0 0) (.slice va vn vc) vv a0 a1 (some ⟨g,0,none⟩) a3 a4 m.sets.length m.kinds.length m.vars.length m.rules.length m.nevers.length c0 c1 c2 c3 c4 m s u hN5.mc ((ku HMD).tk hN5.tk (ku HNR) (by decide)) (ku HF) (ku HU) (by omega) (by omega) (by omega));unfold mdV vrV kqx at HAV;have HN5:=hide hN5;clear hc cc fl hvw hI htk hI2 hmp5 hkp5 hN5 m0 m1 m2 m3 m4 m5 hbx hbr hbr5 b0 b1 b2 b3 b4 b5 b6 b7 b8 b9 ht3 hrest hyn hu;go_upto_region 19 with fail
       refine pz (S:=zw4 ⟨M,4,none⟩ ⟨wr.heap.size,0,none⟩ (.map (some nb)) (.string s.name.text)) (tl:=[9]) (by kernel_rfl) ?_;refine qy (i:=0) (v:=.pointer (some ⟨M,0,none⟩)) rfl (by kernel_rfl) (by kernel_rfl) (by kernel_rfl) (fun _ _ _ h=>h) (Or.inl ⟨by rfl,fun _ _=>by go_simp⟩) ?_;try simp only[Act.put,wz,wQ,wu]
       refine qy (i:=1) (v:=.pointer (some ⟨M,0,none⟩)) rfl (by kernel_rfl) (by kernel_rfl) (by kernel_rfl) (fun _ _ _ h=>h) (Or.inl ⟨by rfl,fun _ _=>by go_simp⟩) ?_;try simp only[Act.put,wz,wQ,wu]
       refine qy (i:=2) (v:=.pointer (some ⟨M,4,none⟩)) rfl (by kernel_rfl) (by kernel_rfl) (by kernel_rfl) (fun _ _ _ h=>h) (Or.inl ⟨by rfl,fun _ _=>by go_simp⟩) ?_;try simp only[Act.put,wz,wQ,wu]
       refine qo (i:=3) (v:=.map (some nb)) [9] rfl (by kernel_rfl) (by kernel_rfl) (by kernel_rfl) (by kernel_rfl) (by decide) (fun _ _ _ h=>h) (Or.inl ⟨by rfl,fun wq hSw=>by (obtain ⟨s0,s1⟩:=hSw;go_simp)⟩) (ku HS0) ?_;try simp only[Act.put,wz,wQ,wu]
       refine qy (i:=4) (v:=.pointer (some ⟨wr.heap.size,0,none⟩)) rfl (by kernel_rfl) (by kernel_rfl) (by kernel_rfl) (fun _ _ _ h=>h) (Or.inl ⟨by rfl,fun _ _=>by go_simp⟩) ?_;try simp only[Act.put,wz,wQ,wu]
       refine qy (i:=5) (v:=.pointer (some ⟨wr.heap.size,0,none⟩)) rfl (by kernel_rfl) (by kernel_rfl) (by kernel_rfl) (fun _ _ _ h=>h) (Or.inl ⟨by rfl,fun _ _=>by go_simp⟩) ?_;try simp only[Act.put,wz,wQ,wu]
       refine qo (i:=6) (v:=.string s.name.text) [9] rfl (by kernel_rfl) (by kernel_rfl) (by kernel_rfl) (by kernel_rfl) (by decide) (fun _ _ _ h=>h) (Or.inl ⟨by rfl,fun wq hSw=>by (obtain ⟨s0,s1⟩:=hSw;go_simp)⟩) (ku HS0) ?_;try simp only[Act.put,wz,wQ,wu]
       refine qy (i:=7) (v:=.int .i64 k) rfl (by kernel_rfl) (by kernel_rfl) (by kernel_rfl) (fun _ _ _ h=>h) (Or.inl ⟨by rfl,fun _ _=>by go_simp⟩) ?_;try simp only[Act.put,wz,wQ,wu]
       refine qy (i:=8) (v:=.agg #[.bool true,.int .i64 k]) rfl (by kernel_rfl) (by kernel_rfl) (by kernel_rfl) (fun _ _ _ h=>h) (Or.inl ⟨by rfl,fun _ _=>by go_simp⟩) ?_;try simp only[Act.put,wz,wQ,wu]
       refine kq1 _ _ _ _ (kjd (by kernel_rfl)) ?_;refine wpAny_ready (rs:=[9]) (by kernel_rfl) (by simp) (AllReady.cons rfl (fun K hK=>?_) AllReady.nil);go_simp
       refine hK _ _ ?_;clear hK K;refine wpAny_done (by kernel_rfl) ?_ _;clear hrun;go_wp2_with fail
       refine (ku HAV).mono ?_;rintro e w6 ⟨rfl,⟨vv6,hm6⟩,hk6,hb6⟩;have HN6:=hide (show NwI w W w.heap.size so M nb [] [] (kj3 m.sets) (vs++[u]) (t++[(s.name.text,⟨true,k⟩)]) (sz+u.count) (.slice none 0 0) (.slice none 0 0) (.slice va vn vc) vv6 w6 from ⟨hm6,(ku HN5).tk.trans ((hk6.wide (by decide)).any _),(ku HN5).be.trans hb6⟩);clear hm6 hk6 hb6 HAV d0 d1 d2 d3 d4 d5 d6 d7 d8 d9 q0 q1 q2 q3 q4;go_wp2
       go_roundw
       case rel=>exact ⟨k+1,_,_,_,_,by omega,by go_num,ku HREST,ku HN6⟩
       case measure=>simp[intOf];omega
      ·have:k=m.vars.length:=by omega
       subst this;rw[nV,ky5] at hrest;injection hrest with hrest;subst hrest;obtain ⟨q0,q1,q2,q3,q4,_⟩:=jq (htk.row (ku HBX) (fun e=>ku HNR _ _ _ _ e (ku HBX)) (by decide));have HI:=hide hI;have hHl:w.heap.size<wr.heap.size:=by omega
       clear hI htk;go_wp2_with fail
       go_loopw [13,89] (fun _ i wr=>∃ (k:Nat) (acc:List MStep) (sv:Value),k≤m.rules.length∧i=.int .i64 k∧kyw m.sets (m.rules.drop k) acc=some ST∧NwI w W w.heap.size so M nb acc [] (kj3 m.sets) vs t sz sv (.slice none 0 0) (.slice va vn vc) vv wr) (fun _ i _=>m.rules.length-(intOf i).toNat)
       case atStart=>exact ⟨0,[],_,rG _,rfl,ku HSS,ku HI⟩
       case round=>
        obtain ⟨k,acc,sv,hk,rfl,hrest,hI⟩:=hrel;have hMl:=zk0 hI;have htk:=hI.tk;have hsz:=htk.size;clear HI;by_cases hlt:k<m.rules.length
        ·obtain ⟨kcs,ho,hru⟩:=(ku HMD).o3;obtain ⟨zb,zd,ez,hvw⟩:=qm (zy ho htk (ku HNR) (by decide));injection ez with ez1 _ ez3;subst ez1;subst ez3;obtain ⟨g,rfl,hg1,hg2,hc⟩:=hvw k hlt;obtain ⟨pa,pn,pc,gp,ba,bn,bc,bcs,⟨fl0,fl1,fl2,fl3,fl4⟩,hp,hx,hbo,hbi⟩:=kze.at_ k hlt hru;have e0:=(hc (k * 5) (by omega)).trans fl0;have e1:=(hc (k * 5+1) (by omega)).trans fl1;have e2:=(hc (k * 5+2) (by omega)).trans fl2;have e3:=(hc (k * 5+3) (by omega)).trans fl3;have e4:=(hc (k * 5+4) (by omega)).trans fl4;rw[rM hlt,kyw] at hrest;obtain ⟨c,hch,hrest⟩:=wJ.mp hrest;have hcond:kxm m.rules[k] c acc.length=true:=by
          cases hcd:kxm m.rules[k] c acc.length
          ·rw[hcd] at hrest;cases hrest
          ·rfl
         rw[if_pos hcond] at hrest;obtain ⟨hc1,hc2,hc3,hc4,hc5⟩:=qka hcond;have HREST:=hide hrest;have hbx:Below wr.heap.size wr (wr.alloc (.cells #[.string m.rules[k].name.text,.int .i64 m.rules[k].name.at_,.slice pa pn pc,.pointer gp,.slice ba bn bc] 127)):=below_alloc1 _ _;have hI2:=hI.below hbx (by omega);have HAS:=hide (zw3 (wr.alloc (.cells #[.string m.rules[k].name.text,.int .i64 m.rules[k].name.at_,.slice pa pn pc,.pointer gp,.slice ba bn bc] 127)) w.heap.size so M nb acc [] (kj3 m.sets) vs t sz sv (.slice none 0 0) (.slice va vn vc) vv a0 a1 a2 (some ⟨g,0,none⟩) a4 m.sets.length m.kinds.length m.vars.length m.rules.length m.nevers.length c0 c1 c2 c3 c4 m m.rules[k] pa gp ba pn pc bn bc bcs hI2.mc ((ku HMD).tk hI2.tk (ku HNR) (by decide)) (ku HF) hc5 (zy hp hI2.tk (ku HNR) (by decide)) hc4 (hx.tk hI2.tk (ku HNR) (by decide)) (zy hbo hI2.tk (ku HNR) (by decide)) (hbi.tk hI2.tk (ku HNR) (by decide) (by decide)) c hch hc1 hc2 hc3 (by simp;omega));unfold mdV at HAS;obtain ⟨q0,q1,q2,q3,q4,_⟩:=jq (htk.row (ku HBX) (fun e=>ku HNR _ _ _ _ e (ku HBX)) (by decide));have hHl:w.heap.size<wr.heap.size:=by omega
         have HI2:=hide hI2;have HMK:=hide (show qkq m.rules[k]=fun ms=>(⟨kxf m.rules[k].name.text ms,m.rules[k].params,ms,m.rules[k].guard,m.rules[k].body⟩:MStep) from rfl);rw[←ku HMK] at HAS;clear HMK;generalize qkq m.rules[k]=mk at *;generalize m.rules[k]=s at *;clear hc fl0 fl1 fl2 fl3 fl4 hvw hI htk hI2 hbx hp hx hbo hbi hrest hch hcond hc1 hc2 hc3 hc4 hc5 ho hru;go_wp2_with fail
         refine (ku HAS).mono ?_;rintro e w6 ⟨rfl,⟨gv,gn,gc,hm6⟩,hk6,hb6⟩;have HN6:=hide (show NwI w W w.heap.size so M nb (acc++c.map mk) [] (kj3 m.sets) vs t sz (.slice gv gn gc) (.slice none 0 0) (.slice va vn vc) vv w6 from ⟨hm6,(ku HI2).tk.trans ((hk6.wide (by decide)).any _),(ku HI2).be.trans hb6⟩);clear hm6 hk6 hb6 HAS q0 q1 q2 q3 q4 e0 e1 e2 e3 e4;go_wp2
         go_roundw
         case rel=>exact ⟨k+1,_,_,by omega,by go_num,ku HREST,ku HN6⟩
         case measure=>simp[intOf];omega
        ·have:k=m.rules.length:=by omega
         subst this;rw[nV,kyw] at hrest;injection hrest with hrest;subst hrest;obtain ⟨q0,q1,q2,q3,q4,_⟩:=jq (htk.row (ku HBX) (fun e=>ku HNR _ _ _ _ e (ku HBX)) (by decide));have HI:=hide hI;have hHl:w.heap.size<wr.heap.size:=by omega
         clear hI htk;go_wp2_with fail
         go_loopw [15,101] (fun _ i wr=>∃ (k:Nat) (acc2:List MNever) (nv:Value),k≤m.nevers.length∧i=.int .i64 k∧kvw m.sets (m.nevers.drop k) acc2=some NV∧NwI w W w.heap.size so M nb acc acc2 (kj3 m.sets) vs t sz sv nv (.slice va vn vc) vv wr) (fun _ i _=>m.nevers.length-(intOf i).toNat)
         case atStart=>exact ⟨0,[],_,rG _,rfl,ku HNN,ku HI⟩
         case round=>
          obtain ⟨k,acc2,nv,hk,rfl,hrest,hI⟩:=hrel;have hMl:=zk0 hI;have htk:=hI.tk;have hsz:=htk.size;clear HI;by_cases hlt:k<m.nevers.length
          ·obtain ⟨kcs,ho,hru⟩:=(ku HMD).o4;obtain ⟨zb,zd,ez,hvw⟩:=qm (zy ho htk (ku HNR) (by decide));injection ez with ez1 _ ez3;subst ez1;subst ez3;obtain ⟨g,rfl,hg1,hg2,hc⟩:=hvw k hlt;obtain ⟨pa,pn,pc,gp,⟨fl0,fl1,fl2,fl3⟩,hp,hx⟩:=kzi.at_ k hlt hru;have e0:=(hc (k * 4) (by omega)).trans fl0;have e1:=(hc (k * 4+1) (by omega)).trans fl1;have e2:=(hc (k * 4+2) (by omega)).trans fl2;have e3:=(hc (k * 4+3) (by omega)).trans fl3;rw[rM hlt,kvw] at hrest;obtain ⟨c,hch,hrest⟩:=wJ.mp hrest;have hcond:kxm m.nevers[k] c acc2.length=true:=by
            cases hcd:kxm m.nevers[k] c acc2.length
            ·rw[hcd] at hrest;cases hrest
            ·rfl
           rw[if_pos hcond] at hrest;obtain ⟨hc1,hc2,hc3,hc4,hc5⟩:=qka hcond;have HREST:=hide hrest;have hbx:Below wr.heap.size wr (wr.alloc (.cells #[.string m.nevers[k].name.text,.int .i64 m.nevers[k].name.at_,.slice pa pn pc,.pointer gp] 130)):=below_alloc1 _ _;have hI2:=hI.below hbx (by omega);have HAS:=hide (zx8 (wr.alloc (.cells #[.string m.nevers[k].name.text,.int .i64 m.nevers[k].name.at_,.slice pa pn pc,.pointer gp] 130)) w.heap.size so M nb acc acc2 (kj3 m.sets) vs t sz sv nv (.slice va vn vc) vv a0 a1 a2 a3 (some ⟨g,0,none⟩) m.sets.length m.kinds.length m.vars.length m.rules.length m.nevers.length c0 c1 c2 c3 c4 m m.nevers[k] pa gp pn pc hI2.mc ((ku HMD).tk hI2.tk (ku HNR) (by decide)) (ku HF) hc5 (zy hp hI2.tk (ku HNR) (by decide)) hc4 (hx.tk hI2.tk (ku HNR) (by decide)) c hch hc1 hc2 hc3 (by simp;omega));unfold mdV at HAS;obtain ⟨q0,q1,q2,q3,q4,_⟩:=jq (htk.row (ku HBX) (fun e=>ku HNR _ _ _ _ e (ku HBX)) (by decide));have hHl:w.heap.size<wr.heap.size:=by omega
           have HI2:=hide hI2;have HMK:=hide (show qj2 m.nevers[k]=fun ms=>(⟨kxf m.nevers[k].name.text ms,m.nevers[k].params,ms,m.nevers[k].guard⟩:MNever) from rfl);rw[←ku HMK] at HAS;clear HMK;generalize qj2 m.nevers[k]=mk at *;generalize m.nevers[k]=s at *;clear hc fl0 fl1 fl2 fl3 hvw hI htk hI2 hbx hp hx hrest hch hcond hc1 hc2 hc3 hc4 hc5 ho hru;go_wp2_with fail
           refine (ku HAS).mono ?_;rintro e w6 ⟨rfl,⟨gv,gn,gc,hm6⟩,hk6,hb6⟩;have HN6:=hide (show NwI w W w.heap.size so M nb acc (acc2++c.map mk) (kj3 m.sets) vs t sz sv (.slice gv gn gc) (.slice va vn vc) vv w6 from ⟨hm6,(ku HI2).tk.trans ((hk6.wide (by decide)).any _),(ku HI2).be.trans hb6⟩);clear hm6 hk6 hb6 HAS q0 q1 q2 q3 q4 e0 e1 e2 e3;go_wp2
           go_roundw
           case rel=>exact ⟨k+1,_,_,by omega,by go_num,ku HREST,ku HN6⟩
           case measure=>simp[intOf];omega
          ·have:k=m.nevers.length:=by omega
           subst this;rw[nV,kvw] at hrest;injection hrest with hrest;subst hrest;have HI:=hide hI;clear hI htk;go_wp2
           go_ret
           exact ⟨M,nb,_,_,_,_,rfl,(ku HI).mc,(ku HI).be⟩
def kyx:PB→Bool
 | .nil=>true
 | .node _ _ a .nil n=>kyx n
 | .node _ _ a (.node _ _ _ t e) n=>(kyx t&&decide (um t≤1000))&&((kyx e&&decide (um e≤1000))&&kyx n)
theorem qqg {i j k l:Nat}{a b:SLab}{t e n:PB}(h:kyx (.node i j a (.node k l b t e) n)=true):((kyx t=true∧um t≤1000)∧(kyx e=true∧um e≤1000)∧kyx n=true):=by
 rw[kyx] at h;simp only[wG,nG] at h;exact h
theorem qzg:∀ (b:PB),kyx b=true→kkd b
 | .nil,_=>trivial
 | .node _ _ a .nil n,h=>qzg n h
 | .node _ _ a (.node _ _ _ t e) n,h=>⟨⟨qzg t (qqg h).1.1,(qqg h).1.2⟩,⟨qzg e (qqg h).2.1.1,(qqg h).2.1.2⟩,qzg n (qqg h).2.2⟩
def qk1 (l:List Tok):Bool:=l.all fun y=>decide (y.text.size≤1000)
theorem qvt {l:List Tok}(h:qk1 l=true):∀ y∈l,y.text.size≤1000:=fun y hy=>of_decide_eq_true (ng.1 h y hy)
def qzo (s:MStep):Bool:=decide (s.params.length≤1000)&&(qk1 (je s.guard)&&(kyx s.block&&(decide (um s.block≤1000)&&qk1 (zi s.block))))
theorem jjt {s:MStep}(h:qzo s=true):qwr s:=by
 unfold qzo at h;simp only[wG,nG] at h;exact ⟨h.1,qvt h.2.1,qzg _ h.2.2.1,h.2.2.2.1,qvt h.2.2.2.2⟩
def qw2 (s:MNever):Bool:=decide (s.params.length≤1000)&&qk1 (je s.expr)
theorem jve {s:MNever}(h:qw2 s=true):jv3 s:=by
 unfold qw2 at h;simp only[wG,nG] at h;exact ⟨h.1,qvt h.2⟩
def kvy (a:Mach):Bool:=a.steps.all qzo&&(a.nevers.all qw2&&(decide (a.vars.length≤1000)&&(decide (a.steps.length≤1000000)&&decide (a.nevers.length≤1000000))))
theorem zjc {a:Mach}(h:kvy a=true):MachOk a:=by
 unfold kvy at h;simp only[wG,nG] at h;exact ⟨fun s hs=>jjt (ng.1 h.1 s hs),fun s hs=>jve (ng.1 h.2.1 s hs),h.2.2.1,h.2.2.2.1,h.2.2.2.2⟩
def qj4 (m:MdL):Bool:=decide (m.sets.length≤1000)&&(decide (m.kinds.length≤1000)&&((m.kinds.all fun x=>decide (x.members.length≤1000))&&(decide (m.vars.length≤1000)&&(decide (m.rules.length≤1000)&&decide (m.nevers.length≤1000)))))
theorem qw5 {m:MdL}(h:qj4 m=true):MdFit m:=by
 unfold qj4 at h;simp only[wG,nG] at h;exact ⟨h.1,h.2.1,fun x hx=>of_decide_eq_true (ng.1 h.2.2.1 x hx),h.2.2.2.1,h.2.2.2.2.1,h.2.2.2.2.2⟩
def qjg (s:ByteArray):Option Mach:=if qj4 (jk (kqd (dw s).1).1) then (zyu (jk (kqd (dw s).1).1)).bind fun a=>if kvy a then some a else none else none
def kw8 (s:ByteArray)(ts:List ByteArray):Option zw6:=if (kz4 s).1==0 then (qjg s).bind fun a=>zw9 a ts else some (noView,false,(kz4 s).1,(kz4 s).2)
theorem qv2 (s:ByteArray)(w:World)(ts:List ByteArray)(pa:Option Addr)(pn pc:Nat)(hP:w.ownsRow 0 9 1 (.slice pa pn pc) ts.length (ts.map Value.string))(htl:ts.length≤1000000)(r:zw6)(hr:kw8 s ts=some r) :
  Calls Tryz.prog 11 #[.string s,.slice pa pn pc] w fun e w'=>qzb w r e w':=by
 obtain ⟨W,hW⟩:∃ W,W=w.alloc (.cells #[.string ⟨#[]⟩,.slice none 0 0,.slice none 0 0,.slice none 0 0,.bool false] 24):=⟨_,rfl⟩;have hbW:Below w.heap.size w W:=by rw[hW];exact below_alloc1 w _
 have hsW:w.heap.size<W.heap.size:=by rw[hW];simp
 have hR:W.heap[w.heap.size]?=some (.cells #[.string ⟨#[]⟩,.slice none 0 0,.slice none 0 0,.slice none 0 0,.bool false] 24 (0,0)):=by rw[hW];exact qg _ _
 have HR:=hide hR;have HBW:=hide hbW;have HWE:=hide hW.symm;have HP:=hide hP;have HPL:=hide hr;clear hP hbW hW hR hr;go_enter Tryz.func11,Tryz.ntmps11
 go_wp2_with fail
 rw[ku HWE];refine (zqw s W).mono ?_;rintro e w1 ⟨hb1,x0,x1,x2,x3,x4,rfl,hmd,⟨a0,n0,k0,rfl⟩,⟨a1,n1,k1,rfl⟩,⟨a2,n2,k2,rfl⟩,⟨a3,n3,k3,rfl⟩,⟨a4,n4,k4,rfl⟩⟩;have hs1:=hb1.size;have hbw1:Below w.heap.size w w1:=(ku HBW).trans (hb1.mono (by omega));have hR1:=(hb1.block w.heap.size hsW).trans (ku HR);have hRl1:=wZ hR1;have HMD:=hide hmd;have HB1:=hide hbw1;have HR1:=hide hR1;have HPO:=HPL;unfold kw8 at HPL;clear hmd hb1 hbw1 hR1 HR;obtain ⟨c1,c2,hc⟩:∃ c1 c2,kz4 s=(c1,c2):=⟨_,_,rfl⟩;rw[hc] at HPL HMD ⊢;dsimp only at HPL HMD ⊢;clear hc HPO;cases hc0:(c1==0)
 ·have hE:r=(noView,false,c1,c2):=by
   have:=ku HPL;rw[hc0,if_neg (by simp)] at this;injection this with this;exact this.symm
  subst hE;have hcn:(c1 != 0)=true:=by simp[bne,hc0]
  obtain ⟨r0,r1,r2,r3,r4,y0,y1,y2,y3,y4⟩:=jq (ku HR1);clear HPL HMD;go_wp2
  refine wC (v:=.tuple #[.agg #[.string ⟨#[]⟩,.slice none 0 0,.slice none 0 0,.slice none 0 0,.bool false],.int .i64 c1,.int .i64 c2]) (uh Tryz.results11 _ _ w.heap.size _ _ _ _ rfl (ql (kjy (ku HR1) _ _ _ _ _)) Tryz.underlying24 rfl (by kernel_rfl)) rfl ?_;exact ⟨none,0,0,none,0,0,none,0,0,rfl,rW _ _ _ _,rW _ _ _ _,rW _ _ _ _,(kzo (ku HB1) _ _ _ _ _).alloc (kzo (ku HB1) _ _ _ _ _).size _⟩
 ·have hcn:(c1 != 0)=false:=by simp[bne,hc0]
  have hc00:c1=0:=by simpa using hc0
  have hpl:=ku HPL;rw[hc0,if_pos rfl] at hpl;obtain ⟨a,ha,hwk⟩:=wJ.mp hpl;unfold qjg at ha;have hfit:qj4 (jk (kqd (dw s).1).1)=true:=by
   cases hcd:qj4 (jk (kqd (dw s).1).1)
   ·rw[hcd] at ha;cases ha
   ·rfl
  rw[if_pos hfit] at ha;obtain ⟨a',hnew,ha⟩:=wJ.mp ha;have hmok:kvy a'=true:=by
   cases hcd:kvy a'
   ·rw[hcd] at ha;cases ha
   ·rfl
  rw[if_pos hmok] at ha;injection ha with ha;subst ha;have hmd:=(ku HMD) hc00;obtain ⟨wb,hwb⟩:∃ wb,wb=w1.alloc (.cells #[.slice a0 n0 k0,.slice a1 n1 k1,.slice a2 n2 k2,.slice a3 n3 k3,.slice a4 n4 k4] 68):=⟨_,rfl⟩;have hbb:Below w1.heap.size w1 wb:=by rw[hwb];exact below_alloc1 _ _
  have hsb:=hbb.size;have HNW:=hide (new_any wb W.heap.size a0 a1 a2 a3 a4 n0 n1 n2 n3 n4 k0 k1 k2 k3 k4 _ (hmd.stay fun k _ hk=>hbb.block k hk) (qw5 hfit) a' hnew);unfold mdV at HNW;have HMOK:=hide (zjc hmok);have HWK:=hide hwk;have HWB:=hide hwb.symm;have HBB:=hide ((ku HB1).trans (hbb.mono (by have:=(ku HB1).size;omega)));have HRB:=hide ((hbb.block _ hRl1).trans (ku HR1));clear HPL HMD hpl ha hwk hmok hfit hmd hbb hwb hnew hc00;go_wp2_with fail
  rw[ku HWB];refine (ku HNW).mono ?_;rintro e w2 ⟨M,nb,sv,nv,tv,vv,rfl,hmc,hb2⟩;have hs2:=hb2.size;have hbw2:=(ku HBB).trans (hb2.mono (by have:=(ku HBB).size;omega));have HWL:=hide (walk_any w2 W.heap.size M nb a' ts pa pn pc hmc.vw1 (ku HMOK) (qj (ku HP) hbw2) htl r (ku HWK));have HB2:=hide hbw2;have HR2:=hide ((hb2.block w.heap.size (by have:=wZ (ku HRB);omega)).trans (ku HRB));clear hmc hb2 hbw2 HNW;go_wp2_with fail
  refine (ku HWL).mono ?_;rintro e w3 ⟨ea,en,ec,wa,wn,wc,ba,bn,bc,rfl,hp1,hp2,hp3,hb3⟩;have hs3:=hb3.size;have hz2:=(ku HB2).size;have hbw3:=(ku HB2).trans (hb3.mono hz2);have hR3:=(hb3.block w.heap.size (wZ (ku HR2))).trans (ku HR2);obtain ⟨r0,r1,r2,r3,r4,y0,y1,y2,y3,y4⟩:=jq hR3;have hRl3:=wZ hR3;have K:=zvj hR3 (bad:=[24]) (by decide) (.string r.1.text) (.slice ea en ec) (.slice wa wn wc) (.slice ba bn bc) (.bool r.2.1);have HE:=hide (show qzb w r (.returned (.tuple #[.agg #[.string r.1.text,.slice ea en ec,.slice wa wn wc,.slice ba bn bc,.bool r.2.1],.int .i64 r.2.2.1,.int .i64 r.2.2.2])) _ from ⟨ea,en,ec,wa,wn,wc,ba,bn,bc,rfl,zx hz2 (zy hp1 K (jh.none _) (by decide)),zx hz2 (zy hp2 K (jh.none _) (by decide)),zx hz2 (zy hp3 K (jh.none _) (by decide)),kzo hbw3 _ _ _ _ _⟩);have HR3:=hide hR3;clear hp1 hp2 hp3 hb3 hbw3 hR3 K HWL;go_wp2
  refine wC (v:=.tuple #[.agg #[.string r.1.text,.slice ea en ec,.slice wa wn wc,.slice ba bn bc,.bool r.2.1],.int .i64 r.2.2.1,.int .i64 r.2.2.2]) (uh Tryz.results11 _ _ w.heap.size _ _ _ _ rfl (kjy (ku HR3) _ _ _ _ _) Tryz.underlying24 rfl (by kernel_rfl)) rfl ?_;exact ku HE
end Go.Proofs.YtpmcnonmkghokaaGreatDoor
namespace Go.Proofs.YtpmcnonmkghokaaGreatDoor
open Go.RowKit
abbrev Turn:=List (List Int)
def ug (n:Nat)(ts:List Turn):List Turn:=ts.flatMap fun t=>(orders n).map fun o=>t++[o]
def kke:List Int→List Turn→Option (List Turn)
 | [],ts=>some ts
 | n::l,ts=>if 0≤n∧n≤4∧(ug n.toNat ts).length≤100000 then kke l (ug n.toNat ts) else none
theorem zzr (n:Nat)(ts:List Turn)(j:Nat)(hj:j<ts.length):ug n (ts.take (j+1))=ug n (ts.take j)++(orders n).map fun o=>ts[j]++[o]:=by
 rw[nD hj,ug,lV];simp[ug]
theorem zwy (n:Nat)(ts:List Turn)(j:Nat):(ug n (ts.take j)).length≤(ug n ts).length:=by
 have:=Jq j ts;have h2:ug n ts=ug n (ts.take j)++ug n (ts.drop j):=by rw[ug,ug,ug,←lV,this]
 rw[h2,wB];omega
def zj5 (v:MVar)(t:Turn)(i:Nat):Option Int:=if v.over==-1 then some i else if v.over<0 then none else (t[v.over.toNat]?).bind fun o=>o[i]?
def zqq (v:MVar)(t:Turn)(x:Int):Option Int:=if (v.of_==-1)||(x==0) then some x else if v.of_<0∨x<0∨255<x then none else (t[v.of_.toNat]?).bind fun o=>(o[x.toNat-1]?).bind fun y=>if 0≤y∧y<255 then some (y+1) else none
def kyv (v:MVar)(t:Turn)(st:List Int):List Nat→List Int→Option (List Int)
 | [],cur=>some cur
 | i::l,cur=>(zj5 v t i).bind fun p=>(st[v.first+i]?).bind fun x=>(zqq v t x).bind fun y=>if 0≤p∧v.first+p.toNat<cur.length then kyv v t st l (cur.set (v.first+p.toNat) y) else none
def qjr (t:Turn)(st:List Int):List MVar→List Int→Option (List Int)
 | [],cur=>some cur
 | v::vs,cur=>(kyv v t st (List.range v.count) cur).bind fun c=>qjr t st vs c
def jzn (least c:List Int):List Int:=if cmpL c least<0 then c else least
def kw4 (vars:List MVar)(st:List Int):List Turn→List Int→List Int→Option (List Int × List Int)
 | [],least,cur=>some (least,cur)
 | t::ts,least,cur=>(qjr t st vars cur).bind fun c=>kw4 vars st ts (jzn least c) c
theorem qk0 (v:MVar)(t:Turn)(st:List Int):∀ (l:List Nat) (cur r:List Int),kyv v t st l cur=some r→r.length=cur.length
 | [],cur,r,h=>by rw[kyv] at h;injection h with h;rw[h]
 | i::l,cur,r,h=>by
  rw[kyv] at h;obtain ⟨p,_,h⟩:=wJ.mp h;obtain ⟨x,_,h⟩:=wJ.mp h;obtain ⟨y,_,h⟩:=wJ.mp h;split at h
  ·have:=qk0 v t st l _ r h;simpa using this
  ·cases h
theorem qvm (t:Turn)(st:List Int):∀ (vs:List MVar) (cur r:List Int),qjr t st vs cur=some r→r.length=cur.length
 | [],cur,r,h=>by rw[qjr] at h;injection h with h;rw[h]
 | v::vs,cur,r,h=>by
  rw[qjr] at h;obtain ⟨c,hc,h⟩:=wJ.mp h;rw[qvm t st vs c r h,qk0 _ _ _ _ _ _ hc]
theorem zyi {least c:List Int}(h:c.length=least.length):(jzn least c).length=least.length:=by
 unfold jzn;split
 ·exact h
 ·rfl
theorem zjt (vars:List MVar)(st:List Int):∀ (ts:List Turn) (least cur:List Int) (r:List Int × List Int),cur.length=least.length→kw4 vars st ts least cur=some r→r.1.length=least.length∧r.2.length=cur.length
 | [],least,cur,r,_,h=>by rw[kw4] at h;injection h with h;subst h;exact ⟨rfl,rfl⟩
 | t::ts,least,cur,r,hl,h=>by
  rw[kw4] at h;obtain ⟨c,hc,h⟩:=wJ.mp h;have h1:=qvm _ _ _ _ _ hc;have h2:=zyi (least:=least) (c:=c) (by omega);have h3:=zjt vars st ts _ c r (by omega) h;omega
structure SWay where
 state:List Int
 from_:Nat
 step:ByteArray
abbrev Fnd:=List (List Int × SWay)
structure SSt where
 ways:List SWay
 seen:List (List Int)
 found:Fnd
 cur:List Int
def kzj (k:List Int):Bool:=k.all fun x=>decide (0≤x)&&decide (x≤255)
def qjt (f:Fnd)(k:List Int)(x:SWay):Fnd:=if f.any fun y=>y.1==k then f else f++[(k,x)]
def qqx (a:Mach)(ts:List Turn)(x:SWay)(f:Fnd)(cur:List Int):Option (Fnd × List Int):=
 if 0<x.state.length∧x.state.length=cur.length∧x.state.length≤1000 then (kw4 a.vars x.state ts x.state cur).bind fun r=>if kzj r.1 then some (qjt f r.1 x,r.2) else none else none
def vvs:SWay:=⟨[],0,⟨#[]⟩⟩
def kks:Fnd→List Int→SWay
 | [],_=>vvs
 | y::l,k=>if y.1==k then y.2 else kks l k
def newF (seen:List (List Int))(f:Fnd):Fnd:=f.filter fun y=>!(seen.any fun k=>k==y.1)
def kvt (f:Fnd):List (List Int):=sortL (f.map fun y=>y.1)
def gu (s:SSt):SSt:=let f:=newF s.seen s.found;⟨s.ways++(kvt f).map (kks f),s.seen++kvt f,f,s.cur⟩
def endOf (v:MView):Int:=if 0<v.broken.length then 1 else if kqg v then 2 else if 0<v.wrong.length then 3 else 0
def qyu (a:Mach):List SWay→Nat→Option (Nat × Int)
 | [],_=>some (0,0)
 | x::l,at_=>if x.state.length≤1000000 then (lookO a x.state).bind fun v=>if endOf v==0 then qyu a l (at_+1) else some (at_,endOf v) else none
def kjs (a:Mach)(ts:List Turn)(most at_:Nat)(st:List Int):List MStep→Fnd→List Int→Option (Fnd × List Int × Bool)
 | [],f,c=>some (f,c,false)
 | s::l,f,c=>(kwq a.vars a.tab s.params s.mems st s.guard s.block).bind fun r=>if r.2==1 then (qqx a ts ⟨r.1,at_,s.text⟩ f c).bind fun q=>if most<q.1.length then some (q.1,q.2,true) else kjs a ts most at_ st l q.1 q.2 else kjs a ts most at_ st l f c
def kj9 (a:Mach)(ts:List Turn)(most:Nat):List SWay→Nat→Fnd→List Int→Option (Fnd × List Int)
 | [],_,f,c=>some (f,c)
 | x::l,at_,f,c=>if x.state.length≤1000000 then (kjs a ts most at_ x.state a.steps f c).bind fun q=>if q.2.2 then some (q.1,q.2.1) else kj9 a ts most l (at_+1) q.1 q.2.1 else none
def zzn (ways:List SWay):Nat→Nat→List ByteArray→Option (List ByteArray)
 | _,0,acc=>some acc
 | 0,_+1,_=>none
 | n+1,k+1,acc=>(ways[k+1]?).bind fun x=>if x.from_≤k then zzn ways n x.from_ (acc++[x.step]) else none
structure SRep where
 err:Int
 end_:Int
 trace:List ByteArray
 orbits:Nat
def kxw (e:Int):SRep:=⟨e,0,[],0⟩
def qzv (s:SSt)(last:Nat)(e:Int):Option SRep:=(zzn s.ways last last []).map fun l=>⟨0,e,l.reverse,s.ways.length⟩
def kqo (a:Mach)(ts:List Turn)(most:Nat):Nat→SSt→Option SRep
 | 0,_=>none
 | n+1,s=>
  if most<(gu s).ways.length then some (kxw 9)
  else if (gu s).ways.length==s.ways.length then qzv (gu s) 0 0
  else (qyu a ((gu s).ways.drop s.ways.length) s.ways.length).bind fun x=>if x.2==0 then (kj9 a ts most ((gu s).ways.drop s.ways.length) s.ways.length [] (gu s).cur).bind fun q=>kqo a ts most n ⟨(gu s).ways,(gu s).seen,q.1,q.2⟩ else qzv (gu s) x.1 x.2
def kkw (a:Mach):SWay:=⟨List.replicate a.size 0,0,⟨#[]⟩⟩
def zy0 (a:Mach)(most:Int):Option SRep:=
 if most<1∨500<most then some (kxw 8)
 else if a.size≤1000000 then (kke a.sets [[]]).bind fun ts=>(qqx a ts (kkw a) [] (List.replicate a.size 0)).bind fun q=>kqo a ts most.toNat 502 ⟨[],[],q.1,q.2⟩ else none
def kqu (s:ByteArray)(most:Int):Option SRep:=if (kz4 s).1==0 then (qjg s).bind fun a=>zy0 a most else some (kxw (kz4 s).1)
end Go.Proofs.YtpmcnonmkghokaaGreatDoor
