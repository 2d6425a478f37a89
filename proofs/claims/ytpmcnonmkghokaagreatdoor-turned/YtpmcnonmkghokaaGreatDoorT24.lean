import Derived.Test.YtpmcnonmkghokaaGreatDoorT15
import Derived.Test.YtpmcnonmkghokaaGreatDoorT23
set_option maxRecDepth 1000000
set_option maxHeartbeats 16000000
set_option linter.unusedVariables false
set_option linter.unusedSimpArgs false
namespace Go.Proofs.YtpmcnonmkghokaaGreatDoor
open Go.RowKit
attribute [local go_sem ↓] Go.wp_at_zero Go.wp_at_succ
def zwp (a b:Addr)(x y:Value)(w:World):Prop:=w.cell? a=some x∧w.cell? b=some y
theorem zwp.below {a b:Addr}{x y:Value}{B:Nat}{w w':World}(h:zwp a b x y w)(hb:Below B w w')(h1:a.block<B)(h2:b.block<B):zwp a b x y w':=⟨(hb.cell h1).trans h.1,(hb.cell h2).trans h.2⟩
theorem zkw {w W:World}{lo so M nb:Nat}{steps:List MStep}{nevers:List MNever}{sets:List Int}{vars:List MVar}{tab:uq}{size:Nat}{sv nv tv vv:Value}{wr:World}(h:NwI w W lo so M nb steps nevers sets vars tab size sv nv tv vv wr):M<wr.heap.size:=wX h.mc.row
def vk3 (w:World)(so:Nat)(r:Mach)(e:Ending)(w':World):Prop:=∃ M nb sv nv tv vv,e=.returned (.pointer (some ⟨M,0,none⟩))∧kjm w.heap.size so w' M nb r.steps r.nevers r.sets r.vars r.tab r.size sv nv tv vv∧Below w.heap.size w w'
theorem new_any (w:World)(so:Nat)(a0 a1 a2 a3 a4:Option Addr)(n0 n1 n2 n3 n4 c0 c1 c2 c3 c4:Nat)(m:MdL)(hm:kky so w (.slice a0 n0 c0) (.slice a1 n1 c1) (.slice a2 n2 c2) (.slice a3 n3 c3) (.slice a4 n4 c4) m)(hf:MdFit m)(r:Mach)(hr:jwq m=some r) :
  Calls Tryz.prog 35 #[mdV a0 a1 a2 a3 a4 n0 n1 n2 n3 n4 c0 c1 c2 c3 c4] w fun e w'=>vk3 w so r e w':=by
 unfold jwq at hr;obtain ⟨T,hK,hr⟩:=wQ.mp hr;obtain ⟨X,hV,hr⟩:=wQ.mp hr;obtain ⟨ST,hS,hr⟩:=wQ.mp hr;obtain ⟨NV,hN,rfl⟩:=rQ.mp hr;obtain ⟨za,zc,e,_⟩:=zq hm.o0;injection e with e1 e2 e3;subst e1;subst e2;subst e3;obtain ⟨_,ho1,_⟩:=hm.o1;obtain ⟨za,zc,e,_⟩:=zq ho1;injection e with e1 e2 e3;subst e1;subst e2;subst e3;obtain ⟨za,zc,e,_⟩:=zq hm.o2;injection e with e1 e2 e3;subst e1;subst e2;subst e3;obtain ⟨_,ho3,_⟩:=hm.o3;obtain ⟨za,zc,e,_⟩:=zq ho3;injection e with e1 e2 e3;subst e1;subst e2;subst e3;obtain ⟨_,ho4,_⟩:=hm.o4;obtain ⟨za,zc,e,_⟩:=zq ho4;injection e with e1 e2 e3;subst e1;subst e2;subst e3;obtain ⟨nb,hnb⟩:∃ nb,nb=w.heap.size+1:=⟨_,rfl⟩;obtain ⟨M,hM⟩:∃ M,M=w.heap.size+1+1:=⟨_,rfl⟩;obtain ⟨W,hW⟩:∃ W,W=((w.alloc (.cells #[.slice a0 m.sets.length c0,.slice a1 m.kinds.length c1,.slice a2 m.vars.length c2,.slice a3 m.rules.length c3,.slice a4 m.nevers.length c4] 68)).alloc (.map #[] 0)).alloc (.cells #[.slice none 0 0,.slice none 0 0,.slice none 0 0,.slice none 0 0,.map (some (w.heap.size+1)),.int .i64 0] 105):=⟨_,rfl⟩;have hbW:Below w.heap.size w W:=by rw[hW];exact ((below_alloc1 w _).trans ((below_alloc1 _ _).mono (by simp))).trans ((below_alloc1 _ _).mono (by simp;omega))
 have hsW:W.heap.size=w.heap.size+3:=by rw[hW];simp
 have hBX:W.heap[w.heap.size]?=some (.cells #[.slice a0 m.sets.length c0,.slice a1 m.kinds.length c1,.slice a2 m.vars.length c2,.slice a3 m.rules.length c3,.slice a4 m.nevers.length c4] 68 (0,0)):=by rw[hW];exact qp (qp (qy _ _))
 have hMp:W.heap[nb]?=some (.map #[] 0):=by
  rw[hW,hnb];have:=qy (w.alloc (.cells #[.slice a0 m.sets.length c0,.slice a1 m.kinds.length c1,.slice a2 m.vars.length c2,.slice a3 m.rules.length c3,.slice a4 m.nevers.length c4] 68)) (.map #[] 0);simp only[tJ] at this;exact qp this
 have hMr:W.heap[M]?=some (.cells #[.slice none 0 0,.slice none 0 0,.slice none 0 0,.slice none 0 0,.map (some nb),.int .i64 0] 105 (0,0)):=by
  rw[hW,hM,hnb];have:=qy ((w.alloc (.cells #[.slice a0 m.sets.length c0,.slice a1 m.kinds.length c1,.slice a2 m.vars.length c2,.slice a3 m.rules.length c3,.slice a4 m.nevers.length c4] 68)).alloc (.map #[] 0)) (.cells #[.slice none 0 0,.slice none 0 0,.slice none 0 0,.slice none 0 0,.map (some (w.heap.size+1)),.int .i64 0] 105);simp only[tJ] at this;exact this
 have hMt:kza W nb []:=⟨⟨#[],0,hMp,rfl⟩,List.nodup_nil,fun x hx=>by simp at hx⟩;have HM0:=hide (show NwI w W w.heap.size so M nb [] [] [] [] [] 0 (.slice none 0 0) (.slice none 0 0) (.slice none 0 0) (.slice none 0 0) W from
  ⟨⟨hMr,⟨[],rP _ _ _ _,rfl,fun k hk=>by simp at hk⟩,⟨[],rP _ _ _ _,rfl,fun k hk=>by simp at hk⟩,rP _ _ _ _,⟨[],rP _ _ _ _,rfl⟩,hMt,by omega,by omega⟩,Tk.refl _ _ _,hbW⟩)
 have HMD:=hide (show kky so W (.slice a0 m.sets.length c0) (.slice a1 m.kinds.length c1) (.slice a2 m.vars.length c2) (.slice a3 m.rules.length c3) (.slice a4 m.nevers.length c4) m from hm.stay fun k _ hk=>hbW.block k hk);have HNR:=hide hMt.no;have HBX:=hide hBX;have HWE:=hide hW.symm;have HNB:=hide hnb;have HME:=hide hM;have HF:=hide hf;have HK:=hide hK;have HV:=hide hV;have HSS:=hide hS;have HNN:=hide hN;have hle1:w.heap.size<nb:=by omega
 have hle2:nb<M:=by omega
 have hle3:M<W.heap.size:=by omega
 have hl0:=hf.sets;have hl1:=hf.kinds;have hl2:=hf.vars;have hl3:=hf.rules;have hl4:=hf.nevers;clear hr hm ho1 ho3 ho4 hbW hsW hBX hMp hMr hMt hW hnb hM hf hK hV hS hN;obtain ⟨i0,hi,hz0,hz1,hz2⟩:=info_parts Tryz.infoInt;have hmk:∀ W:World,(Instr.makeMap 100 none).run Tryz.prog W=.ok (.map (some W.heap.size)) (W.alloc (.map #[] 0)):=fun W=>rfl
 unfold mdV;go_enter Tryz.func35,Tryz.ntmps35
 go_wp2_with fail
 clear hmk;rw[ku HWE,←ku HME,←ku HNB];go_loopw [5,22] (fun _ i wr=>∃ (k:Nat) (va:Option Addr) (vn vc:Nat),k≤m.sets.length∧i=.int .i64 k∧NwI w W w.heap.size so M nb [] [] (kzu (m.sets.take k)) [] [] 0 (.slice none 0 0) (.slice none 0 0) (.slice va vn vc) (.slice none 0 0) wr) (fun _ i _=>m.sets.length-(intOf i).toNat)
 case atStart=>exact ⟨0,none,0,0,tu _,rfl,ku HM0⟩
 case round=>
  obtain ⟨k,va,vn,vc,hk,rfl,hI⟩:=hrel;have hMl:=zkw hI;have htk:=hI.tk;have hsz:=htk.size;by_cases hlt:k<m.sets.length
  ·obtain ⟨zb,zd,ez,hvw⟩:=zq (zk (ku HMD).o0 htk (ku HNR) (by decide));injection ez with ez1 _ ez3;subst ez1;subst ez3;obtain ⟨g,rfl,hg1,hg2,hc⟩:=hvw k hlt;have fl:=fun j (hj:j<4)=>kjx qj7 4 (fun _=>rfl) m.sets k j hlt hj
   have e0:=(hc (k * 4+0) (by omega)).trans (fl 0 (by omega));have e1:=(hc (k * 4+1) (by omega)).trans (fl 1 (by omega));have e2:=(hc (k * 4+2) (by omega)).trans (fl 2 (by omega));have e3:=(hc (k * 4+3) (by omega)).trans (fl 3 (by omega));simp only[qj7,sW,sK,nV] at e0 e1 e2 e3;have HSN:=hide (show kzu (m.sets.take (k+1))=kzu (m.sets.take k)++[gu m.sets[k].size.text] by rw[nG hlt,kzu,ng];rfl);have hxl:(kzu (m.sets.take k)).length≤1000:=by simp[kzu];omega
   generalize kzu (m.sets.take k)=Lx at *;generalize m.sets[k]=s at *;obtain ⟨m0,m1,m2,m3,m4,m5,_⟩:=kvt hI.mc.row;have hbx:Below wr.heap.size wr (wr.alloc (.cells #[.string s.name.text,.int .i64 s.name.at_,.int .i64 (gu s.size.text),.int .i64 s.size.at_] 111)):=below_alloc1 _ _;obtain ⟨b0,b1,b2,b3,_⟩:=kx8 (qy wr (.cells #[.string s.name.text,.int .i64 s.name.at_,.int .i64 (gu s.size.text),.int .i64 s.size.at_] 111));have HS0:=hide (show zwp ⟨M,2,none⟩ ⟨wr.heap.size,2,none⟩ (.slice va vn vc) (.int .i64 (gu s.size.text)) (wr.alloc (.cells #[.string s.name.text,.int .i64 s.name.at_,.int .i64 (gu s.size.text),.int .i64 s.size.at_] 111)).drew from ⟨(hbx.cell (p:=⟨M,2,none⟩) hMl).trans m2,b2⟩);have HBXr:=hide (show Below wr.heap.size wr (wr.alloc (.cells #[.string s.name.text,.int .i64 s.name.at_,.int .i64 (gu s.size.text),.int .i64 s.size.at_] 111)).drew from hbx.drew);have HI:=hide hI;clear hc fl hvw hI htk m0 m1 m2 m3 m4 m5 hbx b0 b1 b2 b3;go_upto_region 5 with fail
   refine kqi (S:=zwp ⟨M,2,none⟩ ⟨wr.heap.size,2,none⟩ (.slice va vn vc) (.int .i64 (gu s.size.text))) (tl:=[9,10,11,12]) (by kernel_rfl) ?_;refine qm (i:=0) (v:=.pointer (some ⟨M,0,none⟩)) rfl (by kernel_rfl) (by kernel_rfl) (by kernel_rfl) (fun _ _ _ h=>h) (Or.inl ⟨by rfl,fun _ _=>by go_simp⟩) ?_;try simp only[Act.put,wu,wZ,wJ]
   refine qm (i:=1) (v:=.pointer (some ⟨M,0,none⟩)) rfl (by kernel_rfl) (by kernel_rfl) (by kernel_rfl) (fun _ _ _ h=>h) (Or.inl ⟨by rfl,fun _ _=>by go_simp⟩) ?_;try simp only[Act.put,wu,wZ,wJ]
   refine qm (i:=2) (v:=.pointer (some ⟨M,0,none⟩)) rfl (by kernel_rfl) (by kernel_rfl) (by kernel_rfl) (fun _ _ _ h=>h) (Or.inl ⟨by rfl,fun _ _=>by go_simp⟩) ?_;try simp only[Act.put,wu,wZ,wJ]
   refine qm (i:=3) (v:=.pointer (some ⟨M,2,none⟩)) rfl (by kernel_rfl) (by kernel_rfl) (by kernel_rfl) (fun _ _ _ h=>h) (Or.inl ⟨by rfl,fun _ _=>by go_simp⟩) ?_;try simp only[Act.put,wu,wZ,wJ]
   refine zl (i:=4) (v:=.slice va vn vc) [9,10,11,12] rfl (by kernel_rfl) (by kernel_rfl) (by kernel_rfl) (by kernel_rfl) (by decide) (fun _ _ _ h=>h) (Or.inl ⟨by rfl,fun wq hSw=>by (obtain ⟨s0,s1⟩:=hSw;go_simp)⟩) (ku HS0) ?_;try simp only[Act.put,wu,wZ,wJ]
   refine qm (i:=5) (v:=.pointer (some ⟨wr.heap.size,2,none⟩)) rfl (by kernel_rfl) (by kernel_rfl) (by kernel_rfl) (fun _ _ _ h=>h) (Or.inl ⟨by rfl,fun _ _=>by go_simp⟩) ?_;try simp only[Act.put,wu,wZ,wJ]
   refine qm (i:=6) (v:=.pointer (some ⟨wr.heap.size,2,none⟩)) rfl (by kernel_rfl) (by kernel_rfl) (by kernel_rfl) (fun _ _ _ h=>h) (Or.inl ⟨by rfl,fun _ _=>by go_simp⟩) ?_;try simp only[Act.put,wu,wZ,wJ]
   refine zl (i:=7) (v:=.int .i64 (gu s.size.text)) [8,9,10,11,12] rfl (by kernel_rfl) (by kernel_rfl) (by kernel_rfl) (by kernel_rfl) (by decide) (fun _ _ _ h=>h) (Or.inl ⟨by rfl,fun wq hSw=>by (obtain ⟨s0,s1⟩:=hSw;go_simp)⟩) (ku HS0) ?_;try simp only[Act.put,wu,wZ,wJ]
   refine kjj (rs:=[8]) (by kernel_rfl) (by simp) ?_;refine ug.cons rfl (fun K hK=>?_) ug.nil;go_simp
   refine hK _ _ ((ku HS0).below (below_alloc1 _ _) (show M<(wr.alloc _).heap.size by simp;omega) (show wr.heap.size<(wr.alloc _).heap.size by simp)) ?_;clear hK K;refine kz4 _ _ _ _ (kvb (by kernel_rfl)) ?_;refine wpAny_ready (rs:=[9]) (by kernel_rfl) (by simp) (AllReady.cons rfl (fun K hK=>?_) AllReady.nil);refine step_append_lies _ (by rfl) _ _ _ (by rfl) w.heap.size 3 i0 _ 1 8 Tryz.underlying31 hi hz0 hz1 hz2 rfl (by omega) (.slice va vn vc) Lx.length (Lx.map (Value.int .i64)) (by rfl) (qj (ku HI).mc.sets ((ku HBXr).alloc (ku HBXr).size _)) ⟨wr.heap.size+1,0,none⟩ 1 1 [.int .i64 (gu s.size.text)] (by rfl) (by rfl) (World.news_of_block (cs:=#[.int .i64 (gu s.size.text)]) (t:=3) (fr:=(0,0)) (by have:=heap_alloc_new (wr.alloc (.cells #[.string s.name.text,.int .i64 s.name.at_,.int .i64 (gu s.size.text),.int .i64 s.size.at_] 111)) (.cells #[.int .i64 (gu s.size.text)] 3);simp only[tJ] at this;exact this)) (by intro y hy;simp only[tK,nY,or_false] at hy;subst hy;rfl) (by omega) (by unfold maxLen;omega) (by omega) (by simp;omega) (wr.heap.size+2) (by simp) ?_;intro gg gcap w4 hown4 hgrow hat hlt4;refine hK _ _ ?_;clear hK K;have hgrow:((wr.alloc (.cells #[.string s.name.text,.int .i64 s.name.at_,.int .i64 (gu s.size.text),.int .i64 s.size.at_] 111)).drew.alloc (.cells #[.int .i64 (gu s.size.text)] 3)).grownBy w4 (Value.slice va vn vc).ownBlock:=hgrow;have hr4:=jk4 (ku HI).mc (ku HBXr) hgrow;obtain ⟨m0,m1,m2,m3,m4,m5,f0,f1,f2,f3,f4,f5⟩:=kvt hr4;have hend:=vv4 (ku HI).mc (gu s.size.text) (ku HBXr) hgrow hown4 (by omega);have HEND:=hide (show ∃ gv gn gc,NwI w W w.heap.size so M nb [] [] (Lx++[gu s.size.text]) [] [] 0 (.slice none 0 0) (.slice none 0 0) (.slice gv gn gc) (.slice none 0 0) (w4.setCell ⟨M,2,none⟩ (.slice (some ⟨gg,0,none⟩) (Lx.length+1) gcap)) from by
    obtain ⟨⟨gv,gn,gc,q1⟩,q2,q3⟩:=hend;exact ⟨gv,gn,gc,q1,(ku HI).tk.trans ((q2.wide (by decide)).any _),(ku HI).be.trans q3⟩)
   clear hr4 hown4 hgrow hat hend;refine wpAny_ready (rs:=[10]) (by kernel_rfl) (by simp) (AllReady.cons rfl (fun K hK=>?_) AllReady.nil);go_simp
   refine hK _ _ ?_;clear hK K;refine wpAny_ready (rs:=[11]) (by kernel_rfl) (by simp) (AllReady.cons rfl (fun K hK=>?_) AllReady.nil);go_simp
   refine hK _ _ ?_;clear hK K;refine wpAny_ready (rs:=[12]) (by kernel_rfl) (by simp) (AllReady.cons rfl (fun K hK=>?_) AllReady.nil);go_simp
   refine hK _ _ ?_;clear hK K;refine wpAny_done (by kernel_rfl) ?_ _;go_wp2
   go_roundw
   case rel=>
    obtain ⟨gv,gn,gc,q⟩:=ku HEND;exact ⟨k+1,gv,gn,gc,by omega,by go_num,by rw[ku HSN];exact q⟩
   case measure=>simp[intOf];omega
  ·have:k=m.sets.length:=by omega
   subst this;rw[Qk] at hI;obtain ⟨q0,q1,q2,q3,q4,_⟩:=zo (htk.row (ku HBX) (fun e=>ku HNR _ _ _ _ e (ku HBX)) (by decide));have HI:=hide hI;have hHl:w.heap.size<wr.heap.size:=by omega
   clear hI htk;go_wp2_with fail
   go_loopw [7,8,9,42] (fun _ _ _ i wr=>∃ (k:Nat) (t:uq),k≤m.kinds.length∧i=.int .i64 k∧qjp (m.kinds.drop k) t=some T∧NwI w W w.heap.size so M nb [] [] (kzu m.sets) [] t 0 (.slice none 0 0) (.slice none 0 0) (.slice va vn vc) (.slice none 0 0) wr) (fun _ _ _ i _=>m.kinds.length-(intOf i).toNat)
   case atStart=>exact ⟨0,[],tu _,rfl,ku HK,ku HI⟩
   case round=>
    obtain ⟨k,t,hk,rfl,hrest,hI⟩:=hrel;have hMl:=zkw hI;have htk:=hI.tk;have hsz:=htk.size;clear HI;by_cases hlt:k<m.kinds.length
    ·obtain ⟨kcs,ho1,hkd⟩:=(ku HMD).o1;obtain ⟨zb,zd,ez,hvw⟩:=zq (zk ho1 htk (ku HNR) (by decide));injection ez with ez1 _ ez3;subst ez1;subst ez3;obtain ⟨g,rfl,hg1,hg2,hc⟩:=hvw k hlt;obtain ⟨ma,mn,mc,fl0,fl1,fl2,hmem⟩:=zz4 k hlt hkd;have e0:=(hc (k * 3) (by omega)).trans fl0;have e1:=(hc (k * 3+1) (by omega)).trans fl1;have e2:=(hc (k * 3+2) (by omega)).trans fl2;obtain ⟨zb,zd,ez,_⟩:=zq hmem;injection ez with ez1 ez2 ez3;subst ez1;subst ez2;subst ez3;rw[sQ hlt,qjp] at hrest;obtain ⟨T1,hT1,hrest⟩:=wQ.mp hrest;have HREST:=hide hrest;have HT1:=hide hT1;have hml:=(ku HF).mems _ (rJ hlt);have HMEM:=hide hmem;generalize m.kinds[k]=s at *;have HI:=hide (hI.below (below_alloc1 wr (.cells #[.string s.name.text,.int .i64 s.name.at_,.slice ma s.members.length mc] 114)) (by omega));clear hc fl0 fl1 fl2 hvw hI htk hmem hrest hT1 ho1 hkd q0 q1 q2 q3 q4;go_wp2_with fail
     go_loopw [8,9,49] (fun _ _ i wr=>∃ (j:Nat) (t:uq),j≤s.members.length∧i=.int .i64 j∧zjo (s.members.drop j) j t=some T1∧NwI w W w.heap.size so M nb [] [] (kzu m.sets) [] t 0 (.slice none 0 0) (.slice none 0 0) (.slice va vn vc) (.slice none 0 0) wr) (fun _ _ i _=>s.members.length-(intOf i).toNat)
     case atStart=>exact ⟨0,t,tu _,rfl,ku HT1,ku HI⟩
     case round=>
      obtain ⟨j,t2,hj,rfl,hrest2,hI⟩:=hrel;have hMl:=zkw hI;have htk:=hI.tk;have hsz:=htk.size;clear HI;by_cases hlj:j<s.members.length
      ·obtain ⟨zb,zd,ez,hvw⟩:=zq (zk (ku HMEM) htk (ku HNR) (by decide));injection ez with ez1 _ ez3;subst ez1;subst ez3;obtain ⟨g2,rfl,hg21,hg22,hc2⟩:=hvw j hlj;have fl:=fun q (hq:q<2)=>kjx kqq 2 (fun _=>rfl) s.members j q hlj hq
       have e0:=(hc2 (j * 2+0) (by omega)).trans (fl 0 (by omega));have e1:=(hc2 (j * 2+1) (by omega)).trans (fl 1 (by omega));simp only[kqq,sW,sK,nV] at e0 e1;rw[sQ hlj,zjo] at hrest2;obtain ⟨t3,ht3,hrest2⟩:=wQ.mp hrest2;obtain ⟨rfl,hys,hyn⟩:=zk8 ht3;have HR2:=hide hrest2;generalize s.members[j]=y at *;obtain ⟨m0,m1,m2,m3,m4,m5,_⟩:=kvt hI.mc.row;have hbx:Below wr.heap.size wr (wr.alloc (.cells #[.string y.text,.int .i64 y.at_] 107)):=below_alloc1 _ _;obtain ⟨b0,b1,_,_⟩:=yj (qy wr (.cells #[.string y.text,.int .i64 y.at_] 107));have HS0:=hide (show zwp ⟨M,4,none⟩ ⟨wr.heap.size,0,none⟩ (.map (some nb)) (.string y.text) (wr.alloc (.cells #[.string y.text,.int .i64 y.at_] 107)).drew from ⟨(hbx.cell (p:=⟨M,4,none⟩) hMl).trans m4,b0⟩);have hI2:=hI.below (show Below wr.heap.size wr (wr.alloc (.cells #[.string y.text,.int .i64 y.at_] 107)).drew from hbx.drew) (by omega);obtain ⟨w5,hrun,hmp5,hkp5⟩:=jq8 (e:=⟨false,j⟩) hI2.mc.tab hys hyn;unfold kw9 at hrun;have HN5:=hide (show NwI w W w.heap.size so M nb [] [] (kzu m.sets) [] (t2++[(y.text,⟨false,j⟩)]) 0 (.slice none 0 0) (.slice none 0 0) (.slice va vn vc) (.slice none 0 0) w5 from ⟨jvk hI2.mc hkp5 hmp5,hI2.tk.trans (zqu hkp5 _),hI2.be.trans ⟨hkp5.os,hkp5.tape,hkp5.output,hkp5.size,fun q hq=>hkp5.block q (by have:=hI2.be.size;omega) (by omega)⟩⟩);clear hc2 fl hvw hI htk hI2 hmp5 hkp5 m0 m1 m2 m3 m4 m5 hbx b0 b1 ht3 hrest2 hyn;go_upto_region 13 with fail
       refine kqi (S:=zwp ⟨M,4,none⟩ ⟨wr.heap.size,0,none⟩ (.map (some nb)) (.string y.text)) (tl:=[8]) (by kernel_rfl) ?_;refine qm (i:=0) (v:=.pointer (some ⟨M,0,none⟩)) rfl (by kernel_rfl) (by kernel_rfl) (by kernel_rfl) (fun _ _ _ h=>h) (Or.inl ⟨by rfl,fun _ _=>by go_simp⟩) ?_;try simp only[Act.put,wu,wZ,wJ]
       refine qm (i:=1) (v:=.pointer (some ⟨M,0,none⟩)) rfl (by kernel_rfl) (by kernel_rfl) (by kernel_rfl) (fun _ _ _ h=>h) (Or.inl ⟨by rfl,fun _ _=>by go_simp⟩) ?_;try simp only[Act.put,wu,wZ,wJ]
       refine qm (i:=2) (v:=.pointer (some ⟨M,4,none⟩)) rfl (by kernel_rfl) (by kernel_rfl) (by kernel_rfl) (fun _ _ _ h=>h) (Or.inl ⟨by rfl,fun _ _=>by go_simp⟩) ?_;try simp only[Act.put,wu,wZ,wJ]
       refine zl (i:=3) (v:=.map (some nb)) [8] rfl (by kernel_rfl) (by kernel_rfl) (by kernel_rfl) (by kernel_rfl) (by decide) (fun _ _ _ h=>h) (Or.inl ⟨by rfl,fun wq hSw=>by (obtain ⟨s0,s1⟩:=hSw;go_simp)⟩) (ku HS0) ?_;try simp only[Act.put,wu,wZ,wJ]
       refine qm (i:=4) (v:=.pointer (some ⟨wr.heap.size,0,none⟩)) rfl (by kernel_rfl) (by kernel_rfl) (by kernel_rfl) (fun _ _ _ h=>h) (Or.inl ⟨by rfl,fun _ _=>by go_simp⟩) ?_;try simp only[Act.put,wu,wZ,wJ]
       refine zl (i:=5) (v:=.string y.text) [8] rfl (by kernel_rfl) (by kernel_rfl) (by kernel_rfl) (by kernel_rfl) (by decide) (fun _ _ _ h=>h) (Or.inl ⟨by rfl,fun wq hSw=>by (obtain ⟨s0,s1⟩:=hSw;go_simp)⟩) (ku HS0) ?_;try simp only[Act.put,wu,wZ,wJ]
       refine qm (i:=6) (v:=.int .i64 j) rfl (by kernel_rfl) (by kernel_rfl) (by kernel_rfl) (fun _ _ _ h=>h) (Or.inl ⟨by rfl,fun _ _=>by go_simp⟩) ?_;try simp only[Act.put,wu,wZ,wJ]
       refine qm (i:=7) (v:=.agg #[.bool false,.int .i64 j]) rfl (by kernel_rfl) (by kernel_rfl) (by kernel_rfl) (fun _ _ _ h=>h) (Or.inl ⟨by rfl,fun _ _=>by go_simp⟩) ?_;try simp only[Act.put,wu,wZ,wJ]
       refine kz4 _ _ _ _ (kvb (by kernel_rfl)) ?_;refine wpAny_ready (rs:=[8]) (by kernel_rfl) (by simp) (AllReady.cons rfl (fun K hK=>?_) AllReady.nil);go_simp
       refine hK _ _ ?_;clear hK K;refine wpAny_done (by kernel_rfl) ?_ _;clear hrun;go_wp2
       go_roundw
       case rel=>exact ⟨j+1,_,by omega,by go_num,ku HR2,ku HN5⟩
       case measure=>simp[intOf];omega
      ·have:j=s.members.length:=by omega
       subst this;rw[lW,zjo] at hrest2;injection hrest2 with hrest2;subst hrest2;have HI:=hide hI;clear hI htk;go_wp2
       go_roundw
       case rel=>exact ⟨k+1,_,by omega,by go_num,ku HREST,ku HI⟩
       case measure=>simp[intOf];omega
    ·have:k=m.kinds.length:=by omega
     subst this;rw[lW,qjp] at hrest;injection hrest with hrest;subst hrest;obtain ⟨q0,q1,q2,q3,q4,_⟩:=zo (htk.row (ku HBX) (fun e=>ku HNR _ _ _ _ e (ku HBX)) (by decide));have HI:=hide hI;have hHl:w.heap.size<wr.heap.size:=by omega
     clear hI htk;go_wp2_with fail
     go_loopw [10,11,67] (fun _ _ i wr=>∃ (k:Nat) (t:uq) (vs:List MVar) (sz:Nat) (vv:Value),k≤m.vars.length∧i=.int .i64 k∧kyz m.sets m.kinds (m.vars.drop k) k t vs sz=some X∧NwI w W w.heap.size so M nb [] [] (kzu m.sets) vs t sz (.slice none 0 0) (.slice none 0 0) (.slice va vn vc) vv wr) (fun _ _ i _=>m.vars.length-(intOf i).toNat)
     case atStart=>exact ⟨0,t,[],0,_,tu _,rfl,ku HV,ku HI⟩
     case round=>
      obtain ⟨k,t,vs,sz,vv,hk,rfl,hrest,hI⟩:=hrel;have hMl:=zkw hI;have htk:=hI.tk;have hsz:=htk.size;clear HI;by_cases hlt:k<m.vars.length
      ·obtain ⟨zb,zd,ez,hvw⟩:=zq (zk (ku HMD).o2 htk (ku HNR) (by decide));injection ez with ez1 _ ez3;subst ez1;subst ez3;obtain ⟨g,rfl,hg1,hg2,hc⟩:=hvw k hlt;have fl:=fun j (hj:j<10)=>kjx kqx 10 (fun _=>rfl) m.vars k j hlt hj
       have cc:=fun j (hj:j<10)=>(hc (k * 10+j) (by omega)).trans (fl j hj)
       have e0:=cc 0 (by omega);have e1:=cc 1 (by omega);have e2:=cc 2 (by omega);have e3:=cc 3 (by omega);have e4:=cc 4 (by omega);have e5:=cc 5 (by omega);have e6:=cc 6 (by omega);have e7:=cc 7 (by omega);have e8:=cc 8 (by omega);have e9:=cc 9 (by omega);simp only[kqx,sW,sK,nV] at e0 e1 e2 e3 e4 e5 e6 e7 e8 e9;rw[sQ hlt,kyz] at hrest;obtain ⟨t3,ht3,hrest⟩:=wQ.mp hrest;obtain ⟨rfl,hys,hyn⟩:=zk8 ht3;have hcond:sz≤100000∧vs.length≤1000:=by
        apply sJ;intro hc;rw[if_neg hc] at hrest;cases hrest
       rw[if_pos hcond] at hrest;obtain ⟨u,hu,hrest⟩:=wQ.mp hrest;have HREST:=hide hrest;have HU:=hide hu;generalize m.vars[k]=s at *;obtain ⟨m0,m1,m2,m3,m4,m5,_⟩:=kvt hI.mc.row;have hbx:Below wr.heap.size wr (wr.alloc (.cells #[.string s.name.text,.int .i64 s.name.at_,.bool s.arr,.string s.over.text,.int .i64 s.over.at_,.int .i64 s.si.form,.int .i64 (gu s.si.top.text),.int .i64 s.si.top.at_,.string s.si.name.text,.int .i64 s.si.name.at_] 121)):=below_alloc1 _ _;have hbr:=qy wr (.cells #[.string s.name.text,.int .i64 s.name.at_,.bool s.arr,.string s.over.text,.int .i64 s.over.at_,.int .i64 s.si.form,.int .i64 (gu s.si.top.text),.int .i64 s.si.top.at_,.string s.si.name.text,.int .i64 s.si.name.at_] 121);obtain ⟨⟨b0,b1,b2,b3,b4,b5,b6,b7,b8,b9⟩,_⟩:=kk5 hbr;have HS0:=hide (show zwp ⟨M,4,none⟩ ⟨wr.heap.size,0,none⟩ (.map (some nb)) (.string s.name.text) (wr.alloc (.cells #[.string s.name.text,.int .i64 s.name.at_,.bool s.arr,.string s.over.text,.int .i64 s.over.at_,.int .i64 s.si.form,.int .i64 (gu s.si.top.text),.int .i64 s.si.top.at_,.string s.si.name.text,.int .i64 s.si.name.at_] 121)).drew from ⟨(hbx.cell (p:=⟨M,4,none⟩) hMl).trans m4,b0⟩);have hI2:=hI.below (show Below wr.heap.size wr (wr.alloc (.cells #[.string s.name.text,.int .i64 s.name.at_,.bool s.arr,.string s.over.text,.int .i64 s.over.at_,.int .i64 s.si.form,.int .i64 (gu s.si.top.text),.int .i64 s.si.top.at_,.string s.si.name.text,.int .i64 s.si.name.at_] 121)).drew from hbx.drew) (by omega);obtain ⟨w5,hrun,hmp5,hkp5⟩:=jq8 (e:=⟨true,k⟩) hI2.mc.tab hys hyn;unfold kw9 at hrun;have hN5:NwI w W w.heap.size so M nb [] [] (kzu m.sets) vs (t++[(s.name.text,⟨true,k⟩)]) sz (.slice none 0 0) (.slice none 0 0) (.slice va vn vc) vv w5:=⟨jvk hI2.mc hkp5 hmp5,hI2.tk.trans (zqu hkp5 _),hI2.be.trans ⟨hkp5.os,hkp5.tape,hkp5.output,hkp5.size,fun q hq=>hkp5.block q (by have:=hI2.be.size;omega) (by omega)⟩⟩;have hs5:wr.heap.size<w5.heap.size:=by have:=hkp5.size;simp at this;omega
       have hbr5:=(zqu hkp5 []).row (show (wr.alloc (.cells #[.string s.name.text,.int .i64 s.name.at_,.bool s.arr,.string s.over.text,.int .i64 s.over.at_,.int .i64 s.si.form,.int .i64 (gu s.si.top.text),.int .i64 s.si.top.at_,.string s.si.name.text,.int .i64 s.si.name.at_] 121)).drew.heap[wr.heap.size]?=some (.cells #[.string s.name.text,.int .i64 s.name.at_,.bool s.arr,.string s.over.text,.int .i64 s.over.at_,.int .i64 s.si.form,.int .i64 (gu s.si.top.text),.int .i64 s.si.top.at_,.string s.si.name.text,.int .i64 s.si.name.at_] 121 (0,0)) from hbr) (fun e=>hI2.mc.tab.no _ _ _ _ e hbr) (by simp);obtain ⟨⟨d0,d1,d2,d3,d4,d5,d6,d7,d8,d9⟩,_⟩:=kk5 hbr5;obtain ⟨q0,q1,q2,q3,q4,_⟩:=zo (hN5.tk.row (ku HBX) (fun e=>ku HNR _ _ _ _ e (ku HBX)) (by decide));have HAV:=hide (jxr w5 w.heap.size so so M nb [] [] (kzu m.sets) vs (t++[(s.name.text,⟨true,k⟩)]) sz (.slice none 0 0) (.slice none 0 0) (.slice va vn vc) vv a0 a1 (some ⟨g,0,none⟩) a3 a4 m.sets.length m.kinds.length m.vars.length m.rules.length m.nevers.length c0 c1 c2 c3 c4 m s u hN5.mc ((ku HMD).tk hN5.tk (ku HNR) (by decide)) (ku HF) (ku HU) (by omega) (by omega) (by omega));unfold mdV vrV kqx at HAV;have HN5:=hide hN5;clear hc cc fl hvw hI htk hI2 hmp5 hkp5 hN5 m0 m1 m2 m3 m4 m5 hbx hbr hbr5 b0 b1 b2 b3 b4 b5 b6 b7 b8 b9 ht3 hrest hyn hu;go_upto_region 19 with fail
       refine kqi (S:=zwp ⟨M,4,none⟩ ⟨wr.heap.size,0,none⟩ (.map (some nb)) (.string s.name.text)) (tl:=[9]) (by kernel_rfl) ?_;refine qm (i:=0) (v:=.pointer (some ⟨M,0,none⟩)) rfl (by kernel_rfl) (by kernel_rfl) (by kernel_rfl) (fun _ _ _ h=>h) (Or.inl ⟨by rfl,fun _ _=>by go_simp⟩) ?_;try simp only[Act.put,wu,wZ,wJ]
       refine qm (i:=1) (v:=.pointer (some ⟨M,0,none⟩)) rfl (by kernel_rfl) (by kernel_rfl) (by kernel_rfl) (fun _ _ _ h=>h) (Or.inl ⟨by rfl,fun _ _=>by go_simp⟩) ?_;try simp only[Act.put,wu,wZ,wJ]
       refine qm (i:=2) (v:=.pointer (some ⟨M,4,none⟩)) rfl (by kernel_rfl) (by kernel_rfl) (by kernel_rfl) (fun _ _ _ h=>h) (Or.inl ⟨by rfl,fun _ _=>by go_simp⟩) ?_;try simp only[Act.put,wu,wZ,wJ]
       refine zl (i:=3) (v:=.map (some nb)) [9] rfl (by kernel_rfl) (by kernel_rfl) (by kernel_rfl) (by kernel_rfl) (by decide) (fun _ _ _ h=>h) (Or.inl ⟨by rfl,fun wq hSw=>by (obtain ⟨s0,s1⟩:=hSw;go_simp)⟩) (ku HS0) ?_;try simp only[Act.put,wu,wZ,wJ]
       refine qm (i:=4) (v:=.pointer (some ⟨wr.heap.size,0,none⟩)) rfl (by kernel_rfl) (by kernel_rfl) (by kernel_rfl) (fun _ _ _ h=>h) (Or.inl ⟨by rfl,fun _ _=>by go_simp⟩) ?_;try simp only[Act.put,wu,wZ,wJ]
       refine qm (i:=5) (v:=.pointer (some ⟨wr.heap.size,0,none⟩)) rfl (by kernel_rfl) (by kernel_rfl) (by kernel_rfl) (fun _ _ _ h=>h) (Or.inl ⟨by rfl,fun _ _=>by go_simp⟩) ?_;try simp only[Act.put,wu,wZ,wJ]
       refine zl (i:=6) (v:=.string s.name.text) [9] rfl (by kernel_rfl) (by kernel_rfl) (by kernel_rfl) (by kernel_rfl) (by decide) (fun _ _ _ h=>h) (Or.inl ⟨by rfl,fun wq hSw=>by (obtain ⟨s0,s1⟩:=hSw;go_simp)⟩) (ku HS0) ?_;try simp only[Act.put,wu,wZ,wJ]
       refine qm (i:=7) (v:=.int .i64 k) rfl (by kernel_rfl) (by kernel_rfl) (by kernel_rfl) (fun _ _ _ h=>h) (Or.inl ⟨by rfl,fun _ _=>by go_simp⟩) ?_;try simp only[Act.put,wu,wZ,wJ]
       refine qm (i:=8) (v:=.agg #[.bool true,.int .i64 k]) rfl (by kernel_rfl) (by kernel_rfl) (by kernel_rfl) (fun _ _ _ h=>h) (Or.inl ⟨by rfl,fun _ _=>by go_simp⟩) ?_;try simp only[Act.put,wu,wZ,wJ]
       refine kz4 _ _ _ _ (kvb (by kernel_rfl)) ?_;refine wpAny_ready (rs:=[9]) (by kernel_rfl) (by simp) (AllReady.cons rfl (fun K hK=>?_) AllReady.nil);go_simp
       refine hK _ _ ?_;clear hK K;refine wpAny_done (by kernel_rfl) ?_ _;clear hrun;go_wp2_with fail
       refine (ku HAV).mono ?_;rintro e w6 ⟨rfl,⟨vv6,hm6⟩,hk6,hb6⟩;have HN6:=hide (show NwI w W w.heap.size so M nb [] [] (kzu m.sets) (vs++[u]) (t++[(s.name.text,⟨true,k⟩)]) (sz+u.count) (.slice none 0 0) (.slice none 0 0) (.slice va vn vc) vv6 w6 from ⟨hm6,(ku HN5).tk.trans ((hk6.wide (by decide)).any _),(ku HN5).be.trans hb6⟩);clear hm6 hk6 hb6 HAV d0 d1 d2 d3 d4 d5 d6 d7 d8 d9 q0 q1 q2 q3 q4;go_wp2
       go_roundw
       case rel=>exact ⟨k+1,_,_,_,_,by omega,by go_num,ku HREST,ku HN6⟩
       case measure=>simp[intOf];omega
      ·have:k=m.vars.length:=by omega
       subst this;rw[lW,kyz] at hrest;injection hrest with hrest;subst hrest;obtain ⟨q0,q1,q2,q3,q4,_⟩:=zo (htk.row (ku HBX) (fun e=>ku HNR _ _ _ _ e (ku HBX)) (by decide));have HI:=hide hI;have hHl:w.heap.size<wr.heap.size:=by omega
       clear hI htk;go_wp2_with fail
       go_loopw [13,89] (fun _ i wr=>∃ (k:Nat) (acc:List MStep) (sv:Value),k≤m.rules.length∧i=.int .i64 k∧kxf m.sets (m.rules.drop k) acc=some ST∧NwI w W w.heap.size so M nb acc [] (kzu m.sets) vs t sz sv (.slice none 0 0) (.slice va vn vc) vv wr) (fun _ i _=>m.rules.length-(intOf i).toNat)
       case atStart=>exact ⟨0,[],_,tu _,rfl,ku HSS,ku HI⟩
       case round=>
        obtain ⟨k,acc,sv,hk,rfl,hrest,hI⟩:=hrel;have hMl:=zkw hI;have htk:=hI.tk;have hsz:=htk.size;clear HI;by_cases hlt:k<m.rules.length
        ·obtain ⟨kcs,ho,hru⟩:=(ku HMD).o3;obtain ⟨zb,zd,ez,hvw⟩:=zq (zk ho htk (ku HNR) (by decide));injection ez with ez1 _ ez3;subst ez1;subst ez3;obtain ⟨g,rfl,hg1,hg2,hc⟩:=hvw k hlt;obtain ⟨pa,pn,pc,gp,ba,bn,bc,bcs,⟨fl0,fl1,fl2,fl3,fl4⟩,hp,hx,hbo,hbi⟩:=kxv.at_ k hlt hru;have e0:=(hc (k * 5) (by omega)).trans fl0;have e1:=(hc (k * 5+1) (by omega)).trans fl1;have e2:=(hc (k * 5+2) (by omega)).trans fl2;have e3:=(hc (k * 5+3) (by omega)).trans fl3;have e4:=(hc (k * 5+4) (by omega)).trans fl4;rw[sQ hlt,kxf] at hrest;obtain ⟨c,hch,hrest⟩:=wQ.mp hrest;have hcond:kx1 m.rules[k] c acc.length=true:=by
          cases hcd:kx1 m.rules[k] c acc.length
          ·rw[hcd] at hrest;cases hrest
          ·rfl
         rw[if_pos hcond] at hrest;obtain ⟨hc1,hc2,hc3,hc4,hc5⟩:=qvx hcond;have HREST:=hide hrest;have hbx:Below wr.heap.size wr (wr.alloc (.cells #[.string m.rules[k].name.text,.int .i64 m.rules[k].name.at_,.slice pa pn pc,.pointer gp,.slice ba bn bc] 127)):=below_alloc1 _ _;have hI2:=hI.below hbx (by omega);have HAS:=hide (zwg (wr.alloc (.cells #[.string m.rules[k].name.text,.int .i64 m.rules[k].name.at_,.slice pa pn pc,.pointer gp,.slice ba bn bc] 127)) w.heap.size so M nb acc [] (kzu m.sets) vs t sz sv (.slice none 0 0) (.slice va vn vc) vv a0 a1 a2 (some ⟨g,0,none⟩) a4 m.sets.length m.kinds.length m.vars.length m.rules.length m.nevers.length c0 c1 c2 c3 c4 m m.rules[k] pa gp ba pn pc bn bc bcs hI2.mc ((ku HMD).tk hI2.tk (ku HNR) (by decide)) (ku HF) hc5 (zk hp hI2.tk (ku HNR) (by decide)) hc4 (hx.tk hI2.tk (ku HNR) (by decide)) (zk hbo hI2.tk (ku HNR) (by decide)) (hbi.tk hI2.tk (ku HNR) (by decide) (by decide)) c hch hc1 hc2 hc3 (by simp;omega));unfold mdV at HAS;obtain ⟨q0,q1,q2,q3,q4,_⟩:=zo (htk.row (ku HBX) (fun e=>ku HNR _ _ _ _ e (ku HBX)) (by decide));have hHl:w.heap.size<wr.heap.size:=by omega
         have HI2:=hide hI2;have HMK:=hide (show kk7 m.rules[k]=fun ms=>(⟨kzy m.rules[k].name.text ms,m.rules[k].params,ms,m.rules[k].guard,m.rules[k].body⟩:MStep) from rfl);rw[←ku HMK] at HAS;clear HMK;generalize kk7 m.rules[k]=mk at *;generalize m.rules[k]=s at *;clear hc fl0 fl1 fl2 fl3 fl4 hvw hI htk hI2 hbx hp hx hbo hbi hrest hch hcond hc1 hc2 hc3 hc4 hc5 ho hru;go_wp2_with fail
         refine (ku HAS).mono ?_;rintro e w6 ⟨rfl,⟨gv,gn,gc,hm6⟩,hk6,hb6⟩;have HN6:=hide (show NwI w W w.heap.size so M nb (acc++c.map mk) [] (kzu m.sets) vs t sz (.slice gv gn gc) (.slice none 0 0) (.slice va vn vc) vv w6 from ⟨hm6,(ku HI2).tk.trans ((hk6.wide (by decide)).any _),(ku HI2).be.trans hb6⟩);clear hm6 hk6 hb6 HAS q0 q1 q2 q3 q4 e0 e1 e2 e3 e4;go_wp2
         go_roundw
         case rel=>exact ⟨k+1,_,_,by omega,by go_num,ku HREST,ku HN6⟩
         case measure=>simp[intOf];omega
        ·have:k=m.rules.length:=by omega
         subst this;rw[lW,kxf] at hrest;injection hrest with hrest;subst hrest;obtain ⟨q0,q1,q2,q3,q4,_⟩:=zo (htk.row (ku HBX) (fun e=>ku HNR _ _ _ _ e (ku HBX)) (by decide));have HI:=hide hI;have hHl:w.heap.size<wr.heap.size:=by omega
         clear hI htk;go_wp2_with fail
         go_loopw [15,101] (fun _ i wr=>∃ (k:Nat) (acc2:List MNever) (nv:Value),k≤m.nevers.length∧i=.int .i64 k∧kzk m.sets (m.nevers.drop k) acc2=some NV∧NwI w W w.heap.size so M nb acc acc2 (kzu m.sets) vs t sz sv nv (.slice va vn vc) vv wr) (fun _ i _=>m.nevers.length-(intOf i).toNat)
         case atStart=>exact ⟨0,[],_,tu _,rfl,ku HNN,ku HI⟩
         case round=>
          obtain ⟨k,acc2,nv,hk,rfl,hrest,hI⟩:=hrel;have hMl:=zkw hI;have htk:=hI.tk;have hsz:=htk.size;clear HI;by_cases hlt:k<m.nevers.length
          ·obtain ⟨kcs,ho,hru⟩:=(ku HMD).o4;obtain ⟨zb,zd,ez,hvw⟩:=zq (zk ho htk (ku HNR) (by decide));injection ez with ez1 _ ez3;subst ez1;subst ez3;obtain ⟨g,rfl,hg1,hg2,hc⟩:=hvw k hlt;obtain ⟨pa,pn,pc,gp,⟨fl0,fl1,fl2,fl3⟩,hp,hx⟩:=kxw.at_ k hlt hru;have e0:=(hc (k * 4) (by omega)).trans fl0;have e1:=(hc (k * 4+1) (by omega)).trans fl1;have e2:=(hc (k * 4+2) (by omega)).trans fl2;have e3:=(hc (k * 4+3) (by omega)).trans fl3;rw[sQ hlt,kzk] at hrest;obtain ⟨c,hch,hrest⟩:=wQ.mp hrest;have hcond:kx1 m.nevers[k] c acc2.length=true:=by
            cases hcd:kx1 m.nevers[k] c acc2.length
            ·rw[hcd] at hrest;cases hrest
            ·rfl
           rw[if_pos hcond] at hrest;obtain ⟨hc1,hc2,hc3,hc4,hc5⟩:=qvx hcond;have HREST:=hide hrest;have hbx:Below wr.heap.size wr (wr.alloc (.cells #[.string m.nevers[k].name.text,.int .i64 m.nevers[k].name.at_,.slice pa pn pc,.pointer gp] 130)):=below_alloc1 _ _;have hI2:=hI.below hbx (by omega);have HAS:=hide (zxc (wr.alloc (.cells #[.string m.nevers[k].name.text,.int .i64 m.nevers[k].name.at_,.slice pa pn pc,.pointer gp] 130)) w.heap.size so M nb acc acc2 (kzu m.sets) vs t sz sv nv (.slice va vn vc) vv a0 a1 a2 a3 (some ⟨g,0,none⟩) m.sets.length m.kinds.length m.vars.length m.rules.length m.nevers.length c0 c1 c2 c3 c4 m m.nevers[k] pa gp pn pc hI2.mc ((ku HMD).tk hI2.tk (ku HNR) (by decide)) (ku HF) hc5 (zk hp hI2.tk (ku HNR) (by decide)) hc4 (hx.tk hI2.tk (ku HNR) (by decide)) c hch hc1 hc2 hc3 (by simp;omega));unfold mdV at HAS;obtain ⟨q0,q1,q2,q3,q4,_⟩:=zo (htk.row (ku HBX) (fun e=>ku HNR _ _ _ _ e (ku HBX)) (by decide));have hHl:w.heap.size<wr.heap.size:=by omega
           have HI2:=hide hI2;have HMK:=hide (show kzm m.nevers[k]=fun ms=>(⟨kzy m.nevers[k].name.text ms,m.nevers[k].params,ms,m.nevers[k].guard⟩:MNever) from rfl);rw[←ku HMK] at HAS;clear HMK;generalize kzm m.nevers[k]=mk at *;generalize m.nevers[k]=s at *;clear hc fl0 fl1 fl2 fl3 hvw hI htk hI2 hbx hp hx hrest hch hcond hc1 hc2 hc3 hc4 hc5 ho hru;go_wp2_with fail
           refine (ku HAS).mono ?_;rintro e w6 ⟨rfl,⟨gv,gn,gc,hm6⟩,hk6,hb6⟩;have HN6:=hide (show NwI w W w.heap.size so M nb acc (acc2++c.map mk) (kzu m.sets) vs t sz sv (.slice gv gn gc) (.slice va vn vc) vv w6 from ⟨hm6,(ku HI2).tk.trans ((hk6.wide (by decide)).any _),(ku HI2).be.trans hb6⟩);clear hm6 hk6 hb6 HAS q0 q1 q2 q3 q4 e0 e1 e2 e3;go_wp2
           go_roundw
           case rel=>exact ⟨k+1,_,_,by omega,by go_num,ku HREST,ku HN6⟩
           case measure=>simp[intOf];omega
          ·have:k=m.nevers.length:=by omega
           subst this;rw[lW,kzk] at hrest;injection hrest with hrest;subst hrest;have HI:=hide hI;clear hI htk;go_wp2
           go_ret
           exact ⟨M,nb,_,_,_,_,rfl,(ku HI).mc,(ku HI).be⟩
def kyl:PB→Bool
 | .nil=>true
 | .node _ _ a .nil n=>kyl n
 | .node _ _ a (.node _ _ _ t e) n=>(kyl t&&decide (uz t≤1000))&&((kyl e&&decide (uz e≤1000))&&kyl n)
theorem qqi {i j k l:Nat}{a b:SLab}{t e n:PB}(h:kyl (.node i j a (.node k l b t e) n)=true):((kyl t=true∧uz t≤1000)∧(kyl e=true∧uz e≤1000)∧kyl n=true):=by
 rw[kyl] at h;simp only[wY,nU] at h;exact h
theorem qzn:∀ (b:PB),kyl b=true→kke b
 | .nil,_=>trivial
 | .node _ _ a .nil n,h=>qzn n h
 | .node _ _ a (.node _ _ _ t e) n,h=>⟨⟨qzn t (qqi h).1.1,(qqi h).1.2⟩,⟨qzn e (qqi h).2.1.1,(qqi h).2.1.2⟩,qzn n (qqi h).2.2⟩
def qk9 (l:List Tok):Bool:=l.all fun y=>decide (y.text.size≤1000)
theorem qw4 {l:List Tok}(h:qk9 l=true):∀ y∈l,y.text.size≤1000:=fun y hy=>of_decide_eq_true (nX.1 h y hy)
def qx2 (s:MStep):Bool:=decide (s.params.length≤1000)&&(qk9 (jr s.guard)&&(kyl s.block&&(decide (uz s.block≤1000)&&qk9 (zh s.block))))
theorem jjo {s:MStep}(h:qx2 s=true):qy6 s:=by
 unfold qx2 at h;simp only[wY,nU] at h;exact ⟨h.1,qw4 h.2.1,qzn _ h.2.2.1,h.2.2.2.1,qw4 h.2.2.2.2⟩
def qwg (s:MNever):Bool:=decide (s.params.length≤1000)&&qk9 (jr s.expr)
theorem jwj {s:MNever}(h:qwg s=true):jvx s:=by
 unfold qwg at h;simp only[wY,nU] at h;exact ⟨h.1,qw4 h.2⟩
def kyt (a:Mach):Bool:=a.steps.all qx2&&(a.nevers.all qwg&&(decide (a.vars.length≤1000)&&(decide (a.steps.length≤1000000)&&decide (a.nevers.length≤1000000))))
theorem jze {a:Mach}(h:kyt a=true):MachOk a:=by
 unfold kyt at h;simp only[wY,nU] at h;exact ⟨fun s hs=>jjo (nX.1 h.1 s hs),fun s hs=>jwj (nX.1 h.2.1 s hs),h.2.2.1,h.2.2.2.1,h.2.2.2.2⟩
def qkd (m:MdL):Bool:=decide (m.sets.length≤1000)&&(decide (m.kinds.length≤1000)&&((m.kinds.all fun x=>decide (x.members.length≤1000))&&(decide (m.vars.length≤1000)&&(decide (m.rules.length≤1000)&&decide (m.nevers.length≤1000)))))
theorem jwg {m:MdL}(h:qkd m=true):MdFit m:=by
 unfold qkd at h;simp only[wY,nU] at h;exact ⟨h.1,h.2.1,fun x hx=>of_decide_eq_true (nX.1 h.2.2.1 x hx),h.2.2.2.1,h.2.2.2.2.1,h.2.2.2.2.2⟩
def qvd (s:ByteArray):Option Mach:=if qkd (jq (kqy (gq s).1).1) then (jwq (jq (kqy (gq s).1).1)).bind fun a=>if kyt a then some a else none else none
def qz9 (s:ByteArray)(ts:List ByteArray):Option jxl:=if (ky4 s).1==0 then (qvd s).bind fun a=>zwt a ts else some (noView,false,(ky4 s).1,(ky4 s).2)
theorem zyh (s:ByteArray)(w:World)(ts:List ByteArray)(pa:Option Addr)(pn pc:Nat)(hP:w.ownsRow 0 9 1 (.slice pa pn pc) ts.length (ts.map Value.string))(htl:ts.length≤1000000)(r:jxl)(hr:qz9 s ts=some r) :
  Calls Tryz.prog 11 #[.string s,.slice pa pn pc] w fun e w'=>qzf w r e w':=by
 obtain ⟨W,hW⟩:∃ W,W=w.alloc (.cells #[.string ⟨#[]⟩,.slice none 0 0,.slice none 0 0,.slice none 0 0,.bool false] 24):=⟨_,rfl⟩;have hbW:Below w.heap.size w W:=by rw[hW];exact below_alloc1 w _
 have hsW:w.heap.size<W.heap.size:=by rw[hW];simp
 have hR:W.heap[w.heap.size]?=some (.cells #[.string ⟨#[]⟩,.slice none 0 0,.slice none 0 0,.slice none 0 0,.bool false] 24 (0,0)):=by rw[hW];exact qy _ _
 have HR:=hide hR;have HBW:=hide hbW;have HWE:=hide hW.symm;have HP:=hide hP;have HPL:=hide hr;clear hP hbW hW hR hr;go_enter Tryz.func11,Tryz.ntmps11
 go_wp2_with fail
 rw[ku HWE];refine (zy0 s W).mono ?_;rintro e w1 ⟨hb1,x0,x1,x2,x3,x4,rfl,hmd,⟨a0,n0,k0,rfl⟩,⟨a1,n1,k1,rfl⟩,⟨a2,n2,k2,rfl⟩,⟨a3,n3,k3,rfl⟩,⟨a4,n4,k4,rfl⟩⟩;have hs1:=hb1.size;have hbw1:Below w.heap.size w w1:=(ku HBW).trans (hb1.mono (by omega));have hR1:=(hb1.block w.heap.size hsW).trans (ku HR);have hRl1:=wX hR1;have HMD:=hide hmd;have HB1:=hide hbw1;have HR1:=hide hR1;have HPO:=HPL;unfold qz9 at HPL;clear hmd hb1 hbw1 hR1 HR;obtain ⟨c1,c2,hc⟩:∃ c1 c2,ky4 s=(c1,c2):=⟨_,_,rfl⟩;rw[hc] at HPL HMD ⊢;dsimp only at HPL HMD ⊢;clear hc HPO;cases hc0:(c1==0)
 ·have hE:r=(noView,false,c1,c2):=by
   have:=ku HPL;rw[hc0,if_neg (by simp)] at this;injection this with this;exact this.symm
  subst hE;have hcn:(c1 != 0)=true:=by simp[bne,hc0]
  obtain ⟨r0,r1,r2,r3,r4,y0,y1,y2,y3,y4⟩:=zo (ku HR1);clear HPL HMD;go_wp2
  refine rY (v:=.tuple #[.agg #[.string ⟨#[]⟩,.slice none 0 0,.slice none 0 0,.slice none 0 0,.bool false],.int .i64 c1,.int .i64 c2]) (uw Tryz.results11 _ _ w.heap.size _ _ _ _ rfl (qp (kjc (ku HR1) _ _ _ _ _)) Tryz.underlying24 rfl (by kernel_rfl)) rfl ?_;exact ⟨none,0,0,none,0,0,none,0,0,rfl,rP _ _ _ _,rP _ _ _ _,rP _ _ _ _,(kxk (ku HB1) _ _ _ _ _).alloc (kxk (ku HB1) _ _ _ _ _).size _⟩
 ·have hcn:(c1 != 0)=false:=by simp[bne,hc0]
  have hc00:c1=0:=by simpa using hc0
  have hpl:=ku HPL;rw[hc0,if_pos rfl] at hpl;obtain ⟨a,ha,hwk⟩:=wQ.mp hpl;unfold qvd at ha;have hfit:qkd (jq (kqy (gq s).1).1)=true:=by
   cases hcd:qkd (jq (kqy (gq s).1).1)
   ·rw[hcd] at ha;cases ha
   ·rfl
  rw[if_pos hfit] at ha;obtain ⟨a',hnew,ha⟩:=wQ.mp ha;have hmok:kyt a'=true:=by
   cases hcd:kyt a'
   ·rw[hcd] at ha;cases ha
   ·rfl
  rw[if_pos hmok] at ha;injection ha with ha;subst ha;have hmd:=(ku HMD) hc00;obtain ⟨wb,hwb⟩:∃ wb,wb=w1.alloc (.cells #[.slice a0 n0 k0,.slice a1 n1 k1,.slice a2 n2 k2,.slice a3 n3 k3,.slice a4 n4 k4] 68):=⟨_,rfl⟩;have hbb:Below w1.heap.size w1 wb:=by rw[hwb];exact below_alloc1 _ _
  have hsb:=hbb.size;have HNW:=hide (new_any wb W.heap.size a0 a1 a2 a3 a4 n0 n1 n2 n3 n4 k0 k1 k2 k3 k4 _ (hmd.stay fun k _ hk=>hbb.block k hk) (jwg hfit) a' hnew);unfold mdV at HNW;have HMOK:=hide (jze hmok);have HWK:=hide hwk;have HWB:=hide hwb.symm;have HBB:=hide ((ku HB1).trans (hbb.mono (by have:=(ku HB1).size;omega)));have HRB:=hide ((hbb.block _ hRl1).trans (ku HR1));clear HPL HMD hpl ha hwk hmok hfit hmd hbb hwb hnew hc00;go_wp2_with fail
  rw[ku HWB];refine (ku HNW).mono ?_;rintro e w2 ⟨M,nb,sv,nv,tv,vv,rfl,hmc,hb2⟩;have hs2:=hb2.size;have hbw2:=(ku HBB).trans (hb2.mono (by have:=(ku HBB).size;omega));have HWL:=hide (walk_any w2 W.heap.size M nb a' ts pa pn pc hmc.vvm (ku HMOK) (qj (ku HP) hbw2) htl r (ku HWK));have HB2:=hide hbw2;have HR2:=hide ((hb2.block w.heap.size (by have:=wX (ku HRB);omega)).trans (ku HRB));clear hmc hb2 hbw2 HNW;go_wp2_with fail
  refine (ku HWL).mono ?_;rintro e w3 ⟨ea,en,ec,wa,wn,wc,ba,bn,bc,rfl,hp1,hp2,hp3,hb3⟩;have hs3:=hb3.size;have hz2:=(ku HB2).size;have hbw3:=(ku HB2).trans (hb3.mono hz2);have hR3:=(hb3.block w.heap.size (wX (ku HR2))).trans (ku HR2);obtain ⟨r0,r1,r2,r3,r4,y0,y1,y2,y3,y4⟩:=zo hR3;have hRl3:=wX hR3;have K:=zvt hR3 (bad:=[24]) (by decide) (.string r.1.text) (.slice ea en ec) (.slice wa wn wc) (.slice ba bn bc) (.bool r.2.1);have HE:=hide (show qzf w r (.returned (.tuple #[.agg #[.string r.1.text,.slice ea en ec,.slice wa wn wc,.slice ba bn bc,.bool r.2.1],.int .i64 r.2.2.1,.int .i64 r.2.2.2])) _ from ⟨ea,en,ec,wa,wn,wc,ba,bn,bc,rfl,zu hz2 (zk hp1 K (uy.none _) (by decide)),zu hz2 (zk hp2 K (uy.none _) (by decide)),zu hz2 (zk hp3 K (uy.none _) (by decide)),kxk hbw3 _ _ _ _ _⟩);have HR3:=hide hR3;clear hp1 hp2 hp3 hb3 hbw3 hR3 K HWL;go_wp2
  refine rY (v:=.tuple #[.agg #[.string r.1.text,.slice ea en ec,.slice wa wn wc,.slice ba bn bc,.bool r.2.1],.int .i64 r.2.2.1,.int .i64 r.2.2.2]) (uw Tryz.results11 _ _ w.heap.size _ _ _ _ rfl (kjc (ku HR3) _ _ _ _ _) Tryz.underlying24 rfl (by kernel_rfl)) rfl ?_;exact ku HE
end Go.Proofs.YtpmcnonmkghokaaGreatDoor
namespace Go.Proofs.YtpmcnonmkghokaaGreatDoor
open Go.RowKit
def vyk:ByteArray:=(⟨#[115,101,116,32,112,32,51,59,32,107,105,110,100,32,109,111,100,101,32,123,32,105,100,108,101,44,32,98,117,115,121,44,32,99,114,105,116,32,125,32,118,97,114,32,115,116,32,58,32,91,112,93,32,109,111,100,101,59,32,118,97,114,32,111,119,110,32,58,32,112,59,10,114,117,108,101,32,97,115,107,40,105,32,58,32,112,41,32,105,102,32,115,116,91,105,93,32,61,61,32,105,100,108,101,32,123,32,115,116,91,105,93,32,61,32,98,117,115,121,59,32,125,32,114,117,108,101,32,103,101,116,40,105,32,58,32,112,41,32,105,102,32,115,116,91,105,93,32,61,61,32,98,117,115,121]⟩:ByteArray)
def vyx:ByteArray:=(⟨#[32,38,32,111,119,110,32,61,61,32,110,111,110,101]⟩:ByteArray)
def vyz:ByteArray:=(⟨#[32,123,32,115,116,91,105,93,32,61,32,99,114,105,116,59,32,111,119,110,32,61,32,105,59,32,125,32,114,117,108,101,32,112,117,116,40,105,32,58,32,112,41,32,105,102,32,115,116,91,105,93,32,61,61,32,99,114,105,116,32,123,32,115,116,91,105,93,32,61,32,105,100,108,101,59,32,111,119,110,32,61,32,110,111,110,101,59,32,125,10,110,101,118,101,114,32,98,111,116,104,40,105,32,58,32,112,44,32,106,32,58,32,112,41,32,105,32,33,61,32,106,32,38,32,115,116,91,105,93,32,61,61,32,99,114,105,116,32,38,32,115,116,91,106,93,32,61,61,32,99,114,105,116,59]⟩:ByteArray)
def mtx:ByteArray:=(vyk++vyx)++vyz
def jk8:ByteArray:=(⟨#[115,101,116,32,112,32,52,59]⟩:ByteArray)
def qy4:ByteArray:=(⟨#[97,115,107,40,49,41]⟩:ByteArray)
def getOne:ByteArray:=(⟨#[103,101,116,40,49,41]⟩:ByteArray)
theorem jwx:ky4 mtx=(0,0):=by decide +kernel
theorem jxz:ky4 jk8=(3,8):=by decide +kernel
theorem vjx:(match qz9 mtx [qy4,getOne] with|some r=>(r.1.text.toList==[91,105,100,108,101,32,99,114,105,116,32,105,100,108,101,93,32,49])&&((r.1.enabled.map (·.toList))==[[97,115,107,40,48,41],[97,115,107,40,50,41],[112,117,116,40,49,41]])&&(r.1.wrong.length==0)&&(r.1.broken.length==0)&&(r.2.1==false)&&(r.2.2.1==0)&&(r.2.2.2==0)|none=>false)=true:=by decide +kernel
theorem jzn:∃ r,qz9 mtx [qy4,getOne]=some r∧r.1.text.toList=[91,105,100,108,101,32,99,114,105,116,32,105,100,108,101,93,32,49]∧r.1.enabled.map (·.toList)=[[97,115,107,40,48,41],[97,115,107,40,50,41],[112,117,116,40,49,41]]∧r.1.wrong=[]∧r.1.broken=[]∧r.2.1=false∧r.2.2.1=0∧r.2.2.2=0:=by
 have h:=vjx;cases hp:qz9 mtx [qy4,getOne] with
 | none=>rw[hp] at h;cases h
 | some r=>
  rw[hp] at h;simp only[wY,wP] at h;obtain ⟨⟨⟨⟨⟨⟨h1,h2⟩,h3⟩,h4⟩,h5⟩,h6⟩,h7⟩:=h;exact ⟨r,rfl,h1,h2,fQ h3,fQ h4,h5,h6,h7⟩
end Go.Proofs.YtpmcnonmkghokaaGreatDoor
