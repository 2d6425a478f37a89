import Derived.Test.YtpmcnonmkghokaaGreatDoorT29
import Derived.Laws.CopyOwn
import Derived.Laws.BytesArg
import Derived.Maps.RangeRun
set_option maxRecDepth 100000
set_option maxHeartbeats 8000000
set_option linter.unusedVariables false
set_option linter.unusedSimpArgs false
namespace Go.Proofs.YtpmcnonmkghokaaGreatDoor
open Go.RowKit
attribute [local go_sem ↓] Go.wp_at_zero Go.wp_at_succ
def kv1 (v:Value):List Nat:=v.ownBlock.toList
theorem kwk {w:World}{lo e size:Nat}{v:Value}{n:Nat}{xs:List Value}(h:w.ownsRow lo e size v n xs):∀ k∈kv1 v,∃ cs fr,w.heap[k]?=some (.cells cs e fr):=by
 intro k hk;rcases h.2 with ⟨e1,_⟩|⟨g,cap,cur,e1,_,e3,_⟩
 ·rw[e1] at hk;simp[kv1,Value.ownBlock] at hk
 ·rw[e1] at hk;simp[kv1,Value.ownBlock] at hk;subst hk;exact ⟨_,_,e3⟩
theorem zv3 {S:List Nat}{w w':World}{e:Nat}{bad:List Nat}(h:yw S w w')(hS:∀ k∈S,∃ cs fr,w.heap[k]?=some (.cells cs e fr))(he:e∈bad)(x:Option Nat):Tk x bad w w':=
 ⟨h.os,h.tape,h.output,h.size,fun i o h1 _ h3=>by
  by_cases hm:i∈S
  ·obtain ⟨cs,fr,e1⟩:=hS i hm;rw[e1] at h1;injection h1 with h1;exact absurd he (h3 cs e fr h1.symm)
  ·exact h.at h1 hm⟩
theorem vz9 {w:World}{B e g n c:Nat}{xs:List Value}(h:w.ownsRow B e 1 (.slice (some ⟨g,0,none⟩) n c) n xs)(j:Nat)(u:Value):(w.setCell ⟨g,j,none⟩ u).ownsRow B e 1 (.slice (some ⟨g,0,none⟩) n c) n (xs.set j u):=by
 refine ⟨by rw[Jv];exact h.1,?_⟩;rcases h.2 with ⟨e1,_⟩|⟨g',cap,cur,e1,e2,e3,e4,e5,e6,e7⟩
 ·cases e1
 ·injection e1 with e1 _ e1';injection e1 with e1;injection e1 with e1;subst e1;subst e1';refine Or.inr ⟨g,c,_,rfl,e2,heap_setCell_same w g j _ _ u e3,e4,e5,by simpa using e6,?_⟩;rw[Jh,List.take_set,e7]
theorem vqg {w:World}{B e g n c:Nat}{l:List Int}{kd:IntKind}(h:w.ownsRow B e 1 (.slice (some ⟨g,0,none⟩) n c) n (l.map (Value.int kd)))(j:Nat)(hj:j<l.length):w.cell? ⟨g,j,none⟩=some (.int kd l[j]):=by
 obtain ⟨xa,xc,e1,hv⟩:=qm h;injection e1 with e1 e2 e3;have hl:l.length=n:=by have:=h.1;simpa using this
 obtain ⟨g2,e4,_,_,hc⟩:=hv j (by omega);rw[←e1] at e4;injection e4 with e4;injection e4 with e4;subst e4;rw[hc j (by omega),sW,wW hj];rfl
theorem vqy {w:World}{B e g n c:Nat}{xs:List Value}(h:w.ownsRow B e 1 (.slice (some ⟨g,0,none⟩) n c) n xs)(j:Nat):w.frozen? ⟨g,j,none⟩=false:=by
 rcases h.2 with ⟨e1,_⟩|⟨g',cap,cur,e1,e2,e3,e4,e5,e6,e7⟩
 ·cases e1
 ·injection e1 with e1 _ e1';injection e1 with e1;injection e1 with e1;subst e1;unfold World.frozen?;simp[e3]
theorem kva {B:Nat}{w w':World}(h:Below B w.drew w'):Below B w w':=⟨h.os,h.tape,h.output,h.size,h.block⟩
theorem zw1 {b:Nat}{w x:World}{o:Obj}(h:w.heap[b]?=some o)(hb:Below w.heap.size w x)(hl:b<w.heap.size)(g j:Nat)(u:Value)(hne:g≠b):(x.setCell ⟨g,j,none⟩ u).heap[b]?=some o:=by
 rw[wP _ _ _ _ (by show b≠g;omega),hb.block b hl];exact h
def TuS (O b gs k:Nat)(cv:Value)(v:MVar)(ta:Option Addr)(tc:Nat)(x:Int)(w:World):Prop:=
 w.cell? ⟨O,2,none⟩=some cv∧w.cell? ⟨b,0,none⟩=some (.int .i64 v.first)∧w.cell? ⟨b,1,none⟩=some (.int .i64 v.count)∧w.cell? ⟨b,2,none⟩=some (.slice ta v.texts.length tc)∧w.cell? ⟨b,3,none⟩=some (.int .i64 v.over)∧w.cell? ⟨b,4,none⟩=some (.int .i64 v.of_)∧w.cell? ⟨gs,k,none⟩=some (.int .u8 x)
theorem TuS.below {O b gs k:Nat}{cv:Value}{v:MVar}{ta:Option Addr}{tc:Nat}{x:Int}{B:Nat}{w w':World}(h:TuS O b gs k cv v ta tc x w)(hb:Below B w w')(hO:O<B)(h1:b<B)(h2:gs<B):TuS O b gs k cv v ta tc x w':=by
 obtain ⟨s0,s1,s2,s3,s4,s5,s6⟩:=h;exact ⟨(hb.cell (p:=⟨O,2,none⟩) hO).trans s0,(hb.cell (p:=⟨b,0,none⟩) h1).trans s1,(hb.cell (p:=⟨b,1,none⟩) h1).trans s2,(hb.cell (p:=⟨b,2,none⟩) h1).trans s3,(hb.cell (p:=⟨b,3,none⟩) h1).trans s4,(hb.cell (p:=⟨b,4,none⟩) h1).trans s5,(hb.cell (p:=⟨gs,k,none⟩) h2).trans s6⟩
theorem jyg (w:World)(B O M nb:Nat)(vars:List MVar)(tab:uw)(t:Turn)(tv ts:Value)(st cur0:List Int)(sv:Value)(gc cc:Nat)(hO:w.heap[O]?=some (.cells #[.pointer (some ⟨M,0,none⟩),ts,.slice (some ⟨gc,0,none⟩) cur0.length cc] 260 (0,0)))(h:Mc 0 w M nb vars tab)(hT:OwnRows 0 w tv t)(hS:kko .u8 w sv st)(hC:w.ownsRow B 5 1 (.slice (some ⟨gc,0,none⟩) cur0.length cc) cur0.length (cur0.map (Value.int .u8)))(hne:sv.ownBlock≠some gc)
  (hv:vars.length≤1000) (hcl:cur0.length≤1000000) (hsl:st.length≤1000000) (r:List Int) (hr:qjr t st vars cur0=some r) :
  Calls Tryz.prog 187 #[.pointer (some ⟨O,0,none⟩),tv,sv] w fun e w'=>e=.returned (.tuple #[])∧w'.ownsRow B 5 1 (.slice (some ⟨gc,0,none⟩) cur0.length cc) cur0.length (r.map (Value.int .u8))∧yw [gc] w w':=by
 obtain ⟨⟨y0,y1,y2,va,vc,z,cs,hM,hV,hI⟩,_⟩:=h;obtain ⟨m0,m1,m2,m3,m4,m5,_⟩:=kk4 hM;obtain ⟨o0,o1,o2,_⟩:=row3 hO;have hOl:=wZ hO;have hty:∀ k∈[gc],∃ c fr,w.heap[k]?=some (.cells c 5 fr):=fun k hk=>kwk hC k (by simpa[kv1,Value.ownBlock] using hk)
 have hOg:O≠gc:=fun e=>by
  obtain ⟨c,fr,e1⟩:=hty gc (by simp);rw[←e,hO] at e1;injection e1 with e1;injection e1 with _ e1 _;exact absurd e1 (by decide)
 obtain ⟨sa,sc,rfl,hsv⟩:=hS;have HSV:=hide hsv;have HNE:=hide hne;have HO:=hide hO;have HT:=hide hT;have HV:=hide hV;have HI:=hide hI;have HC:=hide hC;have HR:=hide hr;have HTY:=hide hty;have hgl:gc<w.heap.size:=by obtain ⟨c,fr,e1⟩:=hty gc (by simp);exact wZ e1
 have hfirst:∀ v∈vars,True:=fun _ _=>trivial
 clear hO hT hV hI hC hr hM hsv hty hfirst hne y0 y1 y2 m0 m1 m2 m4 m5;go_enter Tryz.func187,Tryz.ntmps187
 go_wp2_with fail
 go_loopw [7,8,17] (fun _ _ i wr=>∃ (k:Nat) (c:List Int),k≤vars.length∧i=.int .i64 k∧qjr t st (vars.drop k) c=some r∧c.length=cur0.length∧wr.ownsRow B 5 1 (.slice (some ⟨gc,0,none⟩) cur0.length cc) cur0.length (c.map (Value.int .u8))∧yw [gc] w wr) (fun _ _ i _=>vars.length-(intOf i).toNat)
 case atStart=>exact ⟨0,cur0,rG _,rfl,ku HR,rfl,ku HC,yw.refl _ _⟩
 case round=>
  obtain ⟨wo,hwo⟩:∃ wo,wo=wr:=⟨_,rfl⟩;subst hwo;obtain ⟨k,c,hk,rfl,hrest,hclen,hcur,hst⟩:=hrel;have hszo:=hst.size;by_cases hlt:k<vars.length
  ·have K:=zv3 (bad:=[5]) hst (ku HTY) (by decide) none;obtain ⟨xa,xc,e1,hview⟩:=qm (zy (ku HV) K (jh.none _) (by decide));injection e1 with e1 _ e3;subst e1;subst e3;obtain ⟨ta,tc,⟨f0,f1,f2,f3,f4⟩,_⟩:=jkq k hlt (ku HI);obtain ⟨g,rfl,hg1,hg2,hc⟩:=hview k hlt;have e0:=(hc (k * 5) (by omega)).trans f0;have e1:=(hc (k * 5+1) (by omega)).trans f1;have e2:=(hc (k * 5+2) (by omega)).trans f2;have e3:=(hc (k * 5+3) (by omega)).trans f3;have e4:=(hc (k * 5+4) (by omega)).trans f4;rw[rM hlt,qjr] at hrest;obtain ⟨c2,hc2,hrest⟩:=wJ.mp hrest;have HREST:=hide hrest;have HC2:=hide hc2;have HCL2:=hide (qk0 _ _ _ _ _ _ hc2);have HBXN:=hide (qg wo (.cells #[.int .i64 vars[k].first,.int .i64 vars[k].count,.slice ta vars[k].texts.length tc,.int .i64 vars[k].over,.int .i64 vars[k].of_] 213));have HST0:=hide (hst.alloc (.cells #[.int .i64 vars[k].first,.int .i64 vars[k].count,.slice ta vars[k].texts.length tc,.int .i64 vars[k].over,.int .i64 vars[k].of_] 213));have HCU0:=hide (hcur.alloc (.cells #[.int .i64 vars[k].first,.int .i64 vars[k].count,.slice ta vars[k].texts.length tc,.int .i64 vars[k].over,.int .i64 vars[k].of_] 213));generalize vars[k]=v at *;clear hc hrest hc2 hcur hst K hview f0 f1 f2 f3 f4;go_wp2_with fail
   go_loopw [8,23] (fun _ i wr=>∃ (j:Nat) (cur:List Int),j≤v.count∧i=.int .i64 j∧kyv v t st ((List.range v.count).drop j) cur=some c2∧cur.length=cur0.length∧wr.ownsRow B 5 1 (.slice (some ⟨gc,0,none⟩) cur0.length cc) cur0.length (cur.map (Value.int .u8))∧yw [gc] w wr∧wr.heap[wo.heap.size]?=some (.cells #[.int .i64 v.first,.int .i64 v.count,.slice ta v.texts.length tc,.int .i64 v.over,.int .i64 v.of_] 213 (0,0))) (fun _ i _=>v.count-(intOf i).toNat)
   case atStart=>exact ⟨0,c,rG _,rfl,ku HC2,hclen,ku HCU0,ku HST0,ku HBXN⟩
   case round=>
    obtain ⟨j,cur,hj,rfl,hrc,hcurl,hcur,hst,hbx⟩:=hrel;have hszr:=hst.size;have hbl:=wZ hbx;obtain ⟨b0,b1,b2,b3,b4,_⟩:=jq hbx;by_cases hltj:j<v.count
    ·have hjr:j<(List.range v.count).length:=by simpa using hltj
     rw[rM hjr,List.getElem_range,kyv] at hrc;obtain ⟨p,hp,hrc⟩:=wJ.mp hrc;obtain ⟨x,hx,hrc⟩:=wJ.mp hrc;obtain ⟨y,hy,hrc⟩:=wJ.mp hrc;have hq:0≤p∧v.first+p.toNat<cur.length:=by
      apply rD;intro hc;rw[if_neg hc] at hrc;cases hrc
     rw[if_pos hq] at hrc;obtain ⟨q,hpq⟩:∃ q:Nat,p=q:=⟨p.toNat,by omega⟩;subst hpq;rw[QK] at hq hrc;obtain ⟨_,hq3⟩:=hq;have hxl:v.first+j<st.length:=by
      rcases Qk (v.first+j) st.length with h|h
      ·exact h
      ·rw[nZ h] at hx;cases hx
     obtain ⟨gs,rfl,hgs,hgc2⟩:=ku HSV (by omega);have hgsne:gs≠gc:=fun e=>(ku HNE) (by rw[e];rfl)
     have cs1:wr.cell? ⟨gs,v.first+j,none⟩=some (.int .u8 x):=by
      rw[fQ (hst.block gs hgs (by simpa using hgsne)),hgc2 _ hxl];rw[wW hxl] at hx;injection hx with hx;rw[hx]
     obtain ⟨o0',o1',o2',_⟩:=row3 (hst.at (ku HO) (by simpa using hOg));have K:=zv3 (bad:=[5]) hst (ku HTY) (by decide) none;have hT2:=(ku HT).tk K (jh.none _) (by decide) (by decide);have HPB:=hide (qyr wr.drew v ta tc t tv j (hT2.below ((Below.refl _ wr).drew)) q hp);have HVB:=hide (fun (wx:World) (hb:Below wr.heap.size wr wx)=>qyh wx v ta tc t tv x (hT2.below hb) y hy);have HS0:=hide (show TuS O wo.heap.size gs (v.first+j) (.slice (some ⟨gc,0,none⟩) cur0.length cc) v ta tc x wr.drew from ⟨o2',b0,b1,b2,b3,b4,cs1⟩);have HCUR:=hide hcur;have HSTr:=hide hst;have HBXr:=hide hbx;have HRC:=hide hrc;have hgcb:gc≠wo.heap.size:=by omega
     have hOw:O<wr.heap.size:=by omega
     have hgw:gs<wr.heap.size:=by omega
     have hq4:v.first+q<cur0.length:=by omega
     have wj:IntKind.i64.wrap ((v.first:Int)+j)=(v.first:Int)+j:=by rw[Qj];omega
     have wq:IntKind.i64.wrap ((v.first:Int)+q)=(v.first:Int)+q:=by rw[Qj];omega
     have ij1:(0:Int)≤(v.first:Int)+j:=by omega
     have ij2:(v.first:Int)+j<st.length:=by omega
     have iq1:(0:Int)≤(v.first:Int)+q:=by omega
     have iq2:(v.first:Int)+q<cur0.length:=by omega
     have tj:((v.first:Int)+j).toNat=v.first+j:=by omega
     have tq:((v.first:Int)+q).toNat=v.first+q:=by omega
     unfold mvV at HPB HVB;clear hrc hcur hst hbx hp hx hy hT2 K o0' o1' o2' b0 b1 b2 b3 b4 cs1 hgc2 e0 e1 e2 e3 e4;go_upto_region 6 with fail
     refine pz (S:=TuS O wo.heap.size gs (v.first+j) (.slice (some ⟨gc,0,none⟩) cur0.length cc) v ta tc x) (tl:=[22]) (by kernel_rfl) ?_;refine qy (i:=0) (v:=.pointer (some ⟨O,0,none⟩)) rfl (by kernel_rfl) (by kernel_rfl) (by kernel_rfl) (fun _ _ _ h=>h) (Or.inl ⟨by rfl,fun _ _=>by go_simp⟩) ?_;try simp only[Act.put,wz,wQ,wu]
     refine qy (i:=1) (v:=.pointer (some ⟨O,0,none⟩)) rfl (by kernel_rfl) (by kernel_rfl) (by kernel_rfl) (fun _ _ _ h=>h) (Or.inl ⟨by rfl,fun _ _=>by go_simp⟩) ?_;try simp only[Act.put,wz,wQ,wu]
     refine qy (i:=2) (v:=.pointer (some ⟨O,2,none⟩)) rfl (by kernel_rfl) (by kernel_rfl) (by kernel_rfl) (fun _ _ _ h=>h) (Or.inl ⟨by rfl,fun _ _=>by go_simp⟩) ?_;try simp only[Act.put,wz,wQ,wu]
     refine qo (i:=3) (v:=.slice (some ⟨gc,0,none⟩) cur0.length cc) [21,22] rfl (by kernel_rfl) (by kernel_rfl) (by kernel_rfl) (by kernel_rfl) (by decide) (fun _ _ _ h=>h) (Or.inl ⟨by rfl,fun wq hSw=>by (obtain ⟨s0,s1,s2,s3,s4,s5,s6⟩:=hSw;go_simp)⟩) (ku HS0) ?_;try simp only[Act.put,wz,wQ,wu]
     refine qy (i:=4) (v:=.pointer (some ⟨wo.heap.size,0,none⟩)) rfl (by kernel_rfl) (by kernel_rfl) (by kernel_rfl) (fun _ _ _ h=>h) (Or.inl ⟨by rfl,fun _ _=>by go_simp⟩) ?_;try simp only[Act.put,wz,wQ,wu]
     refine qo (i:=5) (v:=.int .i64 v.first) [10,21,22] rfl (by kernel_rfl) (by kernel_rfl) (by kernel_rfl) (by kernel_rfl) (by decide) (fun _ _ _ h=>h) (Or.inl ⟨by rfl,fun wq hSw=>by (obtain ⟨s0,s1,s2,s3,s4,s5,s6⟩:=hSw;go_simp)⟩) (ku HS0) ?_;try simp only[Act.put,wz,wQ,wu]
     refine qo (i:=6) (v:=.agg #[.int .i64 v.first,.int .i64 v.count,.slice ta v.texts.length tc,.int .i64 v.over,.int .i64 v.of_]) [9,10,21,22] rfl (by kernel_rfl) (by kernel_rfl) (by kernel_rfl) (by kernel_rfl) (by decide) (fun _ _ _ h=>h) (Or.inl ⟨by rfl,fun wq hSw=>by (obtain ⟨s0,s1,s2,s3,s4,s5,s6⟩:=hSw;go_simp)⟩) (ku HS0) ?_;try simp only[Act.put,wz,wQ,wu]
     refine qy (i:=7) (v:=tv) rfl (by kernel_rfl) (by kernel_rfl) (by kernel_rfl) (fun _ _ _ h=>h) (Or.inl ⟨by rfl,fun _ _=>by go_simp⟩) ?_;try simp only[Act.put,wz,wQ,wu]
     refine qy (i:=8) (v:=.int .i64 j) rfl (by kernel_rfl) (by kernel_rfl) (by kernel_rfl) (fun _ _ _ h=>h) (Or.inl ⟨by rfl,fun _ _=>by go_simp⟩) ?_;try simp only[Act.put,wz,wQ,wu]
     refine qo (i:=11) (v:=.agg #[.int .i64 v.first,.int .i64 v.count,.slice ta v.texts.length tc,.int .i64 v.over,.int .i64 v.of_]) [20,22] rfl (by kernel_rfl) (by kernel_rfl) (by kernel_rfl) (by kernel_rfl) (by decide) (fun _ _ _ h=>h) (Or.inl ⟨by rfl,fun wq hSw=>by (obtain ⟨s0,s1,s2,s3,s4,s5,s6⟩:=hSw;go_simp)⟩) (ku HS0) ?_;try simp only[Act.put,wz,wQ,wu]
     refine qy (i:=12) (v:=tv) rfl (by kernel_rfl) (by kernel_rfl) (by kernel_rfl) (fun _ _ _ h=>h) (Or.inl ⟨by rfl,fun _ _=>by go_simp⟩) ?_;try simp only[Act.put,wz,wQ,wu]
     refine qy (i:=13) (v:=.slice (some ⟨gs,0,none⟩) st.length sc) rfl (by kernel_rfl) (by kernel_rfl) (by kernel_rfl) (fun _ _ _ h=>h) (Or.inl ⟨by rfl,fun _ _=>by go_simp⟩) ?_;try simp only[Act.put,wz,wQ,wu]
     refine qy (i:=14) (v:=.pointer (some ⟨wo.heap.size,0,none⟩)) rfl (by kernel_rfl) (by kernel_rfl) (by kernel_rfl) (fun _ _ _ h=>h) (Or.inl ⟨by rfl,fun _ _=>by go_simp⟩) ?_;try simp only[Act.put,wz,wQ,wu]
     refine qo (i:=15) (v:=.int .i64 v.first) [17,18,19,20,22] rfl (by kernel_rfl) (by kernel_rfl) (by kernel_rfl) (by kernel_rfl) (by decide) (fun _ _ _ h=>h) (Or.inl ⟨by rfl,fun wq hSw=>by (obtain ⟨s0,s1,s2,s3,s4,s5,s6⟩:=hSw;go_simp)⟩) (ku HS0) ?_;try simp only[Act.put,wz,wQ,wu]
     refine qy (i:=16) (v:=.int .i64 j) rfl (by kernel_rfl) (by kernel_rfl) (by kernel_rfl) (fun _ _ _ h=>h) (Or.inl ⟨by rfl,fun _ _=>by go_simp⟩) ?_;try simp only[Act.put,wz,wQ,wu]
     refine qy (i:=17) (v:=.int .i64 ((v.first:Int)+j)) rfl (by kernel_rfl) (by kernel_rfl) (by kernel_rfl) (fun _ _ _ h=>h) (Or.inl ⟨by rfl,fun _ _=>by go_simp⟩) ?_;try simp only[Act.put,wz,wQ,wu]
     refine qy (i:=18) (v:=.pointer (some ⟨gs,v.first+j,none⟩)) rfl (by kernel_rfl) (by kernel_rfl) (by kernel_rfl) (fun _ _ _ h=>h) (Or.inl ⟨by rfl,fun _ _=>by go_simp⟩) ?_;try simp only[Act.put,wz,wQ,wu]
     refine qo (i:=19) (v:=.int .u8 x) [20,22] rfl (by kernel_rfl) (by kernel_rfl) (by kernel_rfl) (by kernel_rfl) (by decide) (fun _ _ _ h=>h) (Or.inl ⟨by rfl,fun wq hSw=>by (obtain ⟨s0,s1,s2,s3,s4,s5,s6⟩:=hSw;go_simp)⟩) (ku HS0) ?_;try simp only[Act.put,wz,wQ,wu]
     refine yu (rs:=[9]) (by kernel_rfl) (by simp) ?_;refine jd.cons rfl (fun K hK=>?_) jd.nil;go_simp
     go_at_call 228
     refine (ku HPB).mono ?_;rintro e x1 ⟨rfl,hb1⟩;have hy1:wr.heap.size≤x1.heap.size:=hb1.size;have HS1:=hide ((ku HS0).below hb1 (show O<wr.heap.size by omega) (show wo.heap.size<wr.heap.size by omega) (show gs<wr.heap.size by omega));have HB1:=hide (show Below wr.heap.size wr x1 from kva hb1);have HVB1:=hide ((ku HVB) x1 (show Below wr.heap.size wr x1 from kva hb1));clear hb1;dsimp only;refine hK _ _ (ku HS1) ?_;clear hK K;try simp only[Act.put,wz,wQ,wu]
     refine qy (i:=10) (v:=.int .i64 ((v.first:Int)+q)) rfl (by kernel_rfl) (by kernel_rfl) (by kernel_rfl) (fun _ _ _ h=>h) (Or.inl ⟨by rfl,fun _ _=>by go_simp⟩) ?_;try simp only[Act.put,wz,wQ,wu]
     refine yu (rs:=[20]) (by kernel_rfl) (by simp) ?_;refine jd.cons rfl (fun K hK=>?_) jd.nil;go_simp
     go_at_call 227
     refine (ku HVB1).mono ?_;rintro e x2 ⟨rfl,hb2⟩;have hy2:x1.heap.size≤x2.heap.size:=hb2.size;have HS2:=hide ((ku HS1).below hb2 (show O<x1.heap.size by omega) (show wo.heap.size<x1.heap.size by omega) (show gs<x1.heap.size by omega));have hb12:Below wr.heap.size wr x2:=(ku HB1).trans (hb2.mono hy1);have ho2:=qj (ku HCUR) hb12;have cd:=vqg ho2 (v.first+q) hq3;have fd:=vqy ho2 (v.first+q);have HO2:=hide (vz9 ho2 (v.first+q) (.int .u8 y));have HST2:=hide (((ku HSTr).trans (.of_below hb12)).set (p:=⟨gc,v.first+q,none⟩) (Or.inl (by simp[kv1,Value.ownBlock])) (.int .u8 y));have HBX2:=hide ((zw1 (ku HBXr) hb12 (by omega) gc (v.first+q) (.int .u8 y) hgcb));clear hb2 hb12 ho2 HVB1 HVB HPB;dsimp only;refine hK _ _ (ku HS2) ?_;clear hK K;try simp only[Act.put,wz,wQ,wu]
     refine qy (i:=21) (v:=.pointer (some ⟨gc,v.first+q,none⟩)) rfl (by kernel_rfl) (by kernel_rfl) (by kernel_rfl) (fun _ _ _ h=>h) (Or.inl ⟨by rfl,fun _ _=>by go_simp⟩) ?_;try simp only[Act.put,wz,wQ,wu]
     refine kq1 _ _ _ _ (kjd (by kernel_rfl)) ?_;refine wpAny_ready (rs:=[22]) (by kernel_rfl) (by simp) (AllReady.cons rfl (fun K hK=>?_) AllReady.nil);go_simp
     refine hK _ _ ?_;clear hK K;refine wpAny_done (by kernel_rfl) ?_ _;go_wp2
     go_roundw
     case rel=>exact ⟨j+1,cur.set (v.first+q) y,by omega,by go_num,ku HRC,by simpa using hcurl,by rw[List.map_set];exact ku HO2,ku HST2,ku HBX2⟩
     case measure=>simp[intOf];omega
    ·have:j=v.count:=by omega
     subst this;rw[Qc (by simp),kyv] at hrc;injection hrc with hrc;subst hrc;have HCUR:=hide hcur;have HSTr:=hide hst;clear hcur hst hbx b0 b1 b2 b3 b4;go_wp2
     go_roundw
     case rel=>exact ⟨k+1,cur,by omega,by go_num,ku HREST,hcurl,ku HCUR,ku HSTr⟩
     case measure=>simp[intOf];omega
  ·have:k=vars.length:=by omega
   subst this;rw[nV,qjr] at hrest;injection hrest with hrest;subst hrest;have HX:=hide hcur;have HST:=hide hst;clear hcur hst;go_wp2
   go_end0
   exact ⟨rfl,ku HX,ku HST⟩
theorem Mc.tk {lo:Nat}{w w':World}{M nb:Nat}{vars:List MVar}{tab:uw}{x:Option Nat}{bad:List Nat}(h:Mc lo w M nb vars tab)(hk:Tk x bad w w')(hx:jh w x)(hxn:x≠some nb)(h0:105 ∉ bad)(h1:213 ∉ bad)(h2:9 ∉ bad):Mc lo w' M nb vars tab:=by
 obtain ⟨⟨x0,x1,x2,va,vc,z,cs,hM,hV,hI⟩,ht⟩:=h;exact ⟨⟨x0,x1,x2,va,vc,z,cs,hk.row hM (fun e=>hx _ _ _ _ e hM) h0,zy hV hk hx h1,hI.tk hk hx h2⟩,ht.tk hk hxn⟩
theorem jwu (t:TypeId)(z:Value)(s b:Nat)(h:(Tryz.prog.info? t).map (fun i=>(i.zero,i.size,i.bytes))=some (some z,s,b)):(Tryz.prog.info? t).map (·.size)=some s:=by
 cases hi:Tryz.prog.info? t with
 | none=>rw[hi] at h;cases h
 | some i=>rw[hi] at h;simp at h ⊢;exact h.2.1
theorem zwr (w:World)(g:Nat)(cs:Array Value):yw [g] w (w.setRow g cs):=
 ⟨rfl,rfl,rfl,by simp[World.setRow],fun k hk hn=>setRow_other w g k cs (by simpa using hn)⟩
theorem vqu {w:World}{B e g n c:Nat}{xs ys:List Value}(h:w.ownsRow B e 1 (.slice (some ⟨g,0,none⟩) n c) n xs)(hy:ys.length=n) :
  ∃ cur,w.heap[g]?=some (.cells cur e (0,0))∧n≤cur.size∧(w.setRow g (cur.toList.take 0++(ys++cur.toList.drop (0+ys.length))).toArray).ownsRow B e 1 (.slice (some ⟨g,0,none⟩) n c) n ys:=by
 rcases h.2 with ⟨e1,_⟩|⟨g',cap,cur,e1,e2,e3,e4,e5,e6,e7⟩
 ·cases e1
 ·injection e1 with e1 _ e1';injection e1 with e1;injection e1 with e1;subst e1;subst e1';refine ⟨cur,e3,by omega,by rw[hy];omega,Or.inr ⟨g,c,_,rfl,e2,setRow_heap w g _ _ e _ e3,e4,e5,?_,?_⟩⟩
  ·simp;omega
  ·simp[←hy]
theorem jw7 (w:World)(B g n c:Nat)(least low:List Int)(ov:Value)(hR:w.ownsRow B 5 1 (.slice (some ⟨g,0,none⟩) n c) n (least.map (Value.int .u8)))(hO:kko .u8 w ov low)(hl:low.length=least.length)(hn:n≤1000000) :
  Calls Tryz.prog 188 #[.slice (some ⟨g,0,none⟩) n c,ov] w fun e w'=>e=.returned (.tuple #[])∧w'.ownsRow B 5 1 (.slice (some ⟨g,0,none⟩) n c) n ((jzn least low).map (Value.int .u8))∧yw [g] w w':=by
 have hln:least.length=n:=by have:=hR.1;simpa using this
 have hRA:kko .u8 w (.slice (some ⟨g,0,none⟩) n c) least:=kya (by rw[hln];exact hR);have HC:=hide (qvx w low least ov (.slice (some ⟨g,0,none⟩) n c) hO hRA (by omega) (by omega));obtain ⟨xa,xc,rfl,hov⟩:=hO;obtain ⟨cur,hcur,hcs,hov2⟩:=vqu hR (ys:=low.map (Value.int .u8)) (by simp;omega);have HR:=hide hR;have HOV:=hide hov;have HO2:=hide hov2;have HCU:=hide hcur;have a1:low.length≤n:=by omega
 have a2:n≤low.length:=by omega
 have HL0:=hide (show low=[]→cmpL low least=0 from fun e=>by
  have e2:least=[]:=sG (by rw[←hl,e];rfl);rw[e,e2];rfl)
 have HGO:=hide (show ∀ (cm:Int),cm=cmpL low least→(if cmpL low least<0 then low else least)=if cm<0 then low else least from fun cm e=>by rw[e]);unfold jzn;clear hR hRA hov hov2 hcur hl hln;obtain ⟨cm,hcm⟩:∃ cm,cm=cmpL low least:=⟨_,rfl⟩;rw[ku HGO cm hcm];rw[←hcm] at HC;have HCM:=hide hcm;clear hcm HGO;by_cases hlt:cm<0
 ·rw[if_pos hlt];go_enter Tryz.func188,Tryz.ntmps188
  go_wp2_with fail
  refine (ku HC).mono ?_;rintro e w1 ⟨rfl,q,rfl⟩;clear HC;by_cases h0:0<low.length
  ·obtain ⟨g2,rfl,hg2,hc2⟩:=ku HOV h0;have HSRC:=hide (show ∀ j v,(low.map (Value.int .u8))[j]?=some v→(w.drewN q).cell? ((⟨g2,0,none⟩:Addr).add j)=some v from fun j v hj=>by
    have hjl:j<low.length:=by
     rcases Qk j low.length with h|h
     ·exact h
     ·rw[nZ (by simpa using h)] at hj;cases hj
    rw[sW,wW hjl] at hj;rw[show ((⟨g2,0,none⟩:Addr).add j)=⟨g2,j,none⟩ from by simp[Addr.add];intro h;exact h.symm];rw[←hj];exact hc2 j hjl)
   have HSZ:=hide (jwu 5 _ _ _ Tryz.infoU8);clear hc2;go_wp2_with (refine wpList_copy_own rfl _ _ 95 95 rfl 5 Tryz.underlying95 (ku HSZ) g 0 n c ⟨g2,0,none⟩ low.length xc rfl rfl cur 5 (ku HCU) (low.map (Value.int .u8)) (by rw[ni];show low.length=Nat.min low.length n;exact (J3 a1).symm) (ku HSRC) (by simp;omega) (zkf low) ?_)
   go_wp2
   go_end0
   exact ⟨rfl,(by have h9:=ku HO2;simp only[List.take_zero,fD,ni,lU] at h9;exact h9),((yw.refl _ w).drewN q).trans (zwr _ _ _)⟩
  ·have e0:low=[]:=sG (by omega);exact absurd hlt (by rw[ku HCM,(ku HL0) e0];decide)
 ·rw[if_neg hlt];go_enter Tryz.func188,Tryz.ntmps188
  go_wp2_with fail
  refine (ku HC).mono ?_;rintro e w1 ⟨rfl,q,rfl⟩;go_wp2
  go_end0
  exact ⟨rfl,ku HR,((yw.refl _ w).drewN q)⟩
structure zka (B:Nat)(w:World)(O M gc cc:Nat)(ts:List Turn)(cur:List Int)(tv:Value):Prop where
 row:w.heap[O]?=some (.cells #[.pointer (some ⟨M,0,none⟩),tv,.slice (some ⟨gc,0,none⟩) cur.length cc] 260 (0,0))
 turns:kj6 0 w tv ts
 own:w.ownsRow B 5 1 (.slice (some ⟨gc,0,none⟩) cur.length cc) cur.length (cur.map (Value.int .u8))
theorem zka.ty {B:Nat}{w:World}{O M gc cc:Nat}{ts:List Turn}{cur:List Int}{tv:Value}(h:zka B w O M gc cc ts cur tv):∀ k∈[gc],∃ c fr,w.heap[k]?=some (.cells c 5 fr):=fun k hk=>kwk h.own k (by simpa[kv1,Value.ownBlock] using hk)
theorem zka.ne {B:Nat}{w:World}{O M gc cc:Nat}{ts:List Turn}{cur:List Int}{tv:Value}(h:zka B w O M gc cc ts cur tv):O≠gc:=fun e=>by
 obtain ⟨c,fr,e1⟩:=h.ty gc (by simp);rw[←e,h.row] at e1;injection e1 with e1;injection e1 with _ e1 _;exact absurd e1 (by decide)
theorem jwz (w:World)(B O M nb:Nat)(vars:List MVar)(tab:uw)(ts:List Turn)(tv:Value)(st cur0:List Int)(sa:Option Addr)(sn sc:Nat)(gc cc:Nat)(hO:zka B w O M gc cc ts cur0 tv)(h:Mc 0 w M nb vars tab)(hS:w.ownsRow 0 5 1 (.slice sa sn sc) st.length (st.map (Value.int .u8)))(hne:(Value.slice sa sn sc).ownBlock≠some gc)
  (hv:vars.length≤1000) (h0:0<st.length) (hcl:st.length=cur0.length) (hsl:st.length≤1000000) (htl:ts.length≤1000000) (r:List Int × List Int) (hr:kw4 vars st ts st cur0=some r) :
  Calls Tryz.prog 129 #[.pointer (some ⟨O,0,none⟩),.slice sa sn sc] w fun e w'=>∃ ga ca,e=.returned (.slice (some ⟨ga,0,none⟩) st.length ca)∧w.heap.size≤ga∧w'.ownsRow w.heap.size 5 1 (.slice (some ⟨ga,0,none⟩) st.length ca) st.length (r.1.map (Value.int .u8))∧w'.ownsRow B 5 1 (.slice (some ⟨gc,0,none⟩) cur0.length cc) cur0.length (r.2.map (Value.int .u8))∧yw [gc] w w':=by
 have HCL:=hide (qkj w 0 st sa sn sc hS (by omega));obtain ⟨ya,yc,e1,-⟩:=qm hS;injection e1 with e1 e2 e3;subst e1;subst e2;subst e3;have HNE:=hide hne;have HO:=hide hO;have HMC:=hide h;have HS:=hide hS;have HR:=hide hr;have hOl:=wZ hO.row;have hgl:gc<w.heap.size:=by obtain ⟨c,fr,e1⟩:=hO.ty gc (by simp);exact wZ e1
 have hOne:=hO.ne;have hcl1:st.length≤cur0.length:=by omega
 have hcl2':cur0.length≤st.length:=by omega
 clear hO h hS hr hne hcl;go_enter Tryz.func129,Tryz.ntmps129
 go_wp2_with fail
 refine (ku HCL).mono ?_;rintro e w1 ⟨ka,kn,kc,rfl,ho1,hb1⟩;have hs1:=hb1.size;obtain ⟨ga,hga,hka⟩:∃ ga,w.heap.size≤ga∧(Value.slice ka kn kc)=.slice (some ⟨ga,0,none⟩) st.length kc:=by
  rcases ho1.2 with ⟨e1,e2⟩|⟨g,cap,cur,e1,e2,_⟩
  ·omega
  ·injection e1 with e1 e1' e1'';subst e1'';exact ⟨g,e2,by rw[e1,e1']⟩
 injection hka with hka1 hka2;subst hka1;subst hka2;obtain ⟨o0,o1,o2,_⟩:=row3 ((hb1.block O hOl).trans (ku HO).row);obtain ⟨la,ll,lc,cs,etv,hto,htr⟩:=(ku HO).turns;obtain ⟨xa,xc,ex,-⟩:=qm hto;injection ex with ex1 ex2 ex3;subst ex1;subst ex2;subst ex3;subst etv;have HL1:=hide ho1;have HB1:=hide hb1;have HTO:=hide hto;have HTR:=hide htr;have HC1:=hide (qj (ku HO).own hb1);clear ho1 hb1 HCL hto htr;go_wp2_with fail
 go_loopw [7,15] (fun _ i wr=>∃ (k:Nat) (least cur:List Int),k≤ts.length∧i=.int .i64 k∧kw4 vars st (ts.drop k) least cur=some r∧least.length=st.length∧cur.length=cur0.length∧wr.ownsRow w.heap.size 5 1 (.slice (some ⟨ga,0,none⟩) st.length kc) st.length (least.map (Value.int .u8))∧wr.ownsRow B 5 1 (.slice (some ⟨gc,0,none⟩) cur0.length cc) cur0.length (cur.map (Value.int .u8))∧yw [gc] w wr) (fun _ i _=>ts.length-(intOf i).toNat)
 case atStart=>exact ⟨0,st,cur0,rG _,rfl,ku HR,rfl,rfl,ku HL1,ku HC1,.of_below (ku HB1)⟩
 case round=>
  obtain ⟨wo,hwo⟩:∃ wo,wo=wr:=⟨_,rfl⟩;subst hwo;obtain ⟨k,least,cur,hk,rfl,hrest,hll,hcl2,hlo,hco,hst⟩:=hrel;have hszo:=hst.size;have hgal:ga<wo.heap.size:=by
   rcases hlo.2 with ⟨e1,_⟩|⟨g,_,_,e1,_,e3,_⟩
   ·cases e1
   ·injection e1 with e1;injection e1 with e1;injection e1 with e1;rw[e1];exact wZ e3
  by_cases hlt:k<ts.length
  ·have K:=zv3 (bad:=[5]) hst (ku HO).ty (by decide) none;obtain ⟨xa',xc',ex,hview⟩:=qm (zy (ku HTO) K (jh.none _) (by decide));injection ex with ex1 _ ex3;subst ex1;subst ex3;obtain ⟨g,rfl,hg1,hg2,hc⟩:=hview k hlt;obtain ⟨v,ev,hv3⟩:=((ku HTR).tk K (jh.none _) (by decide) (by decide)).2 k hlt;have e5:wo.cell? ⟨g,k * 1,none⟩=some v:=by rw[hc (k * 1) (by omega),lM];exact ev
   simp only[lM] at e5;have hrow:=hst.at (ku HO).row (by simpa using hOne);obtain ⟨p0,p1,p2,_⟩:=row3 hrow;rw[rM hlt,kw4] at hrest;obtain ⟨c2,hc2,hrest⟩:=wJ.mp hrest;have hc2l:=qvm _ _ _ _ _ hc2;have hrow2:wo.heap[O]?=some (.cells #[.pointer (some ⟨M,0,none⟩),.slice (some ⟨g,0,none⟩) ts.length lc,.slice (some ⟨gc,0,none⟩) cur.length cc] 260 (0,0)):=by rw[hcl2];exact hrow
   have hco2:wo.ownsRow B 5 1 (.slice (some ⟨gc,0,none⟩) cur.length cc) cur.length (cur.map (Value.int .u8)):=by rw[hcl2];exact hco
   have HTU:=hide (jyg wo B O M nb vars tab ts[k] v (.slice (some ⟨g,0,none⟩) ts.length lc) st cur (.slice sa st.length sc) gc cc hrow2 ((ku HMC).tk K (jh.none _) (by simp) (by decide) (by decide) (by decide)) hv3 ((kya (ku HS)).stay hst (fun k hk hm=>(ku HNE) (by rw[hk];simpa using hm))) hco2 (ku HNE) hv (by omega) hsl c2 hc2);have HREST:=hide hrest;have HLO:=hide hlo;have HST:=hide hst;have HRO:=hide hrow;clear hc hrest hc2 hlo hco hco2 hst K hview hv3 ev hrow hrow2;go_wp2_with fail
   refine (ku HTU).mono ?_;rintro e w2 ⟨rfl,hc3,hst2⟩;rw[hcl2] at hc3;have hsz2:=hst2.size;obtain ⟨p0',p1',p2',_⟩:=row3 (hst2.at (ku HRO) (by simpa using hOne));have hlo2:=kwx (ku HLO) hst2 (fun k hk hm=>by
    injection hk with hk;have:ga=k:=hk;simp at hm;omega)
   have HLW:=hide (jw7 w2 w.heap.size ga st.length kc least c2 (.slice (some ⟨gc,0,none⟩) cur0.length cc) hlo2 (kya (by rw[show c2.length=cur0.length by omega];exact hc3)) (by omega) (by omega));have HC3:=hide hc3;have HST2:=hide ((ku HST).trans hst2);clear hc3 hst2 hlo2 HTU p0 p1 p2;go_wp2_with fail
   refine (ku HLW).mono ?_;rintro e w3 ⟨rfl,hlo3,hst3⟩;have HX1:=hide hlo3;have HX2:=hide (kwx (ku HC3) hst3 (fun k hk hm=>by
    injection hk with hk;have:gc=k:=hk;simp at hm;omega))
   have HX3:=hide (show yw [gc] w w3 from (((ku HST2).wide (S':=[gc,ga]) (by simp)).trans (hst3.wide (S':=[gc,ga]) (by simp))).wide (fun k hk hl=>by
    simp at hk;rcases hk with rfl|rfl
    ·simp
    ·omega))
   have hlw:=zyi (least:=least) (c:=c2) (by omega);clear hlo3 hst3 HLW;go_wp2
   go_roundw
   case rel=>exact ⟨k+1,jzn least c2,c2,by omega,by go_num,ku HREST,by omega,by omega,ku HX1,ku HX2,ku HX3⟩
   case measure=>simp[intOf];omega
  ·have:k=ts.length:=by omega
   subst this;rw[nV,kw4] at hrest;injection hrest with hrest;subst hrest;have HX1:=hide hlo;have HX2:=hide hco;have HX3:=hide hst;clear hlo hco hst;go_wp2
   go_ret
   exact ⟨ga,kc,rfl,hga,ku HX1,ku HX2,ku HX3⟩
end Go.Proofs.YtpmcnonmkghokaaGreatDoor
namespace Go.Proofs.YtpmcnonmkghokaaGreatDoor
open Go.RowKit
theorem zjj {k:List Int}(h:kzj k=true):∀ x∈k,0≤x∧x≤255:=by
 intro x hx;have:=ng.1 h x hx;simpa using this
theorem ofNat_inj {a b:Int}(ha:0≤a∧a≤255)(hb:0≤b∧b≤255)(h:UInt8.ofNat a.toNat=UInt8.ofNat b.toNat):a=b:=by
 have:=congrArg UInt8.toNat h;simp only[UInt8.toNat_ofNat'] at this;omega
theorem jqq {a b:List Int}(ha:kzj a=true)(hb:kzj b=true)(h1:(strOfNums a).data.toList=(strOfNums b).data.toList):a=b:=by
 rw[strOfNums_data,strOfNums_data] at h1;have h2:=zjj ha;have h3:=zjj hb;clear ha hb;induction a generalizing b with
 | nil=>
  cases b with
  | nil=>rfl
  | cons y b=>simp at h1
 | cons x a ih=>
  cases b with
  | nil=>simp at h1
  | cons y b=>
   simp only[lJ,List.cons.injEq] at h1;rw[ofNat_inj (h2 x (by simp)) (h3 y (by simp)) h1.1,ih h1.2 (fun z hz=>h2 z (by simp[hz])) (fun z hz=>h3 z (by simp[hz]))]
theorem key_inj {a b:List Int}(ha:kzj a=true)(hb:kzj b=true)(h:strOfNums a=strOfNums b):a=b:=jqq ha hb (by rw[h])
theorem qq6 {α:Type}{l:List α}(h:l.Nodup){i j:Nat}(hi:i<l.length)(hj:j<l.length)(e:l[i]=l[j]):i=j:=by
 rcases Nat.lt_trichotomy i j with hlt|rfl|hlt
 ·exact absurd e (Qm.mp h i j hi hj hlt)
 ·rfl
 ·exact absurd e.symm (Qm.mp h j i hj hi hlt)
structure kxb (w:World)(b:Nat)(ks:List (List Int))(vs:List Value):Prop where
 ents:∃ es clock,w.heap[b]?=some (.map es clock)∧es.toList.map (fun e=>(e.key,e.val))=(ks.zip vs).map (fun p=>(Value.string (strOfNums p.1),p.2))∧(es.toList.map (·.born)).Nodup∧∀ e∈es.toList,e.born<clock
 len:ks.length=vs.length
 nodup:ks.Nodup
 ok:∀ k∈ks,kzj k=true∧k.length≤1000
theorem kxb.lt {w:World}{b:Nat}{ks:List (List Int)}{vs:List Value}(h:kxb w b ks vs):b<w.heap.size:=by
 obtain ⟨es,c,h1,_⟩:=h.ents;exact wZ h1
theorem kxb.stay {S:List Nat}{w w':World}{b:Nat}{ks:List (List Int)}{vs:List Value}(h:kxb w b ks vs)(hk:yw S w w')(hn:b ∉ S):kxb w' b ks vs:=by
 obtain ⟨es,c,h1,h2⟩:=h.ents;exact ⟨⟨es,c,hk.at h1 hn,h2⟩,h.len,h.nodup,h.ok⟩
theorem qzj {k:List Int}(h:k.length≤1000):keyOf Tryz.prog 9 (.string (strOfNums k))=some (.string (strOfNums k).data.toList):=keyS (by rw[strOfNums_size];exact h)
theorem kxb.ent {ks:List (List Int)}{vs:List Value}{es:Array MapEntry}(h2:es.toList.map (fun e=>(e.key,e.val))=(ks.zip vs).map (fun p=>(Value.string (strOfNums p.1),p.2)))(hl:ks.length=vs.length)(j:Nat)(hj:j<ks.length) :
  ∃ e,es.toList[j]?=some e∧e.key=.string (strOfNums ks[j])∧e.val=vs[j]:=by
 have h3:(es.toList.map (fun e=>(e.key,e.val)))[j]?=some (.string (strOfNums ks[j]),vs[j]):=by
  rw[h2,sW,(List.getElem?_zip_eq_some (z:=(ks[j],vs[j]'(by omega)))).mpr ⟨wW hj,wW (by omega)⟩];rfl
 rw[sW] at h3;obtain ⟨e,h4,h5⟩:=tu.mp h3;simp only[Prod.mk.injEq] at h5;exact ⟨e,h4,h5.1,h5.2⟩
theorem kxb.back {ks:List (List Int)}{vs:List Value}{es:Array MapEntry}(h2:es.toList.map (fun e=>(e.key,e.val))=(ks.zip vs).map (fun p=>(Value.string (strOfNums p.1),p.2)))(hl:ks.length=vs.length){j:Nat}{e:MapEntry}(he:es.toList[j]?=some e) :
  ∃ (hj:j<ks.length),e.key=.string (strOfNums ks[j])∧e.val=vs[j]:=by
 have h3:es.toList.length=ks.length:=by have:=congrArg List.length h2;simp at this;simp;omega
 have hj:j<ks.length:=by
  rw[←h3];rcases Qk j es.toList.length with h|h
  ·exact h
  ·rw[nZ h] at he;cases he
 obtain ⟨e',h4,h5,h6⟩:=kxb.ent h2 hl j hj;rw[he] at h4;injection h4 with h4;subst h4;exact ⟨hj,h5,h6⟩
theorem kxb.vxj {w:World}{b:Nat}{ks:List (List Int)}{vs:List Value}(h:kxb w b ks vs){es:Array MapEntry}(h2:es.toList.map (fun e=>(e.key,e.val))=(ks.zip vs).map (fun p=>(Value.string (strOfNums p.1),p.2))):∀ e∈es.toList,∃ l,keyOf Tryz.prog 9 e.key=some l:=fun e he=>by
 obtain ⟨j,hj,e1⟩:=rP he;obtain ⟨hj',e2,_⟩:=kxb.back h2 h.len (j:=j) (e:=e) (by rw[wW hj,e1]);exact ⟨_,by rw[e2];exact qzj (h.ok _ (wY hj')).2⟩
theorem kxb.findKey {w:World}{b:Nat}{ks:List (List Int)}{vs:List Value}(h:kxb w b ks vs){es:Array MapEntry}(h2:es.toList.map (fun e=>(e.key,e.val))=(ks.zip vs).map (fun p=>(Value.string (strOfNums p.1),p.2))){k:List Int}(hk:kzj k=true)(hl:k.length≤1000)(w':World) :
  (k ∉ ks∧(Instr.findKey 9 (.string (strOfNums k)) es.toList).run Tryz.prog w'=.ok none w')∨∃ j e,∃ (hj:j<ks.length),ks[j]=k∧es.toList[j]?=some e∧e.val=vs[j]'(by rw[←h.len];exact hj)∧(Instr.findKey 9 (.string (strOfNums k)) es.toList).run Tryz.prog w'=.ok (some (j,e.val)) w':=by
 rcases keyed.find w' (qzj hl) es.toList (h.vxj h2) with ⟨f1,f2⟩|⟨j,e0,f1,f2,f3⟩
 ·refine Or.inl ⟨fun hm=>?_,f1⟩;obtain ⟨j,hj,e1⟩:=rP hm;obtain ⟨e,h4,h5,_⟩:=kxb.ent h2 h.len j hj;exact f2 e (nU h4) (by rw[h5,e1])
 ·obtain ⟨hj,e1,e2⟩:=kxb.back h2 h.len f2;rw[f3] at e1;injection e1 with e1;exact Or.inr ⟨j,e0,hj,(key_inj hk (h.ok _ (wY hj)).1 e1).symm,f2,e2,f1⟩
section
variable {w:World} {b:Nat} {ks:List (List Int)} {vs:List Value} {T E:Nat} {z:Value}
theorem vxn (h:kxb w b ks vs)(hT:Tryz.prog.underlying T=some (.map 9 E))(hz:∀ w,(zeroValue E).run Tryz.prog w=.ok z w){k:List Int}(hk:kzj k=true)(hl:k.length≤1000)(hn:k ∉ ks)(c:Bool):(Instr.lookup T (.map (some b)) (.string (strOfNums k)) c).run Tryz.prog w=.ok (if c then .tuple #[z,.bool false] else z) w:=by
 obtain ⟨es,cl,h1,h2,_⟩:=h.ents;rcases h.findKey h2 hk hl w with ⟨_,f1⟩|⟨j,e,hj,e1,_⟩
 ·simp[Instr.lookup,Qv hT,MapKept.run_getObj_map h1,keyed.check w _ (qzj hl),f1,hz w,Result.andThen]
 ·exact absurd (by rw[←e1];exact wY hj) hn
theorem jkz (h:kxb w b ks vs)(hT:Tryz.prog.underlying T=some (.map 9 E)){j:Nat}(hj:j<ks.length)(hv:j<vs.length)(c:Bool):(Instr.lookup T (.map (some b)) (.string (strOfNums ks[j])) c).run Tryz.prog w=.ok (if c then .tuple #[vs[j],.bool true] else vs[j]) w:=by
 obtain ⟨es,cl,h1,h2,_⟩:=h.ents;have hok:=h.ok _ (wY hj);rcases h.findKey h2 hok.1 hok.2 w with ⟨hn,_⟩|⟨i,e,hi,e1,_,e2,f1⟩
 ·exact absurd (wY hj) hn
 ·have:i=j:=qq6 h.nodup hi hj e1;subst this;simp[Instr.lookup,Qv hT,MapKept.run_getObj_map h1,keyed.check w _ (qzj hok.2),f1,e2,Result.andThen]
theorem kyu (w:World)(b:Nat)(o:Obj){es:Array MapEntry}{c:Nat}(h:w.heap[b]?=some (.map es c)):yw [b] w (ChangeMaps.setBlock w b o):=
 ⟨rfl,rfl,rfl,by simp[ChangeMaps.setBlock],fun k _ hn=>ChangeMaps.heap_setBlock_other h _ (by simpa using hn)⟩
theorem vqs (h:kxb w b ks vs)(hT:Tryz.prog.underlying T=some (.map 9 E)){k:List Int}(hk:kzj k=true)(hl:k.length≤1000)(hn:k ∉ ks)(v:Value):∃ w',(Instr.mapUpdate T (.map (some b)) (.string (strOfNums k)) v).run Tryz.prog w=.ok () w'∧kxb w' b (ks++[k]) (vs++[v])∧yw [b] w w':=by
 obtain ⟨es,cl,h1,h2,h3,h4⟩:=h.ents;rcases h.findKey h2 hk hl w with ⟨_,f1⟩|⟨j,e,hj,e1,_⟩
 ·refine ⟨ChangeMaps.setBlock w b (.map (es.push ⟨.string (strOfNums k),v,cl⟩) (cl+1)),by simp[Instr.mapUpdate,Qv hT,MapKept.run_getObj_map h1,keyed.check w false (qzj hl),f1,MapKept.run_setObj_map _ h1,Result.andThen,ChangeMaps.setBlock],⟨⟨_,_,ChangeMaps.heap_setBlock_same h1 _,?_,?_,?_⟩,by simp[h.len],?_,?_⟩,kyu w b _ h1⟩
  ·rw[Q8,sJ,h2,List.zip_append h.len,sJ];rfl
  ·rw[Q8,sJ,Qp];refine ⟨h3,by simp,fun a ha c hc=>?_⟩;obtain ⟨e,he,rfl⟩:=su.mp ha;simp at hc;have:=h4 e he;omega
  ·intro e he;rw[Q8,rC] at he;rcases he with he|he
   ·have:=h4 e he;omega
   ·simp at he;subst he;simp
  ·rw[Qp];exact ⟨h.nodup,by simp,fun a ha c hc e=>by simp at hc;subst hc;exact hn (e ▸ ha)⟩
  ·intro x hx;rcases rC.mp hx with hx|hx
   ·exact h.ok x hx
   ·simp at hx;subst hx;exact ⟨hk,hl⟩
 ·exact absurd (by rw[←e1];exact wY hj) hn
end
end Go.Proofs.YtpmcnonmkghokaaGreatDoor
namespace Go.Proofs.YtpmcnonmkghokaaGreatDoor
open Go.RowKit
def qxu (B:Nat)(w:World)(gc:Nat)(st:List Int)(v:Value):Prop:=w.ownsRow B 5 1 v st.length (st.map (Value.int .u8))∧v.ownBlock≠some gc
def Sep (w:World)(gc:Nat)(S:List Nat):Prop:=∀ k∈S,k=gc∨∀ cs fr,w.heap[k]?≠some (.cells cs 5 fr)
theorem qxu.stay {B:Nat}{w w':World}{gc:Nat}{st:List Int}{v:Value}{S:List Nat}(h:qxu B w gc st v)(hk:yw S w w')(hS:Sep w gc S):qxu B w' gc st v:=by
 refine ⟨kwx h.1 hk fun k ek hm=>?_,h.2⟩;rcases hS k hm with rfl|hn
 ·exact h.2 ek
 ·obtain ⟨c,fr,e⟩:=kwk h.1 k (by simp[kv1,ek]);exact hn c fr e
def jv7 (x:SWay)(sa:Option Addr)(sn sc:Nat):Value:=.agg #[.slice sa sn sc,.int .i64 x.from_,.string x.step]
def qzc (B:Nat)(w:World)(gc:Nat)(ways:List SWay)(cs:List Value):Prop:=cs.length=ways.length * 3∧∀ k (hk:k<ways.length),∃ sa sn sc,cs[k * 3]?=some (.slice sa sn sc)∧cs[k * 3+1]?=some (.int .i64 ways[k].from_)∧cs[k * 3+2]?=some (.string ways[k].step)∧qxu B w gc ways[k].state (.slice sa sn sc)
theorem qzc.stay {B:Nat}{w w':World}{gc:Nat}{ways:List SWay}{cs:List Value}{S:List Nat}(h:qzc B w gc ways cs)(hk:yw S w w')(hS:Sep w gc S):qzc B w' gc ways cs:=
 ⟨h.1,fun k hl=>by obtain ⟨sa,sn,sc,e0,e1,e2,hs⟩:=h.2 k hl;exact ⟨sa,sn,sc,e0,e1,e2,hs.stay hk hS⟩⟩
def qxa (B:Nat)(w:World)(gc:Nat)(f:Fnd)(vs:List Value):Prop:=vs.length=f.length∧∀ k (hk:k<f.length),∃ sa sn sc,vs[k]?=some (jv7 f[k].2 sa sn sc)∧qxu B w gc f[k].2.state (.slice sa sn sc)
theorem qxa.stay {B:Nat}{w w':World}{gc:Nat}{f:Fnd}{vs:List Value}{S:List Nat}(h:qxa B w gc f vs)(hk:yw S w w')(hS:Sep w gc S):qxa B w' gc f vs:=
 ⟨h.1,fun k hl=>by obtain ⟨sa,sn,sc,e0,hs⟩:=h.2 k hl;exact ⟨sa,sn,sc,e0,hs.stay hk hS⟩⟩
theorem qxa.snoc {B:Nat}{w:World}{gc:Nat}{f:Fnd}{vs:List Value}{k:List Int}{x:SWay}{sa:Option Addr}{sn sc:Nat}(h:qxa B w gc f vs)(hs:qxu B w gc x.state (.slice sa sn sc)):qxa B w gc (f++[(k,x)]) (vs++[jv7 x sa sn sc]):=by
 refine ⟨by simp[h.1],fun j hj=>?_⟩;by_cases hl:j<f.length
 ·obtain ⟨sa',sn',sc',e0,hs'⟩:=h.2 j hl;refine ⟨sa',sn',sc',?_,?_⟩
  ·rw[lX (by rw[h.1];exact hl),lu hl];exact e0
  ·rw[lu hl];exact hs'
 ·have:j=f.length:=by simp at hj;omega
  subst this;have e1:(f++[(k,x)])[f.length]=(k,x):=by simp
  refine ⟨sa,sn,sc,?_,by rw[e1];exact hs⟩;rw[e1,rU (by rw[h.1];exact wX _),h.1,Nat.sub_self];rfl
structure kqc (B:Nat)(w:World)(S O M gc cc sb fb:Nat)(ts:List Turn)(s:SSt):Prop where
 row:∃ la ll lc cs,w.heap[S]?=some (.cells #[.pointer (some ⟨O,0,none⟩),.slice la ll lc,.map (some sb),.map (some fb)] 170 (0,0))∧w.ownsRow B 173 3 (.slice la ll lc) s.ways.length cs∧qzc B w gc s.ways cs
 orb:∃ tv,zka B w O M gc cc ts s.cur tv
 seen:∃ vs,kxb w sb s.seen vs∧∀ v∈vs,v=.agg #[]
 found:∃ vs,kxb w fb (s.found.map (·.1)) vs∧qxa B w gc s.found vs
 ne:sb≠fb
 ge:B≤S∧B≤gc∧B≤sb∧B≤fb
theorem kqc.zjv {B:Nat}{w:World}{S O M gc cc sb fb:Nat}{ts:List Turn}{s:SSt}(h:kqc B w S O M gc cc sb fb ts s){e:Nat}(he:e≠5):qqd w [gc,fb,sb] e:=by
 intro k hk c fr e1;simp only[tX,nM,or_false] at hk;rcases hk with rfl|rfl|rfl
 ·obtain ⟨tv,ho⟩:=h.orb;obtain ⟨c2,fr2,e2⟩:=ho.ty k (by simp);rw[e2] at e1;injection e1 with e1;injection e1 with _ e1 _;exact he e1.symm
 ·obtain ⟨vs,hm,_⟩:=h.found;obtain ⟨es,cl,e2,_⟩:=hm.ents;rw[e2] at e1;cases e1
 ·obtain ⟨vs,hm,hu⟩:=h.seen;obtain ⟨es,cl,e2,_⟩:=hm.ents;rw[e2] at e1;cases e1
theorem kqc.sep {B:Nat}{w:World}{S O M gc cc sb fb:Nat}{ts:List Turn}{s:SSt}(h:kqc B w S O M gc cc sb fb ts s):Sep w gc [gc,fb,sb]:=by
 intro k hk;simp only[tX,nM,or_false] at hk;rcases hk with rfl|rfl|rfl
 ·exact Or.inl rfl
 ·refine Or.inr fun c fr e1=>?_
  obtain ⟨vs,hm,_⟩:=h.found;obtain ⟨es,cl,e2,_⟩:=hm.ents;rw[e2] at e1;cases e1
 ·refine Or.inr fun c fr e1=>?_
  obtain ⟨vs,hm,hu⟩:=h.seen;obtain ⟨es,cl,e2,_⟩:=hm.ents;rw[e2] at e1;cases e1
theorem zvc {w:World}{S:List Nat}{e b:Nat}{cs:Array Value}{fr:Nat × Nat}(hn:qqd w S e)(h:w.heap[b]?=some (.cells cs e fr)):b ∉ S:=fun hm=>hn b hm _ _ h
theorem OwnRows.vzl {S:List Nat}{B:Nat}{w w':World}{x:Value}{ls:List (List Int)}(h:OwnRows B w x ls)(hk:yw S w w')(h1:qqd w S 31)(h2:qqd w S 3):OwnRows B w' x ls:=by
 obtain ⟨la,ll,lc,cs,e,h3,h4⟩:=h;exact ⟨la,ll,lc,cs,e,kzq h3 hk h1,h4.1,fun k hl=>by obtain ⟨a,n,c,e,ho⟩:=h4.2 k hl;exact ⟨a,n,c,e,kzq ho hk h2⟩⟩
theorem kj6.vzl {S:List Nat}{B:Nat}{w w':World}{x:Value}{ts:List Turn}(h:kj6 B w x ts)(hk:yw S w w')(h0:qqd w S 256)(h1:qqd w S 31)(h2:qqd w S 3):kj6 B w' x ts:=by
 obtain ⟨la,ll,lc,cs,e,h3,h4⟩:=h;exact ⟨la,ll,lc,cs,e,kzq h3 hk h0,h4.1,fun k hl=>by obtain ⟨v,e,ho⟩:=h4.2 k hl;exact ⟨v,e,ho.vzl hk h1 h2⟩⟩
theorem kqc.turned {B:Nat}{w w':World}{S O M gc cc sb fb:Nat}{ts:List Turn}{s:SSt}(h:kqc B w S O M gc cc sb fb ts s)(hk:yw [gc,fb,sb] w w'){cur:List Int}(hcl:cur.length=s.cur.length)(hown:w'.ownsRow B 5 1 (.slice (some ⟨gc,0,none⟩) s.cur.length cc) s.cur.length (cur.map (Value.int .u8)))
  {seen:List (List Int)} {vs:List Value} (hseen:kxb w' sb seen vs) (hun:∀ v∈vs,v=.agg #[]) {f:Fnd} {us:List Value} (hf:kxb w' fb (f.map (·.1)) us) (hv:qxa B w' gc f us):kqc B w' S O M gc cc sb fb ts ⟨s.ways,seen,f,cur⟩:=by
 obtain ⟨la,ll,lc,cs,r1,r2,r3⟩:=h.row;obtain ⟨tv,ho⟩:=h.orb;refine ⟨⟨la,ll,lc,cs,hk.at r1 (zvc (h.zjv (by decide)) r1),kzq r2 hk (h.zjv (by decide)),r3.stay hk h.sep⟩,⟨tv,?_,ho.turns.vzl hk (h.zjv (by decide)) (h.zjv (by decide)) (h.zjv (by decide)),by show w'.ownsRow _ _ _ (.slice _ cur.length _) cur.length _;rw[hcl];exact hown⟩,⟨vs,hseen,hun⟩,⟨us,hf,hv⟩,h.ne,h.ge⟩;show w'.heap[O]?=some (.cells #[_,_,.slice _ cur.length _] _ _);rw[hcl];exact hk.at ho.row (zvc (h.zjv (by decide)) ho.row)
theorem kqc.jwm {B:Nat}{w:World}{S O M gc cc sb fb:Nat}{ts:List Turn}{s:SSt}(h:kqc B w S O M gc cc sb fb ts s):fb≠gc∧sb≠gc:=by
 obtain ⟨tv,ho⟩:=h.orb;obtain ⟨c2,fr2,e2⟩:=ho.ty gc (by simp);obtain ⟨vs,hm,_⟩:=h.found;obtain ⟨es,cl,e3,_⟩:=hm.ents;obtain ⟨us,hm2,_⟩:=h.seen;obtain ⟨es2,cl2,e4,_⟩:=hm2.ents;refine ⟨fun e=>?_,fun e=>?_⟩
 ·rw[e,e2] at e3;cases e3
 ·rw[e,e2] at e4;cases e4
theorem kqc.cur {B:Nat}{w w':World}{S O M gc cc sb fb:Nat}{ts:List Turn}{s:SSt}(h:kqc B w S O M gc cc sb fb ts s)(hk:yw [gc] w w'){cur:List Int}(hcl:cur.length=s.cur.length)(hown:w'.ownsRow B 5 1 (.slice (some ⟨gc,0,none⟩) s.cur.length cc) s.cur.length (cur.map (Value.int .u8))):kqc B w' S O M gc cc sb fb ts ⟨s.ways,s.seen,s.found,cur⟩:=by
 obtain ⟨vs,hm,hu⟩:=h.seen;obtain ⟨us,hf,hv⟩:=h.found;exact h.turned (hk.wide (by simp)) hcl hown (hm.stay hk (by simpa using h.jwm.2)) hu (hf.stay hk (by simpa using h.jwm.1)) (hv.stay hk fun k hk=>by simp at hk;exact Or.inl hk)
theorem kqc.below {B:Nat}{w w':World}{S O M gc cc sb fb:Nat}{ts:List Turn}{s:SSt}(h:kqc B w S O M gc cc sb fb ts s)(hb:Below w.heap.size w w'):kqc B w' S O M gc cc sb fb ts s:=by
 obtain ⟨tv,ho⟩:=h.orb;exact h.cur (.of_below hb) rfl (qj ho.own hb)
theorem qxu.below {B:Nat}{w w':World}{gc:Nat}{st:List Int}{v:Value}(h:qxu B w gc st v)(hb:Below w.heap.size w w'):qxu B w' gc st v:=⟨qj h.1 hb,h.2⟩
theorem kqc.lts {B:Nat}{w:World}{S O M gc cc sb fb:Nat}{ts:List Turn}{s:SSt}(h:kqc B w S O M gc cc sb fb ts s):S<w.heap.size∧O<w.heap.size∧gc<w.heap.size∧sb<w.heap.size∧fb<w.heap.size:=by
 obtain ⟨la,ll,lc,cs,r1,_,_⟩:=h.row;obtain ⟨tv,ho⟩:=h.orb;obtain ⟨c2,fr2,e2⟩:=ho.ty gc (by simp);obtain ⟨vs,hm,hu⟩:=h.seen;obtain ⟨us,hf,_⟩:=h.found;exact ⟨wZ r1,wZ ho.row,wZ e2,hm.lt,hf.lt⟩
theorem vje (w:World):(zeroValue 173).run Tryz.prog w=.ok (.agg #[.slice none 0 0,.int .i64 0,.string ⟨#[]⟩]) w:=by kernel_rfl
theorem jy4 (w:World):(zeroValue 264).run Tryz.prog w=.ok (.agg #[]) w:=by kernel_rfl
end Go.Proofs.YtpmcnonmkghokaaGreatDoor
