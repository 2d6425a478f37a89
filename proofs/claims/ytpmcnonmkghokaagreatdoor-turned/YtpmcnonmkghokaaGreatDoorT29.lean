import Derived.Test.YtpmcnonmkghokaaGreatDoorT28
import Derived.Test.YtpmcnonmkghokaaGreatDoorT21
import Derived.Test.YtpmcnonmkghokaaGreatDoorT24
set_option linter.unusedVariables false
set_option linter.unusedSimpArgs false
namespace Go.Proofs.YtpmcnonmkghokaaGreatDoor
open Go.RowKit
variable {tab:Tab} {vars:List MVar} {mt:uq} {ksz ssz:List UInt8→Nat} {size:Nat} {l:List PP} {ms st st':List Int} {τ:Int→Int} {ar sv:Nat→Bool}
theorem kjg.put (hτ:TauOk ssz τ)(hE:TurnEnv tab vars mt ssz ar sv)(hd:qq4 vars)(hs:kqp vars size st)(hT:kjg τ ar sv vars st st'){m:Nat}{v:MVar}(hv:vars[m]?=some v){j:Nat}(hj:j<v.count)(x:Int):kjg τ ar sv vars (st.set (v.first+j) x) (st'.set (v.first+zve τ (ar m) j) (vlT τ (sv m) x)):=by
 refine ⟨by rw[Qa,Qa];exact hT.len,fun k u hu i hi=>?_⟩;have hval:=hT.val k u hu i hi;have hl:st'.length=st.length:=hT.len;have hpj:=vkq hτ (hE.cnt m v hv) hj;have hpi:=vkq hτ (hE.cnt k u hu) hi;obtain ⟨y,hy,_,_⟩:=hs.val u (lZ hu) i hi;have hyl:=(nJ.mp hy).1;by_cases hk:k=m
 ·subst hk;rw[hv] at hu;injection hu with hu;subst hu;by_cases e:i=j
  ·subst e;have h2:v.first+zve τ (ar k) i<st'.length:=by
    rw[hy] at hval;exact (nJ.mp hval).1
   rw[QB h2,QB hyl];rfl
  ·have e2:zve τ (ar k) i≠zve τ (ar k) j:=fun e2=>e (vvu hτ (hE.cnt k v hv) hi hj e2)
   rw[Qr (by omega),Qr (by omega)];exact hval
 ·have:=hd k m u v hu hv hk;rw[Qr (by omega),Qr (by omega)];exact hval
theorem vzv (he:EnvOk tab vars mt ksz ssz size)(hτ:TauOk ssz τ)(hE:TurnEnv tab vars mt ssz ar sv)(hd:qq4 vars)(hp:ParOk ssz l ms)(hl:∀ s,fpB l s=true→(qo tab s).role≠4)(hs:kqp vars size st)(hT:kjg τ ar sv vars st st')(x:ELab)(v:PX)(hop:x.op.toList=[112,108,97,99,101])(hf:kv9 v)(hn:zqz v)(hnil:isNil v=false)(hz:kz9 v≤4000)(ht:jz2 tab l (.node 0 0 x .nil .nil) v=true){r r':List Int × Bool}(h1:zxd vars mt l ms st x.name x.index v=some r)(h2:zxd vars mt l (msT τ ms) st' x.name x.index v=some r'):r.2=r'.2∧(r.2=false→kjg τ ar sv vars r.1 r'.1):=by
 obtain ⟨hr,hpf,hvf⟩:=zy8 ht;have hty:(kqg tab l (.node 0 0 x .nil .nil))=kx4 tab l x.name x.index:=zxl tab l x hop;rw[hty] at hpf;have hr:(qo tab x.name.text.toList).role=4:=hr;have hnp:fpB l x.name.text.toList=false:=by
  cases hq:fpB l x.name.text.toList
  ·rfl
  ·exact absurd hr (hl _ hq)
 obtain ⟨p,hp1,hp2⟩:=val_ok he hp hs v hf hn hnil hz hvf;obtain ⟨_,u,hu1,hu2⟩:=he.var _ hr;have ha:=hE.arr _ hr;have hb:=hE.set _ hr;have hk:kx4 tab l x.name x.index=kzc tab (qo tab x.name.text.toList).var.si∧((x.index.kind.toList==[])=false→(qo tab x.name.text.toList).var.arr=true∧qkh tab l x.index (qo tab x.name.text.toList).var.over=true)∧((x.index.kind.toList==[])=true→(qo tab x.name.text.toList).var.arr=false):=by
  unfold kx4 at hpf ⊢;cases hk:(x.index.kind.toList==[])
  ·rw[hk] at hpf;cases harr:(qo tab x.name.text.toList).var.arr
   ·rw[harr] at hpf;exact absurd rfl hpf
   ·cases hx:qkh tab l x.index (qo tab x.name.text.toList).var.over
    ·rw[harr,hx] at hpf;exact absurd rfl hpf
    ·exact ⟨rfl,fun _=>⟨rfl,rfl⟩,fun e=>by cases e⟩
  ·rw[hk] at hpf;have hpf:(kjd tab l x.name).fam≠0:=hpf;unfold kjd at hpf;rw[hnp,hr] at hpf;cases harr:(qo tab x.name.text.toList).var.arr
   ·refine ⟨?_,fun e=>(by cases e),fun _=>rfl⟩;show kjd tab l x.name=_;unfold kjd;rw[hnp,hr,harr];rfl
   ·rw[harr] at hpf;exact absurd rfl hpf
 obtain ⟨k1,k2,k3⟩:=hk;unfold zxd at h1 h2;obtain ⟨p0,e,h1⟩:=wQ.mp h1;rw[hp1] at e;injection e with e;subst e;obtain ⟨u',e,h1⟩:=wQ.mp h1;rw[hu1] at e;injection e with e;subst e;obtain ⟨q,q1,h1⟩:=wQ.mp h1;obtain ⟨p',p1',h2⟩:=wQ.mp h2;obtain ⟨u',e,h2⟩:=wQ.mp h2;rw[hu1] at e;injection e with e;subst e;obtain ⟨q',q1',h2⟩:=wQ.mp h2;obtain ⟨v1,v2⟩:=qq6 he hτ hE hp hs hT v hf hn hnil hz hvf hp1 p1';obtain ⟨w1,w2⟩:=jv8 he hτ hE hp hs hT _ u _ hu1 hu2 ha x.index k2 k3 q1 q1';cases hpw:p.2
 ·
  have hpv:=v2 hpw;rw[hpw] at v1;have hrange:((p.1<0∨p.1 ≥ (u.texts.length:Int))↔(p'.1<0∨p'.1 ≥ (u.texts.length:Int)))∧p'.1=vlT τ (sv (kjt mt x.name.text.toList).num) p.1:=by
   rw[hb];unfold jz2 kyw at ht;rw[hty,k1] at ht;simp only[lg,wY,wP,nP,lu] at ht;rcases ht.2 with ⟨⟨⟨t1,t2⟩,_⟩,_⟩|⟨t1,t2⟩
   ·by_cases h4:(kzc tab (qo tab x.name.text.toList).var.si).fam=4
    ·have hx:=hp2.set (by rw[←t1];exact h4);rw[←t2] at hx;have htl:=hu2.set h4;have e1:p'.1=τ p.1:=by rw[hpv,qk8 (by rw[←t1];exact h4)]
     refine ⟨?_,by rw[e1,h4];rfl⟩;have:0≤τ p.1∧τ p.1≤ssz (kzc tab (qo tab x.name.text.toList).var.si).name.toList:=by
      by_cases h0:p.1=0
      ·rw[h0,hτ.zero];omega
      ·have:=hτ.rng _ p.1 (by omega) hx.2;omega
     rw[e1];constructor<;>intro h<;>omega
    ·have e1:p'.1=p.1:=by rw[hpv,kw8 (by rw[←t1];exact h4)]
     refine ⟨by rw[e1],by rw[e1,show ((kzc tab (qo tab x.name.text.toList).var.si).fam==4)=false by simpa using h4];rfl⟩
   ·have h0:=hp2.non t2;have e1:p'.1=0:=by rw[hpv,kw8 (by rw[t2];decide),h0]
    exact ⟨by rw[e1,h0],by rw[e1,h0,vzl hτ]⟩
  obtain ⟨g1,g2⟩:=hrange;by_cases hc:p.1<0∨p.1 ≥ (u.texts.length:Int)
  ·rw[if_pos (by simpa using hc)] at h1;rw[if_pos (by simpa using g1.mp hc)] at h2;injection h1 with h1;injection h2 with h2;rw[←h1,←h2];exact ⟨rfl,fun e=>by cases e⟩
  ·rw[if_neg (by simpa using hc)] at h1;rw[if_neg (by simpa using fun h=>hc (g1.mpr h))] at h2;split at h1
   ·cases h1
   ·split at h2
    ·cases h2
    ·injection h1 with h1;injection h2 with h2;rw[←h1,←h2];refine ⟨by show (p.2||q.2)=(p'.2||q'.2);rw[hpw,←v1,w1],fun hf=>?_⟩;have hf:(p.2||q.2)=false:=hf;rw[hpw,lQ] at hf;obtain ⟨j,j1,j2,j3⟩:=w2 hf;show kjg τ ar sv vars (st.set q.1.toNat p.1) (st'.set q'.1.toNat p'.1);rw[j2,j3,g2,show ∀ k:Nat,((u.first:Int)+(k:Int)).toNat=u.first+k from fun k=>by omega,show ∀ k:Nat,((u.first:Int)+(k:Int)).toNat=u.first+k from fun k=>by omega];exact kjg.put hτ hE hd hs hT hu1 j1 p.1
 ·have hw:∀ {pp qq:Int × Bool} {s:List Int} {rr:List Int × Bool},pp.2=true→(if (pp.1<0||pp.1 ≥ (u.texts.length:Int))=true then some (s,true) else if (pp.1 > 255||qq.1<0||qq.1 ≥ (s.length:Int))=true then none else some (s.set qq.1.toNat pp.1,pp.2||qq.2))=some rr→rr.2=true:=by
   intro pp qq s rr h3 h4;split at h4
   ·injection h4 with h4;rw[←h4]
   ·split at h4
    ·cases h4
    ·injection h4 with h4;rw[←h4,h3];rfl
  have e1:r.2=true:=hw hpw h1;have e2:r'.2=true:=hw (by rw[←v1];exact hpw) h2;exact ⟨by rw[e1,e2],fun e=>by rw[e1] at e;cases e⟩
theorem qvn (he:EnvOk tab vars mt ksz ssz size)(hτ:TauOk ssz τ)(hE:TurnEnv tab vars mt ssz ar sv)(hd:qq4 vars)(hp:ParOk ssz l ms)(hl:∀ s,fpB l s=true→(qo tab s).role≠4):∀ (b:PB),kwx b→zwm b→kzf tab l b=true→∀ {st st':List Int},kqp vars size st→kjg τ ar sv vars st st'→∀ {r r':List Int × Bool},doO vars mt l ms b st=some r→doO vars mt l (msT τ ms) b st'=some r'→r.2=r'.2∧(r.2=false→kjg τ ar sv vars r.1 r'.1)
 | .nil,_,_,_,st,st',hs,hT,r,r',h1,h2=>by
  rw[doO] at h1 h2;injection h1 with h1;injection h2 with h2;rw[←h1,←h2];exact ⟨rfl,fun _=>hT⟩
 | .node _ _ a .nil n,hf,hn,ht,st,st',hs,hT,r,r',h1,h2=>by
  obtain ⟨⟨f1,f2,x,f3,f4⟩,hfn⟩:=hf;obtain ⟨⟨n1,n2⟩,hnn⟩:=hn;rw[kzf,wY,f3] at ht;rw[doO,f3] at h1 h2;obtain ⟨p,p1,h1⟩:=wQ.mp h1;obtain ⟨q,q1,rfl⟩:=rQ.mp h1;obtain ⟨p',p1',h2⟩:=wQ.mp h2;obtain ⟨q',q1',rfl⟩:=rQ.mp h2;obtain ⟨y,y1,y2⟩:=vzw he hd hp hs x a.value f4 f1 n1 f2 n2 ht.1;have p1:zxd vars mt l ms st x.name x.index a.value=some p:=p1;rw[y1] at p1;injection p1 with p1;subst p1;obtain ⟨e1,e2⟩:=vzv he hτ hE hd hp hl hs hT x a.value f4 f1 n1 f2 n2 ht.1 y1 p1';rcases (Jp y.2).symm with hw|hw
  ·obtain ⟨g1,g2⟩:=qvn he hτ hE hd hp hl n hfn hnn ht.2 y2 (e2 hw) q1 q1';refine ⟨by show (y.2||q.2)=(p'.2||q'.2);rw[e1,g1],fun hh=>?_⟩;have hh:(y.2||q.2)=false:=hh;rw[fC] at hh;exact g2 hh.2
  ·refine ⟨by show (y.2||q.2)=(p'.2||q'.2);rw[←e1,hw];rfl,fun hh=>?_⟩;have hh:(y.2||q.2)=false:=hh;rw[hw] at hh;cases hh
 | .node _ _ a (.node _ _ _ t e) n,hf,hn,ht,st,st',hs,hT,r,r',h1,h2=>by
  obtain ⟨⟨f1,f2⟩,hft,hfe,hfn⟩:=hf;obtain ⟨⟨n1,n2⟩,hnt,hne,hnn⟩:=hn;rw[kzf,wY,wY,wY,wP] at ht;obtain ⟨⟨⟨t1,t2⟩,t3⟩,t4⟩:=ht;rw[doO] at h1 h2;obtain ⟨c,c1,h1⟩:=wQ.mp h1;obtain ⟨p,p1,h1⟩:=wQ.mp h1;obtain ⟨q,q1,rfl⟩:=rQ.mp h1;obtain ⟨c',c1',h2⟩:=wQ.mp h2;obtain ⟨p',p1',h2⟩:=wQ.mp h2;obtain ⟨q',q1',rfl⟩:=rQ.mp h2;obtain ⟨v1,v2⟩:=qq6 he hτ hE hp hs hT a.cond f1 n1 f2 n2 (by rw[t1];decide) c1 c1';rcases (Jp c.2).symm with hw|hw
  ·have hcv:=v2 hw;rw[kw8 (by rw[t1];decide)] at hcv;rw[hcv] at p1';have key:p.2=p'.2∧(p.2=false→kjg τ ar sv vars p.1 p'.1)∧kqp vars size p.1:=by
    cases hcc:(c.1==1)
    ·rw[hcc,if_neg (by simp)] at p1 p1';obtain ⟨z,z1,z2⟩:=qya he hd hp e hfe hne t3 st hs;rw[z1] at p1;injection p1 with p1;subst p1;obtain ⟨g1,g2⟩:=qvn he hτ hE hd hp hl e hfe hne t3 hs hT z1 p1';exact ⟨g1,g2,z2⟩
    ·rw[hcc,if_pos rfl] at p1 p1';obtain ⟨z,z1,z2⟩:=qya he hd hp t hft hnt t2 st hs;rw[z1] at p1;injection p1 with p1;subst p1;obtain ⟨g1,g2⟩:=qvn he hτ hE hd hp hl t hft hnt t2 hs hT z1 p1';exact ⟨g1,g2,z2⟩
   obtain ⟨g1,g2,g3⟩:=key;rcases (Jp p.2).symm with hw2|hw2
   ·obtain ⟨k1,k2⟩:=qvn he hτ hE hd hp hl n hfn hnn t4 g3 (g2 hw2) q1 q1';refine ⟨by show (c.2||p.2||q.2)=(c'.2||p'.2||q'.2);rw[v1,g1,k1],fun hh=>?_⟩;have hh:(c.2||p.2||q.2)=false:=hh;rw[fC] at hh;exact k2 hh.2
   ·refine ⟨by show (c.2||p.2||q.2)=(c'.2||p'.2||q'.2);rw[←g1,hw2,Qw,Qw];rfl,fun hh=>?_⟩;have hh:(c.2||p.2||q.2)=false:=hh;rw[hw2,Qw] at hh;cases hh
  ·refine ⟨by show (c.2||p.2||q.2)=(c'.2||p'.2||q'.2);rw[←v1,hw];rfl,fun hh=>?_⟩;have hh:(c.2||p.2||q.2)=false:=hh;rw[hw] at hh;cases hh
theorem jy3 (he:EnvOk tab vars mt ksz ssz size)(hτ:TauOk ssz τ)(hE:TurnEnv tab vars mt ssz ar sv)(hd:qq4 vars)(hs:kqp vars size st)(hs':kqp vars size st')(hT:kjg τ ar sv vars st st')(s:MStep)(h:StepFit tab ssz s)(h':ParOk ssz s.params (msT τ s.mems))(hl:∀ y,fpB s.params y=true→(qo tab y).role≠4){r r':List Int × Int}(h1:kv7 vars mt s.params s.mems st s.guard s.block=some r)(h2:kv7 vars mt s.params (msT τ s.mems) st' s.guard s.block=some r'):r.2=r'.2∧(r.2=1→kjg τ ar sv vars r.1 r'.1):=by
 obtain ⟨f1,f2,f3,f4,f5⟩:=h.full;obtain ⟨b1,b2,b3⟩:=h.blk;unfold kv7 at h1 h2;obtain ⟨c,c1,h1⟩:=wQ.mp h1;obtain ⟨p,p1,rfl⟩:=rQ.mp h1;obtain ⟨c',c1',h2⟩:=wQ.mp h2;obtain ⟨p',p1',rfl⟩:=rQ.mp h2;obtain ⟨v1,v2⟩:=qq6 he hτ hE h.par hs hT s.guard f1 f2 f3 f4 (by rw[f5];decide) c1 c1';cases hw:c.2
 ·have hcv:=v2 hw;rw[kw8 (by rw[f5];decide)] at hcv;rw[hcv] at p1' ⊢;rw[←v1,hw];cases hcc:(c.1==1)
  ·rw[hcc,if_neg (by simp)] at p1 p1';injection p1 with p1;injection p1' with p1';rw[←p1,←p1'];exact ⟨rfl,fun e=>by simp at e⟩
  ·rw[hcc,if_pos rfl] at p1 p1';obtain ⟨g1,g2⟩:=qvn he hτ hE hd h.par hl s.block b1 b2 b3 hs hT p1 p1';rw[←g1];cases hw2:p.2
   ·exact ⟨rfl,fun _=>g2 hw2⟩
   ·exact ⟨rfl,fun e=>by simp at e⟩
 ·rw[←v1,hw];exact ⟨rfl,fun e=>by simp at e⟩
theorem vzq (he:EnvOk tab vars mt ksz ssz size)(hτ:TauOk ssz τ)(hE:TurnEnv tab vars mt ssz ar sv)(hs:kqp vars size st)(hT:kjg τ ar sv vars st st')(s:MNever)(h:NevFit tab ssz s){r r':Bool}(h1:zxg vars mt s.params s.mems st s.expr=some r)(h2:zxg vars mt s.params (msT τ s.mems) st' s.expr=some r'):r=r':=by
 obtain ⟨f1,f2,f3,f4,f5⟩:=h.full;unfold zxg at h1 h2;obtain ⟨c,c1,rfl⟩:=rQ.mp h1;obtain ⟨c',c1',rfl⟩:=rQ.mp h2;obtain ⟨v1,v2⟩:=qq6 he hτ hE h.par hs hT s.expr f1 f2 f3 f4 (by rw[f5];decide) c1 c1';cases hw:c.2
 ·have hcv:=v2 hw;rw[kw8 (by rw[f5];decide)] at hcv;rw[hcv,←v1,hw]
 ·rw[←v1,hw,Qw,Qw]
end Go.Proofs.YtpmcnonmkghokaaGreatDoor
namespace Go.Proofs.YtpmcnonmkghokaaGreatDoor
open Go.RowKit
structure MachGood (tab:Tab)(ksz ssz:List UInt8→Nat)(a:Mach):Prop where
 env:EnvOk tab a.vars a.tab ksz ssz a.size
 disj:qq4 a.vars
 fit:∀ v∈a.vars,(v.first+v.count≤a.size∧1≤v.count)∧v.count≤10
 txt:∀ v∈a.vars,v.texts.length≤200∧∀ t∈v.texts,t.size≤800∧0<t.size
 one:0<a.vars.length
 few:a.vars.length≤10
 steps:∀ s∈a.steps,StepFit tab ssz s
 nevers:∀ s∈a.nevers,NevFit tab ssz s
 nodup:(a.steps.map (fun s=>s.text.toList)).Nodup
variable {tab:Tab} {ksz ssz:List UInt8→Nat} {a:Mach} {st:List Int}
def jw5 (a:Mach)(st:List Int)(s:MStep):Option (List Int × Int):=kv7 a.vars a.tab s.params s.mems st s.guard s.block
def qjz (a:Mach)(st:List Int)(s:MStep):Int:=match jw5 a st s with|some r=>r.2|none=>0
theorem out_ok (h:MachGood tab ksz ssz a)(hs:kqp a.vars a.size st){s:MStep}(hm:s∈a.steps):∃ r,jw5 a st s=some r∧qjz a st s=r.2∧(r.2=1→kqp a.vars a.size r.1):=by
 obtain ⟨r,h1,h2,h3⟩:=vxs h.env h.disj hs s (h.steps s hm);have h1':jw5 a st s=some r:=h1;exact ⟨r,h1',by unfold qjz;rw[h1'],h2⟩
theorem vjc (h:MachGood tab ksz ssz a)(hs:kqp a.vars a.size st):∀ (l:List MStep),(∀ s∈l,s∈a.steps)→∀ en wr,lkO a.vars a.tab st l en wr=some (en++(l.filter fun s=>qjz a st s==1).map (·.text),wr++(l.filter fun s=>!(qjz a st s==1)&&qjz a st s==2).map (·.text))
 | [],_,en,wr=>by rw[lkO];simp
 | s::l,hl,en,wr=>by
  obtain ⟨r,h1,h2,_⟩:=out_ok h hs (hl s (rG ..));have ih:=vjc h hs l (fun x hx=>hl x (rU _ hx));rw[lkO,show kv7 a.vars a.tab s.params s.mems st s.guard s.block=some r from h1];show (if r.2==1 then lkO a.vars a.tab st l (en++[s.text]) wr else if r.2==2 then lkO a.vars a.tab st l en (wr++[s.text]) else lkO a.vars a.tab st l en wr)=_;rw[Qg,Qg,h2];cases c1:(r.2==1)
  ·cases c2:(r.2==2)
   ·simp only[if_neg (show ¬false=true by simp),QX,Bool.and_self,Jw];exact ih en wr
   ·simp only[if_neg (show ¬false=true by simp),if_pos rfl,QX,Bool.and_self];rw[ih];simp
  ·simp only[if_pos rfl,Jo,lD,if_neg (show ¬false=true by simp)];rw[ih];simp
theorem vjb (h:MachGood tab ksz ssz a)(hs:kqp a.vars a.size st):∀ (l:List MNever),(∀ s∈l,s∈a.nevers)→∀ br,∃ r,lbO a.vars a.tab st l br=some r
 | [],_,br=>⟨br,rfl⟩
 | s::l,hl,br=>by
  obtain ⟨c,hc⟩:=zwv h.env hs s (h.nevers s (hl s (rG ..)));rw[lbO,hc];show ∃ r,(if c then lbO a.vars a.tab st l (br++[s.text]) else lbO a.vars a.tab st l br)=some r;cases c
  ·exact vjb h hs l (fun x hx=>hl x (rU _ hx)) br
  ·exact vjb h hs l (fun x hx=>hl x (rU _ hx)) (br++[s.text])
theorem jya {v:MVar}(hv:v∈a.vars)(hs:kqp a.vars a.size st)(ht:∀ t∈v.texts,t.size≤800∧0<t.size)(j:Nat)(hj:j<v.count):∃ t,qje v st (v.first+j)=some t∧t.size≤800∧0<t.size:=by
 obtain ⟨x,h1,h2,h3⟩:=hs.val v hv j hj;have hl:x.toNat<v.texts.length:=by omega
 refine ⟨v.texts[x.toNat],?_,ht _ (rJ hl)⟩;unfold qje;rw[h1];show (if 0≤x then v.texts[x.toNat]? else none)=_;rw[if_pos h2,ny hl]
theorem zyj (n:Nat):(kkc n).length≤1:=by unfold kkc;split<;>simp
theorem zzu (t:ByteArray):t.data.toList.length=t.size:=by rw[QG];rfl
theorem vzy {v:MVar}(hv:v∈a.vars)(hs:kqp a.vars a.size st)(ht:∀ t∈v.texts,t.size≤800∧0<t.size)(hc:v.count≤1000):∀ n,n≤v.count→∃ l,qj0 v st n=some l∧l.length≤n * 801
 | 0,_=>⟨[],rfl,by simp⟩
 | n+1,hn=>by
  obtain ⟨l,h1,h2⟩:=vzy hv hs ht hc n (by omega);obtain ⟨t,h3,h4,_⟩:=jya hv hs ht n (by omega);have hs1:=zyj n;have hl:(l++kkc n++t.data.toList).length≤(n+1) * 801:=by
   rw[wU,wU,zzu];omega
  refine ⟨_,?_,hl⟩;rw[qj0,h1];show (qje v st (v.first+n)).bind _=_;rw[h3];show (if (l++kkc n++t.data.toList).length≤1000000 then some (l++kkc n++t.data.toList) else none)=_;rw[if_pos (by omega)]
theorem vks (h:MachGood tab ksz ssz a){v:MVar}(hv:v∈a.vars)(hs:kqp a.vars a.size st):∃ l,qxc v st=some l∧l.length≤8020∧l≠[]:=by
 obtain ⟨_,ht⟩:=h.txt v hv;obtain ⟨⟨hf0,hf2⟩,hf1⟩:=h.fit v hv;have hz:=h.env.size;unfold qxc;cases ho:(v.over==-1)
 ·obtain ⟨l,h1,h2⟩:=vzy hv hs ht (by omega) v.count (wW _);rw[if_neg (by simp),h1];refine ⟨_,rfl,?_,by simp⟩;simp only[sU,wU,fP];omega
 ·obtain ⟨t,h1,h2,h3⟩:=jya hv hs ht 0 (by omega);rw[nV] at h1;rw[if_pos rfl,h1];show ∃ l,(if t.size≤1000000 then some t.data.toList else none)=some l∧_;rw[if_pos (by omega)];refine ⟨_,rfl,by rw[zzu];omega,?_⟩;intro e;have:=zzu t;rw[e] at this;simp at this;omega
theorem jym (h:MachGood tab ksz ssz a)(hs:kqp a.vars a.size st):∀ n,n≤a.vars.length→∃ l,qjo a.vars st n=some l∧l.length≤n * 8021∧(0<n→l≠[])
 | 0,_=>⟨[],rfl,by simp,fun h=>by omega⟩
 | n+1,hn=>by
  obtain ⟨l,h1,h2,_⟩:=jym h hs n (by omega);have hm:a.vars[n]?=some a.vars[n]:=ny (by omega);have hv:a.vars[n]∈a.vars:=rJ _;obtain ⟨t,h3,h4,h5⟩:=vks h hv hs;have hs1:=zyj n;have hfew:=h.few;have hl:(l++kkc n++t).length≤(n+1) * 8021:=by rw[wU,wU];omega
  have hfit:jjr a.vars[n]=true:=by
   obtain ⟨⟨q1,q2⟩,q3⟩:=h.fit _ hv;obtain ⟨q4,_⟩:=h.txt _ hv;have hz:=h.env.size;unfold jjr;rw[sD (by omega:a.vars[n].first≤1000000),sD (by omega:a.vars[n].count≤1000000),sD (by omega:a.vars[n].texts.length≤1000000)];rfl
  refine ⟨_,?_,hl,fun _ e=>h5 (lG.mp e).2⟩;rw[qjo,h1];show (a.vars[n]?).bind _=_;rw[hm];show (qxc a.vars[n] st).bind _=_;rw[h3];show (if (l++kkc n++t).length≤1000000∧jjr a.vars[n]=true then some (l++kkc n++t) else none)=_;rw[if_pos ⟨by omega,hfit⟩]
theorem jk2 (h:MachGood tab ksz ssz a)(hs:kqp a.vars a.size st):∃ t,qjt a.vars st=some t:=by
 obtain ⟨l,h1,_,h3⟩:=jym h hs a.vars.length (wW _);unfold qjt;rw[h1];show ∃ t,(if l=[] then none else some l)=some t;rw[if_neg (h3 h.one)];exact ⟨_,rfl⟩
theorem look_ok (h:MachGood tab ksz ssz a)(hs:kqp a.vars a.size st):∃ v,lookO a st=some v∧v.enabled=(a.steps.filter fun s=>qjz a st s==1).map (·.text)∧v.wrong=(a.steps.filter fun s=>!(qjz a st s==1)&&qjz a st s==2).map (·.text):=by
 obtain ⟨t,h1⟩:=jk2 h hs;have h2:=vjc h hs a.steps (fun _ hx=>hx) [] [];obtain ⟨b,h3⟩:=vjb h hs a.nevers (fun _ hx=>hx) [];unfold lookO;rw[h1];show ∃ v,((lkO a.vars a.tab st a.steps [] []).bind fun p=>(lbO a.vars a.tab st a.nevers []).map fun b=>(⟨⟨t.toArray⟩,p.1,p.2,b⟩:MView))=some v∧_;rw[h2];show ∃ v,((lbO a.vars a.tab st a.nevers []).map fun b=>(⟨⟨t.toArray⟩,[]++(a.steps.filter fun s=>qjz a st s==1).map (·.text),[]++(a.steps.filter fun s=>!(qjz a st s==1)&&qjz a st s==2).map (·.text),b⟩:MView))=some v∧_;rw[h3];exact ⟨_,rfl,rfl,rfl⟩
theorem vzk (h:MachGood tab ksz ssz a)(hs:kqp a.vars a.size st):∀ (l:List MStep),(∀ s∈l,s∈a.steps)→(l.map (fun s=>s.text.toList)).Nodup→∀ s∈l,∃ r,qjm a.vars a.tab st s.text.toList l=some r∧r.2=(qjz a st s==1)∧(r.2=true→kqp a.vars a.size r.1)
 | x::l,hl,hn,s,hm=>by
  rw[lC,Qo] at hn;rcases tK.mp hm with rfl|hm
  ·obtain ⟨r,h1,h2,h3⟩:=out_ok h hs (hl s (rG ..));rw[qjm,if_pos (by simp),show kv7 a.vars a.tab s.params s.mems st s.guard s.block=some r from h1];refine ⟨_,rfl,by rw[h2],fun e=>h3 (by simpa using e)⟩
  ·have hne:(x.text.toList==s.text.toList)=false:=by
    rw[lu];intro e;exact hn.1 (by rw[e];exact tC (f:=fun s:MStep=>s.text.toList) hm)
   rw[qjm,hne,if_neg (by simp)];exact vzk h hs l (fun y hy=>hl y (rU _ hy)) hn.2 s hm
theorem vzx {vars:List MVar}{mt:uq}{t:List UInt8}:∀ (l:List MStep),(∀ s∈l,s.text.toList≠t)→qjm vars mt st t l=some ([],false)
 | [],_=>rfl
 | x::l,h=>by
  rw[qjm,if_neg (by rw[wP];exact h x (rG ..))];exact vzx l fun y hy=>h y (rU _ hy)
def qz6 (a:Mach):List ByteArray→List Int→Option (List Int)
 | [],st=>some st
 | t::l,st=>(qjm a.vars a.tab st t.toList a.steps).bind fun r=>if r.2 then qz6 a l r.1 else none
theorem zj4 (a:Mach)(t:ByteArray):∀ (l:List ByteArray) (st st':List Int),qz6 a l st=some st'→qz6 a (l++[t]) st=(qjm a.vars a.tab st' t.toList a.steps).bind fun r=>if r.2 then some r.1 else none
 | [],st,st',h=>by
  rw[qz6] at h;injection h with h;subst h;rfl
 | x::l,st,st',h=>by
  rw[qz6] at h;obtain ⟨r,h1,h2⟩:=wQ.mp h;cases hr:r.2
  ·rw[hr] at h2;cases h2
  ·rw[hr,if_pos rfl] at h2;rw[fD,qz6,h1];show (if r.2 then qz6 a (l++[t]) r.1 else none)=_;rw[hr,if_pos rfl];exact zj4 a t l r.1 st' h2
theorem jxo (h:MachGood tab ksz ssz a)(us:List ByteArray):∀ (l:List ByteArray) (i:Nat) (st st':List Int),kqp a.vars a.size st→qz6 a l st=some st'→kqp a.vars a.size st'∧zq1 a (l++us) i st=zq1 a us (i+l.length) st'
 | [],i,st,st',hs,hr=>by
  rw[qz6] at hr;injection hr with hr;subst hr;exact ⟨hs,rfl⟩
 | t::l,i,st,st',hs,hr=>by
  rw[qz6] at hr;obtain ⟨r,h1,h2⟩:=wQ.mp hr;cases hb:r.2
  ·rw[hb] at h2;cases h2
  ·rw[hb,if_pos rfl] at h2;have hs':kqp a.vars a.size r.1:=by
    by_cases hm:∃ s∈a.steps,s.text.toList=t.toList
    ·obtain ⟨s,hs1,hs2⟩:=hm;obtain ⟨q,k1,k2,k3⟩:=vzk h hs a.steps (fun _ hx=>hx) h.nodup s hs1;rw[hs2,h1] at k1;injection k1 with k1;subst k1;exact k3 hb
    ·rw[vzx a.steps (fun s hs1 e=>hm ⟨s,hs1,e⟩)] at h1;injection h1 with h1;subst h1;cases hb
   obtain ⟨q1,q2⟩:=jxo h us l (i+1) r.1 st' hs' h2;refine ⟨q1,?_⟩;have hz:=h.env.size;have hl:=hs.len;rw[fD,zq1,if_pos (by omega),h1];show (if r.2 then zq1 a (l++us) (i+1) r.1 else some (noView,false,7,(i:Int)))=_;rw[hb,if_pos rfl,q2,sU];congr 1
   omega
end Go.Proofs.YtpmcnonmkghokaaGreatDoor
namespace Go.Proofs.YtpmcnonmkghokaaGreatDoor
open Go.RowKit
theorem jkn {L:List Tok}{s:List UInt8}{st:RS}(h:(qg L s st).bad=false):(qg L s st).at_=st.at_+1:=by
 unfold qg at h ⊢;split at h
 ·cases h
 ·rename_i hc;rw[if_neg hc]
theorem jki {L:List Tok}{s:List UInt8}{st:RS}(h:(qh L s st).2.bad=false):(qh L s st).2.at_=st.at_+1:=by
 unfold qh at h ⊢;split at h
 ·rename_i hc;rw[if_pos hc]
 ·cases h
theorem vqf {L:List Tok}{st:RS}(h:(vg L st).2.bad=false):st.at_+1≤(vg L st).2.at_∧kz9 (vg L st).1=1:=by
 unfold vg at h ⊢;simp only at h ⊢;split at h
 ·rename_i hc;rw[if_pos hc];simp only at h ⊢;have h3:=kq7 h;have h2:=kxr h3;have h1:=kq7 h2;have e1:=jki h1;have m2:=zi L [91] (qh L [110,97,109,101] st).2;have m3:=yx L [110,97,109,101] (qg L [91] (qh L [110,97,109,101] st).2);have m4:=zi L [93] (qh L [110,97,109,101] (qg L [91] (qh L [110,97,109,101] st).2)).2;exact ⟨by omega,rfl⟩
 ·rename_i hc;rw[if_neg hc];simp only at h ⊢;have e1:=jki h;exact ⟨by omega,rfl⟩
theorem vqb (L:List Tok):∀ (f tag:Nat) (x:PX) (st:RS),(rX f tag x L st).2.bad=false→kz9 (rX f tag x L st).1+st.at_≤kz9 x+(rX f tag x L st).2.at_
 | 0,tag,x,st,h=>wW _
 | f+1,tag,x,st,h=>by
  have ih:=vqb L f;have hb:st.bad=false:=kz3 h;have hbf:¬st.bad=true:=by rw[hb];simp
  have z0:kz9 (.nil:PX)=0:=rfl;rw[rX] at h ⊢;by_cases t4:tag<4
  ·rw[if_pos t4,if_neg hbf] at h ⊢;have h1:=ih (tag+1) .nil st (kz3 h);have h2:=ih (10+tag) _ _ h;omega
  ·rw[if_neg t4] at h ⊢;by_cases t10:tag<10
   ·rw[if_pos t10,if_neg hbf] at h ⊢;have h1:=ih 20 .nil st h;omega
   ·rw[if_neg t10] at h ⊢;by_cases t20:tag<20
    ·rw[if_pos t20,if_neg hbf] at h ⊢;by_cases hbin:kz7 (tag-10) (tk L st.at_)=true
     ·rw[if_pos hbin] at h ⊢;by_cases t12:tag=12
      ·rw[if_pos t12] at h ⊢;simp only at h ⊢;have h1:=ih (tag-9) .nil { st with at_:=st.at_+1 } h;simp only at h1;show kz9 x+kz9 (rX f (tag-9) .nil L { st with at_:=st.at_+1 }).1+1+st.at_≤_;omega
      ·rw[if_neg t12] at h ⊢;have h1:=ih (tag-9) .nil { st with at_:=st.at_+1 } (kz3 h);have h2:=ih tag _ _ h;simp only at h1;have e:kz9 (opX (tk L st.at_).text x (rX f (tag-9) .nil L { st with at_:=st.at_+1 }).1)=kz9 x+kz9 (rX f (tag-9) .nil L { st with at_:=st.at_+1 }).1+1:=rfl;rw[e] at h2;omega
     ·rw[if_neg hbin] at h ⊢;exact wW _
    ·rw[if_neg t20,if_neg hbf] at h ⊢;by_cases n33:ql L [33] st=true
     ·rw[if_pos n33] at h ⊢;by_cases t32:tag=32
      ·rw[if_pos t32] at h;simp at h
      ·rw[if_neg t32] at h ⊢;simp only at h ⊢;have h1:=ih (tag+1) .nil (qg L [33] st) h;have m1:=jkn (kz3 h);show kz9 (rX f (tag+1) .nil L (qg L [33] st)).1+kz9 (.nil:PX)+1+st.at_≤_;omega
     ·rw[if_neg n33] at h ⊢;by_cases n40:ql L [40] st=true
      ·rw[if_pos n40] at h ⊢;simp only at h ⊢;have h2:=kq7 h;have h1:=ih 0 .nil (qg L [40] st) h2;have m1:=jkn (kz3 h2);have m2:=zi L [41] (rX f 0 .nil L (qg L [40] st)).2;omega
      ·rw[if_neg n40] at h ⊢;by_cases hc:isConst (tk L st.at_)=true
       ·rw[if_pos hc] at h ⊢;show 0+0+1+st.at_≤kz9 x+(st.at_+1);omega
       ·rw[if_neg hc] at h ⊢;by_cases hd:qvm (tk L st.at_)=true
        ·rw[if_pos hd] at h ⊢;show 0+0+1+st.at_≤kz9 x+(st.at_+1);omega
        ·rw[if_neg hd] at h ⊢;have:=vqf h;omega
theorem jxf {L:List Tok}(hL:pq L){st:RS}(hl:st.at_<L.length)(h:(rX (ji L) 0 .nil L st).2.bad=false):kz9 (rX (ji L) 0 .nil L st).1≤801:=by
 obtain ⟨_,_,x3,_⟩:=kvy hL hl h;have h1:=vqb L (ji L) 0 .nil st h;have z0:kz9 (.nil:PX)=0:=rfl;have hlen:=hL.len;omega
def BSm:PB→Prop
 | .nil=>True
 | .node _ _ a .nil n=>kz9 a.value≤801∧BSm n
 | .node _ _ a (.node _ _ _ t e) n=>kz9 a.cond≤801∧BSm t∧BSm e∧BSm n
theorem BSm.app:∀ {a b:PB},BSm a→BSm b→BSm (kz8 a b)
 | .nil,b,_,h=>h
 | .node _ _ a .nil n,b,⟨h1,h2⟩,h=>⟨h1,h2.app h⟩
 | .node _ _ a (.node _ _ _ t e) n,b,⟨h1,h2,h3,h4⟩,h=>⟨h1,h2,h3,h4.app h⟩
theorem vwa {L:List Tok}(hL:pq L){blk:RS→PB × RS}(hup:∀ s,(blk s).2.bad=false→s.bad=false)(hin:∀ s,s.at_<L.length→(blk s).2.bad=false→SIn L s (blk s))(hblk:∀ s,s.at_<L.length→(blk s).2.bad=false→BSm (blk s).1){st:RS}(hl:st.at_<L.length)(h:(rDo blk L st).2.bad=false):BSm (rDo blk L st).1:=by
 have hF:=hL.qxt;unfold rDo at h ⊢;by_cases hi:ql L [105,102] st=true
 ·rw[if_pos hi] at h ⊢;have common:(blk (rX (ji L) 0 .nil L (qg L [105,102] st)).2).2.bad=false→kz9 (rX (ji L) 0 .nil L (qg L [105,102] st)).1≤801∧BSm (blk (rX (ji L) 0 .nil L (qg L [105,102] st)).2).1∧SIn L (rX (ji L) 0 .nil L (qg L [105,102] st)).2 (blk (rX (ji L) 0 .nil L (qg L [105,102] st)).2):=by
   intro hb;have hx:=hup _ hb;obtain ⟨m1,m2,m3⟩:=jo hF hl (kz3 hx);obtain ⟨x1,x2,x3,x4⟩:=kvy hL m3 hx;exact ⟨jxf hL m3 hx,hblk _ x3 hb,hin _ x3 hb⟩
  by_cases he:ql L [101,108,115,101] (blk (rX (ji L) 0 .nil L (qg L [105,102] st)).2).2=true
  ·rw[if_pos he] at h ⊢;simp only at h ⊢;have hm:=hup _ h;obtain ⟨q1,q2,q3⟩:=common (kq7 hm);obtain ⟨e1,e2,e3⟩:=jo hF q3.lt hm;exact ⟨q1,q2,hblk _ e3 h,trivial⟩
  ·rw[if_neg he] at h ⊢;simp only at h ⊢;obtain ⟨q1,q2,q3⟩:=common h;exact ⟨q1,q2,trivial,trivial⟩
 ·rw[if_neg hi] at h ⊢;simp only at h ⊢;have hx:=kq7 h;have hm:=kz3 hx;have hp:=kq7 hm;obtain ⟨p1,p2,p3,p4,p5⟩:=zjd hF hl hp;obtain ⟨m1,m2,m3⟩:=jo hF p4 hm;exact ⟨jxf hL m3 hx,trivial⟩
theorem jky {L:List Tok}(hL:pq L):∀ (f tag:Nat) (st:RS),st.at_<L.length→(rS f tag L st).2.bad=false→BSm (rS f tag L st).1
 | 0,tag,st,hl,h=>trivial
 | f+1,0,st,hl,h=>by
  have hF:=hL.qxt;rw[rS] at h ⊢;simp only at h ⊢;have hb:=kq7 h;obtain ⟨m1,m2,m3⟩:=jo hF hl (kkp hb);exact jky hL f 1 _ m3 hb
 | f+1,t+1,st,hl,h=>by
  rw[rS] at h ⊢;by_cases hc:(ql L [125] st||st.bad)=true
  ·rw[if_pos hc] at h ⊢;exact trivial
  ·rw[if_neg hc] at h ⊢;simp only at h ⊢;have hd:=kkp h;obtain ⟨d1,_⟩:SIn L st (rDo (rS f 0 L) L st)∧qq1 (rDo (rS f 0 L) L st).1=1:=vkg hL (fun s=>kkp) (fun s hs hb=>zk3 hL f 0 s hs hb) hl hd;exact (vwa hL (fun s=>kkp) (fun s hs hb=>zk3 hL f 0 s hs hb) (fun s hs hb=>jky hL f 0 s hs hb) hl hd).app (jky hL f 1 _ d1.lt h)
def qke (r:PRule):Prop:=kz9 r.guard≤801∧BSm r.body
theorem vze {L:List Tok}(hL:pq L)(st:RS)(hl:st.at_<L.length)(h:(kqm L st).2.bad=false):qke (kqm L st).1:=by
 have hF:=hL.qxt;unfold kqm at h ⊢;simp only at h ⊢;have hg:(kyu L st).2.bad=false:=kkp h;have hm:(qg L [105,102] (kyy L st).2).bad=false:=kz3 hg;have hp:(kyy L st).2.bad=false:=kq7 hm;have hk:(qvz L st).2.bad=false:=qx7 hp;obtain ⟨m1,m2,m3⟩:=jo hF hl (kxr hk);obtain ⟨a1,a2,a3,a4,a5⟩:=kj0 hF m3 rfl hk;obtain ⟨p1,p2,p3⟩:=qx8 hF a5 hp;obtain ⟨b1,b2,b3⟩:=jo hF p2 hm;obtain ⟨x1,x2,x3,x4⟩:=kvy hL b3 hg;exact ⟨jxf hL b3 hg,jky hL _ _ _ x3 h⟩
theorem vj5 {L:List Tok}(hL:pq L)(st:RS)(hl:st.at_<L.length)(h:(kqn L st).2.bad=false):qke (kqn L st).1:=by
 have hF:=hL.qxt;unfold kqn at h ⊢;simp only at h ⊢;have hg:(kwf L st).2.bad=false:=kq7 h;have hp:(qjv L st).2.bad=false:=kz3 hg;have hk:(qjw L st).2.bad=false:=qx7 hp;obtain ⟨m1,m2,m3⟩:=jo hF hl (kxr hk);obtain ⟨a1,a2,a3,a4,a5⟩:=kj0 hF m3 rfl hk;obtain ⟨p1,p2,p3⟩:=qx8 hF a5 hp;exact ⟨jxf hL p2 hg,trivial⟩
theorem jqp {α:Type}{L:List Tok}{lit:List UInt8}{one:RS→α × RS}:∀ (f:Nat) (l:List α) (s:RS),(kz1 L lit one (f+1) l s).2.bad=false→s.bad=false→l.length<(kz1 L lit one (f+1) l s).1.length
 | 0,l,s,h,hs=>by
  rw[kz1] at h ⊢;rw[if_neg (by rw[hs];simp)] at h ⊢;split
  ·simp[kz1]
  ·simp
 | f+1,l,s,h,hs=>by
  rw[kz1] at h ⊢;rw[if_neg (by rw[hs];simp)] at h ⊢;by_cases hn:ql L lit (one s).2=true
  ·rw[if_pos hn] at h ⊢;have ho:(one s).2.bad=false:=kj1 fun e=>by rw[kxh e] at h;rw[e] at h;cases h
   have:=jqp f (l++[(one s).1]) (one s).2 h ho;simp at this;omega
  ·rw[if_neg hn];simp
theorem zyp (L:List Tok):∀ (f:Nat) (l:List Tok) (st:RS),l.length≤(kv1 f L l st).1.length
 | 0,l,st=>wW _
 | f+1,l,st=>by
  rw[kv1];split
  ·exact wW _
  ·split
   ·have:=zyp L f (l++[(qh L [110,97,109,101] st).1]) (qg L [44] (qh L [110,97,109,101] st).2);simp at this;omega
   ·simp
theorem vx4 (L:List Tok)(f:Nat)(l:List Tok)(st:RS)(h:st.bad=false):l.length<(kv1 (f+1) L l st).1.length:=by
 rw[kv1,if_neg (by rw[h];simp)];split
 ·have:=zyp L f (l++[(qh L [110,97,109,101] st).1]) (qg L [44] (qh L [110,97,109,101] st).2);simp at this;omega
 ·simp
theorem vjr {L:List Tok}(st:RS)(h:(kjw L st).2.bad=false):0<(kjw L st).1.members.length:=by
 have h1:(kwl L (qh L [110,97,109,101] (qg L [107,105,110,100] st)).2).2.bad=false:=h;unfold kwl at h1;have h2:=kq7 h1;have h3:(qg L [123] (qh L [110,97,109,101] (qg L [107,105,110,100] st)).2).bad=false:=kj1 fun e=>by
  rw[zjz e,e] at h2;cases h2
 have:=vx4 L (L.length+1) [] (qg L [123] (qh L [110,97,109,101] (qg L [107,105,110,100] st)).2) h3;exact this
structure TreeSm (t:PTree):Prop where
 kinds:∀ k∈t.kinds,0<k.members.length
 rules:∀ r∈t.rules,qke r
 nevers:∀ r∈t.nevers,qke r
 vars:0<t.vars.length
theorem vzs {L:List Tok}(hL:pq L)(h:(kqy L).2=none):TreeSm (kqy L).1:=by
 have hb:(kx3 L).2.bad=false:=by
  rw[qwq] at h;cases hb:(kx3 L).2.bad
  ·rfl
  ·rw[hb] at h;simp at h
 have hp:=hL.pos;have hN:=hb;unfold kx3 at hN;rw[kwc] at hN;have hR:(kv6 L).2.bad=false:=kj1 fun e=>by rw[kxt e] at hN;rw[e] at hN;cases hN
 have hR':=hR;unfold kv6 at hR';rw[qqz] at hR';have hV:(kkz L).2.bad=false:=kj1 fun e=>by rw[kxh e] at hR';rw[e] at hR';cases hR'
 have hV':=hV;unfold kkz at hV';rw[qj9] at hV';have hH:(kji L kq3).2.2.bad=false:=kj1 fun e=>by rw[kxh e] at hV';rw[e] at hV';cases hV'
 have hH':=hH;unfold kji at hH';simp only at hH';rw[qqv] at hH';have hS:(kyp (pz L) L [] kq3).2.bad=false:=kj1 fun e=>by rw[kxt e] at hH';rw[e] at hH';cases hH'
 rw[qx5] at hS;obtain ⟨s1,s2,ls,s3,s4,s5⟩:=kwa (P:=fun s=>jjd s.size) (vqv hL) (pz L) [] kq3 hp hS;rw[←qx5] at s2 s3 s5;obtain ⟨k1,k2,lk,k3,k4,k5⟩:=kwa (P:=fun k:PKind=>0<k.members.length) (fun s hs hg=>by obtain ⟨q1,_,q3,q4⟩:=jqt hL s hs hg;exact ⟨q1,vjr s hg,q3,q4⟩) (pz L) [] _ s2 hH';rw[←qqv] at k2 k3 k5;obtain ⟨v1,v2,lv,v3,v4,v5⟩:=qzu (P:=qyi) (jyl hL) (pz L) [] (kji L kq3).2.2 k2 hV';have vne:0<(qyx (pz L) L [] (kji L kq3).2.2).1.length:=by
  rw[qj9];obtain ⟨f,hf⟩:∃ f,pz L=f+1:=⟨pz L-1,by unfold pz;omega⟩;rw[hf] at hV' ⊢;have:=jqp f [] (kji L kq3).2.2 hV' hH;simpa using this
 rw[←qj9] at v2 v3 v5;obtain ⟨r1,r2,lr,r3,r4,r5⟩:=qzu (P:=qke) (fun s hs hg=>by obtain ⟨q1,_,q3,q4⟩:=jkz hL s hs hg;exact ⟨q1,vze hL s hs hg,q3,q4⟩) (pz L) [] (kkz L).2 v2 hR';rw[←qqz] at r2 r3 r5;obtain ⟨n1,n2,ln,n3,n4,n5⟩:=kwa (P:=qke) (fun s hs hg=>by obtain ⟨q1,_,q3,q4⟩:=jq4 hL s hs hg;exact ⟨q1,vj5 hL s hs hg,q3,q4⟩) (pz L) [] (kv6 L).2 r2 hN;rw[←kwc] at n2 n3 n5;have ev:(kqy L).1.vars=(qyx (pz L) L [] (kji L kq3).2.2).1:=rfl;have er:(kqy L).1.rules=lr:=by show (kw5 (pz L) L [] (kkz L).2).1=lr;rw[r3];rfl
 have en:(kqy L).1.nevers=ln:=by show (kvc (pz L) L [] (kv6 L).2).1=ln;rw[n3];rfl
 have ek:(kqy L).1.kinds=lk:=by show (qkv (pz L) L [] (kyp (pz L) L [] kq3).2).1=lk;rw[k3];rfl
 exact ⟨by rw[ek];exact k4,by rw[er];exact r4,by rw[en];exact n4,by rw[ev];exact vne⟩
theorem kk9 {α:Type}{g:Nat→α→List Tok}{l:List α}{k:Nat}(h:jl g l k=[])(i:Nat)(hi:i<l.length):g (k+i) l[i]=[]:=by
 apply List.eq_nil_iff_forall_not_mem.mpr;intro y hy;have:=(je (g:=g) (y:=y) l k).mpr ⟨i,hi,hy⟩;rw[h] at this;cases this
theorem kxn {c:Bool}{t:Tok}(h:kqz c t=[]):c=false:=by
 cases c
 ·rfl
 ·cases h
structure MdBnd (m:MdL):Prop where
 sets:m.sets.length≤2
 size:∀ s∈m.sets,2≤gu s.size.text∧gu s.size.text≤3
 kinds:m.kinds.length≤2
 mems:∀ k∈m.kinds,k.members.length≤4
 vars:m.vars.length≤4
 top:∀ v∈m.vars,v.si.form=1→1≤gu v.si.top.text∧gu v.si.top.text≤3
 rules:m.rules.length≤5
 nevers:m.nevers.length≤3
 pars:∀ r∈m.rules++m.nevers,r.params.length≤2
theorem qkc {α:Type}{l:List α}{n:Nat}(h:∀ i,i<l.length→decide ((n:Int)≤i)=false):l.length≤n:=by
 apply sJ;intro hc;have:=h n (by omega);simp at this
theorem vvc {m:MdL}(h:kvq m<0):MdBnd m:=by
 rw[jzw] at h;have e:=zjl h;rw[lG,lG,lG,lG] at e;obtain ⟨⟨⟨⟨e1,e2⟩,e3⟩,e4⟩,e5⟩:=e;have f1:=fun i hi=>lG.mp (kk9 e1 i hi)
 have f2:=fun i hi=>lG.mp (kk9 e2 i hi)
 have f3:=fun i hi=>lG.mp (kk9 e3 i hi)
 have f4:=fun i hi=>lG.mp (kk9 e4 i hi)
 have f5:=fun i hi=>lG.mp (kk9 e5 i hi)
 have par:∀ l:List PP,jl qP l 0=[]→l.length≤2:=fun l hl=>qkc (n:=2) fun i hi=>by
  have:=kxn (kk9 hl i hi);simpa using this
 refine ⟨qkc (n:=2) fun i hi=>by simpa using kxn (f1 i hi).1,fun s hs=>?_,qkc (n:=2) fun i hi=>by simpa using kxn (f2 i hi).1,fun k hk=>?_,qkc (n:=4) fun i hi=>by simpa using kxn (f3 i hi).1,fun v hv hf=>?_,qkc (n:=5) fun i hi=>by simpa using kxn (f4 i hi).1,qkc (n:=3) fun i hi=>by simpa using kxn (f5 i hi).1,fun r hr=>?_⟩
 ·obtain ⟨i,hi,rfl⟩:=sZ hs;have:=kxn (f1 i hi).2;unfold vxy at this;rw[decide_eq_false_iff_not] at this;omega
 ·obtain ⟨i,hi,rfl⟩:=sZ hk;exact qkc (n:=4) fun j hj=>by
   have:=kxn (kk9 (f2 i hi).2 j hj);simpa using this
 ·obtain ⟨i,hi,rfl⟩:=sZ hv;have:=kxn (f3 i hi).2;rw[hf] at this;unfold vxy at this;have h2:¬(gu m.vars[i].si.top.text<1∨3<gu m.vars[i].si.top.text):=by simpa using this
  omega
 ·rcases rM.mp hr with hr|hr
  ·obtain ⟨i,hi,rfl⟩:=sZ hr;exact par _ (f4 i hi).2
  ·obtain ⟨i,hi,rfl⟩:=sZ hr;exact par _ (f5 i hi).2
structure Right (t:PTree):Prop where
 bnd:MdBnd (jq t)
 fine:NamesFine t
 typ:kwr (zx (jq t)) (jq t)=true
 good:∃ L,qzo L t∧pq L
 sm:TreeSm t
theorem vqp {s:ByteArray}(h:(ky4 s).1=0):Right (kqy (gq s).1).1:=by
 unfold ky4 at h;split at h
 ·cases h
 ·rename_i hsz;split at h
  ·cases h
  ·rename_i hk;split at h
   ·cases h
   ·rename_i hk2;have hL:pq (gq s).1:=zj7 s (by omega) hk;have tg:=tree_good hL hk2;unfold qxn at h;split at h
    ·cases h
    ·rename_i hm;split at h
     ·cases h
     ·rename_i hw;split at h
      ·rename_i ht;refine ⟨vvc (by omega),jzt ?_,ht,⟨_,tg,hL⟩,vzs hL hk2⟩;rw[←jjb tg.vars tg.rules tg.nevers (vq0 (tg.pw hL))];omega
      ·cases h
def qz8:List (Tok × Mean)→uq→Option uq
 | [],t=>some t
 | x::l,t=>(qwx t x.1.text x.2).bind fun t'=>qz8 l t'
theorem zjk:∀ (a b:List (Tok × Mean)) (t:uq),qz8 (a++b) t=(qz8 a t).bind fun t'=>qz8 b t'
 | [],b,t=>rfl
 | x::a,b,t=>by
  show (qwx t x.1.text x.2).bind (fun t'=>qz8 (a++b) t')=((qwx t x.1.text x.2).bind fun t'=>qz8 a t').bind fun t'=>qz8 b t'
  cases qwx t x.1.text x.2 with
  | none=>rfl
  | some t'=>exact zjk a b t'
theorem jkp:∀ (l:List (Tok × Mean)) (t:uq),(t.map (fun x=>x.1.toList)++l.map (fun x=>x.1.text.toList)).Nodup→(∀ x∈l,x.1.text.size≤1000)→qz8 l t=some (t++l.map (fun x=>(x.1.text,x.2)))
 | [],t,_,_=>by simp[qz8]
 | x::l,t,hn,hs=>by
  have hp:qwx t x.1.text x.2=some (t++[(x.1.text,x.2)]):=by
   unfold qwx;rw[if_neg];rw[lg,not_or,QY,nU];refine ⟨fun ⟨y,hy,e⟩=>?_,by have:=hs x (rG ..);omega⟩;rw[wP] at e;rw[Ju] at hn;exact hn.2.2 _ (tC (f:=fun x:ByteArray × Mean=>x.1.toList) hy) x.1.text.toList (by simp) e
  rw[qz8,hp];show qz8 l (t++[(x.1.text,x.2)])=_;rw[jkp l _ (by simpa using hn) (fun y hy=>hs y (rU _ hy))];simp
def zw3:List Tok→Nat→List (Tok × Mean)
 | [],_=>[]
 | x::l,i=>(x,⟨false,i⟩)::zw3 l (i+1)
def zwo:List VrT→Nat→List (Tok × Mean)
 | [],_=>[]
 | v::l,i=>(v.name,⟨true,i⟩)::zwo l (i+1)
theorem jq9:∀ (l:List Tok) (i:Nat) (t:uq),zjo l i t=qz8 (zw3 l i) t
 | [],i,t=>rfl
 | x::l,i,t=>by
  show (qwx t x.text ⟨false,i⟩).bind (fun t'=>zjo l (i+1) t')=(qwx t x.text ⟨false,i⟩).bind fun t'=>qz8 (zw3 l (i+1)) t'
  congr 1
  funext t'
  exact jq9 l (i+1) t'
theorem zkr:∀ (l:List PKind) (t:uq),qjp l t=qz8 (l.flatMap fun k=>zw3 k.members 0) t
 | [],t=>rfl
 | k::l,t=>by
  rw[qjp,lU,zjk,jq9];congr 1
  funext t'
  exact zkr l t'
theorem zkd:∀ (l:List Tok) (i:Nat),(zw3 l i).map (·.1)=l
 | [],i=>rfl
 | x::l,i=>by rw[zw3,lC,zkd l (i+1)]
theorem zxh:∀ (l:List VrT) (i:Nat),(zwo l i).map (·.1)=l.map (·.name)
 | [],i=>rfl
 | v::l,i=>by rw[zwo,lC,zxh l (i+1)];rfl
theorem jks:∀ (l:List Tok) (i:Nat) (j:Nat) (h:j<l.length),(l[j],(⟨false,i+j⟩:Mean))∈zw3 l i
 | x::l,i,0,_=>rG ..
 | x::l,i,j+1,h=>by
  rw[zw3];have:=jks l (i+1) j (by simpa using h);rw[show i+(j+1)=i+1+j by omega];exact rU _ this
theorem zxt:∀ (l:List VrT) (i:Nat) (j:Nat) (h:j<l.length),(l[j].name,(⟨true,i+j⟩:Mean))∈zwo l i
 | x::l,i,0,_=>rG ..
 | x::l,i,j+1,h=>by
  rw[zwo];have:=zxt l (i+1) j (by simpa using h);rw[show i+(j+1)=i+1+j by omega];exact rU _ this
def qjs (m:MdL):List (Tok × Mean):=(m.kinds.flatMap fun k=>zw3 k.members 0)++zwo m.vars 0
def kx2 (m:MdL):uq:=(qjs m).map fun x=>(x.1.text,x.2)
end Go.Proofs.YtpmcnonmkghokaaGreatDoor
