import Derived.Test.YtpmcnonmkghokaaGreatDoorT30
import Derived.Test.YtpmcnonmkghokaaGreatDoorT25
import Derived.Test.YtpmcnonmkghokaaGreatDoorT27
set_option maxRecDepth 100000
set_option maxHeartbeats 8000000
set_option linter.unusedVariables false
set_option linter.unusedSimpArgs false
namespace Go.Proofs.YtpmcnonmkghokaaGreatDoor
open Go.RowKit
theorem qkz {α:Type}(o:Nat × Nat × Nat)(L:List α)(tx:α→ByteArray)(tS:α→α)(p p':α→Bool)(hperm:(L.map tS).Perm L)(htx:∀ s∈L,(tx (tS s)).toList=kzi o (tx s).toList)(hp:∀ s∈L,p s=p' (tS s))(hn:(L.map fun s=>(tx s).toList).Nodup):kvh o ((L.filter p).map tx) ((L.filter p').map tx)=true:=by
 unfold kvh;rw[wY,wP,sG,sG,nX];constructor
 ·have h1:(L.filter p).length=((L.map tS).filter p').length:=by
   rw[List.filter_map,sG];congr 1
   exact List.filter_congr fun s hs=>hp s hs
  rw[h1];exact (hperm.filter p').length_eq
 ·intro x hx;obtain ⟨s,hs,rfl⟩:=sV.mp hx;obtain ⟨hs1,hs2⟩:=Jq.mp hs;have hm:tS s∈L:=hperm.mem_iff.mp (tC hs1);have hq:p' (tS s)=true:=by rw[←hp s hs1];exact hs2
  rw[wP,←htx s hs1];unfold qz0;rw[List.filter_map,sG];have key:∀ (M:List α),(M.map fun s=>(tx s).toList).Nodup→tS s∈M→(((M.filter p').filter ((fun y:ByteArray=>y.toList==(tx (tS s)).toList) ∘ tx))).length=1:=by
   intro M;induction M with
   | nil=>intro _ h;cases h
   | cons a M ih=>
    intro hn hm;rw[lC,Qo] at hn;have hno:∀ y∈M,(tx y).toList≠(tx a).toList:=fun y hy e=>hn.1 (by rw[←e];exact tC (f:=fun s=>(tx s).toList) hy)
    by_cases ha:(tx a).toList=(tx (tS s)).toList
    ·have hz:((M.filter p').filter ((fun y:ByteArray=>y.toList==(tx (tS s)).toList) ∘ tx))=[]:=by
      rw[List.filter_eq_nil_iff];intro y hy hh;have hh:((tx y).toList==(tx (tS s)).toList)=true:=hh;rw[wP] at hh;exact hno y (Jq.mp hy).1 (hh.trans ha.symm)
     have hpa:p' a=true:=by
      rcases tK.mp hm with rfl|hm
      ·exact hq
      ·exact absurd ha.symm (hno _ hm)
     rw[Qg,if_pos hpa,Qg,if_pos (show (((fun y:ByteArray=>y.toList==(tx (tS s)).toList) ∘ tx) a)=true from by show ((tx a).toList==(tx (tS s)).toList)=true;rw[ha];simp),sU,hz];rfl
    ·have hm':tS s∈M:=by
      rcases tK.mp hm with rfl|hm
      ·exact absurd rfl ha
      ·exact hm
     have ih':=ih hn.2 hm';rw[Qg];split
     ·rw[Qg,if_neg (show ¬(((fun y:ByteArray=>y.toList==(tx (tS s)).toList) ∘ tx) a)=true from by show ¬((tx a).toList==(tx (tS s)).toList)=true;rw[wP];exact ha)];exact ih'
     ·exact ih'
  exact key L hn hm
def tSt (o:Nat × Nat × Nat)(s:MStep):MStep:={ s with text:=⟨(kzi o s.text.toList).toArray⟩,mems:=msT (kwv o) s.mems }
def tNv (o:Nat × Nat × Nat)(s:MNever):MNever:={ s with text:=⟨(kzi o s.text.toList).toArray⟩,mems:=msT (kwv o) s.mems }
def vxv:List (Nat × Nat × Nat):=[(0,1,2),(0,2,1),(1,0,2),(1,2,0),(2,0,1),(2,1,0)]
theorem zyn {o:Nat × Nat × Nat}(h:kka o):o∈vxv:=by
 rcases h with rfl|rfl|rfl|rfl|rfl|rfl<;>simp[vxv]
theorem zw5:∀ o∈vxv,∀ c:Fin 4,∀ two:Bool,∀ z∈chG two,kzi o (kzy ⟨#[(97+c.val).toUInt8]⟩ z).toList=(kzy ⟨#[(97+c.val).toUInt8]⟩ (msT (kwv o) z)).toList:=by decide +kernel
theorem jj5:∀ o∈vxv,∀ two:Bool,((chG two).map (msT (kwv o))).isPerm (chG two)=true:=by decide +kernel
theorem zxk:((chG false).map fun z=>(kzy ⟨#[100]⟩ z).toList).Nodup:=by decide +kernel
theorem jv6 {o:Nat × Nat × Nat}(h:kka o)(two:Bool):((chG two).map (msT (kwv o))).Perm (chG two):=List.isPerm_iff.mp (jj5 o (zyn h) two)
theorem jqn {o:Nat × Nat × Nat}(h:kka o){c:Nat}(hc:c<4){two:Bool}{z:List Int}(hz:z∈chG two):kzi o (kzy ⟨#[(97+c).toUInt8]⟩ z).toList=(kzy ⟨#[(97+c).toUInt8]⟩ (msT (kwv o) z)).toList:=zw5 o (zyn h) ⟨c,hc⟩ two z hz
theorem zqi {o:Nat × Nat × Nat}(h:kka o){c:Nat}(hc:c<4)(r:RC)(d:Nat):((stR c r d).map (tSt o)).Perm (stR c r d):=by
 unfold stR;rw[fZ];have e:(chG r.two).map (tSt o ∘ kk7 (kjk c r d))=((chG r.two).map (msT (kwv o))).map (kk7 (kjk c r d)):=by
  rw[fZ];refine J4 fun z hz=>?_
  show tSt o (kk7 (kjk c r d) z)=kk7 (kjk c r d) (msT (kwv o) z);unfold tSt kk7;have:=jqn h hc hz;rw[show (kjk c r d).name.text=⟨#[(97+c).toUInt8]⟩ from rfl,this];rw[←byte_back]
 rw[e];exact (jv6 h r.two).map _
theorem zy4 {o:Nat × Nat × Nat}(h:kka o)(r0 r1 r2:RC):((stG r0 r1 r2).map (tSt o)).Perm (stG r0 r1 r2):=by
 unfold stG;rw[ng,ng];exact ((zqi h (by decide) r0 53).append (zqi h (by decide) r1 _)).append (zqi h (by decide) r2 _)
theorem jq0 {o:Nat × Nat × Nat}(h:kka o)(r0 r1 r2:RC)(g1 g2:GC):((nvG r0 r1 r2 g1 g2).map (tNv o)).Perm (nvG r0 r1 r2 g1 g2):=by
 unfold nvG;rw[fZ];have e:(chG false).map (tNv o ∘ kzm (qqb g1 g2 (kqd r0 r1 r2)))=((chG false).map (msT (kwv o))).map (kzm (qqb g1 g2 (kqd r0 r1 r2))):=by
  rw[fZ];refine J4 fun z hz=>?_
  show tNv o (kzm (qqb g1 g2 (kqd r0 r1 r2)) z)=kzm (qqb g1 g2 (kqd r0 r1 r2)) (msT (kwv o) z);unfold tNv kzm;have:=jqn h (c:=3) (by decide) hz;rw[show (qqb g1 g2 (kqd r0 r1 r2)).name.text=⟨#[(97+3).toUInt8]⟩ from rfl,this];rw[←byte_back]
 rw[e];exact (jv6 h false).map _
theorem jw8 (r0 r1 r2:RC)(g1 g2:GC):((nvG r0 r1 r2 g1 g2).map fun s=>s.text.toList).Nodup:=by
 unfold nvG;rw[fZ];exact zxk
end Go.Proofs.YtpmcnonmkghokaaGreatDoor
namespace Go.Proofs.YtpmcnonmkghokaaGreatDoor
open Go.RowKit
def jj8 (a:Mach)(st:List Int)(s:MNever):Bool:=match zxg a.vars a.tab s.params s.mems st s.expr with|some c=>c|none=>false
theorem vjm {tab:Tab}{kz sz:List UInt8→Nat}{a:Mach}{st:List Int}(h:MachGood tab kz sz a)(hs:kqp a.vars a.size st):∀ (l:List MNever),(∀ s∈l,s∈a.nevers)→∀ br,lbO a.vars a.tab st l br=some (br++(l.filter (jj8 a st)).map (·.text))
 | [],_,br=>by rw[lbO];simp
 | s::l,hl,br=>by
  obtain ⟨c,hc⟩:=zwv h.env hs s (h.nevers s (hl s (rG ..)));have e:jj8 a st s=c:=by unfold jj8;rw[hc]
  have ih:=vjm h hs l (fun x hx=>hl x (rU _ hx));rw[lbO,hc];show (if c then lbO a.vars a.tab st l (br++[s.text]) else lbO a.vars a.tab st l br)=_;rw[Qg,e];cases c
  ·rw[if_neg (by simp),if_neg (by simp)];exact ih br
  ·rw[if_pos rfl,if_pos rfl,ih];simp
structure kze (s:ByteArray)(a:Mach)(r0 r1 r2:RC)(g1 g2:GC):Prop where
 chk:(ky4 s).1=0
 vvm:qvd s=some a
 of_:MachOf (kk0 r0 r1 r2 g1 g2) a
 vars:a.vars=kxj
 tab:a.tab=gTab
 size:a.size=7
 steps:a.steps=stG r0 r1 r2
 nevers:a.nevers=nvG r0 r1 r2 g1 g2
theorem vxl {r0 r1 r2:RC}{g1 g2:GC}(h0:r0.fit)(h1:r1.fit)(h2:r2.fit)(hg1:g1.one)(hg2:g2.one)(hb:r0.b.length≤3∧r1.b.length≤3∧r2.b.length≤3):∃ a,kze ⟨(kve r0 r1 r2 g1 g2).toArray⟩ a r0 r1 r2 g1 g2:=by
 obtain ⟨e1,e2⟩:=jxj h0 h1 h2 hg1 hg2 hb;have hc:(ky4 ⟨(kve r0 r1 r2 g1 g2).toArray⟩).1=0:=by rw[e1]
 obtain ⟨a,ha,hM⟩:=vxp hc;rw[e2] at hM;obtain ⟨k1,k2,k3,k4,k5⟩:=jwd e2 ha;exact ⟨a,hc,ha,hM,k1,k2,k3,k4,k5⟩
variable {s:ByteArray} {a:Mach} {r0 r1 r2:RC} {g1 g2:GC} {o:Nat × Nat × Nat} {st st':List Int}
theorem kze.tau (h:kze s a r0 r1 r2 g1 g2)(ho:kka o):TauOk (ssz (jq (kk0 r0 r1 r2 g1 g2))) (kwv o):=
 vv3 ho (fun x=>by rcases zy5 r0 r1 r2 g1 g2 x with e|e<;>omega) (zy5 r0 r1 r2 g1 g2)
theorem kze.env (h:kze s a r0 r1 r2 g1 g2):TurnEnv (zx (jq (kk0 r0 r1 r2 g1 g2))) a.vars a.tab (ssz (jq (kk0 r0 r1 r2 g1 g2))) arG svG:=by
 rw[qzh,h.vars,h.tab];exact vz2 _ _ _ _ _ _ _ _ _
theorem zvy {s':MStep}(hs:s'∈stG r0 r1 r2):∃ two e1 e2 e3 e4,s'.params=qqg two e1 e2 e3 e4:=by
 unfold stG stR at hs;rcases rM.mp hs with hs|hs
 ·rcases rM.mp hs with hs|hs
  ·obtain ⟨z,_,rfl⟩:=sV.mp hs;exact ⟨_,_,_,_,_,zqx r0.two 53⟩
  ·obtain ⟨z,_,rfl⟩:=sV.mp hs;exact ⟨_,_,_,_,_,zqx r1.two _⟩
 ·obtain ⟨z,_,rfl⟩:=sV.mp hs;exact ⟨_,_,_,_,_,zqx r2.two _⟩
theorem kze.out (h:kze s a r0 r1 r2 g1 g2)(ho:kka o)(hs:kqp a.vars a.size st)(hs':kqp a.vars a.size st')(hT:kjg (kwv o) arG svG a.vars st st'){x:MStep}(hx:x∈a.steps):tSt o x∈a.steps∧qjz a st x=qjz a st' (tSt o x)∧∀ q q',jw5 a st x=some q→jw5 a st' (tSt o x)=some q'→q.2=1→kjg (kwv o) arG svG a.vars q.1 q'.1:=by
 have hg:=h.of_.good;have hm:tSt o x∈a.steps:=by
  rw[h.steps];refine (zy4 ho r0 r1 r2).mem_iff.mp (tC ?_);rw[←h.steps];exact hx
 obtain ⟨q,k1,k2,_⟩:=out_ok hg hs hx;obtain ⟨q',k3,k4,_⟩:=out_ok hg hs' hm;obtain ⟨two,e1,e2,e3,e4,ep⟩:=zvy (s':=x) (by rw[←h.steps];exact hx);have hpar:ParOk (ssz (jq (kk0 r0 r1 r2 g1 g2))) x.params (msT (kwv o) x.mems):=(hg.steps _ hm).par;have hfree:∀ y,fpB x.params y=true→(qo (zx (jq (kk0 r0 r1 r2 g1 g2))) y).role≠4:=fun y hy=>by
  rw[qzh];rw[ep] at hy;exact vqi _ _ _ _ two e1 e2 e3 e4 y hy
 obtain ⟨f1,f2⟩:=jy3 hg.env (h.tau ho) h.env hg.disj hs hs' hT x (hg.steps x hx) hpar hfree (show kv7 a.vars a.tab x.params x.mems st x.guard x.block=some q from k1) (show kv7 a.vars a.tab x.params (msT (kwv o) x.mems) st' x.guard x.block=some q' from k3);refine ⟨hm,by rw[k2,k4,f1],fun p p' h1 h2 h3=>?_⟩;rw[k1] at h1;injection h1 with h1;subst h1;rw[k3] at h2;injection h2 with h2;subst h2;exact f2 h3
theorem kze.brk (h:kze s a r0 r1 r2 g1 g2)(ho:kka o)(hs:kqp a.vars a.size st)(hs':kqp a.vars a.size st')(hT:kjg (kwv o) arG svG a.vars st st'){x:MNever}(hx:x∈a.nevers):jj8 a st x=jj8 a st' (tNv o x):=by
 have hg:=h.of_.good;have hm:tNv o x∈a.nevers:=by
  rw[h.nevers];refine (jq0 ho r0 r1 r2 g1 g2).mem_iff.mp (tC ?_);rw[←h.nevers];exact hx
 obtain ⟨c,hc⟩:=zwv hg.env hs x (hg.nevers x hx);obtain ⟨c',hc'⟩:=zwv hg.env hs' (tNv o x) (hg.nevers _ hm);have e:=vzq hg.env (h.tau ho) h.env hs hT x (hg.nevers x hx) hc hc';unfold jj8;rw[hc,hc',e]
theorem kze.views (h:kze s a r0 r1 r2 g1 g2)(ho:kka o)(hs:kqp a.vars a.size st)(hs':kqp a.vars a.size st')(hT:kjg (kwv o) arG svG a.vars st st'):∃ v v',lookO a st=some v∧lookO a st'=some v'∧kvh o v.enabled v'.enabled=true∧kvh o v.wrong v'.wrong=true∧kvh o v.broken v'.broken=true ∧
  (∀ t∈v.enabled,∃ x∈a.steps,x.text=t∧qjz a st x=1)∧qjt a.vars st=some v.text.data.toList∧qjt a.vars st'=some v'.text.data.toList∧(v.enabled.length≤45∧v.wrong.length≤45∧v.broken.length≤45)∧(v'.enabled.length≤45∧v'.wrong.length≤45∧v'.broken.length≤45):=by
 have hg:=h.of_.good;have hfew:=h.of_.few;have hnv:a.nevers.length≤45:=by rw[h.nevers];show 3≤45;omega
 have make:∀ st,kqp a.vars a.size st→∃ v,lookO a st=some v∧v.enabled=(a.steps.filter fun s=>qjz a st s==1).map (·.text)∧v.wrong=(a.steps.filter fun s=>!(qjz a st s==1)&&qjz a st s==2).map (·.text)∧v.broken=(a.nevers.filter (jj8 a st)).map (·.text)∧qjt a.vars st=some v.text.data.toList:=by
  intro st hs;obtain ⟨t,h1⟩:=jk2 hg hs;have h2:=vjc hg hs a.steps (fun _ hx=>hx) [] [];have h3:=vjm hg hs a.nevers (fun _ hx=>hx) [];unfold lookO;rw[h1,h2,h3];refine ⟨_,rfl,rfl,rfl,rfl,?_⟩;show some t=some (t.toArray.toList);simp
 obtain ⟨v,v1,v2,v3,v4,v5⟩:=make st hs;obtain ⟨u,u1,u2,u3,u4,u5⟩:=make st' hs';have htx:∀ x∈a.steps,((tSt o x).text).toList=kzi o x.text.toList:=fun x _=>qqe _
 have hpm:(a.steps.map (tSt o)).Perm a.steps:=by rw[h.steps];exact zy4 ho r0 r1 r2
 refine ⟨v,u,v1,u1,?_,?_,?_,?_,v5,u5,?_,?_⟩
 ·rw[v2,u2];exact qkz o a.steps (·.text) (tSt o) _ _ hpm htx (fun x hx=>by rw[(h.out ho hs hs' hT hx).2.1]) hg.nodup
 ·rw[v3,u3];exact qkz o a.steps (·.text) (tSt o) _ _ hpm htx (fun x hx=>by rw[(h.out ho hs hs' hT hx).2.1]) hg.nodup
 ·rw[v4,u4];exact qkz o a.nevers (·.text) (tNv o) _ _ (by rw[h.nevers];exact jq0 ho r0 r1 r2 g1 g2) (fun x _=>qqe _) (fun x hx=>h.brk ho hs hs' hT hx) (by rw[h.nevers];exact jw8 r0 r1 r2 g1 g2)
 ·intro t ht;rw[v2] at ht;obtain ⟨x,hx,rfl⟩:=sV.mp ht;obtain ⟨hx1,hx2⟩:=Jq.mp hx;exact ⟨x,hx1,rfl,by simpa using hx2⟩
 ·rw[v2,v3,v4,sG,sG,sG];exact ⟨rV (Qu _ _) hfew,rV (Qu _ _) hfew,rV (Qu _ _) hnv⟩
 ·rw[u2,u3,u4,sG,sG,sG];exact ⟨rV (Qu _ _) hfew,rV (Qu _ _) hfew,rV (Qu _ _) hnv⟩
theorem kze.next (h:kze s a r0 r1 r2 g1 g2)(ho:kka o)(hs:kqp a.vars a.size st)(hs':kqp a.vars a.size st')(hT:kjg (kwv o) arG svG a.vars st st'){l l':List ByteArray}{st0:List Int}(hr:qz6 a l st0=some st)(hr':qz6 a l' st0=some st'){x:MStep}(hx:x∈a.steps)(hout:qjz a st x=1) :
  ∃ q q',qz6 a (l++[x.text]) st0=some q∧qz6 a (l'++[⟨(kzi o x.text.toList).toArray⟩]) st0=some q'∧kqp a.vars a.size q∧kqp a.vars a.size q'∧kjg (kwv o) arG svG a.vars q q':=by
 have hg:=h.of_.good;obtain ⟨hm,e,hq⟩:=h.out ho hs hs' hT hx;obtain ⟨p,k1,k2,k3⟩:=out_ok hg hs hx;obtain ⟨p',k4,k5,k6⟩:=out_ok hg hs' hm;have e1:p.2=1:=by rw[←k2];exact hout
 have e2:p'.2=1:=by rw[←k5,←e];exact hout
 have run:∀ {st:List Int} (hs:kqp a.vars a.size st) {y:MStep} (hy:y∈a.steps) {p:List Int × Int},jw5 a st y=some p→p.2=1→qjm a.vars a.tab st y.text.toList a.steps=some (p.1,true):=by
  intro st hs y hy p k1 e1;have go:∀ (L:List MStep),(L.map fun s=>s.text.toList).Nodup→y∈L→qjm a.vars a.tab st y.text.toList L=some (p.1,true):=by
   intro L;induction L with
   | nil=>intro _ h;cases h
   | cons z L ih=>
    intro hn hm;rw[lC,Qo] at hn;rcases tK.mp hm with rfl|hm
    ·rw[qjm,if_pos (by simp),show kv7 a.vars a.tab y.params y.mems st y.guard y.block=some p from k1];show some (p.1,p.2==1)=_;rw[e1];rfl
    ·rw[qjm,if_neg]
     ·exact ih hn.2 hm
     ·intro ee;rw[wP] at ee;exact hn.1 (by rw[ee];exact tC (f:=fun s:MStep=>s.text.toList) hm)
  exact go a.steps hg.nodup hy
 refine ⟨p.1,p'.1,?_,?_,k3 e1,k6 e2,hq p p' k1 k4 e1⟩
 ·rw[zj4 a x.text l _ st hr,run hs hx k1 e1];rfl
 ·have:=run hs' hm k4 e2;rw[zj4 a _ l' _ st' hr'];rw[show (⟨(kzi o x.text.toList).toArray⟩:ByteArray)=(tSt o x).text from rfl,this];rfl
end Go.Proofs.YtpmcnonmkghokaaGreatDoor
namespace Go.Proofs.YtpmcnonmkghokaaGreatDoor
open Go.RowKit
def nB (x:Int):UInt8:=(48+x.toNat).toUInt8
def mB (x:Int):UInt8:=if x=0 then 45 else (47+x.toNat).toUInt8
def gTx (a b c d e f g:UInt8):List UInt8:=[91,a,32,b,32,c,93,32,91,d,32,e,32,f,93,32,g]
theorem jye {st:List Int}{i:Nat}{x:Int}(h:st[i]?=some x)(h0:0≤x)(h1:x<3):qje ⟨0,3,dTx,0,-1⟩ st i=some ⟨#[nB x]⟩:=by
 unfold qje;rw[h];rcases (show x=0∨x=1∨x=2 by omega) with rfl|rfl|rfl<;>rfl
theorem jk0 {st:List Int}{i k c:Nat}{q r:Int}{x:Int}(h:st[i]?=some x)(h0:0≤x)(h1:x<4):qje ⟨k,c,⟨#[45]⟩::dTx,q,r⟩ st i=some ⟨#[mB x]⟩:=by
 unfold qje;rw[h];rcases (show x=0∨x=1∨x=2∨x=3 by omega) with rfl|rfl|rfl|rfl<;>rfl
theorem vy2 {v:MVar}{st:List Int}{x y z:UInt8}(h0:qje v st (v.first+0)=some ⟨#[x]⟩)(h1:qje v st (v.first+1)=some ⟨#[y]⟩)(h2:qje v st (v.first+2)=some ⟨#[z]⟩):qj0 v st 3=some [x,32,y,32,z]:=by
 have a1:qj0 v st 1=some [x]:=by rw[qj0,qj0];show (qje v st (v.first+0)).bind _=_;rw[h0];rfl
 have a2:qj0 v st 2=some [x,32,y]:=by rw[qj0,a1];show (qje v st (v.first+1)).bind _=_;rw[h1];rfl
 rw[qj0,a2];show (qje v st (v.first+2)).bind _=_;rw[h2];rfl
theorem zxa {a b c d e f g:Int}(ha:0≤a∧a<3)(hb:0≤b∧b<3)(hc:0≤c∧c<3)(hd:0≤d∧d<4)(he:0≤e∧e<4)(hf:0≤f∧f<4)(hg:0≤g∧g<4):qjt kxj [a,b,c,d,e,f,g]=some (gTx (nB a) (nB b) (nB c) (mB d) (mB e) (mB f) (mB g)):=by
 have w0:qxc ⟨0,3,dTx,0,-1⟩ [a,b,c,d,e,f,g]=some [91,nB a,32,nB b,32,nB c,93]:=by
  unfold qxc;rw[if_neg (by decide)];show (qj0 _ _ 3).map _=_;rw[vy2 (jye rfl ha.1 ha.2) (jye rfl hb.1 hb.2) (jye rfl hc.1 hc.2)];rfl
 have w1:qxc ⟨3,3,⟨#[45]⟩::dTx,0,0⟩ [a,b,c,d,e,f,g]=some [91,mB d,32,mB e,32,mB f,93]:=by
  unfold qxc;rw[if_neg (by decide)];show (qj0 _ _ 3).map _=_;rw[vy2 (jk0 rfl hd.1 hd.2) (jk0 rfl he.1 he.2) (jk0 rfl hf.1 hf.2)];rfl
 have w2:qxc ⟨6,1,⟨#[45]⟩::dTx,-1,0⟩ [a,b,c,d,e,f,g]=some [mB g]:=by
  unfold qxc;rw[if_pos (by decide),jk0 rfl hg.1 hg.2];rfl
 have v1:qjo kxj [a,b,c,d,e,f,g] 1=some [91,nB a,32,nB b,32,nB c,93]:=by
  rw[qjo,qjo];show (qxc ⟨0,3,dTx,0,-1⟩ [a,b,c,d,e,f,g]).bind _=_;rw[w0];rfl
 have v2:qjo kxj [a,b,c,d,e,f,g] 2=some [91,nB a,32,nB b,32,nB c,93,32,91,mB d,32,mB e,32,mB f,93]:=by
  rw[qjo,v1];show (qxc ⟨3,3,⟨#[45]⟩::dTx,0,0⟩ [a,b,c,d,e,f,g]).bind _=_;rw[w1];rfl
 have v3:qjo kxj [a,b,c,d,e,f,g] 3=some (gTx (nB a) (nB b) (nB c) (mB d) (mB e) (mB f) (mB g)):=by
  rw[qjo,v2];show (qxc ⟨6,1,⟨#[45]⟩::dTx,-1,0⟩ [a,b,c,d,e,f,g]).bind _=_;rw[w2];rfl
 unfold qjt;rw[show kxj.length=3 from rfl,v3];rfl
theorem vwl {st:List Int}(h:st.length=7):∃ a b c d e f g,st=[a,b,c,d,e,f,g]:=by
 match st,h with
 | [a,b,c,d,e,f,g],_=>exact ⟨a,b,c,d,e,f,g,rfl⟩
theorem jk5 {st:List Int}(h:kqp kxj 7 st):∃ a b c d e f g,st=[a,b,c,d,e,f,g]∧(0≤a∧a<3)∧(0≤b∧b<3)∧(0≤c∧c<3)∧(0≤d∧d<4)∧(0≤e∧e<4)∧(0≤f∧f<4)∧(0≤g∧g<4):=by
 obtain ⟨a,b,c,d,e,f,g,rfl⟩:=vwl h.len;have key:∀ v∈kxj,∀ j,j<v.count→∀ x,[a,b,c,d,e,f,g][v.first+j]?=some x→0≤x∧x<(v.texts.length:Int):=fun v hv j hj x hx=>by
  obtain ⟨y,y1,y2,y3⟩:=h.val v hv j hj;rw[hx] at y1;injection y1 with y1;subst y1;exact ⟨y2,y3⟩
 have h0:(⟨0,3,dTx,0,-1⟩:MVar)∈kxj:=by unfold kxj;simp
 have h1:(⟨3,3,⟨#[45]⟩::dTx,0,0⟩:MVar)∈kxj:=by unfold kxj;simp
 have h2:(⟨6,1,⟨#[45]⟩::dTx,-1,0⟩:MVar)∈kxj:=by unfold kxj;simp
 exact ⟨a,b,c,d,e,f,g,rfl,key _ h0 0 (by decide) a rfl,key _ h0 1 (by decide) b rfl,key _ h0 2 (by decide) c rfl,key _ h1 0 (by decide) d rfl,key _ h1 1 (by decide) e rfl,key _ h1 2 (by decide) f rfl,key _ h2 0 (by decide) g rfl⟩
theorem jkk {o:Nat × Nat × Nat}(ho:kka o){x:Int}(h0:0≤x)(h1:x<4):kw4 o (mB x)=mB (kwv o x):=by
 rcases ho with rfl|rfl|rfl|rfl|rfl|rfl<;>rcases (show x=0∨x=1∨x=2∨x=3 by omega) with rfl|rfl|rfl|rfl<;>rfl
theorem vyq (t:Int→Int)(x:Int):vlT t (svG 0) x=x:=rfl
theorem vyj (t:Int→Int)(x:Int):vlT t (svG 1) x=t x:=rfl
theorem vy9 (t:Int→Int)(x:Int):vlT t (svG 2) x=t x:=rfl
theorem jvc {o:Nat × Nat × Nat}(ho:kka o){st st':List Int}(hs:kqp kxj 7 st)(hs':kqp kxj 7 st')(hT:kjg (kwv o) arG svG kxj st st'){t t':List UInt8}(h1:qjt kxj st=some t)(h2:qjt kxj st'=some t'):t'=mvL o t∧t.length=17∧t.getD 0 0=91∧t.getD 7 0=32∧t.getD 8 0=91:=by
 obtain ⟨a,b,c,d,e,f,g,rfl,ha,hb,hc,hd,he,hf,hg⟩:=jk5 hs;obtain ⟨a',b',c',d',e',f',g',rfl,ha',hb',hc',hd',he',hf',hg'⟩:=jk5 hs';rw[zxa ha hb hc hd he hf hg] at h1;rw[zxa ha' hb' hc' hd' he' hf' hg'] at h2;injection h1 with h1;injection h2 with h2;subst h1;subst h2;refine ⟨?_,rfl,rfl,rfl,rfl⟩;have n0:=hT.val 0 _ rfl 0 (by decide);have n1:=hT.val 0 _ rfl 1 (by decide);have n2:=hT.val 0 _ rfl 2 (by decide);have m0:=hT.val 1 _ rfl 0 (by decide);have m1:=hT.val 1 _ rfl 1 (by decide);have m2:=hT.val 1 _ rfl 2 (by decide);have w0:=hT.val 2 _ rfl 0 (by decide);have rd:=jkk ho hd.1 hd.2;have re:=jkk ho he.1 he.2;have rf:=jkk ho hf.1 hf.2;have rg:=jkk ho hg.1 hg.2;rcases ho with rfl|rfl|rfl|rfl|rfl|rfl;all_goals
  have n0:=Option.some.inj n0;have n1:=Option.some.inj n1;have n2:=Option.some.inj n2;have m0:=Option.some.inj m0;have m1:=Option.some.inj m1;have m2:=Option.some.inj m2;have w0:=Option.some.inj w0;rw[vyq] at n0 n1 n2;rw[vyj] at m0 m1 m2;rw[vy9] at w0;rw[n0,n1,n2,m0,m1,m2,w0,←rd,←re,←rf,←rg];rfl
end Go.Proofs.YtpmcnonmkghokaaGreatDoor
namespace Go.Proofs.YtpmcnonmkghokaaGreatDoor
open Go.RowKit
attribute [local go_sem ↓] Go.wp_at_zero Go.wp_at_succ
theorem zwh (w:World)(lo:Nat)(l:List ByteArray)(t:ByteArray)(a:Option Addr)(n c:Nat)(hS:w.ownsRow lo 9 1 (.slice a n c) l.length (l.map Value.string))(hl:l.length≤1000000) :
  Calls Tryz.prog 18 #[.slice a n c,.string t] w fun e w'=>∃ a2 n2 c2,e=.returned (.slice a2 n2 c2)∧w'.ownsRow w.heap.size 9 1 (.slice a2 n2 c2) (l.length+1) ((l++[t]).map Value.string)∧Below w.heap.size w w':=by
 obtain ⟨i0,hi,hz0,hz1,hz2⟩:=info_parts Tryz.infoStr0;have HS:=hide hS;have HO:=hide (rP w w.heap.size 9 1);clear hS;go_enter Tryz.func18,Tryz.ntmps18
 go_wp2_with (at_builtin;refine kzz rfl _ _ 22 rfl w.heap.size 9 i0 _ 1 16 Tryz.underlying22 hi hz0 hz1 hz2 rfl (by decide) (.slice none 0 0) 0 [] rfl (ku HO) (.slice a n c) l.length _ _ rfl (ku HS) (by intro y hy;obtain ⟨x,_,rfl⟩:=sV.mp hy;rfl) (by unfold maxLen;omega) (by omega) (by omega) ?_)
 intro v3 w3 hown3 hgrow3 hat3;have HB3:=hide ((Below.refl w.heap.size w).grown hgrow3 (wW _) (yw (ku HO)));have hs3:=(ku HB3).size;obtain ⟨a3,l3,c3,rfl⟩:=jy hown3;have HV3:=hide hown3;clear hown3 hgrow3 hat3 HO;go_wp2_with (at_builtin;refine lJ _ rfl _ _ 22 rfl w.heap.size 9 i0 _ 1 16 Tryz.underlying22 hi hz0 hz1 hz2 rfl (by decide) (.slice a3 l3 c3) _ _ rfl ((ku HV3).alloc _) ⟨w3.heap.size,0,none⟩ 1 1 [.string t] rfl rfl (kj3 w3 _ [.string t] _ rfl) (by intro y hy;simp at hy;subst hy;rfl) (by unfold maxLen;omega) (by omega) (by simp;omega) ?_)
 intro v' w' hown hgrow _ hat;obtain ⟨a4,l4,c4,rfl⟩:=jy hown;have HO':=hide (show w'.ownsRow w.heap.size 9 1 (.slice a4 l4 c4) (l.length+1) ((l++[t]).map Value.string) by rw[ng];exact hown);have HB':=hide (((ku HB3).alloc hs3 _).grown hgrow (by simp;omega) (yw (ku HV3)));clear hown hgrow hat;go_wp2
 go_ret
 exact ⟨a4,l4,c4,rfl,ku HO',ku HB'⟩
def zze (w:World)(ca:Option Addr)(cs:List Int):Prop:=∀ i (hi:i<cs.length),(∃ g o,ca=some ⟨g,o,none⟩∧g<w.heap.size∧w.cell? ⟨g,o+i,none⟩=some (.int .i64 (cs.getD i 0)))∧-9223372036854775808≤cs.getD i 0∧cs.getD i 0≤9223372036854775807
theorem zze.below {w w':World}{ca:Option Addr}{cs:List Int}(h:zze w ca cs)(hb:Below w.heap.size w w'):zze w' ca cs:=fun i hi=>by
 obtain ⟨⟨g,o,e,hg,hc⟩,h2⟩:=h i hi;exact ⟨⟨g,o,e,lX hg hb.size,(hb.cell (p:=⟨g,o+i,none⟩) hg).trans hc⟩,h2⟩
structure TwoW (a:Mach)(o:Nat × Nat × Nat)(l l':List ByteArray)(st st':List Int):Prop where
 run:qz6 a l (List.replicate a.size 0)=some st
 run':qz6 a l' (List.replicate a.size 0)=some st'
 ok:kqp a.vars a.size st
 ok':kqp a.vars a.size st'
 turn:kjg (kwv o) arG svG a.vars st st'
structure TwoV (s:ByteArray)(a:Mach)(o:Nat × Nat × Nat)(l l':List ByteArray)(v u:MView):Prop where
 play:qz9 s l=some (v,kzb v,0,0)
 play':qz9 s l'=some (u,kzb u,0,0)
 en:kvh o v.enabled u.enabled=true
 wr:kvh o v.wrong u.wrong=true
 br:kvh o v.broken u.broken=true
 dead:kzb v=kzb u
 txt:v.text.toList.length=17∧v.text.toList.getD 0 0=91∧v.text.toList.getD 7 0=32∧v.text.toList.getD 8 0=91
 txt':u.text=⟨(mvL o v.text.toList).toArray⟩
 few:(v.enabled.length≤45∧v.wrong.length≤45∧v.broken.length≤45)∧(u.enabled.length≤45∧u.wrong.length≤45∧u.broken.length≤45)
 next:∀ t∈v.enabled,t.size≤1000∧∃ q q',TwoW a o (l++[t]) (l'++[⟨(kzi o t.toList).toArray⟩]) q q'
 small:(∀ t∈v.enabled,t.size≤1000)∧(∀ t∈v.wrong,t.size≤1000)∧(∀ t∈v.broken,t.size≤1000)
theorem zyx {o:Nat × Nat × Nat}{la lb:List ByteArray}(h:kvh o la lb=true):la.length=lb.length:=by
 unfold kvh at h;rw[wY,wP] at h;exact h.1
theorem zqe {r0 r1 r2:RC}{x:MStep}(hx:x∈stG r0 r1 r2):x.text.size≤1000:=by
 have key:∀ (c:Nat) (r:RC) (d:Nat),x∈stR c r d→x.text.size≤1000:=by
  intro c r d h;unfold stR at h;obtain ⟨z,hz,rfl⟩:=sV.mp h;have e:(kzy ⟨#[(97+c).toUInt8]⟩ z).toList.length≤10:=by
   rw[qxz,wU,qqe];have:(qzd z).length≤3:=by
    unfold chG at hz;split at hz<;>(simp only[tK,nY,or_false] at hz;rcases hz with rfl|rfl|rfl|rfl|rfl|rfl|rfl|rfl|rfl)<;>decide +kernel
   simp only[sU,wU,fP];omega
  rw[qv7] at e;show (kzy ⟨#[(97+c).toUInt8]⟩ z).size≤1000;omega
 unfold stG at hx;rcases rM.mp hx with hx|hx
 ·rcases rM.mp hx with hx|hx
  ·exact key _ _ _ hx
  ·exact key _ _ _ hx
 ·exact key _ _ _ hx
end Go.Proofs.YtpmcnonmkghokaaGreatDoor
namespace Go.Proofs.YtpmcnonmkghokaaGreatDoor
open Go.RowKit
variable {s:ByteArray} {a:Mach} {r0 r1 r2:RC} {g1 g2:GC} {o:Nat × Nat × Nat} {st st':List Int}
theorem jq3 {x:MNever}(hx:x∈nvG r0 r1 r2 g1 g2):x.text.size≤1000:=by
 unfold nvG at hx;obtain ⟨z,hz,rfl⟩:=sV.mp hx;have e:(kzy ⟨#[100]⟩ z).toList.length≤10:=by
  rw[qxz,wU,qqe];have:(qzd z).length≤3:=by
   unfold chG at hz;simp only[tZ,if_false,tK,nY,or_false] at hz;rcases hz with rfl|rfl|rfl<;>decide +kernel
  simp only[sU,wU,fP];omega
 rw[qv7] at e;show (kzy ⟨#[100]⟩ z).size≤1000;omega
theorem kze.first (h:kze s a r0 r1 r2 g1 g2)(ho:kka o):TwoW a o [] [] (List.replicate a.size 0) (List.replicate a.size 0):=by
 refine ⟨rfl,rfl,h.of_.first,h.of_.first,?_⟩;rw[h.vars,h.size];exact jxx o ho
theorem zkj (h:kze s a r0 r1 r2 g1 g2){l:List ByteArray}(hl:l.length≤50){st:List Int}(hr:qz6 a l (List.replicate a.size 0)=some st){v:MView}(hv:lookO a st=some v):qz9 s l=some (v,kzb v,0,0):=by
 have hg:=h.of_.good;have hz:=hg.env.size;obtain ⟨hs,hw⟩:=jxo hg [] l 0 _ st h.of_.first hr;have hsl:=hs.len;rw[vx8 h.chk h.vvm l (by omega) (by omega)];rw[ni] at hw;rw[hw,zq1,if_pos (by omega),hv];rfl
theorem kze.see (h:kze s a r0 r1 r2 g1 g2)(ho:kka o){l l':List ByteArray}(hl:l.length≤50)(hl':l'.length≤50)(hw:TwoW a o l l' st st'):∃ v u,TwoV s a o l l' v u:=by
 obtain ⟨v,u,v1,u1,e1,e2,e3,e4,t1,t2,f1,f2⟩:=h.views ho hw.ok hw.ok' hw.turn;have hok:=hw.ok;have hok':=hw.ok';have htn:=hw.turn;rw[h.vars,h.size] at hok hok';rw[h.vars] at htn t1 t2;obtain ⟨k1,k2,k3,k4,k5⟩:=jvc ho hok hok' htn t1 t2;rw[show v.text.data.toList=v.text.toList from (xg _).symm] at k1 k2 k3 k4 k5;have sm:∀ t∈v.enabled,t.size≤1000:=fun t ht=>by
  obtain ⟨x,hx,rfl,_⟩:=e4 t ht;rw[h.steps] at hx;exact zqe hx
 have hg:=h.of_.good;obtain ⟨v',w1,w2,w3⟩:=look_ok hg hw.ok;rw[v1] at w1;injection w1 with w1;subst w1;have smw:∀ t∈v.wrong,t.size≤1000:=fun t ht=>by
  rw[w3] at ht;obtain ⟨x,hx,rfl⟩:=sV.mp ht;have:=(Jq.mp hx).1;rw[h.steps] at this;exact zqe this
 have hb:=vjm hg hw.ok a.nevers (fun _ hx=>hx) [];have smb:∀ t∈v.broken,t.size≤1000:=fun t ht=>by
  have e:v.broken=[]++(a.nevers.filter (jj8 a st)).map (·.text):=by
   unfold lookO at v1;obtain ⟨x1,_,v1⟩:=wQ.mp v1;obtain ⟨x2,_,v1⟩:=wQ.mp v1;obtain ⟨x3,hx3,v1⟩:=rQ.mp v1;rw[hb] at hx3;injection hx3 with hx3;rw[←v1,←hx3]
  rw[e,lK] at ht;obtain ⟨x,hx,rfl⟩:=sV.mp ht;have:=(Jq.mp hx).1;rw[h.nevers] at this;exact jq3 this
 refine ⟨v,u,zkj h hl hw.run v1,zkj h hl' hw.run' u1,e1,e2,e3,?_,⟨k2,k3,k4,k5⟩,?_,⟨f1,f2⟩,fun t ht=>⟨sm t ht,?_⟩,⟨sm,smw,smb⟩⟩
 ·unfold kzb;rw[zyx e1,zyx e2]
 ·rw[←k1]
 ·obtain ⟨x,hx,rfl,hx2⟩:=e4 t ht;obtain ⟨q,q',n1,n2,n3,n4,n5⟩:=h.next ho hw.ok hw.ok' hw.turn hw.run hw.run' hx hx2;exact ⟨q,q',n1,n2,n3,n4,n5⟩
end Go.Proofs.YtpmcnonmkghokaaGreatDoor
namespace Go.Proofs.YtpmcnonmkghokaaGreatDoor
open Go.RowKit
attribute [local go_sem ↓] Go.wp_at_zero Go.wp_at_succ
def vy3 (w:World)(a:Mach)(o:Nat × Nat × Nat)(n:Nat)(x y i:Value)(wr:World):Prop:=
 ∃ (k:Nat) (l l':List ByteArray) (sa ta:Option Addr) (sn sc tn tc:Nat) (st st':List Int),k≤11∧k≤n+1∧i=.int .i64 k∧x=.slice sa sn sc∧y=.slice ta tn tc∧l.length=k∧l'.length=k ∧
  wr.ownsRow 0 9 1 (.slice sa sn sc) l.length (l.map Value.string)∧wr.ownsRow 0 9 1 (.slice ta tn tc) l'.length (l'.map Value.string)∧(k≤n→TwoW a o l l' st st')∧Below w.heap.size w wr
theorem jx3 (w:World)(rs:List Int)(ra:Option Addr)(rc:Nat)(hR:zze w ra rs)(cs:List Int)(ca:Option Addr)(cc:Nat)(hC:zze w ca cs)(c:Int)(h0:-9223372036854775808≤c)(h1:c≤9223372036854775807) :
  Calls Tryz.prog 5 #[.slice ra rs.length rc,.slice ca cs.length cc,.int .i64 c] w fun e w'=>e=.returned (.bool true)∧Below w.heap.size w w':=by
 have HAW:=hide jyw;have HOR:=hide (fun wx=>jw6 wx c h0 h1);have HGM:=hide (fun (wx:World) (hx:zze wx ra rs)=>vje wx ra rc rs hx);obtain ⟨a,hG⟩:=vxl (kvr rs 0).1 (kvr rs (fkA rs 1)).1 (kvr rs (fkA rs 2)).1 (g1:=qqn rs false (fkA rs 3)) (g2:=qqn rs false (gdA rs false (fkA rs 3))) ⟨(kyn rs false (fkA rs 3)).1,(kyn rs false (fkA rs 3)).2 rfl⟩ ⟨(kyn rs false (gdA rs false (fkA rs 3))).1,(kyn rs false (gdA rs false (fkA rs 3))).2 rfl⟩ ⟨(kvr rs 0).2,(kvr rs (fkA rs 1)).2,(kvr rs (fkA rs 2)).2⟩;have HFI:=hide (hG.first (zkv (kzl c 6)));have HSE:=hide (fun (l l':List ByteArray) (hl:l.length≤50) (hl':l'.length≤50) (st st':List Int) (hw:TwoW a (jzy (kzl c 6)) l l' st st')=>hG.see (zkv (kzl c 6)) hl hl' hw);have ho3:=vxk (kzl c 6);obtain ⟨M,hM⟩:∃ M,M=(⟨(zw9 rs).toArray⟩:ByteArray):=⟨_,rfl⟩;rw[show (⟨(kve (qxm rs 0) (qxm rs (fkA rs 1)) (qxm rs (fkA rs 2)) (qqn rs false (fkA rs 3)) (qqn rs false (gdA rs false (fkA rs 3)))).toArray⟩:ByteArray)=M from hM.symm] at HSE;rw[←hM] at HGM;clear hM hG;generalize jzy (kzl c 6)=o at *;have HPL:=hide (fun (wx:World) (l:List ByteArray) (sa:Option Addr) (sn sc:Nat) (ho:wx.ownsRow 0 9 1 (.slice sa sn sc) l.length (l.map Value.string)) (hl:l.length≤1000) (r:jxl) (hr:qz9 M l=some r)=>zyh M wx l sa sn sc ho (by omega) r hr);have HR:=hide hR;have HC:=hide hC;clear hR hC;generalize hrl:rs.length=rlen at *;generalize hcl:cs.length=clen at *;go_enter Tryz.func5,Tryz.ntmps5
 go_wp2_with fail
 refine ((ku HAW) _).mono ?_;rintro e w1 ⟨rfl,hb1⟩;have HB1:=hide hb1;have hs1:=hb1.size;clear hb1 HAW;go_wp2_with fail
 refine ((ku HOR) _).mono ?_;rintro e w2 ⟨b,rfl,hbl,hO,hb2⟩;have HB2:=hide ((ku HB1).trans (hb2.mono hs1));have hs2:=hb2.size;have HO:=hide hO;have hb2l:b<w2.heap.size:=wX hO;clear hb2 HOR HB1 hO;go_wp2_with fail
 refine ((ku HGM) _ ((ku HR).below (ku HB2))).mono ?_;rintro e w3 ⟨rfl,hb3⟩;have HB3:=hide ((ku HB2).trans (hb3.mono (by omega)));have HO3:=hide ((hb3.block b hb2l).trans (ku HO));have hs3:=hb3.size;clear hb3 HGM HB2 HO;go_wp2_with fail
 go_loopw [10,11,12,13,14,15,16,17,18,19,20,21,22,23] (fun x y i _ _ _ _ _ _ _ _ _ _ _ wr=>vy3 w a o clen x y i wr∧Below w3.heap.size w3 wr) (fun _ _ i _ _ _ _ _ _ _ _ _ _ _ _=>12-(intOf i).toNat)
 case atStart=>exact ⟨⟨0,[],[],none,none,0,0,0,0,_,_,by omega,by omega,rfl,rfl,rfl,rfl,rfl,rP _ _ _ _,rP _ _ _ _,fun _=>ku HFI,ku HB3⟩,Below.refl _ _⟩
 case round=>
  obtain ⟨wo,hwo⟩:∃ wo,wo=wr:=⟨_,rfl⟩;subst hwo;obtain ⟨⟨k,l,l',sa,ta,sn,sc,tn,tc,st,st',hk,hkn,rfl,rfl,rfl,hl,hl',hoL,hoL',hTW,hB⟩,hB3⟩:=hrel;obtain ⟨za,zc,ez,hq⟩:=zq hoL;clear hq;injection ez with ez1 ez2 ez3;subst ez1;subst ez2;subst ez3;obtain ⟨za,zc,ez,hq⟩:=zq hoL';clear hq;injection ez with ez1 ez2 ez3;subst ez1;subst ez2;subst ez3;have hsz:=hB.size;have hsz3:=hB3.size;have HBo:=hide hB;have HBo3:=hide hB3;have HOo:=hide ((hB3.block b (by omega)).trans (ku HO3));have HL:=hide hoL;have HL':=hide hoL';rw[hl] at HL ⊢;rw[hl'] at HL' ⊢;by_cases hin:k≤clen
  ·by_cases h10:k≤10
   ·obtain ⟨v,u,hV⟩:=(ku HSE) l l' (by omega) (by omega) st st' (hTW hin);have HP1:=hide ((ku HPL) wo l sa k sc (by rw[←hl];exact hoL) (by omega) _ hV.play);have HP2:=hide (fun (wx:World) (hx:Below wo.heap.size wo wx)=>(ku HPL) wx l' ta k tc (by rw[←hl'];exact qj hoL' hx) (by omega) _ hV.play');have HEN:=hide hV.en;have HWR:=hide hV.wr;have HBR:=hide hV.br;have HTX:=hide hV.txt;have HTX':=hide hV.txt';have HNX:=hide hV.next;have HSM:=hide hV.small;have HDD:=hide hV.dead;obtain ⟨⟨fe,fw,fb⟩,⟨fe',fw',fb'⟩⟩:=hV.few;clear hV hTW hoL hoL' hB hB3;go_wp2_with fail
    refine (ku HP1).mono ?_;rintro e w4 ⟨ea,en,ec,wa,wn,wc,ba,bn,bc,rfl,p1,p2,p3,hb4⟩;obtain ⟨za,zc,ez,hq⟩:=zq p1;clear hq;injection ez with ez1 ez2 ez3;subst ez1;subst ez2;subst ez3;obtain ⟨za,zc,ez,hq⟩:=zq p2;clear hq;injection ez with ez1 ez2 ez3;subst ez1;subst ez2;subst ez3;obtain ⟨za,zc,ez,hq⟩:=zq p3;clear hq;injection ez with ez1 ez2 ez3;subst ez1;subst ez2;subst ez3;have hs4:=hb4.size;dsimp only at p1 p2 p3;dsimp only;obtain ⟨W,hW⟩:∃ W,W=w4.alloc (.cells #[.string v.text,.slice ea v.enabled.length ec,.slice wa v.wrong.length wc,.slice ba v.broken.length bc,.bool (kzb v)] 24):=⟨_,rfl⟩;have hbW:Below w4.heap.size w4 W:=by rw[hW];exact below_alloc1 w4 _
    have hsW:w4.heap.size<W.heap.size:=by rw[hW];simp
    have HN:=hide (show W.heap[w4.heap.size]?=some (.cells #[.string v.text,.slice ea v.enabled.length ec,.slice wa v.wrong.length wc,.slice ba v.broken.length bc,.bool (kzb v)] 24 (0,0)) by rw[hW];exact qy _ _);have HWE:=hide hW.symm;have hbo:=hb4.trans (hbW.mono hs4);have HQ1:=hide (qj p1 hbW);have HQ2:=hide (qj p2 hbW);have HQ3:=hide (qj p3 hbW);have HBW:=hide hbo;have HP2':=hide ((ku HP2) W hbo);clear p1 p2 p3 hb4 hbW hbo HP1 HP2 hW;go_wp2_with fail
    rw[ku HWE];refine (ku HP2').mono ?_;rintro e w5 ⟨ea2,en2,ec2,wa2,wn2,wc2,ba2,bn2,bc2,rfl,p1,p2,p3,hb5⟩;obtain ⟨za,zc,ez,hq⟩:=zq p1;clear hq;injection ez with ez1 ez2 ez3;subst ez1;subst ez2;subst ez3;obtain ⟨za,zc,ez,hq⟩:=zq p2;clear hq;injection ez with ez1 ez2 ez3;subst ez1;subst ez2;subst ez3;obtain ⟨za,zc,ez,hq⟩:=zq p3;clear hq;injection ez with ez1 ez2 ez3;subst ez1;subst ez2;subst ez3;have hs5:=hb5.size;dsimp only at p1 p2 p3;dsimp only;obtain ⟨W2,hW2⟩:∃ W2,W2=w5.alloc (.cells #[.string u.text,.slice ea2 u.enabled.length ec2,.slice wa2 u.wrong.length wc2,.slice ba2 u.broken.length bc2,.bool (kzb u)] 24):=⟨_,rfl⟩;have hbW2:Below w5.heap.size w5 W2:=by rw[hW2];exact below_alloc1 w5 _
    have hsW2:w5.heap.size<W2.heap.size:=by rw[hW2];simp
    have hA2:W2.heap[w5.heap.size]?=some (.cells #[.string u.text,.slice ea2 u.enabled.length ec2,.slice wa2 u.wrong.length wc2,.slice ba2 u.broken.length bc2,.bool (kzb u)] 24 (0,0)):=by rw[hW2];exact qy _ _
    have hbx:Below W.heap.size W W2:=hb5.trans (hbW2.mono hs5);have hA1:=(hbx.block w4.heap.size hsW).trans (ku HN);have HWE2:=hide hW2.symm;have HE1:=hide (qj (ku HQ1) hbx);have HE2:=hide (qj (ku HQ2) hbx);have HE3:=hide (qj (ku HQ3) hbx);have HF1:=hide (qj p1 hbW2);have HF2:=hide (qj p2 hbW2);have HF3:=hide (qj p3 hbW2);have hboW2:=(ku HBW).trans (hbx.mono (by omega));have HBW2:=hide hboW2;have HO2:=hide ((hboW2.block b (by omega)).trans (ku HOo));have HLL:=hide (qj (ku HL) hboW2);have HLL':=hide (qj (ku HL') hboW2);have HA1:=hide hA1;have HA2:=hide hA2;obtain ⟨r0,r1,r2,r3,r4,y0,y1,y2,y3,y4⟩:=zo ((hb5.block w4.heap.size hsW).trans (ku HN));have h45:w4.heap.size<w5.heap.size:=by omega
    clear hA1 hA2 hbx hboW2 hbW2 hW2 p1 p2 p3 hb5 HQ1 HQ2 HQ3 HBW HWE HN HL HL' HOo;go_wp2_with fail
    rw[ku HWE2];clear r0 r1 r2 r3 r4 y0 y1 y2 y3 y4;refine (zj3 W2 b o ho3 (ku HO2) v.enabled u.enabled ea ea2 v.enabled.length ec u.enabled.length ec2 _ _ (ku HE1) (ku HF1) (by omega) (by omega) (ku HSM).1).mono ?_;rintro e w6 ⟨rfl,hb6⟩;rw[ku HEN];have hs6:=hb6.size;obtain ⟨r0,r1,r2,r3,r4,y0,y1,y2,y3,y4⟩:=zo ((hb6.block w4.heap.size (by omega)).trans (ku HA1));obtain ⟨x0,x1,x2,x3,x4,z0,z1,z2,z3,z4⟩:=zo ((hb6.block w5.heap.size hsW2).trans (ku HA2));have HB6:=hide hb6;clear hb6;go_wp2_with fail
    refine (zj3 w6 b o ho3 (((ku HB6).block b (by omega)).trans (ku HO2)) v.wrong u.wrong wa wa2 v.wrong.length wc u.wrong.length wc2 _ _ (qj (ku HE2) (ku HB6)) (qj (ku HF2) (ku HB6)) (by omega) (by omega) (ku HSM).2.1).mono ?_;rintro e w7 ⟨rfl,hb7⟩;rw[ku HWR];have hs7:=hb7.size;have hb67:=(ku HB6).trans (hb7.mono hs6);clear r0 r1 r2 r3 r4 y0 y1 y2 y3 y4 x0 x1 x2 x3 x4 z0 z1 z2 z3 z4;obtain ⟨r0,r1,r2,r3,r4,y0,y1,y2,y3,y4⟩:=zo ((hb67.block w4.heap.size (by omega)).trans (ku HA1));obtain ⟨x0,x1,x2,x3,x4,z0,z1,z2,z3,z4⟩:=zo ((hb67.block w5.heap.size hsW2).trans (ku HA2));have HB7:=hide hb67;clear hb7 hb67 HB6;go_wp2_with fail
    refine (zj3 w7 b o ho3 (((ku HB7).block b (by omega)).trans (ku HO2)) v.broken u.broken ba ba2 v.broken.length bc u.broken.length bc2 _ _ (qj (ku HE3) (ku HB7)) (qj (ku HF3) (ku HB7)) (by omega) (by omega) (ku HSM).2.2).mono ?_;rintro e w8 ⟨rfl,hb8⟩;rw[ku HBR];have hs8:=hb8.size;have hb68:=(ku HB7).trans (hb8.mono (by omega));clear r0 r1 r2 r3 r4 y0 y1 y2 y3 y4 x0 x1 x2 x3 x4 z0 z1 z2 z3 z4;obtain ⟨r0,r1,r2,r3,r4,y0,y1,y2,y3,y4⟩:=zo ((hb68.block w4.heap.size (by omega)).trans (ku HA1));have HB8:=hide hb68;clear hb8 hb68 HB7;have HMV:=hide (show Calls Tryz.prog 23 #[.string v.text,.slice (some ⟨b,0,none⟩) 3 3] w8 fun e w'=>e=.returned (.string u.text)∧Below w8.heap.size w8 w' by
     have:=jww w8 b o ho3 (((ku HB8).block b (by omega)).trans (ku HO2)) v.text.toList (ku HTX).1 (ku HTX).2.1 (ku HTX).2.2.1 (ku HTX).2.2.2;rw[←byte_back,←ku HTX'] at this;exact this)
    go_wp2_with fail
    refine (ku HMV).mono ?_;rintro e w9 ⟨rfl,hb9⟩;have hs9:=hb9.size;have hb69:=(ku HB8).trans (hb9.mono (by omega));clear r0 r1 r2 r3 r4 y0 y1 y2 y3 y4 HMV;obtain ⟨r0,r1,r2,r3,r4,y0,y1,y2,y3,y4⟩:=zo ((hb69.block w4.heap.size (by omega)).trans (ku HA1));obtain ⟨x0,x1,x2,x3,x4,z0,z1,z2,z3,z4⟩:=zo ((hb69.block w5.heap.size hsW2).trans (ku HA2));rw[←ku HDD] at x4;have HB9:=hide hb69;clear hb9 hb69 HB8;have hT1:(u.text.toList==([]:List UInt8))=false:=by
     rw[ku HTX',qqe,lu];intro e;have:=congrArg List.length e;unfold mvL mvF mvF mvF mvF at this;simp only[Qa,(ku HTX).1] at this;simp at this
    generalize kzb v=dd at *;have HBall:=hide ((ku HBo).trans (((ku HBW2).trans ((ku HB9).mono (by omega))).mono hsz));by_cases hend:v.enabled.length=0
    ·have he1:((v.enabled.length:Int)==0)=true:=by rw[wP];omega
     clear hend;go_wp2
     go_ret
     exact ⟨rfl,ku HBall⟩
    ·have he1:((v.enabled.length:Int)==0)=false:=by rw[lu];omega
     by_cases hkc:k=clen
     ·have hk1:((k:Int)==(clen:Int))=true:=by rw[wP];omega
      clear hend;go_wp2
      go_ret
      exact ⟨rfl,ku HBall⟩
     ·have hk1:((k:Int)==(clen:Int))=false:=by rw[lu];omega
      have hklt:k<clen:=by omega
      obtain ⟨⟨cg,co,rfl,hcg,hcc⟩,hc0,hc1⟩:=(ku HC) k (by rw[hcl];exact hklt);have q9:=((ku HBall).cell (p:=⟨cg,co+k,none⟩) hcg).trans hcc;have hpl:=zyr (cs.getD k 0) (n:=v.enabled.length) (by omega);have HPK:=hide (fun wx=>pick_any (cs.getD k 0) v.enabled.length wx hc0 hc1 (by omega) (by omega));obtain ⟨za,zc,ez,hvw⟩:=zq (qj (ku HE1) (ku HB9));have ez1:ea=za:=by injection ez
      subst ez1;obtain ⟨g,hga,hg1,hg2,hc⟩:=hvw (kzl (cs.getD k 0) v.enabled.length) hpl;subst hga;obtain ⟨t,ht⟩:∃ t,v.enabled[kzl (cs.getD k 0) v.enabled.length]?=some t:=⟨_,ny hpl⟩;have p9:w9.cell? ⟨g,kzl (cs.getD k 0) v.enabled.length,none⟩=some (.string t):=by
       rw[hc _ (by omega),lq,ht];rfl
      obtain ⟨htz,q,q',hQ⟩:=(ku HNX) t (lZ ht);have HQ:=hide hQ;have hcg9:cg<w9.heap.size:=by have:=(ku HBall).size;omega
      generalize kzl (cs.getD k 0) v.enabled.length=pk at *;generalize cs.getD k 0=cv at *;have HWI:=hide (fun (wx:World) (hx:Below w9.heap.size w9 wx)=>zwh wx 0 l t sa k sc (by rw[hl];exact qj (qj (ku HLL) (ku HB9)) hx) (by omega));obtain ⟨T,hT⟩:∃ T,T=(⟨(kzi o t.toList).toArray⟩:ByteArray):=⟨_,rfl⟩;have HTU:=hide (fun (wx:World) (hx:Below w9.heap.size w9 wx)=>show Calls Tryz.prog 24 #[.string t,.slice (some ⟨b,0,none⟩) 3 3] wx fun e w'=>e=.returned (.string T)∧Below wx.heap.size wx w' by
       have:=zqn wx b o ho3 ((hx.block b (by omega)).trans (((ku HB9).block b (by omega)).trans (ku HO2))) t.toList (by rw[qv7];exact htz);rw[←byte_back,←hT] at this;exact this)
      rw[←hT] at HQ;have HWJ:=hide (fun (wx:World) (hx:Below w9.heap.size w9 wx)=>zwh wx 0 l' T ta k tc (by rw[hl'];exact qj (qj (ku HLL') (ku HB9)) hx) (by omega));clear hc hvw ez hcc ht hQ hend hkc hT;go_upto_region 21 with fail
      go_region_held3 (fun w'=>w'.cell? ⟨w4.heap.size,1,none⟩=some (.slice (some ⟨g,0,none⟩) v.enabled.length ec)∧w'.cell? ⟨cg,co+k,none⟩=some (.int .i64 cv)∧w'.cell? ⟨g,pk,none⟩=some (.string t))
       (exact ⟨r1,q9,p9⟩)
       (first|(go_at_call 19;refine ((ku HPK) _).mono ?_;rintro e wz ⟨rfl,_,rfl⟩;dsimp only))
      clear r0 r1 r2 r3 r4 y0 y1 y2 y3 y4 x0 x1 x2 x3 x4 z0 z1 z2 z3 z4 q9 p9;go_wp2_with fail
      refine ((ku HWI) _ (Below.refl _ _).drew).mono ?_;rintro e wA ⟨a9,n9,c9,rfl,ho9,hbA⟩;have HOA:=hide (show wA.ownsRow 0 9 1 (.slice a9 n9 c9) (l++[t]).length ((l++[t]).map Value.string) by rw[wU];exact zu (tu _) ho9);have HBA:=hide ((Below.refl w9.heap.size w9).drew.trans (hbA.mono (by simp)));have hsA:=(ku HBA).size;clear ho9 hbA HWI HPK;go_wp2_with fail
      refine ((ku HTU) _ (ku HBA)).mono ?_;rintro e wB ⟨rfl,hbB⟩;have HBB:=hide ((ku HBA).trans (hbB.mono hsA));have HOB:=hide (qj (ku HOA) hbB);have hsB:=hbB.size;clear hbB HTU;go_wp2_with fail
      refine ((ku HWJ) _ (ku HBB)).mono ?_;rintro e wC ⟨aC,nC,cC,rfl,hoC,hbC⟩;have HOC:=hide (show wC.ownsRow 0 9 1 (.slice aC nC cC) (l'++[T]).length ((l'++[T]).map Value.string) by rw[wU];exact zu (tu _) hoC);have HOD:=hide (qj (ku HOB) hbC);have HBC:=hide ((ku HBB).trans (hbC.mono (by omega)));have hsC:=hbC.size;clear hoC hbC HWJ;have HBE:=hide ((ku HBall).trans ((ku HBC).mono (by have:=(ku HBall).size;omega)));have HBF:=hide ((ku HBo3).trans (((ku HBW2).trans (((ku HB9).trans ((ku HBC).mono (by omega))).mono (by omega))).mono hsz3));clear hk1 he1;go_wp2
      case roundEnd=>
       go_roundw
       case rel=>exact ⟨⟨k+1,l++[t],l'++[T],a9,aC,n9,c9,nC,cC,q,q',by omega,by omega,by go_num,rfl,rfl,by rw[wU,hl];rfl,by rw[wU,hl'];rfl,ku HOD,ku HOC,fun _=>ku HQ,ku HBE⟩,ku HBF⟩
       case measure=>simp[intOf];omega
   ·go_wp2
    go_ret
    exact ⟨rfl,ku HBo⟩
  ·go_wp2
   go_ret
   exact ⟨rfl,ku HBo⟩
end Go.Proofs.YtpmcnonmkghokaaGreatDoor
