import Derived.Test.YtpmcnonmkghokaaGreatDoorT19
set_option linter.unusedVariables false
set_option linter.unusedSimpArgs false
namespace Go.Proofs.YtpmcnonmkghokaaGreatDoor
open Go.RowKit
def jx6 (s:PSet):List (Tok × Ent):=[(s.name,⟨1,0,bE,kxk⟩)]
def jqb (k:PKind):List (Tok × Ent):=(k.name,⟨2,0,bE,kxk⟩)::k.members.map (fun x=>(x,⟨3,0,k.name.text,kxk⟩))
def jqp (v:VrT):List (Tok × Ent):=[(v.name,⟨4,0,bE,v⟩)]
def jqd (r:PRule):List (Tok × Ent):=[(r.name,⟨5,0,bE,kxk⟩)]
def jqc (r:PRule):List (Tok × Ent):=[(r.name,⟨6,0,bE,kxk⟩)]
def kqf (m:MdL):List (Tok × Ent):=m.sets.flatMap jx6++(m.kinds.flatMap jqb++(m.vars.flatMap jqp++(m.rules.flatMap jqd++m.nevers.flatMap jqc)))
def jqy (t:Tab)(x:Tok × Ent):Tab:=kkv t x.1 x.2
theorem foldl_flat {α β γ:Type}(f:α→List β)(g:γ→β→γ):∀ (l:List α) (c:γ),(l.flatMap f).foldl g c=l.foldl (fun c x=>(f x).foldl g c) c
 | [],c=>rfl
 | x::l,c=>by rw[lD,lG,Q5,foldl_flat f g l]
theorem jqu (m:MdL):zl m=(kqf m).foldl jqy []:=by
 unfold zl gt4 gt3 gt2 gt1 kqf;rw[lG,lG,lG,lG,foldl_flat,foldl_flat,foldl_flat,foldl_flat,foldl_flat];have e:(fun (c:Tab) (k:PKind)=>(jqb k).foldl jqy c)=gK:=by
  funext c k
  unfold jqb gK;rw[Q5,List.foldl_map];rfl
 rw[e];rfl
def qyw (l:List (Tok × Ent))(s:List UInt8):Ent:=match l.find? (fun x=>x.1.text.toList==s) with|none=>zk1|some x=>{ x.2 with place:=x.1.at_ }
theorem jq1 {s:List UInt8}{u:Tab}:∀ {t:Tab},(zk t s).role≠0→zk (t++u) s=zk t s
 | [],h=>(h rfl).elim
 | x::l,h=>by
  rw[Qe,zk,zk];rw[zk] at h;split
  ·rfl
  ·rename_i hx;rw[if_neg hx] at h;exact jq1 h
theorem qw7 {s:List UInt8}{u:Tab}:∀ {t:Tab},kkg t→(zk t s).role=0→zk (t++u) s=zk u s∧zk t s=zk1
 | [],_,_=>⟨rfl,rfl⟩
 | x::l,ht,h=>by
  rw[Qe,zk,zk];rw[zk] at h;split
  ·rename_i hx;rw[if_pos hx] at h;have:=ht x (rY ..);omega
  ·rename_i hx;rw[if_neg hx] at h;exact qw7 (fun y hy=>ht y (rJ _ hy)) h
theorem jw9 {t:Tab}(ht:kkg t)(n:Tok)(e:Ent)(s:List UInt8):zk (kkv t n e) s=if (zk t s).role=0∧n.text.toList=s then { e with place:=n.at_ } else zk t s:=by
 unfold kkv;by_cases h0:(zk t n.text.toList).role=0
 ·rw[if_pos (by rw[rZ];exact h0)];by_cases h1:(zk t s).role=0
  ·obtain ⟨a,b⟩:=qw7 (u:=[(n.text,{ e with place:=n.at_ })]) ht h1;rw[a];by_cases h2:n.text.toList=s
   ·rw[if_pos ⟨h1,h2⟩,zk,if_pos (by rw[rZ];exact h2)]
   ·rw[if_neg (fun h=>h2 h.2),zk,if_neg (by rw[rZ];exact h2),b];rfl
  ·rw[jq1 h1,if_neg (fun h=>h1 h.1)]
 ·rw[if_neg (by rw[rZ];exact h0),if_neg];rintro ⟨h1,rfl⟩;exact h0 h1
theorem zk7 {s:List UInt8}:∀ (l:List (Tok × Ent)) (t:Tab),kkg t→(∀ x∈l,1≤x.2.role)→zk (l.foldl jqy t) s=if (zk t s).role=0 then qyw l s else zk t s
 | [],t,ht,_=>by
  split
  ·rename_i h;exact (qw7 (u:=[]) ht h).2
  ·rfl
 | x::l,t,ht,hl=>by
  rw[Q5,zk7 l (jqy t x) (kwa ht (hl x (rY ..))) (fun y hy=>hl y (rJ _ hy))];have hg:=jw9 ht x.1 x.2 s;have he:zk (jqy t x) s=zk (kkv t x.1 x.2) s:=rfl;rw[he];have hr:=hl x (rY ..);by_cases h0:(zk t s).role=0
  ·rw[if_pos h0];by_cases h1:x.1.text.toList=s
   ·rw[if_pos ⟨h0,h1⟩] at hg;rw[hg,if_neg (by show ¬x.2.role=0;omega)];unfold qyw;rw[List.find?_cons,show (x.1.text.toList==s)=true by rw[rZ];exact h1]
   ·rw[if_neg (fun h=>h1 h.2)] at hg;rw[hg,if_pos h0];unfold qyw;rw[List.find?_cons,show (x.1.text.toList==s)=false by rw[sD];exact h1]
  ·rw[if_neg (fun h=>h0 h.1)] at hg;rw[hg,if_neg h0,if_neg h0]
theorem kv4 (m:MdL):∀ x∈kqf m,(x.2.role=1∧∃ q∈m.sets,x.1=q.name)∨(x.2.role=2∧∃ k∈m.kinds,x.1=k.name)∨(x.2.role=3∧∃ k∈m.kinds,x.1∈k.members∧x.2.kind=k.name.text) ∨
  (x.2.role=4∧∃ v∈m.vars,x.1=v.name∧x.2.var=v)∨(x.2.role=5∧∃ r∈m.rules,x.1=r.name)∨(x.2.role=6∧∃ r∈m.nevers,x.1=r.name):=by
 intro x hx;unfold kqf at hx;simp only[rC,tV] at hx;rcases hx with ⟨q,hq,hx⟩|⟨q,hq,hx⟩|⟨q,hq,hx⟩|⟨q,hq,hx⟩|⟨q,hq,hx⟩
 ·unfold jx6 at hx;rw[tY] at hx;subst hx;exact Or.inl ⟨rfl,q,hq,rfl⟩
 ·unfold jqb at hx;rw[tX,su] at hx;rcases hx with rfl|⟨y,hy,rfl⟩
  ·exact Or.inr (Or.inl ⟨rfl,q,hq,rfl⟩)
  ·exact Or.inr (Or.inr (Or.inl ⟨rfl,q,hq,hy,rfl⟩))
 ·unfold jqp at hx;rw[tY] at hx;subst hx;exact Or.inr (Or.inr (Or.inr (Or.inl ⟨rfl,q,hq,rfl,rfl⟩)))
 ·unfold jqd at hx;rw[tY] at hx;subst hx;exact Or.inr (Or.inr (Or.inr (Or.inr (Or.inl ⟨rfl,q,hq,rfl⟩))))
 ·unfold jqc at hx;rw[tY] at hx;subst hx;exact Or.inr (Or.inr (Or.inr (Or.inr (Or.inr ⟨rfl,q,hq,rfl⟩))))
theorem zkg (m:MdL):∀ x∈kqf m,1≤x.2.role:=fun x hx=>by
 rcases kv4 m x hx with h|h|h|h|h|h<;>have:=h.1<;>omega
theorem kjk (m:MdL)(s:List UInt8):zk (zl m) s=qyw (kqf m) s:=by
 rw[jqu,zk7 _ _ (fun x hx=>by cases hx) (zkg m),if_pos (show (zk [] s).role=0 from rfl)]
theorem kjv (l:List (Tok × Ent))(s:List UInt8):(qyw l s=zk1∧∀ x∈l,x.1.text.toList≠s) ∨
  ∃ j,∃ hj:j<l.length,(l[j]).1.text.toList=s∧(∀ k (hk:k<j),(l[k]'(by omega)).1.text.toList≠s)∧qyw l s={ (l[j]).2 with place:=(l[j]).1.at_ }:=by
 unfold qyw;cases hf:l.find? (fun x=>x.1.text.toList==s) with
 | none=>
  refine Or.inl ⟨rfl,fun x hx=>?_⟩;have:=List.find?_eq_none.mp hf x hx;simpa using this
 | some b=>
  obtain ⟨h1,i,hi,e,h2⟩:=List.find?_eq_some_iff_getElem.mp hf;refine Or.inr ⟨i,hi,by rw[e];simpa using h1,fun k hk=>?_,by rw[e]⟩;have:=h2 k hk;simpa using this
theorem qkk (t:PTree):(kqf (jk t)).map (·.1)=zf t:=by
 unfold kqf zf qyx zz0 zkp jk;have e1:∀ l:List PSet,(l.flatMap jx6).map (·.1)=l.flatMap zv9:=fun l=>by rw[QC];rfl
 have e2:∀ l:List PKind,(l.flatMap jqb).map (·.1)=l.flatMap kk2:=fun l=>by
  rw[QC];congr 1
  funext k
  unfold jqb kk2;rw[lJ,Qz];congr 1
  exact List.map_id _
 have e3:∀ l:List PVar,((l.map yg).flatMap jqp).map (·.1)=l.flatMap jyj:=fun l=>by rw[List.flatMap_map,QC];rfl
 have e4:∀ l:List PRule,(l.flatMap jqd).map (·.1)=l.flatMap zqh:=fun l=>by rw[QC];rfl
 have e5:∀ l:List PRule,(l.flatMap jqc).map (·.1)=l.flatMap zqh:=fun l=>by rw[QC];rfl
 simp only[sJ,e1,e2,e3,e4,e5,lV,tK]
theorem kv5 (t:PTree):(kqf (jk t)).length=(zf t).length:=by rw[←qkk,ni]
theorem kkk (t:PTree){i:Nat}(hi:i<(kqf (jk t)).length):((kqf (jk t))[i]).1=(zf t)[i]'(by rw[←kv5];exact hi):=by
 have:((kqf (jk t)).map (·.1))[i]'(by simpa using hi)=(zf t)[i]'(by rw[←kv5];exact hi):=by simp only[qkk]
 rw[←this,Qa]
theorem kk1:∀ (l:List ByteArray) (s:List UInt8),ji l s<0↔∀ x∈l,x.toList≠s
 | [],s=>by simp[ji]
 | x::l,s=>by
  rw[ji];have ih:=kk1 l s;by_cases h:x.toList=s
  ·rw[if_pos (by rw[rZ];exact h)];constructor
   ·intro h0;omega
   ·intro h0;exact (h0 x (rY ..) h).elim
  ·rw[if_neg (by rw[rZ];exact h)];constructor
   ·intro h0 y hy;have h1:ji l s<0:=by
     by_cases h1:ji l s<0
     ·exact h1
     ·rw[if_neg h1] at h0;omega
    rcases tX.mp hy with rfl|hy
    ·exact h
    ·exact ih.mp h1 y hy
   ·intro h0;rw[if_pos (ih.mpr fun y hy=>h0 y (rJ _ hy))];omega
theorem qq9 {l:List ByteArray}{s:List UInt8}(h:0≤ji l s):∃ hi:(ji l s).toNat<l.length,(l[(ji l s).toNat]).toList=s:=by
 induction l with
 | nil=>simp[ji] at h
 | cons x l ih=>
  rw[ji] at h;by_cases hx:x.toList=s
  ·have e:ji (x::l) s=0:=by rw[ji,if_pos (by rw[rZ];exact hx)]
   rw[e];exact ⟨by simp,by simpa using hx⟩
  ·rw[if_neg (by rw[rZ];exact hx)] at h;by_cases h1:ji l s<0
   ·rw[if_pos h1] at h;omega
   ·have e:ji (x::l) s=ji l s+1:=by rw[ji,if_neg (by rw[rZ];exact hx),if_neg h1]
    obtain ⟨hi,he⟩:=ih (by omega);rw[e];have e2:(ji l s+1).toNat=(ji l s).toNat+1:=by omega
    refine ⟨by rw[e2];simpa using hi,?_⟩;simp only[e2,Qd];exact he
theorem zyn:∀ (l:List PKind) (s:List UInt8),(ky4 l s).1<0↔∀ k∈l,∀ x∈k.members,x.text.toList≠s
 | [],s=>by simp[ky4]
 | k::l,s=>by
  have ih:=zyn l s;have h0:=kk1 (kvh k) s;have h0':ji (kvh k) s<0↔∀ x∈k.members,x.text.toList≠s:=by
   rw[h0];unfold kvh;simp
  rw[ky4];by_cases h:0≤ji (kvh k) s
  ·rw[if_pos h];constructor
   ·intro h1;simp at h1
   ·intro h1;have:=h0'.mpr (h1 k (rY ..));omega
  ·rw[if_neg h];have hk:=h0'.mp (by omega);constructor
   ·intro h1 k' hk' x hx;have h2:(ky4 l s).1<0:=by
     by_cases h2:(ky4 l s).1<0
     ·exact h2
     ·rw[if_neg h2] at h1;simp only at h1;omega
    rcases tX.mp hk' with rfl|hk'
    ·exact hk x hx
    ·exact ih.mp h2 k' hk' x hx
   ·intro h1;rw[if_pos (ih.mpr fun k' hk'=>h1 k' (rJ _ hk'))];simp
theorem zyr:∀ {l:List PKind} {s:List UInt8},0≤(ky4 l s).1→∃ hi:(ky4 l s).1.toNat<l.length,∃ x∈(l[(ky4 l s).1.toNat]).members,x.text.toList=s
 | [],s,h=>by simp[ky4] at h
 | k::l,s,h=>by
  rw[ky4] at h;by_cases h0:0≤ji (kvh k) s
  ·have e:(ky4 (k::l) s).1=0:=by rw[ky4,if_pos h0]
   obtain ⟨hi,he⟩:=qq9 h0;rw[e];refine ⟨by simp,?_⟩;unfold kvh at hi he;rw[Qa] at he;exact ⟨_,wY (by simpa using hi),by simpa using he⟩
  ·rw[if_neg h0] at h;by_cases h1:(ky4 l s).1<0
   ·rw[if_pos h1] at h;simp at h
   ·have e:(ky4 (k::l) s).1=(ky4 l s).1+1:=by rw[ky4,if_neg h0,if_neg h1]
    obtain ⟨hi,x,hx,he⟩:=zyr (l:=l) (s:=s) (by omega);rw[e];have e2:((ky4 l s).1+1).toNat=(ky4 l s).1.toNat+1:=by omega
    refine ⟨by rw[e2];simpa using hi,x,?_,he⟩;simp only[e2,Qd];exact hx
theorem zq1 (l:List PP)(s:List UInt8):fpB l s=true↔∃ p∈l,p.name.text.toList=s:=by
 unfold fpB;rw[l9];simp
theorem zyj (l:List PP)(s:List UInt8):ji (zj9 l) s<0↔fpB l s=false:=by
 rw[kk1];unfold zj9;cases h:fpB l s
 ·simp only[iff_true];intro x hx e;rw[su] at hx;obtain ⟨p,hp,rfl⟩:=hx;have:=(zq1 l s).mpr ⟨p,hp,e⟩;rw[h] at this;cases this
 ·obtain ⟨p,hp,e⟩:=(zq1 l s).mp h;simp only[Bool.true_eq_false,iff_false];intro h2;exact h2 _ (tC hp) e
theorem qke (t:PTree)(s:List UInt8):(zk (zl (jk t)) s).role=1↔¬ji (kj4 t) s<0:=by
 rw[kjk,kk1];constructor
 ·intro h hno;rcases kjv (kqf (jk t)) s with ⟨e,_⟩|⟨j,hj,h1,h2,e⟩
  ·rw[e] at h;cases h
  ·rw[e] at h;simp only at h;rcases kv4 _ _ (wY hj) with g|g|g|g|g|g
   ·obtain ⟨_,q,hq,e1⟩:=g;exact hno q.name.text (tC hq) (by rw[←e1];exact h1)
   all_goals (have:=g.1;omega)
 ·intro h;have:∃ q∈t.sets,q.name.text.toList=s:=by
   apply rD;intro h3;apply h;intro x hx;unfold kj4 at hx;rw[su] at hx;obtain ⟨q,hq,rfl⟩:=hx;exact fun e=>h3 ⟨q,hq,e⟩
  obtain ⟨q,hq,e⟩:=this;unfold qyw kqf;rw[List.find?_append];cases hf:(((jk t).sets.flatMap jx6).find? (fun x=>x.1.text.toList==s)) with
  | none=>
   have:=List.find?_eq_none.mp hf (q.name,⟨1,0,bE,kxk⟩) (tV.mpr ⟨q,hq,tY.mpr rfl⟩);simp only[rZ] at this;exact (this e).elim
  | some b=>
   have hb:=List.mem_of_find?_eq_some hf;rw[tV] at hb;obtain ⟨q2,_,hb⟩:=hb;unfold jx6 at hb;rw[tY] at hb;subst hb;rfl
theorem zxb (t:PTree)(s:List UInt8):(zk (zl (jk t)) s).role=0↔∀ x∈zf t,x.text.toList≠s:=by
 rw[kjk,←qkk];rcases kjv (kqf (jk t)) s with ⟨e,h⟩|⟨j,hj,h1,h2,e⟩
 ·rw[e];refine ⟨fun _ x hx=>?_,fun _=>rfl⟩;rw[su] at hx;obtain ⟨y,hy,rfl⟩:=hx;exact h y hy
 ·rw[e];have:=zkg _ _ (wY hj);constructor
  ·intro h0;simp only at h0;omega
  ·intro h0;exact (h0 _ (tC (wY hj)) h1).elim
theorem kjt:∀ {x:PX},kku x→je x=dh x
 | .nil,h=>rfl
 | .node _ _ x a c,h=>by
  have own:qjb x=ownNames x:=by
   unfold qjb ownNames kju;by_cases hp:x.op.toList=[112,108,97,99,101]
   ·have hop:(x.op.toList==[112,108,97,99,101])=true:=by rw[rZ];exact hp
    simp only[hop,if_true];have hi:x.index=jy∨(x.index.kind.toList==[110,97,109,101])=true:=by
     rcases h with ⟨h1,_⟩|⟨h1,_⟩|⟨h1,_⟩
     ·rcases h1 with (h1|h1|h1)|⟨h1,_⟩|⟨_,_,h1⟩
      ·rw[hp] at h1;cases h1
      ·rw[hp] at h1;cases h1
      ·rw[hp] at h1;cases h1
      ·rw[hp] at h1;cases h1
      ·exact h1
     ·rw[hp] at h1;cases h1
     ·rw[hp] at h1;exact absurd h1 (by decide)
    rcases hi with hi|hi
    ·rw[hi,kqh];rfl
    ·rw[rZ] at hi;rw[hi];rfl
   ·have hop:(x.op.toList==[112,108,97,99,101])=false:=by rw[sD];exact hp
    simp only[hop];rfl
  rw[je,dh,own];rcases h with ⟨_,rfl,rfl⟩|⟨_,h2,rfl⟩|⟨_,h2,h3⟩
  ·rfl
  ·rw[kjt h2];rfl
  ·rw[kjt h2,kjt h3]
theorem kzk:∀ {b:PB},kvi b→zi b=kq0 b
 | .nil,_=>rfl
 | .node _ _ a .nil n,⟨⟨h1,x,hx,ho⟩,h2,h3,h4⟩=>by
  rw[zi,kq0,kzk h4,kws,h3,kjt h2];have e:vqk a.place=dh a.place:=by
   have w:=kjt h1;rw[hx] at w ⊢;rw[←w];show kju x.name x.index=(qjb x++[])++[];unfold qjb;rw[if_pos (by rw[rZ];exact ho)];simp
  rw[e,show dh (Go.Deep.BT.nil:PX)=[] from rfl,lq]
 | .node _ _ a (.node _ _ _ t e) n,⟨h1,h2,h3,h4,h5,h6⟩=>by
  rw[zi,kq0,kzk h4.1,kzk h5.1,kzk h6,kws,h2,h3,kjt h1];rfl
def fS (tab:Tab)(s:PSet):List Tok:=kqj (kzx tab s.name) s.name
def fM (tab:Tab)(m:Tok):List Tok:=kqj (kzx tab m) m
def fK (tab:Tab)(k:PKind):List Tok:=kqj (kzx tab k.name) k.name++k.members.flatMap (fM tab)
def fV (tab:Tab)(v:VrT):List Tok:=kqj (kzx tab v.name) v.name++(kqj (v.arr&&qks tab v.over) v.over++kqj ((v.si.form==2)&&jjn tab v.si.name) v.si.name)
def fE (tab:Tab)(l:List PP)(i:Nat)(p:PP):List Tok:=kqj (jx7 tab l i p) p.name++kqj (qks tab p.set_) p.set_
def fU (tab:Tab)(l:List PP)(n:Tok):List Tok:=kqj (jv9 tab l n) n
def fN (tab:Tab)(r:PRule):List Tok:=(kqj (kzx tab r.name) r.name++jr (fE tab r.params) r.params 0)++(je r.guard).flatMap (fU tab r.params)
def fR (tab:Tab)(r:PRule):List Tok:=fN tab r++(zi r.body).flatMap (fU tab r.params)
theorem jjw (tab:Tab)(m:MdL):kw0 tab m=mg (-1) ((((m.sets.flatMap (fS tab)++m.kinds.flatMap (fK tab))++m.vars.flatMap (fV tab))++m.rules.flatMap (fR tab))++m.nevers.flatMap (fN tab)):=by
 have g0:(-1:Int)≤-1:=by omega
 have val:∀ (l:List PP) (ns:List Tok) (a:Int),-1≤a→ns.foldl (kka tab l) a=mg a (ns.flatMap (fU tab l)):=fun l ns a ha=>kzs (f:=kka tab l) (g:=fU tab l) (fun a x _=>kjh _ _ _) ns a ha
 have nev:∀ (a:Int) (r:PRule),-1≤a→wN tab a r=mg a (fN tab r):=fun a r ha=>by
  unfold wN fN;rw[uq,uq,kjh];have g1:=kqw (kqj (kzx tab r.name) r.name) ha;rw[cu (g:=fE tab r.params) (fun a i x _=>by unfold jqm fE;rw[kjh,kjh,uq]) _ _ _ g1];exact val _ _ _ (kqw _ g1)
 have e1:wt1 tab m=mg (-1) (m.sets.flatMap (fS tab)):=kzs (fun a x _=>by unfold wS fS;exact kjh _ _ _) _ _ g0;have e2:wt2 tab m=mg (-1) (m.sets.flatMap (fS tab)++m.kinds.flatMap (fK tab)):=by
  unfold wt2;rw[e1,uq];exact kzs (fun a x ha=>by
   unfold wK fK;rw[kjh,uq];exact kzs (fun a x _=>by unfold wM fM;exact kjh _ _ _) _ _ (kqw _ ha)) _ _ (kqw _ g0)
 have e3:wt3 tab m=mg (-1) ((m.sets.flatMap (fS tab)++m.kinds.flatMap (fK tab))++m.vars.flatMap (fV tab)):=by
  unfold wt3;rw[e2];refine Eq.trans ?_ (uq _ _ _).symm;exact kzs (fun a x ha=>by
   unfold wV vz3 fV;rw[uq,uq,kjh,kjh,kjh];cases hf:(x.si.form==2)
   ·rw[if_neg (by simp)];rfl
   ·rw[if_pos rfl];rfl) _ _ (kqw _ g0)
 have e4:wt4 tab m=mg (-1) (((m.sets.flatMap (fS tab)++m.kinds.flatMap (fK tab))++m.vars.flatMap (fV tab))++m.rules.flatMap (fR tab)):=by
  unfold wt4;rw[e3];refine Eq.trans ?_ (uq _ _ _).symm;exact kzs (fun a x ha=>by
   unfold fR;rw[uq,←nev a x ha];have g:=kqw (fN tab x) ha;rw[←nev a x ha] at g;exact val _ _ _ g) _ _ (kqw _ g0)
 unfold kw0;rw[e4];refine Eq.trans ?_ (uq _ _ _).symm;exact kzs nev _ _ (kqw _ g0)
def dG (g:List Tok)(i:Nat)(x:Tok):List Tok:=jr (fun _ y=>kqj (y.text.toList==x.text.toList) x) (g.take i) 0
def dP (g:List Tok)(ps:List PP)(k:Nat)(p:PP):List Tok:=jr (fun _ y=>kqj (y.text.toList==p.name.text.toList) p.name) g 0++jr (fun _ q=>kqj (q.name.text.toList==p.name.text.toList) p.name) (ps.take k) 0
def dR (g:List Tok)(_:Nat)(r:PRule):List Tok:=jr (dP g r.params) r.params 0
def uV (t:PTree)(_:Nat)(v:PVar):List Tok:=kqj ((v.over.kind.toList==[110,97,109,101])&&decide (ji (kj4 t) v.over.text.toList<0)) v.over ++
 kqj ((v.type_.kind.toList==[110,97,109,101])&&decide (ji (kj4 t) v.type_.text.toList<0)&&decide (ji (kjl t) v.type_.text.toList<0)) v.type_
def uP (t:PTree)(_:Nat)(p:PP):List Tok:=kqj (decide (ji (kj4 t) p.set_.text.toList<0)) p.set_
def uN (t:PTree)(ps:List PP)(_:Nat)(n:Tok):List Tok:=kqj (!qw9 t ps n.text.toList) n
def uR (t:PTree)(_:Nat)(r:PRule):List Tok:=jr (uP t) r.params 0++jr (uN t r.params) (dh r.guard++kq0 r.body) 0
theorem zz1 (t:PTree):zvn t=mg (-1) (jr (dG (zf t)) (zf t) 0++jr (dR (zf t)) (t.rules++t.nevers) 0):=by
 have g0:(-1:Int)≤-1:=by omega
 have sm:∀ (x:Tok) (l:List Tok) (a:Int),-1≤a→bf (jxe x) l 0 a=mg a (jr (fun _ y=>kqj (y.text.toList==x.text.toList) x) l 0):=fun x l a ha=>cu (fun a i y _=>by
  unfold jxe kqj;cases (y.text.toList==x.text.toList)<;>rfl) _ _ _ ha
 have sp:∀ (x:Tok) (l:List PP) (a:Int),-1≤a→bf (vq0 x) l 0 a=mg a (jr (fun _ q=>kqj (q.name.text.toList==x.text.toList) x) l 0):=fun x l a ha=>cu (fun a i q _=>by
  unfold vq0 kqj;cases (q.name.text.toList==x.text.toList)<;>rfl) _ _ _ ha
 unfold zvn;rw[uq,cu (f:=vjq (zf t)) (g:=dG (zf t)) (fun a i x ha=>by unfold vjq dG;exact sm _ _ _ ha) _ _ _ g0];exact cu (fun a i r ha=>by
  unfold vxo dR;exact cu (fun a k p ha=>by unfold vxa dP;rw[uq,sm _ _ _ ha];exact sp _ _ _ (kqw _ ha)) _ _ _ ha) _ _ _ (kqw _ g0)
theorem zxv (t:PTree):jxm t=mg (-1) (jr (uV t) t.vars 0++jr (uR t) (t.rules++t.nevers) 0):=by
 have g0:(-1:Int)≤-1:=by omega
 unfold jxm vxd;rw[uq,cu (f:=jyx t) (g:=uV t) (fun a i x ha=>by
  unfold jyx uV vxy vxg kqj;rw[uq];cases (x.over.kind.toList==[110,97,109,101]&&decide (ji (kj4 t) x.over.text.toList<0))<;>cases (x.type_.kind.toList==[110,97,109,101]&&decide (ji (kj4 t) x.type_.text.toList<0)&&decide (ji (kjl t) x.type_.text.toList<0))<;>rfl) _ _ _ g0]
 exact cu (fun a i r ha=>by
  unfold vxu uR;rw[uq,cu (f:=jyk t) (g:=uP t) (fun a i p _=>by
   unfold jyk uP kqj;by_cases h:ji (kj4 t) p.set_.text.toList<0
   ·rw[if_pos h,if_pos (by simpa using h)];rfl
   ·rw[if_neg h,if_neg (by simpa using h)];rfl) _ _ _ ha]
  exact cu (fun a i n _=>by unfold vxp uN kqj;cases qw9 t r.params n.text.toList<;>rfl) _ _ _ (kqw _ ha)) _ _ _ (kqw _ g0)
theorem qqz {α:Type}{f g:α→List Tok}(h:∀ x,(f x).Sublist (g x)):∀ l:List α,(l.flatMap f).Sublist (l.flatMap g)
 | []=>List.Sublist.slnil
 | x::l=>by rw[lD,lD];exact (h x).append (qqz h l)
theorem qyz (t:PTree):(zf t).Sublist (kzb t):=by
 unfold zf qyx zz0 zkp kzb;rw[lV,tK,tK];refine (List.Sublist.refl _).append ((List.Sublist.refl _).append ?_);refine (qqz (fun v=>?_) _).append ((qqz (fun r=>?_) _).append (qqz (fun r=>?_) _))
 ·exact (Jf _).cons_cons _
 ·exact (Jf _).cons_cons _
 ·exact (Jf _).cons_cons _
structure TreeOrd (t:PTree):Prop where
 glob:(zf t).Pairwise (fun a b=>a.at_<b.at_)
 kv:∀ x∈t.kinds.flatMap kk2,∀ y∈t.vars.flatMap kw1,x.at_<y.at_
 kr:∀ x∈t.kinds.flatMap kk2,∀ r∈t.rules++t.nevers,∀ y∈kq5 r,x.at_<y.at_
 vr:∀ x∈t.vars.flatMap kw1,∀ r∈t.rules++t.nevers,∀ y∈kq5 r,x.at_<y.at_
theorem jyp {t:PTree}(h:(kzb t).Pairwise (fun a b=>a.at_<b.at_)):TreeOrd t:=by
 have h':=h;unfold kzb at h';rw[QU,QU,QU] at h';obtain ⟨_,⟨_,⟨_,_,hvr⟩,hk⟩,_⟩:=h';have mem:∀ r∈t.rules++t.nevers,∀ y∈kq5 r,y∈t.rules.flatMap kq5++t.nevers.flatMap kq5:=fun r hr y hy=>by
  rw[←lV];exact tV.mpr ⟨r,hr,hy⟩
 exact ⟨h.sublist (qyz t),fun x hx y hy=>hk x hx y (wU _ hy),fun x hx r hr y hy=>hk x hx y (rV _ (mem r hr y hy)),fun x hx r hr y hy=>hvr x hx y (mem r hr y hy)⟩
theorem qq8 {α:Type}{g:α→List Tok}{y:Tok}(l:List α):y∈jr (fun _=>g) l 0↔∃ x∈l,y∈g x:=by
 rw[jf];constructor
 ·rintro ⟨i,hi,h⟩;exact ⟨_,wY hi,h⟩
 ·rintro ⟨x,hx,h⟩;obtain ⟨i,hi,rfl⟩:=rP hx;exact ⟨i,hi,h⟩
theorem zvb {g:List Tok}{y:Tok}:y∈jr (dG g) g 0↔∃ i,∃ hi:i<g.length,y=g[i]∧∃ j,∃ hj:j<i,(g[j]'(by omega)).text.toList=(g[i]).text.toList:=by
 rw[jf];constructor
 ·rintro ⟨i,hi,h⟩;unfold dG at h;rw[lU,jf] at h;obtain ⟨j,hj,h⟩:=h;rw[jg,rZ,JC] at h;have hj':j<i:=by simp at hj;omega
  exact ⟨i,hi,h.2,j,hj',h.1⟩
 ·rintro ⟨i,hi,rfl,j,hj,e⟩;refine ⟨i,hi,?_⟩;unfold dG;rw[lU,jf];refine ⟨j,by simp;omega,?_⟩;rw[jg,rZ,JC];exact ⟨e,rfl⟩
theorem zkd {t:PTree}(ho:TreeOrd t){i:Nat}(hi:i<(zf t).length):kzx (zl (jk t)) (zf t)[i]=true↔∃ j,∃ hj:j<i,((zf t)[j]'(by omega)).text.toList=((zf t)[i]).text.toList:=by
 have hi':i<(kqf (jk t)).length:=by rw[kv5];exact hi
 unfold kzx;rw[kjk];rcases kjv (kqf (jk t)) (zf t)[i].text.toList with ⟨_,h⟩|⟨j,hj,h1,h2,e⟩
 ·exact (h _ (wY hi') (by rw[kkk])).elim
 ·rw[e];simp only;have hj':j<(zf t).length:=by rw[←kv5];exact hj
  rw[kkk t hj] at h1 ⊢;have hle:j≤i:=by
   apply rD;intro hc;have:=h2 i (by omega);rw[kkk] at this;exact this rfl
  constructor
  ·intro h;refine ⟨j,?_,h1⟩;apply rD;intro hc;have:j=i:=by omega
   subst this;simp at h
  ·rintro ⟨k,hk,e2⟩;have:j<i:=by
    apply rD;intro hc;have:=h2 k (by omega);rw[kkk] at this;exact this e2
   have:=Qm.mp ho.glob j i (by omega) hi this;simp only[lQ,sD];omega
theorem qz2 {t:PTree}{x:Tok × Ent}(hx:x∈kqf (jk t))(hr:(zk (zl (jk t)) x.1.text.toList).role≠x.2.role):x.1∈jr (dG (zf t)) (zf t) 0:=by
 obtain ⟨i,hi,rfl⟩:=rP hx;rw[kjk] at hr;rcases kjv (kqf (jk t)) (kqf (jk t))[i].1.text.toList with ⟨_,h⟩|⟨j,hj,h1,h2,e⟩
 ·exact (h _ (wY hi) rfl).elim
 ·rw[e] at hr;have hle:j≤i:=by
   apply rD;intro hc;exact h2 i (by omega) rfl
  have hne:j≠i:=by rintro rfl;exact hr rfl
  rw[zvb];refine ⟨i,by rw[←kv5];exact hi,kkk t hi,j,by omega,?_⟩;rw[←kkk t hj,←kkk t hi];exact h1
theorem zkj {t:PTree}{k:PKind}(hk:k∈t.kinds):(k.name,(⟨2,0,bE,kxk⟩:Ent))∈kqf (jk t):=by
 unfold kqf;exact rV _ (wU _ (tV.mpr ⟨k,hk,rY ..⟩))
theorem vqa {t:PTree}{k:PKind}(hk:k∈t.kinds){x:Tok}(hx:x∈k.members):(x,(⟨3,0,k.name.text,kxk⟩:Ent))∈kqf (jk t):=by
 unfold kqf;exact rV _ (wU _ (tV.mpr ⟨k,hk,rJ _ (tC (f:=fun x=>(x,(⟨3,0,k.name.text,kxk⟩:Ent))) hx)⟩))
theorem zwk {t:PTree}{v:PVar}(hv:v∈t.vars):(v.name,(⟨4,0,bE,yg v⟩:Ent))∈kqf (jk t):=by
 unfold kqf;exact rV _ (rV _ (wU _ (tV.mpr ⟨yg v,tC hv,tY.mpr rfl⟩)))
theorem qzl {v:PVar}(h:qyp v):((yg v).si.form==2)=(v.type_.kind.toList==[110,97,109,101])∧((v.type_.kind.toList==[110,97,109,101])=true→(yg v).si.name=v.type_):=by
 obtain ⟨_,h1|h1|h1⟩:=h
 ·obtain ⟨a,b,c⟩:=h1;unfold yg;simp only;rw[a,b];exact ⟨rfl,fun h=>by cases h⟩
 ·obtain ⟨a,b,c,d⟩:=h1;unfold yg;simp only;rw[a,b];exact ⟨rfl,fun h=>by cases h⟩
 ·obtain ⟨a,c⟩:=h1;unfold yg;simp only;rw[a];exact ⟨rfl,fun _=>rfl⟩
theorem jy9 {v:PVar}(h:qyp v):(yg v).arr=(v.over.kind.toList==[110,97,109,101]):=by
 obtain ⟨h1|h1,_⟩:=h
 ·unfold yg;simp only;rw[h1,kqh];rfl
 ·unfold yg;simp only;rw[h1];rw[rZ] at h1;rw[h1];rfl
theorem kyf (t:PTree)(n:Tok):qks (zl (jk t)) n=decide (ji (kj4 t) n.text.toList<0):=by
 unfold qks;by_cases h:ji (kj4 t) n.text.toList<0
 ·rw[ny h];have:¬(zk (zl (jk t)) n.text.toList).role=1:=fun e=>(qke t _).mp e h
  simp[this]
 ·rw[decide_eq_false h,(qke t _).mpr h];rfl
theorem jjv {t:PTree}(hv:∀ v∈t.vars,qyp v)(hr:∀ r∈t.rules,ky2 r)(hn:∀ r∈t.nevers,ky2 r∧r.body=.nil)(ho:TreeOrd t):kw0 (zl (jk t)) (jk t)=gy (zvn t) (jxm t):=by
 rw[zz1,zxv,qyk,jjw];have eall:((((jk t).sets.flatMap (fS (zl (jk t)))++(jk t).kinds.flatMap (fK (zl (jk t))))++(jk t).vars.flatMap (fV (zl (jk t))))++(jk t).rules.flatMap (fR (zl (jk t))))++(jk t).nevers.flatMap (fN (zl (jk t))) =
   ((t.sets.flatMap (fS (zl (jk t)))++t.kinds.flatMap (fK (zl (jk t))))++(t.vars.map yg).flatMap (fV (zl (jk t))))++(t.rules++t.nevers).flatMap (fR (zl (jk t))):=by
  rw[lV,←tK];congr 1
  show t.nevers.flatMap _=t.nevers.flatMap _;have:∀ l:List PRule,(∀ r∈l,r.body=.nil)→l.flatMap (fN (zl (jk t)))=l.flatMap (fR (zl (jk t))):=by
   intro l;induction l with
   | nil=>intro _;rfl
   | cons r l ih=>
    intro h;rw[lD,lD,ih fun r hr=>h r (rJ _ hr)];congr 1
    unfold fR;rw[h r (rY ..)];simp[zi]
  exact this _ fun r hr=>(hn r hr).2
 rw[eall];have hall:∀ r∈t.rules++t.nevers,ky2 r:=fun r h=>by
  rcases rC.mp h with h|h
  ·exact hr r h
  ·exact (hn r h).1
 have gv:∀ n∈zf t,kzx (zl (jk t)) n=true→n∈jr (dG (zf t)) (zf t) 0:=fun n hn hc=>by
  obtain ⟨i,hi,rfl⟩:=rP hn;obtain ⟨j,hj,e⟩:=(zkd ho hi).mp hc;rw[zvb];exact ⟨i,hi,rfl,j,hj,e⟩
 have inS:∀ s∈t.sets,s.name∈zf t:=fun s hs=>by
  unfold zf qyx zz0 zkp;exact wU _ (wU _ (wU _ (tV.mpr ⟨s,hs,tY.mpr rfl⟩)))
 have inK:∀ k∈t.kinds,∀ x∈kk2 k,x∈zf t:=fun k hk x hx=>by
  unfold zf qyx zz0;exact wU _ (wU _ (rV _ (tV.mpr ⟨k,hk,hx⟩)))
 have inV:∀ v∈t.vars,v.name∈zf t:=fun v hv=>by
  unfold zf qyx;exact wU _ (rV _ (tV.mpr ⟨v,hv,tY.mpr rfl⟩))
 have inR:∀ r∈t.rules++t.nevers,r.name∈zf t:=fun r hr=>by
  unfold zf;exact rV _ (tV.mpr ⟨r,hr,tY.mpr rfl⟩)
 have kN:∀ k∈t.kinds,∀ x∈kk2 k,x∈t.kinds.flatMap kk2:=fun k hk x hx=>tV.mpr ⟨k,hk,hx⟩
 apply vqb
 ·intro x hx;simp only[rC,tV] at hx;rcases hx with ((⟨s,hs,hx⟩|⟨k,hk,hx⟩)|⟨v',hv',hx⟩)|⟨r,hr',hx⟩
  ·unfold fS at hx;rw[jg] at hx;obtain ⟨hc,rfl⟩:=hx;exact ⟨_,wU _ (wU _ (gv _ (inS s hs) hc)),wX _⟩
  ·unfold fK at hx;rw[rC,jg,tV] at hx;rcases hx with ⟨hc,rfl⟩|⟨m,hm,hx⟩
   ·exact ⟨_,wU _ (wU _ (gv _ (inK k hk _ (rY ..)) hc)),wX _⟩
   ·unfold fM at hx;rw[jg] at hx;obtain ⟨hc,rfl⟩:=hx;exact ⟨_,wU _ (wU _ (gv _ (inK k hk _ (rJ _ hm)) hc)),wX _⟩
  ·obtain ⟨v,hvm,rfl⟩:=su.mp hv';have hok:=hv v hvm;unfold fV at hx;rw[rC,rC,jg,jg,jg,wG,wG,jy9 hok,kyf,(qzl hok).1] at hx;rcases hx with ⟨hc,rfl⟩|⟨⟨h1,h2⟩,rfl⟩|⟨⟨h1,h2⟩,rfl⟩
   ·exact ⟨_,wU _ (wU _ (gv _ (inV v hvm) hc)),wX _⟩
   ·refine ⟨v.over,rV _ (wU _ ?_),wX _⟩;rw[jf];obtain ⟨i,hi,rfl⟩:=rP hvm;refine ⟨i,hi,?_⟩;unfold uV;rw[rC,jg,wG];exact Or.inl ⟨⟨h1,h2⟩,rfl⟩
   ·rw[(qzl hok).2 h1] at h2 ⊢;unfold jjn at h2;rw[wG,kyf] at h2;by_cases hkd:ji (kjl t) v.type_.text.toList<0
    ·refine ⟨v.type_,rV _ (wU _ ?_),wX _⟩;rw[jf];obtain ⟨i,hi,rfl⟩:=rP hvm;refine ⟨i,hi,?_⟩;unfold uV;refine rV _ (jg.mpr ⟨?_,rfl⟩);rw[wG,wG];exact ⟨⟨h1,h2.2⟩,ny hkd⟩
    ·obtain ⟨hi,he⟩:=qq9 (show 0≤ji (kjl t) v.type_.text.toList by omega);have hi':(ji (kjl t) v.type_.text.toList).toNat<t.kinds.length:=by simpa[kjl] using hi
     have he':(t.kinds[(ji (kjl t) v.type_.text.toList).toNat]).name.text.toList=v.type_.text.toList:=by
      have:(kjl t)[(ji (kjl t) v.type_.text.toList).toNat]=(t.kinds[(ji (kjl t) v.type_.text.toList).toNat]).name.text:=by simp[kjl]
      rw[←this];exact he
     have hk:=wY hi';refine ⟨_,wU _ (wU _ (qz2 (zkj hk) ?_)),?_⟩
     ·simp only;rw[he'];intro e;rw[e] at h2;simp at h2
     ·refine Qg (ho.kv _ (kN _ hk _ (rY ..)) _ (tV.mpr ⟨v,hvm,?_⟩));unfold kw1 qq5;rw[h1];simp
  ·replace hr':r∈t.rules++t.nevers:=rC.mpr hr'
   have hok:=hall r hr';unfold fR fN at hx;rw[kjt hok.1,kzk hok.2.1] at hx;simp only[rC,jg,jf,tV] at hx;have use:∀ n:Tok,(n∈dh r.guard∨n∈kq0 r.body)→x∈fU (zl (jk t)) r.params n→∃ y∈(jr (dG (zf t)) (zf t) 0++jr (dR (zf t)) (t.rules++t.nevers) 0)++(jr (uV t) t.vars 0++jr (uR t) (t.rules++t.nevers) 0),y.at_≤x.at_:=by
    intro n hnm hx;have hmem:n∈kq5 r:=by
     unfold kq5;refine rJ _ (rV _ ?_);rcases hnm with h|h
     ·exact wU _ h
     ·exact rV _ h
    unfold fU at hx;rw[jg] at hx;obtain ⟨hc,rfl⟩:=hx;unfold jv9 at hc;simp only[wG,lQ,sD] at hc;by_cases hkn:qw9 t r.params x.text.toList=true
    ·unfold qw9 at hkn;simp only[lY,nG] at hkn;rcases hkn with (h1|h1)|h1
     ·obtain ⟨hi,y,hy,he⟩:=zyr h1;have hk:=wY hi;refine ⟨y,wU _ (wU _ (qz2 (vqa hk hy) ?_)),Qg (ho.kr _ (kN _ hk _ (rJ _ hy)) r hr' _ hmem)⟩;simp only;rw[he];exact hc.1.2
     ·obtain ⟨hi,he⟩:=qq9 h1;have hi':(ji (gq t) x.text.toList).toNat<t.vars.length:=by simpa[gq] using hi
      have he':(t.vars[(ji (gq t) x.text.toList).toNat]).name.text.toList=x.text.toList:=by
       have:(gq t)[(ji (gq t) x.text.toList).toNat]=(t.vars[(ji (gq t) x.text.toList).toNat]).name.text:=by simp[gq]
       rw[←this];exact he
      have hk:=wY hi';refine ⟨_,wU _ (wU _ (qz2 (zwk hk) ?_)),Qg (ho.vr _ (tV.mpr ⟨_,hk,rY ..⟩) r hr' _ hmem)⟩;simp only;rw[he'];exact hc.2
     ·have:=(zyj r.params x.text.toList).mpr hc.1.1;omega
    ·refine ⟨x,rV _ (rV _ ?_),wX _⟩;rw[jf];obtain ⟨i,hi,rfl⟩:=rP hr';refine ⟨i,hi,?_⟩;unfold uR;rw[rC];right
     rw[jf];obtain ⟨j,hj,rfl⟩:=rP (show x∈dh (t.rules++t.nevers)[i].guard++kq0 (t.rules++t.nevers)[i].body from rC.mpr hnm);refine ⟨j,hj,?_⟩;unfold uN;rw[jg];exact ⟨by simpa using hkn,rfl⟩
   rcases hx with ((⟨hc,rfl⟩|⟨k,hk,hx⟩)|⟨n,hnm,hx⟩)|⟨n,hnm,hx⟩
   ·exact ⟨_,wU _ (wU _ (gv _ (inR r hr') hc)),wX _⟩
   ·unfold fE at hx;rw[rC,jg,jg,kyf,lU] at hx;rcases hx with ⟨hc,rfl⟩|⟨hc,rfl⟩
    ·refine ⟨_,wU _ (rV _ ?_),wX _⟩;rw[jf];obtain ⟨i,hi,rfl⟩:=rP hr';refine ⟨i,hi,?_⟩;unfold dR;rw[jf];refine ⟨k,hk,?_⟩;unfold dP;rw[rC,lU];unfold jx7 at hc;rw[lY] at hc;rcases hc with hc|hc
     ·right
      obtain ⟨p,hp,e⟩:=(zq1 _ _).mp hc;rw[qq8 (g:=fun q:PP=>kqj (q.name.text.toList==_) _)];exact ⟨p,hp,by rw[jg,rZ];exact ⟨e,rfl⟩⟩
     ·left
      rw[qq8 (g:=fun y:Tok=>kqj (y.text.toList==_) _)];have:¬(zk (zl (jk t)) (t.rules++t.nevers)[i].params[k].name.text.toList).role=0:=by simpa using hc
      rw[zxb] at this;apply rD;intro h3;apply this;intro y hy e;exact h3 ⟨y,hy,by rw[jg,rZ];exact ⟨e,rfl⟩⟩
    ·refine ⟨_,rV _ (rV _ ?_),wX _⟩;rw[jf];obtain ⟨i,hi,rfl⟩:=rP hr';refine ⟨i,hi,?_⟩;unfold uR;rw[rC];left
     rw[jf];exact ⟨k,hk,by unfold uP;rw[jg];exact ⟨hc,rfl⟩⟩
   ·exact use n (Or.inl hnm) hx
   ·exact use n (Or.inr hnm) hx
 ·intro y hy;refine ⟨y,?_,wX _⟩;simp only[rC] at hy;rcases hy with (hy|hy)|(hy|hy)
  ·rw[zvb] at hy;obtain ⟨i,hi,rfl,hj⟩:=hy;have hc:=(zkd ho hi).mpr hj;have hm:=wY hi;generalize (zf t)[i]=n at hc hm;unfold zf qyx zz0 zkp at hm;simp only[rC,tV] at hm ⊢;rcases hm with ((⟨s,hs,hm⟩|⟨k,hk,hm⟩)|⟨v,hvm,hm⟩)|⟨r,hrm,hm⟩
   ·unfold zv9 at hm;rw[tY] at hm;subst hm;exact Or.inl (Or.inl (Or.inl ⟨s,hs,by unfold fS;rw[jg];exact ⟨hc,rfl⟩⟩))
   ·unfold kk2 at hm;refine Or.inl (Or.inl (Or.inr ⟨k,hk,?_⟩));unfold fK;rw[rC,jg,tV];rcases tX.mp hm with rfl|hm
    ·exact Or.inl ⟨hc,rfl⟩
    ·exact Or.inr ⟨n,hm,by unfold fM;rw[jg];exact ⟨hc,rfl⟩⟩
   ·unfold jyj at hm;rw[tY] at hm;subst hm;exact Or.inl (Or.inr ⟨yg v,tC hvm,by unfold fV;rw[rC,jg];exact Or.inl ⟨hc,rfl⟩⟩)
   ·unfold zqh at hm;rw[tY] at hm;subst hm;refine Or.inr ⟨r,hrm,?_⟩;unfold fR fN;exact wU _ (wU _ (wU _ (jg.mpr ⟨hc,rfl⟩)))
  ·rw[jf] at hy;obtain ⟨i,hi,hy⟩:=hy;unfold dR at hy;rw[jf] at hy;obtain ⟨k,hk,hy⟩:=hy;refine rV _ (tV.mpr ⟨_,wY hi,?_⟩);unfold fR fN;simp only[rC];refine Or.inl (Or.inl (Or.inr ?_));rw[jf];refine ⟨k,hk,?_⟩;unfold dP at hy;unfold fE;rw[rC,jg];rw[rC,lU,qq8 (g:=fun y:Tok=>kqj (y.text.toList==_) _),qq8 (g:=fun q:PP=>kqj (q.name.text.toList==_) _)] at hy;rw[lU];rcases hy with ⟨z,hz,hy⟩|⟨q,hq,hy⟩
   ·rw[jg,rZ] at hy;refine Or.inl ⟨?_,hy.2⟩;unfold jx7;have:¬(zk (zl (jk t)) (t.rules++t.nevers)[i].params[k].name.text.toList).role=0:=by
     rw[zxb];intro h3;exact h3 z hz hy.1
    simp[this]
   ·rw[jg,rZ] at hy;refine Or.inl ⟨?_,hy.2⟩;unfold jx7;rw[(zq1 _ _).mpr ⟨q,hq,hy.1⟩];rfl
  ·rw[jf] at hy;obtain ⟨i,hi,hy⟩:=hy;have hok:=hv _ (wY hi);refine wU _ (rV _ (tV.mpr ⟨_,tC (wY hi),?_⟩));unfold uV at hy;unfold fV;rw[rC,jg,jg] at hy;rw[rC,rC,jg,jg,jg,jy9 hok,kyf,(qzl hok).1];rcases hy with ⟨h1,h2⟩|⟨h1,h2⟩
   ·exact Or.inr (Or.inl ⟨h1,h2⟩)
   ·rw[wG,wG] at h1;refine Or.inr (Or.inr ⟨?_,by rw[(qzl hok).2 h1.1.1];exact h2⟩);rw[(qzl hok).2 h1.1.1,h1.1.1,Qr];unfold jjn;rw[kyf,h1.1.2,Zq];have hkd:=h1.2;rw[nG,kk1] at hkd;have:¬(zk (zl (jk t)) t.vars[i].type_.text.toList).role=2:=by
     intro e;rw[kjk] at e;rcases kjv (kqf (jk t)) t.vars[i].type_.text.toList with ⟨e2,_⟩|⟨j,hj,g1,g2,e2⟩
     ·rw[e2] at e;cases e
     ·rw[e2] at e;simp only at e;rcases kv4 _ _ (wY hj) with g|g|g|g|g|g
      ·have:=g.1;omega
      ·obtain ⟨_,k,hk,ek⟩:=g;exact hkd k.name.text (tC (f:=fun s:PKind=>s.name.text) hk) (by rw[←ek];exact g1)
      all_goals (have:=g.1;omega)
    simp[this]
  ·rw[jf] at hy;obtain ⟨i,hi,hy⟩:=hy;have hok:=hall _ (wY hi);refine rV _ (tV.mpr ⟨_,wY hi,?_⟩);unfold uR at hy;unfold fR fN;rw[kjt hok.1,kzk hok.2.1];simp only[rC,tV];rw[rC,jf,jf] at hy;rcases hy with ⟨k,hk,hy⟩|⟨k,hk,hy⟩
   ·unfold uP at hy;rw[jg] at hy;refine Or.inl (Or.inl (Or.inr ?_));rw[jf];refine ⟨k,hk,?_⟩;unfold fE;rw[rC,jg,jg,kyf];exact Or.inr hy
   ·unfold uN at hy;rw[jg] at hy;have hm:=wY hk;obtain ⟨hun,rfl⟩:=hy;generalize (dh (t.rules++t.nevers)[i].guard++kq0 (t.rules++t.nevers)[i].body)[k]=n at hun hm;have hval:n∈fU (zl (jk t)) (t.rules++t.nevers)[i].params n:=by
     unfold fU;rw[jg];refine ⟨?_,rfl⟩;unfold qw9 at hun;simp only[lQ,QG,decide_eq_false_iff_not] at hun;obtain ⟨⟨h1,h2⟩,h3⟩:=hun;unfold jv9;rw[(zyj _ _).mp (show _<_ by omega)];have hmem:=(zyn t.kinds n.text.toList).mp (by omega);have hvar:=(kk1 (gq t) n.text.toList).mp (by omega);have:¬(zk (zl (jk t)) n.text.toList).role=3∧¬(zk (zl (jk t)) n.text.toList).role=4:=by
      rw[kjk];rcases kjv (kqf (jk t)) n.text.toList with ⟨e2,_⟩|⟨j,hj,g1,g2,e2⟩
      ·rw[e2];exact ⟨by decide,by decide⟩
      ·rw[e2];simp only;rcases kv4 _ _ (wY hj) with g|g|g|g|g|g
       ·have:=g.1;omega
       ·have:=g.1;omega
       ·obtain ⟨_,k,hk,ek,_⟩:=g;exact (hmem k hk _ ek g1).elim
       ·obtain ⟨_,v,hv,ek,_⟩:=g;have hv2:v∈t.vars.map yg:=hv;obtain ⟨v0,hv0,rfl⟩:=su.mp hv2;refine (hvar v0.name.text (tC (f:=fun s:PVar=>s.name.text) hv0) ?_).elim;rw[←g1,ek];rfl
       ·have:=g.1;omega
       ·have:=g.1;omega
     simp[this.1,this.2]
    rcases rC.mp hm with hm|hm
    ·exact Or.inl (Or.inr ⟨n,hm,hval⟩)
    ·exact Or.inr ⟨n,hm,hval⟩
end Go.Proofs.YtpmcnonmkghokaaGreatDoor
