import Derived.Test.YtpmcnonmkghokaaGreatDoorT19
set_option linter.unusedVariables false
set_option linter.unusedSimpArgs false
namespace Go.Proofs.YtpmcnonmkghokaaGreatDoor
open Go.RowKit
def jxw (s:PSet):List (Tok × Ent):=[(s.name,⟨1,0,bE,kz0⟩)]
def jj2 (k:PKind):List (Tok × Ent):=(k.name,⟨2,0,bE,kz0⟩)::k.members.map (fun x=>(x,⟨3,0,k.name.text,kz0⟩))
def jqi (v:VrT):List (Tok × Ent):=[(v.name,⟨4,0,bE,v⟩)]
def jj0 (r:PRule):List (Tok × Ent):=[(r.name,⟨5,0,bE,kz0⟩)]
def jj1 (r:PRule):List (Tok × Ent):=[(r.name,⟨6,0,bE,kz0⟩)]
def kqe (m:MdL):List (Tok × Ent):=m.sets.flatMap jxw++(m.kinds.flatMap jj2++(m.vars.flatMap jqi++(m.rules.flatMap jj0++m.nevers.flatMap jj1)))
def jqf (t:Tab)(x:Tok × Ent):Tab:=kkl t x.1 x.2
theorem foldl_flat {α β γ:Type}(f:α→List β)(g:γ→β→γ):∀ (l:List α) (c:γ),(l.flatMap f).foldl g c=l.foldl (fun c x=>(f x).foldl g c) c
 | [],c=>rfl
 | x::l,c=>by rw[lU,lY,Qe,foldl_flat f g l]
theorem jqo (m:MdL):zx m=(kqe m).foldl jqf []:=by
 unfold zx gt4 gt3 gt2 gt1 kqe;rw[lY,lY,lY,lY,foldl_flat,foldl_flat,foldl_flat,foldl_flat,foldl_flat];have e:(fun (c:Tab) (k:PKind)=>(jj2 k).foldl jqf c)=gK:=by
  funext c k
  unfold jj2 gK;rw[Qe,List.foldl_map];rfl
 rw[e];rfl
def qyo (l:List (Tok × Ent))(s:List UInt8):Ent:=match l.find? (fun x=>x.1.text.toList==s) with|none=>zky|some x=>{ x.2 with place:=x.1.at_ }
theorem jqd {s:List UInt8}{u:Tab}:∀ {t:Tab},(qo t s).role≠0→qo (t++u) s=qo t s
 | [],h=>(h rfl).elim
 | x::l,h=>by
  rw[fD,qo,qo];rw[qo] at h;split
  ·rfl
  ·rename_i hx;rw[if_neg hx] at h;exact jqd h
theorem qwb {s:List UInt8}{u:Tab}:∀ {t:Tab},kkf t→(qo t s).role=0→qo (t++u) s=qo u s∧qo t s=zky
 | [],_,_=>⟨rfl,rfl⟩
 | x::l,ht,h=>by
  rw[fD,qo,qo];rw[qo] at h;split
  ·rename_i hx;rw[if_pos hx] at h;have:=ht x (rG ..);omega
  ·rename_i hx;rw[if_neg hx] at h;exact qwb (fun y hy=>ht y (rU _ hy)) h
theorem jwb {t:Tab}(ht:kkf t)(n:Tok)(e:Ent)(s:List UInt8):qo (kkl t n e) s=if (qo t s).role=0∧n.text.toList=s then { e with place:=n.at_ } else qo t s:=by
 unfold kkl;by_cases h0:(qo t n.text.toList).role=0
 ·rw[if_pos (by rw[wP];exact h0)];by_cases h1:(qo t s).role=0
  ·obtain ⟨a,b⟩:=qwb (u:=[(n.text,{ e with place:=n.at_ })]) ht h1;rw[a];by_cases h2:n.text.toList=s
   ·rw[if_pos ⟨h1,h2⟩,qo,if_pos (by rw[wP];exact h2)]
   ·rw[if_neg (fun h=>h2 h.2),qo,if_neg (by rw[wP];exact h2),b];rfl
  ·rw[jqd h1,if_neg (fun h=>h1 h.1)]
 ·rw[if_neg (by rw[wP];exact h0),if_neg];rintro ⟨h1,rfl⟩;exact h0 h1
theorem zkh {s:List UInt8}:∀ (l:List (Tok × Ent)) (t:Tab),kkf t→(∀ x∈l,1≤x.2.role)→qo (l.foldl jqf t) s=if (qo t s).role=0 then qyo l s else qo t s
 | [],t,ht,_=>by
  split
  ·rename_i h;exact (qwb (u:=[]) ht h).2
  ·rfl
 | x::l,t,ht,hl=>by
  rw[Qe,zkh l (jqf t x) (ky1 ht (hl x (rG ..))) (fun y hy=>hl y (rU _ hy))];have hg:=jwb ht x.1 x.2 s;have he:qo (jqf t x) s=qo (kkl t x.1 x.2) s:=rfl;rw[he];have hr:=hl x (rG ..);by_cases h0:(qo t s).role=0
  ·rw[if_pos h0];by_cases h1:x.1.text.toList=s
   ·rw[if_pos ⟨h0,h1⟩] at hg;rw[hg,if_neg (by show ¬x.2.role=0;omega)];unfold qyo;rw[List.find?_cons,show (x.1.text.toList==s)=true by rw[wP];exact h1]
   ·rw[if_neg (fun h=>h1 h.2)] at hg;rw[hg,if_pos h0];unfold qyo;rw[List.find?_cons,show (x.1.text.toList==s)=false by rw[lu];exact h1]
  ·rw[if_neg (fun h=>h0 h.1)] at hg;rw[hg,if_neg h0,if_neg h0]
theorem kvx (m:MdL):∀ x∈kqe m,(x.2.role=1∧∃ q∈m.sets,x.1=q.name)∨(x.2.role=2∧∃ k∈m.kinds,x.1=k.name)∨(x.2.role=3∧∃ k∈m.kinds,x.1∈k.members∧x.2.kind=k.name.text) ∨
  (x.2.role=4∧∃ v∈m.vars,x.1=v.name∧x.2.var=v)∨(x.2.role=5∧∃ r∈m.rules,x.1=r.name)∨(x.2.role=6∧∃ r∈m.nevers,x.1=r.name):=by
 intro x hx;unfold kqe at hx;simp only[rM,su] at hx;rcases hx with ⟨q,hq,hx⟩|⟨q,hq,hx⟩|⟨q,hq,hx⟩|⟨q,hq,hx⟩|⟨q,hq,hx⟩
 ·unfold jxw at hx;rw[tV] at hx;subst hx;exact Or.inl ⟨rfl,q,hq,rfl⟩
 ·unfold jj2 at hx;rw[tK,sV] at hx;rcases hx with rfl|⟨y,hy,rfl⟩
  ·exact Or.inr (Or.inl ⟨rfl,q,hq,rfl⟩)
  ·exact Or.inr (Or.inr (Or.inl ⟨rfl,q,hq,hy,rfl⟩))
 ·unfold jqi at hx;rw[tV] at hx;subst hx;exact Or.inr (Or.inr (Or.inr (Or.inl ⟨rfl,q,hq,rfl,rfl⟩)))
 ·unfold jj0 at hx;rw[tV] at hx;subst hx;exact Or.inr (Or.inr (Or.inr (Or.inr (Or.inl ⟨rfl,q,hq,rfl⟩))))
 ·unfold jj1 at hx;rw[tV] at hx;subst hx;exact Or.inr (Or.inr (Or.inr (Or.inr (Or.inr ⟨rfl,q,hq,rfl⟩))))
theorem zke (m:MdL):∀ x∈kqe m,1≤x.2.role:=fun x hx=>by
 rcases kvx m x hx with h|h|h|h|h|h<;>have:=h.1<;>omega
theorem kjy (m:MdL)(s:List UInt8):qo (zx m) s=qyo (kqe m) s:=by
 rw[jqo,zkh _ _ (fun x hx=>by cases hx) (zke m),if_pos (show (qo [] s).role=0 from rfl)]
theorem kju (l:List (Tok × Ent))(s:List UInt8):(qyo l s=zky∧∀ x∈l,x.1.text.toList≠s) ∨
  ∃ j,∃ hj:j<l.length,(l[j]).1.text.toList=s∧(∀ k (hk:k<j),(l[k]'(by omega)).1.text.toList≠s)∧qyo l s={ (l[j]).2 with place:=(l[j]).1.at_ }:=by
 unfold qyo;cases hf:l.find? (fun x=>x.1.text.toList==s) with
 | none=>
  refine Or.inl ⟨rfl,fun x hx=>?_⟩;have:=List.find?_eq_none.mp hf x hx;simpa using this
 | some b=>
  obtain ⟨h1,i,hi,e,h2⟩:=List.find?_eq_some_iff_getElem.mp hf;refine Or.inr ⟨i,hi,by rw[e];simpa using h1,fun k hk=>?_,by rw[e]⟩;have:=h2 k hk;simpa using this
theorem qkl (t:PTree):(kqe (jq t)).map (·.1)=zf t:=by
 unfold kqe zf qyl zzx zki jq;have e1:∀ l:List PSet,(l.flatMap jxw).map (·.1)=l.flatMap zvm:=fun l=>by rw[QK];rfl
 have e2:∀ l:List PKind,(l.flatMap jj2).map (·.1)=l.flatMap kkv:=fun l=>by
  rw[QK];congr 1
  funext k
  unfold jj2 kkv;rw[lC,fZ];congr 1
  exact JM _
 have e3:∀ l:List PVar,((l.map cu).flatMap jqi).map (·.1)=l.flatMap jys:=fun l=>by rw[List.flatMap_map,QK];rfl
 have e4:∀ l:List PRule,(l.flatMap jj0).map (·.1)=l.flatMap zj6:=fun l=>by rw[QK];rfl
 have e5:∀ l:List PRule,(l.flatMap jj1).map (·.1)=l.flatMap zj6:=fun l=>by rw[QK];rfl
 simp only[ng,e1,e2,e3,e4,e5,Qy,tX]
theorem kvk (t:PTree):(kqe (jq t)).length=(zf t).length:=by rw[←qkl,sG]
theorem kkn (t:PTree){i:Nat}(hi:i<(kqe (jq t)).length):((kqe (jq t))[i]).1=(zf t)[i]'(by rw[←kvk];exact hi):=by
 have:((kqe (jq t)).map (·.1))[i]'(by simpa using hi)=(zf t)[i]'(by rw[←kvk];exact hi):=by simp only[qkl]
 rw[←this,QW]
theorem kkk:∀ (l:List ByteArray) (s:List UInt8),vk l s<0↔∀ x∈l,x.toList≠s
 | [],s=>by simp[vk]
 | x::l,s=>by
  rw[vk];have ih:=kkk l s;by_cases h:x.toList=s
  ·rw[if_pos (by rw[wP];exact h)];constructor
   ·intro h0;omega
   ·intro h0;exact (h0 x (rG ..) h).elim
  ·rw[if_neg (by rw[wP];exact h)];constructor
   ·intro h0 y hy;have h1:vk l s<0:=by
     by_cases h1:vk l s<0
     ·exact h1
     ·rw[if_neg h1] at h0;omega
    rcases tK.mp hy with rfl|hy
    ·exact h
    ·exact ih.mp h1 y hy
   ·intro h0;rw[if_pos (ih.mpr fun y hy=>h0 y (rU _ hy))];omega
theorem qqt {l:List ByteArray}{s:List UInt8}(h:0≤vk l s):∃ hi:(vk l s).toNat<l.length,(l[(vk l s).toNat]).toList=s:=by
 induction l with
 | nil=>simp[vk] at h
 | cons x l ih=>
  rw[vk] at h;by_cases hx:x.toList=s
  ·have e:vk (x::l) s=0:=by rw[vk,if_pos (by rw[wP];exact hx)]
   rw[e];exact ⟨by simp,by simpa using hx⟩
  ·rw[if_neg (by rw[wP];exact hx)] at h;by_cases h1:vk l s<0
   ·rw[if_pos h1] at h;omega
   ·have e:vk (x::l) s=vk l s+1:=by rw[vk,if_neg (by rw[wP];exact hx),if_neg h1]
    obtain ⟨hi,he⟩:=ih (by omega);rw[e];have e2:(vk l s+1).toNat=(vk l s).toNat+1:=by omega
    refine ⟨by rw[e2];simpa using hi,?_⟩;simp only[e2,Ql];exact he
theorem jqx:∀ (l:List PKind) (s:List UInt8),(kyq l s).1<0↔∀ k∈l,∀ x∈k.members,x.text.toList≠s
 | [],s=>by simp[kyq]
 | k::l,s=>by
  have ih:=jqx l s;have h0:=kkk (kvf k) s;have h0':vk (kvf k) s<0↔∀ x∈k.members,x.text.toList≠s:=by
   rw[h0];unfold kvf;simp
  rw[kyq];by_cases h:0≤vk (kvf k) s
  ·rw[if_pos h];constructor
   ·intro h1;simp at h1
   ·intro h1;have:=h0'.mpr (h1 k (rG ..));omega
  ·rw[if_neg h];have hk:=h0'.mp (by omega);constructor
   ·intro h1 k' hk' x hx;have h2:(kyq l s).1<0:=by
     by_cases h2:(kyq l s).1<0
     ·exact h2
     ·rw[if_neg h2] at h1;simp only at h1;omega
    rcases tK.mp hk' with rfl|hk'
    ·exact hk x hx
    ·exact ih.mp h2 k' hk' x hx
   ·intro h1;rw[if_pos (ih.mpr fun k' hk'=>h1 k' (rU _ hk'))];simp
theorem jqz:∀ {l:List PKind} {s:List UInt8},0≤(kyq l s).1→∃ hi:(kyq l s).1.toNat<l.length,∃ x∈(l[(kyq l s).1.toNat]).members,x.text.toList=s
 | [],s,h=>by simp[kyq] at h
 | k::l,s,h=>by
  rw[kyq] at h;by_cases h0:0≤vk (kvf k) s
  ·have e:(kyq (k::l) s).1=0:=by rw[kyq,if_pos h0]
   obtain ⟨hi,he⟩:=qqt h0;rw[e];refine ⟨by simp,?_⟩;unfold kvf at hi he;rw[QW] at he;exact ⟨_,rJ (by simpa using hi),by simpa using he⟩
  ·rw[if_neg h0] at h;by_cases h1:(kyq l s).1<0
   ·rw[if_pos h1] at h;simp at h
   ·have e:(kyq (k::l) s).1=(kyq l s).1+1:=by rw[kyq,if_neg h0,if_neg h1]
    obtain ⟨hi,x,hx,he⟩:=jqz (l:=l) (s:=s) (by omega);rw[e];have e2:((kyq l s).1+1).toNat=(kyq l s).1.toNat+1:=by omega
    refine ⟨by rw[e2];simpa using hi,x,?_,he⟩;simp only[e2,Ql];exact hx
theorem zqg (l:List PP)(s:List UInt8):fpB l s=true↔∃ p∈l,p.name.text.toList=s:=by
 unfold fpB;rw[QY];simp
theorem zyf (l:List PP)(s:List UInt8):vk (zjh l) s<0↔fpB l s=false:=by
 rw[kkk];unfold zjh;cases h:fpB l s
 ·simp only[iff_true];intro x hx e;rw[sV] at hx;obtain ⟨p,hp,rfl⟩:=hx;have:=(zqg l s).mpr ⟨p,hp,e⟩;rw[h] at this;cases this
 ·obtain ⟨p,hp,e⟩:=(zqg l s).mp h;simp only[Bool.true_eq_false,iff_false];intro h2;exact h2 _ (tC hp) e
theorem qvk (t:PTree)(s:List UInt8):(qo (zx (jq t)) s).role=1↔¬vk (kj6 t) s<0:=by
 rw[kjy,kkk];constructor
 ·intro h hno;rcases kju (kqe (jq t)) s with ⟨e,_⟩|⟨j,hj,h1,h2,e⟩
  ·rw[e] at h;cases h
  ·rw[e] at h;simp only at h;rcases kvx _ _ (rJ hj) with g|g|g|g|g|g
   ·obtain ⟨_,q,hq,e1⟩:=g;exact hno q.name.text (tC hq) (by rw[←e1];exact h1)
   all_goals (have:=g.1;omega)
 ·intro h;have:∃ q∈t.sets,q.name.text.toList=s:=by
   apply sJ;intro h3;apply h;intro x hx;unfold kj6 at hx;rw[sV] at hx;obtain ⟨q,hq,rfl⟩:=hx;exact fun e=>h3 ⟨q,hq,e⟩
  obtain ⟨q,hq,e⟩:=this;unfold qyo kqe;rw[List.find?_append];cases hf:(((jq t).sets.flatMap jxw).find? (fun x=>x.1.text.toList==s)) with
  | none=>
   have:=List.find?_eq_none.mp hf (q.name,⟨1,0,bE,kz0⟩) (su.mpr ⟨q,hq,tV.mpr rfl⟩);simp only[wP] at this;exact (this e).elim
  | some b=>
   have hb:=List.mem_of_find?_eq_some hf;rw[su] at hb;obtain ⟨q2,_,hb⟩:=hb;unfold jxw at hb;rw[tV] at hb;subst hb;rfl
theorem zxi (t:PTree)(s:List UInt8):(qo (zx (jq t)) s).role=0↔∀ x∈zf t,x.text.toList≠s:=by
 rw[kjy,←qkl];rcases kju (kqe (jq t)) s with ⟨e,h⟩|⟨j,hj,h1,h2,e⟩
 ·rw[e];refine ⟨fun _ x hx=>?_,fun _=>rfl⟩;rw[sV] at hx;obtain ⟨y,hy,rfl⟩:=hx;exact h y hy
 ·rw[e];have:=zke _ _ (rJ hj);constructor
  ·intro h0;simp only at h0;omega
  ·intro h0;exact (h0 _ (tC (rJ hj)) h1).elim
theorem kjs:∀ {x:PX},kks x→jr x=yu x
 | .nil,h=>rfl
 | .node _ _ x a c,h=>by
  have own:qqd x=ownNames x:=by
   unfold qqd ownNames kjb;by_cases hp:x.op.toList=[112,108,97,99,101]
   ·have hop:(x.op.toList==[112,108,97,99,101])=true:=by rw[wP];exact hp
    simp only[hop,if_true];have hi:x.index=jk∨(x.index.kind.toList==[110,97,109,101])=true:=by
     rcases h with ⟨h1,_⟩|⟨h1,_⟩|⟨h1,_⟩
     ·rcases h1 with (h1|h1|h1)|⟨h1,_⟩|⟨_,_,h1⟩
      ·rw[hp] at h1;cases h1
      ·rw[hp] at h1;cases h1
      ·rw[hp] at h1;cases h1
      ·rw[hp] at h1;cases h1
      ·exact h1
     ·rw[hp] at h1;cases h1
     ·rw[hp] at h1;exact absurd h1 (by decide)
    rcases hi with hi|hi
    ·rw[hi,kjh];rfl
    ·rw[wP] at hi;rw[hi];rfl
   ·have hop:(x.op.toList==[112,108,97,99,101])=false:=by rw[lu];exact hp
    simp only[hop];rfl
  rw[jr,yu,own];rcases h with ⟨_,rfl,rfl⟩|⟨_,h2,rfl⟩|⟨_,h2,h3⟩
  ·rfl
  ·rw[kjs h2];rfl
  ·rw[kjs h2,kjs h3]
theorem kzp:∀ {b:PB},kw1 b→zh b=dh b
 | .nil,_=>rfl
 | .node _ _ a .nil n,⟨⟨h1,x,hx,ho⟩,h2,h3,h4⟩=>by
  rw[zh,dh,kzp h4,kwe,h3,kjs h2];have e:vqo a.place=yu a.place:=by
   have w:=kjs h1;rw[hx] at w ⊢;rw[←w];show kjb x.name x.index=(qqd x++[])++[];unfold qqd;rw[if_pos (by rw[wP];exact ho)];simp
  rw[e,show yu (Go.Deep.BT.nil:PX)=[] from rfl,ni]
 | .node _ _ a (.node _ _ _ t e) n,⟨h1,h2,h3,h4,h5,h6⟩=>by
  rw[zh,dh,kzp h4.1,kzp h5.1,kzp h6,kwe,h2,h3,kjs h1];rfl
def fS (tab:Tab)(s:PSet):List Tok:=kqz (kqh tab s.name) s.name
def fM (tab:Tab)(m:Tok):List Tok:=kqz (kqh tab m) m
def fK (tab:Tab)(k:PKind):List Tok:=kqz (kqh tab k.name) k.name++k.members.flatMap (fM tab)
def fV (tab:Tab)(v:VrT):List Tok:=kqz (kqh tab v.name) v.name++(kqz (v.arr&&qvq tab v.over) v.over++kqz ((v.si.form==2)&&jje tab v.si.name) v.si.name)
def fE (tab:Tab)(l:List PP)(i:Nat)(p:PP):List Tok:=kqz (jxy tab l i p) p.name++kqz (qvq tab p.set_) p.set_
def fU (tab:Tab)(l:List PP)(n:Tok):List Tok:=kqz (zvz tab l n) n
def fN (tab:Tab)(r:PRule):List Tok:=(kqz (kqh tab r.name) r.name++jl (fE tab r.params) r.params 0)++(jr r.guard).flatMap (fU tab r.params)
def fR (tab:Tab)(r:PRule):List Tok:=fN tab r++(zh r.body).flatMap (fU tab r.params)
theorem jjm (tab:Tab)(m:MdL):kkg tab m=dw (-1) ((((m.sets.flatMap (fS tab)++m.kinds.flatMap (fK tab))++m.vars.flatMap (fV tab))++m.rules.flatMap (fR tab))++m.nevers.flatMap (fN tab)):=by
 have g0:(-1:Int)≤-1:=by omega
 have val:∀ (l:List PP) (ns:List Tok) (a:Int),-1≤a→ns.foldl (kxs tab l) a=dw a (ns.flatMap (fU tab l)):=fun l ns a ha=>kxz (f:=kxs tab l) (g:=fU tab l) (fun a x _=>kjl _ _ _) ns a ha
 have nev:∀ (a:Int) (r:PRule),-1≤a→wN tab a r=dw a (fN tab r):=fun a r ha=>by
  unfold wN fN;rw[xu,xu,kjl];have g1:=kqv (kqz (kqh tab r.name) r.name) ha;rw[yh (g:=fE tab r.params) (fun a i x _=>by unfold zzy fE;rw[kjl,kjl,xu]) _ _ _ g1];exact val _ _ _ (kqv _ g1)
 have e1:wt1 tab m=dw (-1) (m.sets.flatMap (fS tab)):=kxz (fun a x _=>by unfold wS fS;exact kjl _ _ _) _ _ g0;have e2:wt2 tab m=dw (-1) (m.sets.flatMap (fS tab)++m.kinds.flatMap (fK tab)):=by
  unfold wt2;rw[e1,xu];exact kxz (fun a x ha=>by
   unfold wK fK;rw[kjl,xu];exact kxz (fun a x _=>by unfold wM fM;exact kjl _ _ _) _ _ (kqv _ ha)) _ _ (kqv _ g0)
 have e3:wt3 tab m=dw (-1) ((m.sets.flatMap (fS tab)++m.kinds.flatMap (fK tab))++m.vars.flatMap (fV tab)):=by
  unfold wt3;rw[e2];refine Eq.trans ?_ (xu _ _ _).symm;exact kxz (fun a x ha=>by
   unfold wV vzn fV;rw[xu,xu,kjl,kjl,kjl];cases hf:(x.si.form==2)
   ·rw[if_neg (by simp)];rfl
   ·rw[if_pos rfl];rfl) _ _ (kqv _ g0)
 have e4:wt4 tab m=dw (-1) (((m.sets.flatMap (fS tab)++m.kinds.flatMap (fK tab))++m.vars.flatMap (fV tab))++m.rules.flatMap (fR tab)):=by
  unfold wt4;rw[e3];refine Eq.trans ?_ (xu _ _ _).symm;exact kxz (fun a x ha=>by
   unfold fR;rw[xu,←nev a x ha];have g:=kqv (fN tab x) ha;rw[←nev a x ha] at g;exact val _ _ _ g) _ _ (kqv _ g0)
 unfold kkg;rw[e4];refine Eq.trans ?_ (xu _ _ _).symm;exact kxz nev _ _ (kqv _ g0)
def dG (g:List Tok)(i:Nat)(x:Tok):List Tok:=jl (fun _ y=>kqz (y.text.toList==x.text.toList) x) (g.take i) 0
def dP (g:List Tok)(ps:List PP)(k:Nat)(p:PP):List Tok:=jl (fun _ y=>kqz (y.text.toList==p.name.text.toList) p.name) g 0++jl (fun _ q=>kqz (q.name.text.toList==p.name.text.toList) p.name) (ps.take k) 0
def dR (g:List Tok)(_:Nat)(r:PRule):List Tok:=jl (dP g r.params) r.params 0
def uV (t:PTree)(_:Nat)(v:PVar):List Tok:=kqz ((v.over.kind.toList==[110,97,109,101])&&decide (vk (kj6 t) v.over.text.toList<0)) v.over ++
 kqz ((v.type_.kind.toList==[110,97,109,101])&&decide (vk (kj6 t) v.type_.text.toList<0)&&decide (vk (kja t) v.type_.text.toList<0)) v.type_
def uP (t:PTree)(_:Nat)(p:PP):List Tok:=kqz (decide (vk (kj6 t) p.set_.text.toList<0)) p.set_
def uN (t:PTree)(ps:List PP)(_:Nat)(n:Tok):List Tok:=kqz (!qwh t ps n.text.toList) n
def uR (t:PTree)(_:Nat)(r:PRule):List Tok:=jl (uP t) r.params 0++jl (uN t r.params) (yu r.guard++dh r.body) 0
theorem zzk (t:PTree):zw8 t=dw (-1) (jl (dG (zf t)) (zf t) 0++jl (dR (zf t)) (t.rules++t.nevers) 0):=by
 have g0:(-1:Int)≤-1:=by omega
 have sm:∀ (x:Tok) (l:List Tok) (a:Int),-1≤a→gy (jkq x) l 0 a=dw a (jl (fun _ y=>kqz (y.text.toList==x.text.toList) x) l 0):=fun x l a ha=>yh (fun a i y _=>by
  unfold jkq kqz;cases (y.text.toList==x.text.toList)<;>rfl) _ _ _ ha
 have sp:∀ (x:Tok) (l:List PP) (a:Int),-1≤a→gy (vqu x) l 0 a=dw a (jl (fun _ q=>kqz (q.name.text.toList==x.text.toList) x) l 0):=fun x l a ha=>yh (fun a i q _=>by
  unfold vqu kqz;cases (q.name.text.toList==x.text.toList)<;>rfl) _ _ _ ha
 unfold zw8;rw[xu,yh (f:=vjo (zf t)) (g:=dG (zf t)) (fun a i x ha=>by unfold vjo dG;exact sm _ _ _ ha) _ _ _ g0];exact yh (fun a i r ha=>by
  unfold vkw dR;exact yh (fun a k p ha=>by unfold vky dP;rw[xu,sm _ _ _ ha];exact sp _ _ _ (kqv _ ha)) _ _ _ ha) _ _ _ (kqv _ g0)
theorem zxn (t:PTree):jxi t=dw (-1) (jl (uV t) t.vars 0++jl (uR t) (t.rules++t.nevers) 0):=by
 have g0:(-1:Int)≤-1:=by omega
 unfold jxi vk8;rw[xu,yh (f:=jyf t) (g:=uV t) (fun a i x ha=>by
  unfold jyf uV vk4 vk6 kqz;rw[xu];cases (x.over.kind.toList==[110,97,109,101]&&decide (vk (kj6 t) x.over.text.toList<0))<;>cases (x.type_.kind.toList==[110,97,109,101]&&decide (vk (kj6 t) x.type_.text.toList<0)&&decide (vk (kja t) x.type_.text.toList<0))<;>rfl) _ _ _ g0]
 exact yh (fun a i r ha=>by
  unfold vk5 uR;rw[xu,yh (f:=jyo t) (g:=uP t) (fun a i p _=>by
   unfold jyo uP kqz;by_cases h:vk (kj6 t) p.set_.text.toList<0
   ·rw[if_pos h,if_pos (by simpa using h)];rfl
   ·rw[if_neg h,if_neg (by simpa using h)];rfl) _ _ _ ha]
  exact yh (fun a i n _=>by unfold vk7 uN kqz;cases qwh t r.params n.text.toList<;>rfl) _ _ _ (kqv _ ha)) _ _ _ (kqv _ g0)
theorem qql {α:Type}{f g:α→List Tok}(h:∀ x,(f x).Sublist (g x)):∀ l:List α,(l.flatMap f).Sublist (l.flatMap g)
 | []=>List.Sublist.slnil
 | x::l=>by rw[lU,lU];exact (h x).append (qql h l)
theorem qyn (t:PTree):(zf t).Sublist (kx0 t):=by
 unfold zf qyl zzx zki kx0;rw[Qy,tX,tX];refine (List.Sublist.refl _).append ((List.Sublist.refl _).append ?_);refine (qql (fun v=>?_) _).append ((qql (fun r=>?_) _).append (qql (fun r=>?_) _))
 ·exact (Jd _).cons_cons _
 ·exact (Jd _).cons_cons _
 ·exact (Jd _).cons_cons _
structure TreeOrd (t:PTree):Prop where
 glob:(zf t).Pairwise (fun a b=>a.at_<b.at_)
 kv:∀ x∈t.kinds.flatMap kkv,∀ y∈t.vars.flatMap kw2,x.at_<y.at_
 kr:∀ x∈t.kinds.flatMap kkv,∀ r∈t.rules++t.nevers,∀ y∈kq6 r,x.at_<y.at_
 vr:∀ x∈t.vars.flatMap kw2,∀ r∈t.rules++t.nevers,∀ y∈kq6 r,x.at_<y.at_
theorem vq0 {t:PTree}(h:(kx0 t).Pairwise (fun a b=>a.at_<b.at_)):TreeOrd t:=by
 have h':=h;unfold kx0 at h';rw[QZ,QZ,QZ] at h';obtain ⟨_,⟨_,⟨_,_,hvr⟩,hk⟩,_⟩:=h';have mem:∀ r∈t.rules++t.nevers,∀ y∈kq6 r,y∈t.rules.flatMap kq6++t.nevers.flatMap kq6:=fun r hr y hy=>by
  rw[←Qy];exact su.mpr ⟨r,hr,hy⟩
 exact ⟨h.sublist (qyn t),fun x hx y hy=>hk x hx y (wG _ hy),fun x hx r hr y hy=>hk x hx y (rW _ (mem r hr y hy)),fun x hx r hr y hy=>hvr x hx y (mem r hr y hy)⟩
theorem qqh {α:Type}{g:α→List Tok}{y:Tok}(l:List α):y∈jl (fun _=>g) l 0↔∃ x∈l,y∈g x:=by
 rw[je];constructor
 ·rintro ⟨i,hi,h⟩;exact ⟨_,rJ hi,h⟩
 ·rintro ⟨x,hx,h⟩;obtain ⟨i,hi,rfl⟩:=sZ hx;exact ⟨i,hi,h⟩
theorem zw2 {g:List Tok}{y:Tok}:y∈jl (dG g) g 0↔∃ i,∃ hi:i<g.length,y=g[i]∧∃ j,∃ hj:j<i,(g[j]'(by omega)).text.toList=(g[i]).text.toList:=by
 rw[je];constructor
 ·rintro ⟨i,hi,h⟩;unfold dG at h;rw[Qx,je] at h;obtain ⟨j,hj,h⟩:=h;rw[jd,wP,List.getElem_take] at h;have hj':j<i:=by simp at hj;omega
  exact ⟨i,hi,h.2,j,hj',h.1⟩
 ·rintro ⟨i,hi,rfl,j,hj,e⟩;refine ⟨i,hi,?_⟩;unfold dG;rw[Qx,je];refine ⟨j,by simp;omega,?_⟩;rw[jd,wP,List.getElem_take];exact ⟨e,rfl⟩
theorem zv0 {t:PTree}(ho:TreeOrd t){i:Nat}(hi:i<(zf t).length):kqh (zx (jq t)) (zf t)[i]=true↔∃ j,∃ hj:j<i,((zf t)[j]'(by omega)).text.toList=((zf t)[i]).text.toList:=by
 have hi':i<(kqe (jq t)).length:=by rw[kvk];exact hi
 unfold kqh;rw[kjy];rcases kju (kqe (jq t)) (zf t)[i].text.toList with ⟨_,h⟩|⟨j,hj,h1,h2,e⟩
 ·exact (h _ (rJ hi') (by rw[kkn])).elim
 ·rw[e];simp only;have hj':j<(zf t).length:=by rw[←kvk];exact hj
  rw[kkn t hj] at h1 ⊢;have hle:j≤i:=by
   apply sJ;intro hc;have:=h2 i (by omega);rw[kkn] at this;exact this rfl
  constructor
  ·intro h;refine ⟨j,?_,h1⟩;apply sJ;intro hc;have:j=i:=by omega
   subst this;simp at h
  ·rintro ⟨k,hk,e2⟩;have:j<i:=by
    apply sJ;intro hc;have:=h2 k (by omega);rw[kkn] at this;exact this e2
   have:=Jy.mp ho.glob j i (by omega) hi this;simp only[nP,lu];omega
theorem qzz {t:PTree}{x:Tok × Ent}(hx:x∈kqe (jq t))(hr:(qo (zx (jq t)) x.1.text.toList).role≠x.2.role):x.1∈jl (dG (zf t)) (zf t) 0:=by
 obtain ⟨i,hi,rfl⟩:=sZ hx;rw[kjy] at hr;rcases kju (kqe (jq t)) (kqe (jq t))[i].1.text.toList with ⟨_,h⟩|⟨j,hj,h1,h2,e⟩
 ·exact (h _ (rJ hi) rfl).elim
 ·rw[e] at hr;have hle:j≤i:=by
   apply sJ;intro hc;exact h2 i (by omega) rfl
  have hne:j≠i:=by rintro rfl;exact hr rfl
  rw[zw2];refine ⟨i,by rw[←kvk];exact hi,kkn t hi,j,by omega,?_⟩;rw[←kkn t hj,←kkn t hi];exact h1
theorem zkn {t:PTree}{k:PKind}(hk:k∈t.kinds):(k.name,(⟨2,0,bE,kz0⟩:Ent))∈kqe (jq t):=by
 unfold kqe;exact rW _ (wG _ (su.mpr ⟨k,hk,rG ..⟩))
theorem vju {t:PTree}{k:PKind}(hk:k∈t.kinds){x:Tok}(hx:x∈k.members):(x,(⟨3,0,k.name.text,kz0⟩:Ent))∈kqe (jq t):=by
 unfold kqe;exact rW _ (wG _ (su.mpr ⟨k,hk,rU _ (tC (f:=fun x=>(x,(⟨3,0,k.name.text,kz0⟩:Ent))) hx)⟩))
theorem zwf {t:PTree}{v:PVar}(hv:v∈t.vars):(v.name,(⟨4,0,bE,cu v⟩:Ent))∈kqe (jq t):=by
 unfold kqe;exact rW _ (rW _ (wG _ (su.mpr ⟨cu v,tC hv,tV.mpr rfl⟩)))
theorem qze {v:PVar}(h:qyi v):((cu v).si.form==2)=(v.type_.kind.toList==[110,97,109,101])∧((v.type_.kind.toList==[110,97,109,101])=true→(cu v).si.name=v.type_):=by
 obtain ⟨_,h1|h1|h1⟩:=h
 ·obtain ⟨a,b,c⟩:=h1;unfold cu;simp only;rw[a,b];exact ⟨rfl,fun h=>by cases h⟩
 ·obtain ⟨a,b,c,d⟩:=h1;unfold cu;simp only;rw[a,b];exact ⟨rfl,fun h=>by cases h⟩
 ·obtain ⟨a,c⟩:=h1;unfold cu;simp only;rw[a];exact ⟨rfl,fun _=>rfl⟩
theorem jyt {v:PVar}(h:qyi v):(cu v).arr=(v.over.kind.toList==[110,97,109,101]):=by
 obtain ⟨h1|h1,_⟩:=h
 ·unfold cu;simp only;rw[h1,kjh];rfl
 ·unfold cu;simp only;rw[h1];rw[wP] at h1;rw[h1];rfl
theorem qqq (t:PTree)(n:Tok):qvq (zx (jq t)) n=decide (vk (kj6 t) n.text.toList<0):=by
 unfold qvq;by_cases h:vk (kj6 t) n.text.toList<0
 ·rw[sD h];have:¬(qo (zx (jq t)) n.text.toList).role=1:=fun e=>(qvk t _).mp e h
  simp[this]
 ·rw[decide_eq_false h,(qvk t _).mpr h];rfl
theorem jjb {t:PTree}(hv:∀ v∈t.vars,qyi v)(hr:∀ r∈t.rules,ky6 r)(hn:∀ r∈t.nevers,ky6 r∧r.body=.nil)(ho:TreeOrd t):kkg (zx (jq t)) (jq t)=uf (zw8 t) (jxi t):=by
 rw[zzk,zxn,qys,jjm];have eall:((((jq t).sets.flatMap (fS (zx (jq t)))++(jq t).kinds.flatMap (fK (zx (jq t))))++(jq t).vars.flatMap (fV (zx (jq t))))++(jq t).rules.flatMap (fR (zx (jq t))))++(jq t).nevers.flatMap (fN (zx (jq t))) =
   ((t.sets.flatMap (fS (zx (jq t)))++t.kinds.flatMap (fK (zx (jq t))))++(t.vars.map cu).flatMap (fV (zx (jq t))))++(t.rules++t.nevers).flatMap (fR (zx (jq t))):=by
  rw[Qy,←tX];congr 1
  show t.nevers.flatMap _=t.nevers.flatMap _;have:∀ l:List PRule,(∀ r∈l,r.body=.nil)→l.flatMap (fN (zx (jq t)))=l.flatMap (fR (zx (jq t))):=by
   intro l;induction l with
   | nil=>intro _;rfl
   | cons r l ih=>
    intro h;rw[lU,lU,ih fun r hr=>h r (rU _ hr)];congr 1
    unfold fR;rw[h r (rG ..)];simp[zh]
  exact this _ fun r hr=>(hn r hr).2
 rw[eall];have hall:∀ r∈t.rules++t.nevers,ky6 r:=fun r h=>by
  rcases rM.mp h with h|h
  ·exact hr r h
  ·exact (hn r h).1
 have gv:∀ n∈zf t,kqh (zx (jq t)) n=true→n∈jl (dG (zf t)) (zf t) 0:=fun n hn hc=>by
  obtain ⟨i,hi,rfl⟩:=sZ hn;obtain ⟨j,hj,e⟩:=(zv0 ho hi).mp hc;rw[zw2];exact ⟨i,hi,rfl,j,hj,e⟩
 have inS:∀ s∈t.sets,s.name∈zf t:=fun s hs=>by
  unfold zf qyl zzx zki;exact wG _ (wG _ (wG _ (su.mpr ⟨s,hs,tV.mpr rfl⟩)))
 have inK:∀ k∈t.kinds,∀ x∈kkv k,x∈zf t:=fun k hk x hx=>by
  unfold zf qyl zzx;exact wG _ (wG _ (rW _ (su.mpr ⟨k,hk,hx⟩)))
 have inV:∀ v∈t.vars,v.name∈zf t:=fun v hv=>by
  unfold zf qyl;exact wG _ (rW _ (su.mpr ⟨v,hv,tV.mpr rfl⟩))
 have inR:∀ r∈t.rules++t.nevers,r.name∈zf t:=fun r hr=>by
  unfold zf;exact rW _ (su.mpr ⟨r,hr,tV.mpr rfl⟩)
 have kN:∀ k∈t.kinds,∀ x∈kkv k,x∈t.kinds.flatMap kkv:=fun k hk x hx=>su.mpr ⟨k,hk,hx⟩
 apply vj4
 ·intro x hx;simp only[rM,su] at hx;rcases hx with ((⟨s,hs,hx⟩|⟨k,hk,hx⟩)|⟨v',hv',hx⟩)|⟨r,hr',hx⟩
  ·unfold fS at hx;rw[jd] at hx;obtain ⟨hc,rfl⟩:=hx;exact ⟨_,wG _ (wG _ (gv _ (inS s hs) hc)),wW _⟩
  ·unfold fK at hx;rw[rM,jd,su] at hx;rcases hx with ⟨hc,rfl⟩|⟨m,hm,hx⟩
   ·exact ⟨_,wG _ (wG _ (gv _ (inK k hk _ (rG ..)) hc)),wW _⟩
   ·unfold fM at hx;rw[jd] at hx;obtain ⟨hc,rfl⟩:=hx;exact ⟨_,wG _ (wG _ (gv _ (inK k hk _ (rU _ hm)) hc)),wW _⟩
  ·obtain ⟨v,hvm,rfl⟩:=sV.mp hv';have hok:=hv v hvm;unfold fV at hx;rw[rM,rM,jd,jd,jd,wY,wY,jyt hok,qqq,(qze hok).1] at hx;rcases hx with ⟨hc,rfl⟩|⟨⟨h1,h2⟩,rfl⟩|⟨⟨h1,h2⟩,rfl⟩
   ·exact ⟨_,wG _ (wG _ (gv _ (inV v hvm) hc)),wW _⟩
   ·refine ⟨v.over,rW _ (wG _ ?_),wW _⟩;rw[je];obtain ⟨i,hi,rfl⟩:=sZ hvm;refine ⟨i,hi,?_⟩;unfold uV;rw[rM,jd,wY];exact Or.inl ⟨⟨h1,h2⟩,rfl⟩
   ·rw[(qze hok).2 h1] at h2 ⊢;unfold jje at h2;rw[wY,qqq] at h2;by_cases hkd:vk (kja t) v.type_.text.toList<0
    ·refine ⟨v.type_,rW _ (wG _ ?_),wW _⟩;rw[je];obtain ⟨i,hi,rfl⟩:=sZ hvm;refine ⟨i,hi,?_⟩;unfold uV;refine rW _ (jd.mpr ⟨?_,rfl⟩);rw[wY,wY];exact ⟨⟨h1,h2.2⟩,sD hkd⟩
    ·obtain ⟨hi,he⟩:=qqt (show 0≤vk (kja t) v.type_.text.toList by omega);have hi':(vk (kja t) v.type_.text.toList).toNat<t.kinds.length:=by simpa[kja] using hi
     have he':(t.kinds[(vk (kja t) v.type_.text.toList).toNat]).name.text.toList=v.type_.text.toList:=by
      have:(kja t)[(vk (kja t) v.type_.text.toList).toNat]=(t.kinds[(vk (kja t) v.type_.text.toList).toNat]).name.text:=by simp[kja]
      rw[←this];exact he
     have hk:=rJ hi';refine ⟨_,wG _ (wG _ (qzz (zkn hk) ?_)),?_⟩
     ·simp only;rw[he'];intro e;rw[e] at h2;simp at h2
     ·refine Qv (ho.kv _ (kN _ hk _ (rG ..)) _ (su.mpr ⟨v,hvm,?_⟩));unfold kw2 qqc;rw[h1];simp
  ·replace hr':r∈t.rules++t.nevers:=rM.mpr hr'
   have hok:=hall r hr';unfold fR fN at hx;rw[kjs hok.1,kzp hok.2.1] at hx;simp only[rM,jd,je,su] at hx;have use:∀ n:Tok,(n∈yu r.guard∨n∈dh r.body)→x∈fU (zx (jq t)) r.params n→∃ y∈(jl (dG (zf t)) (zf t) 0++jl (dR (zf t)) (t.rules++t.nevers) 0)++(jl (uV t) t.vars 0++jl (uR t) (t.rules++t.nevers) 0),y.at_≤x.at_:=by
    intro n hnm hx;have hmem:n∈kq6 r:=by
     unfold kq6;refine rU _ (rW _ ?_);rcases hnm with h|h
     ·exact wG _ h
     ·exact rW _ h
    unfold fU at hx;rw[jd] at hx;obtain ⟨hc,rfl⟩:=hx;unfold zvz at hc;simp only[wY,nP,lu] at hc;by_cases hkn:qwh t r.params x.text.toList=true
    ·unfold qwh at hkn;simp only[lg,nU] at hkn;rcases hkn with (h1|h1)|h1
     ·obtain ⟨hi,y,hy,he⟩:=jqz h1;have hk:=rJ hi;refine ⟨y,wG _ (wG _ (qzz (vju hk hy) ?_)),Qv (ho.kr _ (kN _ hk _ (rU _ hy)) r hr' _ hmem)⟩;simp only;rw[he];exact hc.1.2
     ·obtain ⟨hi,he⟩:=qqt h1;have hi':(vk (uh t) x.text.toList).toNat<t.vars.length:=by simpa[uh] using hi
      have he':(t.vars[(vk (uh t) x.text.toList).toNat]).name.text.toList=x.text.toList:=by
       have:(uh t)[(vk (uh t) x.text.toList).toNat]=(t.vars[(vk (uh t) x.text.toList).toNat]).name.text:=by simp[uh]
       rw[←this];exact he
      have hk:=rJ hi';refine ⟨_,wG _ (wG _ (qzz (zwf hk) ?_)),Qv (ho.vr _ (su.mpr ⟨_,hk,rG ..⟩) r hr' _ hmem)⟩;simp only;rw[he'];exact hc.2
     ·have:=(zyf r.params x.text.toList).mpr hc.1.1;omega
    ·refine ⟨x,rW _ (rW _ ?_),wW _⟩;rw[je];obtain ⟨i,hi,rfl⟩:=sZ hr';refine ⟨i,hi,?_⟩;unfold uR;rw[rM];right
     rw[je];obtain ⟨j,hj,rfl⟩:=sZ (show x∈yu (t.rules++t.nevers)[i].guard++dh (t.rules++t.nevers)[i].body from rM.mpr hnm);refine ⟨j,hj,?_⟩;unfold uN;rw[jd];exact ⟨by simpa using hkn,rfl⟩
   rcases hx with ((⟨hc,rfl⟩|⟨k,hk,hx⟩)|⟨n,hnm,hx⟩)|⟨n,hnm,hx⟩
   ·exact ⟨_,wG _ (wG _ (gv _ (inR r hr') hc)),wW _⟩
   ·unfold fE at hx;rw[rM,jd,jd,qqq,Qx] at hx;rcases hx with ⟨hc,rfl⟩|⟨hc,rfl⟩
    ·refine ⟨_,wG _ (rW _ ?_),wW _⟩;rw[je];obtain ⟨i,hi,rfl⟩:=sZ hr';refine ⟨i,hi,?_⟩;unfold dR;rw[je];refine ⟨k,hk,?_⟩;unfold dP;rw[rM,Qx];unfold jxy at hc;rw[lg] at hc;rcases hc with hc|hc
     ·right
      obtain ⟨p,hp,e⟩:=(zqg _ _).mp hc;rw[qqh (g:=fun q:PP=>kqz (q.name.text.toList==_) _)];exact ⟨p,hp,by rw[jd,wP];exact ⟨e,rfl⟩⟩
     ·left
      rw[qqh (g:=fun y:Tok=>kqz (y.text.toList==_) _)];have:¬(qo (zx (jq t)) (t.rules++t.nevers)[i].params[k].name.text.toList).role=0:=by simpa using hc
      rw[zxi] at this;apply sJ;intro h3;apply this;intro y hy e;exact h3 ⟨y,hy,by rw[jd,wP];exact ⟨e,rfl⟩⟩
    ·refine ⟨_,rW _ (rW _ ?_),wW _⟩;rw[je];obtain ⟨i,hi,rfl⟩:=sZ hr';refine ⟨i,hi,?_⟩;unfold uR;rw[rM];left
     rw[je];exact ⟨k,hk,by unfold uP;rw[jd];exact ⟨hc,rfl⟩⟩
   ·exact use n (Or.inl hnm) hx
   ·exact use n (Or.inr hnm) hx
 ·intro y hy;refine ⟨y,?_,wW _⟩;simp only[rM] at hy;rcases hy with (hy|hy)|(hy|hy)
  ·rw[zw2] at hy;obtain ⟨i,hi,rfl,hj⟩:=hy;have hc:=(zv0 ho hi).mpr hj;have hm:=rJ hi;generalize (zf t)[i]=n at hc hm;unfold zf qyl zzx zki at hm;simp only[rM,su] at hm ⊢;rcases hm with ((⟨s,hs,hm⟩|⟨k,hk,hm⟩)|⟨v,hvm,hm⟩)|⟨r,hrm,hm⟩
   ·unfold zvm at hm;rw[tV] at hm;subst hm;exact Or.inl (Or.inl (Or.inl ⟨s,hs,by unfold fS;rw[jd];exact ⟨hc,rfl⟩⟩))
   ·unfold kkv at hm;refine Or.inl (Or.inl (Or.inr ⟨k,hk,?_⟩));unfold fK;rw[rM,jd,su];rcases tK.mp hm with rfl|hm
    ·exact Or.inl ⟨hc,rfl⟩
    ·exact Or.inr ⟨n,hm,by unfold fM;rw[jd];exact ⟨hc,rfl⟩⟩
   ·unfold jys at hm;rw[tV] at hm;subst hm;exact Or.inl (Or.inr ⟨cu v,tC hvm,by unfold fV;rw[rM,jd];exact Or.inl ⟨hc,rfl⟩⟩)
   ·unfold zj6 at hm;rw[tV] at hm;subst hm;refine Or.inr ⟨r,hrm,?_⟩;unfold fR fN;exact wG _ (wG _ (wG _ (jd.mpr ⟨hc,rfl⟩)))
  ·rw[je] at hy;obtain ⟨i,hi,hy⟩:=hy;unfold dR at hy;rw[je] at hy;obtain ⟨k,hk,hy⟩:=hy;refine rW _ (su.mpr ⟨_,rJ hi,?_⟩);unfold fR fN;simp only[rM];refine Or.inl (Or.inl (Or.inr ?_));rw[je];refine ⟨k,hk,?_⟩;unfold dP at hy;unfold fE;rw[rM,jd];rw[rM,Qx,qqh (g:=fun y:Tok=>kqz (y.text.toList==_) _),qqh (g:=fun q:PP=>kqz (q.name.text.toList==_) _)] at hy;rw[Qx];rcases hy with ⟨z,hz,hy⟩|⟨q,hq,hy⟩
   ·rw[jd,wP] at hy;refine Or.inl ⟨?_,hy.2⟩;unfold jxy;have:¬(qo (zx (jq t)) (t.rules++t.nevers)[i].params[k].name.text.toList).role=0:=by
     rw[zxi];intro h3;exact h3 z hz hy.1
    simp[this]
   ·rw[jd,wP] at hy;refine Or.inl ⟨?_,hy.2⟩;unfold jxy;rw[(zqg _ _).mpr ⟨q,hq,hy.1⟩];rfl
  ·rw[je] at hy;obtain ⟨i,hi,hy⟩:=hy;have hok:=hv _ (rJ hi);refine wG _ (rW _ (su.mpr ⟨_,tC (rJ hi),?_⟩));unfold uV at hy;unfold fV;rw[rM,jd,jd] at hy;rw[rM,rM,jd,jd,jd,jyt hok,qqq,(qze hok).1];rcases hy with ⟨h1,h2⟩|⟨h1,h2⟩
   ·exact Or.inr (Or.inl ⟨h1,h2⟩)
   ·rw[wY,wY] at h1;refine Or.inr (Or.inr ⟨?_,by rw[(qze hok).2 h1.1.1];exact h2⟩);rw[(qze hok).2 h1.1.1,h1.1.1,Qz];unfold jje;rw[qqq,h1.1.2,Ja];have hkd:=h1.2;rw[nU,kkk] at hkd;have:¬(qo (zx (jq t)) t.vars[i].type_.text.toList).role=2:=by
     intro e;rw[kjy] at e;rcases kju (kqe (jq t)) t.vars[i].type_.text.toList with ⟨e2,_⟩|⟨j,hj,g1,g2,e2⟩
     ·rw[e2] at e;cases e
     ·rw[e2] at e;simp only at e;rcases kvx _ _ (rJ hj) with g|g|g|g|g|g
      ·have:=g.1;omega
      ·obtain ⟨_,k,hk,ek⟩:=g;exact hkd k.name.text (tC (f:=fun s:PKind=>s.name.text) hk) (by rw[←ek];exact g1)
      all_goals (have:=g.1;omega)
    simp[this]
  ·rw[je] at hy;obtain ⟨i,hi,hy⟩:=hy;have hok:=hall _ (rJ hi);refine rW _ (su.mpr ⟨_,rJ hi,?_⟩);unfold uR at hy;unfold fR fN;rw[kjs hok.1,kzp hok.2.1];simp only[rM,su];rw[rM,je,je] at hy;rcases hy with ⟨k,hk,hy⟩|⟨k,hk,hy⟩
   ·unfold uP at hy;rw[jd] at hy;refine Or.inl (Or.inl (Or.inr ?_));rw[je];refine ⟨k,hk,?_⟩;unfold fE;rw[rM,jd,jd,qqq];exact Or.inr hy
   ·unfold uN at hy;rw[jd] at hy;have hm:=rJ hk;obtain ⟨hun,rfl⟩:=hy;generalize (yu (t.rules++t.nevers)[i].guard++dh (t.rules++t.nevers)[i].body)[k]=n at hun hm;have hval:n∈fU (zx (jq t)) (t.rules++t.nevers)[i].params n:=by
     unfold fU;rw[jd];refine ⟨?_,rfl⟩;unfold qwh at hun;simp only[nP,fC,decide_eq_false_iff_not] at hun;obtain ⟨⟨h1,h2⟩,h3⟩:=hun;unfold zvz;rw[(zyf _ _).mp (show _<_ by omega)];have hmem:=(jqx t.kinds n.text.toList).mp (by omega);have hvar:=(kkk (uh t) n.text.toList).mp (by omega);have:¬(qo (zx (jq t)) n.text.toList).role=3∧¬(qo (zx (jq t)) n.text.toList).role=4:=by
      rw[kjy];rcases kju (kqe (jq t)) n.text.toList with ⟨e2,_⟩|⟨j,hj,g1,g2,e2⟩
      ·rw[e2];exact ⟨by decide,by decide⟩
      ·rw[e2];simp only;rcases kvx _ _ (rJ hj) with g|g|g|g|g|g
       ·have:=g.1;omega
       ·have:=g.1;omega
       ·obtain ⟨_,k,hk,ek,_⟩:=g;exact (hmem k hk _ ek g1).elim
       ·obtain ⟨_,v,hv,ek,_⟩:=g;have hv2:v∈t.vars.map cu:=hv;obtain ⟨v0,hv0,rfl⟩:=sV.mp hv2;refine (hvar v0.name.text (tC (f:=fun s:PVar=>s.name.text) hv0) ?_).elim;rw[←g1,ek];rfl
       ·have:=g.1;omega
       ·have:=g.1;omega
     simp[this.1,this.2]
    rcases rM.mp hm with hm|hm
    ·exact Or.inl (Or.inr ⟨n,hm,hval⟩)
    ·exact Or.inr ⟨n,hm,hval⟩
end Go.Proofs.YtpmcnonmkghokaaGreatDoor
