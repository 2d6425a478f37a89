import Derived.Test.YtpmcnonmkghokaaGreatDoorT08
import Derived.Test.YtpmcnonmkghokaaGreatDoorT05
import Derived.Laws.AppendOwnNone
set_option maxHeartbeats 4000000
set_option maxRecDepth 100000
set_option linter.unusedVariables false
set_option linter.unusedSimpArgs false
namespace Go.Proofs.YtpmcnonmkghokaaGreatDoor
open Go.Proofs.Tryz
open Go.RowKit
variable {a:Act}{ops:Array Oper}{Q:Exit->Act->World->Prop}{rest:List Oper}{L l:List Tok}{cs ds zs:List Value}{A B0 B1 P b base e lo lo' n size:Nat}{o:Obj}{x:Operand}{s:RS}{t:Tok}{u v x0 x1 x2 x3 x4 y:Value}{U w w' w0 wx wy:World}
def qvs (s:PSet):List Value:=[.string s.name.text,.int .i64 s.name.at_,.int .i64 (kq8 s.size.text),.int .i64 s.size.at_]
def zwz (l:List PSet):List Value:=l.flatMap qvs
def vxv (l:List VrT):List Value:=l.flatMap kjp
theorem vju (l:List PSet)(p:PSet):zwz (l++[p])=zwz l++qvs p:=by simp[zwz]
theorem vj7 (l:List VrT)(p:VrT):vxv (l++[p])=vxv l++kjp p:=by simp[vxv]
def kxz (lo:Nat)(w:World):List PKind->List Value->Prop
 |[],cs=>cs=[]
 |k::ks,cs=>∃ma mn mc rest,cs=[.string k.name.text,.int .i64 k.name.at_,.slice ma mn mc]++rest/\w.ownsRow lo 107 2 (.slice ma mn mc) k.members.length (kqe k.members)/\kxz lo w ks rest
theorem kxz.stay {lo:Nat}{w w':World}(a:∀k,lo<=k->k<w.heap.size->w'.heap[k]?=w.heap[k]?):∀{ks:List PKind} {cs:List Value},kxz lo w ks cs->kxz lo w' ks cs
 |[],_,h=>h
 |k::ks,_,⟨ma,mn,mc,rest,e,h1,h2⟩=>⟨ma,mn,mc,rest,e,jq a h1,kxz.stay a h2⟩
theorem kxz.mono {lo lo':Nat}{w:World}(a:lo'<=lo):∀{ks:List PKind} {cs:List Value},kxz lo w ks cs->kxz lo' w ks cs
 |[],_,h=>h
 |k::ks,_,⟨ma,mn,mc,rest,e,h1,h2⟩=>⟨ma,mn,mc,rest,e,zu a h1,kxz.mono a h2⟩
theorem kxz.app {lo:Nat}{w:World}:∀{ks js:List PKind} {cs ds:List Value},kxz lo w ks cs->kxz lo w js ds->kxz lo w (ks++js) (cs++ds)
 |[],_,cs,ds,h,h'=>by
  have:cs=[]:=h;subst this;exact h'
 |k::ks,_,cs,ds,⟨ma,mn,mc,rest,e,h1,h2⟩,h'=>⟨ma,mn,mc,rest++ds,lK,h1,h2.app h'⟩
theorem kxz.grown {lo base e size:Nat}{w w':World}{v:Value}{n:Nat}{zs:List Value}(c:w.ownsRow base e size v n zs)(a:107≠e)(b:w.grownBy w' v.ownBlock):∀{ks:List PKind} {cs:List Value},kxz lo w ks cs->kxz lo w' ks cs
 |[],_,h=>h
 |k::ks,_,⟨ma,mn,mc,rest,e1,h1,h2⟩=>⟨ma,mn,mc,rest,e1,ji h1 c a b,kxz.grown c a b h2⟩
theorem BIs.qqh {lo base e size:Nat}{no:Option Nat}{w w':World}{v:Value}{n:Nat}{zs:List Value}(d:w.ownsRow base e size v n zs)(f:334≠e)(g:358≠e)(c:w.grownBy w' v.ownBlock):∀{b:PB} {cs:List Value},BIs lo no w b cs->BIs lo no w' b cs
 |.nil,_,h=>h
 |.node _ _ a .nil n,cs,⟨p,rest,e,h1,hn⟩=>⟨p,rest,e,h1.grown d g c,BIs.qqh d f g c hn⟩
 |.node _ _ a (.node _ _ _ t e) n,cs,⟨p,ta,tn,tc,ea,en,ec,ct,ce,rest,e1,h1,⟨ht1,ht3,ht2⟩,⟨he1,he3,he2⟩,hn⟩=>
  ⟨p,ta,tn,tc,ea,en,ec,ct,ce,rest,e1,h1.grown d g c,⟨ji ht1 d f c,ht3,BIs.qqh d f g c ht2⟩,⟨ji he1 d f c,he3,BIs.qqh d f g c he2⟩,BIs.qqh d f g c hn⟩
theorem kxq.grown {lo base e size:Nat}{w w':World}{v:Value}{n:Nat}{zs:List Value}(b:w.ownsRow base e size v n zs)(f:352≠e)(c:334≠e)(d:358≠e)(a:w.grownBy w' v.ownBlock):∀{rs:List PRule} {cs:List Value},kxq lo w rs cs->kxq lo w' rs cs
 |[],_,h=>h
 |r::rs,_,⟨pa,pn,pc,gp,ba,bn,bc,bcs,rest,e1,h1,h2,h3,h4,h5⟩=>⟨pa,pn,pc,gp,ba,bn,bc,bcs,rest,e1,ji h1 b f a,h2.grown b d a,ji h3 b c a,h4.qqh b c d a,kxq.grown b f c d a h5⟩
theorem kxj.grown {lo base e size:Nat}{w w':World}{v:Value}{n:Nat}{zs:List Value}(b:w.ownsRow base e size v n zs)(c:352≠e)(d:358≠e)(a:w.grownBy w' v.ownBlock):∀{rs:List PRule} {cs:List Value},kxj lo w rs cs->kxj lo w' rs cs
 |[],_,h=>h
 |r::rs,_,⟨pa,pn,pc,gp,rest,e1,h1,h2,h5⟩=>⟨pa,pn,pc,gp,rest,e1,ji h1 b c a,h2.grown b d a,kxj.grown b c d a h5⟩
structure MdL where
 sets:List PSet
 kinds:List PKind
 vars:List VrT
 rules:List PRule
 nevers:List PRule
variable {m:MdL}
structure kvm (lo:Nat)(w:World)(x0 x1 x2 x3 x4:Value)(m:MdL):Prop where
 o0:w.ownsRow lo 111 4 x0 m.sets.length (zwz m.sets)
 o1:∃cs,w.ownsRow lo 114 3 x1 m.kinds.length cs/\kxz lo w m.kinds cs
 o2:w.ownsRow lo 121 10 x2 m.vars.length (vxv m.vars)
 o3:∃cs,w.ownsRow lo 127 5 x3 m.rules.length cs/\kxq lo w m.rules cs
 o4:∃cs,w.ownsRow lo 130 4 x4 m.nevers.length cs/\kxj lo w m.nevers cs
theorem kvm.stay (a:∀k,lo<=k->k<w.heap.size->w'.heap[k]?=w.heap[k]?)(h:kvm lo w x0 x1 x2 x3 x4 m):kvm lo w' x0 x1 x2 x3 x4 m:=by
 obtain⟨b,⟨c1,h1,k1⟩,c,⟨c3,d,k3⟩,⟨c4,e,k4⟩⟩:=h;exact⟨jq a b,⟨c1,jq a h1,k1.stay a⟩,jq a c,⟨c3,jq a d,k3.stay a⟩,⟨c4,jq a e,k4.stay a⟩⟩
theorem kvm.mono (a:lo'<=lo)(h:kvm lo w x0 x1 x2 x3 x4 m):kvm lo' w x0 x1 x2 x3 x4 m:=by
 obtain⟨b,⟨c1,h1,k1⟩,c,⟨c3,d,k3⟩,⟨c4,e,k4⟩⟩:=h;exact⟨zu a b,⟨c1,zu a h1,k1.mono a⟩,zu a c,⟨c3,zu a d,k3.mono a⟩,⟨c4,zu a e,k4.mono a⟩⟩
structure kze (w:World)(P:Nat)(v:Value)(L:List Tok)(B0 B1:Nat)(x0 x1 x2 x3 x4:Value)(m:MdL)(s:RS)(wx:World):Prop where
 b0:wx.heap[B0]?=some (.cells #[.slice none 0 0,.slice none 0 0,.slice none 0 0,.slice none 0 0,.slice none 0 0] 68 (0,0))
 b1:wx.heap[B1]?=some (.cells #[x0,x1,x2,x3,x4] 68 (0,0))
 md:kvm (B1+1) wx x0 x1 x2 x3 x4 m
 pd:Pd wx P v L s
 kept:Kept P w wx
theorem kze.kept' {c: RS}  (h:kze w P v L B0 B1 x0 x1 x2 x3 x4 m s wx)(a:Kept P wx wy)(d:Pd wy P v L c)(f:P<B0)(h1:P<B1):kze w P v L B0 B1 x0 x1 x2 x3 x4 m c wy:=
 ⟨a.row aj h.b0,a.row aj h.b1,h.md.stay (λk e b=>a.block k b aj),d,h.kept.trans a⟩
theorem kze.grow {x:Value}  (i:Nat)(h:kze w P v L B0 B1 x0 x1 x2 x3 x4 m s wx)(a:(wx.alloc o).grownBy wy x.ownBlock)(c:∀k,x.ownBlock=some k->B1+1<=k)(f:∀g,v.ownBlock=some g->g<w.heap.size)(l:P<w.heap.size)(j:w.heap.size=B0)(u:B0<B1):
  (wy.setCell ⟨B1,i,none⟩ y).heap[B0]?=some (.cells #[.slice none 0 0,.slice none 0 0,.slice none 0 0,.slice none 0 0,.slice none 0 0] 68 (0,0))/\(wy.setCell ⟨B1,i,none⟩ y).heap[B1]?=some (.cells (#[x0,x1,x2,x3,x4].setIfInBounds i y) 68 (0,0))/\Pd (wy.setCell ⟨B1,i,none⟩ y) P v L s/\Kept P w (wy.setCell ⟨B1,i,none⟩ y) /\
  (∀k,B1+1<=k->k<wy.heap.size->(wy.setCell ⟨B1,i,none⟩ y).heap[k]?=wy.heap[k]?)/\∀k,B1+1<=k->k<wx.heap.size->(wx.alloc o).heap[k]?=wx.heap[k]?:=by
 subst j;have q:=wu h.b0;have t:=wu h.b1;have e:∀b,b<=B1->b<wx.heap.size->wy.heap[b]?=wx.heap[b]?:=λb hb p=>(a.block _ ay (λe=>by have:=c _ e.symm;omega)).trans (tX _ _ _ p)
 exact⟨by rw[wP _ _ _ _ ay,e _ aj q];exact h.b0,heap_setCell_same _ _ i _ _ _ ((e _ aj t).trans h.b1),((h.pd.alloc o).grown a c (λg a=>by have:=f g a;omega) aj).setOther (B:=w.heap.size) f l ay _,((h.kept.alloc o).grown a (λk d=>by have:=c k d;omega)).jk ay _,λk d _=>wP _ _ _ _ ay,λk _ d=>tX _ _ _ d⟩
theorem kze.more0 {e:PSet}  (h:kze w P v L B0 B1 x0 x1 x2 x3 x4 m s wx)(a:(wx.alloc o).grownBy wy x0.ownBlock)
  (d:wy.ownsRow (B1+1) 111 4 y (m.sets.length+1) (zwz m.sets++qvs e)) (A:∀g,v.ownBlock=some g->g<w.heap.size) (B:P<w.heap.size) (i:w.heap.size=B0) (j:B0<B1):kze w P v L B0 B1 y x1 x2 x3 x4 {m with sets:=m.sets++[e]} s (wy.setCell ⟨B1,0,none⟩ y):=by
 obtain⟨f,⟨c1,h1,k1⟩,u,⟨c3,x,k3⟩,⟨c4,z,k4⟩⟩:=h.md;have b:=f.alloc o;obtain⟨l,p,q,t,st,c⟩:=h.grow (y:=y) 0 a (xg f) A B i j;have K:=λ{ks cs} (k:kxz (B1+1) wx ks cs)=>(kxz.grown b ak a (k.stay c)).stay st
 have R:=λ{ks cs} (k:kxq (B1+1) wx ks cs)=>(kxq.grown b ak ak ak a (k.stay c)).stay st
 have N:=λ{ks cs} (k:kxj (B1+1) wx ks cs)=>(kxj.grown b ak ak a (k.stay c)).stay st
 exact⟨l,p,⟨by simp only;rw[vju,wY];exact jq st d,⟨c1,jq st (ji (h1.alloc o) b ak a),K k1⟩,jq st (ji (u.alloc o) b ak a),⟨c3,jq st (ji (x.alloc o) b ak a),R k3⟩,⟨c4,jq st (ji (z.alloc o) b ak a),N k4⟩⟩,q,t⟩
theorem kze.more1 {e : PKind}  (h : kze w P v L B0 B1 x0 x1 x2 x3 x4 m s wx) (a : (wx.alloc o).grownBy wy x1.ownBlock)
   (f : wy.ownsRow (B1 + 1) 114 3 y (m.kinds.length + 1) (cs ++ ds)) (l : kxz (B1 + 1) wx m.kinds cs) (d : kxz (B1 + 1) wx [e] ds) (C : ∀g,v.ownBlock = some g->g < w.heap.size) (D : P < w.heap.size) (i : w.heap.size = B0) (j : B0 < B1) : kze w P v L B0 B1 x0 y x2 x3 x4 {m with kinds:=m.kinds ++ [e]} s (wy.setCell ⟨B1,1,none⟩ y):=by
 obtain⟨x,⟨c1,h1,k1⟩,z,⟨c3,A,k3⟩,⟨c4,B,k4⟩⟩:=h.md
 have b:=h1.alloc o
 obtain⟨p,q,t,u,st,c⟩:=h.grow (y:=y) 1 a (xg h1) C D i j
 have K:=λ{ks cs} (k : kxz (B1 + 1) wx ks cs)=>(kxz.grown b ak a (k.stay c)).stay st
 have R:=λ{ks cs} (k : kxq (B1 + 1) wx ks cs)=>(kxq.grown b ak ak ak a (k.stay c)).stay st
 have N:=λ{ks cs} (k : kxj (B1 + 1) wx ks cs)=>(kxj.grown b ak ak a (k.stay c)).stay st
 exact⟨p,q,⟨jq st (ji (x.alloc o) b ak a),⟨cs ++ ds,kJ,K (l.app d)⟩,jq st (ji (z.alloc o) b ak a),⟨c3,jq st (ji (A.alloc o) b ak a),R k3⟩,⟨c4,jq st (ji (B.alloc o) b ak a),N k4⟩⟩,t,u⟩
theorem kze.more2 {e:VrT}  (h:kze w P v L B0 B1 x0 x1 x2 x3 x4 m s wx)(a:(wx.alloc o).grownBy wy x2.ownBlock)
  (d:wy.ownsRow (B1+1) 121 10 y (m.vars.length+1) (vxv m.vars++kjp e)) (A:∀g,v.ownBlock=some g->g<w.heap.size) (B:P<w.heap.size) (i:w.heap.size=B0) (j:B0<B1):kze w P v L B0 B1 x0 x1 y x3 x4 {m with vars:=m.vars++[e]} s (wy.setCell ⟨B1,2,none⟩ y):=by
 obtain⟨u,⟨c1,h1,k1⟩,f,⟨c3,x,k3⟩,⟨c4,z,k4⟩⟩:=h.md;have b:=f.alloc o;obtain⟨l,p,q,t,st,c⟩:=h.grow (y:=y) 2 a (xg f) A B i j;have K:=λ{ks cs} (k:kxz (B1+1) wx ks cs)=>(kxz.grown b ak a (k.stay c)).stay st
 have R:=λ{ks cs} (k:kxq (B1+1) wx ks cs)=>(kxq.grown b ak ak ak a (k.stay c)).stay st
 have N:=λ{ks cs} (k:kxj (B1+1) wx ks cs)=>(kxj.grown b ak ak a (k.stay c)).stay st
 exact⟨l,p,⟨jq st (ji (u.alloc o) b ak a),⟨c1,jq st (ji (h1.alloc o) b ak a),K k1⟩,by simp only;rw[vj7,wY];exact jq st d,⟨c3,jq st (ji (x.alloc o) b ak a),R k3⟩,⟨c4,jq st (ji (z.alloc o) b ak a),N k4⟩⟩,q,t⟩
theorem kze.more3 {e : PRule}  (h : kze w P v L B0 B1 x0 x1 x2 x3 x4 m s wx) (a : (wx.alloc o).grownBy wy x3.ownBlock)
   (f : wy.ownsRow (B1 + 1) 127 5 y (m.rules.length + 1) (cs ++ ds)) (p : kxq (B1 + 1) wx m.rules cs) (d : kxq (B1 + 1) wx [e] ds) (C : ∀g,v.ownBlock = some g->g < w.heap.size) (D : P < w.heap.size) (j : w.heap.size = B0) (l : B0 < B1) : kze w P v L B0 B1 x0 x1 x2 y x4 {m with rules:=m.rules ++ [e]} s (wy.setCell ⟨B1,3,none⟩ y):=by
 obtain⟨z,⟨c1,h1,k1⟩,A,⟨c3,i,k3⟩,⟨c4,B,k4⟩⟩:=h.md
 have b:=i.alloc o
 obtain⟨q,t,u,x,st,c⟩:=h.grow (y:=y) 3 a (xg i) C D j l
 have K:=λ{ks cs} (k : kxz (B1 + 1) wx ks cs)=>(kxz.grown b ak a (k.stay c)).stay st
 have R:=λ{ks cs} (k : kxq (B1 + 1) wx ks cs)=>(kxq.grown b ak ak ak a (k.stay c)).stay st
 have N:=λ{ks cs} (k : kxj (B1 + 1) wx ks cs)=>(kxj.grown b ak ak a (k.stay c)).stay st
 exact⟨q,t,⟨jq st (ji (z.alloc o) b ak a),⟨c1,jq st (ji (h1.alloc o) b ak a),K k1⟩,jq st (ji (A.alloc o) b ak a),⟨cs ++ ds,kJ,R (p.app d)⟩,⟨c4,jq st (ji (B.alloc o) b ak a),N k4⟩⟩,u,x⟩
theorem kze.more4 {e : PRule}  (h : kze w P v L B0 B1 x0 x1 x2 x3 x4 m s wx) (a : (wx.alloc o).grownBy wy x4.ownBlock)
   (f : wy.ownsRow (B1 + 1) 130 4 y (m.nevers.length + 1) (cs ++ ds)) (p : kxj (B1 + 1) wx m.nevers cs) (d : kxj (B1 + 1) wx [e] ds) (C : ∀g,v.ownBlock = some g->g < w.heap.size) (D : P < w.heap.size) (j : w.heap.size = B0) (l : B0 < B1) : kze w P v L B0 B1 x0 x1 x2 x3 y {m with nevers:=m.nevers ++ [e]} s (wy.setCell ⟨B1,4,none⟩ y):=by
 obtain⟨z,⟨c1,h1,k1⟩,A,⟨c3,B,k3⟩,⟨c4,i,k4⟩⟩:=h.md
 have b:=i.alloc o
 obtain⟨q,t,u,x,st,c⟩:=h.grow (y:=y) 4 a (xg i) C D j l
 have K:=λ{ks cs} (k : kxz (B1 + 1) wx ks cs)=>(kxz.grown b ak a (k.stay c)).stay st
 have R:=λ{ks cs} (k : kxq (B1 + 1) wx ks cs)=>(kxq.grown b ak ak ak a (k.stay c)).stay st
 have N:=λ{ks cs} (k : kxj (B1 + 1) wx ks cs)=>(kxj.grown b ak ak a (k.stay c)).stay st
 exact⟨q,t,⟨jq st (ji (z.alloc o) b ak a),⟨c1,jq st (ji (h1.alloc o) b ak a),K k1⟩,jq st (ji (A.alloc o) b ak a),⟨c3,jq st (ji (B.alloc o) b ak a),R k3⟩,⟨cs ++ ds,kJ,N (p.app d)⟩⟩,u,x⟩
def jd (a b:Int):Int:=if a<0\/(0<=b/\b<a) then b else a
theorem first_any (a b:Int)(w:World):qJ 63 #[.int .i64 a,.int .i64 b] w λe w'=>e=.returned (.int .i64 (jd a b))/\w'=w:=by
 by_cases h1:a<0
 ·go_enter func63,ntmps63
  go_wp2
  go_ret
  exact⟨kqv (by simp[jd,h1]),rfl⟩
 ·by_cases c:0<=b
  ·by_cases d:b<a
   ·go_enter func63,ntmps63
    go_wp2
    go_ret
    exact⟨kqv (by rw[jd,if_pos (Or.inr ⟨aj,aj⟩)]),rfl⟩
   ·go_enter func63,ntmps63
    go_wp2
    go_ret
    exact⟨kqv (by rw[jd,if_neg aj]),rfl⟩
  ·go_enter func63,ntmps63
   go_wp2
   go_ret
   exact⟨kqv (by rw[jd,if_neg aj]),rfl⟩
def kx1 (n a:Int)(t:Tok):Int:=if n==a then t.at_ else -1
theorem kyz (n m:Int)(t:Tok)(w:World):qJ 110 #[.int .i64 n,.int .i64 m,kx2 t] w λe w'=>e=.returned (.int .i64 (kx1 n m t))/\pU w w':=by
 unfold kx2;cases h:(n==m);all_goals
  go_enter func110,ntmps110
  go_wp2
  go_ret
  exact⟨kqv (by simp[kx1,h]),below_alloc1 _ _⟩
def zzf (t:Tok)(lo hi:Int):Int:=if kq8 t.text<lo\/hi<kq8 t.text then t.at_ else -1
theorem vqx (t:Tok)(lo hi:Int)(w:World)(d:∃h:0<t.text.size,48<=((t.text[0]'h).toNat:Int)/\((t.text[0]'h).toNat:Int)<=57):
  qJ 111 #[kx2 t,.int .i64 lo,.int .i64 hi] w λe w'=>e=.returned (.int .i64 (zzf t lo hi))/\pU w w':=by
 obtain⟨a,h1,f⟩:=d;have b:=pG (show kq8 t.text=((t.text[0]'a).toNat:Int)-48 by simp[kq8,a]);unfold kx2;by_cases c:((t.text[0]'a).toNat:Int)-48<lo
 ·go_enter func111,ntmps111
  go_wp2
  go_ret
  exact⟨kqv (by rw[zzf,ku b,if_pos (Or.inl c)]),below_alloc1 _ _⟩
 ·by_cases g:hi<((t.text[0]'a).toNat:Int)-48
  ·go_enter func111,ntmps111
   go_wp2
   go_ret
   exact⟨kqv (by rw[zzf,ku b,if_pos (Or.inr aj)]),below_alloc1 _ _⟩
  ·go_enter func111,ntmps111
   go_wp2
   go_ret
   exact⟨kqv (by rw[zzf,ku b,if_neg aj]),below_alloc1 _ _⟩
def qh:List ByteArray->List UInt8->Int
 |[],_=>-1
 |t::l,s=>if t.toList==s then 0 else if qh l s<0 then -1 else qh l s+1
theorem qye:∀(l:List ByteArray) (s:List UInt8),-1<=qh l s/\qh l s<l.length
 |[],_=>by simp[qh]
 |t::l,s=>by
  have a:=qye l s;rw[qh];split
  ·simp
  ·split
   ·simp;omega
   ·simp;omega
theorem kwf:∀(l:List ByteArray) (s:List UInt8),(∀i,i<l.length->((l.getD i ByteArray.empty).toList==s)=false)->qh l s=-1
 |[],_,_=>rfl
 |t::l,s,h=>by
  have a:=h 0 au;have b:=kwf l s (λi hi=>by have:=h (i+1) iq;simpa using this);simp at a;rw[qh,if_neg lq,b];rfl
theorem kye:∀(l:List ByteArray) (s:List UInt8) (k:Nat),k<l.length->(∀i,i<k->((l.getD i ByteArray.empty).toList==s)=false)->((l.getD k ByteArray.empty).toList==s)=true->qh l s=k
 |[],_,k,hk,_,_=>by simp at hk
 |t::l,s,0,_,_,h=>by
  rw[qh,if_pos iw];rfl
 |t::l,s,k+1,hk,hn,h=>by
  have a:=hn 0 aj;have b:=kye l s k (by simpa using hk) (λi hi=>by have:=hn (i+1) aj;simpa using this) iw;simp at a;rw[qh,if_neg lq,b,if_neg aj];omega
theorem xq {α:Type}(f:α->List Value)(n:Nat)(b:∀x,(f x).length=n):∀(l:List α) (i j:Nat) (hi:i<l.length),j<n->(l.flatMap f)[i*n+j]?=(f l[i])[j]?
 |[],i,_,hi,_=>lW
 |a::l,0,j,_,hj=>by
  simp only[Qb,Nat.zero_mul,QU,Qi];rw[JZ (by rw[b];exact hj)]
 |a::l,i+1,j,hi,hj=>by
  have c:=xq f n b l i j iq hj;simp only[Qb,Jy];rw[rD (by rw[b,ZU];omega),b,show(i+1)*n+j-n=i*n+j by rw[ZU];omega];exact c
theorem kq5 {xs:List Value}(h:w.ownsRow lo e size v n xs):
  ∃a cap,v=.slice a n cap/\∀i,i<n->∃g,a=some ⟨g,0,none⟩/\∀j,j<n*size->w.cell? ⟨g,j,none⟩=xs[j]?:=by
 rcases h.2 with⟨rfl,rfl⟩|⟨g,cap,f,rfl,p,c,k,l,m,b⟩
 ·exact⟨none,0,rfl,λi hi=>aj⟩
 ·refine⟨_,cap,rfl,λi hi=>⟨g,rfl,λj d=>?_⟩⟩;rw[QK w g j _ _ _ c,<-b,Qo d];simp
def dh (t:PTree):List ByteArray:=t.sets.map (λs=>s.name.text)
theorem set_any (w:World)(T:Nat)(t:PTree)(s:ByteArray)(h:kqr w T t)(D:t.sets.length<=801):
  qJ 113 #[.pointer (some ⟨T,0,none⟩),.string s] w λe w'=>e=.returned (.int .i64 (qh (dh t) s.toList))/\w'=w:=by
 obtain⟨x0,x1,x2,x3,x4,y1,y3,y4,p,u,_⟩:=h;obtain⟨E,F,G,H,I,_⟩:=kxh p;obtain⟨a,cap,rfl,c⟩:=kq5 u;have z:=pG c;clear c u p;go_enter func113,ntmps113
 go_wp2
 go_loop [5] (λi=>∃k:Nat,k<=t.sets.length/\i=.int .i64 k/\∀j,j<k->(((dh t).getD j ByteArray.empty).toList==s.toList)=false) (λi=>t.sets.length-(intOf i).toNat)
 case atStart=>exact⟨0,rW _,rfl,λj B=>aj⟩
 case round=>
  obtain⟨k,C,rfl,f⟩:=hrel;have l:=pG f;clear f;by_cases b:k<t.sets.length
  ·obtain⟨g,rfl,q⟩:=ku z k b;have v:(dh t).getD k ByteArray.empty=(t.sets[k]).name.text:=by simp[dh,b]
   have d:w.cell? ⟨g,k*6+1,none⟩=some (.string (t.sets[k]).name.text):=by
    rw[q _ aj];exact xq kz6 6 (λ_=>rfl) t.sets k 1 b aj
   rw[<-v]at d;generalize y:(dh t).getD k ByteArray.empty=x at d;have m:=pG y;clear q v y;go_wp2
   ·go_ret
    exact⟨kqv (kye _ _ k (by simpa[dh] using b) (ku l) (by rw[ku m];assumption)).symm,rfl⟩
   ·have A:(x.toList==s.toList)=false:=by assumption
    go_round
    case rel=>exact⟨k+1,aj,eu,λj B=>if e:j=k then by rw[e,ku m];exact A else ku l j aj⟩
    case measure=>exact qQ
  ·go_wp2
   go_ret
   exact⟨kqv (kwf _ _ (λi hi=>ku l i (by simp[dh]at hi;omega))).symm,rfl⟩
theorem qqd {lo:Nat}{w:World}:∀{ks:List PKind} {xs:List Value} (i:Nat) (hi:i<ks.length),kz3 lo w ks xs ->
  ∃vm,xs[i*4]?=some (.string (ks[i]).name.kind)/\xs[i*4+1]?=some (.string (ks[i]).name.text)/\xs[i*4+2]?=some (.int .i64 (ks[i]).name.at_)/\xs[i*4+3]?=some vm/\w.ownsRow lo 142 3 vm (ks[i]).members.length (uq (ks[i]).members)
 |[],_,i,hi,_=>lW
 |k::ks,xs,0,_,⟨vm,ys,e,h1,h2⟩=>by subst e;exact⟨vm,rfl,rfl,rfl,rfl,h1⟩
 |k::ks,xs,i+1,hi,⟨vm,ys,e,h1,h2⟩=>by
  subst e;have b:=qqd i iq h2;have a:∀j,(jr k.name++vm::ys)[j+4]?=ys[j]?:=λj=>by
   rw[rD (by simp[jr])];simp[jr]
  rw[show(i+1)*4=i*4+4 by omega,show i*4+4+1=(i*4+1)+4 by omega,show i*4+4+2=(i*4+2)+4 by omega,show i*4+4+3=(i*4+3)+4 by omega,a,a,a,a];exact b
theorem kvl {lo:Nat}{w:World}:∀{rs:List PRule} {xs:List Value} (i:Nat) (hi:i<rs.length),kq3 lo w rs xs ->
  ∃vp vg vb ps,(xs[i*6]?=some (.string (rs[i]).name.kind)/\xs[i*6+1]?=some (.string (rs[i]).name.text)/\xs[i*6+2]?=some (.int .i64 (rs[i]).name.at_)/\xs[i*6+3]?=some vp/\xs[i*6+4]?=some vg/\xs[i*6+5]?=some vb) /\
   w.ownsRow lo 236 6 vp (rs[i]).params.length (kjh (rs[i]).params)/\yj lo w (rs[i]).guard vg/\w.ownsRow lo 245 1 vb ps.length ps/\jm lo none w (rs[i]).body ps
 |[],_,i,hi,_=>lW
 |r::rs,xs,0,_,⟨vp,vg,vb,ps,ys,e,h1,h2,h3,h4,h5⟩=>by subst e;exact⟨vp,vg,vb,ps,⟨rfl,rfl,rfl,rfl,rfl,rfl⟩,h1,h2,h3,h4⟩
 |r::rs,xs,i+1,hi,⟨vp,vg,vb,ps,ys,e,h1,h2,h3,h4,h5⟩=>by
  subst e;have b:=kvl i iq h5;have a:∀j,(jr r.name++vp::vg::vb::ys)[j+6]?=ys[j]?:=λj=>by
   rw[rD (by simp[jr])];simp[jr]
  rw[show(i+1)*6=i*6+6 by omega,show i*6+6+1=(i*6+1)+6 by omega,show i*6+6+2=(i*6+2)+6 by omega,show i*6+6+3=(i*6+3)+6 by omega,show i*6+6+4=(i*6+4)+6 by omega,show i*6+6+5=(i*6+5)+6 by omega,a,a,a,a,a,a];exact b
def pq (t:PTree):List ByteArray:=t.kinds.map (λs=>s.name.text)
theorem zj8 (w:World)(T:Nat)(t:PTree)(s:ByteArray)(h:kqr w T t)(F:t.kinds.length<=801):
  qJ 114 #[.pointer (some ⟨T,0,none⟩),.string s] w λe w'=>e=.returned (.int .i64 (qh (pq t) s.toList))/\w'=w:=by
 obtain⟨x0,x1,x2,x3,x4,y1,y3,y4,p,_,⟨v,u⟩,_⟩:=h;obtain⟨G,H,I,J,K,_⟩:=kxh p;obtain⟨a,cap,rfl,c⟩:=kq5 v;have A:=pG c;clear c v p;go_enter func114,ntmps114
 go_wp2
 go_loop [5] (λi=>∃k:Nat,k<=t.kinds.length/\i=.int .i64 k/\∀j,j<k->(((pq t).getD j ByteArray.empty).toList==s.toList)=false) (λi=>t.kinds.length-(intOf i).toNat)
 case atStart=>exact⟨0,rW _,rfl,λj D=>aj⟩
 case round=>
  obtain⟨k,E,rfl,f⟩:=hrel;have l:=pG f;clear f;by_cases b:k<t.kinds.length
  ·obtain⟨g,rfl,q⟩:=ku A k b;have y:(pq t).getD k ByteArray.empty=(t.kinds[k]).name.text:=by simp[pq,b]
   have d:w.cell? ⟨g,k*4+1,none⟩=some (.string (t.kinds[k]).name.text):=by
    rw[q _ aj];obtain⟨L,_,B,_⟩:=qqd k b u;exact B
   rw[<-y]at d;generalize z:(pq t).getD k ByteArray.empty=x at d;have m:=pG z;clear q y z;go_wp2
   ·go_ret
    exact⟨kqv (kye _ _ k (by simpa[pq] using b) (ku l) (by rw[ku m];assumption)).symm,rfl⟩
   ·have C:(x.toList==s.toList)=false:=by assumption
    go_round
    case rel=>exact⟨k+1,aj,eu,λj D=>if e:j=k then by rw[e,ku m];exact C else ku l j aj⟩
    case measure=>exact qQ
  ·go_wp2
   go_ret
   exact⟨kqv (kwf _ _ (λi hi=>ku l i (by simp[pq]at hi;omega))).symm,rfl⟩
def zx (t:PTree):List ByteArray:=t.vars.map (λs=>s.name.text)
theorem ky6 (w:World)(T:Nat)(t:PTree)(s:ByteArray)(h:kqr w T t)(D:t.vars.length<=801):
  qJ 119 #[.pointer (some ⟨T,0,none⟩),.string s] w λe w'=>e=.returned (.int .i64 (qh (zx t) s.toList))/\w'=w:=by
 obtain⟨x0,x1,x2,x3,x4,y1,y3,y4,p,_,_,u,_⟩:=h;obtain⟨E,F,G,H,I,_⟩:=kxh p;obtain⟨a,cap,rfl,c⟩:=kq5 u;have z:=pG c;clear c u p;go_enter func119,ntmps119
 go_wp2
 go_loop [5] (λi=>∃k:Nat,k<=t.vars.length/\i=.int .i64 k/\∀j,j<k->(((zx t).getD j ByteArray.empty).toList==s.toList)=false) (λi=>t.vars.length-(intOf i).toNat)
 case atStart=>exact⟨0,rW _,rfl,λj B=>aj⟩
 case round=>
  obtain⟨k,C,rfl,f⟩:=hrel;have l:=pG f;clear f;by_cases b:k<t.vars.length
  ·obtain⟨g,rfl,q⟩:=ku z k b;have v:(zx t).getD k ByteArray.empty=(t.vars[k]).name.text:=by simp[zx,b]
   have d:w.cell? ⟨g,k*12+1,none⟩=some (.string (t.vars[k]).name.text):=by
    rw[q _ aj];exact xq kqu 12 (λ_=>rfl) t.vars k 1 b aj
   rw[<-v]at d;generalize y:(zx t).getD k ByteArray.empty=x at d;have m:=pG y;clear q v y;go_wp2
   ·go_ret
    exact⟨kqv (kye _ _ k (by simpa[zx] using b) (ku l) (by rw[ku m];assumption)).symm,rfl⟩
   ·have A:(x.toList==s.toList)=false:=by assumption
    go_round
    case rel=>exact⟨k+1,aj,eu,λj B=>if e:j=k then by rw[e,ku m];exact A else ku l j aj⟩
    case measure=>exact qQ
  ·go_wp2
   go_ret
   exact⟨kqv (kwf _ _ (λi hi=>ku l i (by simp[zx]at hi;omega))).symm,rfl⟩
def kqh (k:PKind):List ByteArray:=k.members.map (λm=>m.text)
def kqa:List PKind->List UInt8->Int×Int
 |[],_=>(-1,-1)
 |k::ks,s=>if 0<=qh (kqh k) s then (0,qh (kqh k) s) else if (kqa ks s).1<0 then (-1,-1) else ((kqa ks s).1+1,(kqa ks s).2)
theorem zys:∀(l:List PKind) (s:List UInt8),(∀i (hi:i<l.length),qh (kqh l[i]) s=-1)->kqa l s=(-1,-1)
 |[],_,_=>rfl
 |t::l,s,h=>by
  have a:=h 0 au;have b:=zys l s (λi hi=>by have:=h (i+1) iq;simpa using this);simp at a;rw[kqa,if_neg aj,b];rfl
theorem jk1:∀(l:List PKind) (s:List UInt8) (k:Nat) (hk:k<l.length),(∀i (hi:i<k),qh (kqh (l[i]'aj)) s=-1)->0<=qh (kqh l[k]) s->kqa l s=((k:Int),qh (kqh l[k]) s)
 |[],_,k,hk,_,_=>by simp at hk
 |t::l,s,0,_,_,h=>by
  simp only[Qi]at h |-;rw[kqa,if_pos h];rfl
 |t::l,s,k+1,hk,hn,h=>by
  have a:=hn 0 aj;have b:=jk1 l s k (by simpa using hk) (λi hi=>by have:=hn (i+1) aj;simpa using this) iw;simp only[Qi]at a;simp only[Jy];rw[kqa,if_neg aj,b];simp only;rw[if_neg aj];congr 1
theorem qxi (l:List Tok)(j:Nat)(a:j<l.length):(uq l)[j*3+1]?=some (.string (l[j]).text):=xq jr 3 (λ_=>rfl) l j 1 a aj
theorem qwb (w:World)(T:Nat)(t:PTree)(s:ByteArray)(h:kqr w T t)(O:t.kinds.length<=801)(P:∀k∈t.kinds,k.members.length<=801):
  qJ 178 #[.pointer (some ⟨T,0,none⟩),.string s] w λe w'=>e=.returned (.tuple #[.int .i64 (kqa t.kinds s.toList).1,.int .i64 (kqa t.kinds s.toList).2])/\w'=w:=by
 obtain⟨x0,x1,x2,x3,x4,y1,y3,y4,M,_,⟨R,u⟩,_⟩:=h;obtain⟨q0,q1,q2,q3,q4,_⟩:=kxh M;obtain⟨a,cap,rfl,f⟩:=kq5 R;have W:=pG f;have E:=pG u;have V:=pG P;clear f R M u P;go_enter func178,ntmps178
 go_wp2
 go_loop [6,7] (λi _=>∃k:Nat,k<=t.kinds.length/\i=.int .i64 k/\∀j (D:j<k) (O:k<=t.kinds.length),qh (kqh (t.kinds[j]'aj)) s.toList=-1) (λi _=>t.kinds.length-(intOf i).toNat)
 case atStart=>exact⟨0,rW _,rfl,λj D=>aj⟩
 case round=>
  obtain⟨k,hk,rfl,z⟩:=hrel;have C:=pG z;clear z;by_cases c:k<t.kinds.length
  ·obtain⟨g,rfl,N⟩:=ku W k c;obtain⟨Z,_,_,_,A,m⟩:=qqd k c (ku E);have a0:w.cell? ⟨g,k*4+3,none⟩=some Z:=by rw[N _ aj];exact A
   have Q:=ku V _ (wX c);generalize L:t.kinds[k]=K at m Q;have B:=pG L;obtain⟨ma,mc,rfl,v⟩:=kq5 m;have F:=pG v;clear N A m v L;go_wp2
   go_loop [7] (λi=>∃j:Nat,j<=K.members.length/\i=.int .i64 j/\∀i,i<j->(((kqh K).getD i ByteArray.empty).toList==s.toList)=false) (λi=>K.members.length-(intOf i).toNat)
   case atStart=>exact⟨0,rW _,rfl,λj D=>aj⟩
   case round=>
    obtain⟨j,D,rfl,y⟩:=hrel;have l:=pG y;clear y;by_cases b:j<K.members.length
    ·obtain⟨X,rfl,p⟩:=ku F j b;have S:(kqh K).getD j ByteArray.empty=(K.members[j]).text:=by simp[kqh,b]
     have q:w.cell? ⟨X,j*3+1,none⟩=some (.string (K.members[j]).text):=by
      rw[p _ aj];exact qxi K.members j b
     rw[<-S]at q;generalize U:(kqh K).getD j ByteArray.empty=x at q;have H:=pG U;clear p S U;go_wp2
     ·go_ret2
      have I:=kye (kqh K) s.toList j (by simpa[kqh] using b) (ku l) (by rw[ku H];assumption);have J:=jk1 t.kinds s.toList k c (λi hi=>ku C i hi aj) (by rw[ku B,I];omega);rw[ku B,I]at J;rw[J];exact⟨rfl,rfl⟩
     ·have Y:(x.toList==s.toList)=false:=by assumption
      go_round
      case rel=>exact⟨j+1,aj,eu,λi hi=>if e:i=j then by rw[e,ku H];exact Y else ku l i aj⟩
      case measure=>exact qQ
    ·have d:=kwf (kqh K) s.toList (λi hi=>ku l i (by simp[kqh]at hi;omega));have G:=pG d;clear d;go_wp2
     go_round
     case rel=>exact⟨k+1,aj,eu,λi hi O=>if e:i=k then by subst e;rw[ku B];exact ku G else ku C i aj aj⟩
     case measure=>exact qQ
  ·go_wp2
   go_ret2
   rw[zys t.kinds s.toList (λi hi=>ku C i aj aj)];exact⟨rfl,rfl⟩
def je (l:List PP):List ByteArray:=l.map (λp=>p.name.text)
def qz3 (n:Tok)(vp vg vb:Value):Value:=.agg #[.string n.kind,.string n.text,.int .i64 n.at_,vp,vg,vb]
theorem qzq (w:World)(lo:Nat)(n:Tok)(l:List PP)(va:Option Addr)(z y:Nat)(vg:Option Addr)(ba:Option Addr)(bn bc:Nat)(s:ByteArray)(h:w.ownsRow lo 236 6 (.slice va z y) l.length (kjh l))(F:l.length<=801):
  qJ 179 #[qz3 n (.slice va z y) (.pointer vg) (.slice ba bn bc),.string s] w λe w'=>e=.returned (.int .i64 (qh (je l) s.toList))/\pU w w':=by
 have hn:=jjv h;subst hn;obtain⟨a,cap,D,c⟩:=kq5 h;cases D;have A:=pG c;clear c h;unfold qz3;go_enter func179,ntmps179
 go_wp2
 go_loop [5] (λi=>∃k:Nat,k<=l.length/\i=.int .i64 k/\∀j,j<k->(((je l).getD j ByteArray.empty).toList==s.toList)=false) (λi=>l.length-(intOf i).toNat)
 case atStart=>exact⟨0,rW _,rfl,λj C=>aj⟩
 case round=>
  obtain⟨k,E,rfl,f⟩:=hrel;have m:=pG f;clear f;by_cases b:k<l.length
  ·obtain⟨g,rfl,q⟩:=ku A k b;have u:(je l).getD k ByteArray.empty=(l[k]).name.text:=by simp[je,b]
   have d:w.cell? ⟨g,k*6+1,none⟩=some (.string (l[k]).name.text):=by
    rw[q _ aj];exact xq kkw 6 (λ_=>rfl) l k 1 b aj
   have t:=block_lt_of_cell d;simp only at t;rw[<-u]at d;generalize v:(je l).getD k ByteArray.empty=x at d;have p:=pG v;clear q u v;go_wp2
   ·go_ret
    exact⟨kqv (kye _ _ k (by simpa[je] using b) (ku m) (by rw[ku p];assumption)).symm,below_alloc1 _ _⟩
   ·have B:(x.toList==s.toList)=false:=by assumption
    go_round
    case rel=>exact⟨k+1,aj,eu,λj C=>if e:j=k then by rw[e,ku p];exact B else ku m j aj⟩
    case measure=>exact qQ
  ·go_wp2
   go_ret
   exact⟨kqv (kwf _ _ (λi hi=>ku m i (by simp[je]at hi;omega))).symm,below_alloc1 _ _⟩
theorem kqd {P:Program}    {o:Oper}   (C:o.guard=none)(s x:Operand)(t:TypeId)
  (G:o.op=.call {callee:=.builtin .append,args:=#[s,x],argTypes:=#[t,t]})
  (base:Nat) (e:TypeId) (i:TypeInfo) (z:Value) (size b:Nat) (J:P.underlying t=some (.slice e)) (hi:P.info? e=some i) (R:i.zero=some z)
  (B:i.size=size) (E:i.bytes=b) (L:z.cells.size=size) (I:0<size)
  (v:Value) (n:Nat) (xs:List Value) (H:a.eval s=v) (c:w.ownsRow base e size v n xs)
  (u:Value) (m:Nat) (f:List Value) (lo:Nat) (K:a.eval x=u) (l:w.ownsRow lo e size u m f) (h1:∀y∈f,y.oneCell'=true)
  (D:n+m<=maxLen) (k:(n+m)*b<=140737488355328) (p:base<=w.heap.size)
  (h:∀d w',w'.ownsRow base e size d (n+m) (xs++f)->w.grownBy w' v.ownBlock->(d.ownBlock=v.ownBlock\/d.ownBlock=some w.heap.size)->wpList P ops Q rest (a.put o.dst d) w'):
  wpList P ops Q (o::rest) a w:=by
 have A:=l.1;rcases l.2 with⟨rfl,rfl⟩|⟨g,cap,S,rfl,W,N,T,U,V,M⟩
 ·have O:f=[]:=by
   rw[Nat.zero_mul]at A;exact Jk A
  subst O;refine wpList_append_own_none C s x t G base e i size J hi v n xs H c K (h v w ?_ ⟨rfl,rfl,rfl,wJ _,λ_ _ _=>rfl⟩ (Or.inl rfl));rw[Qg];exact c
 ·refine J4 w C s x t G base e i z size b J hi R B E L I v n xs H c ⟨g,0,none⟩ m cap f K A ?_ h1 D k p (λd w' k1 k2 k3 k4=>h d w' k1 k2 k4);intro j y q;rw[show((⟨g,0,none⟩:Addr).add j)=⟨g,j,none⟩ from lC,QK w g j _ _ _ N];have F:j<m*size:=by
   rw[<-A];rcases Q8 j f.length with h|h
   ·exact h
   ·rw[Zb h]at q;cases q
  rw[<-M,Qo F]at q;simpa using q
def ownNames (x:ELab):List Tok:=if x.op.toList==oK then (if x.index.kind.toList==og then [x.name,x.index] else [x.name]) else []
def uo:PX->List Tok
 |.nil=>[]
 |.node _ _ x a b=>(ownNames x++uo a)++uo b
theorem qjv (l:List Tok):∀y∈uq l,y.oneCell'=true:=by
 intro y a;simp only[uq,su]at a;obtain⟨t,_,b⟩:=a;exact kkk t y b
theorem kke (a b:List Tok):uq (a++b)=uq a++uq b:=by simp[uq]
def qvh (x:PX):Prop:=∀(w:World) (lo:Nat) (p:Value),(uo x).length<=100000->yj lo w x p ->
 qJ 115 #[p] w λe w'=>∃v,e=.returned v/\w'.ownsRow w.heap.size 142 3 v (uo x).length (uq (uo x))/\pU w w'
abbrev Tks (w:World)(lo:Nat)(v:Value)(l:List Tok):Prop:=w.ownsRow lo 142 3 v l.length (uq l)
structure Acc (w0 U:World)(A base:Nat)(w:World)(v:Value)(l:List Tok):Prop where
 own:Tks w base v l
 bel:Below base w0 w
 far:∀k,v.ownBlock=some k->k<A\/U.heap.size<=k
 sz:U.heap.size<=w.heap.size
 mid:∀k,A<=k->k<U.heap.size->w.heap[k]?=U.heap[k]?
theorem vwh {m:List Tok}(h:Tks U A u m)(e:∀k,A<=k->k<U.heap.size->w.heap[k]?=U.heap[k]?):Tks w A u m:=by
 obtain⟨h1,d⟩:=h;refine⟨h1,d.imp id ?_⟩;rintro⟨g,cap,a,rfl,b,c,r⟩;exact⟨g,cap,a,rfl,b,(e g b (wu c)).trans c,r⟩
theorem Acc.grown {b: Value}{g: List Tok}(c:Acc w0 U A base w v l)(h1:Tks w' base b g)(d:w.grownBy w' v.ownBlock)(i:b.ownBlock=v.ownBlock\/b.ownBlock=some w.heap.size)(hb:base<=w.heap.size):Acc w0 U A base w' b g:=by
 refine⟨h1,c.bel.grown d hb (xg c.own),?_,rU c.sz d.size,?_⟩
 ·intro k a;rcases i with e|e
  ·exact c.far k (e▸a)
  ·rw[e]at a;injection a with a;exact Or.inr (a▸c.sz)
 ·exact λk j f=>(d.block k (Qy f c.sz) (λe=>by rcases c.far k e.symm with h|h<;>omega)).trans (c.mid k j f)
theorem Acc.app {m: List Tok}   {o:Oper}   {s: Operand}(c:Acc w0 U A base w v l)(q:Tks U A u m)
  (h:∀b w',Acc w0 U A base w' b (l++m)->wpList prog ops Q rest (a.put o.dst b) w') (k:o.op=.call {callee:=.builtin .append,args:=#[s,x],argTypes:=#[132,132]}:=by exact rfl) (d:o.guard=none:=by exact rfl) (p:a.eval s=v:=by exact rfl) (t:a.eval x=u:=by exact rfl)
  (hn:l.length+m.length<=1000000:=by omega) (hb:base<=w.heap.size:=by omega):wpList prog ops Q (o::rest) a w:=by
 obtain⟨y,hi,e,f,g⟩:=info_parts infoTok;refine kqd d s x _ k base 142 y _ 3 40 underlying132 hi e f g rfl ak v _ _ p c.own u _ _ A t (vwh q c.mid) (qjv _) gW aj hb λb w' h1 i j=>h b w' (c.grown (by rw[Tks,wY,kke];exact h1) i j hb)
theorem vw7 {m: List Tok}   {o:Oper}   {s: Operand}(c:Tks w base v l)(d:Below base w0 w)(q:Tks w lo u m)
  (h:∀b w',Tks w' base b (l++m)->Below base w0 w'->wpList prog ops Q rest (a.put o.dst b) w') (k:o.op=.call {callee:=.builtin .append,args:=#[s,x],argTypes:=#[132,132]}:=by exact rfl) (e:o.guard=none:=by exact rfl) (p:a.eval s=v:=by exact rfl) (t:a.eval x=u:=by exact rfl)
  (hn:l.length+m.length<=1000000:=by first|omega|(simp;done)|(simp;omega)) (hb:base<=w.heap.size:=by first|omega|(simp;done)|(simp;omega)):wpList prog ops Q (o::rest) a w:=by
 obtain⟨y,hi,f,g,i⟩:=info_parts infoTok;exact kqd e s x _ k base 142 y _ 3 40 underlying132 hi f g i rfl ak v _ _ p c u _ _ lo t q (qjv _) gW aj hb λb w' h1 j _=>h b w' (by rw[Tks,wY,kke];exact h1) (d.grown j hb (xg c))
theorem qxg {o:Oper}   {s: Operand}(d:Tks w base v l)(e:Below base w0 w)(q:w.heap[b]?=some (.cells (jr t).toArray 142 (0,0)))
  (h:∀c w',Tks w' base c (l++[t])->Below base w0 w'->wpList prog ops Q rest (a.put o.dst c) w') (m:o.op=.call {callee:=.builtin .append,args:=#[s,x],argTypes:=#[132,132]}:=by exact rfl) (f:o.guard=none:=by exact rfl) (p:a.eval s=v:=by exact rfl) (u:a.eval x=.slice (some ⟨b,0,none⟩) 1 1:=by exact rfl)
  (hn:l.length<=1000000:=by first|omega|(simp;done)|(simp;omega)) (hb:base<=w.heap.size:=by first|omega|(simp;done)|(simp;omega)):wpList prog ops Q (o::rest) a w:=by
 obtain⟨y,hi,g,i,j⟩:=info_parts infoTok;exact J4 _ f s x _ m base 142 y _ 3 40 underlying132 hi g i j rfl ak v _ _ p d ⟨b,0,none⟩ 1 1 (jr t) u rfl (World.news_of_block q) (kkk _) gW aj hb λc w' h1 k _ _=>h c w' (by rw[Tks,wY,kke];simpa[uq] using h1) (e.grown k hb (xg d))
theorem Acc.alloc (c:Acc w0 U A base w v l)(o:Obj)(hb:base<=w.heap.size:=by omega):Acc w0 U A base (w.alloc o) v l:=
 ⟨World.ownsRow.alloc c.own _,c.bel.alloc hb _,c.far,by have:=c.sz;simp;omega,λk h1 a=>(tX _ _ _ (Qy a c.sz)).trans (c.mid k h1 a)⟩
theorem Acc.qxg {o:Oper}   {s: Operand}(c:Acc w0 U A base w v l)(q:w.heap[b]?=some (.cells (jr t).toArray 142 (0,0)))
  (h:∀d w',Acc w0 U A base w' d (l++[t])->wpList prog ops Q rest (a.put o.dst d) w') (m:o.op=.call {callee:=.builtin .append,args:=#[s,x],argTypes:=#[132,132]}:=by exact rfl) (e:o.guard=none:=by exact rfl) (p:a.eval s=v:=by exact rfl) (u:a.eval x=.slice (some ⟨b,0,none⟩) 1 1:=by exact rfl)
  (hn:l.length<=1000000:=by first|omega|(simp;done)|(simp;omega)) (hb:base<=w.heap.size:=by first|omega|(simp;done)|(simp;omega)):wpList prog ops Q (o::rest) a w:=by
 obtain⟨y,hi,f,g,i⟩:=info_parts infoTok;exact J4 _ e s x _ m base 142 y _ 3 40 underlying132 hi f g i rfl ak v _ _ p c.own ⟨b,0,none⟩ 1 1 (jr t) u rfl (World.news_of_block q) (kkk _) gW aj hb λd w' h1 j _ k=>h d w' (c.grown (by rw[Tks,wY,kke];simpa[uq] using h1) j k hb)
theorem jwb (i j:Nat)(x:ELab)(a b:PX)(S:qvh a)(hb:qvh b):qvh (.node i j x a b):=by
 intro w lo p v hN;obtain⟨k,pa,J,rfl,_,E,F,G⟩:=hN;have R:(ownNames x).length+(uo a).length+(uo b).length<=100000:=by simpa only[uo,wY] using v
 have d:=qyb (show w.heap[k]?=some (.cells #[.string x.op,pa,J,.string x.name.kind,.string x.name.text,.int .i64 x.name.at_,.string x.index.kind,.string x.index.text,.int .i64 x.index.at_,.int .i64 x.n] _ (0,0)) from E);have D:=pG λ(u:World) (U:pU w u)=>qyb ((U.block k (wu E)).trans (show w.heap[k]?=some (.cells #[.string x.op,pa,J,.string x.name.kind,.string x.name.text,.int .i64 x.name.at_,.string x.index.kind,.string x.index.text,.int .i64 x.index.at_,.int .i64 x.n] _ (0,0)) from E))
 clear v;cases c1:(x.op.toList==oK);case' false=>
  have s:ownNames x=[]:=by simp[ownNames,c1]
  go_enter func115,ntmps115
  go_wp2_with fail
  obtain⟨w0,L,c⟩:∃w0,w0=w/\pU w w0:=⟨w,rfl,Below.refl _ _⟩;rw[<-L];obtain⟨B,M,f⟩:∃B,B=Value.slice none 0 0/\Tks w0 w.heap.size B []:=⟨_,rfl,wB _ _ _ _⟩;rw[<-M];clear L M
 case' true=>
  go_enter func115,ntmps115
  go_wp2_with (at_builtin;refine qxg (l:=[]) (t:=x.name) (wB _ _ _ _) (below_alloc1 w _) (heap_alloc_new w _) ?_)
  intro B w0 f c;have q:=(ku D) w0 c;have A:=c.size;obtain⟨_,_,_,rfl⟩:=zq f;cases c2:(x.index.kind.toList==og);case' false=>
   have s:ownNames x=[x.name]:=by simp[ownNames,c1,c2]
   go_wp2_with fail
  case' true=>
   have s:ownNames x=[x.name,x.index]:=by simp[ownNames,c1,c2]
   go_wp2_with (at_builtin;refine qxg (t:=x.index) (f.alloc _) (c.alloc c.size _) (heap_alloc_new w0 _) ?_)
   clear f c q A;intro B w0 f c;have q:=(ku D) w0 c;obtain⟨_,_,_,rfl⟩:=zq f;go_wp2_with fail
 all_goals
  rw[<-s]at f;clear s;have A:=c.size;refine(S _ lo pa aj (F.below c)).mono ?_;rintro e X ⟨v1,rfl,y,g⟩;have V:=(ku D) X (c.trans (g.mono A));have H:=g.size;obtain⟨_,_,_,rfl⟩:=zq y;go_wp2_with fail
  refine(hb _ lo J aj (G.below (c.trans (g.mono A)))).mono ?_;rintro e N ⟨v2,rfl,z,m⟩;have Z:=m.size;obtain⟨_,_,_,rfl⟩:=zq z;have h:=g.trans (m.mono H);have C:=pG (show Acc w N w0.heap.size w.heap.size N _ (ownNames x) from⟨qj f h,c.trans (h.mono A),λk T=>Or.inl (mg f k T),wJ _,λ_ _ _=>rfl⟩);have P:=pG (qj y m);have Q:=pG (zu H z);clear f y z g m h c E F G d V D;go_wp2_with (at_builtin;refine(ku C).app (ku P) ?_)
  intro v3 w3 I;obtain⟨_,_,_,rfl⟩:=zq I.own;have a0:=I.sz;have Y:(ownNames x++uo a).length+(uo b).length<=100000:=by rw[wY];exact R
  go_wp2_with (at_builtin;refine I.app (ku Q) ?_)
  intro W w4 K;have O:=pG (show Tks w4 w.heap.size W (uo (.node i j x a b)) from by rw[uo,sD];exact K.own);go_wp2
  go_ret
  exact⟨_,rfl,ku O,K.bel⟩
theorem kyo:∀x:PX,qvh x
 |.nil=>λw lo p _ hN=>by
  have c:p=.pointer none:=hN;subst c;go_enter func115,ntmps115
  go_wp2
  go_ret
  exact⟨_,rfl,wB _ _ _ _,Below.refl _ _⟩
 |.node i j x a b=>jwb i j x a b (kyo a) (kyo b)
end Go.Proofs.YtpmcnonmkghokaaGreatDoor
