import Derived.Test.YtpmcnonmkghokaaGreatDoorT30
import Derived.Test.YtpmcnonmkghokaaGreatDoorT26
set_option maxRecDepth 100000
set_option maxHeartbeats 8000000
set_option linter.unusedVariables false
set_option linter.unusedSimpArgs false
namespace Go.Proofs.YtpmcnonmkghokaaGreatDoor
open Go.Proofs.Tryz
open Go.RowKit
attribute [local go_sem ↓] Go.wp_at_zero Go.wp_at_succ
variable {ops:Array Oper}{Q:Exit->Act->World->Prop}{α:Type}{items:List α}{i k:Nat}{P:Program}{md:Region.Mode}{f:α->Bool}
theorem qkp (x:PX)(w:World)(b lo f:Nat)(tab:Tab)(l:List PP)(pa:Option Addr)(pn pc:Nat)(v:Value)(m:kqi w b tab)(d:qwv tab)(j:w.ownsRow lo 352 4 (.slice pa pn pc) l.length (xu l))(i:l.length<=1000)
  (a:XIs f w x v) (h:kym x) (hn:isNil x=false) (k:∀y∈cu x,y.text.size<=1000):
  qJ 162 #[tyV b (.slice pa pn pc),v] w λe w'=>e=.returned (.bool ((uz tab l x).fam==1))/\pU w w':=by
 have g:=qv3 x (w.alloc (.cells #[.map (some b),.slice pa pn pc] 301)) b lo f tab l pa pn pc v (m.kept (below_alloc1 _ _)) d (j.alloc _) i (a.below (below_alloc1 _ _)) h hn k;have q:=zwn (uz tab l x).fam (uz tab l x).name;obtain⟨p,rfl⟩:=a.ptr;generalize uz tab l x=ty at *;unfold tyV vtV at *;go_enter func162,ntmps162
 go_wp2_with fail
 refine g.mono ?_;rintro e s ⟨rfl,c⟩;go_wp2
 go_ret
 exact⟨rfl,((below_alloc1 w (.cells #[.map (some b),.slice pa pn pc] 301)).trans (c.mono au))⟩
def qze (b:PB):Prop:=∀(w:World) (bb lo so:Nat) (no:Option Nat) (tab:Tab) (l:List PP) (pa:Option Addr) (pn pc:Nat) (v:Value) (cs:List Value),kqi w bb tab->qwv tab->w.ownsRow lo 352 4 (.slice pa pn pc) l.length (xu l)->l.length<=1000 ->
  w.ownsRow so 334 9 v (kq4 b) cs->BIs so no w b cs->kw5 b->qqo b->kq4 b<=1000->(∀y∈pz b,y.text.size<=1000) ->
  qJ 163 #[tyV bb (.slice pa pn pc),v] w λe w'=>e=.returned (.bool (kxr tab l b))/\pU w w'
def smV (c:Bool)(n i:Tok)(p b a:Value):Value:=.agg #[.bool c,.string n.text,.int .i64 n.at_,.bool (!(i.kind.toList==[])),.string i.text,.int .i64 i.at_,p,b,a]
theorem jvs (w:World)(a lo so:Nat)(no:Option Nat)(tab:Tab)(l:List PP)(pa:Option Addr)(pn pc:Nat)(n i:Tok)(c:PX)(t e:PB)(p:Option Addr)(z:Option Addr)(B A:Nat)(s:Option Addr)(en u:Nat)(R Q:List Value)(hM:kqi w a tab)(j:qwv tab)(C:w.ownsRow lo 352 4 (.slice pa pn pc) l.length (xu l))(U:l.length<=1000)
  (hx:XIs so w c (.pointer p)) (hF:kym c) (hn:isNil c=false) (hs:∀y∈cu c,y.text.size<=1000)
  (hT:qze t) (L:w.ownsRow so 334 9 (.slice z B A) (kq4 t) R) (M:BIs so no w t R) (N:kw5 t) (O:qqo t) (a3:kq4 t<=1000) (P:∀y∈pz t,y.text.size<=1000)
  (hE:qze e) (G:w.ownsRow so 334 9 (.slice s en u) (kq4 e) Q) (H:BIs so no w e Q) (I:kw5 e) (J:qqo e) (a2:kq4 e<=1000) (K:∀y∈pz e,y.text.size<=1000):
  qJ 218 #[tyV a (.slice pa pn pc),smV true n i (.pointer p) (.slice z B A) (.slice s en u)] w λr w'=>r=.returned (.bool (((uz tab l c).fam==1&&kxr tab l t)&&kxr tab l e))/\pU w w':=by
 unfold smV;generalize (!(i.kind.toList==[]))=d;obtain⟨W,m⟩:∃W,W=(w.alloc (.cells #[.map (some a),.slice pa pn pc] 301)).alloc (.cells #[.bool true,.string n.text,.int .i64 n.at_,.bool d,.string i.text,.int .i64 i.at_,.pointer p,.slice z B A,.slice s en u] 334):=⟨_,rfl⟩;have b:pU w W:=by rw[m];exact kzw w _ _
 have a5:W.heap.size=w.heap.size+2:=by rw[m];simp
 have D:W.heap[w.heap.size]?=some (.cells #[.map (some a),.slice pa pn pc] 301 (0,0)):=by rw[m];exact zy (qg _ _)
 have v:W.heap[w.heap.size+1]?=some (.cells #[.bool true,.string n.text,.int .i64 n.at_,.bool d,.string i.text,.int .i64 i.at_,.pointer p,.slice z B A,.slice s en u] 334 (0,0)):=by
  rw[m];have:=qg (w.alloc (.cells #[.map (some a),.slice pa pn pc] 301)) (.cells #[.bool true,.string n.text,.int .i64 n.at_,.bool d,.string i.text,.int .i64 i.at_,.pointer p,.slice z B A,.slice s en u] 334);simp only[tJ]at this;exact this
 have Z:=qkp c W a lo so tab l pa pn pc (.pointer p) (hM.kept b) j (qj C b) U (hx.below b) hF hn hs;have X:=λ(f:World) (h1:pU w f)=>hT f a lo so no tab l pa pn pc _ R (hM.kept h1) j (qj C h1) U (qj L h1) (M.stay λk _ T=>h1.block k T) N O a3 P
 have V:=λ(f:World) (h1:pU w f)=>hE f a lo so no tab l pa pn pc _ Q (hM.kept h1) j (qj C h1) U (qj G h1) (H.stay λk _ T=>h1.block k T) I J a2 K
 obtain⟨t0,t1,_⟩:=kj0 D;obtain⟨⟨q0,q1,q2,q3,q4,q5,q6,q7,q8⟩,_⟩:=kkv v;have Y:=pG v;have HB:=pG b;have a0:=pG m.symm;generalize (uz tab l c).fam=fc at *;generalize kxr tab l t=gt at *;generalize kxr tab l e=ge at *;clear hM j C hx hF hs hT hE L M N O P G H I J K v b m;unfold tyV at *;go_enter func218,ntmps218
 go_upto_region 1 with fail
 rw[a0];go_wp2_with fail
 refine Z.mono ?_;rintro r f ⟨rfl,h⟩;have F:=(h.block w.heap.size aj).trans D;have E:=(h.block (w.heap.size+1) aj).trans Y;have q:=HB.trans (h.mono aj);have a4:=h.size;obtain⟨t0,t1,_⟩:=kj0 F;obtain⟨⟨_,_,_,_,_,_,_,q7,q8⟩,_⟩:=kkv E;cases S:(fc==1)
 ·go_wp2
  go_ret
  exact⟨jf (by rw[S];rfl),q⟩
 ·go_wp2_with fail
  refine(X f q).mono ?_;rintro r w2 ⟨rfl,x⟩;have g:=q.trans (x.mono aj);obtain⟨t0,t1,_⟩:=kj0 ((x.block w.heap.size aj).trans F);obtain⟨⟨_,_,_,_,_,_,_,_,q8⟩,_⟩:=kkv ((x.block (w.heap.size+1) aj).trans (pG E));cases gt
  ·go_wp2
   go_ret
   exact⟨jf (by rw[S];rfl),g⟩
  ·go_wp2_with fail
   refine(V w2 g).mono ?_;rintro r w3 ⟨rfl,a1⟩;go_wp2
   go_ret
   exact⟨jf (by rw[S];rfl),(g.trans (a1.mono g.size))⟩
end Go.Proofs.YtpmcnonmkghokaaGreatDoor
namespace Go.Proofs.YtpmcnonmkghokaaGreatDoor
open Go.Proofs.Tryz
open Go.RowKit
variable {ops:Array Oper}{Q:Exit->Act->World->Prop}{α:Type}{items:List α}{i k:Nat}{P:Program}{md:Region.Mode}{f:α->Bool}
theorem count_set:∀(l:List Bool) (i:Nat),l[i]?=some false->(l.set i true).countP (λb=>!b)+1=l.countP (λb=>!b)
 |[],i,h=>by simp at h
 |b::l,0,h=>by simp at h;subst h;simp
 |b::l,i+1,h=>by
  have:=count_set l i iw;rw[JV,Za,Za];omega
theorem zvg:∀(l:List Bool) (i:Nat),l.countP (λb=>!b)=0->l[i]?≠some false
 |[],i,_,h=>by simp at h
 |b::l,0,h,e=>by simp at e;subst e;simp at h
 |b::l,i+1,h,e=>by
  rw[Za]at h;exact zvg l i aj ou
theorem kxb {o:Oper}{a:Act}{w:World}{K:Act->World->Prop}(c:ops[i]?=some o)(b:o.guard=none)(h:∀K',(∀a' w',K a' w'->K' a' w')->o.wp P a w K' Q):wpOp P ops Q i K a w:=by
 unfold wpOp;rw[c];simp only;rw[if_pos (by simp[Region.wanted,b])];exact Or.inl (h K (λ_ _ h=>h))
theorem jxv {l:Array Bool}  (h:i∈Region.ready md ops l):l.toList[i]?=some false:=by
 have:=(mem_ready.1 h).1;by_cases a:i<l.size
 ·simp[a]at this |-;exact this
 ·simp[a]at this
theorem zwt {P:Program}{md:Region.Mode}{ops:Array Oper}{Q:Exit->Act->World->Prop}(I:Array Bool->Act->World->Prop)
  (d:∀l a w i,I l a w->i∈Region.ready md ops l->wpOp P ops Q i (λa' w'=>I (l.setIfInBounds i true) a' w') a w)
  (c:∀l a w,I l a w->Region.ready md ops l=[]->Q .normal a w):
  ∀(fuel:Nat) (l:Array Bool) (a:Act) (w:World),l.toList.countP (λb=>!b)<=fuel->I l a w->wpAny P md ops Q fuel l a w
 |0,l,a,w,hc,h=>by
  have e:Region.ready md ops l=[]:=by
   cases e:Region.ready md ops l with
   |nil=>rfl
   |cons i r=>exact(zvg _ i aj (jxv (show i∈Region.ready md ops l by rw[e];exact rV ..))).elim
  exact⟨e,c l a w h e⟩
 |fuel+1,l,a,w,hc,h=>by
  refine⟨λe=>c l a w h e,λi hi=>?_⟩;refine wpOp_mono (λa' w' f=>zwt I d c fuel _ a' w' ?_ f) (d l a w i h hi);have:=count_set _ i (jxv hi);rw[ZQ];omega
end Go.Proofs.YtpmcnonmkghokaaGreatDoor
namespace Go.Proofs.YtpmcnonmkghokaaGreatDoor
open Go.Proofs.Tryz
open Go.RowKit
attribute [local go_sem ↓] Go.wp_at_zero Go.wp_at_succ
variable {ops:Array Oper}{Q:Exit->Act->World->Prop}{α:Type}{items:List α}{i k:Nat}{P:Program}{md:Region.Mode}{f:α->Bool}
def zqw (a:Nat)(pa:Option Addr)(pn pc:Nat)(n i:Tok)(d:Bool)(p:Option Addr)(w:World)(q:Ent)(l m b c e f g h j k:Value):Act:=
 ⟨#[.agg #[.map (some a),.slice pa pn pc],.agg #[.bool false,.string n.text,.int .i64 n.at_,.bool d,.string i.text,.int .i64 i.at_,.pointer p,.slice none 0 0,.slice none 0 0],.pointer (some ⟨w.heap.size,0,none⟩),.pointer (some ⟨w.heap.size+1,0,none⟩),.bool false,l,m,.pointer (some ⟨w.heap.size+1,0,none⟩),.bool false,undef,undef,undef,undef,undef,undef,undef,undef,undef,undef,undef,undef,undef,undef,undef,undef,
  .pointer (some ⟨w.heap.size,0,none⟩),.map (some a),.pointer (some ⟨w.heap.size+1,1,none⟩),.pointer (some ⟨w.heap.size+1,1,none⟩),.pointer (some ⟨w.heap.size+1,1,none⟩),.string n.text,qxw q,.int .i64 q.role,.bool false,b,c,e,f,g,h,j,k,undef,undef,undef,undef,undef,undef,undef,undef,undef,undef,undef,undef,undef],[]⟩
structure RInv (bb:Nat)(pa:Option Addr)(pn pc:Nat)(n i:Tok)(d:Bool)(p:Option Addr)(tp tx:VT)(w W:World)(b0 b1 b2 b3 b4 b5 b6 b7 b8 b9 b10 b11:Bool)(u5 u6 u34 u35 u36 u37 u38 u39 u40 u41:Value)(wx:World):Prop where
 k0:b0=true->u34=.agg #[.map (some bb),.slice pa pn pc]
 k1:b1=true->u35=.pointer (some ⟨w.heap.size+1,1,none⟩)
 k2:b2=true->u36=.agg #[.string n.text,.int .i64 n.at_,.bool d,.string i.text,.int .i64 i.at_]
 k3:b3=true->u37=.agg #[.int .i64 tp.fam,.string tp.name]
 k4:b4=true->u38=.agg #[.map (some bb),.slice pa pn pc]
 k5:b5=true->u39=.pointer (some ⟨w.heap.size+1,6,none⟩)
 k6:b6=true->u40=.pointer p
 k7:b7=true->u41=.agg #[.int .i64 tx.fam,.string tx.name]
 k8:b8=true->∃g x y,u5=.pointer (some ⟨g,0,none⟩)/\W.heap.size<=g/\wx.heap[g]?=some (.cells #[x,y] 362 (0,0))/\(b10=true->x=.int .i64 tp.fam/\y=.string tp.name)
 k9:b9=true->∃g x y,u6=.pointer (some ⟨g,0,none⟩)/\W.heap.size<=g/\wx.heap[g]?=some (.cells #[x,y] 362 (0,0))/\(b11=true->x=.int .i64 tx.fam/\y=.string tx.name)
 kn:b8=true->b9=true->u5≠u6
 d10:b10=true->b8=true
 d11:b11=true->b9=true
 ty:wx.heap[w.heap.size]?=some (.cells #[.map (some bb),.slice pa pn pc] 301 (0,0))
 st:wx.heap[w.heap.size+1]?=some (.cells #[.bool false,.string n.text,.int .i64 n.at_,.bool d,.string i.text,.int .i64 i.at_,.pointer p,.slice none 0 0,.slice none 0 0] 334 (0,0))
 be:pU w wx
 sz:W.heap.size<=wx.heap.size
def RI (b:Nat)(pa:Option Addr)(pn pc:Nat)(n i:Tok)(d:Bool)(p:Option Addr)(c e:VT)(q:Ent)(w W:World)(l:Array Bool)(a:Act)(wx:World):Prop:=
 ∃(b0 b1 b2 b3 b4 b5 b6 b7 b8 b9 b10 b11:Bool) (u5 u6 u34 u35 u36 u37 u38 u39 u40 u41:Value),l=#[b0,b1,b2,b3,b4,b5,b6,b7,b8,b9,b10,b11]/\a=zqw b pa pn pc n i d p w q u5 u6 u34 u35 u36 u37 u38 u39 u40 u41/\RInv b pa pn pc n i d p c e w W b0 b1 b2 b3 b4 b5 b6 b7 b8 b9 b10 b11 u5 u6 u34 u35 u36 u37 u38 u39 u40 u41 wx
theorem jzs (w:World)(O lo so:Nat)(tab:Tab)(l:List PP)(pa:Option Addr)(pn pc:Nat)(n i:Tok)(x:PX)(p:Option Addr)(hM:kqi w O tab)(a2:qwv tab)(N:w.ownsRow lo 352 4 (.slice pa pn pc) l.length (xu l))(hl:l.length<=1000)
  (hx:XIs so w x (.pointer p)) (hF:kym x) (hn:isNil x=false) (hs:∀y∈cu x,y.text.size<=1000) (a7:∀y∈kz7 n i,y.text.size<=1000) (aC:n.text.size<=1000):
  qJ 218 #[tyV O (.slice pa pn pc),smV false n i (.pointer p) (.slice none 0 0) (.slice none 0 0)] w λr w'=>r=.returned (.bool (((zl tab n.text.toList).role==4)&&(kkn (kzh tab l n i) (uz tab l x)||((kzh tab l n i).fam==4&&(uz tab l x).fam==5))))/\pU w w':=by
 have a3:=λ(S:World) (h1:pU w S)=>zxf S O lo tab l pa pn pc n i (hM.kept h1) a2 (qj N h1) hl a7
 have a8:=λ(S:World) (h1:pU w S)=>qv3 x S O lo so tab l pa pn pc (.pointer p) (hM.kept h1) a2 (qj N h1) hl (hx.below h1) hF hn hs
 unfold smV;unfold pl5 at a3;generalize (!(i.kind.toList==[]))=d at *;obtain⟨W,T⟩:∃W,W=(w.alloc (.cells #[.map (some O),.slice pa pn pc] 301)).alloc (.cells #[.bool false,.string n.text,.int .i64 n.at_,.bool d,.string i.text,.int .i64 i.at_,.pointer p,.slice none 0 0,.slice none 0 0] 334):=⟨_,rfl⟩;have a1:pU w W:=by rw[T];exact kzw w _ _
 have aQ:W.heap.size=w.heap.size+2:=by rw[T];simp
 have a4:W.heap[w.heap.size]?=some (.cells #[.map (some O),.slice pa pn pc] 301 (0,0)):=by rw[T];exact zy (qg _ _)
 have Z:W.heap[w.heap.size+1]?=some (.cells #[.bool false,.string n.text,.int .i64 n.at_,.bool d,.string i.text,.int .i64 i.at_,.pointer p,.slice none 0 0,.slice none 0 0] 334 (0,0)):=by
  rw[T];have:=qg (w.alloc (.cells #[.map (some O),.slice pa pn pc] 301)) (.cells #[.bool false,.string n.text,.int .i64 n.at_,.bool d,.string i.text,.int .i64 i.at_,.pointer p,.slice none 0 0,.slice none 0 0] 334);simp only[tJ]at this;exact this
 have aP:=kv1 (hM.kept a1) aC;have hf:=kvk (zl tab n.text.toList);obtain⟨t0,t1,_⟩:=kj0 a4;obtain⟨⟨q0,q1,q2,q3,q4,q5,q6,q7,q8⟩,_⟩:=kkv Z;have a9:=pG Z;have HB:=pG a1;have aA:=pG T.symm;generalize zl tab n.text.toList=q at *;generalize kzh tab l n i=U at *;generalize uz tab l x=tx at *;clear hM a2 N hx hF hs a7 Z a1 T;unfold tyV vtV at *;go_enter func218,ntmps218
 go_upto_region 1 with fail
 rw[aA];cases M:(q.role==4)
 ·have aB:(q.role != 4)=true:=by simp[bne,M]
  go_wp2
  go_ret
  exact⟨jf (by rw[M];rfl),HB⟩
 ·have aB:(q.role != 4)=false:=by simp[bne,M]
  go_upto_region 5 with fail
  go_cut [5,6] from 34 to 41 (λv5 v6 wx=>∃P Q,v5=.pointer (some ⟨P,0,none⟩)/\v6=.pointer (some ⟨Q,0,none⟩)/\(wx.cell? ⟨P,0,none⟩=some (.int .i64 U.fam)/\wx.cell? ⟨P,1,none⟩=some (.string U.name))/\(wx.cell? ⟨Q,0,none⟩=some (.int .i64 tx.fam)/\wx.cell? ⟨Q,1,none⟩=some (.string tx.name))/\P<wx.heap.size/\Q<wx.heap.size/\pU w wx)
  case first=>
   refine wp_region_any ah ?_;change wpAny _ _ _ _ _ _ _ (World.drew _)
   refine zwt (RI O pa pn pc n i d p U tx q w W) ?_ ?_ _ _ _ _ ak ⟨false,false,false,false,false,false,false,false,false,false,false,false,undef,undef,undef,undef,undef,undef,undef,undef,undef,undef,rfl,rfl,⟨(λh=>gY),(λh=>gY),(λh=>gY),(λh=>gY),(λh=>gY),(λh=>gY),(λh=>gY),(λh=>gY),(λh=>gY),(λh=>gY),(λh=>gY),(λh=>gY),(λh=>gY),a4,a9,HB.drew,wJ _⟩⟩
   ·intro l a wx j hI M;obtain⟨b0,b1,z,A,B,C,D,E,F,G,c,f,u5,u6,aF,aG,aH,aI,aJ,aK,aL,aM,rfl,rfl,h⟩:=hI;obtain⟨v,o,N,s⟩:=mem_ready.1 M;have hj:j<12:=by
     apply tK;intro b;have:j=(j-12)+12:=aj;rw[this]at N;cases N
    have b:j=0\/j=1\/j=2\/j=3\/j=4\/j=5\/j=6\/j=7\/j=8\/j=9\/j=10\/j=11:=aj;rcases b with rfl|rfl|rfl|rfl|rfl|rfl|rfl|rfl|rfl|rfl|rfl|rfl<;>(injection N with N;subst N)
    ·have m:b0=false:=by simpa using v
     obtain⟨t0,t1,_⟩:=kj0 h.ty;refine kxb rfl rfl (λK k=>?_);unfold zqw;go_simp
     refine k _ _ ⟨true,b1,z,A,B,C,D,E,F,G,c,f,_,_,_,_,_,_,_,_,_,_,rfl,rfl,⟨λ_=>rfl,h.k1,h.k2,h.k3,h.k4,h.k5,h.k6,h.k7,h.k8,h.k9,h.kn,h.d10,h.d11,h.ty,h.st,h.be,h.sz⟩⟩
    ·have m:b1=false:=by simpa using v
     refine kxb rfl rfl (λK k=>?_);unfold zqw;go_simp
     refine k _ _ ⟨b0,true,z,A,B,C,D,E,F,G,c,f,_,_,_,_,_,_,_,_,_,_,rfl,rfl,⟨h.k0,λ_=>rfl,h.k2,h.k3,h.k4,h.k5,h.k6,h.k7,h.k8,h.k9,h.kn,h.d10,h.d11,h.ty,h.st,h.be,h.sz⟩⟩
    ·have m:z=false:=by simpa using v
     have c1:b1=true:=by simpa using s ⟨1,.data⟩ au rfl
     obtain⟨⟨q0,q1,q2,q3,q4,q5,q6,q7,q8⟩,_⟩:=kkv h.st;obtain rfl:=h.k1 c1;refine kxb rfl rfl (λK k=>?_);unfold zqw;go_simp
     refine k _ _ ⟨b0,b1,true,A,B,C,D,E,F,G,c,f,_,_,_,_,_,_,_,_,_,_,rfl,rfl,⟨h.k0,λ_=>rfl,λ_=>rfl,h.k3,h.k4,h.k5,h.k6,h.k7,h.k8,h.k9,h.kn,h.d10,h.d11,h.ty,h.st,h.be,h.sz⟩⟩
    ·have m:A=false:=by simpa using v
     have c0:b0=true:=by simpa using s ⟨0,.data⟩ au rfl
     have c2:z=true:=by simpa using s ⟨2,.data⟩ au rfl
     obtain rfl:=h.k0 c0;obtain rfl:=h.k2 c2;refine kxb rfl rfl (λK k=>?_);unfold zqw;go_simp
     go_at_call 244
     refine(a3 wx h.be).mono ?_;rintro e S ⟨rfl,t⟩;dsimp only;refine k _ _ ⟨b0,b1,z,true,B,C,D,E,F,G,c,f,_,_,_,_,_,_,_,_,_,_,rfl,rfl,⟨λ_=>rfl,h.k1,λ_=>rfl,λ_=>rfl,h.k4,h.k5,h.k6,h.k7,λb=>by
       obtain⟨g,x,y,H,I,u,J⟩:=h.k8 b;exact⟨g,x,y,H,I,(t.block g (wu u)).trans u,J⟩,λb=>by
       obtain⟨g,x,y,H,I,u,J⟩:=h.k9 b;exact⟨g,x,y,H,I,(t.block g (wu u)).trans u,J⟩,h.kn,h.d10,h.d11,(t.block _ (wu h.ty)).trans h.ty,(t.block _ (wu h.st)).trans h.st,h.be.trans (t.mono h.be.size),rU h.sz t.size⟩⟩
    ·have m:B=false:=by simpa using v
     obtain⟨t0,t1,_⟩:=kj0 h.ty;refine kxb rfl rfl (λK k=>?_);unfold zqw;go_simp
     refine k _ _ ⟨b0,b1,z,A,true,C,D,E,F,G,c,f,_,_,_,_,_,_,_,_,_,_,rfl,rfl,⟨h.k0,h.k1,h.k2,h.k3,λ_=>rfl,h.k5,h.k6,h.k7,h.k8,h.k9,h.kn,h.d10,h.d11,h.ty,h.st,h.be,h.sz⟩⟩
    ·have m:C=false:=by simpa using v
     refine kxb rfl rfl (λK k=>?_);unfold zqw;go_simp
     refine k _ _ ⟨b0,b1,z,A,B,true,D,E,F,G,c,f,_,_,_,_,_,_,_,_,_,_,rfl,rfl,⟨h.k0,h.k1,h.k2,h.k3,h.k4,λ_=>rfl,h.k6,h.k7,h.k8,h.k9,h.kn,h.d10,h.d11,h.ty,h.st,h.be,h.sz⟩⟩
    ·have m:D=false:=by simpa using v
     have c5:C=true:=by simpa using s ⟨5,.data⟩ au rfl
     obtain⟨⟨q0,q1,q2,q3,q4,q5,q6,q7,q8⟩,_⟩:=kkv h.st;obtain rfl:=h.k5 c5;refine kxb rfl rfl (λK k=>?_);unfold zqw;go_simp
     refine k _ _ ⟨b0,b1,z,A,B,C,true,E,F,G,c,f,_,_,_,_,_,_,_,_,_,_,rfl,rfl,⟨h.k0,h.k1,h.k2,h.k3,h.k4,λ_=>rfl,λ_=>rfl,h.k7,h.k8,h.k9,h.kn,h.d10,h.d11,h.ty,h.st,h.be,h.sz⟩⟩
    ·have m:E=false:=by simpa using v
     have c4:B=true:=by simpa using s ⟨4,.data⟩ au rfl
     have c6:D=true:=by simpa using s ⟨6,.data⟩ au rfl
     obtain rfl:=h.k4 c4;obtain rfl:=h.k6 c6;refine kxb rfl rfl (λK k=>?_);unfold zqw;go_simp
     go_at_call 217
     refine(a8 wx h.be).mono ?_;rintro e S ⟨rfl,t⟩;dsimp only;refine k _ _ ⟨b0,b1,z,A,B,C,D,true,F,G,c,f,_,_,_,_,_,_,_,_,_,_,rfl,rfl,⟨h.k0,h.k1,h.k2,h.k3,λ_=>rfl,h.k5,λ_=>rfl,λ_=>rfl,λb=>by
       obtain⟨g,x,y,H,I,u,J⟩:=h.k8 b;exact⟨g,x,y,H,I,(t.block g (wu u)).trans u,J⟩,λb=>by
       obtain⟨g,x,y,H,I,u,J⟩:=h.k9 b;exact⟨g,x,y,H,I,(t.block g (wu u)).trans u,J⟩,h.kn,h.d10,h.d11,(t.block _ (wu h.ty)).trans h.ty,(t.block _ (wu h.st)).trans h.st,h.be.trans (t.mono h.be.size),rU h.sz t.size⟩⟩
    ·have m:F=false:=by simpa using v
     refine kxb rfl rfl (λK k=>?_);unfold zqw;go_simp
     refine k _ _ ⟨b0,b1,z,A,B,C,D,E,true,G,c,f,_,_,_,_,_,_,_,_,_,_,rfl,rfl,⟨h.k0,h.k1,h.k2,h.k3,h.k4,h.k5,h.k6,h.k7,λ_=>⟨wx.heap.size,_,_,rfl,h.sz,heap_alloc_new _ _,λb=>by rw[h.d10 b]at m;cases m⟩,λb=>by
       obtain⟨g,x,y,H,I,u,J⟩:=h.k9 b;exact⟨g,x,y,H,I,zy u,J⟩,λ_ b e=>by
       obtain⟨g,x,y,H,I,u,J⟩:=h.k9 b;rw[H]at e;injection e with e;injection e with e;injection e with e;have:=wu u;omega,λ_=>rfl,h.d11,zy h.ty,zy h.st,h.be.alloc h.be.size _,by simp;exact Nat.le_succ_of_le h.sz⟩⟩
    ·have m:G=false:=by simpa using v
     refine kxb rfl rfl (λK k=>?_);unfold zqw;go_simp
     refine k _ _ ⟨b0,b1,z,A,B,C,D,E,F,true,c,f,_,_,_,_,_,_,_,_,_,_,rfl,rfl,⟨h.k0,h.k1,h.k2,h.k3,h.k4,h.k5,h.k6,h.k7,λb=>by
       obtain⟨g,x,y,H,I,u,J⟩:=h.k8 b;exact⟨g,x,y,H,I,zy u,J⟩,λ_=>⟨wx.heap.size,_,_,rfl,h.sz,heap_alloc_new _ _,λb=>by rw[h.d11 b]at m;cases m⟩,λb _ e=>by
       obtain⟨g,x,y,H,I,u,J⟩:=h.k8 b;rw[H]at e;injection e with e;injection e with e;injection e with e;have:=wu u;omega,h.d10,λ_=>rfl,zy h.ty,zy h.st,h.be.alloc h.be.size _,by simp;exact Nat.le_succ_of_le h.sz⟩⟩
    ·have m:c=false:=by simpa using v
     have c8:F=true:=by simpa using s ⟨8,.data⟩ au rfl
     have c3:A=true:=by simpa using s ⟨3,.data⟩ au rfl
     obtain⟨g,x,y,rfl,hg,L,_⟩:=h.k8 c8;obtain rfl:=h.k3 c3;obtain⟨z0,z1,z2,z3⟩:=kj0 L;refine kxb rfl rfl (λK k=>?_);unfold zqw;go_simp
     refine k _ _ ⟨b0,b1,z,A,B,C,D,E,F,G,true,f,_,_,_,_,_,_,_,_,_,_,rfl,rfl,⟨h.k0,h.k1,h.k2,λ_=>rfl,h.k4,h.k5,h.k6,h.k7,λ_=>⟨g,_,_,rfl,hg,set2 L _ _,λ_=>⟨rfl,rfl⟩⟩,λb=>by
       obtain⟨Y,x2,y2,f1,f2,f3,f4⟩:=h.k9 b;refine⟨Y,x2,y2,f1,f2,?_,f4⟩;have R:Y≠g:=λe=>h.kn c8 b (by rw[f1,e])
       rw[wP _ _ _ _ R,wP _ _ _ _ R];exact f3,h.kn,λ_=>c8,h.d11,iW,iK,(h.be.setCell (show w.heap.size<=g by omega) _).setCell (show w.heap.size<=g by omega) _,by simpa[World.setCell] using h.sz⟩⟩
    ·have m:f=false:=by simpa using v
     have c9:G=true:=by simpa using s ⟨9,.data⟩ au rfl
     have c7:E=true:=by simpa using s ⟨7,.data⟩ au rfl
     obtain⟨g,x,y,rfl,hg,L,_⟩:=h.k9 c9;obtain rfl:=h.k7 c7;have z0:=kj0 L;refine kxb rfl rfl (λK k=>?_);unfold zqw;go_simp
     refine k _ _ ⟨b0,b1,z,A,B,C,D,E,F,G,c,true,_,_,_,_,_,_,_,_,_,_,rfl,rfl,⟨h.k0,h.k1,h.k2,h.k3,h.k4,h.k5,h.k6,λ_=>rfl,λb=>by
       obtain⟨Y,x2,y2,f1,f2,f3,f4⟩:=h.k8 b;refine⟨Y,x2,y2,f1,f2,?_,f4⟩;have R:Y≠g:=λe=>h.kn b c9 (by rw[f1,e])
       rw[wP _ _ _ _ R,wP _ _ _ _ R];exact f3,λ_=>⟨g,_,_,rfl,hg,set2 L _ _,λ_=>⟨rfl,rfl⟩⟩,h.kn,h.d10,λ_=>c9,iW,iK,(h.be.setCell (show w.heap.size<=g by omega) _).setCell (show w.heap.size<=g by omega) _,by simpa[World.setCell] using h.sz⟩⟩
   ·intro l a wx hI M;obtain⟨b0,b1,z,A,B,C,D,E,F,G,c,f,u5,u6,aF,aG,aH,aI,aJ,aK,aL,aM,rfl,rfl,h⟩:=hI;have no:∀j:Nat,¬j∈Region.ready .any _ #[b0,b1,z,A,B,C,D,E,F,G,c,f]:=λj=>by rw[M];simp
    obtain rfl:b0=true:=by
     cases b0 with
     |true=>rfl
     |false=>exact(no 0 (mem_ready.2 ⟨rfl,_,rfl,au⟩)).elim
    obtain rfl:b1=true:=by
     cases b1 with
     |true=>rfl
     |false=>exact(no 1 (mem_ready.2 ⟨rfl,_,rfl,au⟩)).elim
    obtain rfl:z=true:=by
     cases z with
     |true=>rfl
     |false=>exact(no 2 (mem_ready.2 ⟨rfl,_,rfl,au⟩)).elim
    obtain rfl:A=true:=by
     cases A with
     |true=>rfl
     |false=>exact(no 3 (mem_ready.2 ⟨rfl,_,rfl,au⟩)).elim
    obtain rfl:B=true:=by
     cases B with
     |true=>rfl
     |false=>exact(no 4 (mem_ready.2 ⟨rfl,_,rfl,au⟩)).elim
    obtain rfl:C=true:=by
     cases C with
     |true=>rfl
     |false=>exact(no 5 (mem_ready.2 ⟨rfl,_,rfl,au⟩)).elim
    obtain rfl:D=true:=by
     cases D with
     |true=>rfl
     |false=>exact(no 6 (mem_ready.2 ⟨rfl,_,rfl,au⟩)).elim
    obtain rfl:E=true:=by
     cases E with
     |true=>rfl
     |false=>exact(no 7 (mem_ready.2 ⟨rfl,_,rfl,au⟩)).elim
    obtain rfl:F=true:=by
     cases F with
     |true=>rfl
     |false=>exact(no 8 (mem_ready.2 ⟨rfl,_,rfl,au⟩)).elim
    obtain rfl:G=true:=by
     cases G with
     |true=>rfl
     |false=>exact(no 9 (mem_ready.2 ⟨rfl,_,rfl,au⟩)).elim
    obtain rfl:c=true:=by
     cases c with
     |true=>rfl
     |false=>exact(no 10 (mem_ready.2 ⟨rfl,_,rfl,au⟩)).elim
    obtain rfl:f=true:=by
     cases f with
     |true=>rfl
     |false=>exact(no 11 (mem_ready.2 ⟨rfl,_,rfl,au⟩)).elim
    obtain⟨P,x5,y5,rfl,aN,a5,aD⟩:=h.k8 rfl;obtain⟨Q,x6,y6,rfl,aO,a6,aE⟩:=h.k9 rfl;obtain⟨rfl,rfl⟩:=aD rfl;obtain⟨rfl,rfl⟩:=aE rfl;obtain⟨v0,v1,_⟩:=kj0 a5;obtain⟨v2,v3,_⟩:=kj0 a6;unfold zqw;go_wp2_with fail
    go_meet
    exact⟨P,Q,rfl,rfl,⟨v0,v1⟩,⟨v2,v3⟩,wu a5,wu a6,h.be⟩
  case rest=>
   obtain⟨P,Q,rfl,rfl,⟨c0,c1⟩,⟨d0,d1⟩,l5,l6,hb⟩:=hcut;go_wp2_with fail
   refine(jx7 _ U tx).mono ?_;rintro r w3 ⟨rfl,a0⟩;have e0:=(a0.cell (p:=⟨P,0,none⟩) l5).trans c0;have H:=(a0.cell (p:=⟨Q,0,none⟩) l6).trans d0;have V:=(pG hb).trans (a0.mono hb.size);generalize X:kkn U tx=sm;cases sm
   ·cases h4:(U.fam==4)
    ·go_wp2
     go_ret
     exact⟨jf (by rw[M,h4,X];rfl),V⟩
    ·go_wp2
     go_ret
     exact⟨jf (by rw[M,h4,X];simp),V⟩
   ·go_wp2
    go_ret
    exact⟨jf (by rw[M,X];rfl),V⟩
def qyq:PB->Prop
 |.nil=>True
 |.node _ _ _ .nil n=>qyq n
 |.node _ _ _ (.node _ _ _ t e) n=>qze t/\qze e/\qyq n
def px7 (W:World)(so:Nat)(no:Option Nat)(tab:Tab)(l:List PP)(fin:Bool)(len:Nat)(cs:List Value)(i:Value)(wr:World):Prop:=
 ∃(k:Nat) (rest:PB),k+kq4 rest=len/\i=.int .i64 k/\BIs so no wr rest (cs.drop (k*9))/\qyq rest/\kw5 rest/\qqo rest/\(∀y∈pz rest,y.text.size<=1000)/\kxr tab l rest=fin/\pU W wr
theorem vjo {p:PX}{x:ELab}(h:p=.node 0 0 x .nil .nil):plC p=[.string x.name.text,.int .i64 x.name.at_,.bool (!(x.index.kind.toList==[])),.string x.index.text,.int .i64 x.index.at_]/\vkl p=kz7 x.name x.index/\kkp p=x.name.text:=by subst h;exact⟨rfl,rfl,rfl⟩
theorem zjb (b:PB)(hI:qyq b):qze b:=by
 intro w bb lo so no tab l pa pn pc v cs hM aM ho hl hv a8 f z aS x;obtain⟨xa,cap,rfl,X⟩:=ql hv;obtain⟨W,hW⟩:∃W,W=w.alloc (.cells #[.map (some bb),.slice pa pn pc] 301):=⟨_,rfl⟩;have G:pU w W:=by rw[hW];exact below_alloc1 _ _
 have aT:W.heap.size=w.heap.size+1:=jC;have a6:W.heap[w.heap.size]?=some (.cells #[.map (some bb),.slice pa pn pc] 301 (0,0)):=mX;have HW:=pG (show ∀i,i<kq4 b->∃g,xa=some ⟨g,0,none⟩/\∀j,j<kq4 b*9->∀u,cs[j]?=some u->W.cell? ⟨g,j,none⟩=some u from λi hi=>by
  obtain⟨g,rfl,_,hg,R⟩:=X i hi;exact⟨g,rfl,λj hj u hu=>(G.cell (p:=⟨g,j,none⟩) hg).trans ((R j hj).trans hu)⟩)
 have HR:=pG (show px7 W so no tab l (kxr tab l b) (kq4 b) cs (.int .i64 0) W from⟨0,b,aj,rfl,by simpa using a8.stay (λk _ h=>G.block k h),hI,f,z,x,rfl,Below.refl _ _⟩);have HM:=pG (hM.kept G);have HO:=pG (qj ho G);have aN:=pG a6;have HB:=pG G;have aO:=pG hW.symm;generalize kxr tab l b=fin at *;generalize kq4 b=len at *;clear X hv a8 f z x hI hM ho G a6 hW;unfold tyV;go_enter func163,ntmps163
 go_upto_region 2 with fail
 rw[ku aO];go_loopw [6,9] (λ_ i wr=>px7 W so no tab l fin len cs i wr) (λ_ i _=>len-(intOf i).toNat)
 case atStart=>exact ku HR
 case round=>
  obtain⟨k,rest,h,rfl,F,q,f,z,x,a0,hb⟩:=hrel;have Z:=pG hb;have aI:=hb.size;have U:=(hb.block w.heap.size aj).trans (ku aN);obtain⟨t0,t1,_⟩:=kj0 U;have aU:=wu U;have S:=pG ((ku HM).kept hb);have T:=pG (qj (ku HO) hb);have H:=pG a0;have aQ:=pG U;clear a0 U;match rest,F,q,f,z,x,H,h with
  |.nil,F,q,f,z,x,H,h=>
   have aR:¬k<len:=kD;clear F q f z x h hb;go_wp2
   go_ret
   exact⟨by rw[<-ku H];rfl,(ku HB).trans ((ku Z).mono aj)⟩
  |.node _ _ la .nil nx,F,q,f,z,x,H,h=>
   obtain⟨p,aP,hd,hx,N⟩:=F;have a2:k<len:=kD;obtain⟨g,rfl,R⟩:=ku HW k a2;obtain⟨⟨K,m,a,a3,aE⟩,E⟩:=z;obtain⟨O,V,aD⟩:=vjo a3;obtain⟨M,L⟩:=qq3 hd (qqi _ _ _ _ _);have c:∀j,j<9->∀u,(stC false la (.pointer p) (.slice none 0 0) (.slice none 0 0))[j]?=some u->wr.cell? ⟨g,k*9+j,none⟩=some u:=λj hj u hu=>wZ hb (R (k*9+j) aj u ((L j hj).trans hu))
   unfold stC at c;rw[O]at c;have e0:=c 0 aj _ rfl;have e1:=c 1 aj _ rfl;have e2:=c 2 aj _ rfl;have e3:=c 3 aj _ rfl;have e4:=c 4 aj _ rfl;have e5:=c 5 aj _ rfl;have e6:=c 6 aj _ rfl;have e7:=c 7 aj _ rfl;have e8:=c 8 aj _ rfl;simp only[sU]at e0;have a4:∀y∈kz7 a.name a.index,y.text.size<=1000:=λy B=>x y (by rw[pz,V];simp[B])
   have aH:∀y∈cu la.value,y.text.size<=1000:=λy B=>x y lD
   have P:∀y∈pz nx,y.text.size<=1000:=λy B=>x y lD
   have aC:a.name.text.size<=1000:=a4 _ kV;have aL:uz tab l la.place=kzh tab l a.name a.index:=by rw[a3,uz,aE];rfl
   have J:=pG (show(((zl tab a.name.text.toList).role==4)&&(kkn (kzh tab l a.name a.index) (uz tab l la.value)||((kzh tab l a.name a.index).fam==4&&(uz tab l la.value).fam==5))&&kxr tab l nx)=fin by rw[<-ku H,kxr,zwx,aD,aL]);have Y:=pG (show BIs so no wr nx (cs.drop ((k+1)*9)) by rw[M];exact N);have C:=pG (jzs (wr.alloc (.cells #[.bool false,.string a.name.text,.int .i64 a.name.at_,.bool (!(a.index.kind.toList==[])),.string a.index.text,.int .i64 a.index.at_,.pointer p,.slice none 0 0,.slice none 0 0] 334)) bb lo so tab l pa pn pc a.name a.index la.value p ((ku S).kept (below_alloc1 _ _)) aM ((ku T).alloc _) hl (hx.below (below_alloc1 _ _)) K m aH a4 aC);have A:=pG (⟨q,f,E,P⟩:qyq nx/\kw5 nx/\qqo nx/\∀y∈pz nx,y.text.size<=1000);have a1:k+1+kq4 nx=len:=kD;unfold smV tyV at C;generalize (((zl tab a.name.text.toList).role==4)&&(kkn (kzh tab l a.name a.index) (uz tab l la.value)||((kzh tab l a.name a.index).fam==4&&(uz tab l la.value).fam==5)))=s at *;generalize (!(a.index.kind.toList==[]))=d at *;clear c R L M hd O V aD a3 aE aL x a4 aH P aC hx N f q E K m H HR HW h hb S T;go_wp2_with fail
   refine(ku C).mono ?_;rintro r w2 ⟨rfl,m⟩;have I:=pG ((ku Z).trans (((below_alloc1 wr _).trans (m.mono au)).mono aI));have Q:=pG ((below_alloc1 wr (.cells #[.bool false,.string a.name.text,.int .i64 a.name.at_,.bool d,.string a.index.text,.int .i64 a.index.at_,.pointer p,.slice none 0 0,.slice none 0 0] 334)).trans (m.mono au));clear m C;cases s
   ·go_wp2
    go_ret
    exact⟨by rw[<-ku J];rfl,(ku HB).trans ((ku I).mono aj)⟩
   ·go_wp2
    go_roundw
    case rel=>exact⟨k+1,nx,a1,eu,(ku Y).stay (λk _ h=>(ku Q).block k h),(ku A).1,(ku A).2.1,(ku A).2.2.1,(ku A).2.2.2,by rw[<-ku J];rfl,ku I⟩
    case measure=>exact qQ
  |.node _ _ la (.node _ _ _ t e) nx,F,q,f,z,x,H,h=>
   obtain⟨p,ta,tn,tc,ea,en,ec,ct,ce,aP,hd,hx,⟨aJ,_,aK⟩,⟨aA,_,aB⟩,N⟩:=F;have a2:k<len:=kD;obtain⟨g,rfl,R⟩:=ku HW k a2;obtain⟨n,i,O,V⟩:=zkp la.place;obtain⟨⟨K,m⟩,a9,a7,E⟩:=z;obtain⟨M,L⟩:=qq3 hd (qqi _ _ _ _ _);have c:∀j,j<9->∀u,(stC true la (.pointer p) (.slice ta tn tc) (.slice ea en ec))[j]?=some u->wr.cell? ⟨g,k*9+j,none⟩=some u:=λj hj u hu=>wZ hb (R (k*9+j) aj u ((L j hj).trans hu))
   unfold stC at c;rw[O]at c;have e0:=c 0 aj _ rfl;have e1:=c 1 aj _ rfl;have e2:=c 2 aj _ rfl;have e3:=c 3 aj _ rfl;have e4:=c 4 aj _ rfl;have e5:=c 5 aj _ rfl;have e6:=c 6 aj _ rfl;have e7:=c 7 aj _ rfl;have e8:=c 8 aj _ rfl;simp only[sU]at e0;have aF:∀y∈cu la.cond,y.text.size<=1000:=λy B=>x y lD
   have a5:∀y∈pz t,y.text.size<=1000:=λy B=>x y lD
   have aG:∀y∈pz e,y.text.size<=1000:=λy B=>x y lD
   have P:∀y∈pz nx,y.text.size<=1000:=λy B=>x y lD
   have J:=pG (show((((uz tab l la.cond).fam==1&&kxr tab l t)&&kxr tab l e)&&kxr tab l nx)=fin by rw[<-ku H,kxr]);have Y:=pG (show BIs so no wr nx (cs.drop ((k+1)*9)) by rw[M];exact N);have D:∀o:Obj,pU wr (wr.alloc o):=λo=>below_alloc1 _ _
   have C:=pG (jvs (wr.alloc (.cells #[.bool true,.string n.text,.int .i64 n.at_,.bool (!(i.kind.toList==[])),.string i.text,.int .i64 i.at_,.pointer p,.slice ta tn tc,.slice ea en ec] 334)) bb lo so no tab l pa pn pc n i la.cond t e p ta tn tc ea en ec ct ce ((ku S).kept (D _)) aM ((ku T).alloc _) hl (hx.below (D _)) K m aF
    q.1 (qj aJ (D _)) (aK.stay λk _ h=>(D _).block k h) f.1.1 a9 f.1.2 a5 q.2.1 (qj aA (D _)) (aB.stay λk _ h=>(D _).block k h) f.2.1.1 a7 f.2.1.2 aG)
   have A:=pG (⟨q.2.2,f.2.2,E,P⟩:qyq nx/\kw5 nx/\qqo nx/\∀y∈pz nx,y.text.size<=1000);have a1:k+1+kq4 nx=len:=kD;unfold smV tyV at C;generalize (((uz tab l la.cond).fam==1&&kxr tab l t)&&kxr tab l e)=s at *;generalize (!(i.kind.toList==[]))=d at *;clear c R L M hd O V x aF a5 aG P hx N f q E a9 a7 K m H HR HW h hb S T aJ aK aA aB D;go_wp2_with fail
   refine(ku C).mono ?_;rintro r w2 ⟨rfl,m⟩;have I:=pG ((ku Z).trans (((below_alloc1 wr _).trans (m.mono au)).mono aI));have Q:=pG ((below_alloc1 wr (.cells #[.bool true,.string n.text,.int .i64 n.at_,.bool d,.string i.text,.int .i64 i.at_,.pointer p,.slice ta tn tc,.slice ea en ec] 334)).trans (m.mono au));clear m C;cases s
   ·go_wp2
    go_ret
    exact⟨by rw[<-ku J];rfl,(ku HB).trans ((ku I).mono aj)⟩
   ·go_wp2
    go_roundw
    case rel=>exact⟨k+1,nx,a1,eu,(ku Y).stay (λk _ h=>(ku Q).block k h),(ku A).1,(ku A).2.1,(ku A).2.2.1,(ku A).2.2.2,by rw[<-ku J];rfl,ku I⟩
    case measure=>exact qQ
theorem qqn:∀b:PB,qyq b
 |.nil=>trivial
 |.node _ _ _ .nil n=>qqn n
 |.node _ _ _ (.node _ _ _ t e) n=>⟨zjb t (qqn t),zjb e (qqn e),qqn n⟩
theorem vw0 (b:PB):qze b:=zjb b (qqn b)
structure MdTy (m:MdL):Prop where
 rules:∀r∈m.rules,kym r.guard/\isNil r.guard=false/\qqo r.body
 nevers:∀r∈m.nevers,kym r.guard/\isNil r.guard=false
def jvu {α:Type}(W:World)(f:α->Bool)(items:List α)(i:Value)(wr:World):Prop:=
 ∃k:Nat,k<=items.length/\i=.int .i64 k/\(items.drop k).all f=items.all f/\pU W wr
theorem jvu.start {W wr:World}   (hb:pU W wr):jvu W f items (.int .i64 0) wr:=⟨0,rW _,rfl,rfl,hb⟩
theorem zvf (a:k<items.length)(h:(items.drop k).all f=items.all f):items.all f=(f items[k]&&(items.drop (k+1)).all f):=by
 rw[<-h,rM a,ZV]
theorem zvo (a:¬k<items.length)(h:(items.drop k).all f=items.all f):items.all f=true:=by
 rw[<-h,QG aj];rfl
theorem jqf (w:World)(lo b:Nat)(tab:Tab)(x0 x1 x2 x3 x4:Value)(m:MdL)(h:kvm lo w x0 x1 x2 x3 x4 m)(hM:kqi w b tab)(a9:qwv tab)(aX:MdOk m)(aL:MdNm m)(aM:MdTy m):
  qJ 94 #[.agg #[x0,x1,x2,x3,x4],.map (some b)] w λe w'=>e=.returned (.bool (kyg tab m))/\pU w w':=by
 obtain⟨h0,⟨c1,h1,k1⟩,h2,⟨c3,h3,k3⟩,⟨c4,h4,k4⟩⟩:=h;obtain⟨_,_,_,aZ,b2,_,_⟩:=aX;obtain⟨W,hW⟩:∃W,W=w.alloc (.cells #[x0,x1,x2,x3,x4] 68):=⟨_,rfl⟩;have a6:pU w W:=by rw[hW];exact below_alloc1 _ _
 have b3:W.heap.size=w.heap.size+1:=jC;have Y:W.heap[w.heap.size]?=some (.cells #[x0,x1,x2,x3,x4] 68 (0,0)):=mX;have vw:∀{e size:Nat} {v:Value} {n:Nat} {xs:List Value},w.ownsRow lo e size v n xs->∃a cap,v=.slice a n cap/\∀i,i<n->∃g,a=some ⟨g,0,none⟩/\∀j,j<n*size->∀u,xs[j]?=some u->W.cell? ⟨g,j,none⟩=some u:=by
  intro e size v n xs h;obtain⟨a,cap,U,hv⟩:=ql h;refine⟨a,cap,U,λi hi=>?_⟩;obtain⟨g,V,_,hg,s⟩:=hv i hi;exact⟨g,V,λj hj u hu=>(a6.cell (p:=⟨g,j,none⟩) hg).trans ((s j hj).trans hu)⟩
 obtain⟨a0,l0,n0,rfl⟩:=zq h0;obtain⟨a1,l1,n1,rfl⟩:=zq h1;obtain⟨a2,l2,n2,rfl⟩:=zq h2;obtain⟨a3,p3,rfl,aN⟩:=vw h3;obtain⟨a4,p4,rfl,aO⟩:=vw h4;have aS:=pG aN;have aT:=pG aO;have aP:=pG k3;have aQ:=pG k4;have HM:=pG hM;have P:=pG a6;have aR:=pG Y;obtain⟨m0,m1,m2,m3,m4,_⟩:=jl Y;have aV:=pG hW.symm;have S:=pG (jvu.start (W:=W) (wr:=W) (f:=qw4 tab) (items:=m.rules) (Below.refl _ _));have Q:=pG (show kyg tab m=(m.rules.all (qw4 tab)&&m.nevers.all (jwp tab)) from rfl);generalize kyg tab m=fin at *;clear h0 h1 h2 h3 h4 k1 k3 k4 aN aO hM a6 Y hW vw;go_enter func94,ntmps94
 go_upto_region 1 with fail
 rw[ku aV];go_wp2_with fail
 go_loopw [6,7,14] (λ_ _ i wr=>jvu W (qw4 tab) m.rules i wr) (λ_ _ i _=>m.rules.length-(intOf i).toNat)
 case atStart=>exact ku S
 case round=>
  obtain⟨k,hk,rfl,d,hb⟩:=hrel;have O:=pG hb;have L:=hb.size;by_cases c:k<m.rules.length
  ·obtain⟨g,rfl,s⟩:=ku aS k c;obtain⟨pa,pn,pc,H,ba,bn,bc,aW,⟨f0,f1,f2,f3,f4⟩,z,C,a8,a7⟩:=jxj k c (ku aP);have e0:=wZ hb (s (k*5) aj _ f0);have U:=wZ hb (s (k*5+1) aj _ f1);have V:=wZ hb (s (k*5+2) aj _ f2);have e3:=wZ hb (s (k*5+3) aj _ f3);have e4:=wZ hb (s (k*5+4) aj _ f4);have t:=zvf c d;obtain⟨A,M,D,aA,aB,aC⟩:=aL.rules _ (wX c);obtain⟨y1,y2,y3⟩:=aM.rules _ (wX c);generalize m.rules[k]=r at e0 U V e3 e4 z C a8 a7 A M D aA aB aC y1 y2 y3 t;obtain⟨X,x⟩:∃X,X=(wr.alloc (.cells #[.string r.name.text,.int .i64 r.name.at_,.slice pa pn pc,.pointer H,.slice ba bn bc] 127)).alloc (.cells #[.map (some b),.slice pa pn pc] 301):=⟨_,rfl⟩;have B:pU wr X:=by rw[x];exact kzw _ _ _
   have aY:X.heap.size=wr.heap.size+2:=by rw[x];simp
   have F:X.heap[wr.heap.size]?=some (.cells #[.string r.name.text,.int .i64 r.name.at_,.slice pa pn pc,.pointer H,.slice ba bn bc] 127 (0,0)):=by rw[x];exact zy (qg _ _)
   have G:X.heap[wr.heap.size+1]?=some (.cells #[.map (some b),.slice pa pn pc] 301 (0,0)):=by
    rw[x];have:=qg (wr.alloc (.cells #[.string r.name.text,.int .i64 r.name.at_,.slice pa pn pc,.pointer H,.slice ba bn bc] 127)) (.cells #[.map (some b),.slice pa pn pc] 301);simp only[tJ]at this;exact this
   have q:pU w X:=(ku P).trans ((hb.trans (B.mono L)).mono aj);have I:=pG (qkp r.guard X b lo lo tab r.params pa pn pc (.pointer H) ((ku HM).kept q) a9 (qj z q) A (C.below q) y1 y2 D);have aE:=pG (λ(w1:World) (h1:pU w w1)=>vw0 r.body w1 b lo lo none tab r.params pa pn pc (.slice ba bn bc) aW ((ku HM).kept h1) a9 (qj z h1) A (qj a8 h1) (a7.stay λk _ hk=>h1.block k hk) aA y3 aB aC);have K:qw4 tab r=((uz tab r.params r.guard).fam==1&&kxr tab r.params r.body):=rfl;rw[K]at t;have l:=pG t;have T:=pG x.symm;have aG:=pG F;have aH:=pG G;have N:=pG B;have aI:=pG q;obtain⟨q0,q1,q2,q3,q4,_⟩:=jl F;obtain⟨t0,t1,_⟩:=kj0 G;generalize (uz tab r.params r.guard).fam=fc at *;generalize kxr tab r.params r.body=gb at *;unfold tyV at *;clear s f0 f1 f2 f3 f4 z C a8 a7 A M D aA aB aC y1 y2 y3 t x B F G q hb d K S;go_upto_region 5 with fail
   rw[ku T];go_wp2_with fail
   refine(ku I).mono ?_;rintro e w1 ⟨rfl,y⟩;have Z:=(y.block wr.heap.size aj).trans (ku aG);have a5:=(y.block (wr.heap.size+1) aj).trans (ku aH);have E:=pG ((ku O).trans (((ku N).trans (y.mono aj)).mono L));have aU:=pG ((ku aI).trans (y.mono aj));have R:=pG (ku aE w1 (ku aU));clear q0 q1 q2 q3 q4 t0 t1;obtain⟨q0,q1,q2,q3,q4,_⟩:=jl Z;obtain⟨t0,t1,_⟩:=kj0 a5;clear y Z a5 aG aH N aI I aE;cases J:(fc==1)
   ·rw[J]at l;go_wp2
    go_ret
    exact⟨by rw[ku Q,ku l];rfl,(ku P).trans ((ku E).mono aj)⟩
   ·rw[J]at l;go_wp2_with fail
    refine(ku R).mono ?_;rintro e w2 ⟨rfl,aK⟩;have aD:=pG ((ku E).trans (aK.mono (ku E).size));clear aK R;cases gb
    ·go_wp2
     go_ret
     exact⟨by rw[ku Q,ku l];rfl,(ku P).trans ((ku aD).mono aj)⟩
    ·go_wp2
     go_roundw
     case rel=>exact⟨k+1,aj,eu,by rw[ku l];rfl,ku aD⟩
     case measure=>exact qQ
  ·have hd:=zvo c d;rw[hd,QC]at Q;have aJ:=(hb.block w.heap.size aj).trans (ku aR);obtain⟨_,_,_,_,z4,_⟩:=jl aJ;have aF:=pG (jvu.start (W:=W) (wr:=wr) (f:=jwp tab) (items:=m.nevers) hb);clear hd d hb aJ S m0 m1 m2 m3 m4;go_wp2_with fail
   go_loopw [9,10,38] (λ_ _ i wr=>jvu W (jwp tab) m.nevers i wr) (λ_ _ i _=>m.nevers.length-(intOf i).toNat)
   case atStart=>exact ku aF
   case round=>
    obtain⟨k,hk,rfl,d,hb⟩:=hrel;have O:=pG hb;have L:=hb.size;by_cases c:k<m.nevers.length
    ·obtain⟨g,rfl,s⟩:=ku aT k c;obtain⟨pa,pn,pc,H,⟨f0,f1,f2,f3⟩,z,C⟩:=jxr k c (ku aQ);have e0:=wZ hb (s (k*4) aj _ f0);have U:=wZ hb (s (k*4+1) aj _ f1);have V:=wZ hb (s (k*4+2) aj _ f2);have e3:=wZ hb (s (k*4+3) aj _ f3);have t:=zvf c d;obtain⟨A,M,D⟩:=aL.nevers _ (wX c);obtain⟨y1,y2⟩:=aM.nevers _ (wX c);generalize m.nevers[k]=r at e0 U V e3 z C A M D y1 y2 t;obtain⟨X,x⟩:∃X,X=(wr.alloc (.cells #[.string r.name.text,.int .i64 r.name.at_,.slice pa pn pc,.pointer H] 130)).alloc (.cells #[.map (some b),.slice pa pn pc] 301):=⟨_,rfl⟩;have B:pU wr X:=by rw[x];exact kzw _ _ _
     have aY:X.heap.size=wr.heap.size+2:=by rw[x];simp
     have F:X.heap[wr.heap.size]?=some (.cells #[.string r.name.text,.int .i64 r.name.at_,.slice pa pn pc,.pointer H] 130 (0,0)):=by rw[x];exact zy (qg _ _)
     have G:X.heap[wr.heap.size+1]?=some (.cells #[.map (some b),.slice pa pn pc] 301 (0,0)):=by
      rw[x];have:=qg (wr.alloc (.cells #[.string r.name.text,.int .i64 r.name.at_,.slice pa pn pc,.pointer H] 130)) (.cells #[.map (some b),.slice pa pn pc] 301);simp only[tJ]at this;exact this
     have q:pU w X:=(ku P).trans ((hb.trans (B.mono L)).mono aj);have I:=pG (qkp r.guard X b lo lo tab r.params pa pn pc (.pointer H) ((ku HM).kept q) a9 (qj z q) A (C.below q) y1 y2 D);have K:jwp tab r=((uz tab r.params r.guard).fam==1):=rfl;rw[K]at t;have l:=pG t;have T:=pG x.symm;have N:=pG B;obtain⟨q0,q1,q2,q3,_⟩:=kk5 F;obtain⟨t0,t1,_⟩:=kj0 G;generalize (uz tab r.params r.guard).fam=fc at *;unfold tyV at *;clear s f0 f1 f2 f3 z C A M D y1 y2 t x B F G q hb d K aF;go_upto_region 12 with fail
     rw[ku T];go_wp2_with fail
     refine(ku I).mono ?_;rintro e w1 ⟨rfl,y⟩;have E:=pG ((ku O).trans (((ku N).trans (y.mono aj)).mono L));clear y I q0 q1 q2 q3 t0 t1;cases J:(fc==1)
     ·rw[J]at l;go_wp2
      go_ret
      exact⟨by rw[ku Q,ku l];rfl,(ku P).trans ((ku E).mono aj)⟩
     ·rw[J]at l;go_wp2
      go_roundw
      case rel=>exact⟨k+1,aj,eu,by rw[ku l];rfl,ku E⟩
      case measure=>exact qQ
    ·have hd:=zvo c d;rw[hd]at Q;clear hd d;go_wp2
     go_ret
     exact⟨by rw[ku Q];rfl,(ku P).trans ((ku O).mono aj)⟩
end Go.Proofs.YtpmcnonmkghokaaGreatDoor
