import Derived.Test.YtpmcnonmkghokaaGreatDoorT00
import Derived.RegionTactic
import Derived.OrdersHeld
import Derived.WalkKit
import Derived.Test.YtpmcnonmkghokaaGreatDoorT18
import Derived.Test.YtpmcnonmkghokaaGreatDoorT04
import Derived.Deep.AppendLies
import Derived.Test.YtpmcnonmkghokaaGreatDoorT19
import Derived.Test.YtpmcnonmkghokaaGreatDoorT21
set_option maxRecDepth 100000
set_option maxHeartbeats 8000000
set_option linter.unusedVariables false
set_option linter.unusedSimpArgs false
namespace Go.Proofs.YtpmcnonmkghokaaGreatDoor
open Go.Proofs.Tryz
open Go.RowKit
variable {a a':Act}{listed:Array Bool}{n:ByteArray}{ls:List (List Int)}{sets:List Int}{nevers:List MNever}{steps:List MStep}{vars:List MVar}{D rs:List Nat}{cs:List Value}{B M fuel gcap gg i j lo nb size so:Nat}{o oi:Oper}{nv pv sv tv v vv:Value}{w w' w3 w4:World}{tab:kq1}
section
variable {P:Program} {ops:Array Oper} {Q:Exit->Act->World->Prop} {md:Region.Mode} {S:World->Prop} {tl:List Nat}
def kzm (P:Program)(md:Region.Mode)(ops:Array Oper)(Q:Exit->Act->World->Prop)(S:World->Prop)(tl:List Nat):Nat->Array Bool->Act->World->Prop
 |0,listed,a,w=>Region.ready md ops listed=[]/\Q .normal a w
 |fuel+1,listed,a,w=>(Region.ready md ops listed=[]->Q .normal a w)/\∀i∈Region.ready md ops listed,wpOp P ops Q i (λa' w'=>(S w->i∉tl->S w')/\kzm P md ops Q S tl fuel (listed.setIfInBounds i true) a' w') a w
theorem qw1:∀(fuel:Nat) (listed:Array Bool) (a:Act) (w:World),kzm P md ops Q S tl fuel listed a w->wpAny P md ops Q fuel listed a w
 |0,_,_,_,h=>h
 |fuel+1,_,_,_,h=>⟨h.1,λi hi=>wpOp_mono (λa' w' b=>qw1 fuel _ a' w' b.2) (h.2 i hi)⟩
def zjc (md:Region.Mode)(ops:Array Oper)(listed:Array Bool)(i:Nat)(D:List Nat):Bool:=
 D.all λd=>!(listed.getD d true)&&(match ops[d]? with|some o=>o.after.any (λe=>Region.binds md e&&(e.on==i||D.contains e.on))|none=>true)
theorem qyx (h:listed.getD j true=false):¬listed.getD j false=true:=by
 intro h1;rcases Q8 j listed.size with a|a
 ·simp[a]at h h1;rw[h]at h1;cases h1
 ·simp[Jq a]at h1
theorem vvs (f:zjc md ops listed i D=true)(hi:listed.getD i true=false)(k:j∈Region.ready md ops listed):j∉D:=by
 intro l;have h:=sG.1 f j l;rw[wW]at h;obtain⟨h1,o,m,b⟩:=mem_ready.1 k;rw[m]at h;obtain⟨e,g,hb⟩:=Array.any_eq_true'.mp h.2;rw[wW,Qu,rQ,List.contains_iff_mem]at hb;have c:=b e g hb.1;rcases hb.2 with a|a
 ·rw[a]at c;exact qyx hi c
 ·have d:=sG.1 f _ a;rw[wW]at d;exact qyx (by simpa using d.1) c
theorem vvl (c:zjc md ops listed i D=true)(f:j∉D):zjc md ops (listed.setIfInBounds j true) i D=true:=by
 refine sG.2 λd a=>?_
 have b:j≠d:=λe=>f (e▸a)
 rw[getD_set_ne true b];exact(sG.1 c d a)
theorem jqn (D:List Nat)(hi:ops[i]?=some oi)(y:∀(j:Nat) (o:Oper) cs b,ops[j]?=some o->o.op≠.select cs b)
  (N:∀c a w,Q (.panic c) (a.put oi.dst v) w->Q (.panic c) a w) (J:∀t∈tl,t∈D):
  ∀(fuel:Nat) (listed:Array Bool) (a:Act) (w:World),
   (∀j l,ops[j]?=some l->j≠i->listed.getD j true=false->(∀e∈l.after,Region.binds md e=true->e.on≠i)->oi.apart ops l=true) ->
   zjc md ops listed i D=true->i∈Region.ready md ops listed->YieldsIf P ops S oi v a->S w ->
   kzm P md ops Q S tl fuel (listed.setIfInBounds i true) (a.put oi.dst v) w->kzm P md ops Q S tl (fuel+1) listed a w:=by
 intro fuel;induction fuel with
 |zero=>
  intro listed a w _ G g z p H;refine⟨λh=>(by rw[h]at g;cases g),λj s=>?_⟩;by_cases d:j=i
  ·subst d;exact z.wpOp hi p ⟨λ_ _=>p,H⟩
  ·have:=ready_mono s d;rw[H.1]at this;cases this
 |succ fuel ih=>
  intro listed a w m G g z p H;refine⟨λh=>(by rw[h]at g;cases g),λj s=>?_⟩;by_cases d:j=i
  ·subst d;exact z.wpOp hi p ⟨λ_ _=>p,H⟩
  ·have h1:=H.2 j (ready_mono s d);have f:=(mem_ready.1 g).1;have B:=vvs G f s;obtain⟨u,l,x,F⟩:=mem_ready.1 s;have I:∀e∈l.after,Region.binds md e=true->e.on≠i:=λe O hb K=>by
    have h1:=F e O hb;rw[K]at h1;exact qyx f h1
   have q:∀k ok,ops[k]?=some ok->k≠i->(listed.setIfInBounds j true).getD k true=false ->
     (∀e∈ok.after,Region.binds md e=true->e.on≠i)->oi.apart ops ok=true:=λk ok R L f M=>by
    refine m k ok R L ?_ M;by_cases C:j=k
    ·subst C;exact u
    ·rw[getD_set_ne true C]at f;exact f
   refine wpOp_mono (λa' w' E=>?_) (wpOp_putIf x (m j l x d u I) (λcs b=>y i oi cs b hi) (λcs b=>y j l cs b x) N z h1);have A:S w':=E.2.1 p λT=>B (J j T)
   refine⟨λ_ _=>A,ih (listed.setIfInBounds j true) a' w' q (vvl G B) (ready_mono g (Ne.symm d)) E.1 A ?_⟩;rw[ZW _ _ d];exact E.2.2
theorem jzq (D:List Nat)(hi:ops[i]?=some oi)
  (k:Region.noSelect ops=true) (g:Region.free md ops listed i=true) (j:(Region.ready md ops listed).contains i=true) (f:zjc md ops listed i D=true) (b:∀t∈tl,t∈D)
  (d:∀c a w,Q (.panic c) (a.put oi.dst v) w->Q (.panic c) a w) (l:YieldsIf P ops S oi v a) (e:S w)
  (h:kzm P md ops Q S tl fuel (listed.setIfInBounds i true) (a.put oi.dst v) w):kzm P md ops Q S tl (fuel+1) listed a w:=
 jqn D hi (Region.noSelect_spec k) d b fuel listed a w (Region.free_spec hi g) f (by simpa using j) l e h
theorem jqr (hi:ops[i]?=some oi)(t:∀(j:Nat) (o:Oper) cs b,ops[j]?=some o->o.op≠.select cs b)
  (F:∀c a w,Q (.panic c) (a.put oi.dst v) w->Q (.panic c) a w):
  ∀(fuel:Nat) (listed:Array Bool) (a:Act) (w:World),
   (∀j g,ops[j]?=some g->j≠i->listed.getD j true=false->(∀e∈g.after,Region.binds md e=true->e.on≠i)->oi.apart ops g=true) ->
   i∈Region.ready md ops listed->YieldsIf P ops (λ_=>True) oi v a ->
   kzm P md ops Q S tl fuel (listed.setIfInBounds i true) (a.put oi.dst v) w->kzm P md ops Q S tl (fuel+1) listed a w:=by
 intro fuel;induction fuel with
 |zero=>
  intro listed a w _ f x H;refine⟨λh=>(by rw[h]at f;cases f),λj u=>?_⟩;by_cases d:j=i
  ·subst d;exact x.wpOp hi trivial ⟨λh _=>h,H⟩
  ·have:=ready_mono u d;rw[H.1]at this;cases this
 |succ fuel ih=>
  intro listed a w l f x H;refine⟨λh=>(by rw[h]at f;cases f),λj u=>?_⟩;by_cases d:j=i
  ·subst d;exact x.wpOp hi trivial ⟨λh _=>h,H⟩
  ·have h1:=H.2 j (ready_mono u d);have m:=(mem_ready.1 f).1;obtain⟨q,g,s,A⟩:=mem_ready.1 u;have B:∀e∈g.after,Region.binds md e=true->e.on≠i:=λe G hb C=>by
    have h1:=A e G hb;rw[C]at h1;exact qyx m h1
   have p:∀k ok,ops[k]?=some ok->k≠i->(listed.setIfInBounds j true).getD k true=false ->
     (∀e∈ok.after,Region.binds md e=true->e.on≠i)->oi.apart ops ok=true:=λk ok I D m E=>by
    refine l k ok I D ?_ E;by_cases y:j=k
    ·subst y;exact q
    ·rw[getD_set_ne true y]at m;exact m
   refine wpOp_mono (λa' w' z=>?_) (wpOp_putIf s (l j g s d q B) (λcs b=>t i oi cs b hi) (λcs b=>t j g cs b s) F x h1);refine⟨z.2.1,ih (listed.setIfInBounds j true) a' w' p (ready_mono f (Ne.symm d)) z.1 ?_⟩;rw[ZW _ _ d];exact z.2.2
theorem jzj (hi:ops[i]?=some oi)
  (f:Region.noSelect ops=true) (d:Region.free md ops listed i=true) (e:(Region.ready md ops listed).contains i=true)
  (b:∀c a w,Q (.panic c) (a.put oi.dst v) w->Q (.panic c) a w) (g:YieldsIf P ops (λ_=>True) oi v a)
  (h:kzm P md ops Q S tl fuel (listed.setIfInBounds i true) (a.put oi.dst v) w):kzm P md ops Q S tl (fuel+1) listed a w:=
 jqr hi (Region.noSelect_spec f) b fuel listed a w (Region.free_spec hi d) ou g h
def kvb (P:Program)(md:Region.Mode)(ops:Array Oper)(Q:Exit->Act->World->Prop)(S:World->Prop)(tl:List Nat)(fuel:Nat)(listed:Array Bool)(a:Act)(w:World)(rs:List Nat):Prop:=
 ∀i∈rs,wpOp P ops Q i (λa' w'=>(S w->i∉tl->S w')/\kzm P md ops Q S tl fuel (listed.setIfInBounds i true) a' w') a w
theorem kvb.nil: kvb P md ops Q S tl fuel listed a w []:=λ_ h=>gY
theorem kvb.cons (g:ops[i]?=some o)
  (h:∀b:Act->World->Prop,(∀a w,S w->kzm P md ops Q S tl fuel (listed.setIfInBounds i true) a w->b a w)->if Region.wanted o (yielded ops a.tmps)=true then Oper.wp P o a w b Q else b (a.put o.dst undef) w)
  (k:kvb P md ops Q S tl fuel listed a w rs):kvb P md ops Q S tl fuel listed a w (i::rs):=λj c=>by
 rcases sW.1 c with rfl|c
 ·exact wpOp_step g (λb d=>h b (λa w e f=>d a w ⟨λ_ _=>e,f⟩))
 ·exact k j c
theorem jqt (c:Region.ready md ops listed=rs)(b:rs≠[])
  (h:kvb P md ops Q S tl fuel listed a w rs):kzm P md ops Q S tl (fuel+1) listed a w:=⟨λd=>absurd (c▸d) b,c▸h⟩
theorem zjf:∀(fuel:Nat) (listed:Array Bool) (a:Act) (w:World),(∀j,listed.getD j true=false->j∈tl)->wpAny P md ops Q fuel listed a w->kzm P md ops Q S tl fuel listed a w
 |0,_,_,_,_,h=>h
 |fuel+1,listed,a,w,hl,h=>⟨h.1,λi hi=>wpOp_mono (λa' w' d=>⟨λ_ hn=>absurd (hl i (mem_ready.1 hi).1) hn,zjf fuel _ a' w' (λj c=>hl j (by
   by_cases b:i=j
   ·subst b;exact(mem_ready.1 hi).1
   ·rw[getD_set_ne true b]at c;exact c)) d⟩) (h.2 i hi)⟩
theorem vxo (h:((List.range listed.size).all λj=>listed.getD j true||tl.contains j)=true):∀j,listed.getD j true=false->j∈tl:=λj b=>by
 rcases Q8 j listed.size with a|a
 ·have:=sG.1 h j (List.mem_range.2 a);rw[b]at this;simpa using this
 ·simp[Jq a]at b
theorem kz4 {c:Nat}   (b:P.follows .mixedOrders=true)
  (h:kzm P .any ops Q S tl ops.size (Array.replicate ops.size false) a w.drew):(Code.region c ops true).wp P Q a w:=
 wp_region_any b (qw1 _ _ _ _ h)
end
end Go.Proofs.YtpmcnonmkghokaaGreatDoor
namespace Go.Proofs.YtpmcnonmkghokaaGreatDoor
open Go.Proofs.Tryz
open Go.RowKit
variable {a a':Act}{listed:Array Bool}{n:ByteArray}{ls:List (List Int)}{sets:List Int}{nevers:List MNever}{steps:List MStep}{vars:List MVar}{D rs:List Nat}{cs:List Value}{B M fuel gcap gg i j lo nb size so:Nat}{o oi:Oper}{nv pv sv tv v vv:Value}{w w' w3 w4:World}{tab:kq1}
section
variable {P:Program} {ops:Array Oper} {Q:Exit->Act->World->Prop} {md:Region.Mode} {S:World->Prop} {tl:List Nat}
def waits (md:Region.Mode)(ops:Array Oper)(i:Nat):List Nat:=
 (List.range ops.size).foldl (λD d=>match ops[d]? with
  |some o=>if o.after.any (λe=>Region.binds md e&&(e.on==i||D.contains e.on)) then D++[d] else D
  |none=>D) []
def jjt (md:Region.Mode)(ops:Array Oper)(listed:Array Bool)(i:Nat):Bool:=Region.noSelect ops&&Region.free md ops listed i&&(Region.ready md ops listed).contains i
def vxf (md:Region.Mode)(ops:Array Oper)(listed:Array Bool)(tl:List Nat)(i:Nat):Bool:=jjt md ops listed i&&zjc md ops listed i (waits md ops i)&&tl.all (waits md ops i).contains
theorem frS (i:Nat)       (h:kzm P md ops Q S tl fuel (listed.setIfInBounds i true) a' w)
  (hi:ops[i]?=some oi:=by exact rfl) (f:Region.wanted oi (yielded ops a.tmps)=true:=by rfl) (g:∀w,(execOp a.eval oi).run P w=.ok (.value v) w:=by intro;go_simp;try exact rfl)
  (e:a.put oi.dst v=a':=by simp only[Act.put,Ji,Zz,JV];try exact rfl)
  (b:jjt md ops listed i=true:=by kernel_rfl) (d:∀c a w,Q (.panic c) (a.put oi.dst v) w->Q (.panic c) a w:=by exact λ_ _ _ h=>h):kzm P md ops Q S tl (fuel+1) listed a w:=by
 simp only[jjt,wW]at b;subst e;exact jzj hi b.1.1 b.1.2 b.2 d (Or.inl ⟨f,λw _=>g w⟩) h
theorem tkS (i:Nat)       (e:S w)(h:kzm P md ops Q S tl fuel (listed.setIfInBounds i true) a' w)
  (hi:ops[i]?=some oi:=by exact rfl) (j:Region.wanted oi (yielded ops a.tmps)=true:=by rfl) (k:∀w,S w->(execOp a.eval oi).run P w=.ok (.value v) w:=by intro _ l;go_simp;try exact rfl)
  (f:a.put oi.dst v=a':=by simp only[Act.put,Ji,Zz,JV];try exact rfl)
  (b:vxf md ops listed tl i=true:=by kernel_rfl) (d:∀c a w,Q (.panic c) (a.put oi.dst v) w->Q (.panic c) a w:=by exact λ_ _ _ h=>h):kzm P md ops Q S tl (fuel+1) listed a w:=by
 simp only[vxf,jjt,wW]at b;subst f;exact jzq (waits md ops i) hi b.1.1.1.1 b.1.1.1.2 b.1.1.2 b.1.2 (λt g=>by simpa using sG.1 b.2 t g) d (Or.inl ⟨j,k⟩) e h
theorem onS (i:Nat)     
  (h:∀K':Act->World->Prop,(∀a w,S w->kzm P md ops Q S tl fuel (listed.setIfInBounds i true) a w->K' a w)->if Region.wanted o (yielded ops a.tmps)=true then Oper.wp P o a w K' Q else K' (a.put o.dst undef) w)
  (hi:ops[i]?=some o:=by exact rfl) (b:Region.ready md ops listed=[i]:=by kernel_rfl):kzm P md ops Q S tl (fuel+1) listed a w:=
 jqt b au (kvb.cons hi h kvb.nil)
theorem onA (i:Nat)     
  (h:∀K':Act->World->Prop,(∀a w,wpAny P md ops Q fuel (listed.setIfInBounds i true) a w->K' a w)->if Region.wanted o (yielded ops a.tmps)=true then Oper.wp P o a w K' Q else K' (a.put o.dst undef) w)
  (hi:ops[i]?=some o:=by exact rfl) (b:Region.ready md ops listed=[i]:=by kernel_rfl):wpAny P md ops Q (fuel+1) listed a w:=
 wpAny_ready b au (AllReady.cons hi h AllReady.nil)
theorem zje (h:wpAny P md ops Q fuel listed a w)(b:((List.range listed.size).all λj=>listed.getD j true||tl.contains j)=true:=by kernel_rfl):kzm P md ops Q S tl fuel listed a w:=zjf _ _ _ _ (vxo b) h
end
end Go.Proofs.YtpmcnonmkghokaaGreatDoor
namespace Go.Proofs.YtpmcnonmkghokaaGreatDoor
open Go.Proofs.Tryz
open Go.RowKit
attribute [local go_sem ↓] Go.wp_at_zero Go.wp_at_succ
variable {a a':Act}{listed:Array Bool}{n:ByteArray}{ls:List (List Int)}{sets:List Int}{nevers:List MNever}{steps:List MStep}{vars:List MVar}{D rs:List Nat}{cs:List Value}{B M fuel gcap gg i j lo nb size so:Nat}{o oi:Oper}{nv pv sv tv v vv:Value}{w w' w3 w4:World}{tab:kq1}
abbrev AvS (M H size:Nat)(vv:Value)(a b c d e:Option Addr)(n0 n1 f g h c0 c1 c2 c3 c4:Nat)(v:VrT)(w:World):Prop:=
 w.cell? ⟨M,3,none⟩=some (vv)/\w.cell? ⟨M,5,none⟩=some (.int .i64 size)/\w.cell? ⟨H,0,none⟩=some (.slice a n0 c0)/\w.cell? ⟨H,1,none⟩=some (.slice b n1 c1)/\w.cell? ⟨H,2,none⟩=some (.slice c f c2)/\w.cell? ⟨H,3,none⟩=some (.slice d g c3)/\w.cell? ⟨H,4,none⟩=some (.slice e h c4)/\w.cell? ⟨H+1,3,none⟩=some (.string v.over.text)/\w.cell? ⟨H+1,4,none⟩=some (.int .i64 v.over.at_)/\w.cell? ⟨H+1,5,none⟩=some (.int .i64 v.si.form)/\w.cell? ⟨H+1,6,none⟩=some (.int .i64 (kq8 v.si.top.text))/\w.cell? ⟨H+1,7,none⟩=some (.int .i64 v.si.top.at_)/\w.cell? ⟨H+1,8,none⟩=some (.string v.si.name.text)/\w.cell? ⟨H+1,9,none⟩=some (.int .i64 v.si.name.at_)
theorem AvS.below {H: Nat}  {a b c d e:Option Addr}{n0 n1 f g i c0 c1 c2 c3 c4:Nat}{v:VrT}   (h:AvS M H size vv a b c d e n0 n1 f g i c0 c1 c2 c3 c4 v w)(hb:Below B w w')(hM:M<B)(hH:H+1<B):AvS M H size vv a b c d e n0 n1 f g i c0 c1 c2 c3 c4 v w':=by
 obtain⟨q,s1,s,s3,t,u,x,y,z,A,j,k,l,m⟩:=h;exact⟨(hb.cell (p:=⟨M,3,none⟩) ay).trans q,(hb.cell (p:=⟨M,5,none⟩) ay).trans s1,(hb.cell (p:=⟨H,0,none⟩) ay).trans s,(hb.cell (p:=⟨H,1,none⟩) ay).trans s3,(hb.cell (p:=⟨H,2,none⟩) ay).trans t,(hb.cell (p:=⟨H,3,none⟩) ay).trans u,(hb.cell (p:=⟨H,4,none⟩) ay).trans x,(hb.cell (p:=⟨H+1,3,none⟩) ay).trans y,(hb.cell (p:=⟨H+1,4,none⟩) ay).trans z,(hb.cell (p:=⟨H+1,5,none⟩) ay).trans A,(hb.cell (p:=⟨H+1,6,none⟩) ay).trans j,(hb.cell (p:=⟨H+1,7,none⟩) ay).trans k,(hb.cell (p:=⟨H+1,8,none⟩) ay).trans l,(hb.cell (p:=⟨H+1,9,none⟩) ay).trans m⟩
theorem px6 (h:kz8 lo so w M nb steps nevers sets vars tab size sv nv tv vv):M<w.heap.size:=wu h.row
theorem vqa (h:kz8 lo so w M nb steps nevers sets vars tab size sv nv tv vv)  {o:Obj}(hb:pU w w3)(b:(w3.alloc o).grownBy w4 vv.ownBlock):w4.heap[M]?=some (.cells #[sv,nv,tv,vv,.map (some nb),.int .i64 size] 105 (0,0)):=by
 have a:(w3.alloc o).heap[M]?=some (.cells #[sv,nv,tv,vv,.map (some nb),.int .i64 size] 105 (0,0)):=zy ((hb.block M (wu h.row)).trans h.row);obtain⟨cs,c,_⟩:=h.vars;exact(kjk (x:=none) (bad:=[213]) (qj c (hb.alloc hb.size o)) b ak).row a au ak
theorem pz6 (h:kz8 lo so w M nb steps nevers sets vars tab size sv nv tv vv)(u:MVar){cnt:Nat}(q:u.first=size)(f:u.count=cnt)  (z:w.ownsRow lo 213 5 vv vars.length cs)(v:qzo 0 w vars cs)  (hb:pU w w3){a:Option Addr}{b:Nat}(E:w3.ownsRow 0 9 1 (.slice a u.texts.length b) u.texts.length (u.texts.map Value.string))
  (s:(w3.alloc (.cells #[.int .i64 size,.int .i64 cnt,.slice a u.texts.length b,.int .i64 u.over,.int .i64 u.of_] 213)).grownBy w4 vv.ownBlock)  (t:w4.ownsRow lo 213 5 (.slice (some ⟨gg,0,none⟩) (vars.length+1) gcap) (vars.length+1) (cs++[.int .i64 size,.int .i64 cnt,.slice a u.texts.length b,.int .i64 u.over,.int .i64 u.of_])) (g:lo<=w.heap.size):
  (∃vv',kz8 lo so ((w4.setCell ⟨M,3,none⟩ (.slice (some ⟨gg,0,none⟩) (vars.length+1) gcap)).setCell ⟨M,5,none⟩ (.int .i64 ((size:Int)+cnt))) M nb steps nevers sets (vars++[u]) tab (size+u.count) sv nv tv vv')/\Tk none [105,213] w ((w4.setCell ⟨M,3,none⟩ (.slice (some ⟨gg,0,none⟩) (vars.length+1) gcap)).setCell ⟨M,5,none⟩ (.int .i64 ((size:Int)+cnt)))/\Below lo w ((w4.setCell ⟨M,3,none⟩ (.slice (some ⟨gg,0,none⟩) (vars.length+1) gcap)).setCell ⟨M,5,none⟩ (.int .i64 ((size:Int)+cnt))):=by
 have i:=vqa h hb s;have j:=pqk i (.slice (some ⟨gg,0,none⟩) (vars.length+1) gcap);have y:=pzn j (.int .i64 ((size:Int)+cnt));have c:pU w (w3.alloc (.cells #[.int .i64 size,.int .i64 cnt,.slice a u.texts.length b,.int .i64 u.over,.int .i64 u.of_] 213)):=hb.alloc hb.size _;have k:=qj z c;have k4:Tk none [105,213] (w3.alloc (.cells #[.int .i64 size,.int .i64 cnt,.slice a u.texts.length b,.int .i64 u.over,.int .i64 u.of_] 213)) w4:=kjk k s ak;have k5:Tk none [105] w4 ((w4.setCell ⟨M,3,none⟩ (.slice (some ⟨gg,0,none⟩) (vars.length+1) gcap)).setCell ⟨M,5,none⟩ (.int .i64 ((size:Int)+cnt))):=(kxa i ak 3 _).trans (kxa j ak 5 _);have l:=k4.trans (k5.wide (by decide:∀e∈[105],e∈[105,213]));have K:=(kqg c none [105,213]).trans l;have d:=dw.none w;have x:=(E.alloc (.cells #[.int .i64 size,.int .i64 cnt,.slice a u.texts.length b,.int .i64 u.over,.int .i64 u.of_] 213));obtain⟨H,⟨c1,h1,F⟩,⟨c2,A,G⟩,B,_,C,m,D⟩:=h;refine⟨⟨_,⟨by rw[y,f];rfl,⟨c1,jw h1 K d ak,F.tk K d ak ak⟩,⟨c2,jw A K d ak,G.tk K d ak ak⟩,jw B K d ak,⟨cs++[.int .i64 size,.int .i64 cnt,.slice a u.texts.length b,.int .i64 u.over,.int .i64 u.of_],?_,?_⟩,C.tk K au,m,D⟩⟩,K,?_⟩
 ·rw[wY];exact jw t k5 (dw.none _) ak
 ·refine(v.tk K d ak).app ⟨a,b,[],?_,jw x l (dw.none _) ak,rfl⟩;rw[q,f];rfl
 ·exact((((c.mono g)).grown s (rU g c.size) (xg k)).setCell (p:=⟨M,3,none⟩) m _).setCell (p:=⟨M,5,none⟩) m _
theorem jyg (w:World)(lo so mo M nb:Nat)(steps:List MStep)(nevers:List MNever)(sets:List Int)(vars:List MVar)(tab:kq1)(size:Nat)(sv nv tv vv:Value)(f g i j l:Option Addr)(n0 n1 p q s c0 c1 c2 c3 c4:Nat)(m:MdL)(v:VrT)(u:MVar)(h:kz8 lo so w M nb steps nevers sets vars tab size sv nv tv vv)(X:kvm mo w (.slice f n0 c0) (.slice g n1 c1) (.slice i p c2) (.slice j q c3) (.slice l s c4) m)(V:MdFit m)(hu:zwm m.sets m.kinds size v=some u)(b8:vars.length<=1000)(b7:size<=1000000)(aY:lo<=w.heap.size):
  qJ 57 #[.pointer (some ⟨M,0,none⟩),mdV f g i j l n0 n1 p q s c0 c1 c2 c3 c4,vrV v] w λe w'=>e=.returned (.tuple #[])/\(∃vv',kz8 lo so w' M nb steps nevers sets (vars++[u]) tab (size+u.count) sv nv tv vv')/\Tk none [105,213] w w'/\Below lo w w':=by
 obtain⟨W,J⟩:∃W,W=(w.alloc (.cells #[.slice f n0 c0,.slice g n1 c1,.slice i p c2,.slice j q c3,.slice l s c4] 68)).alloc (.cells #[.string v.name.text,.int .i64 v.name.at_,.bool v.arr,.string v.over.text,.int .i64 v.over.at_,.int .i64 v.si.form,.int .i64 (kq8 v.si.top.text),.int .i64 v.si.top.at_,.string v.si.name.text,.int .i64 v.si.name.at_] 121):=⟨_,rfl⟩;have H:pU w W:=by rw[J];exact(below_alloc1 w _).trans ((below_alloc1 _ _).mono au)
 have aZ:w.heap.size<=W.heap.size:=H.size;have b5:w.heap.size+1<W.heap.size:=by rw[J];simp
 have hD:W.heap[w.heap.size]?=some (.cells #[.slice f n0 c0,.slice g n1 c1,.slice i p c2,.slice j q c3,.slice l s c4] 68 (0,0)):=by rw[J];exact zy (qg _ _)
 have hN:W.heap[w.heap.size+1]?=some (.cells #[.string v.name.text,.int .i64 v.name.at_,.bool v.arr,.string v.over.text,.int .i64 v.over.at_,.int .i64 v.si.form,.int .i64 (kq8 v.si.top.text),.int .i64 v.si.top.at_,.string v.si.name.text,.int .i64 v.si.name.at_] 121 (0,0)):=by
  rw[J];have:=qg (w.alloc (.cells #[.slice f n0 c0,.slice g n1 c1,.slice i p c2,.slice j q c3,.slice l s c4] 68)) (.cells #[.string v.name.text,.int .i64 v.name.at_,.bool v.arr,.string v.over.text,.int .i64 v.over.at_,.int .i64 v.si.form,.int .i64 (kq8 v.si.top.text),.int .i64 v.si.top.at_,.string v.si.name.text,.int .i64 v.si.name.at_] 121);simp only[tJ]at this;exact this
 have aV:=px6 h;have hM:=(H.block M aV).trans h.row;obtain⟨m0,m1,m2,m3,m4,m5,f0,f1,f2,f3,f4,f5⟩:=kzb hM;obtain⟨q0,q1,q2,q3,q4,_⟩:=jl hD;obtain⟨⟨v0,v1,v2,v3,v4,v5,v6,v7,v8,v9⟩,_⟩:=kjj hN;have aR:=pG (show AvS M w.heap.size size vv f g i j l n0 n1 p q s c0 c1 c2 c3 c4 v W from⟨m3,m5,q0,q1,q2,q3,q4,v3,v4,v5,v6,v7,v8,v9⟩);obtain⟨cs,a7,aH⟩:=h.vars;obtain⟨va,vc,e,_⟩:=ql a7;unfold zwm at hu;obtain⟨cnt,b,aK⟩:=wQ.mp hu;obtain⟨tx,a6,t⟩:=rJ.mp aK;have aN:u.first=size:=by rw[<-t]
 have B:u.count=cnt:=by rw[<-t]
 have a5:u.texts=tx:=by rw[<-t]
 have aJ:u.over=kyq m.sets v.over.text.toList:=by rw[<-t]
 have aI:u.of_=kyq m.sets v.si.name.text.toList:=by rw[<-t]
 rw[<-a5]at a6;have aE:=pG (λ(wx:World) (hb:pU w wx)=>zxb wx mo v.si f g i j l n0 n1 p q s c0 c1 c2 c3 c4 m (X.stay λk _ hk=>hb.block k hk) V u.texts a6);have U:=pG (λ(wx:World) (hb:pU w wx)=>qjw wx mo m.sets v.over f g i j l n0 n1 p q s c0 c1 c2 c3 c4 (qj X.o0 hb) V.sets);have T:=pG (λ(wx:World) (hb:pU w wx)=>qjw wx mo m.sets v.si.name f g i j l n0 n1 p q s c0 c1 c2 c3 c4 (qj X.o0 hb) V.sets);have F:=pG (λ(L:v.arr=true)=>(show ∃k x,qz1 m.sets v.over.text.toList=some k/\m.sets[k]?=some x/\kq8 x.size.text=cnt/\cnt<=9 from by rw[L,if_pos rfl]at b;exact kwb b));have aX:cnt<=9:=by
  cases L:v.arr
  ·rw[L]at b;injection b with b;omega
  ·obtain⟨_,_,_,_,_,h9⟩:=(ku F) L;exact h9
 have aG:v.arr=false->cnt=1:=λL=>by rw[L]at b;injection b with b;exact b.symm
 have E:=pG (λ(wx:World) (hb:pU w wx) (k:Nat) (x:PSet) (h1:qz1 m.sets v.over.text.toList=some k) (h2:m.sets[k]?=some x)=>qk2 wx mo m.sets v.over f g i j l n0 n1 p q s c0 c1 c2 c3 c4 (qj X.o0 hb) V.sets k h1 x h2);rw[<-aJ]at U;rw[<-aI]at T;unfold mdV siV at aE;unfold ptV at U T E;have b2:IntKind.i64.wrap ((size:Int)+cnt)=(size:Int)+cnt:=lU;have a9:=pG h;have aD:=pG a7;have aQ:=pG aH;have a8:=pG H;have aF:=pG J.symm;have aP:=pG aG;have b6:=pG aX;clear hu aK t b a6 a5 aJ aI hM m0 m1 m2 m3 m4 m5 f0 f1 f2 f3 f4 f5 aH H J hN hD h X V q0 q1 q2 q3 q4 v0 v1 v3 v4 v5 v6 v7 v8 v9 aG a7;subst e;unfold mdV vrV kjp;generalize b3:v.arr=arr at *;cases arr;case' false=>
  have aM:=pG ((ku aP) rfl);clear E F;go_enter func57,ntmps57
  go_upto_region 4 with fail
  rw[ku aF,show(Value.int IntKind.i64 1)=.int .i64 (cnt:Int) by rw[ku aM];rfl];obtain⟨wr,aL,d⟩:∃wr,wr=W/\pU W wr:=⟨W,rfl,Below.refl _ _⟩;rw[<-aL];clear aL
 case' true=>
  obtain⟨sk,sx,e1,e2,e3,e4⟩:=(ku F) rfl;have R:=pG ((ku E) W (ku a8) sk sx e1 e2);rw[e3]at R;clear e1 e2 e3 E F;go_enter func57,ntmps57
  go_wp2_with fail
  rw[ku aF];refine(ku R).mono ?_;rintro e wr ⟨rfl,d⟩;clear R;have aO:=pG d;clear d;go_upto_region 4 with fail
  have d:=ku aO
 all_goals
  have c:=pG (show AvS M w.heap.size size (.slice va vars.length vc) f g i j l n0 n1 p q s c0 c1 c2 c3 c4 v wr.drew from(ku aR).below d.drew aj aj);have N:=pG (show pU w wr.drew from((ku a8).trans (d.mono aZ)).drew);have b9:=d.size;clear d;refine kz4 (S:=AvS M w.heap.size size (.slice va vars.length vc) f g i j l n0 n1 p q s c0 c1 c2 c3 c4 v) (tl:=[25,26,27,28]) ah ?_;refine frS 0 ?_;refine frS 1 ?_;refine frS 2 ?_;refine frS 3 ?_;refine tkS 4 (ku c) ?_;refine frS 5 ?_;refine frS 6 ?_;refine frS 7 ?_;refine tkS 8 (ku c) ?_;refine frS 9 ?_;refine tkS 10 (ku c) ?_;refine frS 11 ?_;refine tkS 12 (ku c) ?_;refine tkS 14 (ku c) ?_;refine frS 15 ?_;refine tkS 16 (ku c) ?_;refine tkS 18 (ku c) ?_;refine frS 19 ?_;refine frS 20 ?_;refine tkS 21 (ku c) ?_;refine onS 13 λK a=>?_
  go_simp
  go_at_call 98
  refine((ku aE) wr.drew (ku N)).mono ?_;rintro e x1 ⟨bD,rfl,Y,G⟩;obtain⟨ta,tc,e,_⟩:=ql Y;subst e;have aS:=pG (zu (rW _) Y);clear Y;have bA:wr.heap.size<=x1.heap.size:=G.size;have aA:=pG ((ku c).below G (show M<wr.heap.size by omega) (show w.heap.size+1<wr.heap.size by omega));have O:=pG ((ku N).trans (G.mono (ku N).size));clear G;dsimp only;refine a _ _ (ku aA) ?_;clear a K;try simp only[Act.put,Ji,Zz,JV]
  refine onS 17 λK a=>?_
  go_simp
  go_at_call 99
  refine((ku U) x1 (ku O)).mono ?_;rintro e x2 ⟨rfl,z⟩;have aT:=pG (qj (ku aS) z);have bB:x1.heap.size<=x2.heap.size:=z.size;have aB:=pG ((ku aA).below z (show M<x1.heap.size by omega) (show w.heap.size+1<x1.heap.size by omega));have P:=pG ((ku O).trans (z.mono (ku O).size));clear z;dsimp only;refine a _ _ (ku aB) ?_;clear a K;try simp only[Act.put,Ji,Zz,JV]
  refine onS 22 λK a=>?_
  go_simp
  go_at_call 99
  refine((ku T) x2 (ku P)).mono ?_;rintro e x3 ⟨rfl,A⟩;have aU:=pG (qj (ku aT) A);have bC:x2.heap.size<=x3.heap.size:=A.size;have aC:=pG ((ku aB).below A (show M<x2.heap.size by omega) (show w.heap.size+1<x2.heap.size by omega));have D:=pG ((ku P).trans (A.mono (ku P).size));clear A;dsimp only;refine a _ _ (ku aC) ?_;clear a K;try simp only[Act.put,Ji,Zz,JV]
  refine frS 23 ?_;refine onS 24 λK a=>?_
  go_simp
  refine a _ _ ((ku aC).below (below_alloc1 _ _) aj aj) ?_;clear a K;refine zje ?_;refine onA 25 λK a=>?_
  refine apL (qj (ku aD) ((ku D).trans ((below_alloc1 x3 _).mono (ku D).size))) (heap_alloc_new x3 _) ?_;intro gg gcap w4 I y aW b4;refine a _ _ ?_;clear a K;have Z:=vqa (ku a9) (ku D) y;obtain⟨m0,m1,m2,m3,m4,m5,f0,f1,f2,f3,f4,f5⟩:=kzb Z;obtain⟨p0,p1,p2,p3,p4,p5,g0,g1,g2,g3,g4,g5⟩:=kzb (pqk Z (.slice (some ⟨gg,0,none⟩) (vars.length+1) gcap));have C:=pz6 (ku a9) u aN B (ku aD) (ku aQ) (ku D) (ku aU) y I aY;rw[B]at C;have Q:=pG C;clear C;clear Z I y aW;refine onA 26 λK a=>?_
  go_simp
  refine a _ _ ?_;clear a K;refine onA 27 λK a=>?_
  go_simp
  refine a _ _ ?_;clear a K;refine onA 28 λK a=>?_
  go_simp
  refine a _ _ ?_;clear a K;refine wpAny_done ah ?_ _;go_wp2
  go_end0
  first
   |exact⟨rfl,ku Q⟩
   |(rw[B];exact⟨rfl,ku Q⟩)
def zqg (w:World)(M:Nat)(pv:Value)(n:ByteArray)(ls:List (List Int))(cs:List Value):Prop:=
 cs.length=ls.length*4/\∀k (hk:k<ls.length),∃ma mn mc,(cs.drop (k*4)).take 4=[.string (kkt n ls[k]),.pointer (some ⟨M,0,none⟩),pv,.slice ma mn mc]/\w.ownsRow 0 3 1 (.slice ma mn mc) ls[k].length (ls[k].map (Value.int .i64))
theorem zqg.tk {x:Option Nat}{bad:List Nat}(h:zqg w M pv n ls cs)(f:Tk x bad w w')(j:dw w x)(d:3∉bad):zqg w' M pv n ls cs:=
 ⟨h.1,λk g=>by obtain⟨a,b,c,e,i⟩:=h.2 k g;exact⟨a,b,c,e,jw i f j d⟩⟩
theorem zqg.snoc {l:List Int}{a:Option Addr}{b mc:Nat}(h:zqg w M pv n ls cs)(e:w.ownsRow 0 3 1 (.slice a b mc) l.length (l.map (Value.int .i64))):zqg w M pv n (ls++[l]) (cs++[.string (kkt n l),.pointer (some ⟨M,0,none⟩),pv,.slice a b mc]):=by
 refine⟨by simp[h.1];omega,λk d=>?_⟩;by_cases c:k<ls.length
 ·have f:=h.1;rw[Jo aj,Jf ay,QX c];exact h.2 k c
 ·have:k=ls.length:=by simp at d;omega
  subst this;rw[<-h.1,Zx];exact⟨a,b,mc,au,ou⟩
theorem vqf {k:Nat}{a b c d:Value}(h:(cs.drop (k*4)).take 4=[a,b,c,d]):cs[k*4]?=some a/\cs[k*4+1]?=some b/\cs[k*4+2]?=some c/\cs[k*4+3]?=some d:=by
 have g:∀j,j<4->cs[k*4+j]?=([a,b,c,d]:List Value)[j]?:=λj e=>by
  rw[<-h,Qo e,JW]
 exact⟨g 0 aj,g 1 aj,g 2 aj,g 3 aj⟩
theorem qw9 (w:World)(lo mo M:Nat)(B C D E F:Option Addr)(n0 n1 J K L c0 c1 c2 c3 c4:Nat)(m:MdL)(hm:kvm mo w (.slice B n0 c0) (.slice C n1 c1) (.slice D J c2) (.slice E K c3) (.slice F L c4) m)(hf:MdFit m)(n:Tok)(aL:n.text.size<=1000)(l:List PP)(pa:Option Addr)(pn pc:Nat)(hP:w.ownsRow lo 352 4 (.slice pa pn pc) l.length (xu l))(hl:l.length<=1000)(r:List (List Int))(hr:chO m.sets l [[]]=some r)(U:∀x∈r,qwq x=true)(aP:r.length<=100000):
  qJ 100 #[.pointer (some ⟨M,0,none⟩),mdV B C D E F n0 n1 J K L c0 c1 c2 c3 c4,.agg #[.string n.text,.int .i64 n.at_],.slice pa pn pc] w λe w'=>∃xa xn xc cs,e=.returned (.slice xa xn xc)/\w'.ownsRow w.heap.size 176 4 (.slice xa xn xc) r.length cs/\zqg w' M (.slice pa pn pc) n.text r cs/\pU w w':=by
 obtain⟨W,G⟩:∃W,W=(w.alloc (.cells #[.slice B n0 c0,.slice C n1 c1,.slice D J c2,.slice E K c3,.slice F L c4] 68)).alloc (.cells #[.string n.text,.int .i64 n.at_] 107):=⟨_,rfl⟩;have q:pU w W:=by rw[G];exact(below_alloc1 w _).trans ((below_alloc1 _ _).mono au)
 have aM:w.heap.size+1<W.heap.size:=by rw[G];simp
 have hN:W.heap[w.heap.size+1]?=some (.cells #[.string n.text,.int .i64 n.at_] 107 (0,0)):=by
  rw[G];have:=qg (w.alloc (.cells #[.slice B n0 c0,.slice C n1 c1,.slice D J c2,.slice E K c3,.slice F L c4] 68)) (.cells #[.string n.text,.int .i64 n.at_] 107);simp only[tJ]at this;exact this
 have v:=pG (jv5 W lo mo B C D E F n0 n1 J K L c0 c1 c2 c3 c4 m (hm.stay λk _ O=>q.block k O) hf l pa pn pc (qj hP q) hl r hr);unfold mdV at v |-;have HN:=pG hN;have aA:=pG q;have aJ:=pG G.symm;have aG:=pG U;clear hm hf hP hr hN q G U;go_enter func100,ntmps100
 go_wp2_with fail
 rw[ku aJ];refine(ku v).mono ?_;rintro e R ⟨v1,rfl,Q,j⟩;obtain⟨xa,xn,xc,cs,rfl,H,t⟩:=Q;obtain⟨ya,yc,e1,u⟩:=ql H;injection e1 with e1 e2 e3;subst e1;subst e2;subst e3;have aQ:=j.size;have HV:=pG u;have N:=pG t;have aE:=pG ((j.block _ aM).trans (ku HN));have a7:=pG ((ku aA).trans (j.mono aj));clear u H t j v HN;go_wp2_with fail
 go_loopw [9,11,16] (λx _ i wr=>∃(k:Nat) (za:Option Addr) (zn zc:Nat) (ds:List Value),k<=r.length/\i=.int .i64 k/\x=.slice za zn zc/\wr.ownsRow R.heap.size 176 4 (.slice za zn zc) k ds/\zqg wr M (.slice pa pn pc) n.text (r.take k) ds/\pU R wr) (λ_ _ i _=>r.length-(intOf i).toNat)
 case atStart=>exact⟨0,none,0,0,[],rW _,rfl,rfl,wB _ _ _ _,⟨rfl,λk O=>by simp at O⟩,Below.refl _ _⟩
 case round=>
  obtain⟨k,za,zn,zc,ds,O,rfl,rfl,P,b,hb⟩:=hrel;have aN:=hb.size;by_cases s:k<r.length
  ·obtain⟨g,rfl,aO,aK,hc⟩:=ku HV k s;obtain⟨ca,cn,cc,ec,S⟩:=(ku N).2 k s;have e0:wr.cell? ⟨g,k,none⟩=some (.slice ca cn cc):=by
    rw[hb.cell (p:=⟨g,k,none⟩) aK,hc k aj];exact ec
   have h:=qj S hb;have T:=(hb.block _ aj).trans (ku aE);obtain⟨q0,q1,_,_⟩:=kj0 T;have V:=(ku aG) _ (wX s);have y:=pG (zjk wr 0 n r[k] ca cn cc h V aL);have aH:=pG (show r.take (k+1)=r.take k++[r[k]] from Qx s);have HC:=pG h;have Z:=pG P;have Y:=pG b;have X:=pG hb;have z:=pG (show ∃tt,tt=kkt n.text r[k] from⟨_,rfl⟩);obtain⟨tt,I⟩:=ku z;rw[<-I]at y;have aI:=pG I;generalize r[k]=c at *;clear hc hb S h ec P b T V I z;go_wp2_with fail
   refine(ku y).mono ?_;rintro e w2 ⟨rfl,d⟩;have aR:=d.size;have A:=pG (qj (ku Z) d);have aC:=pG ((ku Y).tk (kqg d none [176]) (dw.none _) ak);have aB:=pG (qj (ku HC) d);have a8:=pG ((ku X).trans (d.mono aN));clear d y;go_wp2_with (at_builtin;refine apO ((ku A).alloc _) ?_)
   intro v3 w3 f a _ a6;obtain⟨a5,l5,c5,rfl⟩:=zq f;have k3:Tk none [176] w2 w3:=(kqg (below_alloc1 w2 _) _ _).trans (kjk ((ku A).alloc _) a au);have aD:=pG (show zqg w3 M (.slice pa pn pc) n.text (r.take (k+1)) (ds++[.string tt,.pointer (some ⟨M,0,none⟩),.slice pa pn pc,.slice ca cn cc]) by
    rw[ku aH,ku aI];exact((ku aC).snoc (ku aB)).tk k3 (dw.none _) ak)
   have aF:=pG f;have a9:=pG (((ku a8).alloc aj _).grown a ay (xg (ku A)));clear f a a6 k3;go_wp2
   go_roundw
   case rel=>exact⟨k+1,a5,l5,c5,_,aj,eu,rfl,ku aF,ku aD,ku a9⟩
   case measure=>exact qQ
  ·have:k=r.length:=by omega
   subst this;rw[QM]at b;have Z:=pG (zu (by omega:w.heap.size<=R.heap.size) P);have Y:=pG b;have X:=pG ((ku a7).trans (hb.mono aj));clear P b hb;go_wp2
   go_ret
   exact⟨_,_,_,_,rfl,ku Z,ku Y,ku X⟩
abbrev AsS (M b R:Nat)(a x0 x1 x2 x3 y3 y4:Value)(w:World):Prop:=
 w.cell? ⟨M,0,none⟩=some a/\w.cell? ⟨b,0,none⟩=some x0/\w.cell? ⟨b,1,none⟩=some x1/\w.cell? ⟨b,2,none⟩=some x2/\w.cell? ⟨b,3,none⟩=some x3/\w.cell? ⟨R,3,none⟩=some y3/\w.cell? ⟨R,4,none⟩=some y4
theorem AsS.below {b R: Nat}{a x0 x1 x2 x3 y3 y4:Value}   (h:AsS M b R a x0 x1 x2 x3 y3 y4 w)(hb:Below B w w')(hM:M<B)(i:b<B)(j:R<B):AsS M b R a x0 x1 x2 x3 y3 y4 w':=by
 obtain⟨c,s1,d,s3,e,f,g⟩:=h;exact⟨(hb.cell (p:=⟨M,0,none⟩) ay).trans c,(hb.cell (p:=⟨b,0,none⟩) ay).trans s1,(hb.cell (p:=⟨b,1,none⟩) ay).trans d,(hb.cell (p:=⟨b,2,none⟩) ay).trans s3,(hb.cell (p:=⟨b,3,none⟩) ay).trans e,(hb.cell (p:=⟨R,3,none⟩) ay).trans f,(hb.cell (p:=⟨R,4,none⟩) ay).trans g⟩
theorem vqe (h:kz8 lo so w M nb steps nevers sets vars tab size sv nv tv vv)  {o:Obj}(hb:pU w w3)(b:(w3.alloc o).grownBy w4 sv.ownBlock):w4.heap[M]?=some (.cells #[sv,nv,tv,vv,.map (some nb),.int .i64 size] 105 (0,0)):=by
 have a:(w3.alloc o).heap[M]?=some (.cells #[sv,nv,tv,vv,.map (some nb),.int .i64 size] 105 (0,0)):=zy ((hb.block M (wu h.row)).trans h.row);obtain⟨cs,c,_⟩:=h.steps;exact(kjk (x:=none) (bad:=[178]) (qj c (hb.alloc hb.size o)) b ak).row a au ak
theorem pz7 (h:kz8 lo so w M nb steps nevers sets vars tab size sv nv tv vv)(s:MStep){ds: List Value}(t:w.ownsRow lo 178 6 sv steps.length cs)(q:kw3 0 so w M steps cs)  (hb:pU w w3)(A:qy2 0 so w3 M s ds)(z:ds.length=6)
  (j:(w3.alloc (.cells ds.toArray 178)).grownBy w4 sv.ownBlock)  (k:w4.ownsRow lo 178 6 (.slice (some ⟨gg,0,none⟩) (steps.length+1) gcap) (steps.length+1) (cs++ds)) (c:lo<=w.heap.size):
  (∃gv gn gc,kz8 lo so (w4.setCell ⟨M,0,none⟩ (.slice (some ⟨gg,0,none⟩) (steps.length+1) gcap)) M nb (steps++[s]) nevers sets vars tab size (.slice gv gn gc) nv tv vv)/\Tk none [105,178] w (w4.setCell ⟨M,0,none⟩ (.slice (some ⟨gg,0,none⟩) (steps.length+1) gcap))/\Below lo w (w4.setCell ⟨M,0,none⟩ (.slice (some ⟨gg,0,none⟩) (steps.length+1) gcap)):=by
 have d:=vqe h hb j;have m:=pzf d (.slice (some ⟨gg,0,none⟩) (steps.length+1) gcap);have a:pU w (w3.alloc (.cells ds.toArray 178)):=hb.alloc hb.size _;have f:=qj t a;have k4:Tk none [105,178] (w3.alloc (.cells ds.toArray 178)) w4:=kjk f j ak;have k5:Tk none [105] w4 (w4.setCell ⟨M,0,none⟩ (.slice (some ⟨gg,0,none⟩) (steps.length+1) gcap)):=kxa d ak 0 _;have g:=k4.trans (k5.wide (by decide:∀e∈[105],e∈[105,178]));have k3:=(kqg (below_alloc1 w3 (.cells ds.toArray 178)) none [105,178]).trans g;have K:=(kqg a none [105,178]).trans g;have b:=dw.none w;obtain⟨D,h1,i,u,⟨c4,v,C⟩,x,l,y⟩:=h;obtain⟨c2,i,B⟩:=i;refine⟨⟨_,_,_,⟨m,⟨cs++ds,?_,?_⟩,⟨c2,jw i K b ak,B.tk K b ak ak⟩,jw u K b ak,⟨c4,jw v K b ak,C.tk K b ak⟩,x.tk K au,l,y⟩⟩,K,?_⟩
 ·rw[wY];exact jw k k5 (dw.none _) ak
 ·exact(q.tk K b ak ak).snoc (A.tk k3 (dw.none _) ak ak) z
 ·exact(((a.mono c)).grown j (rU c a.size) (xg f)).setCell (p:=⟨M,0,none⟩) l _
theorem jja (w:World)(lo so M nb:Nat)(steps:List MStep)(nevers:List MNever)(sets:List Int)(vars:List MVar)(tab:kq1)(size:Nat)(sv nv tv vv:Value)(T U V X Y:Option Addr)(n0 n1 n2 n3 n4 c0 c1 c2 c3 c4:Nat)(m:MdL)(a:PRule)(pa y ba:Option Addr)(pn pc bn bc:Nat)(bs:List Value)(h:kz8 lo so w M nb steps nevers sets vars tab size sv nv tv vv)(hm:kvm so w (.slice T n0 c0) (.slice U n1 c1) (.slice V n2 c2) (.slice X n3 c3) (.slice Y n4 c4) m)(hf:MdFit m)(bF:a.name.text.size<=1000)
  (hP:w.ownsRow so 352 4 (.slice pa pn pc) a.params.length (xu a.params)) (bG:a.params.length<=1000) (hX:XIs so w a.guard (.pointer y)) (hB:w.ownsRow so 334 9 (.slice ba bn bc) (kq4 a.body) bs) (aJ:BIs so none w a.body bs) (r:List (List Int)) (hr:chO m.sets a.params [[]]=some r) (aN:∀x∈r,qwq x=true) (bH:r.length<=100000) (bO:steps.length<=100000) (bD:lo<=w.heap.size):
  qJ 58 #[.pointer (some ⟨M,0,none⟩),mdV T U V X Y n0 n1 n2 n3 n4 c0 c1 c2 c3 c4,.agg #[.string a.name.text,.int .i64 a.name.at_,.slice pa pn pc,.pointer y,.slice ba bn bc]] w λe w'=>e=.returned (.tuple #[])/\(∃B gn A,kz8 lo so w' M nb (steps++r.map (λms=>(⟨kkt a.name.text ms,a.params,ms,a.guard,a.body⟩:MStep))) nevers sets vars tab size (.slice B gn A) nv tv vv)/\Tk none [105,178] w w'/\Below lo w w':=by
 obtain⟨W,Z⟩:∃W,W=(w.alloc (.cells #[.slice T n0 c0,.slice U n1 c1,.slice V n2 c2,.slice X n3 c3,.slice Y n4 c4] 68)).alloc (.cells #[.string a.name.text,.int .i64 a.name.at_,.slice pa pn pc,.pointer y,.slice ba bn bc] 127):=⟨_,rfl⟩;have j:pU w W:=by rw[Z];exact(below_alloc1 w _).trans ((below_alloc1 _ _).mono au)
 have bI:w.heap.size+1<W.heap.size:=by rw[Z];simp
 have hN:W.heap[w.heap.size+1]?=some (.cells #[.string a.name.text,.int .i64 a.name.at_,.slice pa pn pc,.pointer y,.slice ba bn bc] 127 (0,0)):=by
  rw[Z];have:=qg (w.alloc (.cells #[.slice T n0 c0,.slice U n1 c1,.slice V n2 c2,.slice X n3 c3,.slice Y n4 c4] 68)) (.cells #[.string a.name.text,.int .i64 a.name.at_,.slice pa pn pc,.pointer y,.slice ba bn bc] 127);simp only[tJ]at this;exact this
 have I:=pG (qw9 W so so M T U V X Y n0 n1 n2 n3 n4 c0 c1 c2 c3 c4 m (hm.stay λk _ O=>j.block k O) hf a.name bF a.params pa pn pc (qj hP j) bG r hr aN bH);unfold mdV at I |-;have bK:M<w.heap.size:=wu h.row;have HN:=pG hN;have aY:=pG j;have b8:=pG Z.symm;have aH:=pG (h.below j);have HP:=pG (qj hP j);have HX:=pG (hX.below j);have aG:=pG (qj hB j);have aF:=pG (show BIs so none W a.body bs from aJ.stay λk _ O=>j.block k O);clear hB aJ;clear h hm hf hP hX hr aN hN j Z;go_enter func58,ntmps58
 go_wp2_with fail
 rw[ku b8];refine(ku I).mono ?_;rintro e P ⟨xa,xn,xc,cs,rfl,s,a9,f⟩;obtain⟨ya,yc,F,N⟩:=ql s;injection F with F e2 e3;subst F;subst e2;subst e3;have bN:=f.size;have HV:=pG N;have aW:=pG s;have HI:=pG a9;have aZ:=pG ((f.block _ bI).trans (ku HN));have Q:=pG ((ku aH).below f);have b4:=pG (qj (ku HP) f);have b9:=pG ((ku HX).below f);have aV:=pG (qj (ku aG) f);have aU:=pG (show BIs so none P a.body bs from(ku aF).stay λk _ O=>f.block k O);clear aG aF;have aE:=pG ((ku aY).trans (f.mono aj));clear N s a9 f I HN aH HP HX;go_wp2_with fail
 go_loopw [7,16] (λ_ i wr=>∃k:Nat,k<=r.length/\i=.int .i64 k/\(∃B gn A,kz8 lo so wr M nb (steps++(r.take k).map (λms=>(⟨kkt a.name.text ms,a.params,ms,a.guard,a.body⟩:MStep))) nevers sets vars tab size (.slice B gn A) nv tv vv)/\Tk none [105,178] P wr/\Below lo P wr) (λ_ i _=>r.length-(intOf i).toNat)
 case atStart=>
  obtain⟨gx,bC⟩:∃gx:List Value,P.ownsRow lo 178 6 sv steps.length gx:=by obtain⟨q,hq,_⟩:=(ku Q).steps;exact⟨q,hq⟩
  obtain⟨B,A,e,_⟩:=ql bC;subst e;exact⟨0,rW _,rfl,⟨B,_,A,by simpa using ku Q⟩,Tk.refl _ _ _,Below.refl _ _⟩
 case round=>
  obtain⟨k,O,rfl,⟨va,vn,vc,t⟩,b,hb⟩:=hrel;have bP:=b.size;by_cases aA:k<r.length
  ·have s:=jw (ku aW) b (dw.none _) ak;obtain⟨yb,yd,F,aS⟩:=ql s;injection F with F e2 e3;subst F;subst e3;obtain⟨g,rfl,bL,bM,hc⟩:=aS k aA;obtain⟨u,v,mc,ec,aL⟩:=(ku HI).2 k aA;have a8:=jw aL b (dw.none _) ak;obtain⟨s0,s1,s2,s3⟩:=vqf ec;have e0:=(hc (k*4) aj).trans s0;have F:=(hc (k*4+1) aj).trans s1;have e2:=(hc (k*4+2) aj).trans s2;have e3:=(hc (k*4+3) aj).trans s3;have aM:=b.row (ku aZ) au ak;have aO:=jw (ku b4) b (dw.none _) ak;have aT:=(ku b9).tk b (dw.none _) ak;have a6:=jw (ku aV) b (dw.none _) ak;have a5:=(ku aU).tk b (dw.none _) ak ak;obtain⟨tt,aD⟩:∃tt,tt=kkt a.name.text r[k]:=⟨_,rfl⟩;obtain⟨one,J⟩:∃one:MStep,one=(λms=>(⟨kkt a.name.text ms,a.params,ms,a.guard,a.body⟩:MStep)) r[k]:=⟨_,rfl⟩;have aQ:qy2 0 so wr M one [.string tt,.pointer (some ⟨M,0,none⟩),.slice pa pn pc,.slice u v mc,.pointer y,.slice ba bn bc]:=by rw[J,aD];exact⟨pa,pn,pc,u,v,mc,y,ba,bn,bc,bs,none,rfl,zu (rW _) aO,zu (rW _) a8,aT,a6,a5⟩
   have b5:=pG aQ;have b6:=pG (show(steps++(r.take (k+1)).map (λms=>(⟨kkt a.name.text ms,a.params,ms,a.guard,a.body⟩:MStep)))=(steps++(r.take k).map (λms=>(⟨kkt a.name.text ms,a.params,ms,a.guard,a.body⟩:MStep)))++[one] by rw[J,Qx aA,Qv,<-sD];rfl);have bQ:(steps++(r.take k).map (λms=>(⟨kkt a.name.text ms,a.params,ms,a.guard,a.body⟩:MStep))).length<=200000:=ay;rw[<-aD]at e0;generalize (steps++(r.take k).map (λms=>(⟨kkt a.name.text ms,a.params,ms,a.guard,a.body⟩:MStep)))=Lx at *;have aB:=t.row;have bA:M<wr.heap.size:=wu aB;obtain⟨m0,m1,m2,m3,m4,m5,f0,f1,f2,f3,f4,f5⟩:=kzb aB;have aK:w.heap.size+1<wr.heap.size:=aj;obtain⟨u0,u1,u2,u3,u4,_⟩:=jl aM;have G:pU wr (wr.alloc (.cells #[.string tt,.pointer (some ⟨M,0,none⟩),.slice pa pn pc,.slice u v mc] 176)):=below_alloc1 _ _;have a7:(wr.alloc (.cells #[.string tt,.pointer (some ⟨M,0,none⟩),.slice pa pn pc,.slice u v mc] 176)).heap[wr.heap.size]?=some (.cells #[.string tt,.pointer (some ⟨M,0,none⟩),.slice pa pn pc,.slice u v mc] 176 (0,0)):=qg _ _;obtain⟨b0,b1,b2,b3,_⟩:=kk5 a7;have E:=pG (show AsS M wr.heap.size (w.heap.size+1) (.slice va vn vc) (.string tt) (.pointer (some ⟨M,0,none⟩)) (.slice pa pn pc) (.slice u v mc) (.pointer y) (.slice ba bn bc) (wr.alloc (.cells #[.string tt,.pointer (some ⟨M,0,none⟩),.slice pa pn pc,.slice u v mc] 176)).drew from⟨(G.cell (p:=⟨M,0,none⟩) bA).trans m0,b0,b1,b2,b3,(G.cell (p:=⟨w.heap.size+1,3,none⟩) aK).trans u3,(G.cell (p:=⟨w.heap.size+1,4,none⟩) aK).trans u4⟩);obtain⟨xs,aR,aC⟩:=t.steps;have aI:=pG aR;have aX:=pG aC;have R:=pG t;have b7:=pG b;have HB:=pG hb;have D:=pG (show pU wr (wr.alloc (.cells #[.string tt,.pointer (some ⟨M,0,none⟩),.slice pa pn pc,.slice u v mc] 176)).drew from G.drew);generalize r[k]=c at *;clear hc aL a8 ec s0 s1 s2 s3 aS s aM aO aT a6 a5 aD J aQ t b hb aR aC G a7 b0 b1 b2 b3 u0 u1 u2 u3 u4 m0 m1 m2 m3 m4 m5 f0 f1 f2 f3 f4 f5 aB;go_upto_region 4 with fail
   refine kz4 (S:=AsS M wr.heap.size (w.heap.size+1) (.slice va vn vc) (.string tt) (.pointer (some ⟨M,0,none⟩)) (.slice pa pn pc) (.slice u v mc) (.pointer y) (.slice ba bn bc)) (tl:=[12,13,14,15]) ah ?_;refine frS 0 ?_;refine frS 1 ?_;refine frS 2 ?_;refine frS 3 ?_;refine tkS 4 (ku E) ?_;refine tkS 5 (ku E) ?_;refine frS 6 ?_;refine tkS 7 (ku E) ?_;refine frS 8 ?_;refine tkS 9 (ku E) ?_;refine frS 10 ?_;refine onS 11 λK d=>?_
   go_simp
   refine d _ _ ((ku E).below (below_alloc1 _ _) (show M<(wr.alloc _).heap.size by simp;omega) (show wr.heap.size<(wr.alloc _).heap.size by simp) (show w.heap.size+1<(wr.alloc _).heap.size by simp;omega)) ?_;clear d K;refine zje ?_;refine onA 12 λK d=>?_
   refine apL (qj (ku aI) ((ku D).alloc (ku D).size _)) (alloc_at _ _ (wr.heap.size+1) au) ?_ (H:=wr.heap.size+2) (hH:=au);intro gg gcap w4 L l bB bJ;refine d _ _ ?_;clear d K;have l:((wr.alloc (.cells #[.string tt,.pointer (some ⟨M,0,none⟩),.slice pa pn pc,.slice u v mc] 176)).drew.alloc (.cells #[.string tt,.pointer (some ⟨M,0,none⟩),.slice pa pn pc,.slice u v mc,.pointer y,.slice ba bn bc] 178)).grownBy w4 (Value.slice va vn vc).ownBlock:=l;have aP:=vqe (ku R) (ku D) l;obtain⟨m0,m1,m2,m3,m4,m5,f0,f1,f2,f3,f4,f5⟩:=kzb aP;have C:=pz7 (ku R) one (ku aI) (ku aX) (ku D) ((ku b5).tk (kqg (ku D) none []) (dw.none _) au au) rfl l L aj;have z:=pG (show(∃B gn A,kz8 lo so (w4.setCell ⟨M,0,none⟩ (.slice (some ⟨gg,0,none⟩) (Lx.length+1) gcap)) M nb (Lx++[one]) nevers sets vars tab size (.slice B gn A) nv tv vv)/\Tk none [105,178] P (w4.setCell ⟨M,0,none⟩ (.slice (some ⟨gg,0,none⟩) (Lx.length+1) gcap))/\Below lo P (w4.setCell ⟨M,0,none⟩ (.slice (some ⟨gg,0,none⟩) (Lx.length+1) gcap)) from⟨C.1,(ku b7).trans C.2.1,(ku HB).trans C.2.2⟩);clear aP L l bB C;refine onA 13 λK d=>?_
   go_simp
   refine d _ _ ?_;clear d K;refine onA 14 λK d=>?_
   go_simp
   refine d _ _ ?_;clear d K;refine onA 15 λK d=>?_
   go_simp
   refine d _ _ ?_;clear d K;refine wpAny_done ah ?_ _;go_wp2
   go_roundw
   case rel=>exact⟨k+1,aj,eu,by rw[ku b6];exact(ku z).1,(ku z).2⟩
   case measure=>exact qQ
  ·have:k=r.length:=by omega
   subst this;rw[QM]at t;have z:=pG (show(∃B gn A,kz8 lo so wr M nb (steps++r.map (λms=>(⟨kkt a.name.text ms,a.params,ms,a.guard,a.body⟩:MStep))) nevers sets vars tab size (.slice B gn A) nv tv vv)/\Tk none [105,178] w wr/\Below lo w wr from⟨⟨va,vn,vc,t⟩,(kqg (ku aE) _ _).trans b,((ku aE).mono bD).trans hb⟩);clear t b hb;go_wp2
   go_end0
   exact⟨rfl,ku z⟩
end Go.Proofs.YtpmcnonmkghokaaGreatDoor
