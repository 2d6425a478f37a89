import Derived.Test.YtpmcnonmkghokaaGreatDoorT02
set_option maxRecDepth 100000
set_option maxHeartbeats 4000000
set_option linter.unusedVariables false
set_option linter.unusedSimpArgs false
namespace Go.Proofs.YtpmcnonmkghokaaGreatDoor
open Go.Proofs.Tryz
open Go.RowKit
variable {d:Int}{L:List Tok}{l s:List UInt8}{xs:List Value}{B P R base c e f k lo lo' n size:Nat}{no:Option Nat}{r:PR}{st:RS}{t:TypeId}{v vi vp vv:Value}{w w':World}
def kxd (w:World)(R:Nat):Nat:=match w.cell? ⟨R,1,none⟩ with
 |some v=>(intOf v).toNat
 |none=>0
def bOf:Value->Nat
 |.bool true=>1
 |_=>0
theorem Rd.kxd (h:Rd w R v L st):Go.Proofs.YtpmcnonmkghokaaGreatDoor.kxd w R=st.at_:=by
 obtain⟨c0,c1,c2,c3,_⟩:=row4 h.rd;simp[Go.Proofs.YtpmcnonmkghokaaGreatDoor.kxd,c1,intOf]
theorem heap_alloc_new' (w:World)(o:Obj)(b:Nat)(h:w.heap.size=b):(w.alloc o).heap[b]?=some o:=by subst h;exact heap_alloc_new w o
def jqm (w:World)(B:Nat):Prop:=
 w.heap[B]?=some (.cells #[.string ⟨#[124]⟩] 9 (0,0))/\w.heap[B+1]?=some (.cells #[.string ⟨#[38]⟩] 9 (0,0)) /\
 w.heap[B+1+1]?=some (.cells #[.string ⟨#[61,61]⟩,.string ⟨#[33,61]⟩,.string ⟨#[60]⟩] 9 (0,0))/\w.heap[B+1+1+1]?=some (.cells #[.string ⟨#[43]⟩,.string ⟨#[45]⟩] 9 (0,0)) /\
 w.heap[B+1+1+1+1]?=some (.cells #[.slice (some ⟨B,0,none⟩) 1 1,.slice (some ⟨B+1,0,none⟩) 1 1,.slice (some ⟨B+1+1,0,none⟩) 3 3,.slice (some ⟨B+1+1+1,0,none⟩) 2 2] 22 (0,0))
theorem jqm.kept (h:jqm w B)(f:R<B)(a:Kept R w w'):jqm w' B:=by
 obtain⟨b,h1,c,d,e⟩:=h;exact⟨by rw[a.block _ (wu b) aj];exact b,by rw[a.block _ (wu h1) aj];exact h1,by rw[a.block _ (wu c) aj];exact c,
  by rw[a.block _ (wu d) aj];exact d,by rw[a.block _ (wu e) aj];exact e⟩
theorem jqm.at (h:jqm w B)(n:Nat)(hn:n<4):∃k,B<=k/\w.cell? ⟨B+1+1+1+1,n,none⟩=some (.slice (some ⟨k,0,none⟩) (kqo n).length (kqo n).length) /\
  ∀i,i<(kqo n).length->w.cell? ⟨k,0+i,none⟩=some (.string ((kqo n).getD i ByteArray.empty)):=by
 obtain⟨c,h1,d,e,a⟩:=h;have b:n=0\/n=1\/n=2\/n=3:=aj;rcases b with rfl|rfl|rfl|rfl
 ·refine⟨B,wJ _,kW,λi hi=>?_⟩;have:i=0:=nV;subst this;rw[QK _ _ _ _ _ _ c];rfl
 ·refine⟨B+1,aj,kW,λi hi=>?_⟩;have:i=0:=nV;subst this;rw[QK _ _ _ _ _ _ h1];rfl
 ·refine⟨B+1+1,aj,kW,λi hi=>?_⟩;have:i=0\/i=1\/i=2:=nV;rcases this with rfl|rfl|rfl<;>(rw[QK _ _ _ _ _ _ d];rfl)
 ·refine⟨B+1+1+1,aj,kW,λi hi=>?_⟩;have:i=0\/i=1:=nV;rcases this with rfl|rfl<;>(rw[QK _ _ _ _ _ _ e];rfl)
theorem zk7 (f n:Nat)(x:PX)(L:List Tok)(st:RS)(hn:n<4):rX (f+1) n x L st=if st.bad then (kvi,st) else rX f (10+n) (rX f (n+1) .nil L st).1 L (rX f (n+1) .nil L st).2:=by
 rw[rX,if_pos hn]
theorem jj8 (f:Nat)(x:PX)(L:List Tok)(st:RS):rX (f+1) 4 x L st=if st.bad then (kvi,st) else rX f (20+0) .nil L st:=by
 rw[rX,if_neg aj,if_pos aj]
theorem zx4 (f n:Nat)(x:PX)(L:List Tok)(st:RS)(hn:n<4):rX (f+1) (10+n) x L st =
  if st.bad then (x,st)
  else if kk3 n (tk L st.at_) then
   if n=2 then (opX (tk L st.at_).text x (rX f (n+1) .nil L {st with at_:=st.at_+1}).1,(rX f (n+1) .nil L {st with at_:=st.at_+1}).2)
   else rX f (10+n) (opX (tk L st.at_).text x (rX f (n+1) .nil L {st with at_:=st.at_+1}).1) L (rX f (n+1) .nil L {st with at_:=st.at_+1}).2
  else (x,st):=by
 rw[rX,if_neg aj,if_neg aj,if_pos aj,show 10+n-10=n by omega,show 10+n-9=n+1 by omega];simp only[show(10+n=12)=(n=2) from ay]
theorem qys (hb:st.bad=false):need L c st=8*(L.length-st.at_)+c:=by simp[need,hb]
theorem vv2 (hb:st.bad=true):need L c st=1:=by simp[need,hb]
theorem zx7 (h:8*(L.length-st.at_)+c<=k)(a:1<=k):need L c st<=k:=by
 unfold need;split
 ·exact a
 ·exact h
theorem jve (w:World):jqm (((((w.alloc (.cells #[.string ⟨#[124]⟩] 9)).alloc (.cells #[.string ⟨#[38]⟩] 9)).alloc (.cells #[.string ⟨#[61,61]⟩,.string ⟨#[33,61]⟩,.string ⟨#[60]⟩] 9)).alloc (.cells #[.string ⟨#[43]⟩,.string ⟨#[45]⟩] 9)).alloc
  (.cells #[.slice (some ⟨w.heap.size,0,none⟩) 1 1,.slice (some ⟨w.heap.size+1,0,none⟩) 1 1,.slice (some ⟨w.heap.size+1+1,0,none⟩) 3 3,.slice (some ⟨w.heap.size+1+1+1,0,none⟩) 2 2] 22)) w.heap.size:=by
 refine⟨?_,?_,?_,?_,?_⟩
 ·rw[tX _ _ _ ay,tX _ _ _ ay,tX _ _ _ ay,tX _ _ _ au,heap_alloc_new]
 ·rw[tX _ _ _ au,tX _ _ _ au,tX _ _ _ au];exact heap_alloc_new' _ _ _ au
 ·rw[tX _ _ _ au,tX _ _ _ au];exact heap_alloc_new' _ _ _ au
 ·rw[tX _ _ _ au];exact heap_alloc_new' _ _ _ au
 ·exact heap_alloc_new' _ _ _ au
theorem jkb (R:Nat)(w:World)(a b c d e:Obj):Kept R w (((((w.alloc a).alloc b).alloc c).alloc d).alloc e):=(((((Kept.refl _ _).alloc _).alloc _).alloc _).alloc _).alloc _
theorem jjf (w:World)(a b c d e:Obj):pU w (((((w.alloc a).alloc b).alloc c).alloc d).alloc e):=
 (((((Below.refl _ _).alloc (wJ _) _).alloc au _).alloc ay _).alloc ay _).alloc ay _
def pql (f lo R:Nat)(v:Value)(L:List Tok)(n:Nat)(w0:World)(fin:PX×RS)(p m:Value)(wr:World):Prop:=
 ∃(x:PX) (st:RS) (g:Nat) (b:Bool),m=.bool b/\yj lo wr x p/\Rd wr R v L st/\Kept R w0 wr/\(b=true->rX g (10+n) x L st=fin/\need L 1 st<=g/\g<=f)/\(b=false->(x,st)=fin)
theorem zyq {P:Program}{f:FuncId}{args:Array Value}   
  (h:Calls P f args (w.drewN (1+n)) λe w'=>e=.returned v/\w'=w.drewN (1+n)):Calls P f args (w.drewN (1+n)) λe a=>e=.returned v/\∃m,a=w.drewN (1+m):=
 h.mono λ_ _ ⟨b,c⟩=>⟨b,n,c⟩
theorem jws (f:Nat)(hL:∀g,g<=f->qza g)(hA:qka f):qza (f+1):=by
 intro n w R v L st hn h hD hf;obtain⟨c0,c1,c2,c3,f0,f1,f2,f3⟩:=row4 h.rd;have aO:=h.lt;have aF:=h.len;have H:=pG h;have hR:=wu h.rd;clear h;cases hb:st.bad
 ·rw[hb]at c3;by_cases h4:n=4
  ·subst h4;have E:=pG (jj8 f .nil L st);rw[hb]at E;have X:need L 2 st<=f:=by rw[qys hb]at *;omega
   go_enter func108,ntmps108
   go_wp2_with fail
   refine(hA 0 _ R v L st aj (ku H) hD X).mono ?_;rintro e w1 ⟨q,rfl,z,h1,C⟩;have M:=pG z;have H1:=pG h1;have HK:=pG C;clear z h1 C;go_wp2
   go_ret
   rw[ku E];exact⟨_,rfl,ku M,ku H1,ku HK⟩
  ·have J:n<4:=by omega
   have aH:((n:Int)==4)=false:=ay;have E:=pG (zk7 f n .nil L st J);rw[hb]at E;have X:need L (7-(n+1)) st<=f:=by rw[qys hb]at *;omega
   have aC:8*(L.length-st.at_)+1<=f/\1<=f:=by rw[qys hb]at hf;omega
   go_enter func108,ntmps108
   go_wp2_with fail
   have T:=jve w;have Q:=jkb R w (.cells #[.string ⟨#[124]⟩] 9) (.cells #[.string ⟨#[38]⟩] 9) (.cells #[.string ⟨#[61,61]⟩,.string ⟨#[33,61]⟩,.string ⟨#[60]⟩] 9) (.cells #[.string ⟨#[43]⟩,.string ⟨#[45]⟩] 9) (.cells #[.slice (some ⟨w.heap.size,0,none⟩) 1 1,.slice (some ⟨w.heap.size+1,0,none⟩) 1 1,.slice (some ⟨w.heap.size+1+1,0,none⟩) 3 3,.slice (some ⟨w.heap.size+1+1+1,0,none⟩) 2 2] 22);have h0:=(ku H).below (jjf w (.cells #[.string ⟨#[124]⟩] 9) (.cells #[.string ⟨#[38]⟩] 9) (.cells #[.string ⟨#[61,61]⟩,.string ⟨#[33,61]⟩,.string ⟨#[60]⟩] 9) (.cells #[.string ⟨#[43]⟩,.string ⟨#[45]⟩] 9) (.cells #[.slice (some ⟨w.heap.size,0,none⟩) 1 1,.slice (some ⟨w.heap.size+1,0,none⟩) 1 1,.slice (some ⟨w.heap.size+1+1,0,none⟩) 3 3,.slice (some ⟨w.heap.size+1+1+1,0,none⟩) 2 2] 22));generalize (((((w.alloc (.cells #[.string ⟨#[124]⟩] 9)).alloc (.cells #[.string ⟨#[38]⟩] 9)).alloc (.cells #[.string ⟨#[61,61]⟩,.string ⟨#[33,61]⟩,.string ⟨#[60]⟩] 9)).alloc (.cells #[.string ⟨#[43]⟩,.string ⟨#[45]⟩] 9)).alloc
  (.cells #[.slice (some ⟨w.heap.size,0,none⟩) 1 1,.slice (some ⟨w.heap.size+1,0,none⟩) 1 1,.slice (some ⟨w.heap.size+1+1,0,none⟩) 3 3,.slice (some ⟨w.heap.size+1+1+1,0,none⟩) 2 2] 22))=w0 at T Q h0 |-
   have HS:=pG T;have Z:=pG Q;refine(hL f (wJ _) (n+1) w0 R v L st aj h0 hD X).mono ?_;rintro e w1 ⟨q,rfl,z,h1,C⟩;have a3:pql f w.heap.size R v L n w0 (rX (f+1) n .nil L st) q (.bool true) w1:=
    ⟨(rX f (n+1) .nil L st).1,(rX f (n+1) .nil L st).2,f,true,rfl,z.mono (ku Z).size,h1,C,λ_=>⟨(ku E).symm,zx7 (by have:=kx3 f (n+1) .nil L st;omega) aC.2,wJ _⟩,λh=>gY⟩
   have aA:=pG a3;obtain⟨q,rfl⟩:=z.ptr;clear T Q h0 z h1 C a3 c0 c1 c2 c3 f0 f1 f2 f3;go_wp2_with fail
   go_loopw [6,7] (λp m wr=>pql f w.heap.size R v L n w0 (rX (f+1) n .nil L st) p m wr) (λ_ m wr=>2*(L.length-kxd wr R)+bOf m)
   case atStart=>exact ku aA
   case round=>
    obtain⟨x,a,g,b,rfl,z,O,G,hT,d⟩:=hrel;obtain⟨q2,rfl⟩:=z.ptr;have M:=pG z;have l:=pG O;have N:=pG ((ku Z).trans G);have D:=pG G;have aB:=pG ((ku HS).kept hR G);have a8:=O.lt;have aI:=wu O.rd;obtain⟨c0,c1,c2,c3,f0,f1,f2,f3⟩:=row4 O.rd;clear z O G;cases b
    ·have u:=pG (d rfl);clear hT d;go_wp2
     go_ret
     rw[<-ku u];exact⟨_,rfl,ku M,ku l,ku N⟩
    ·obtain⟨j,U,V⟩:=hT rfl;clear hT d;cases k:a.bad
     ·obtain⟨g,rfl⟩:∃g',g=g'+1:=⟨g-1,by rw[qys k]at U;omega⟩;rw[qys k]at U;rw[zx4 g n x L a J,k]at j;simp only[wU,if_false]at j;rw[k]at c3;obtain⟨gb,cap,hv,hg,aL,aK,t0,t1,t2⟩:=(ku l).open;have A:=(ku l).fin a.at_ a8;rw[hv]at c0;obtain⟨kb,aM,sc,sh⟩:=(ku aB).at n J;have a2:=pG sh;have B:=pG j;have aN:kb<wr.heap.size:=by
       have:=sh 0 (by unfold kqo;split<;>simp);exact block_lt_of_cell this
      have a4:(kqo n).length<=100:=by unfold kqo;split<;>simp
      have aG:(n:Int)<4:=aj;have a9:=block_lt_of_cell sc;simp only at a9;clear hv j sh;generalize tk L a.at_=t at t0 t1 t2 B A;have aP:=(ku l).kxd;cases c:kk3 n t
      ·have d:=ku B;rw[c]at d;simp only[wU,if_false]at d;have u:=pG d;clear B d A;have a7:(((kqo n).any (λs=>s.toList==t.text.toList))=true/\(t.kind.toList==pY)=false)\/((kqo n).any (λs=>s.toList==t.text.toList))=false:=by
        unfold kk3 at c;cases hx:((kqo n).any (λs=>s.toList==t.text.toList))
        ·exact Or.inr rfl
        ·rw[hx]at c;exact Or.inl ⟨rfl,lJ⟩
       clear c;rcases a7 with⟨k1,k2⟩|k1;all_goals
        go_wp2_with fail
        go_region
        go_wp2_with fail
        go_quiet ((go_at_call 136;go_must (exact zyq (jjh kb 0 _ (kqo n) _ _ a4 jW))))
        rw[k1];go_wp2
        go_roundw
        case rel=>exact⟨x,a,g,false,rfl,(ku M).below (below_drewN (below_alloc1 _ _) _),(ku l).below (below_drewN (below_alloc1 _ _) _),((ku D).alloc _).drewN _,(λh=>gY),(λ_=>ku u)⟩
        case measure=>
         rw[((ku l).below (below_drewN (below_alloc1 _ _) _)).kxd,(ku l).kxd];simp[bOf]
      ·have d:=ku B;rw[c]at d;simp only[if_true]at d;have u:=pG d;unfold kk3 at c;rw[wW]at c;obtain⟨k1,k2⟩:=c;have aE:=A (by rw[rQ]at k2;rw[k2];rfl);clear B d A;go_wp2_with fail
       go_region
       go_wp2_with fail
       go_quiet ((go_at_call 136;go_must (exact zyq (jjh kb 0 _ (kqo n) _ _ a4 jW))))
       rw[k1];go_wp2_with fail
       refine(hL g aj (n+1) _ R v L {at_:=a.at_+1,nest:=a.nest,bad:=false} aj (((ku l).below (below_drewN (below_alloc1 _ _) _)).vxi k aE) hD (zx7 gU aj)).mono ?_;rintro e w3 ⟨q3,rfl,K,P,W⟩;have V:=(W.block wr.heap.size au aj).trans ((heap_setCell_other _ _ wr.heap.size _ gU).trans (heap_alloc_new wr _));obtain⟨u0,u1,u2,_,_,_⟩:=row3 V;have a5:=kx3 g (n+1) .nil L {at_:=a.at_+1,nest:=a.nest,bad:=false};generalize rX g (n+1) .nil L {at_:=a.at_+1,nest:=a.nest,bad:=false}=y at u K P a5;have S:Kept R wr w3:=((((Kept.refl R wr).alloc _).drewN _).kzq _ _).trans W;have F:=pG S;have a6:=(ku N).size;have a0:=pG (K.mono (lo':=w.heap.size) ay);have a1:=pG ((ku M).kept S hR);have Y:=pG P;have aJ:=wu P.rd;have hy:=P.lt;obtain⟨q3,rfl⟩:=K.ptr;simp only at a5;clear W V S K P c0 c1 c2 c3 f0 f1 f2 f3 t0 t1 t2 sc;by_cases I:n=2
       ·have aD:((n:Int) != 2)=false:=by simp;omega
        rw[if_pos I]at u;clear I;go_wp2
        go_roundw
        case rel=>exact⟨opX t.text x y.1,y.2,g,false,rfl,qyl (ku a1) (ku a0) rfl (rU a6 (ku F).size),(ku Y).below (below_alloc1 _ _),((ku D).trans (ku F)).alloc _,(λh=>gY),(λ_=>ku u)⟩
        case measure=>
         rw[((ku Y).below (below_alloc1 _ _)).kxd,(ku l).kxd];simp[bOf];omega
       ·have aD:((n:Int) != 2)=true:=by simp;omega
        rw[if_neg I]at u;clear I;go_wp2
        go_roundw
        case rel=>exact⟨opX t.text x y.1,y.2,g,true,rfl,qyl (ku a1) (ku a0) rfl (rU a6 (ku F).size),(ku Y).below (below_alloc1 _ _),((ku D).trans (ku F)).alloc _,(λ_=>⟨ku u,zx7 aj aj,aj⟩),(λh=>gY)⟩
        case measure=>
         rw[((ku Y).below (below_alloc1 _ _)).kxd,(ku l).kxd];simp[bOf];omega
     ·obtain⟨g,rfl⟩:∃g',g=g'+1:=⟨g-1,by rw[vv2 k]at U;omega⟩;rw[zx4 g n x L a J,k]at j;simp only[if_true]at j;rw[k]at c3;have u:=pG j;clear j;go_wp2
      go_ret
      rw[<-ku u];exact⟨_,rfl,ku M,ku l,ku N⟩
 ·rw[hb]at c3;have E:Hid (rX (f+1) n .nil L st=(kvi,st)):=by
   by_cases h4:n=4
   ·subst h4;rw[jj8,hb];rfl
   ·rw[zk7 f n .nil L st aj,hb];rfl
  go_enter func108,ntmps108
  go_wp2
  go_ret
  rw[ku E];exact⟨_,rfl,qwf rfl (wJ _),(ku H).below (below_alloc1 _ _),(Kept.refl _ _).alloc _⟩
theorem levels (f:Nat):qza f/\qka f:=by
 have h:∀f,(∀g,g<=f->qza g)/\qka f:=by
  intro f;induction f with
  |zero=>
   have b:∀(L:List Tok) (c:Nat) (w:World) (R:Nat) (v:Value) (st:RS),Rd w R v L st->¬need L c st<=0:=by
    intro L c w R v st h hn;have:=h.lt;unfold need at hn;split at hn<;>omega
   refine⟨λg d=>?_,λn w R v L st _ h _ a=>absurd a (b _ _ _ _ _ _ h)⟩;have:g=0:=aj;subst this;exact λn w R v L st _ h _ a=>absurd a (b _ _ _ _ _ _ h)
  |succ f ih=>
   refine⟨λg d=>?_,vx5 f (ih.1 f (wJ _)) ih.2⟩;by_cases e:g<=f
   ·exact ih.1 g e
   ·have:g=f+1:=by omega
    subst this;exact jws f ih.1 ih.2
 exact⟨(h f).1 f (wJ _),(h f).2⟩
structure SLab where
 place:PX
 value:PX
 cond:PX
variable {a:SLab}
abbrev PB:=Go.Deep.BT SLab
variable {blk:RS->PB×RS}
def noS:SLab:={place:=.nil,value:=.nil,cond:=.nil}
def kk0:PB->PB->PB
 |.nil,b=>b
 |.node i j a s n,b=>.node i j a s (kk0 n b)
theorem zvh:∀a:PB,kk0 a .nil=a
 |.nil=>rfl
 |.node i j a s n=>by rw[kk0,zvh n]
theorem qwi:∀a b c:PB,kk0 (kk0 a b) c=kk0 a (kk0 b c)
 |.nil,_,_=>rfl
 |.node i j a s n,b,c=>by rw[kk0,kk0,kk0,qwi n b c]
def ifS (c:PX)(t e:PB):PB:=.node 0 0 {place:=.nil,value:=.nil,cond:=c} (.node 0 0 noS t e) .nil
def vk8 (p v:PX):PB:=.node 0 0 {place:=p,value:=v,cond:=.nil} .nil .nil
def yg (L:List Tok):Nat:=8*L.length+8
def rDo (blk:RS->PB×RS)(L:List Tok)(st:RS):PB×RS:=
 if qo L oh st then
  if qo L oC (blk (rX (yg L) 0 .nil L (qy L oh st)).2).2 then
   (ifS (rX (yg L) 0 .nil L (qy L oh st)).1 (blk (rX (yg L) 0 .nil L (qy L oh st)).2).1 (blk (qy L oC (blk (rX (yg L) 0 .nil L (qy L oh st)).2).2)).1,
    (blk (qy L oC (blk (rX (yg L) 0 .nil L (qy L oh st)).2).2)).2)
  else (ifS (rX (yg L) 0 .nil L (qy L oh st)).1 (blk (rX (yg L) 0 .nil L (qy L oh st)).2).1 .nil,(blk (rX (yg L) 0 .nil L (qy L oh st)).2).2)
 else (vk8 (yt L st).1 (rX (yg L) 0 .nil L (qy L [61] (yt L st).2)).1,qy L [59] (rX (yg L) 0 .nil L (qy L [61] (yt L st).2)).2)
def rS:Nat->Nat->List Tok->RS->PB×RS
 |0,_,_,st=>(.nil,st)
 |f+1,0,L,st=>((rS f 1 L (qy L [123] st)).1,qy L [125] (rS f 1 L (qy L [123] st)).2)
 |f+1,_+1,L,st=>
  if qo L [125] st||st.bad then (.nil,st)
  else (kk0 (rDo (rS f 0 L) L st).1 (rS f 1 L (rDo (rS f 0 L) L st).2).1,(rS f 1 L (rDo (rS f 0 L) L st).2).2)
theorem kq7 (h:st.bad=true):qo L s st=false:=by simp[qo,kwv,h]
theorem kj2 (h:st.bad=true):(qy L s st).bad=true:=by simp[qy,kq7 h]
theorem kys (h:st.bad=true):(qm L s st).2.bad=true:=by simp[qm,kqc,h]
theorem kjz (h:st.bad=true):∀(f tag:Nat) (x:PX),(rX f tag x L st).2=st
 |0,_,_=>rfl
 |f+1,tag,x=>by
  rw[rX];simp only[h,if_true];split
  ·rfl
  ·split
   ·rfl
   ·split<;>rfl
theorem qk6 {L:List Tok}{st:RS}(h:st.bad=true):∀f tag:Nat,(rS f tag L st).2.bad=true
 |0,_=>h
 |f+1,0=>by
  rw[rS];exact kj2 (qk6 (kj2 h) f 1)
 |f+1,t+1=>by rw[rS];simp[h]
theorem qyt (b:∀s,s.at_<=(blk s).2.at_)(L:List Tok)(st:RS):st.at_<=(rDo blk L st).2.at_:=by
 unfold rDo;have a:=rU (rU (jh L oh st) (kx3 (yg L) 0 .nil L (qy L oh st))) (b (rX (yg L) 0 .nil L (qy L oh st)).2);split
 ·split
  ·exact rU a (rU (jh L oC _) (b _))
  ·exact a
 ·exact rU (zz2 L st) (rU (jh L [61] _) (rU (kx3 (yg L) 0 .nil L _) (jh L [59] _)))
theorem kk2 (L:List Tok):∀(f tag:Nat) (st:RS),st.at_<=(rS f tag L st).2.at_
 |0,_,_=>wJ _
 |f+1,0,st=>by
  rw[rS];exact rU (jh L [123] st) (rU (kk2 L f 1 _) (jh L [125] _))
 |f+1,t+1,st=>by
  rw[rS];split
  ·exact wJ _
  ·exact rU (qyt (λs=>kk2 L f 0 s) L st) (kk2 L f 1 _)
theorem zkz (hb:(qm L s st).2.bad=false):(qm L s st).2.at_=st.at_+1:=by
 unfold qm at hb |-;split at hb
 ·rename_i h;rw[if_pos h]
 ·simp at hb
theorem qk7 (a:∀s,s.at_<=(blk s).2.at_)(k:∀s,s.bad=true->(blk s).2.bad=true)   (h:(rDo blk L st).2.bad=false):st.at_+1<=(rDo blk L st).2.at_:=by
 have nb:∀{p:Bool},¬p=true->p=false:=λh=>iw
 by_cases hi:qo L oh st=true
 ·have f:(qy L oh st).bad=false:=by
   unfold qy;rw[hi];rfl
  have i:=kv0 f;have h1:=kx3 (yg L) 0 .nil L (qy L oh st);have c:=a (rX (yg L) 0 .nil L (qy L oh st)).2;unfold rDo;rw[if_pos hi];split
  ·have d:=jh L oC (blk (rX (yg L) 0 .nil L (qy L oh st)).2).2;have e:=a (qy L oC (blk (rX (yg L) 0 .nil L (qy L oh st)).2).2);simp only;omega
  ·simp only;omega
 ·unfold rDo at h |-;rw[if_neg hi]at h |-;simp only at h |-;have b:(yt L st).2.bad=false:=nb λhb=>by
   have:=kj2 (L:=L) (s:=[59]) (st:=(rX (yg L) 0 .nil L (qy L [61] (yt L st).2)).2) (by rw[kjz (kj2 hb)];exact kj2 hb);rw[this]at h;cases h
  have g:(qm L og st).2.bad=false:=nb λhb=>by
   have:(yt L st).2.bad=true:=by
    unfold yt;simp only;rw[kq7 hb];exact hb
   rw[this]at b;cases b
  have h1:=zkz g;have c:(qm L og st).2.at_<=(yt L st).2.at_:=by
   unfold yt;simp only;split
   ·exact rU (jh L [91] _) (rU (kq9 L _ _) (jh L [93] _))
   ·exact wJ _
  have d:=jh L [61] (yt L st).2;have e:=kx3 (yg L) 0 .nil L (qy L [61] (yt L st).2);have j:=jh L [59] (rX (yg L) 0 .nil L (qy L [61] (yt L st).2)).2;omega
def qxs (lo:Nat)(w:World)(a:SLab)(vp vv vi:Value):Prop:=yj lo w a.place vp/\yj lo w a.value vv/\yj lo w a.cond vi
def jm (lo:Nat)(no:Option Nat)(w:World):PB->List Value->Prop
 |.nil,ps=>ps=[]
 |.node _ _ a .nil n,ps=>∃k vp vv vi qs,ps=.pointer (some ⟨k,0,none⟩)::qs/\lo<=k/\w.heap[k]?=some (.cells #[vp,vv,vi,.slice none 0 0,.slice none 0 0] 247 (0,0))/\qxs lo w a vp vv vi/\jm lo no w n qs
 |.node _ _ a (.node _ _ _ t e) n,ps=>∃k vp vv vi vt ve qt qe qs,ps=.pointer (some ⟨k,0,none⟩)::qs/\lo<=k/\w.heap[k]?=some (.cells #[vp,vv,vi,vt,ve] 247 (0,0))/\qxs lo w a vp vv vi /\
   (w.ownsRow lo 245 1 vt qt.length qt/\(∀j,vt.ownBlock=some j->no≠some j)/\jm lo no w t qt)/\(w.ownsRow lo 245 1 ve qe.length qe/\(∀j,ve.ownBlock=some j->no≠some j)/\jm lo no w e qe)/\jm lo no w n qs
theorem jq (f:∀k,lo<=k->k<w.heap.size->w'.heap[k]?=w.heap[k]?)     (h:w.ownsRow lo e size v n xs):w'.ownsRow lo e size v n xs:=by
 obtain⟨h1,a⟩:=h;refine⟨h1,?_⟩;rcases a with a|⟨g,cap,b,i,c,d,r⟩
 ·exact Or.inl a
 ·exact Or.inr ⟨g,cap,b,i,c,by rw[f g c (wu d)];exact d,r⟩
theorem zu (d:lo'<=lo)      (h:w.ownsRow lo e size v n xs):w.ownsRow lo' e size v n xs:=by
 obtain⟨h1,a⟩:=h;refine⟨h1,?_⟩;rcases a with a|⟨g,cap,b,f,c,r⟩
 ·exact Or.inl a
 ·exact Or.inr ⟨g,cap,b,f,rU d c,r⟩
theorem qxs.stay (b:∀k,lo<=k->k<w.heap.size->w'.heap[k]?=w.heap[k]?)   (h:qxs lo w a vp vv vi):qxs lo w' a vp vv vi:=⟨h.1.stay b,h.2.1.stay b,h.2.2.stay b⟩
theorem qxs.mono (b:lo'<=lo)   (h:qxs lo w a vp vv vi):qxs lo' w a vp vv vi:=⟨h.1.mono b,h.2.1.mono b,h.2.2.mono b⟩
theorem jm.stay {lo:Nat}{no:Option Nat}{w w':World}(c:∀k,lo<=k->k<w.heap.size->w'.heap[k]?=w.heap[k]?):∀{b:PB} {ps:List Value},jm lo no w b ps->jm lo no w' b ps
 |.nil,_,h=>h
 |.node _ _ a .nil n,ps,⟨k,vp,vv,vi,qs,e,hl,hh,ha,hn⟩=>⟨k,vp,vv,vi,qs,e,hl,by rw[c k hl (wu hh)];exact hh,ha.stay c,jm.stay c hn⟩
 |.node _ _ a (.node _ _ _ t e) n,ps,⟨k,vp,vv,vi,vt,ve,qt,qe,qs,e1,hl,hh,ha,⟨ht1,ht3,ht2⟩,⟨he1,he3,he2⟩,hn⟩=>
  ⟨k,vp,vv,vi,vt,ve,qt,qe,qs,e1,hl,by rw[c k hl (wu hh)];exact hh,ha.stay c,⟨jq c ht1,ht3,jm.stay c ht2⟩,⟨jq c he1,he3,jm.stay c he2⟩,jm.stay c hn⟩
theorem jm.mono {lo lo':Nat}{no:Option Nat}{w:World}(c:lo'<=lo):∀{b:PB} {ps:List Value},jm lo no w b ps->jm lo' no w b ps
 |.nil,_,h=>h
 |.node _ _ a .nil n,ps,⟨k,vp,vv,vi,qs,e,hl,hh,ha,hn⟩=>⟨k,vp,vv,vi,qs,e,rU c hl,hh,ha.mono c,jm.mono c hn⟩
 |.node _ _ a (.node _ _ _ t e) n,ps,⟨k,vp,vv,vi,vt,ve,qt,qe,qs,e1,hl,hh,ha,⟨ht1,ht3,ht2⟩,⟨he1,he3,he2⟩,hn⟩=>
  ⟨k,vp,vv,vi,vt,ve,qt,qe,qs,e1,rU c hl,hh,ha.mono c,⟨zu c ht1,ht3,jm.mono c ht2⟩,⟨zu c he1,he3,jm.mono c he2⟩,jm.mono c hn⟩
theorem jm.app {lo:Nat}{no:Option Nat}{w:World}:∀{b c:PB} {ps qs:List Value},jm lo no w b ps->jm lo no w c qs->jm lo no w (kk0 b c) (ps++qs)
 |.nil,c,ps,qs,h,h'=>by
  have:ps=[]:=h;subst this;exact h'
 |.node _ _ a .nil n,c,ps,qs,⟨k,vp,vv,vi,rs,e,hl,hh,ha,hn⟩,h'=>⟨k,vp,vv,vi,rs++qs,oz,hl,hh,ha,hn.app h'⟩
 |.node _ _ a (.node _ _ _ t e) n,c,ps,qs,⟨k,vp,vv,vi,vt,ve,qt,qe,rs,e1,hl,hh,ha,ht,he,hn⟩,h'=>⟨k,vp,vv,vi,vt,ve,qt,qe,rs++qs,by rw[e1];rfl,hl,hh,ha,ht,he,hn.app h'⟩
theorem jm.shun {lo:Nat}{no no':Option Nat}{w:World}(c:∀k,no'=some k->no=some k\/w.heap.size<=k\/k<lo):∀{b:PB} {ps:List Value},jm lo no w b ps->jm lo no' w b ps
 |.nil,_,h=>h
 |.node _ _ a .nil n,ps,⟨k,vp,vv,vi,qs,e,hl,hh,ha,hn⟩=>⟨k,vp,vv,vi,qs,e,hl,hh,ha,jm.shun c hn⟩
 |.node _ _ a (.node _ _ _ t e) n,ps,⟨k,vp,vv,vi,vt,ve,qt,qe,qs,e1,hl,hh,ha,⟨ht1,ht3,ht2⟩,⟨he1,he3,he2⟩,hn⟩=>by
  have out:∀{v:Value} {q:List Value},w.ownsRow lo 245 1 v q.length q->(∀j,v.ownBlock=some j->no≠some j)->∀j,v.ownBlock=some j->no'≠some j:=by
   intro v q h1 f j d g;have i:=xg h1 j d;have l:=mg h1 j d;rcases c j g with h|h|h
   ·exact f j d h
   ·omega
   ·omega
  exact⟨k,vp,vv,vi,vt,ve,qt,qe,qs,e1,hl,hh,ha,⟨ht1,out ht1 ht3,jm.shun c ht2⟩,⟨he1,out he1 he3,jm.shun c he2⟩,jm.shun c hn⟩
theorem not_row {cs:Array Value}{fr:Nat×Nat}(f:w.ownsRow base e size v n xs)(d:w.heap[k]?=some (.cells cs t fr))(c:t≠e):some k≠v.ownBlock:=by
 intro a;rcases f.2 with⟨rfl,_⟩|⟨g,cap,h,rfl,_,b,_⟩
 ·simp[Value.ownBlock]at a
 ·simp[Value.ownBlock]at a;subst a;rw[d]at b;simp at b;exact c b.2.1
theorem yj.grown {lo base e:Nat}{w w':World}{v:Value}{n:Nat}{xs:List Value}(c:w.ownsRow base e 1 v n xs)(a:242≠e)(b:w.grownBy w' v.ownBlock):∀{x:PX} {p:Value},yj lo w x p->yj lo w' x p
 |.nil,_,h=>h
 |.node _ _ _ _ _,_,⟨k,va,vb,e1,hn,hh,ha,hb⟩=>⟨k,va,vb,e1,hn,jY,yj.grown c a b ha,yj.grown c a b hb⟩
theorem jm.kept {b:PB}{ps:List Value}(h:jm lo no w b ps)(c:Kept R w w')(d:R<lo):jm lo no w' b ps:=h.stay λk h1 a=>c.block k a aj
theorem jg (h:w.ownsRow lo e size v n xs)(b:Kept R w w')(c:R<lo):w'.ownsRow lo e size v n xs:=jq (λk h1 a=>b.block k a aj) h
structure PS (L:List Tok)(st:RS)(r:PR):Prop where
 lt:st.at_<L.length
 nlo:-(st.at_:Int)<=st.nest
 nhi:st.nest<=12
 good:st.bad=false->r.failed=false/\r.next=st.at_/\r.depth=st.nest/\r.place=0
 bad:st.bad=true->r.failed=true/\r.next=L.length-1/\r.place=(tk L st.at_).at_
def Pd (w:World)(P:Nat)(v:Value)(L:List Tok)(st:RS):Prop:=∃r,Pw w P v L r/\PS L st r
theorem Pd.below (h:Pd w P v L st)(b:pU w w'):Pd w' P v L st:=by
 obtain⟨r,h1,a⟩:=h;exact⟨r,h1.below b,a⟩
theorem Pd.setOther (h:Pd w P v L st)(b:∀g,v.ownBlock=some g->g<B)(c:P<B){p:Addr}(d:B<=p.block)(u:Value):Pd (w.setCell p u) P v L st:=by
 obtain⟨r,h1,a⟩:=h;exact⟨r,h1.setOther b c d u,a⟩
theorem Pd.same (h:Pd w P v L st)(b:w'.heap[P]?=w.heap[P]?)(c:w'.ownsRow 0 194 2 v L.length (kqe L)):Pd w' P v L st:=by
 obtain⟨r,h1,a⟩:=h;exact⟨r,⟨by rw[b];exact h1.pd,c,h1.ne,h1.ok,h1.lt⟩,a⟩
theorem Pd.own (h:Pd w P v L st):w.ownsRow 0 194 2 v L.length (kqe L):=by
 obtain⟨r,h1,a⟩:=h;exact h1.own
theorem Pd.in (h:Pd w P v L st):P<w.heap.size:=by
 obtain⟨r,h1,a⟩:=h;exact wu h1.pd
theorem Pd.ok (h:Pd w P v L st):bg L:=by
 obtain⟨r,h1,a⟩:=h;exact h1.ok
theorem Pd.lt (h:Pd w P v L st):st.at_<L.length:=by
 obtain⟨r,h1,a⟩:=h;exact a.lt
theorem vyc:∀l∈lits,(([]:List UInt8)==l)=false:=ak
theorem zq0:∀l∈lits,(l==([]:List UInt8))=false:=ak
theorem PS.is (h:PS L st r)(a:bg L)  (b:l∈lits):isR L l r=qo L l st:=by
 unfold isR qo kwv;cases hb:st.bad
 ·rw[(h.good hb).2.1];exact(a.ok _ h.lt).lit l b
 ·rw[(h.bad hb).2.1,a.lastText,vyc l b];rfl
theorem PS.name (h:PS L st r)(a:bg L):nameB L r=kqc L og st:=by
 unfold nameB kqc;cases hb:st.bad
 ·rw[(h.good hb).2.1,(a.ok _ h.lt).name];rfl
 ·have:kz5 (tk L (L.length-1)).text 0=false:=qkb (toList_empty (by rw[a.lastText];rfl));rw[(h.bad hb).2.1,this];rfl
theorem PS.digit (h:PS L st r)(a:bg L):kz1 (tk L r.next).text 0=kqc L oQ st:=by
 unfold kqc;cases hb:st.bad
 ·rw[(h.good hb).2.1,(a.ok _ h.lt).digit];rfl
 ·have:kz1 (tk L (L.length-1)).text 0=false:=qkb (toList_empty (by rw[a.lastText];rfl));rw[(h.bad hb).2.1,this];rfl
theorem PS.fail (h:PS L st r):PS L {st with bad:=true} (kkj L r):=by
 refine⟨h.lt,h.nlo,h.nhi,λhb=>by simp at hb,λ_=>⟨rfl,rfl,?_⟩⟩;unfold kkj;cases hb:st.bad
 ·rw[(h.good hb).1,(h.good hb).2.1];rfl
 ·rw[(h.bad hb).1,(h.bad hb).2.2];rfl
theorem PS.step (h:PS L st r)(hb:st.bad=false)(f:st.at_+1<L.length):PS L {st with at_:=st.at_+1} {r with next:=r.next+1}:=by
 obtain⟨b,c,d,e⟩:=h.good hb;exact⟨f,by have:=h.nlo;simp;omega,h.nhi,λ_=>⟨b,by simp[c],d,e⟩,λa=>by simp[hb]at a⟩
def kw8 (L:List Tok)(l:List UInt8)(st:RS):RS:=if qo L l st then {st with at_:=st.at_+1} else st
def zj0 (L:List Tok)(l:List UInt8)(st:RS):RS:=if qo L l st then {st with at_:=st.at_+1} else {st with bad:=true}
theorem kjq (a:bg L)(b:st.at_<L.length)(h:qo L l st=true):st.bad=false/\st.at_+1<L.length:=by
 unfold qo kwv at h;simp only[wW,Qu,Qm]at h;have c:((tk L st.at_).kind.toList==pJ)=false:=by
  rcases h.1.2 with e|e<;>(rw[rQ]at e;rw[e];rfl)
 exact⟨h.1.1,a.fin b (by rw[(a.ok _ b).fin];exact c)⟩
theorem PS.acc (h:PS L st r)(a:bg L)  (b:l∈lits):PS L (kw8 L l st) (zve L l r):=by
 unfold kw8 zve;rw[h.is a b];cases hn:qo L l st
 ·exact h
 ·have:=kjq a h.lt hn;exact h.step this.1 this.2
theorem PS.exp (h:PS L st r)(a:bg L)  (b:l∈lits):PS L (zj0 L l st) (ky2 L l r):=by
 unfold zj0 ky2;rw[h.is a b];cases hn:qo L l st
 ·exact h.fail
 ·have:=kjq a h.lt hn;exact h.step this.1 this.2
theorem kzx (a:opens l=false)(b:shuts l=false):qy L l st=zj0 L l st:=by
 unfold qy zj0;rw[a,b];cases hn:qo L l st
 ·rfl
 ·unfold qo kwv at hn;simp only[wW,Qu,Qm]at hn;simp[hn.1.1]
theorem PS.depth (h:PS L st r)(hb:st.bad=true)(d:Int):PS L st {r with depth:=d}:=
 ⟨h.lt,h.nlo,h.nhi,(λa=>by rw[hb]at a;cases a),λa=>h.bad a⟩
theorem PS.open (h:PS L st r)(a:bg L)  (b:l∈lits)(s:opens l=true)  (m:-1000<=r.depth->r.depth<=1000->d=r.depth+1):PS L (qy L l st) (zkt L l d r):=by
 have p:=a.len;have v:=h.nlo;have u:=h.nhi;unfold qy zkt;rw[s];cases hb:st.bad
 ·obtain⟨i,j,c,k⟩:=h.good hb;rw[c];cases f:(st.nest==12)
  ·cases hn:qo L l st
   ·have e:ky2 L l r=kkj L r:=by unfold ky2;rw[h.is a b,hn];rfl
    simp only[Jc,Q9,if_true,wU,if_false];rw[e];exact(h.fail).depth rfl d
   ·have e:ky2 L l r={r with next:=r.next+1}:=by unfold ky2;rw[h.is a b,hn];rfl
    have t:=kjq a h.lt hn;have q:st.nest≠12:=by simpa using f
    simp only[Jt,Q5,Qk,wU,if_false,if_true];rw[e];exact⟨t.2,ay,ay,λ_=>⟨i,by simp[j],by simp[(m aj aj),c],k⟩,λg=>by simp at g⟩
  ·simp only[Jg,Ju,if_true];exact h.fail
 ·rw[kq7 hb];simp only[Jc,Q9,if_true];have e:ky2 L l r=kkj L r:=by unfold ky2;rw[h.is a b,kq7 hb];rfl
  rw[e];have h1:=h.fail;split
  ·exact h1
  ·exact h1.depth rfl d
theorem PS.shut (h:PS L st r)(a:bg L)  (b:l∈lits)(q:opens l=false)(c:shuts l=true)  (m:-1000<=r.depth->r.depth<=1000->d=r.depth-1):PS L (qy L l st) {ky2 L l r with depth:=d}:=by
 have p:=a.len;have t:=h.nlo;have s:=h.nhi;unfold qy;rw[q,c];cases hb:st.bad
 ·obtain⟨g,i,j,k⟩:=h.good hb;cases hn:qo L l st
  ·have e:ky2 L l r=kkj L r:=by unfold ky2;rw[h.is a b,hn];rfl
   simp only[Jc,Q9,if_true];rw[e];exact(h.fail).depth rfl d
  ·have e:ky2 L l r={r with next:=r.next+1}:=by unfold ky2;rw[h.is a b,hn];rfl
   have c:=kjq a h.lt hn;simp only[Jt,Ql,Qk,wU,if_false,if_true];rw[e];exact⟨c.2,ay,ay,λ_=>⟨g,by simp[i],by simp[(m aj aj),j],k⟩,λf=>by simp at f⟩
 ·rw[kq7 hb];simp only[Jc,Q9,if_true];have e:ky2 L l r=kkj L r:=by unfold ky2;rw[h.is a b,kq7 hb];rfl
  rw[e];exact h.fail.depth rfl d
theorem qqb (l:List UInt8)(d:l∈lits)(w:World)(P:Nat)(v:Value)(L:List Tok)(st:RS)(h:Pd w P v L st):
  qJ 89 #[.pointer (some ⟨P,0,none⟩),.string ⟨l.toArray⟩] w λe w'=>e=.returned (.bool (qo L l st))/\Pd w' P v L st/\Kept P w w':=by
 obtain⟨r,h1,c⟩:=h;refine(jwa ⟨l.toArray⟩ w P v L r h1).mono λe w' ⟨a,b⟩=>⟨?_,⟨r,h1.below b,c⟩,.of_below b⟩
 rw[a,<-c.is h1.ok d];unfold isR;rw[jv l]
theorem kj7 (l:List UInt8)(d:l∈lits)(w:World)(P:Nat)(v:Value)(L:List Tok)(st:RS)(h:Pd w P v L st):
  qJ 205 #[.pointer (some ⟨P,0,none⟩),.string ⟨l.toArray⟩] w λe w'=>e=.returned (.bool (qo L l st))/\Pd w' P v L (kw8 L l st)/\Kept P w w':=by
 obtain⟨r,h1,f⟩:=h;refine(zva ⟨l.toArray⟩ w P v L r h1 (by rw[jv l];exact zq0 l d)).mono λe w' ⟨a,b,c⟩=>⟨?_,⟨_,b,?_⟩,c⟩
 ·rw[a,jv l,f.is h1.ok d]
 ·rw[jv l];exact f.acc h1.ok d
theorem kjy (l:List UInt8)(d:l∈lits)(g:opens l=false)(i:shuts l=false)(w:World)(P:Nat)(v:Value)(L:List Tok)(st:RS)(h:Pd w P v L st):
  qJ 201 #[.pointer (some ⟨P,0,none⟩),.string ⟨l.toArray⟩] w λe w'=>e=.returned (.tuple #[])/\Pd w' P v L (qy L l st)/\Kept P w w':=by
 obtain⟨r,h1,f⟩:=h;refine(qws ⟨l.toArray⟩ w P v L r h1 (by rw[jv l];exact zq0 l d)).mono λe w' ⟨a,b,c⟩=>⟨a,⟨_,b,?_⟩,c⟩
 rw[jv l,kzx g i];exact f.exp h1.ok d
theorem qkj (l:List UInt8)(f:l∈lits)(j:opens l=true)(w:World)(P:Nat)(v:Value)(L:List Tok)(st:RS)(h:Pd w P v L st):
  qJ 204 #[.pointer (some ⟨P,0,none⟩),.string ⟨l.toArray⟩] w λe w'=>e=.returned (.tuple #[])/\Pd w' P v L (qy L l st)/\Kept P w w':=by
 obtain⟨r,h1,g⟩:=h;refine(open_any ⟨l.toArray⟩ w P v L r h1 (by rw[jv l];exact zq0 l f)).mono λe w' ⟨a,⟨d,b,i⟩,c⟩=>⟨a,⟨_,b,?_⟩,c⟩
 rw[jv l];exact g.open h1.ok f j i
theorem qje (l:List UInt8)(f:l∈lits)(j:opens l=false)(k:shuts l=true)(w:World)(P:Nat)(v:Value)(L:List Tok)(st:RS)(h:Pd w P v L st):
  qJ 206 #[.pointer (some ⟨P,0,none⟩),.string ⟨l.toArray⟩] w λe w'=>e=.returned (.tuple #[])/\Pd w' P v L (qy L l st)/\Kept P w w':=by
 obtain⟨r,h1,g⟩:=h;refine(vk6 ⟨l.toArray⟩ w P v L r h1 (by rw[jv l];exact zq0 l f)).mono λe w' ⟨a,⟨d,b,i⟩,c⟩=>⟨a,⟨_,b,?_⟩,c⟩
 rw[jv l];exact g.shut h1.ok f j k i
theorem PS.kind (h:PS L st r)(c:bg L){k:List UInt8}(d:(k==pJ)=false){b:Bool}(hb:b=kqc L k st):
  PS L (qm L k st).2 (if b then {r with next:=r.next+1} else kkj L r)/\(if b then tk L r.next else zf)=(qm L k st).1:=by
 subst hb;unfold qm;cases hn:kqc L k st
 ·exact⟨h.fail,rfl⟩
 ·have h1:=hn;unfold kqc at h1;simp only[wW,Qm]at h1;have a:=h1.2;rw[rQ]at a;refine⟨h.step h1.1 (c.fin h.lt (by rw[(c.ok _ h.lt).fin,a];exact d)),?_⟩;simp only[if_true];rw[(h.good h1.1).2.1]
theorem kx7 (w:World)(P:Nat)(v:Value)(L:List Tok)(st:RS)(h:Pd w P v L st):
  qJ 202 #[.pointer (some ⟨P,0,none⟩)] w λe w'=>e=.returned (ptV (qm L og st).1)/\Pd w' P v L (qm L og st).2/\Kept P w w':=by
 obtain⟨r,h1,d⟩:=h;have f:=d.kind h1.ok (k:=og) rfl (d.name h1.ok);exact(name_any w P v L r h1).mono λe w' ⟨a,b,c⟩=>⟨by rw[a,<-f.2];rfl,⟨_,b,f.1⟩,c⟩
theorem zjg (w:World)(P:Nat)(v:Value)(L:List Tok)(st:RS)(h:Pd w P v L st):
  qJ 203 #[.pointer (some ⟨P,0,none⟩)] w λe w'=>e=.returned (dgV (qm L oQ st).1)/\Pd w' P v L (qm L oQ st).2/\Kept P w w':=by
 obtain⟨r,h1,d⟩:=h;have f:=d.kind h1.ok (k:=oQ) rfl (d.digit h1.ok);exact(jwx w P v L r h1).mono λe w' ⟨a,b,c⟩=>⟨by rw[a,<-f.2];rfl,⟨_,b,f.1⟩,c⟩
theorem vvd (w:World)(P:Nat)(v:Value)(L:List Tok)(st:RS)(h:Pd w P v L st):
  qJ 90 #[.pointer (some ⟨P,0,none⟩)] w λe w'=>e=.returned (.tuple #[])/\Pd w' P v L {st with bad:=true}/\Kept P w w':=by
 obtain⟨r,h1,d⟩:=h;exact(qzh w P v L r h1).mono λe w' ⟨a,b,c⟩=>⟨a,⟨_,b,d.fail⟩,c⟩
def qqs (L:List Tok)(k c:Nat)(st:RS)(f:Nat):Prop:=if st.bad then k<=f else 4*(L.length-st.at_)+c<=f
theorem zqz (h:4*(L.length-st.at_)+c<=f)(a:k<=f):qqs L k c st f:=by
 unfold qqs;split
 ·exact a
 ·exact h
theorem zqj (hb:st.bad=false)(h:qqs L k c st f):4*(L.length-st.at_)+c<=f:=by simpa[qqs,hb] using h
theorem jqb (hb:st.bad=true)(h:qqs L k c st f):k<=f:=by simpa[qqs,hb] using h
theorem jyw {d: Nat}   (b:st.at_<L.length)(g:4*(L.length-st.at_)+d<=f+1)(e:c<=d+3)(a:k<=f):qqs L k c (qy L s st) f:=by
 unfold qqs;split
 ·exact a
 ·rename_i h;rw[kv0 iw];omega
def pqa (R:Nat)(v:Value)(L:List Tok)(w:World)(r:PB×RS)(e:Ending)(w':World):Prop:=
 ∃vs ps,e=.returned vs/\w'.ownsRow w.heap.size 245 1 vs ps.length ps/\jm w.heap.size none w' r.1 ps/\Rd w' R v L r.2/\Kept R w w'
def px8 (R:Nat)(v:Value)(L:List Tok)(w:World)(r:PB×RS)(e:Ending)(w':World):Prop:=
 ∃p,e=.returned (.pointer p)/\jm w.heap.size none w' r.1 [.pointer p]/\Rd w' R v L r.2/\Kept R w w'
def qvn (f:Nat):Prop:=∀(w:World) (R:Nat) (v:Value) (L:List Tok) (st:RS),Rd w R v L st->zw7 L->qqs L 2 3 st f ->
 qJ 109 #[.pointer (some ⟨R,0,none⟩)] w (pqa R v L w (rS f 0 L st))
def vwg (f:Nat):Prop:=∀(w:World) (R:Nat) (v:Value) (L:List Tok) (st:RS),Rd w R v L st->zw7 L->qqs L 2 2 st (f+1) ->
 qJ 177 #[.pointer (some ⟨R,0,none⟩)] w (px8 R v L w (rDo (rS f 0 L) L st))
theorem qxv (w:World)(R:Nat)(v:Value)(L:List Tok)(st:RS)(h:Rd w R v L st)(a:zw7 L):
  qJ 108 #[.pointer (some ⟨R,0,none⟩),.int .i64 0] w (vw8 R v L w (rX (yg L) 0 .nil L st)):=
 (levels (yg L)).1 0 w R v L st aj h a (zx7 (by unfold yg;omega) (by unfold yg;omega))
theorem kxh {b:Nat}{x0 x1 x2 x3 x4:Value}  (h:w.heap[b]?=some (.cells #[x0,x1,x2,x3,x4] t (0,0))):
  Ce w b 0 x0/\Ce w b 1 x1/\Ce w b 2 x2/\Ce w b 3 x3/\Ce w b 4 x4 /\
  Fr w b 0/\Fr w b 1/\Fr w b 2/\Fr w b 3/\Fr w b 4:=
 ⟨rc h 0,rc h 1,rc h 2,rc h 3,rc h 4,
  rf h 0,rf h 1,rf h 2,rf h 3,rf h 4⟩
theorem kje {X o:Nat}{u:Value}:∀k,X+1<=k->k<w.heap.size->(w.setCell ⟨X,o,none⟩ u).heap[k]?=w.heap[k]?:=λk h _=>wP _ _ _ _ gU
theorem zq (h:w.ownsRow lo e size v n xs):∃a l c,v=.slice a l c:=by
 rcases h.2 with⟨rfl,_⟩|⟨g,cap,b,rfl,_⟩
 ·exact⟨_,_,_,rfl⟩
 ·exact⟨_,_,_,rfl⟩
theorem vy2 (hi:qo L oh st=false):
  rDo blk L st=(vk8 (yt L st).1 (rX (yg L) 0 .nil L (qy L [61] (yt L st).2)).1,qy L [59] (rX (yg L) 0 .nil L (qy L [61] (yt L st).2)).2):=by
 unfold rDo;rw[hi];rfl
theorem pjd {c:PX×RS}{t:PB×RS}(hi:qo L oh st=true)(a:rX (yg L) 0 .nil L (qy L oh st)=c)(b:blk c.2=t):
  rDo blk L st=if qo L oC t.2 then (ifS c.1 t.1 (blk (qy L oC t.2)).1,(blk (qy L oC t.2)).2) else (ifS c.1 t.1 .nil,t.2):=by
 subst a;subst b;unfold rDo;rw[if_pos hi]
theorem vyo (f:Nat)(hB:qvn f):vwg f:=by
 intro w R v L st h G hf;have A:R<w.heap.size:=wu h.rd;have x:=mg h.own;have a7:=h.lt;go_enter func177,ntmps177
 go_wp2_with fail
 refine(kjx oh _ R v L st (h.below (below_alloc1 _ _))).mono ?_;rintro e w1 ⟨rfl,H1,U⟩;have J:=((Kept.refl R w).alloc _).trans U;have j:=pG ((U.block w.heap.size au aj).trans (heap_alloc_new _ _));cases hi:qo L oh st
 ·have t:=vy2 (blk:=rS f 0 L) hi;go_wp2_with fail
  refine(zyw _ R v L st H1).mono ?_;rintro e w2 ⟨H,rfl,W,h2,k⟩;have c:=(k.block w.heap.size (wu j) aj).trans j;obtain⟨F,d1,d2,d3,d4,e0,e1,e2,e3,e4⟩:=kxh c;obtain⟨H,rfl⟩:=W.ptr;generalize yt L st=P at *;go_wp2_with fail
  refine(kq0 [61] _ R v L P.2 ((pG h2).jk x A au _)).mono ?_;rintro e w3 ⟨rfl,h3,i⟩;have b:=(i.block w.heap.size (by simpa using wu c) aj).trans (heap_setCell_same _ _ 0 _ _ (.pointer H) c);go_wp2_with fail
  refine(qxv _ R v L _ (pG h3) G).mono ?_;rintro e w4 ⟨E,rfl,Y,h4,g⟩;have d:=(g.block w.heap.size (wu b) aj).trans b;obtain⟨F,d1,d2,d3,d4,e0,e1,e2,e3,e4⟩:=kxh d;obtain⟨E,rfl⟩:=Y.ptr;generalize rX (yg L) 0 .nil L (qy L [61] P.2)=V at *;go_wp2_with fail
  refine(kq0 [59] _ R v L V.2 ((pG h4).jk x A au _)).mono ?_;rintro e w5 ⟨rfl,h5,a⟩;have q:=(((((J.trans k).jk (p:=⟨w.heap.size,0,none⟩) au (.pointer H)).trans i).trans g).jk (p:=⟨w.heap.size,1,none⟩) au (.pointer E)).trans a;have s:=(((((W.mono (lo':=w.heap.size+1) (wu j)).stay (kje (o:=0) (u:=.pointer H))).kept i aj).kept g aj).stay (kje (o:=1) (u:=.pointer E))).kept a aj;go_wp2
  go_ret
  rw[t];exact⟨_,rfl,⟨_,_,_,_,[],rfl,wJ _,((a.block w.heap.size (by simpa using wu d) aj).trans (heap_setCell_same _ _ 1 _ _ (.pointer E) d)),⟨s.mono aj,(((Y.mono (lo':=w.heap.size+1) (wu b)).stay (kje (o:=1) (u:=.pointer E))).kept a aj).mono aj,rfl⟩,rfl⟩,(pG h5),q⟩
 ·have a6:4*(L.length-st.at_)+2<=f+1:=zqj (next_lt H1 hi).2 hf;go_wp2_with fail
  refine(kq0 oh _ R v L st H1).mono ?_;rintro e w2 ⟨rfl,h2,k⟩;have c:=(k.block w.heap.size (wu j) aj).trans j;have a5:(qy L oh st).at_=st.at_+1:=by
   apply kv0;unfold qy;rw[hi];rfl
  go_wp2_with fail
  refine(qxv _ R v L _ (pG h2) G).mono ?_;rintro e w3 ⟨I,rfl,X,h3,i⟩;have b:=(i.block w.heap.size (wu c) aj).trans c;obtain⟨F,d1,d2,d3,d4,e0,e1,e2,e3,e4⟩:=kxh b;have K:=X.mono (lo':=w.heap.size+1) (wu c);have H3:=pG h3;obtain⟨I,rfl⟩:=X.ptr;have a1:=kx3 (yg L) 0 .nil L (qy L oh st);generalize HC:rX (yg L) 0 .nil L (qy L oh st)=C at K H3 a1;go_wp2_with fail
  refine(hB _ R v L C.2 (H3.jk x A au _) G (zqz aj aj)).mono ?_;rintro e w4 ⟨vs,qs,rfl,a0,a4,h4,g⟩;have B:=wu b;have d:=(g.block w.heap.size (by simpa using wu b) aj).trans (heap_setCell_same _ _ 2 _ _ (.pointer I) b);obtain⟨F,d1,d2,d3,d4,e0,e1,e2,e3,e4⟩:=kxh d;have M:=a4.mono (lo':=w.heap.size+1) (by have:=B;simp;omega);have H4:=pG h4;obtain⟨sa,sl,sc,rfl⟩:=zq a0;have a2:=kk2 L f 0 C.2;generalize ht:rS f 0 L C.2=T at M H4 a2;have t:=pG (pjd (blk:=rS f 0 L) hi HC ht);go_wp2_with fail
  refine(kjx oC _ R v L T.2 (H4.jk x A au _)).mono ?_;rintro e w5 ⟨rfl,h5,a⟩;have y:=(a.block w.heap.size (by simpa using wu d) aj).trans (heap_setCell_same _ _ 3 _ _ (.slice sa sl sc) d);have q:=(((((J.trans k).trans i).jk (p:=⟨w.heap.size,2,none⟩) au (.pointer I)).trans g).jk (p:=⟨w.heap.size,3,none⟩) au (.slice sa sl sc)).trans a;have s:=(((K.stay (kje (o:=2) (u:=.pointer I))).kept g aj).stay (kje (o:=3) (u:=.slice sa sl sc))).kept a aj;have N:=(M.stay (kje (o:=3) (u:=.slice sa sl sc))).kept a aj;have O:=jg (jq (kje (o:=3) (u:=.slice sa sl sc)) (zu (lo':=w.heap.size+1) (by have:=B;simp;omega) a0)) a aj;have H5:=pG h5;cases S:qo L oC T.2
  ·rw[S]at t;go_wp2
   go_ret
   rw[t];exact⟨_,rfl,⟨_,_,_,_,_,_,_,[],[],rfl,wJ _,y,⟨rfl,rfl,s.mono aj⟩,⟨zu aj O,(λ_ _ h=>gY),N.mono aj⟩,⟨wB _ _ _ _,(λ_ _ h=>gY),rfl⟩,rfl⟩,H5,q⟩
  ·rw[S]at t;go_wp2_with fail
   refine(kq0 oC _ R v L T.2 H5).mono ?_;rintro e w6 ⟨rfl,h6,l⟩;have z:=(l.block w.heap.size (wu y) aj).trans y;have a8:=jh L oC T.2;go_wp2_with fail
   refine(hB _ R v L _ (pG h6) G (zqz aj aj)).mono ?_;rintro e w7 ⟨ve,qe,rfl,Z,a3,h7,m⟩;have D:=wu z;have Q:=(m.block w.heap.size (wu z) aj).trans z;have F:=kxh Q;obtain⟨ea,el,ec,rfl⟩:=zq Z;go_wp2
   go_ret
   rw[t];exact⟨_,rfl,⟨_,_,_,_,_,_,_,_,[],rfl,wJ _,heap_setCell_same _ _ 4 _ _ (.slice ea el ec) Q,⟨rfl,rfl,(((s.kept l aj).kept m aj).stay kje).mono aj⟩,⟨zu aj (jq kje (jg (jg O l aj) m aj)),(λ_ _ h=>gY),(((N.kept l aj).kept m aj).stay kje).mono aj⟩,
    ⟨zu aj (jq kje (zu (lo':=w.heap.size+1) D Z)),(λ_ _ h=>gY),((a3.mono (lo':=w.heap.size+1) D).stay kje).mono aj⟩,rfl⟩,(pG h7).jk x A au _,((q.trans l).trans m).jk au _⟩
end Go.Proofs.YtpmcnonmkghokaaGreatDoor
