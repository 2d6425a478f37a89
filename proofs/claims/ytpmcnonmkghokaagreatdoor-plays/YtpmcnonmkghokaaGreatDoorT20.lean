import Derived.Test.YtpmcnonmkghokaaGreatDoorT19
import Derived.Deep.CutRange
import Derived.Test.YtpmcnonmkghokaaGreatDoorT16
import Derived.Shelf.Strings.OnBuilder
import Derived.Test.YtpmcnonmkghokaaGreatDoorRows
set_option maxRecDepth 100000
set_option maxHeartbeats 8000000
set_option linter.unusedVariables false
set_option linter.unusedSimpArgs false
namespace Go.Proofs.YtpmcnonmkghokaaGreatDoor
open Go.Proofs.Tryz
open Go.RowKit
attribute [local go_sem ↓] Go.wp_at_zero Go.wp_at_succ
variable {j:Int}{y:List Int}{B i k:Nat}{x:Value}
structure WV where
 n:Tok
 pa:Option Addr
 pn:Nat
 pc:Nat
 vg:Option Addr
 ba:Option Addr
 bn:Nat
 bc:Nat
 aa:Option Addr
 an:Nat
 ac:Nat
 sa:Option Addr
 sn:Nat
 sc:Nat
structure Cx (w0:World)(T:Nat)(t:PTree)(l:List PP)(ms:List Int)(v:WV):Prop where
 tree:kqr w0 T t
 ok:TreeOk t
 pars:w0.ownsRow 0 236 6 (.slice v.pa v.pn v.pc) l.length (kjh l)
 kq4:l.length<=801
 args:w0.ownsRow 0 3 1 (.slice v.aa v.an v.ac) ms.length (ms.map (Value.int .i64))
 mlen:ms.length<=801
structure Wk (w0:World)(T R:Nat)(v:WV)(gs:List (Nat×Nat))(w:World)(S:List (List Int))(b:Bool):Prop where
 low:pU w0 w
 big:w0.heap.size<=R
 row:w.heap[R]?=some (.cells #[.pointer (some ⟨T,0,none⟩),.string v.n.kind,.string v.n.text,.int .i64 v.n.at_,.slice v.pa v.pn v.pc,.pointer v.vg,.slice v.ba v.bn v.bc,.slice v.aa v.an v.ac,.slice v.sa v.sn v.sc,.bool b] 251 (0,0))
 st:StA w0.heap.size w (.slice v.sa v.sn v.sc) S gs
variable {w0 w w':World} {T R:Nat} {t:PTree} {l:List PP} {ms:List Int} {v:WV} {gs:List (Nat×Nat)} {S:List (List Int)} {b:Bool}
theorem StA.other {cs:Array Value}{fr:Nat×Nat}(h:StA B w x S gs)(b:w.heap[R]?=some (.cells cs 251 fr))(j:Nat)(u:Value):StA B (w.setCell ⟨R,j,none⟩ u) x S gs:=
 ⟨ownsRow_setCell_other h.out (not_row h.out b ak).symm u,h.len,h.apart,λk c a=>ownsRow_setCell_other (h.rows k c a) (not_row (h.rows k c a) b ak).symm u⟩
theorem Wk.wrong (h:Wk w0 T R v gs w S b):Wk w0 T R v gs (w.setCell ⟨R,9,none⟩ (.bool true)) S true:=
 ⟨h.low.setCell h.big _,h.big,heap_setCell_same _ R 9 _ _ _ h.row,h.st.other h.row 9 _⟩
theorem Wk.below (h:Wk w0 T R v gs w S b)(hb:pU w w'):Wk w0 T R v gs w' S b:=
 ⟨h.low.trans (hb.mono h.low.size),h.big,(hb.block R (wu h.row)).trans h.row,h.st.below hb⟩
theorem StA.get (h:StA B w x S gs)(z:S[k]?=some y)(v:y[i]?=some j):∃f cO g c,x=.slice (some ⟨f,0,none⟩) S.length cO/\f<w.heap.size/\w.cell? ⟨f,k,none⟩=some (.slice (some ⟨g,0,none⟩) y.length c)/\g<w.heap.size/\w.cell? ⟨g,i,none⟩=some (.int .i64 j)/\k<S.length/\i<y.length/\∃m:k<gs.length,g=gs[k].1:=by
 obtain⟨b,rfl⟩:=tZ.mp z;obtain⟨l,rfl⟩:=tZ.mp v;have m:k<gs.length:=by rw[h.len];exact b
 obtain⟨a,c,rfl,A⟩:=ql h.out;obtain⟨f,rfl,_,h1,s⟩:=A k b;obtain⟨a',C,e,p⟩:=ql (h.rows k b m);unfold rwV at e;injection e with q D E;subst q;obtain⟨g,d,_,t,u⟩:=p i l;injection d with d;rw[Addr.mk.injEq]at d;refine⟨f,c,gs[k].1,gs[k].2,rfl,h1,?_,by rw[d.1];exact t,?_,b,l,m,rfl⟩
 ·rw[s k aj,JM];simp[b,m];rfl
 ·rw[d.1,u i aj,QV,tY l];rfl
def Rl7 (R a o:Nat)(v:WV)(s:ByteArray)(w:World):Prop:=w.cell? ⟨R,1,none⟩=some (.string v.n.kind)/\w.cell? ⟨R,2,none⟩=some (.string v.n.text)/\w.cell? ⟨R,3,none⟩=some (.int .i64 v.n.at_)/\w.cell? ⟨R,4,none⟩=some (.slice v.pa v.pn v.pc)/\w.cell? ⟨R,5,none⟩=some (.pointer v.vg)/\w.cell? ⟨R,6,none⟩=some (.slice v.ba v.bn v.bc)/\w.cell? ⟨a,o,none⟩=some (.string s)
theorem Rl7.below {b o:Nat}{s:ByteArray}(h:Rl7 R b o v s w)(a:R<w.heap.size)(hn:b<w.heap.size)(hb:pU w w'):Rl7 R b o v s w':=
 ⟨(hb.cell (p:=⟨R,1,none⟩) a).trans h.1,(hb.cell (p:=⟨R,2,none⟩) a).trans h.2.1,(hb.cell (p:=⟨R,3,none⟩) a).trans h.2.2.1,(hb.cell (p:=⟨R,4,none⟩) a).trans h.2.2.2.1,(hb.cell (p:=⟨R,5,none⟩) a).trans h.2.2.2.2.1,(hb.cell (p:=⟨R,6,none⟩) a).trans h.2.2.2.2.2.1,(hb.cell (p:=⟨b,o,none⟩) hn).trans h.2.2.2.2.2.2⟩
def jzk (t:PTree)(l:List PP)(ms:List Int)(S:List (List Int))(n i:Tok):Option ((Int×Int)×Bool):=
 if i.kind.toList==og then (if 0<=qh (je l) i.text.toList then ms[(qh (je l) i.text.toList).toNat]? else if 0<=qh (zx t) i.text.toList then (S[(qh (zx t) i.text.toList).toNat]?).bind λy=>y[0]? else none).map λj=>((qh (zx t) n.text.toList,j),decide (j<0))
 else some ((qh (zx t) n.text.toList,0),false)
theorem zv6 (m:Cx w0 T t l ms v)(h:Wk w0 T R v gs w S b)(x:ELab)(i:Nat)(va vb:Value)(hN:w0.heap[i]?=some (.cells (kku x va vb) 242 (0,0)))(r:(Int×Int)×Bool)(k:jzk t l ms S x.name x.index=some r):
  qJ 182 #[.pointer (some ⟨R,0,none⟩),.pointer (some ⟨i,0,none⟩)] w λe w'=>e=.returned (.tuple #[.int .i64 r.1.1,.int .i64 r.1.2])/\Wk w0 T R v gs w' S (b||r.2):=by
 have c:=h.low;have D:=(c.block i (wu hN)).trans hN;unfold kku at D;obtain⟨⟨n0,n1,n2,n3,n4,n5,n6,n7,n8,n9⟩,_⟩:=kjj D;obtain⟨⟨c0,c1,c2,c3,c4,c5,c6,c7,c8,c9⟩,⟨_,_,_,_,_,_,_,_,_,f9⟩⟩:=kjj h.row;have Y:=pG h;have X:=pG (m.tree.below c);have HP:=pG (qj m.pars c);have HA:=pG (qj m.args c);have N:=wu h.row;have E:i<w.heap.size:=Qy (wu hN) c.size;have G:=pG (show Rl7 R i 7 v x.index.text w from⟨c1,c2,c3,c4,c5,c6,n7⟩);have HV:=pG (λ(s:ByteArray) (wx:World) (q:pU w wx)=>ky6 wx T t s ((ku X).below q) m.ok.vars);clear D hN h c;unfold jzk at k;have B:=pG (λ(wx:World) (q:pU w wx)=>ky6 wx T t x.name.text ((ku X).below q) m.ok.vars);generalize qh (zx t) x.name.text.toList=p at k B;cases hk:(x.index.kind.toList==og)
 ·rw[hk,if_neg au]at k;injection k with k;subst k;go_enter func182,ntmps182
  go_upto_region 1 with fail
  go_region_held3 (λw'=>w'.cell? ⟨R,0,none⟩=some (.pointer (some ⟨T,0,none⟩))/\w'.cell? ⟨i,4,none⟩=some (.string x.name.text)) (exact⟨c0,n4⟩)
   (first|(go_at_call 119;refine((ku B) _ jV).mono ?_;rintro e J ⟨rfl,rfl⟩;dsimp only))
  go_wp2
  go_ret2
  exact⟨rfl,by rw[Qk];exact(ku Y).below (Below.refl _ _).drew⟩
 ·rw[hk,if_pos rfl]at k;obtain⟨j,a,rfl⟩:=rJ.mp k;by_cases H:0<=qh (je l) x.index.text.toList
  ·rw[if_pos H]at a;obtain⟨a1,a2,e1,P⟩:=ql (ku HA);obtain⟨z,U⟩:=Qq H;rw[U,sJ]at a;have a7:z<ms.length:=by
    rcases Q8 z ms.length with h|h
    ·exact h
    ·rw[Zb h]at a;cases a
   obtain⟨ga,rfl,aB,a6,O⟩:=P z a7;injection e1 with L M aA;have a0:w.cell? ⟨ga,z,none⟩=some (.int .i64 j):=by rw[O z aj,QV,a];rfl
   rw[L,M]at c7;have A:=pG (λ(wx:World) (q:pU w wx)=>qzq wx 0 v.n l v.pa v.pn v.pc v.vg v.ba v.bn v.bc x.index.text (qj (ku HP) q) m.kq4);rw[U]at A;have aD:=m.mlen;clear P O H a k HA;go_enter func182,ntmps182
   go_upto_region 1 with fail
   go_region_held3 (λw'=>w'.cell? ⟨R,0,none⟩=some (.pointer (some ⟨T,0,none⟩))/\w'.cell? ⟨i,4,none⟩=some (.string x.name.text)) (exact⟨c0,n4⟩)
    (first|(go_at_call 119;refine((ku B) _ jV).mono ?_;rintro e J ⟨rfl,rfl⟩;dsimp only))
   go_upto_region 5 with fail
   go_region_held3 (λw'=>w'.cell? ⟨R,1,none⟩=some (.string v.n.kind)/\w'.cell? ⟨R,2,none⟩=some (.string v.n.text)/\w'.cell? ⟨R,3,none⟩=some (.int .i64 v.n.at_)/\w'.cell? ⟨R,4,none⟩=some (.slice v.pa v.pn v.pc)/\w'.cell? ⟨R,5,none⟩=some (.pointer v.vg)/\w'.cell? ⟨R,6,none⟩=some (.slice v.ba v.bn v.bc)/\w'.cell? ⟨i,7,none⟩=some (.string x.index.text)) (first|exact ku G|exact ku C)
    (first|(go_at_call 179;refine((ku A) _ (Below.refl _ _).drew.drew).mono ?_;rintro e J ⟨rfl,u⟩;have d:=pG ((Below.refl w.heap.size w).drew.drew.trans u);have C:=pG ((ku G).below N E (ku d));clear u;dsimp only))
   have f:=pG ((ku Y).below (ku d));obtain⟨⟨d0,_,_,_,_,_,_,d7,Z,d9⟩,⟨_,_,_,_,_,_,_,_,_,g9⟩⟩:=kjj (ku f).row;have a9:=((ku d).cell (p:=⟨ga,z,none⟩) a6).trans a0;rw[L,M]at d7;by_cases Q:j<0
   ·go_wp2
    go_ret2
    exact⟨rfl,by rw[tV Q,Ju];exact(ku f).wrong⟩
   ·go_wp2
    go_ret2
    exact⟨rfl,by rw[show decide (j<0)=false by simp;omega,Qk];exact ku f⟩
  ·rw[if_neg H]at a;by_cases I:0<=qh (zx t) x.index.text.toList
   ·rw[if_pos I]at a;obtain⟨vk,F⟩:=Qq I;rw[F,sJ]at a;obtain⟨y,V,W⟩:=wQ.mp a;have A:=pG (λ(wx:World) (q:pU w wx)=>qzq wx 0 v.n l v.pa v.pn v.pc v.vg v.ba v.bn v.bc x.index.text (qj (ku HP) q) m.kq4);generalize qh (je l) x.index.text.toList=z at *;have K:=pG (λ(wx:World) (q:pU w wx)=>ky6 wx T t x.index.text ((ku X).below q) m.ok.vars);rw[F]at K;have a4:=pG V;have a5:=pG W;clear a k I F V W;go_enter func182,ntmps182
    go_upto_region 1 with fail
    go_region_held3 (λw'=>w'.cell? ⟨R,0,none⟩=some (.pointer (some ⟨T,0,none⟩))/\w'.cell? ⟨i,4,none⟩=some (.string x.name.text)) (exact⟨c0,n4⟩)
     (first|(go_at_call 119;refine((ku B) _ jV).mono ?_;rintro e J ⟨rfl,rfl⟩;dsimp only))
    go_upto_region 5 with fail
    go_region_held3 (λw'=>w'.cell? ⟨R,1,none⟩=some (.string v.n.kind)/\w'.cell? ⟨R,2,none⟩=some (.string v.n.text)/\w'.cell? ⟨R,3,none⟩=some (.int .i64 v.n.at_)/\w'.cell? ⟨R,4,none⟩=some (.slice v.pa v.pn v.pc)/\w'.cell? ⟨R,5,none⟩=some (.pointer v.vg)/\w'.cell? ⟨R,6,none⟩=some (.slice v.ba v.bn v.bc)/\w'.cell? ⟨i,7,none⟩=some (.string x.index.text)) (first|exact ku G|exact ku C)
     (first|(go_at_call 179;refine((ku A) _ (Below.refl _ _).drew.drew).mono ?_;rintro e J ⟨rfl,u⟩;have d:=pG ((Below.refl w.heap.size w).drew.drew.trans u);have C:=pG ((ku G).below N E (ku d));clear u;dsimp only))
    have f:=pG ((ku Y).below (ku d));obtain⟨gO,cO,g,cg,eS,aC,k1,hg,k2,aE,aF,_⟩:=(ku f).st.get (ku a4) (ku a5);obtain⟨⟨d0,_,_,_,_,_,_,d7,Z,d9⟩,⟨_,_,_,_,_,_,_,_,_,g9⟩⟩:=kjj (ku f).row;rw[eS]at Z;have a8:=((ku d).cell (p:=⟨i,7,none⟩) E).trans n7;go_upto_region 8 with fail
    go_region_held3 (λw'=>w'.cell? ⟨R,8,none⟩=some (.slice (some ⟨gO,0,none⟩) S.length cO)/\w'.cell? ⟨R,0,none⟩=some (.pointer (some ⟨T,0,none⟩))/\w'.cell? ⟨i,7,none⟩=some (.string x.index.text)/\w'.cell? ⟨gO,vk,none⟩=some (.slice (some ⟨g,0,none⟩) y.length cg)/\w'.cell? ⟨g,0,none⟩=some (.int .i64 j)) (exact⟨Z,d0,a8,k1,k2⟩)
     (first|(go_at_call 119;refine((ku K) _ (ku d).drew).mono ?_;rintro e wy ⟨rfl,rfl⟩;dsimp only))
    have a3:=pG ((ku f).below (Below.refl _ _).drew);by_cases Q:j<0
    ·go_wp2
     go_ret2
     exact⟨rfl,(ku f).wrong.below (Below.refl _ _).drew⟩
    ·go_wp2
     go_ret2
     exact⟨rfl,by rw[show decide (j<0)=false by simp;omega,Qk];exact ku a3⟩
   ·rw[if_neg I]at a;cases a
end Go.Proofs.YtpmcnonmkghokaaGreatDoor
namespace Go.Proofs.YtpmcnonmkghokaaGreatDoor
open Go.Proofs.Tryz
open Go.RowKit
attribute [local go_sem ↓] Go.wp_at_zero Go.wp_at_succ
variable {j:Int}{y:List Int}{B i k:Nat}{x:Value}
variable {w0 w w':World} {T R:Nat} {t:PTree} {l:List PP} {ms:List Int} {v:WV} {gs:List (Nat×Nat)} {S:List (List Int)} {b:Bool}
def jxp (t:PTree)(l:List PP)(ms:List Int)(S:List (List Int))(n i:Tok):Option (Int×Bool):=
 if 0<=qh (je l) n.text.toList then (ms[(qh (je l) n.text.toList).toNat]?).map λj=>(j,false)
 else if 0<=(kqa t.kinds n.text.toList).2 then some ((kqa t.kinds n.text.toList).2,false)
 else (jzk t l ms S n i).bind λr=>if r.1.2<0 then some (0,r.2) else if 0<=r.1.1 then ((S[r.1.1.toNat]?).bind λy=>y[r.1.2.toNat]?).map λj=>(j,r.2) else none
theorem Cx.arg (f:Cx w0 T t l ms v)(hb:pU w0 w)   (b:ms[k]?=some j):∃g,v.aa=some ⟨g,0,none⟩/\v.an=ms.length/\g<w.heap.size/\w.cell? ⟨g,k,none⟩=some (.int .i64 j)/\k<ms.length:=by
 obtain⟨d,rfl⟩:=tZ.mp b;obtain⟨a,c,e,p⟩:=ql (qj f.args hb);injection e with h i q;obtain⟨g,rfl,_,h1,m⟩:=p k d;exact⟨g,h,i,h1,by rw[m k aj,QV,b];rfl,d⟩
theorem jwo (i:Cx w0 T t l ms v)(h:Wk w0 T R v gs w S b)(x:ELab)(f:Nat)(va vb:Value)(hN:w0.heap[f]?=some (.cells (kku x va vb) 242 (0,0)))(r:Int×Bool)(a:jxp t l ms S x.name x.index=some r):
  qJ 180 #[.pointer (some ⟨R,0,none⟩),.pointer (some ⟨f,0,none⟩)] w λe w'=>e=.returned (.int .i64 r.1)/\Wk w0 T R v gs w' S (b||r.2):=by
 have c:=h.low;have z:=(c.block f (wu hN)).trans hN;unfold kku at z;obtain⟨⟨n0,n1,n2,n3,Q,n5,n6,n7,n8,n9⟩,_⟩:=kjj z;obtain⟨⟨c0,c1,c2,c3,c4,c5,c6,c7,c8,c9⟩,_⟩:=kjj h.row;have Z:=pG h;have Y:=pG (i.tree.below c);have X:=pG (qj i.pars c);have O:=wu h.row;have J:f<w.heap.size:=Qy (wu hN) c.size;have M:=pG (show Rl7 R f 4 v x.name.text w from⟨c1,c2,c3,c4,c5,c6,Q⟩);have G:=pG (λ(wx:World) (L:pU w wx)=>qzq wx 0 v.n l v.pa v.pn v.pc v.vg v.ba v.bn v.bc x.name.text (qj (ku X) L) i.kq4);have K:=pG (λ(wx:World) (L:pU w wx)=>qwb wx T t x.name.text ((ku Y).below L) i.ok.kinds i.ok.members);have N:=pG (λ(q:(Int×Int)×Bool) (A:jzk t l ms S x.name x.index=some q) (wx:World) (d:Wk w0 T R v gs wx S b)=>zv6 i d x f va vb hN q A);have a1:=i.mlen;clear z hN h c;unfold jxp at a;generalize kqa t.kinds x.name.text.toList=mm at a K;obtain⟨m1,m2⟩:=mm;generalize qh (je l) x.name.text.toList=pk at a G;dsimp only at a K;go_enter func180,ntmps180
 go_upto_region 1 with fail
 go_region_held3 (λw'=>w'.cell? ⟨R,1,none⟩=some (.string v.n.kind)/\w'.cell? ⟨R,2,none⟩=some (.string v.n.text)/\w'.cell? ⟨R,3,none⟩=some (.int .i64 v.n.at_)/\w'.cell? ⟨R,4,none⟩=some (.slice v.pa v.pn v.pc)/\w'.cell? ⟨R,5,none⟩=some (.pointer v.vg)/\w'.cell? ⟨R,6,none⟩=some (.slice v.ba v.bn v.bc)/\w'.cell? ⟨f,4,none⟩=some (.string x.name.text)) (first|exact ku M|exact ku F)
  (first|(go_at_call 179;refine((ku G) _ (Below.refl _ _).drew).mono ?_;rintro e wz ⟨rfl,I⟩;have k:=pG ((Below.refl w.heap.size w).drew.trans I);have F:=pG ((ku M).below O J (ku k));clear I;dsimp only))
 have u:=pG ((ku Z).below (ku k));obtain⟨⟨d0,_,_,_,_,_,_,d7,d8,d9⟩,_⟩:=kjj (ku u).row;have U:=((ku k).cell (p:=⟨f,4,none⟩) J).trans Q;clear F;go_upto_region 2 with fail
 go_region_held3 (λw'=>w'.cell? ⟨R,0,none⟩=some (.pointer (some ⟨T,0,none⟩))/\w'.cell? ⟨f,4,none⟩=some (.string x.name.text)) (exact⟨d0,U⟩)
  (first|(go_at_call 178;refine((ku K) _ (ku k).drew).mono ?_;rintro e wy ⟨rfl,rfl⟩;dsimp only))
 have s:=pG ((ku u).below (Below.refl _ _).drew);by_cases D:0<=pk
 ·rw[if_pos D]at a;obtain⟨j,m,rfl⟩:=rJ.mp a;obtain⟨q,rfl⟩:=Qq D;rw[sJ]at m;obtain⟨g,e1,e2,hg,hc,A⟩:=i.arg (ku u).low m;rw[e1,e2]at d7;clear a m D;go_wp2
  go_ret
  exact⟨rfl,ku s⟩
 ·rw[if_neg D]at a;by_cases P:0<=m2
  ·rw[if_pos P]at a;injection a with a;subst a;go_wp2
   go_ret
   exact⟨rfl,ku s⟩
  ·rw[if_neg P]at a;obtain⟨⟨⟨qv,V⟩,qb⟩,A,a⟩:=wQ.mp a;dsimp only at a;have W:=pG ((ku N) _ A _ (ku s));clear A;go_wp2_with fail
   refine(ku W).mono ?_;rintro e wx ⟨rfl,d⟩;have H:=pG d;dsimp only;by_cases hi:V<0
   ·rw[if_pos hi]at a;injection a with a;subst a;clear d;go_wp2
    go_ret
    exact⟨rfl,ku H⟩
   ·rw[if_neg hi]at a;by_cases E:0<=qv
    ·rw[if_pos E]at a;obtain⟨j,m,rfl⟩:=rJ.mp a;obtain⟨y,B,C⟩:=wQ.mp m;obtain⟨kv,rfl⟩:=Qq E;obtain⟨ki,rfl⟩:=Qq (show 0<=V by omega);rw[sJ]at B C;obtain⟨gO,cO,g,cg,eS,a0,k1,hg,k2,a2,a3,_⟩:=d.st.get B C;obtain⟨⟨_,_,_,_,_,_,_,_,b8,_⟩,_⟩:=kjj d.row;rw[eS]at b8;clear d a m B C E hi;go_wp2
     go_ret
     exact⟨rfl,ku H⟩
    ·rw[if_neg E]at a;cases a
end Go.Proofs.YtpmcnonmkghokaaGreatDoor
namespace Go.Proofs.YtpmcnonmkghokaaGreatDoor
open Go.Proofs.Tryz
open Go.RowKit
attribute [local go_sem ↓] Go.wp_at_zero Go.wp_at_succ
variable {j:Int}{y:List Int}{B i k:Nat}{x:Value}
theorem kwo (c:Bool)(w:World):qJ 181 #[.bool c] w λe w'=>e=.returned (.int .i64 (kxf c))/\w'=w:=by
 cases c;all_goals
  go_enter func181,ntmps181
  go_wp2
  go_ret
  exact⟨rfl,rfl⟩
def opI (o:List UInt8)(a b:Int):Int:=
 if o==[33] then kxf (a==0) else if o==[38] then kxf ((a==1)&&(b==1)) else if o==[124] then kxf ((a==1)||(b==1)) else if o==[43] then a+b else if o==[45] then a-b else if o==[60] then kxf (decide (a<b)) else if o==[61,61] then kxf (a==b) else kxf (!(a==b))
def opR (t:PTree)(l:List PP)(ms:List Int)(S:List (List Int))(x:ELab)(p q:Int×Bool):Option (Int×Bool):=
 if x.op.toList==oG then some (1,p.2||q.2) else if x.op.toList==oP then some (0,p.2||q.2) else if x.op.toList==oJ then some (-1,p.2||q.2) else if x.op.toList==oQ then some (x.n,p.2||q.2)
 else if x.op.toList==oK then (jxp t l ms S x.name x.index).map λr=>(r.1,(p.2||q.2)||r.2)
 else (small p.1).bind λ_=>(small q.1).map λ_=>(opI x.op.toList p.1 q.1,p.2||q.2)
def qwu (t:PTree)(l:List PP)(ms:List Int)(S:List (List Int)):PX->Option (Int×Bool)
 |.nil=>some (0,false)
 |.node _ _ x a c=>(qwu t l ms S a).bind λp=>(qwu t l ms S c).bind λq=>opR t l ms S x p q
def zqk (x:PX):Prop:=∀{w0 w:World} {T R:Nat} {t:PTree} {l:List PP} {ms:List Int} {v:WV} {gs:List (Nat×Nat)} {S:List (List Int)} {b:Bool} (lo k:Nat),Cx w0 T t l ms v->Wk w0 T R v gs w S b->yj lo w0 x (.pointer (some ⟨k,0,none⟩))->∀r:Int×Bool,qwu t l ms S x=some r ->
  qJ 124 #[.pointer (some ⟨R,0,none⟩),.pointer (some ⟨k,0,none⟩)] w λe w'=>e=.returned (.int .i64 r.1)/\Wk w0 T R v gs w' S (b||r.2)
theorem jzi {x y:Int}(h:small x=some y):-1000000000<=x/\x<=1000000000:=by
 unfold small at h;split at h
 ·rename_i a;simp at a;exact a
 ·cases h
theorem jzz (i j:Nat)(x:ELab)(a c:PX)(a3:zqk a)(a4:zqk c):zqk (.node i j x a c):=by
 intro w0 w T R t l ms v gs S b lo k cx h hN r d;obtain⟨k',va,vb,e,_,I,ha,hc⟩:=hN;injection e with e;injection e with e;rw[Addr.mk.injEq]at e;obtain⟨rfl,_⟩:=e;rw[qwu]at d;obtain⟨⟨g,p2⟩,D,d⟩:=wQ.mp d;obtain⟨⟨m,q2⟩,hq,d⟩:=wQ.mp d;have HA:=pG (λ(wx:World) (H:Bool) (N:Wk w0 T R v gs wx S H) (p:Nat) (hn:yj lo w0 a (.pointer (some ⟨p,0,none⟩)))=>a3 lo p cx N hn _ D);have HC:=pG (λ(wx:World) (H:Bool) (N:Wk w0 T R v gs wx S H) (p:Nat) (hn:yj lo w0 c (.pointer (some ⟨p,0,none⟩)))=>a4 lo p cx N hn _ hq);have a0:=pG (λ(wx:World) (H:Bool) (N:Wk w0 T R v gs wx S H) (r:Int×Bool) (d:jxp t l ms S x.name x.index=some r)=>jwo cx N x k _ _ I r d);obtain⟨pa,rfl⟩:=ha.ptr;obtain⟨pc,rfl⟩:=hc.ptr;have Q:=pG I;have U:=pG ha;have V:=pG hc;have HP:=pG D;have HQ:=pG hq;have J:=(h.low.block k (wu I)).trans I;have HW:=pG h;unfold kku at J;obtain⟨⟨n0,n1,W,X,Y,Z,n6,n7,n8,n9⟩,_⟩:=kjj J;clear J I D hq h ha hc a3 a4;go_enter func124,ntmps124
 go_upto_if 11 with fail
 go_cut [5] from 12 to 17 (λy wx=>y=.int .i64 g/\Wk w0 T R v gs wx S (b||p2))
 case first=>
  cases a with
  |nil=>
   have A:pa=none:=by have:Value.pointer pa=.pointer none:=ku U;injection this
   have B:(0,false)=(g,p2):=by have:=ku HP;rw[qwu]at this;injection this
   injection B with B e3;subst A;subst B;subst e3;go_wp2_with fail
   go_meet
   exact⟨rfl,by rw[Qk];exact ku HW⟩
  |node i' j' x' a' c'=>
   obtain⟨p,A⟩:∃p,pa=some ⟨p,0,none⟩:=by obtain⟨p,_,_,e,_⟩:=ku U;injection e with e;exact⟨p,e⟩
   subst A;have u:=pG ((ku HA) w b (ku HW) p (ku U));go_wp2_with fail
   refine(ku u).mono ?_;rintro e w1 ⟨rfl,h1⟩;have F:=pG h1;clear h1;go_wp2_with fail
   go_meet
   exact⟨rfl,ku F⟩
 case rest=>
 obtain⟨rfl,K⟩:=hcut;obtain⟨wA,M⟩:∃wA,wA=wc:=⟨_,rfl⟩;subst M;have s:=(K.low.block k (wu (ku Q))).trans (ku Q);unfold kku at s;have G:=pG K;clear n0 n1 W X Y Z n6 n7 n8 n9 K;obtain⟨⟨n0,n1,W,X,Y,Z,n6,n7,n8,n9⟩,_⟩:=kjj s;clear s;go_upto_if 22 with fail
 go_cut [6] from 23 to 28 (λy wx=>y=.int .i64 m/\Wk w0 T R v gs wx S ((b||p2)||q2))
 case first=>
  cases c with
  |nil=>
   have A:pc=none:=by have:Value.pointer pc=.pointer none:=ku V;injection this
   have B:(0,false)=(m,q2):=by have:=ku HQ;rw[qwu]at this;injection this
   injection B with B e3;subst A;subst B;subst e3;go_wp2_with fail
   go_meet
   exact⟨rfl,by rw[Qk];exact ku G⟩
  |node i' j' x' a' c'=>
   obtain⟨p,A⟩:∃p,pc=some ⟨p,0,none⟩:=by obtain⟨p,_,_,e,_⟩:=ku V;injection e with e;exact⟨p,e⟩
   subst A;have u:=pG ((ku HC) wA _ (ku G) p (ku V));go_wp2_with fail
   refine(ku u).mono ?_;rintro e w1 ⟨rfl,h1⟩;have F:=pG h1;clear h1;go_wp2_with fail
   go_meet
   exact⟨rfl,ku F⟩
 case rest=>
 obtain⟨rfl,L⟩:=hcut;obtain⟨wC,M⟩:∃wC,wC=wc:=⟨_,rfl⟩;subst M;have s:=(L.low.block k (wu (ku Q))).trans (ku Q);unfold kku at s;have f:=pG (show Wk w0 T R v gs wC S (b||(p2||q2)) by rw[<-Je];exact L);clear n0 n1 W X Y Z n6 n7 n8 n9 L;obtain⟨⟨n0,n1,W,X,Y,Z,n6,n7,n8,n9⟩,_⟩:=kjj s;clear s HA HC U V HP HQ G HW;unfold opR at d;dsimp only at d;cases o0:(x.op.toList==oG)
 case true=>
  rw[o0,if_pos rfl]at d;injection d with d;subst d;go_wp2
  go_ret
  exact⟨rfl,ku f⟩
 case false=>
 rw[o0,if_neg au]at d;cases o1:(x.op.toList==oP)
 case true=>
  rw[o1,if_pos rfl]at d;injection d with d;subst d;go_wp2
  go_ret
  exact⟨rfl,ku f⟩
 case false=>
 rw[o1,if_neg au]at d;cases o2:(x.op.toList==oJ)
 case true=>
  rw[o2,if_pos rfl]at d;injection d with d;subst d;go_wp2
  go_ret
  exact⟨rfl,ku f⟩
 case false=>
 rw[o2,if_neg au]at d;cases o3:(x.op.toList==oQ)
 case true=>
  rw[o3,if_pos rfl]at d;injection d with d;subst d;go_wp2
  go_ret
  exact⟨rfl,ku f⟩
 case false=>
 rw[o3,if_neg au]at d;cases o4:(x.op.toList==oK)
 case true=>
  rw[o4,if_pos rfl]at d;obtain⟨⟨r1,r2⟩,D,rfl⟩:=rJ.mp d;have u:=pG ((ku a0) wC _ (ku f) _ D);clear D d;go_wp2_with fail
  refine(ku u).mono ?_;rintro e w1 ⟨rfl,h1⟩;have F:=pG h1;clear h1;go_wp2
  go_ret
  exact⟨rfl,by rw[<-Je];exact ku F⟩
 case false=>
 rw[o4,if_neg au]at d;obtain⟨_,s1,d⟩:=wQ.mp d;obtain⟨_,s2,d⟩:=rJ.mp d;have b1:=jzi s1;have b2:=jzi s2;subst d;clear s1 s2 a0;cases z:(x.op.toList==[33])
 case true=>
  have q:=pG (show opI x.op.toList g m=kxf (g==0) by simp[opI,z]);go_wp2_with (go_at_call 181;refine(kwo _ _).mono ?_;rintro e w' ⟨rfl,rfl⟩)
  go_wp2
  all_goals
   go_ret
   exact⟨kqv (by rw[ku q];try simp),ku f⟩
 case false=>
 cases C:(x.op.toList==[38])
 case true=>
  have q:=pG (show opI x.op.toList g m=kxf ((g==1)&&(m==1)) by simp[opI,z,C]);cases a1:(g==1)<;>cases a2:(m==1);all_goals
   go_wp2_with (go_at_call 181;refine(kwo _ _).mono ?_;rintro e w' ⟨rfl,rfl⟩)
   go_wp2
   all_goals
    go_ret
    exact⟨kqv (by rw[ku q,a1,a2];rfl),ku f⟩
 case false=>
 cases E:(x.op.toList==[124])
 case true=>
  have q:=pG (show opI x.op.toList g m=kxf ((g==1)||(m==1)) by simp[opI,z,C,E]);cases a1:(g==1)<;>cases a2:(m==1);all_goals
   go_wp2_with (go_at_call 181;refine(kwo _ _).mono ?_;rintro e w' ⟨rfl,rfl⟩)
   go_wp2
   all_goals
    go_ret
    exact⟨kqv (by rw[ku q,a1,a2];rfl),ku f⟩
 case false=>
 cases P:(x.op.toList==[43])
 case true=>
  have q:=pG (show opI x.op.toList g m=g+m by simp[opI,z,C,E,P]);go_wp2
  go_ret
  exact⟨kqv (by rw[ku q]),ku f⟩
 case false=>
 cases o9:(x.op.toList==[45])
 case true=>
  have q:=pG (show opI x.op.toList g m=g-m by simp[opI,z,C,E,P,o9]);go_wp2
  go_ret
  exact⟨kqv (by rw[ku q]),ku f⟩
 case false=>
 cases O:(x.op.toList==[60])
 case true=>
  have q:=pG (show opI x.op.toList g m=kxf (decide (g<m)) by simp[opI,z,C,E,P,o9,O]);go_wp2_with (go_at_call 181;refine(kwo _ _).mono ?_;rintro e w' ⟨rfl,rfl⟩)
  go_wp2
  all_goals
   go_ret
   exact⟨kqv (by rw[ku q];try simp),ku f⟩
 case false=>
 cases a5:(x.op.toList==[61,61])
 case true=>
  have q:=pG (show opI x.op.toList g m=kxf (g==m) by simp[opI,z,C,E,P,o9,O,a5]);go_wp2_with (go_at_call 181;refine(kwo _ _).mono ?_;rintro e w' ⟨rfl,rfl⟩)
  go_wp2
  all_goals
   go_ret
   exact⟨kqv (by rw[ku q];try simp),ku f⟩
 case false=>
 have q:=pG (show opI x.op.toList g m=kxf (!(g==m)) by simp[opI,z,C,E,P,o9,O,a5]);go_wp2_with (go_at_call 181;refine(kwo _ _).mono ?_;rintro e w' ⟨rfl,rfl⟩)
 go_wp2
 all_goals
  go_ret
  exact⟨kqv (by rw[ku q];rfl),ku f⟩
theorem kwu:∀x:PX,zqk x
 |.nil=>λlo k _ _ hN=>by
  have:Value.pointer (some ⟨k,0,none⟩)=.pointer none:=hN;injection this with this;cases this
 |.node i j x a c=>jzz i j x a c (kwu a) (kwu c)
end Go.Proofs.YtpmcnonmkghokaaGreatDoor
namespace Go.Proofs.YtpmcnonmkghokaaGreatDoor
open Go.Proofs.Tryz
open Go.RowKit
attribute [local go_sem ↓] Go.wp_at_zero Go.wp_at_succ
variable {j:Int}{y:List Int}{B i k:Nat}{x:Value}
variable {w0 w w':World} {T R:Nat} {t:PTree} {l:List PP} {ms:List Int} {v:WV} {gs:List (Nat×Nat)} {S:List (List Int)} {b:Bool}
theorem zkh {lo e g n c:Nat}{xs:List Value}(h:w.ownsRow lo e 1 (.slice (some ⟨g,0,none⟩) n c) n xs):∃cs,w.heap[g]?=some (.cells cs e (0,0)):=by
 rcases h.2 with⟨a,_⟩|⟨f,cap,d,a,_,b,_⟩
 ·cases a
 ·injection a with a;injection a with a;rw[Addr.mk.injEq]at a;rw[a.1];exact⟨_,b⟩
theorem StA.set (h:StA B w x S gs)(s:S[k]?=some y)(a:k<gs.length)(n:Int):StA B (w.setCell ⟨gs[k].1,i,none⟩ (.int .i64 n)) x (S.set k (y.set i n)) gs:=by
 obtain⟨c,rfl⟩:=tZ.mp s;obtain⟨cs,m⟩:=zkh (h.rows k c a);refine⟨?_,by rw[Jv];exact h.len,h.apart,?_⟩
 ·have e:List.zipWith rwV gs (S.set k (S[k].set i n))=List.zipWith rwV gs S:=by
   apply List.ext_getElem?;intro j;rw[JM,JM,List.getElem?_set];by_cases e:k=j
   ·subst e;simp[c,a,rwV]
   ·simp[e]
  rw[e,Jv];exact ownsRow_setCell_other h.out (not_row h.out m ak).symm _
 ·intro j p b;have g:j<S.length:=by simpa using p
  by_cases e:k=j
  ·subst e;have:=zyp (h.rows k c a) i (.int .i64 n);have f:(S.set k (S[k].set i n))[k]=S[k].set i n:=au;rw[f];unfold rwV;rw[Jv,ZP];exact this
  ·have f:(S.set k (S[k].set i n))[j]=S[j]:=by rw[List.getElem_set_ne e]
   rw[f];refine ownsRow_setCell_other (h.rows j g b) ?_ _;unfold rwV;simp only[Value.ownBlock];intro d;injection d with d;have l:=Jj.mp h.apart;rcases Q8 j k with q|q
   ·exact l j k lY lq q (by simp[d])
   ·exact l k j lq lY aj (by simp[d])
theorem StA.frz (h:StA B w x S gs)(c:k<S.length)(a:k<gs.length):w.frozen? ⟨gs[k].1,i,none⟩=false:=by
 obtain⟨cs,b⟩:=zkh (h.rows k c a);exact Zn w _ i _ _ b
theorem StA.ge (h:StA B w x S gs)(b:k<S.length)(a:k<gs.length)(hn:0<S[k].length):B<=gs[k].1:=by
 obtain⟨g,c,e,h1,_⟩:=qyn (h.rows k b a) hn;injection e with e;injection e with e;rw[Addr.mk.injEq]at e;rw[e.1];exact h1
theorem Wk.set (h:Wk w0 T R v gs w S b)(f:S[k]?=some y)(hi:i<y.length)(d:k<gs.length)(n:Int):Wk w0 T R v gs (w.setCell ⟨gs[k].1,i,none⟩ (.int .i64 n)) (S.set k (y.set i n)) b:=by
 obtain⟨c,rfl⟩:=tZ.mp f;obtain⟨cs,g⟩:=zkh (h.st.rows k c d);refine⟨h.low.setCell (h.st.ge c d aj) _,h.big,?_,h.st.set f d n⟩;rw[wP _ _ _ _ ?_]
 ·exact h.row
 ·show R≠gs[k].1;intro e;have a:=h.row;rw[e,g]at a;injection a with a;injection a with _ a;exact absurd a ak
def kxo (u:PVar)(n:Int):Bool:=(u.top.kind.toList==oQ)&&(decide (n<0)||decide (kq8 u.top.text<n))
def jyu (t:PTree)(l:List PP)(ms:List Int)(S:List (List Int))(a:SLab):Option (List (List Int)×Bool):=
 match a.place with
 |.nil=>none
 |.node _ _ px _ _=>if isNil a.value||!(isNil a.cond) then none else (qwu t l ms S a.value).bind λp=>(jzk t l ms S px.name px.index).bind λq=>if q.1.1<0 then none else (t.vars[q.1.1.toNat]?).bind λu=>
  if (p.2||q.2)||kxo u p.1 then some (S,true) else (S[q.1.1.toNat]?).bind λy=>if decide (q.1.2<0)||decide ((y.length:Int)<=q.1.2) then none else some (S.set q.1.1.toNat (y.set q.1.2.toNat p.1),false)
def doR (t:PTree)(l:List PP)(ms:List Int):PB->List (List Int)->Option (List (List Int)×Bool)
 |.nil,S=>some (S,false)
 |.node _ _ a .nil n,S=>(jyu t l ms S a).bind λp=>if p.2 then some p else doR t l ms n p.1
 |.node _ _ a (.node _ _ _ th el) n,S=>if isNil a.cond then none else (qwu t l ms S a.cond).bind λc=>if c.2 then some (S,true) else (if c.1==1 then doR t l ms th S else doR t l ms el S).bind λp=>if p.2 then some p else doR t l ms n p.1
end Go.Proofs.YtpmcnonmkghokaaGreatDoor
namespace Go.Proofs.YtpmcnonmkghokaaGreatDoor
open Go.Proofs.Tryz
open Go.RowKit
attribute [local go_sem ↓] Go.wp_at_zero Go.wp_at_succ
variable {j:Int}{y:List Int}{B i k:Nat}{x:Value}
def jyd (t:PTree):Prop:=∀u∈t.vars,(u.top.kind.toList==oQ)=true->qyj u.top
def zxv (a:PB):Prop:=∀{w0 w:World} {T R:Nat} {t:PTree} {l:List PP} {ms:List Int} {v:WV} {gs:List (Nat×Nat)} {S:List (List Int)} (lo:Nat) (vl:Value) (ps:List Value),Cx w0 T t l ms v->jyd t->Wk w0 T R v gs w S false ->
 w0.ownsRow lo 245 1 vl ps.length ps->jm lo none w0 a ps->SOk a->ps.length<=1000->∀r:List (List Int)×Bool,doR t l ms a S=some r ->
 qJ 125 #[.pointer (some ⟨R,0,none⟩),vl] w λe w'=>e=.returned (.tuple #[])/\Wk w0 T R v gs w' r.1 r.2
def qy8:PB->Prop
 |.nil=>True
 |.node _ _ _ .nil n=>qy8 n
 |.node _ _ _ (.node _ _ _ t e) n=>zxv t/\zxv e/\qy8 n
def pqs (w0:World)(T R:Nat)(t:PTree)(l:List PP)(ms:List Int)(v:WV)(gs:List (Nat×Nat))(lo:Nat)(ps:List Value)(r:List (List Int)×Bool)(i:Value)(wr:World):Prop:=
 ∃(k:Nat) (rest:PB) (S:List (List Int)) (b:Bool),k<=ps.length/\i=.int .i64 k/\jm lo none w0 rest (ps.drop k)/\SOk rest/\qy8 rest/\Wk w0 T R v gs wr S b/\(if b then r=(S,true) else doR t l ms rest S=some r)
theorem zv7 (bk:PB)(hI:qy8 bk):zxv bk:=by
 intro w0 w T R t l ms v gs S lo vl ps Q a9 h a5 p hS bL r hr;obtain⟨a,cap,rfl,W⟩:=ql a5;have aC:=pG (show pqs w0 T R t l ms v gs lo ps r (.int .i64 0) w from⟨0,bk,S,false,rW _,rfl,by rw[List.drop_zero];exact p,hS,hI,h,hr⟩);have Z:=pG W;clear h a5 p hS hr W hI;go_enter func125,ntmps125
 go_wp2_with fail
 go_loopw [4,5,6,7,8,9,10] (λi _ _ _ _ _ _ wr=>pqs w0 T R t l ms v gs lo ps r i wr) (λi _ _ _ _ _ _ _=>ps.length-(intOf i).toNat)
 case atStart=>exact ku aC
 case round=>
  obtain⟨wo,b7⟩:∃wo,wo=wr:=⟨_,rfl⟩;subst b7;obtain⟨k,rest,P,b1,hk,rfl,p,f,m,C,b⟩:=hrel;obtain⟨⟨c0,c1,c2,c3,c4,c5,c6,c7,c8,c9⟩,⟨_,_,_,_,_,_,_,_,_,f9⟩⟩:=kjj C.row;have bG:=wu C.row;have HW:=pG C;clear aC c1 c2 c3 c4 c5 c6 c7;cases b1
  case true=>
   simp only[if_true]at b;subst b;by_cases V:k<ps.length
   all_goals
    clear C p f m;go_wp2
    go_end0
    exact⟨rfl,ku HW⟩
  case false=>
  simp only[wU,if_false]at b;match rest,p,f,m,b with
  |.nil,p,f,m,b=>
   have z:ps.drop k=[]:=p;have bJ:ps.length<=k:=by simpa using z
   have bK:¬k<ps.length:=aj;rw[doR]at b;injection b with b;subst b;clear z p f m C;go_wp2
   go_end0
   exact⟨rfl,ku HW⟩
  |.node _ _ la .nil nx,p,f,m,b=>
   obtain⟨kd,vp,vv,vi,qs,z,_,D,x,K⟩:=p;have V:k<ps.length:=by
    rcases Q8 k ps.length with h|h
    ·exact h
    ·rw[QG h]at z;cases z
   have L:ps[k]?=some (.pointer (some ⟨kd,0,none⟩)):=by
    have:=congrArg (λl=>l[0]?) z;simpa using this
   have M:ps.drop (k+1)=qs:=by
    have:=congrArg List.tail z;simpa using this
   obtain⟨g,rfl,_,aZ,hc⟩:=ku Z k V;have B:w0.cell? ⟨g,k,none⟩=some (.pointer (some ⟨kd,0,none⟩)):=(hc k aj).trans L;have U:=D;rw[doR]at b;obtain⟨⟨p1,p2⟩,d,b⟩:=wQ.mp b;have b6:vi=.pointer none:=by
    have h1:=x.2.2;cases aG:la.cond with
    |nil=>rw[aG]at h1;exact h1
    |node _ _ _ _ _=>have:=f.1;rw[aG]at this;cases this
   subst b6;unfold jyu at d;match hla:la.place,x.1,d with
   |.nil,_,d=>cases d
   |.node pi pj px pa' pb',hNP,d=>
   dsimp only at d;obtain⟨kp,bA,bB,rfl,_,b3,_,_⟩:=hNP;match hlv:la.value,x.2.1,d with
   |.nil,_,d=>cases d
   |.node ui uj ux ua ub,hNV,d=>
   have a1:=hNV;obtain⟨kv,bQ,bR,rfl,_,_,_,_⟩:=hNV;have aY:isNil la.cond=true:=f.1;rw[aY]at d;simp only[isNil,Jt,Qk,wU,if_false]at d;obtain⟨⟨x1,x2⟩,hx,d⟩:=wQ.mp d;obtain⟨⟨⟨q1,q2⟩,q3⟩,Y,d⟩:=wQ.mp d;dsimp only at d;have J:=pG (kwu _ lo kv Q C a1 _ hx);have aE:=pG (λ(wx:World) (bx:Bool) (O:Wk w0 T R v gs wx P bx)=>zv6 Q O px kp bA bB b3 _ Y);by_cases aL:q1<0
   ·rw[if_pos aL]at d;cases d
   rw[if_neg aL]at d;obtain⟨qn,rfl⟩:=Qq (show 0<=q1 by omega);rw[sJ]at d;obtain⟨u,hu,d⟩:=wQ.mp d;have a6:qn<t.vars.length:=by
    rcases Q8 qn t.vars.length with h|h
    ·exact h
    ·rw[Zb h]at hu;cases hu
   have aA:t.vars[qn]=u:=by rw[tY a6]at hu;injection hu
   have b5:=a9 u (by rw[<-aA];exact wX a6);have H:=pG (show jm lo none w0 nx (ps.drop (k+1)) by rw[M];exact K);have I:=pG f.2.2.2.2.2;have G:=pG (show qy8 nx from m);have bM:=Q.ok.vars;obtain⟨gt,aR,aX,b2,tq,tk⟩:=Q.tree.var a6;rw[aA]at tk;have aD:=pG (⟨tq,tk⟩:w0.cell? ⟨T,2,none⟩=some (.slice (some ⟨gt,0,none⟩) t.vars.length aR)/\vwq w0 gt qn u);have j:=C.low;have d0:=wZ j ((kxh D).1);have d1:=wZ j ((kxh D).2.1);have d2:=wZ j ((kxh D).2.2.1);have ck:=wZ j B;have aS:=wu D;have b4:=j.size;clear C hx Y hu aA K f m x a1 D tq tk j M z L B hc;go_wp2_with fail
   refine(ku J).mono ?_;rintro e w1 ⟨rfl,h1⟩;have X:=pG h1;have e0:=wZ h1.low ((kxh U).1);clear h1 J d0 d1 d2 ck;clear aS;go_wp2_with fail
   refine((ku aE) _ _ (ku X)).mono ?_;rintro e w2 ⟨rfl,s⟩;rw[Qr]at s;obtain⟨⟨b0,_,_,_,_,_,_,_,b8,b9⟩,⟨_,_,_,_,_,_,_,_,_,g9⟩⟩:=kjj s.row;obtain⟨tq,_,_,_,_,_,_,_,_,_,t9,aP,aQ⟩:=ku aD;have tq:=wZ s.low tq;have t9:=wZ s.low t9;have aP:=wZ s.low aP;have aQ:=wZ s.low aQ;have bC:=wu s.row;have H3:=pG (s.below (below_alloc1 w2 (.cells #[.string u.top.kind,.string u.top.text,.int .i64 u.top.at_] 142)));have bF:gt<w2.heap.size:=Qy b2 s.low.size;have bD:T<w2.heap.size:=Qy aX s.low.size;have H2:=pG s;clear aE X e0 aD;dsimp only;have E:∀c:Bool,kxo u x1=c->Hid (kxo u x1=c):=λc h=>h
   generalize aM:(x2||q3)=wf at *;cases N:(u.top.kind.toList==oQ);case' false=>
    have F:=E false (by unfold kxo;rw[N];rfl);obtain⟨z0,z1,z2⟩:True/\True/\True:=⟨trivial,trivial,trivial⟩
   case' true=>
    obtain⟨z0,z1,z2⟩:=b5 N;have Z:=pG (show kq8 u.top.text=((u.top.text[0]'z0).toNat:Int)-48 by simp[kq8,z0]);by_cases aN:x1<0
    case' pos=>have F:=E true (by unfold kxo;rw[N,tV aN];rfl)
    case' neg=>
     by_cases aO:((u.top.text[0]'z0).toNat:Int)-48<x1
     case' pos=>have F:=E true (by unfold kxo;rw[N,ku Z,tV aO];simp)
     case' neg=>have F:=E false (by unfold kxo;rw[N,ku Z,decide_eq_false aO,decide_eq_false aN];rfl)
   all_goals
    rw[ku F]at d;cases wf
   all_goals
    simp only[Qk,Ju,Q9,Qr,if_true,if_false,wU]at d;first
    |injection d with d
     injection d with e1 e2;subst e1;subst e2;rw[if_pos rfl]at b;injection b with b;have A:=pG b.symm;clear b s aM E F;go_wp2
     go_roundw
     case rel=>exact⟨k+1,nx,P,true,aj,eu,ku H,ku I,ku G,by first|exact ku H3|exact(ku H2).wrong.below (below_alloc1 _ _),ku A⟩
     case measure=>exact qQ
    |obtain⟨y,hy,d⟩:=wQ.mp d
     by_cases aJ:q2<0
     ·rw[tV aJ]at d;cases d
     obtain⟨qi,rfl⟩:=Qq (show 0<=q2 by omega);by_cases aK:(y.length:Int)<=qi
     ·rw[tV aK,Ju]at d;cases d
     rw[decide_eq_false aJ,decide_eq_false aK]at d;simp only[Qk,wU,if_false,sJ]at d;injection d with d;injection d with e1 e2;subst e1;subst e2;simp only[wU,if_false]at b;have aI:qi<y.length:=aj;obtain⟨gO,cO,gr,cg,eS,bH,k1,bI,k2,aT,bN,a4,rfl⟩:=s.st.get hy (tY aI);have k3:=s.st.frz (i:=qi) aT a4;have aV:=pG (((ku H2).set hy aI a4 x1).below (below_alloc1 _ (.cells #[.string u.top.kind,.string u.top.text,.int .i64 u.top.at_] 142)));rw[eS]at b8;have A:=pG b;clear b s aM E F hy eS;go_wp2
     go_roundw
     case rel=>exact⟨k+1,nx,_,false,aj,eu,ku H,ku I,ku G,ku aV,ku A⟩
     case measure=>exact qQ
  |.node _ _ la (.node _ _ _ th el) nx,p,f,m,b=>
   obtain⟨kd,vp,vv,vi,vt,ve,qt,qe,qs,z,_,D,x,⟨a7,_,a8⟩,⟨a2,_,a3⟩,K⟩:=p;have V:k<ps.length:=by
    rcases Q8 k ps.length with h|h
    ·exact h
    ·rw[QG h]at z;cases z
   have L:ps[k]?=some (.pointer (some ⟨kd,0,none⟩)):=by
    have:=congrArg (λl=>l[0]?) z;simpa using this
   have M:ps.drop (k+1)=qs:=by
    have:=congrArg List.tail z;simpa using this
   obtain⟨g,rfl,_,aZ,hc⟩:=ku Z k V;have B:w0.cell? ⟨g,k,none⟩=some (.pointer (some ⟨kd,0,none⟩)):=(hc k aj).trans L;have U:=D;rw[doR]at b;match hlc:la.cond,x.2.2,b with
   |.nil,_,b=>simp[isNil]at b
   |.node ci cj cx' ca cb,hNC,b=>
   have a0:=hNC;obtain⟨kc,bO,bP,rfl,_,_,_,_⟩:=hNC;simp only[isNil,wU,if_false]at b;obtain⟨⟨c1,c2⟩,aH,b⟩:=wQ.mp b;dsimp only at b;obtain⟨ta,tc,rfl,_⟩:=ql a7;obtain⟨ea,ec,rfl,_⟩:=ql a2;have J:=pG (kwu _ lo kc Q C a0 _ aH);have H:=pG (show jm lo none w0 nx (ps.drop (k+1)) by rw[M];exact K);have I:=pG f.2.2.2.2;have G:=pG (show qy8 nx from m.2.2);have aW:=pG (λ(wx:World) (O:Wk w0 T R v gs wx P false) (q:List (List Int)×Bool) (Y:doR t l ms th P=some q)=>m.1 lo _ qt Q a9 O a7 a8 f.2.2.1.1 (by rw[a8.len];exact f.2.2.1.2) q Y);have aU:=pG (λ(wx:World) (O:Wk w0 T R v gs wx P false) (q:List (List Int)×Bool) (Y:doR t l ms el P=some q)=>m.2.1 lo _ qe Q a9 O a2 a3 f.2.2.2.1.1 (by rw[a3.len];exact f.2.2.2.1.2) q Y);have j:=C.low;have d2:=wZ j ((kxh D).2.2.1);have ck:=wZ j B;have b4:=j.size;clear C aH K f m x a0 D j M z L B hc a7 a8 a2 a3;go_wp2_with fail
   refine(ku J).mono ?_;rintro e w1 ⟨rfl,h1⟩;rw[Qr]at h1;obtain⟨⟨_,_,_,_,_,_,_,_,_,b9⟩,_⟩:=kjj h1.row;have e3:=wZ h1.low ((kxh U).2.2.2.1);have e4:=wZ h1.low ((kxh U).2.2.2.2.1);have X:=pG h1;clear h1 J d2 ck;cases c2
   case true=>
    rw[if_pos rfl]at b;injection b with b;have A:=pG b.symm;clear b;go_wp2
    go_roundw
    case rel=>exact⟨k+1,nx,P,true,aj,eu,ku H,ku I,ku G,ku X,ku A⟩
    case measure=>exact qQ
   case false=>
   rw[if_neg au]at b;obtain⟨⟨p1,p2⟩,d,b⟩:=wQ.mp b;have A:=pG (show(if p2 then r=(p1,true) else doR t l ms nx p1=some r) by
    cases p2
    ·simpa using b
    ·simp only[if_true]at b |-;injection b with b;exact b.symm)
   clear b;cases aF:(c1==1);case' false=>
    rw[aF,if_neg au]at d;have aB:=pG ((ku aU) w1 (ku X) _ d)
   case' true=>
    rw[aF,if_pos rfl]at d;have aB:=pG ((ku aW) w1 (ku X) _ d)
   all_goals
    clear d;go_wp2_with fail
    refine(ku aB).mono ?_;rintro e w2 ⟨rfl,s⟩;have H2:=pG s;clear s;go_wp2
    go_roundw
    case rel=>exact⟨k+1,nx,p1,p2,aj,eu,ku H,ku I,ku G,ku H2,ku A⟩
    case measure=>exact qQ
theorem qqp:∀b:PB,qy8 b
 |.nil=>trivial
 |.node _ _ _ .nil n=>qqp n
 |.node _ _ _ (.node _ _ _ t e) n=>⟨zv7 t (qqp t),zv7 e (qqp e),qqp n⟩
theorem vyh (b:PB):zxv b:=zv7 b (qqp b)
end Go.Proofs.YtpmcnonmkghokaaGreatDoor
namespace Go.Proofs
open Go.Proofs.Tryz
open Go.Shelf
def Tryz.lays156_ren:Go.Shelf.Ren:=⟨fun|156=>221|165=>249|166=>220|169=>166|240=>219|241=>265|276=>248|277=>287|n=>n,fun|31=>22|9=>9|3=>3|4=>4|0=>0|20=>20|72=>305|76=>365|70=>303|37=>83|75=>307|127=>367|164=>389|5=>5|80=>310|n=>n,fun|n=>n⟩
theorem Tryz.lays156:Go.Proofs.Lays.n156 prog Tryz.lays156_ren:={
 mixed:=ah
 f156:=func221.trans (congrArg some ah)
 f165:=func249.trans (congrArg some ah)
 f166:=func220.trans (congrArg some ah)
 f169:=func166.trans (congrArg some ah)
 f240:=func219.trans (congrArg some ah)
 f241:=func265.trans (congrArg some ah)
 f276:=func248.trans (congrArg some ah)
 f277:=func287.trans (congrArg some ah)
 t0:=underlying0
 a0:=Tryz.isAgg0
 z0:=Tryz.sizeOf0
 v0:=Tryz.zeroValue0
 t3:=underlying3
 a3:=Tryz.isAgg3
 z3:=Tryz.sizeOf3
 v3:=Tryz.zeroValue3
 t4:=underlying4
 a4:=Tryz.isAgg4
 z4:=Tryz.sizeOf4
 v4:=Tryz.zeroValue4
 t9:=underlying9
 a9:=Tryz.isAgg9
 z9:=Tryz.sizeOf9
 v9:=Tryz.zeroValue9
 t20:=underlying20
 a20:=Tryz.isAgg20
 z20:=Tryz.sizeOf20
 v20:=Tryz.zeroValue20
 t31:=underlying22
 a31:=Tryz.isAgg22
 z31:=Tryz.sizeOf22
 v31:=Tryz.zeroValue22
 t37:=underlying83
 a37:=Tryz.isAgg83
 z37:=Tryz.sizeOf83
 v37:=Tryz.zeroValue83
 t70:=underlying303
 a70:=Tryz.isAgg303
 z70:=Tryz.sizeOf303
 v70:=Tryz.zeroValue303
 t72:=underlying305
 a72:=Tryz.isAgg305
 z72:=Tryz.sizeOf305
 v72:=Tryz.zeroValue305
 t75:=underlying307
 a75:=Tryz.isAgg307
 z75:=Tryz.sizeOf307
 v75:=Tryz.zeroValue307
 t76:=underlying365
 a76:=Tryz.isAgg365
 z76:=Tryz.sizeOf365
 v76:=Tryz.zeroValue365
 t127:=underlying367
 a127:=Tryz.isAgg367
 z127:=Tryz.sizeOf367
 v127:=Tryz.zeroValue367
 t164:=underlying389
 a164:=Tryz.isAgg389
 z164:=Tryz.sizeOf389
 v164:=Tryz.zeroValue389}
theorem Tryz.Builder_Extra_156:Builder.Extra prog Tryz.lays156_ren:={
 sizeBuilder:=ah
 liesBuilder:=ah
 t5:=underlying5
 a5:=Tryz.isAgg5
 z5:=Tryz.sizeOf5
 v5:=Tryz.zeroValue5
 infoByte:=ah
 cellsByte:=ah
 sizeByte:=ah
 neB5:=ak}
open Go.RowKit in
theorem Tryz.strings_Join_none (a:Option Addr)(c:Nat)(b:ByteArray)(w:World):
  qJ 221 #[.slice a 0 c,.string b] w λe w'=>e=.returned (.string ⟨#[]⟩)/\w'=w:=Any.strings_Join_none Tryz.lays156 Tryz.Builder_Extra_156 a c b w
open Go.RowKit in
theorem Tryz.strings_Join (d o c:Nat)(xs:List ByteArray)(a:ByteArray)(w:World)(b:∀(j:Nat) x,xs[j]?=some x->w.cell? ⟨d,o+j,none⟩=some (.string x))(h:d<w.heap.size)(hN:xs.length<=140737488355328)(f:xs.length<=c)(g:(Lib.join (xs.map (·.data.toList)) a.data.toList).length<=140737488355328):
  qJ 221 #[.slice (some ⟨d,o,none⟩) xs.length c,.string a] w λe w'=>e=.returned (.string ⟨(Lib.join (xs.map (·.data.toList)) a.data.toList).toArray⟩)/\pU w w':=Any.strings_Join Tryz.lays156 Tryz.Builder_Extra_156 d o c xs a w b h hN f g
end Go.Proofs
