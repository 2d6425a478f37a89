import Derived.Test.YtpmcnonmkghokaaGreatDoorT28
import Derived.Test.YtpmcnonmkghokaaGreatDoorT14
import Derived.Test.YtpmcnonmkghokaaGreatDoorT24
set_option maxRecDepth 100000
set_option maxHeartbeats 8000000
set_option linter.unusedVariables false
set_option linter.unusedSimpArgs false
namespace Go.Proofs.YtpmcnonmkghokaaGreatDoor
open Go.RowKit
attribute [local go_sem ↓] Go.wp_at_zero Go.wp_at_succ
theorem kvz.at {w:World}{ls:List (List Int)}{cs:List Value}(h:kvz w ls cs)(hl:∀ x∈ls,x.length≤1000000):qzt .i64 w cs ls:=by
 refine ⟨h.1.symm,fun k hk hk2=>?_⟩;obtain ⟨a,n,c,e,ho⟩:=h.2 k hk2;rw[wW hk] at e;injection e with e;exact ⟨by rw[e];exact kya ho,hl _ (wY hk2)⟩
theorem zj7 {p:List Nat}{n k:Nat}(hp:p.Perm (List.range n))(hk:k<p.length):p[k]<n:=by
 have:p[k]∈List.range n:=hp.mem_iff.mp (wY hk);exact QW.mp this
theorem kvz.sorted {S:List Nat}{lo:Nat}{w w':World}{la:Option Addr}{ll lc:Nat}{cs:List Value}{ls:List (List Int)}(h:kvz w ls cs)(ho:w.ownsRow lo 31 1 (.slice la ll lc) cs.length cs)(hS:∀ k∈S,(Value.slice la ll lc).ownBlock=some k)(hp:ky1 S lo 31 w (.slice la ll lc) cs ls w'):OwnRows lo w' (.slice la ll lc) (sortL ls):=by
 obtain ⟨hst,p,hperm,hown,hls⟩:=hp;have hpl:p.length=cs.length:=by rw[hperm.length_eq];simp
 have hno:qqd w S 3:=by
  intro k hk c fr e;have e1:=hS k hk;rcases ho.2 with ⟨e2,_⟩|⟨g,cap,cur,e2,_,e3,_⟩
  ·rw[e2] at e1;cases e1
  ·rw[e2] at e1;injection e1 with e1;have e4:g=k:=e1;subst e4;rw[e3] at e;injection e with e;injection e with _ e _;exact absurd e (by decide)
 refine ⟨la,ll,lc,p.map (qzw cs),rfl,by rw[kx3,←h.1];exact hown,by rw[ni,kx3,hpl,h.1],fun k hk=>?_⟩;have hk2:k<p.length:=by rw[kx3] at hk;rw[hpl,h.1];exact hk
 have hlt:=zj7 hperm hk2;have hlt2:p[k]<ls.length:=by rw[←h.1];exact hlt
 obtain ⟨a,n,c,e,how⟩:=h.2 p[k] hlt2;have e5:(sortL ls)[k]=ls[p[k]]:=by
  have:(sortL ls)[k]?=some ls[p[k]]:=by
   rw[hls,sW,wW hk2,Qw,kjr,nJ,wW hlt2,fB]
  rw[wW hk] at this;injection this
 refine ⟨a,n,c,?_,?_⟩
 ·rw[sW,wW hk2,Qw,qzw,nJ,e];rfl
 ·rw[e5];exact kzq how hst hno
theorem qqa:∀ k,k≤4→(kxv k).length≤24:=by
 intro k hk;have:k=0∨k=1∨k=2∨k=3∨k=4:=by omega
 rcases this with rfl|rfl|rfl|rfl|rfl<;>decide
theorem jzv (x:Int)(all:List (List Int))(j:Nat):(kq6 x (all.take j)).length≤(kq6 x all).length:=by
 have:=Jq j all;have h2:kq6 x all=kq6 x (all.take j)++kq6 x (all.drop j):=by rw[kq6,kq6,kq6,←lV,this]
 rw[h2,wB];omega
theorem jzk (w:World)(n:Nat)(hn:n≤4) :
  Calls Tryz.prog 127 #[.int .i64 n] w fun e w'=>∃ v,e=.returned v∧OwnRows w.heap.size w' v (orders n)∧Below w.heap.size w w':=by
 obtain ⟨j0,hj,hy0,hy1,hy2⟩:=info_parts Tryz.infoInts;obtain ⟨W,hW⟩:∃ W,W=w.alloc (.cells #[.slice none 0 0] 31):=⟨_,rfl⟩;have hbW:Below w.heap.size w W:=by rw[hW];exact below_alloc1 w _
 have hsW:w.heap.size<W.heap.size:=by rw[hW];simp
 have hA:W.heap[w.heap.size]?=some (.cells #[.slice none 0 0] 31 (0,0)):=by rw[hW];exact qg _ _
 have hstart:OwnRows w.heap.size W (.slice (some ⟨w.heap.size,0,none⟩) 1 1) (kxv 0):=
  ⟨_,_,_,[.slice none 0 0],rfl,⟨rfl,Or.inr ⟨w.heap.size,1,_,rfl,wX _,hA,wX _,by unfold maxLen;omega,rfl,rfl⟩⟩,rfl,fun k hk=>by
   have:k=0:=by simp[kxv] at hk;exact hk
   subst this;exact ⟨none,0,0,rfl,rW _ _ _ _⟩⟩
 have HST:=hide hstart;have HBW:=hide hbW;have HWE:=hide hW.symm;clear hstart hA hbW hW;go_enter Tryz.func127,Tryz.ntmps127
 go_wp2_with fail
 rw[ku HWE];go_loopw [3,4,5,7,8] (fun x i _ _ _ wr=>∃ k:Nat,k≤n∧i=.int .i64 k∧OwnRows w.heap.size wr x (kxv k)∧Below w.heap.size w wr) (fun _ i _ _ _ _=>n-(intOf i).toNat)
 case atStart=>exact ⟨0,rG _,rfl,ku HST,ku HBW⟩
 case round=>
  obtain ⟨wo,hwo⟩:∃ wo,wo=wr:=⟨_,rfl⟩;subst hwo;obtain ⟨k,hk,rfl,hown,hb⟩:=hrel;obtain ⟨xa,xn,xc,cs,rfl,hrow,hrows⟩:=hown;have hin:=zxi k;have hsm:=qqa k (by omega);by_cases hlt:k<n
  ·have hsm1:=qqa (k+1) (by omega);obtain ⟨za,zc,ez,hzv⟩:=qm hrow;injection ez with ez1 ez2 ez3;subst ez1;subst ez2;subst ez3;have hsz:=hb.size;have HZV:=hide hzv;have HRW:=hide hrows;have HB:=hide hb;have HIN:=hide hin;have HS0:=hide (show OwnRows wo.heap.size wo (.slice none 0 0) (kq6 k ((kxv k).take 0)) from ⟨none,0,0,[],rfl,by simp[kq6];exact rW _ _ _ _,by simp[kq6],fun k hk=>by simp[kq6] at hk⟩);have HNX:=hide (show kxv (k+1)=kq6 k (kxv k) from rfl);have hsm2:(kq6 k (kxv k)).length≤24:=hsm1;generalize kxv k=all at *;clear hrow hrows hzv hb hin hsm1;go_wp2_with fail
   go_loopw [5,7,8,18] (fun y _ _ i wm=>∃ j:Nat,j≤all.length∧i=.int .i64 j∧OwnRows wo.heap.size wm y (kq6 k (all.take j))∧Below wo.heap.size wo wm) (fun _ _ _ i _=>all.length-(intOf i).toNat)
   case atStart=>exact ⟨0,rG _,rfl,ku HS0,Below.refl _ _⟩
   case round=>
    obtain ⟨wm,hwm⟩:∃ wm,wm=wr:=⟨_,rfl⟩;subst hwm;obtain ⟨j,hjl,rfl,hown,hbm⟩:=hrel;obtain ⟨ya,yn,yc,ds,rfl,hrow,hrows⟩:=hown;have hszm:=hbm.size;by_cases hltj:j<all.length
    ·obtain ⟨g5,rfl,hg51,hg52,hc5⟩:=ku HZV j hltj;obtain ⟨ca,cn,cc5,ec5,hch⟩:=(ku HRW).2 j hltj;have e5:wm.cell? ⟨g5,j * 1,none⟩=some (.slice ca cn cc5):=by
      rw[hbm.cell (p:=⟨g5,j * 1,none⟩) (by show g5<wo.heap.size;omega),hc5 (j * 1) (by omega),lM];exact ec5
     simp only[lM] at e5;have hcl5:all[j].length≤4:=by have:=((ku HIN) _ (wY hltj)).1;omega
     obtain ⟨xq,cq,eq,_⟩:=qm hch;injection eq with eq1 eq2 eq3;subst eq1;subst eq2;subst eq3;have HCH:=hide hch;have HROW:=hide hrow;have HROWS:=hide hrows;have HBM:=hide hbm;have hstep:=zvp k all j hltj;have hsle:=jzv k all (j+1);have HSTEP:=hide hstep;have HS3:=hide (show OwnRows wo.heap.size wm (.slice ya yn yc) (kq6 k (all.take j)++(List.range 0).map (kkf k all[j])) from ⟨ya,yn,yc,ds,rfl,by simpa using hrow,by simpa using hrows⟩);generalize all[j]=c at *;clear hrow hrows hbm hc5 hch ec5 hstep;go_wp2_with fail
     go_loopw [5,8,25] (fun y _ i wi=>∃ q:Nat,q≤c.length+1∧i=.int .i64 q∧OwnRows wo.heap.size wi y (kq6 k (all.take j)++(List.range q).map (kkf k c))∧Below wo.heap.size wo wi) (fun _ _ i _=>c.length+1-(intOf i).toNat)
     case atStart=>exact ⟨0,rG _,rfl,ku HS3,ku HBM⟩
     case round=>
      obtain ⟨wi,hwi⟩:∃ wi,wi=wr:=⟨_,rfl⟩;subst hwi;obtain ⟨q,hq,rfl,hown,hbi⟩:=hrel;obtain ⟨ya',yn',yc',ds',rfl,hrow,hrows⟩:=hown;have hszi:=hbi.size;by_cases hlq:q<c.length+1
      ·have HCW:=hide (qj (ku HCH) hbi);have HROWi:=hide hrow;have HROWSi:=hide hrows;have HBi:=hide hbi;have hlen2:(kq6 k (all.take j)++(List.range q).map (kkf k c)).length≤24:=by
        have h1:(kq6 k (all.take j)++(List.range q).map (kkf k c)).length≤(kq6 k (all.take (j+1))).length:=by
         rw[ku HSTEP];simp[jzi];omega
        omega
       have HSN:=hide (show (kq6 k (all.take j)++(List.range (q+1)).map (kkf k c))=(kq6 k (all.take j)++(List.range q).map (kkf k c))++[kkf k c q] by rw[J4,sJ,←tK];rfl);generalize (kq6 k (all.take j)++(List.range q).map (kkf k c))=Lg at *;clear hrow hrows hbi;go_wp2_with fail
       refine (qxn _ 0 c ca c.length cc5 (ku HCW) (by omega)).mono ?_;rintro e w4 ⟨ka,kn,kc,rfl,ho4,hb4⟩;have hsz4:=hb4.size;have HB4:=hide hb4;have HIC:=hide (jqv (w4.alloc (.cells #[.int .i64 k] 3)) wi.heap.size c q k ka kn kc w4.heap.size (ho4.alloc _) (qg _ _) (fun e=>by
        rcases ho4.2 with ⟨e1,_⟩|⟨g,cap,cur,e1,_,e3,_⟩
        ·rw[e1] at e;cases e
        ·rw[e1] at e;injection e with e;have h5:=wZ e3;have h6:g=w4.heap.size:=e;omega) (by omega) (by omega) (by simp;omega))
       clear ho4 hb4;go_wp2_with fail
       refine (ku HIC).mono ?_;rintro e w5 ⟨a5,l5,c5,rfl,ho5,hb5⟩;clear HIC;have hb5':Below wi.heap.size wi w5:=((ku HB4).alloc hsz4 _).trans hb5;have hsz5:=hb5'.size;have HN5:=hide (zx (rG _) ho5);have HB5:=hide hb5';have HRW5:=hide (qj (ku HROWi) hb5');clear ho5 hb5 hb5';go_wp2_with (at_builtin;refine nC _ rfl _ _ 79 rfl wo.heap.size 31 j0 _ 1 24 Tryz.underlying79 hj hy0 hy1 hy2 rfl (by decide) (.slice ya' yn' yc') _ _ rfl ((ku HRW5).alloc _) ⟨w5.heap.size,0,none⟩ 1 1 [.slice a5 l5 c5] rfl rfl (kqz w5 _ [.slice a5 l5 c5] _ rfl) (by intro y hy;simp at hy;subst hy;rfl) (by unfold maxLen;omega) (by omega) (by simp;omega) ?_)
       intro v6 w6 hown6 hgrow6 _ hat6;obtain ⟨a6,l6,c6,rfl⟩:=zu hown6;have k6:Tk none [31] w5 w6:=(vk (below_alloc1 w5 _) _ _).trans (kqr ((ku HRW5).alloc _) hgrow6 (by simp));have HX6:=hide (show OwnRows wo.heap.size w6 (.slice a6 l6 c6) (Lg++[kkf k c q]) from ⟨a6,l6,c6,_,rfl,by rw[wB];exact hown6,(((ku HROWSi).tk (vk (ku HB5) none [31]) (jh.none _) (by decide)).snoc (ku HN5)).tk k6 (jh.none _) (by decide)⟩);have HB6:=hide ((((ku HBi).trans ((ku HB5).mono hszi)).alloc (by omega) _).grown hgrow6 (by simp;omega) (vg (ku HRW5)));clear hown6 hgrow6 hat6 k6;go_wp2
       go_roundw
       case rel=>exact ⟨q+1,by omega,by go_num,by rw[ku HSN];exact ku HX6,ku HB6⟩
       case measure=>simp[intOf];omega
      ·have:q=c.length+1:=by omega
       subst this;have HX:=hide (show OwnRows wo.heap.size wi (.slice ya' yn' yc') (kq6 k (all.take (j+1))) from ⟨ya',yn',yc',ds',rfl,by rw[ku HSTEP];exact hrow,by rw[ku HSTEP];exact hrows⟩);have HBi:=hide hbi;clear hrow hrows hbi;go_wp2
       go_roundw
       case rel=>exact ⟨j+1,by omega,by go_num,ku HX,ku HBi⟩
       case measure=>simp[intOf];omega
    ·have:j=all.length:=by omega
     subst this;rw[Qq] at hrow hrows;have HX:=hide (show OwnRows w.heap.size wm (.slice ya yn yc) (kxv (k+1)) by rw[ku HNX];exact ⟨ya,yn,yc,ds,rfl,zx (by omega) hrow,hrows⟩);have HBm:=hide ((ku HB).trans (hbm.mono (by omega)));clear hrow hrows hbm;go_wp2
     go_roundw
     case rel=>exact ⟨k+1,by omega,by go_num,ku HX,ku HBm⟩
     case measure=>simp[intOf];omega
  ·have:k=n:=by omega
   subst this;have hrow':wo.ownsRow w.heap.size 31 1 (.slice xa xn xc) cs.length cs:=by rw[hrows.1];exact hrow
   have HRS:=hide hrows;have HRO:=hide hrow';have HSO:=hide (zv5 wo w.heap.size cs (kxv k) xa xn xc hrow' (hrows.at fun x hx=>by have:=(hin x hx).1;omega) (by rw[hrows.1];omega));have HGE:=hide (vg hrow');have HB:=hide hb;have hsz:=hb.size;clear hrow hrows hrow' hb hin;go_wp2_with fail
   refine (ku HSO).mono ?_;rintro e w5 ⟨rfl,S,hS,hpost⟩;have HX:=hide ((ku HRS).sorted (ku HRO) hS hpost);have HB5:=hide ((ku HB).trans (hpost.1.below hsz (fun k hk=>(ku HGE) k (hS k hk))));clear hS hpost HSO;go_wp2
   go_ret
   exact ⟨_,rfl,ku HX,ku HB5⟩
theorem Tryz.infoTurn:(Tryz.prog.info? 256).map (fun i=>(i.zero,i.size,i.bytes))=some (some (.slice none 0 0),1,24):=by kernel_rfl
theorem OwnRows.below {B:Nat}{w w':World}{x:Value}{ls:List (List Int)}(h:OwnRows B w x ls)(hb:Below w.heap.size w w'):OwnRows B w' x ls:=by
 obtain ⟨la,ll,lc,cs,e,h1,h2⟩:=h;exact ⟨la,ll,lc,cs,e,qj h1 hb,h2.tk (vk hb none []) (jh.none _) (by simp)⟩
theorem OwnRows.tk {B:Nat}{w w':World}{v:Value}{ls:List (List Int)}{x:Option Nat}{bad:List Nat}(h:OwnRows B w v ls)(hk:Tk x bad w w')(hx:jh w x)(h1:31 ∉ bad)(h2:3 ∉ bad):OwnRows B w' v ls:=by
 obtain ⟨la,ll,lc,cs,e,h3,h4⟩:=h;exact ⟨la,ll,lc,cs,e,zy h3 hk hx h1,h4.tk hk hx h2⟩
theorem kvz.one {w:World}{ls:List (List Int)}{cs:List Value}(h:kvz w ls cs):∀ y∈cs,y.oneCell'=true:=by
 intro y hy;obtain ⟨k,hk,rfl⟩:=rP hy;obtain ⟨a,n,c,e,_⟩:=h.2 k (by rw[←h.1];exact hk);rw[wW hk] at e;injection e with e;rw[e];rfl
def qjj (w:World)(ts:List Turn)(cs:List Value):Prop:=cs.length=ts.length∧∀ k (hk:k<ts.length),∃ v,cs[k]?=some v∧OwnRows 0 w v ts[k]
theorem qjj.tk {w w':World}{ts:List Turn}{cs:List Value}{x:Option Nat}{bad:List Nat}(h:qjj w ts cs)(hk:Tk x bad w w')(hx:jh w x)(h1:31 ∉ bad)(h2:3 ∉ bad):qjj w' ts cs:=
 ⟨h.1,fun k hl=>by obtain ⟨v,e,ho⟩:=h.2 k hl;exact ⟨v,e,ho.tk hk hx h1 h2⟩⟩
theorem qjj.snoc {w:World}{ts:List Turn}{cs:List Value}{t:Turn}{v:Value}(h:qjj w ts cs)(ho:OwnRows 0 w v t):qjj w (ts++[t]) (cs++[v]):=by
 refine ⟨by simp[h.1],fun k hk=>?_⟩;by_cases hl:k<ts.length
 ·obtain ⟨v',e,ho'⟩:=h.2 k hl;refine ⟨v',?_,?_⟩
  ·rw[lX (by rw[h.1];exact hl)];exact e
  ·rw[lu hl];exact ho'
 ·have:k=ts.length:=by simp at hk;omega
  subst this;exact ⟨v,by rw[←h.1];simp,by simpa using ho⟩
def kj6 (B:Nat)(w:World)(x:Value)(ts:List Turn):Prop:=∃ la ll lc cs,x=.slice la ll lc∧w.ownsRow B 256 1 (.slice la ll lc) ts.length cs∧qjj w ts cs
theorem kj6.tk {B:Nat}{w w':World}{v:Value}{ls:List Turn}{x:Option Nat}{bad:List Nat}(h:kj6 B w v ls)(hk:Tk x bad w w')(hx:jh w x)(h0:256 ∉ bad)(h1:31 ∉ bad)(h2:3 ∉ bad):kj6 B w' v ls:=by
 obtain ⟨la,ll,lc,cs,e,h3,h4⟩:=h;exact ⟨la,ll,lc,cs,e,zy h3 hk hx h0,h4.tk hk hx h1 h2⟩
theorem zx5 (w:World)(lo:Nat)(cs:List Value)(n:Nat)(sa:Option Addr)(sn sc:Nat)(hS:w.ownsRow lo 31 1 (.slice sa sn sc) n cs)(h1:∀ y∈cs,y.oneCell'=true)(hl:n≤1000000) :
  Calls Tryz.prog 128 #[.slice sa sn sc] w fun e w'=>∃ ca cn cc,e=.returned (.slice ca cn cc)∧w'.ownsRow w.heap.size 31 1 (.slice ca cn cc) n cs∧Below w.heap.size w w':=by
 rcases hS.2 with ⟨e1,e2⟩|⟨g,cap,cur,e1,e2,e3,e4⟩
 ·injection e1 with e1 e1' e1'';subst e1;subst e1';subst e1'';subst e2;have hn:cs=[]:=sG (by simpa using hS.1);subst hn;have hnil:=fun w=>Go.Lib.run_eql_slice_nil (P:=Tryz.prog) w 256 31 none 0 0 0 0 Tryz.underlying256
  clear hS hl h1;go_enter Tryz.func128,Tryz.ntmps128
  go_wp2
  go_ret
  exact ⟨none,0,0,rfl,rW _ _ _ _,Below.refl _ _⟩
 ·injection e1 with e1 e1' e1'';subst e1;subst e1';subst e1'';have HS:=hide (qj hS (below_alloc1 w (.cells #[] 31)));have HO:=hide (show (w.alloc (.cells #[] 31)).ownsRow w.heap.size 31 1 (.slice (some ⟨w.heap.size,0,none⟩) 0 0) 0 [] from ⟨rfl,Or.inr ⟨w.heap.size,0,_,rfl,wX _,qg _ _,wX _,by unfold maxLen;omega,rfl,rfl⟩⟩);obtain ⟨i0,hi,hz0,hz1,hz2⟩:=info_parts Tryz.infoInts;have hnil:=fun w=>Go.Lib.run_eql_slice_nil (P:=Tryz.prog) w 256 31 (some ⟨g,0,none⟩) sn sc 0 0 Tryz.underlying256
  have H1:=hide h1;clear hS e2 e3 e4 h1;go_enter Tryz.func128,Tryz.ntmps128
  go_wp2_with (at_builtin;refine kz6 rfl _ _ 256 rfl w.heap.size 31 i0 _ 1 24 Tryz.underlying256 hi hz0 hz1 hz2 rfl (by decide) (.slice (some ⟨w.heap.size,0,none⟩) 0 0) 0 [] rfl (ku HO) (.slice (some ⟨g,0,none⟩) sn sc) sn _ _ rfl (ku HS) (ku H1) (by unfold maxLen;omega) (by omega) (by simp) ?_)
  intro v3 w3 hown3 hgrow3 hat3;have HB3:=hide ((below_alloc1 w _).grown hgrow3 (by simp) (vg (ku HO)));obtain ⟨a3,l3,c3,rfl⟩:=zu hown3;have HV3:=hide hown3;clear hown3 hgrow3 hat3;go_wp2
  go_ret
  exact ⟨a3,l3,c3,rfl,ku HV3,ku HB3⟩
theorem zvg (n:Nat)(hn:n≤4):(orders n).length≤24:=by
 unfold orders;rw[kx3];exact qqa n hn
def jv2 (B:Nat)(w:World)(M size:Nat)(ts:List Turn)(e:Ending)(w':World):Prop:=
 ∃ O tv cv,e=.returned (.pointer (some ⟨O,0,none⟩))∧w'.heap[O]?=some (.cells #[.pointer (some ⟨M,0,none⟩),tv,cv] 260 (0,0))∧kj6 B w' tv ts∧w'.ownsRow B 5 1 cv size ((List.replicate size (0:Int)).map (Value.int .u8))∧B≤O∧Below B w w'
theorem jzw (w:World)(M size:Nat)(sets:List Int)(ma:Option Addr)(mn mc:Nat)(hM:M<w.heap.size)(hM2:w.cell? ⟨M,2,none⟩=some (.slice ma mn mc))(hS:w.ownsRow 0 3 1 (.slice ma mn mc) sets.length (sets.map (Value.int .i64)))(hM5:w.cell? ⟨M,5,none⟩=some (.int .i64 size))(hsz:size≤1000000)(hsl:sets.length≤1000)(ts:List Turn)(hr:kke sets [[]]=some ts) :
  Calls Tryz.prog 75 #[.pointer (some ⟨M,0,none⟩)] w (jv2 w.heap.size w M size ts):=by
 obtain ⟨i0,hi,hz0,hz1,hz2⟩:=info_parts Tryz.infoInts;obtain ⟨j0,hj,hy0,hy1,hy2⟩:=info_parts Tryz.infoTurn;obtain ⟨W,hW⟩:∃ W,W=w.alloc (.cells #[.slice none 0 0] 256):=⟨_,rfl⟩;have hbW:Below w.heap.size w W:=by rw[hW];exact below_alloc1 w _
 have hsW:w.heap.size<W.heap.size:=by rw[hW];simp
 have hA:W.heap[w.heap.size]?=some (.cells #[.slice none 0 0] 256 (0,0)):=by rw[hW];exact qg _ _
 have hstart:kj6 w.heap.size W (.slice (some ⟨w.heap.size,0,none⟩) 1 1) [[]]:=
  ⟨_,_,_,[.slice none 0 0],rfl,⟨rfl,Or.inr ⟨w.heap.size,1,_,rfl,wX _,hA,wX _,by unfold maxLen;omega,rfl,rfl⟩⟩,rfl,fun k hk=>by
   have:k=0:=by simp at hk;exact hk
   subst this;exact ⟨.slice none 0 0,rfl,none,0,0,[],rfl,rW _ _ _ _,rfl,fun k hk=>by simp at hk⟩⟩
 obtain ⟨ya,yc,e1,hview⟩:=qm (qj hS hbW);injection e1 with e1 e2 e3;subst e1;subst e2;subst e3;have c2:(w.alloc (.cells #[.slice none 0 0] 256)).cell? ⟨M,2,none⟩=some (.slice ma sets.length mc):=by rw[←hW];exact (hbW.cell (p:=⟨M,2,none⟩) hM).trans hM2
 have HC5:=hide hM5;have HW:=hide hview;have HST:=hide hstart;have HBW:=hide hbW;have HWE:=hide hW.symm;have HR:=hide hr;clear hview hS hr hstart hA hbW hW hM2 hM5;go_enter Tryz.func75,Tryz.ntmps75
 go_wp2_with fail
 rw[ku HWE];go_loopw [3,5,6,8,10,17] (fun x _ _ _ _ i wr=>∃ (k:Nat) (all:List Turn),k≤sets.length∧i=.int .i64 k∧kj6 w.heap.size wr x all∧kke (sets.drop k) all=some ts∧all.length≤100000∧(∀ t∈all,t.length≤k)∧Below W.heap.size W wr) (fun _ _ _ _ _ i _=>sets.length-(intOf i).toNat)
 case atStart=>exact ⟨0,[[]],rG _,rfl,ku HST,ku HR,by simp,by simp,Below.refl _ _⟩
 case round=>
  obtain ⟨wo,hwo⟩:∃ wo,wo=wr:=⟨_,rfl⟩;subst hwo;obtain ⟨k,all,hk,rfl,hown,hrest,hal,hlen,hb⟩:=hrel;obtain ⟨xa,xn,xc,cs,rfl,hrow,hrows⟩:=hown;obtain ⟨za,zc,ez,hzv⟩:=qm hrow;injection ez with ez1 ez2 ez3;subst ez1;subst ez2;subst ez3;have hsz':=hb.size;by_cases hlt:k<sets.length
  ·obtain ⟨g,rfl,hg1,hg2,hc⟩:=ku HW k hlt;have e0:wo.cell? ⟨g,k,none⟩=some (.int .i64 sets[k]):=by
    rw[hb.cell (p:=⟨g,k,none⟩) hg2,hc k (by omega),sW,wW hlt];rfl
   rw[rM hlt,kke] at hrest;have hcl:0≤sets[k]∧sets[k]≤4∧(ug sets[k].toNat all).length≤100000:=by
    apply rD;intro hc;rw[if_neg hc] at hrest;cases hrest
   rw[if_pos hcl] at hrest;obtain ⟨n,hn⟩:∃ n:Nat,sets[k]=(n:Int):=⟨sets[k].toNat,by omega⟩;rw[hn] at hcl hrest e0;simp only[QK] at hcl hrest;obtain ⟨_,hn4,hcl⟩:=hcl;have hn4':n≤4:=by omega
   have HREST:=hide hrest;have HZV:=hide hzv;have HRW:=hide hrows;have HB:=hide hb;have HLEN:=hide hlen;have HS0:=hide (show kj6 wo.heap.size wo (.slice none 0 0) (ug n (all.take 0)) from ⟨none,0,0,[],rfl,by simp[ug];exact rW _ _ _ _,by simp[ug],fun k hk=>by simp[ug] at hk⟩);clear hc hb hrow hrows hzv hrest hlen hn hn4;go_wp2_with fail
   go_loopw [6,8,10,23] (fun y _ _ i wm=>∃ j:Nat,j≤all.length∧i=.int .i64 j∧kj6 wo.heap.size wm y (ug n (all.take j))∧Below wo.heap.size wo wm) (fun _ _ _ i _=>all.length-(intOf i).toNat)
   case atStart=>exact ⟨0,rG _,rfl,ku HS0,Below.refl _ _⟩
   case round=>
    obtain ⟨wm,hwm⟩:∃ wm,wm=wr:=⟨_,rfl⟩;subst hwm;obtain ⟨j,hjl,rfl,hown,hbm⟩:=hrel;obtain ⟨ya',yn',yc',ds,rfl,hrow,hrows⟩:=hown;have hszm:=hbm.size;by_cases hltj:j<all.length
    ·obtain ⟨g5,rfl,hg51,hg52,hc5⟩:=ku HZV j hltj;obtain ⟨v5,ec5,hch⟩:=(ku HRW).2 j hltj;have e5:wm.cell? ⟨g5,j * 1,none⟩=some v5:=by
      rw[hbm.cell (p:=⟨g5,j * 1,none⟩) (by show g5<wo.heap.size;omega),hc5 (j * 1) (by omega),lM];exact ec5
     simp only[lM] at e5;have hcl5:all[j].length≤k:=(ku HLEN) _ (wY hltj);have hch':=hch.below hbm;obtain ⟨ta,tn,tc,tcs,rfl,hto,htr⟩:=hch';have HTO:=hide hto;have HTR:=hide htr;have HROW:=hide hrow;have HROWS:=hide hrows;have HBM:=hide hbm;have hstep:=zzr n all j hltj;have hsle:=zwy n all (j+1);have HSTEP:=hide hstep;have HOC:=hide (jzk wm n hn4');generalize all[j]=c at *;clear hrow hrows hbm hc5 hch ec5 hstep hto htr;go_wp2_with fail
     refine (ku HOC).mono ?_;rintro e w3 ⟨v3,rfl,ho3,hb3⟩;obtain ⟨oa,on,oc,ocs,rfl,hoo,hor⟩:=ho3;obtain ⟨qa,qc,eq,hoview⟩:=qm hoo;injection eq with eq1 eq2 eq3;subst eq1;subst eq2;subst eq3;have hsz3:=hb3.size;have hos:=zvg n hn4';have HOO:=hide hoo;have HOR:=hide hor;have HTO3:=hide (qj (ku HTO) hb3);have HTR3:=hide ((ku HTR).tk (vk hb3 none []) (jh.none _) (by simp));have HS3:=hide (show kj6 wo.heap.size w3 (.slice ya' yn' yc') (ug n (all.take j)++((orders n).take 0).map fun o=>c++[o]) from ⟨ya',yn',yc',ds,rfl,by simpa using qj (ku HROW) hb3,by simpa using (ku HROWS).tk (vk hb3 none []) (jh.none _) (by simp) (by simp)⟩);have HB3:=hide ((ku HBM).trans (hb3.mono hszm));generalize orders n=ords at *;clear hoview hoo hor hb3 HOC HTO HTR HROW HROWS HBM;go_wp2_with fail
     go_loopw [6,10,30] (fun y _ i wi=>∃ q:Nat,q≤ords.length∧i=.int .i64 q∧kj6 wo.heap.size wi y (ug n (all.take j)++(ords.take q).map fun o=>c++[o])∧Below wo.heap.size wo wi∧Tk none [256] w3 wi) (fun _ _ i _=>ords.length-(intOf i).toNat)
     case atStart=>exact ⟨0,rG _,rfl,ku HS3,ku HB3,Tk.refl _ _ _⟩
     case round=>
      obtain ⟨wi,hwi⟩:∃ wi,wi=wr:=⟨_,rfl⟩;subst hwi;obtain ⟨q,hq,rfl,hown,hbi,hb3i⟩:=hrel;obtain ⟨y1,y2,y3,ds',rfl,hrow,hrows⟩:=hown;have hszi:=hbi.size;have hsz3i:=hb3i.size;by_cases hlq:q<ords.length
      ·obtain ⟨qa',qc',eq',hov⟩:=qm (zy (ku HOO) hb3i (jh.none _) (by decide));injection eq' with eq1 _ eq3;subst eq1;subst eq3;obtain ⟨g6,rfl,hg61,hg62,hc6⟩:=hov q hlq;obtain ⟨oa6,on6,oc6,ec6,hch6⟩:=((ku HOR).tk hb3i (jh.none _) (by decide)).2 q hlq;have e6:wi.cell? ⟨g6,q * 1,none⟩=some (.slice oa6 on6 oc6):=by
        rw[hc6 (q * 1) (by omega),lM];exact ec6
       simp only[lM] at e6;have HCW:=hide (zy (ku HTO3) hb3i (jh.none _) (by decide));have HCR:=hide ((ku HTR3).tk hb3i (jh.none _) (by decide));have HOW:=hide hch6;have HROWi:=hide hrow;have HROWSi:=hide hrows;have HBi:=hide hbi;have HB3i:=hide hb3i;have hsn:(ug n (all.take j)++(ords.take (q+1)).map fun o=>c++[o])=(ug n (all.take j)++(ords.take q).map fun o=>c++[o])++[c++[ords[q]]]:=by
        rw[nD hlq,sJ,←tK];rfl
       have HSN:=hide hsn;have hlen2:(ug n (all.take j)++(ords.take q).map fun o=>c++[o]).length≤100000:=by
        have h1:(ug n (all.take j)++(ords.take q).map fun o=>c++[o]).length≤(ug n (all.take (j+1))).length:=by
         rw[ku HSTEP];simp;omega
        omega
       have H1C:=hide ((ku HCR).one);generalize ords[q]=od at *;generalize (ug n (all.take j)++(ords.take q).map fun o=>c++[o])=Lg at *;clear hrow hrows hbi hb3i hc6 ec6 hch6 hsn hov;go_wp2_with fail
       refine (zx5 _ 0 tcs c.length ta tn tc (ku HCW) (ku H1C) (by omega)).mono ?_;rintro e w4 ⟨ka,kn,kc,rfl,ho4,hb4⟩;have hsz4:=hb4.size;have HO4:=hide ho4;have HB4:=hide hb4;clear ho4 hb4;go_wp2_with (at_builtin;refine nC _ rfl _ _ 256 rfl wi.heap.size 31 i0 _ 1 24 Tryz.underlying256 hi hz0 hz1 hz2 rfl (by decide) (.slice ka kn kc) _ _ rfl ((ku HO4).alloc _) ⟨w4.heap.size,0,none⟩ 1 1 [.slice oa6 on6 oc6] rfl rfl (kqz w4 _ [.slice oa6 on6 oc6] _ rfl) (by intro y hy;simp at hy;subst hy;rfl) (by unfold maxLen;omega) (by omega) (by simp;omega) ?_)
       intro v5 w5 hown5 hgrow5 _ hat5;obtain ⟨a5,l5,c5,rfl⟩:=zu hown5;have hb5:Below wi.heap.size wi w5:=((ku HB4).alloc hsz4 _).grown hgrow5 (by simp;omega) (vg (ku HO4));have hsz5:=hb5.size;have HN5:=hide (show OwnRows 0 w5 (.slice a5 l5 c5) (c++[od]) from ⟨a5,l5,c5,_,rfl,by rw[wB];exact zx (rG _) hown5,((ku HCR).tk (vk hb5 none []) (jh.none _) (by simp)).snoc (qj (ku HOW) hb5)⟩);have HB5:=hide hb5;have HRW5:=hide (qj (ku HROWi) hb5);clear hown5 hgrow5 hat5 hb5;go_wp2_with (at_builtin;refine nC _ rfl _ _ 255 rfl wo.heap.size 256 j0 _ 1 24 Tryz.underlying255 hj hy0 hy1 hy2 rfl (by decide) (.slice y1 y2 y3) _ _ rfl ((ku HRW5).alloc _) ⟨w5.heap.size,0,none⟩ 1 1 [.slice a5 l5 c5] rfl rfl (kqz w5 _ [.slice a5 l5 c5] _ rfl) (by intro y hy;simp at hy;subst hy;rfl) (by unfold maxLen;omega) (by omega) (by simp;omega) ?_)
       intro v6 w6 hown6 hgrow6 _ hat6;obtain ⟨a6,l6,c6,rfl⟩:=zu hown6;have k6:Tk none [256] w5 w6:=(vk (below_alloc1 w5 _) _ _).trans (kqr ((ku HRW5).alloc _) hgrow6 (by simp));have HX6:=hide (show kj6 wo.heap.size w6 (.slice a6 l6 c6) (Lg++[c++[od]]) from ⟨a6,l6,c6,_,rfl,by rw[wB];exact hown6,(((ku HROWSi).tk (vk (ku HB5) none [256]) (jh.none _) (by decide) (by decide)).snoc (ku HN5)).tk k6 (jh.none _) (by decide) (by decide)⟩);have HB6:=hide ((((ku HBi).trans ((ku HB5).mono hszi)).alloc (by omega) _).grown hgrow6 (by simp;omega) (vg (ku HRW5)));have HB36:=hide (((ku HB3i).trans (vk (ku HB5) _ _)).trans k6);clear hown6 hgrow6 hat6 k6;go_wp2
       go_roundw
       case rel=>exact ⟨q+1,by omega,by go_num,by rw[ku HSN];exact ku HX6,ku HB6,ku HB36⟩
       case measure=>simp[intOf];omega
      ·have:q=ords.length:=by omega
       subst this;rw[Qq] at hrow hrows;have HX:=hide (show kj6 wo.heap.size wi (.slice y1 y2 y3) (ug n (all.take (j+1))) from ⟨y1,y2,y3,ds',rfl,by rw[ku HSTEP];exact hrow,by rw[ku HSTEP];exact hrows⟩);have HBi:=hide hbi;clear hrow hrows hbi hb3i;go_wp2
       go_roundw
       case rel=>exact ⟨j+1,by omega,by go_num,ku HX,ku HBi⟩
       case measure=>simp[intOf];omega
    ·have:j=all.length:=by omega
     subst this;rw[Qq] at hrow hrows;have HX:=hide (show kj6 w.heap.size wm (.slice ya' yn' yc') (ug n all) from ⟨ya',yn',yc',ds,rfl,zx (by omega) hrow,hrows⟩);have HBm:=hide ((ku HB).trans (hbm.mono (by omega)));have HL2:=hide (show ∀ t∈ug n all,t.length≤k+1 from fun t ht=>by
      obtain ⟨c,hc,h2⟩:=tV.mp ht;obtain ⟨o,_,rfl⟩:=su.mp h2;have:=(ku HLEN) c hc;simp;omega)
     clear hrow hrows hbm;go_wp2
     go_roundw
     case rel=>exact ⟨k+1,ug n all,by omega,by go_num,ku HX,ku HREST,hcl,ku HL2,ku HBm⟩
     case measure=>simp[intOf];omega
  ·have:k=sets.length:=by omega
   subst this;rw[nV,kke] at hrest;injection hrest with hrest;subst hrest;have HX:=hide (show kj6 w.heap.size wo (.slice xa all.length xc) all from ⟨xa,all.length,xc,cs,rfl,hrow,hrows⟩);have hbw:=(ku HBW).trans (hb.mono (by omega));have hszw:=hbw.size;have HF:=hide (qzk wo M size ((hbw.cell (p:=⟨M,5,none⟩) hM).trans (ku HC5)) hsz);have HB:=hide hbw;clear hrow hrows hb hzv hbw;go_wp2_with fail
   refine (ku HF).mono ?_;rintro e w5 ⟨v5,rfl,ho5,hb5⟩;obtain ⟨a5,l5,c5,rfl⟩:=zu ho5;have hs5:=hb5.size;have K:=(vk hb5 none []).alloc (.cells #[.pointer (some ⟨M,0,none⟩),.slice xa all.length xc,.slice a5 l5 c5] 260);have HP:=hide (show jv2 w.heap.size w M size all (.returned (.pointer (some ⟨w5.heap.size,0,none⟩))) (w5.alloc (.cells #[.pointer (some ⟨M,0,none⟩),.slice xa all.length xc,.slice a5 l5 c5] 260)) from
    ⟨w5.heap.size,_,_,rfl,qg _ _,(ku HX).tk K (jh.none _) (by simp) (by simp) (by simp),zx hszw (ho5.alloc _),by omega,((ku HB).trans (hb5.mono hszw)).alloc (by omega) _⟩)
   clear ho5 hb5 K HF;go_wp2
   go_ret
   exact ku HP
def mvV (v:MVar)(ta:Option Addr)(tc:Nat):Value:=.agg #[.int .i64 v.first,.int .i64 v.count,.slice ta v.texts.length tc,.int .i64 v.over,.int .i64 v.of_]
theorem jxr {w:World}{tv:Value}{t:Turn}(h:OwnRows 0 w tv t){k j:Nat}{o:List Int}{x:Int}(hk:t[k]?=some o)(hj:o[j]?=some x) :
  ∃ g c g2 n2 c2,tv=.slice (some ⟨g,0,none⟩) t.length c∧g<w.heap.size∧g2<w.heap.size∧w.cell? ⟨g,k,none⟩=some (.slice (some ⟨g2,0,none⟩) n2 c2)∧n2=o.length∧w.cell? ⟨g2,j,none⟩=some (.int .i64 x)∧k<t.length∧j<o.length∧t.length≤maxLen∧o.length≤maxLen:=by
 obtain ⟨la,ll,lc,cs,rfl,h1,h2⟩:=h;have hkl:k<t.length:=by
  rcases Qk k t.length with h|h
  ·exact h
  ·rw[nZ h] at hk;cases hk
 have hjl:j<o.length:=by
  rcases Qk j o.length with h|h
  ·exact h
  ·rw[nZ h] at hj;cases hj
 rw[wW hkl] at hk;injection hk with hk;obtain ⟨xa,xc,e1,hv⟩:=qm h1;injection e1 with e1 e2 e3;subst e1;subst e2;subst e3;obtain ⟨g,rfl,_,hg,hc⟩:=hv k hkl;obtain ⟨a,n,c,e4,h3⟩:=h2.2 k hkl;rw[hk] at h3;obtain ⟨ya,yc,e5,hv2⟩:=qm h3;injection e5 with e5 e6 e7;subst e5;subst e6;subst e7;obtain ⟨g2,rfl,_,hg2,hc2⟩:=hv2 j hjl;have m1:t.length≤maxLen:=by
  rcases h1.2 with ⟨e1,_⟩|⟨_,cap,_,e1,_,_,e4,e5,_⟩
  ·cases e1
  ·omega
 have m2:o.length≤maxLen:=by
  rcases h3.2 with ⟨e1,_⟩|⟨_,cap,_,e1,_,_,e4,e5,_⟩
  ·cases e1
  ·omega
 refine ⟨g,_,g2,_,c,rfl,hg,hg2,?_,rfl,?_,hkl,hjl,m1,m2⟩
 ·rw[hc k (by omega),e4]
 ·rw[hc2 j (by omega),sW,hj];rfl
theorem qyr (w:World)(v:MVar)(ta:Option Addr)(tc:Nat)(t:Turn)(tv:Value)(i:Nat)(hT:OwnRows 0 w tv t)(p:Int)(hp:zj5 v t i=some p) :
  Calls Tryz.prog 228 #[mvV v ta tc,tv,.int .i64 i] w fun e w'=>e=.returned (.int .i64 p)∧Below w.heap.size w w':=by
 have HB:=hide (below_alloc1 w (.cells #[.int .i64 v.first,.int .i64 v.count,.slice ta v.texts.length tc,.int .i64 v.over,.int .i64 v.of_] 213));unfold zj5 at hp;unfold mvV;by_cases h1:v.over=-1
 ·rw[h1] at HB ⊢;rw[h1,if_pos (by decide)] at hp;injection hp with hp;subst hp;clear hT;go_enter Tryz.func228,Tryz.ntmps228
  go_wp2
  go_ret
  exact ⟨rfl,ku HB⟩
 ·rw[if_neg (by simpa using h1)] at hp;have h2:¬v.over<0:=fun h=>by rw[if_pos h] at hp;cases hp
  rw[if_neg h2] at hp;obtain ⟨o,ho,hp⟩:=wJ.mp hp;obtain ⟨k,hk⟩:∃ k:Nat,v.over=k:=⟨v.over.toNat,by omega⟩;rw[hk,QK] at ho;obtain ⟨g,c,g2,n2,c2,rfl,hg,hg2,d1,rfl,d2,hkl,hjl,m1,m2⟩:=jxr hT ho hp;have D1:(w.alloc (.cells #[.int .i64 v.first,.int .i64 v.count,.slice ta v.texts.length tc,.int .i64 (k:Int),.int .i64 v.of_] 213)).cell? ⟨g,k,none⟩=some (.slice (some ⟨g2,0,none⟩) o.length c2):=((below_alloc1 w _).cell (p:=⟨g,k,none⟩) hg).trans d1;have D2:(w.alloc (.cells #[.int .i64 v.first,.int .i64 v.count,.slice ta v.texts.length tc,.int .i64 (k:Int),.int .i64 v.of_] 213)).cell? ⟨g2,i,none⟩=some (.int .i64 p):=((below_alloc1 w _).cell (p:=⟨g2,i,none⟩) hg2).trans d2;rw[hk] at HB ⊢;have hk1:¬((k:Int)=-1):=by omega
  have m1':t.length≤9223372036854775807:=by unfold maxLen at m1;omega
  have m2':o.length≤9223372036854775807:=by unfold maxLen at m2;omega
  clear hT d1 d2 hk h1 h2 ho hp m1 m2;go_enter Tryz.func228,Tryz.ntmps228
  go_wp2
  go_ret
  exact ⟨rfl,ku HB⟩
theorem qyh (w:World)(v:MVar)(ta:Option Addr)(tc:Nat)(t:Turn)(tv:Value)(x:Int)(hT:OwnRows 0 w tv t)(p:Int)(hp:zqq v t x=some p) :
  Calls Tryz.prog 227 #[mvV v ta tc,tv,.int .u8 x] w fun e w'=>e=.returned (.int .u8 p)∧Below w.heap.size w w':=by
 have HB:=hide (below_alloc1 w (.cells #[.int .i64 v.first,.int .i64 v.count,.slice ta v.texts.length tc,.int .i64 v.over,.int .i64 v.of_] 213));unfold zqq at hp;unfold mvV;by_cases h1:v.of_=-1
 ·rw[h1] at HB ⊢;rw[h1,if_pos (by simp)] at hp;injection hp with hp;subst hp;clear hT;go_enter Tryz.func227,Tryz.ntmps227
  go_wp2
  go_ret
  exact ⟨rfl,ku HB⟩
 ·have h1b:(v.of_==-1)=false:=by simpa using h1
  by_cases hx:x=0
  ·subst hx;rw[if_pos (by simp)] at hp;injection hp with hp;subst hp;clear hT;generalize v.of_=ov at *;go_enter Tryz.func227,Tryz.ntmps227
   go_wp2
   go_ret
   exact ⟨rfl,ku HB⟩
  ·rw[if_neg (by simp[h1,hx])] at hp;have h2:¬(v.of_<0∨x<0∨255<x):=fun h=>by rw[if_pos h] at hp;cases hp
   rw[if_neg h2] at hp;obtain ⟨o,ho,hp⟩:=wJ.mp hp;obtain ⟨y,hy,hp⟩:=wJ.mp hp;have h3:0≤y∧y<255:=by
    apply rD;intro hc;rw[if_neg hc] at hp;cases hp
   rw[if_pos h3] at hp;injection hp with hp;subst hp;obtain ⟨k,hk⟩:∃ k:Nat,v.of_=k:=⟨v.of_.toNat,by omega⟩;obtain ⟨j,hj⟩:∃ j:Nat,x=(j:Int)+1:=⟨x.toNat-1,by omega⟩;rw[hk,QK] at ho;rw[show x.toNat-1=j by omega] at hy;obtain ⟨g,c,g2,n2,c2,rfl,hg,hg2,d1,rfl,d2,hkl,hjl,m1,m2⟩:=jxr hT ho hy;have D1:(w.alloc (.cells #[.int .i64 v.first,.int .i64 v.count,.slice ta v.texts.length tc,.int .i64 v.over,.int .i64 (k:Int)] 213)).cell? ⟨g,k,none⟩=some (.slice (some ⟨g2,0,none⟩) o.length c2):=((below_alloc1 w _).cell (p:=⟨g,k,none⟩) hg).trans d1;have D2:(w.alloc (.cells #[.int .i64 v.first,.int .i64 v.count,.slice ta v.texts.length tc,.int .i64 v.over,.int .i64 (k:Int)] 213)).cell? ⟨g2,j,none⟩=some (.int .i64 y):=((below_alloc1 w _).cell (p:=⟨g2,j,none⟩) hg2).trans d2;rw[hk] at HB ⊢;rw[hj];have hk1:¬((k:Int)=-1):=by omega
   have hj1:¬((j:Int)+1=0):=by omega
   have hk2:((k:Int)==-1)=false:=by simp
   have hj2:((j:Int)+1==0)=false:=by simpa using hj1
   have wr1:IntKind.u8.wrap ((j:Int)+1-1)=(j:Int):=by simp[IntKind.wrap,IntKind.bits,IntKind.signed];omega
   have wr2:IntKind.i64.wrap (y+1)=y+1:=by rw[Qj];omega
   have wr3:IntKind.u8.wrap (y+1)=y+1:=by simp[IntKind.wrap,IntKind.bits,IntKind.signed];omega
   have m1':t.length≤9223372036854775807:=by unfold maxLen at m1;omega
   have m2':o.length≤9223372036854775807:=by unfold maxLen at m2;omega
   have hm1:(j:Int) % 256=(j:Int):=by omega
   have hm2:j % 256=j:=by omega
   have hm3:(y+1) % 256=y+1:=by omega
   clear hT d1 d2 hk h1 h1b h2 ho hy m1 m2 hx hj;go_enter Tryz.func227,Tryz.ntmps227
   go_wp2
   go_ret
   exact ⟨rfl,ku HB⟩
end Go.Proofs.YtpmcnonmkghokaaGreatDoor
