import Derived.Test.YtpmcnonmkghokaaGreatDoorT12
import Derived.Lib.SliceRun
import Derived.Shelf.Strings.OnBuilder
import Derived.Test.YtpmcnonmkghokaaGreatDoorRows
set_option maxRecDepth 100000
set_option maxHeartbeats 8000000
set_option linter.unusedVariables false
set_option linter.unusedSimpArgs false
namespace Go.Proofs.YtpmcnonmkghokaaGreatDoor
open Go.RowKit
attribute [local go_sem ↓] Go.wp_at_zero Go.wp_at_succ
theorem Tryz.infoInt:(Tryz.prog.info? 3).map (fun i=>(i.zero,i.size,i.bytes))=some (some (.int .i64 0),1,8):=by kernel_rfl
theorem Tryz.infoInts:(Tryz.prog.info? 31).map (fun i=>(i.zero,i.size,i.bytes))=some (some (.slice none 0 0),1,24):=by kernel_rfl
theorem vjl (l:List Int):∀ y∈l.map (Value.int .i64),y.oneCell'=true:=by
 intro y hy;obtain ⟨x,_,rfl⟩:=sV.mp hy;rfl
theorem zxu (w:World)(lo:Nat)(st:List Int)(sa:Option Addr)(sn sc:Nat)(hS:w.ownsRow lo 3 1 (.slice sa sn sc) st.length (st.map (Value.int .i64)))(hl:st.length≤1000000) :
  Calls Tryz.prog 185 #[.slice sa sn sc] w fun e w'=>∃ ca cn cc,e=.returned (.slice ca cn cc)∧w'.ownsRow w.heap.size 3 1 (.slice ca cn cc) st.length (st.map (Value.int .i64))∧Below w.heap.size w w':=by
 rcases hS.2 with ⟨e1,e2⟩|⟨g,cap,cur,e1,e2,e3,e4⟩
 ·injection e1 with e1 e1' e1'';subst e1;subst e1';subst e1'';have hn:st=[]:=fQ e2;subst hn;have hnil:=fun w=>Go.Lib.run_eql_slice_nil (P:=Tryz.prog) w 31 3 none 0 0 0 0 Tryz.underlying31
  clear hS e2 hl;go_enter Tryz.func185,Tryz.ntmps185
  go_wp2
  go_ret
  exact ⟨none,0,0,rfl,rP _ _ _ _,Below.refl _ _⟩
 ·injection e1 with e1 e1' e1'';subst e1;subst e1';subst e1'';have HS:=hide (qj hS (below_alloc1 w (.cells #[] 3)));have HO:=hide (show (w.alloc (.cells #[] 3)).ownsRow w.heap.size 3 1 (.slice (some ⟨w.heap.size,0,none⟩) 0 0) 0 [] from ⟨rfl,Or.inr ⟨w.heap.size,0,_,rfl,wW _,qy _ _,wW _,by unfold maxLen;omega,rfl,rfl⟩⟩);obtain ⟨i0,hi,hz0,hz1,hz2⟩:=info_parts Tryz.infoInt;have hnil:=fun w=>Go.Lib.run_eql_slice_nil (P:=Tryz.prog) w 31 3 (some ⟨g,0,none⟩) st.length sc 0 0 Tryz.underlying31
  clear hS e2 e3 e4;go_enter Tryz.func185,Tryz.ntmps185
  go_wp2_with (at_builtin;refine kzz rfl _ _ 31 rfl w.heap.size 3 i0 _ 1 8 Tryz.underlying31 hi hz0 hz1 hz2 rfl (by decide) (.slice (some ⟨w.heap.size,0,none⟩) 0 0) 0 [] rfl (ku HO) (.slice (some ⟨g,0,none⟩) st.length sc) st.length _ _ rfl (ku HS) (vjl st) (by unfold maxLen;omega) (by omega) (by simp) ?_)
  intro v3 w3 hown3 hgrow3 hat3;have HB3:=hide ((below_alloc1 w _).grown hgrow3 (by simp) (yw (ku HO)));obtain ⟨a3,l3,c3,rfl⟩:=jy hown3;have HV3:=hide hown3;clear hown3 hgrow3 hat3;go_wp2
  go_ret
  exact ⟨a3,l3,c3,rfl,ku HV3,ku HB3⟩
def um (n:Nat)(all:List (List Int)):List (List Int):=all.flatMap fun c=>(List.range n).map fun (j:Nat)=>c++[(j:Int)]
def chO (ss:List PSet):List PP→List (List Int)→Option (List (List Int))
 | [],all=>some all
 | p::l,all=>(qj8 ss p.set_.text.toList).bind fun n=>if (um n all).length≤100000 then chO ss l (um n all) else none
theorem jj6 (n:Nat)(all:List (List Int))(j:Nat)(hj:j<all.length):um n (all.take (j+1))=um n (all.take j)++(List.range n).map fun (q:Nat)=>all[j]++[(q:Int)]:=by
 rw[nG hj,um,Qy];simp[um]
theorem jyj (n:Nat)(all:List (List Int))(j:Nat):(um n (all.take j)).length≤(um n all).length:=by
 have:=List.take_append_drop j all;have h2:um n all=um n (all.take j)++um n (all.drop j):=by rw[um,um,um,←Qy,this]
 rw[h2,wU];omega
theorem jxd {n:Nat}{all:List (List Int)}{k:Nat}(h:∀ x∈all,x.length≤k):∀ x∈um n all,x.length≤k+1:=by
 intro x hx;obtain ⟨c,hc,h2⟩:=su.mp hx;obtain ⟨j,_,rfl⟩:=sV.mp h2;have:=h c hc;simp;omega
def qki (w:World)(ls:List (List Int))(cs:List Value):Prop:=cs.length=ls.length∧∀ k (hk:k<ls.length),∃ a n c,cs[k]?=some (.slice a n c)∧w.ownsRow 0 3 1 (.slice a n c) ls[k].length (ls[k].map (Value.int .i64))
theorem qki.tk {w w':World}{ls:List (List Int)}{cs:List Value}{x:Option Nat}{bad:List Nat}(h:qki w ls cs)(hk:Tk x bad w w')(hx:uy w x)(he:3 ∉ bad):qki w' ls cs:=
 ⟨h.1,fun k hl=>by obtain ⟨a,n,c,e,ho⟩:=h.2 k hl;exact ⟨a,n,c,e,zk ho hk hx he⟩⟩
theorem qki.snoc {w:World}{ls:List (List Int)}{cs:List Value}{l:List Int}{a:Option Addr}{n c:Nat}(h:qki w ls cs)(ho:w.ownsRow 0 3 1 (.slice a n c) l.length (l.map (Value.int .i64))):qki w (ls++[l]) (cs++[.slice a n c]):=by
 refine ⟨by simp[h.1],fun k hk=>?_⟩;by_cases hl:k<ls.length
 ·obtain ⟨a',n',c',e,ho'⟩:=h.2 k hl;refine ⟨a',n',c',?_,?_⟩
  ·rw[Qm (by rw[h.1];exact hl)];exact e
  ·rw[QD hl];exact ho'
 ·have:k=ls.length:=by simp at hk;omega
  subst this;exact ⟨a,n,c,by rw[←h.1];simp,by simpa using ho⟩
def OwnRows (B:Nat)(w:World)(x:Value)(ls:List (List Int)):Prop:=∃ la ll lc cs,x=.slice la ll lc∧w.ownsRow B 31 1 (.slice la ll lc) ls.length cs∧qki w ls cs
theorem jj4 (w:World)(lo mo:Nat)(a0 a1 a2 a3 a4:Option Addr)(n0 n1 n2 n3 n4 c0 c1 c2 c3 c4:Nat)(m:MdL)(hm:kky mo w (.slice a0 n0 c0) (.slice a1 n1 c1) (.slice a2 n2 c2) (.slice a3 n3 c3) (.slice a4 n4 c4) m)(hf:MdFit m)(l:List PP)(pa:Option Addr)(pn pc:Nat)(hP:w.ownsRow lo 352 4 (.slice pa pn pc) l.length (jw l))(hl:l.length≤1000)(r:List (List Int))(hr:chO m.sets l [[]]=some r) :
  Calls Tryz.prog 171 #[mdV a0 a1 a2 a3 a4 n0 n1 n2 n3 n4 c0 c1 c2 c3 c4,.slice pa pn pc] w fun e w'=>∃ v,e=.returned v∧OwnRows w.heap.size w' v r∧Below w.heap.size w w':=by
 obtain ⟨i0,hi,hz0,hz1,hz2⟩:=info_parts Tryz.infoInt;obtain ⟨j0,hj,hy0,hy1,hy2⟩:=info_parts Tryz.infoInts;obtain ⟨W,hW⟩:∃ W,W=(w.alloc (.cells #[.slice a0 n0 c0,.slice a1 n1 c1,.slice a2 n2 c2,.slice a3 n3 c3,.slice a4 n4 c4] 68)).alloc (.cells #[.slice none 0 0] 31):=⟨_,rfl⟩;have hbW:Below w.heap.size w W:=by rw[hW];exact (below_alloc1 w _).trans ((below_alloc1 _ _).mono (by simp))
 have hsW:w.heap.size+1<W.heap.size:=by rw[hW];simp
 have hD:W.heap[w.heap.size]?=some (.cells #[.slice a0 n0 c0,.slice a1 n1 c1,.slice a2 n2 c2,.slice a3 n3 c3,.slice a4 n4 c4] 68 (0,0)):=by rw[hW];exact qp (qy _ _)
 have hA:W.heap[w.heap.size+1]?=some (.cells #[.slice none 0 0] 31 (0,0)):=by
  rw[hW];have:=qy (w.alloc (.cells #[.slice a0 n0 c0,.slice a1 n1 c1,.slice a2 n2 c2,.slice a3 n3 c3,.slice a4 n4 c4] 68)) (.cells #[.slice none 0 0] 31);simp only[tJ] at this;exact this
 have hstart:OwnRows w.heap.size W (.slice (some ⟨w.heap.size+1,0,none⟩) 1 1) [[]]:=
  ⟨_,_,_,[.slice none 0 0],rfl,⟨rfl,Or.inr ⟨w.heap.size+1,1,_,rfl,by omega,hA,wW _,by unfold maxLen;omega,rfl,rfl⟩⟩,rfl,fun k hk=>by
   have:k=0:=by simp at hk;exact hk
   subst this;exact ⟨none,0,0,rfl,rP _ _ _ _⟩⟩
 obtain ⟨ya,yc,e1,hview⟩:=zq (qj hP hbW);injection e1 with e1 e2 e3;subst e1;subst e2;subst e3;have HW:=hide hview;have HST:=hide hstart;have HD:=hide hD;have HBW:=hide hbW;have HWE:=hide hW.symm;have HR:=hide hr;have HSZ:=hide (fun (wx:World) (hb:Below w.heap.size w wx) (t:Tok) (n:Nat) (h:qj8 m.sets t.text.toList=some n)=>(show ∃ d:Int,d=n∧Calls Tryz.prog 97 #[.agg #[.slice a0 n0 c0,.slice a1 n1 c1,.slice a2 n2 c2,.slice a3 n3 c3,.slice a4 n4 c4],.agg #[.string t.text,.int .i64 t.at_]] wx fun e w'=>e=.returned (.int .i64 d)∧Below wx.heap.size wx w' from by
  obtain ⟨k,x,h1,h2,h3,_⟩:=qx3 h;exact ⟨_,h3,qz3 wx mo m.sets t a0 a1 a2 a3 a4 n0 n1 n2 n3 n4 c0 c1 c2 c3 c4 (qj hm.o0 hb) hf.sets k h1 x h2⟩))
 clear hview hP hm hf hr hstart hD hA hbW hW;unfold mdV;go_enter Tryz.func171,Tryz.ntmps171
 go_wp2_with fail
 rw[ku HWE];go_loopw [5,7,8,10,11,15] (fun x _ _ _ _ i wr=>∃ (k:Nat) (all:List (List Int)),k≤l.length∧i=.int .i64 k∧OwnRows w.heap.size wr x all∧chO m.sets (l.drop k) all=some r∧all.length≤100000∧(∀ y∈all,y.length≤k)∧Below W.heap.size W wr) (fun _ _ _ _ _ i _=>l.length-(intOf i).toNat)
 case atStart=>exact ⟨0,[[]],tu _,rfl,ku HST,ku HR,by simp,by simp,Below.refl _ _⟩
 case round=>
  obtain ⟨wo,hwo⟩:∃ wo,wo=wr:=⟨_,rfl⟩;subst hwo;obtain ⟨k,all,hk,rfl,hown,hrest,hal,hlen,hb⟩:=hrel;obtain ⟨xa,xn,xc,cs,rfl,hrow,hrows⟩:=hown;obtain ⟨za,zc,ez,hzv⟩:=zq hrow;injection ez with ez1 ez2 ez3;subst ez1;subst ez2;subst ez3;have hsz:=hb.size;by_cases hlt:k<l.length
  ·obtain ⟨g,rfl,hg1,hg2,hc⟩:=ku HW k hlt;have fl:=fun j (hj:j<4)=>kjx kjr 4 (fun _=>rfl) l k j hlt hj
   have cc:∀ j,j<l.length * 4→wo.cell? ⟨g,j,none⟩=(jw l)[j]?:=fun j hj=>(hb.cell (p:=⟨g,j,none⟩) hg2).trans (hc j hj)
   have e0:=(cc (k * 4+0) (by omega)).trans (fl 0 (by omega));have e1:=(cc (k * 4+1) (by omega)).trans (fl 1 (by omega));have e2:=(cc (k * 4+2) (by omega)).trans (fl 2 (by omega));have e3:=(cc (k * 4+3) (by omega)).trans (fl 3 (by omega));simp only[kjr,sW,sK,nV] at e0 e1 e2 e3;rw[sQ hlt,chO] at hrest;obtain ⟨n,hn,hrest⟩:=wQ.mp hrest;have hcl:(um n all).length≤100000:=by
    apply sJ;intro hc;rw[if_neg hc] at hrest;cases hrest
   rw[if_pos hcl] at hrest;have HREST:=hide hrest;have HN:=hide hn;obtain ⟨w1,hw1⟩:∃ w1,w1=wo.alloc (.cells #[.string l[k].name.text,.int .i64 l[k].name.at_,.string l[k].set_.text,.int .i64 l[k].set_.at_] 352):=⟨_,rfl⟩;have hb1:Below W.heap.size W w1:=by rw[hw1];exact hb.alloc hsz _
   have hp1:w1.heap[wo.heap.size]?=some (.cells #[.string l[k].name.text,.int .i64 l[k].name.at_,.string l[k].set_.text,.int .i64 l[k].set_.at_] 352 (0,0)):=by rw[hw1];exact qy _ _
   have hbr1:Below wo.heap.size wo w1:=by rw[hw1];exact below_alloc1 _ _
   have hs1:wo.heap.size<w1.heap.size:=by rw[hw1];simp
   have hzv1:=hzv;have HZV:=hide hzv;have HRW:=hide (hrows.tk (mg hbr1 none []) (uy.none _) (by simp));have HB1:=hide hb1;have HBR1:=hide hbr1;have HP1:=hide hp1;have HW1:=hide hw1.symm;have HLEN:=hide hlen;have HS0:=hide (show OwnRows w1.heap.size w1 (.slice none 0 0) (um n (all.take 0)) from ⟨none,0,0,[],rfl,by simp[um];exact rP _ _ _ _,by simp[um],fun k hk=>by simp[um] at hk⟩);generalize l[k]=p at *;clear cc fl hc hb hrow hrows hzv hzv1 hrest hn hb1 hp1 hbr1 hw1 hlen;go_wp2_with fail
   rw[ku HW1];go_loopw [8,10,11,21] (fun y _ _ i wm=>∃ j:Nat,j≤all.length∧i=.int .i64 j∧OwnRows w1.heap.size wm y (um n (all.take j))∧Below w1.heap.size w1 wm) (fun _ _ _ i _=>all.length-(intOf i).toNat)
   case atStart=>exact ⟨0,tu _,rfl,ku HS0,Below.refl _ _⟩
   case round=>
    obtain ⟨wm,hwm⟩:∃ wm,wm=wr:=⟨_,rfl⟩;subst hwm;obtain ⟨j,hjl,rfl,hown,hbm⟩:=hrel;obtain ⟨ya,yn,yc,ds,rfl,hrow,hrows⟩:=hown;have hszm:=hbm.size;have hbm0:Below W.heap.size W wm:=(ku HB1).trans (hbm.mono (ku HB1).size);by_cases hltj:j<all.length
    ·obtain ⟨g5,rfl,hg51,hg52,hc5⟩:=ku HZV j hltj;obtain ⟨ca,cn,cc5,ec5,hch⟩:=(ku HRW).2 j hltj;have e5:wm.cell? ⟨g5,j * 1,none⟩=some (.slice ca cn cc5):=by
      rw[hbm.cell (p:=⟨g5,j * 1,none⟩) (by show g5<w1.heap.size;omega),(ku HBR1).cell (p:=⟨g5,j * 1,none⟩) hg52,hc5 (j * 1) (by omega),JB];exact ec5
     simp only[JB] at e5;have hch':=qj hch hbm;have hcl5:all[j].length≤1000:=by have:=(ku HLEN) _ (rJ hltj);omega
     obtain ⟨q0,q1,q2,q3,q4,_⟩:=zo ((hbm0.block w.heap.size (by omega)).trans (ku HD));obtain ⟨p0,p1,p2,p3,_⟩:=kx8 ((hbm.block wo.heap.size (by omega)).trans (ku HP1));have hbw:Below w.heap.size w wm:=(ku HBW).trans (hbm0.mono (by omega));obtain ⟨d,hd,hcall⟩:=(ku HSZ) wm hbw p.set_ n (ku HN);have HCALL:=hide hcall;have HCH:=hide hch;have HROW:=hide hrow;have HROWS:=hide hrows;have HBM:=hide hbm;have hstep:=jj6 n all j hltj;have hsle:=jyj n all (j+1);have HSTEP:=hide hstep;generalize all[j]=c at *;clear hrow hrows hbm hch' hcall hbm0 hbw hc5 hch ec5;go_wp2_with fail
     refine (ku HCALL).mono ?_;rintro e w3 ⟨rfl,hb3⟩;subst hd;have hsz3:=hb3.size;have HB31:=hide ((ku HBM).trans (hb3.mono hszm));have HS3:=hide (show OwnRows w1.heap.size w3 (.slice ya yn yc) (um n (all.take j)++(List.range 0).map fun (q:Nat)=>c++[(q:Int)]) from ⟨ya,yn,yc,ds,rfl,by simpa using qj (ku HROW) hb3,by simpa using (ku HROWS).tk (mg hb3 none []) (uy.none _) (by simp)⟩);clear hb3 HCALL q0 q1 q2 q3 q4 p0 p1 p2 p3;go_wp2_with fail
     go_loopw [8,11,29] (fun y _ i wi=>∃ q:Nat,q≤n∧i=.int .i64 q∧OwnRows w1.heap.size wi y (um n (all.take j)++(List.range q).map fun (q:Nat)=>c++[(q:Int)])∧Below w1.heap.size w1 wi) (fun _ _ i _=>n-(intOf i).toNat)
     case atStart=>exact ⟨0,tu _,rfl,ku HS3,ku HB31⟩
     case round=>
      obtain ⟨wi,hwi⟩:∃ wi,wi=wr:=⟨_,rfl⟩;subst hwi;obtain ⟨q,hq,rfl,hown,hbi⟩:=hrel;obtain ⟨ya',yn',yc',ds',rfl,hrow,hrows⟩:=hown;have hszi:=hbi.size;by_cases hlq:q<n
      ·have HCW:=hide (qj (ku HCH) hbi);have HROWi:=hide hrow;have HROWSi:=hide hrows;have HBi:=hide hbi;have hdl:=hrows.1;have hlen2:(um n (all.take j)++(List.range q).map fun (q:Nat)=>c++[(q:Int)]).length≤100000:=by
        have h1:(um n (all.take j)++(List.range q).map fun (q:Nat)=>c++[(q:Int)]).length≤(um n (all.take (j+1))).length:=by
         rw[ku HSTEP];simp;omega
        omega
       have hq9:(q:Int)≤1000000:=by
        have:q≤100000:=by simp at hlen2;omega
        omega
       have HSN:=hide (show (um n (all.take j)++(List.range (q+1)).map fun (q:Nat)=>c++[(q:Int)])=(um n (all.take j)++(List.range q).map fun (q:Nat)=>c++[(q:Int)])++[c++[(q:Int)]] by rw[List.range_succ,ng,←tX];rfl);generalize (um n (all.take j)++(List.range q).map fun (q:Nat)=>c++[(q:Int)])=Lg at *;clear hrow hrows hbi;go_wp2_with fail
       refine (zxu _ 0 c ca cn cc5 (ku HCW) (by omega)).mono ?_;rintro e w4 ⟨xa,xn,xc,rfl,ho4,hb4⟩;have hsz4:=hb4.size;have HO4:=hide ho4;have HB4:=hide hb4;clear ho4 hb4;go_wp2_with (at_builtin;refine lJ _ rfl _ _ 31 rfl wi.heap.size 3 i0 _ 1 8 Tryz.underlying31 hi hz0 hz1 hz2 rfl (by decide) (.slice xa xn xc) _ _ rfl ((ku HO4).alloc _) ⟨w4.heap.size,0,none⟩ 1 1 [.int .i64 q] rfl rfl (kj3 w4 _ [.int .i64 q] _ rfl) (by intro y hy;simp at hy;subst hy;rfl) (by unfold maxLen;omega) (by omega) (by simp;omega) ?_)
       intro v5 w5 hown5 hgrow5 _ hat5;obtain ⟨a5,l5,c5,rfl⟩:=jy hown5;have hb5:Below wi.heap.size wi w5:=((ku HB4).alloc hsz4 _).grown hgrow5 (by simp;omega) (yw (ku HO4));have hsz5:=hb5.size;have HN5:=hide (show w5.ownsRow 0 3 1 (.slice a5 l5 c5) (c++[(q:Int)]).length ((c++[(q:Int)]).map (Value.int .i64)) by rw[wU,ng];exact zu (tu _) hown5);have HB5:=hide hb5;have HRW5:=hide (qj (ku HROWi) hb5);clear hown5 hgrow5 hat5 hb5;go_wp2_with (at_builtin;refine lJ _ rfl _ _ 79 rfl w1.heap.size 31 j0 _ 1 24 Tryz.underlying79 hj hy0 hy1 hy2 rfl (by decide) (.slice ya' yn' yc') _ _ rfl ((ku HRW5).alloc _) ⟨w5.heap.size,0,none⟩ 1 1 [.slice a5 l5 c5] rfl rfl (kj3 w5 _ [.slice a5 l5 c5] _ rfl) (by intro y hy;simp at hy;subst hy;rfl) (by unfold maxLen;omega) (by omega) (by simp;omega) ?_)
       intro v6 w6 hown6 hgrow6 _ hat6;obtain ⟨a6,l6,c6,rfl⟩:=jy hown6;have k6:Tk none [31] w5 w6:=(mg (below_alloc1 w5 _) _ _).trans (kj7 ((ku HRW5).alloc _) hgrow6 (by simp));have HX6:=hide (show OwnRows w1.heap.size w6 (.slice a6 l6 c6) (Lg++[c++[(q:Int)]]) from ⟨a6,l6,c6,_,rfl,by rw[wU];exact hown6,(((ku HROWSi).tk (mg (ku HB5) none [31]) (uy.none _) (by decide)).snoc (ku HN5)).tk k6 (uy.none _) (by decide)⟩);have HB6:=hide ((((ku HBi).trans ((ku HB5).mono hszi)).alloc (by omega) _).grown hgrow6 (by simp;omega) (yw (ku HRW5)));clear hown6 hgrow6 hat6 k6;go_wp2
       go_roundw
       case rel=>exact ⟨q+1,by omega,by go_num,by rw[ku HSN];exact ku HX6,ku HB6⟩
       case measure=>simp[intOf];omega
      ·have:q=n:=by omega
       subst this;have HX:=hide (show OwnRows w1.heap.size wi (.slice ya' yn' yc') (um q (all.take (j+1))) from ⟨ya',yn',yc',ds',rfl,by rw[ku HSTEP];exact hrow,by rw[ku HSTEP];exact hrows⟩);have HBi:=hide hbi;clear hrow hrows hbi;go_wp2
       go_roundw
       case rel=>exact ⟨j+1,by omega,by go_num,ku HX,ku HBi⟩
       case measure=>simp[intOf];omega
    ·have:j=all.length:=by omega
     subst this;rw[Qk] at hrow hrows;have HX:=hide (show OwnRows w.heap.size wm (.slice ya yn yc) (um n all) from ⟨ya,yn,yc,ds,rfl,zu (by omega) hrow,hrows⟩);have HBm:=hide hbm0;have HL2:=hide (jxd (n:=n) (ku HLEN));clear hrow hrows hbm hbm0;go_wp2
     go_roundw
     case rel=>exact ⟨k+1,um n all,by omega,by go_num,ku HX,ku HREST,hcl,ku HL2,ku HBm⟩
     case measure=>simp[intOf];omega
  ·have:k=l.length:=by omega
   subst this;rw[lW,chO] at hrest;injection hrest with hrest;subst hrest;have HX:=hide (show OwnRows w.heap.size wo (.slice xa all.length xc) all from ⟨xa,all.length,xc,cs,rfl,hrow,hrows⟩);have HB:=hide ((ku HBW).trans (hb.mono (by omega)));clear hrow hrows hb hzv;go_wp2
   go_ret
   exact ⟨_,rfl,ku HX,ku HB⟩
end Go.Proofs.YtpmcnonmkghokaaGreatDoor
namespace Go.Proofs
open Go.Shelf
def Tryz.lays156_ren:Go.Shelf.Ren:=⟨fun|156=>221|165=>249|166=>220|169=>166|240=>219|241=>265|276=>248|277=>287|n=>n,fun|31=>22|9=>9|3=>3|4=>4|0=>0|20=>20|72=>305|76=>365|70=>303|37=>83|75=>307|127=>367|164=>389|5=>5|80=>310|n=>n,fun|n=>n⟩
theorem Tryz.lays156:Go.Proofs.Lays.n156 Tryz.prog Tryz.lays156_ren:={
 mixed:=by kernel_rfl
 f156:=Tryz.func221.trans (congrArg some (by kernel_rfl))
 f165:=Tryz.func249.trans (congrArg some (by kernel_rfl))
 f166:=Tryz.func220.trans (congrArg some (by kernel_rfl))
 f169:=Tryz.func166.trans (congrArg some (by kernel_rfl))
 f240:=Tryz.func219.trans (congrArg some (by kernel_rfl))
 f241:=Tryz.func265.trans (congrArg some (by kernel_rfl))
 f276:=Tryz.func248.trans (congrArg some (by kernel_rfl))
 f277:=Tryz.func287.trans (congrArg some (by kernel_rfl))
 t0:=Tryz.underlying0
 a0:=Tryz.isAgg0
 z0:=Tryz.sizeOf0
 v0:=Tryz.zeroValue0
 t3:=Tryz.underlying3
 a3:=Tryz.isAgg3
 z3:=Tryz.sizeOf3
 v3:=Tryz.zeroValue3
 t4:=Tryz.underlying4
 a4:=Tryz.isAgg4
 z4:=Tryz.sizeOf4
 v4:=Tryz.zeroValue4
 t9:=Tryz.underlying9
 a9:=Tryz.isAgg9
 z9:=Tryz.sizeOf9
 v9:=Tryz.zeroValue9
 t20:=Tryz.underlying20
 a20:=Tryz.isAgg20
 z20:=Tryz.sizeOf20
 v20:=Tryz.zeroValue20
 t31:=Tryz.underlying22
 a31:=Tryz.isAgg22
 z31:=Tryz.sizeOf22
 v31:=Tryz.zeroValue22
 t37:=Tryz.underlying83
 a37:=Tryz.isAgg83
 z37:=Tryz.sizeOf83
 v37:=Tryz.zeroValue83
 t70:=Tryz.underlying303
 a70:=Tryz.isAgg303
 z70:=Tryz.sizeOf303
 v70:=Tryz.zeroValue303
 t72:=Tryz.underlying305
 a72:=Tryz.isAgg305
 z72:=Tryz.sizeOf305
 v72:=Tryz.zeroValue305
 t75:=Tryz.underlying307
 a75:=Tryz.isAgg307
 z75:=Tryz.sizeOf307
 v75:=Tryz.zeroValue307
 t76:=Tryz.underlying365
 a76:=Tryz.isAgg365
 z76:=Tryz.sizeOf365
 v76:=Tryz.zeroValue365
 t127:=Tryz.underlying367
 a127:=Tryz.isAgg367
 z127:=Tryz.sizeOf367
 v127:=Tryz.zeroValue367
 t164:=Tryz.underlying389
 a164:=Tryz.isAgg389
 z164:=Tryz.sizeOf389
 v164:=Tryz.zeroValue389 }
theorem Tryz.Builder_Extra_156:Builder.Extra Tryz.prog Tryz.lays156_ren:={
 sizeBuilder:=by kernel_rfl
 liesBuilder:=by kernel_rfl
 t5:=Tryz.underlying5
 a5:=Tryz.isAgg5
 z5:=Tryz.sizeOf5
 v5:=Tryz.zeroValue5
 infoByte:=by kernel_rfl
 cellsByte:=by kernel_rfl
 sizeByte:=by kernel_rfl
 neB5:=by decide }
open Go.RowKit in
theorem Tryz.strings_Join_none (a:Option Addr)(c:Nat)(sep:ByteArray)(w:World) :
  Calls Tryz.prog 221 #[.slice a 0 c,.string sep] w fun e w'=>e=.returned (.string ⟨#[]⟩)∧w'=w:=Any.strings_Join_none Tryz.lays156 Tryz.Builder_Extra_156 a c sep w
open Go.RowKit in
theorem Tryz.strings_Join (bk o c:Nat)(xs:List ByteArray)(sep:ByteArray)(w:World)(hcells:∀ (j:Nat) x,xs[j]?=some x→w.cell? ⟨bk,o+j,none⟩=some (.string x))(hbk:bk<w.heap.size)(hN:xs.length≤140737488355328)(hcap:xs.length≤c)(hlen:(Lib.join (xs.map (·.data.toList)) sep.data.toList).length≤140737488355328) :
  Calls Tryz.prog 221 #[.slice (some ⟨bk,o,none⟩) xs.length c,.string sep] w fun e w'=>e=.returned (.string ⟨(Lib.join (xs.map (·.data.toList)) sep.data.toList).toArray⟩)∧Below w.heap.size w w':=Any.strings_Join Tryz.lays156 Tryz.Builder_Extra_156 bk o c xs sep w hcells hbk hN hcap hlen
end Go.Proofs
namespace Go.Proofs.YtpmcnonmkghokaaGreatDoor
open Go.RowKit
attribute [local go_sem ↓] Go.wp_at_zero Go.wp_at_succ
def zz5 (xs:List ByteArray):ByteArray:=⟨(Go.Lib.join (xs.map (·.data.toList)) [44]).toArray⟩
theorem jws (w:World)(lo:Nat)(xs:List ByteArray)(la:Option Addr)(ll lc:Nat)(ho:w.ownsRow lo 9 1 (.slice la ll lc) xs.length (xs.map Value.string))(hn:xs.length≤1000000)(hj:(Go.Lib.join (xs.map (·.data.toList)) [44]).length≤1000000) :
  Calls Tryz.prog 221 #[.slice la ll lc,.string ⟨#[44]⟩] w fun e w'=>e=.returned (.string (zz5 xs))∧Below w.heap.size w w':=by
 rcases ho.2 with ⟨e1,e2⟩|⟨g,cap,cur,e1,e2,e3,e4,e5,e6,e7⟩
 ·injection e1 with e1 e1' e1'';subst e1;subst e1';subst e1'';have hx:xs=[]:=fQ e2;subst hx;refine (Tryz.strings_Join_none none 0 ⟨#[44]⟩ w).mono ?_;rintro e w' ⟨rfl,rfl⟩;exact ⟨rfl,Below.refl _ _⟩
 ·injection e1 with e1 e1' e1'';subst e1;subst e1';subst e1'';refine (Tryz.strings_Join g 0 lc xs ⟨#[44]⟩ w ?_ (wX e3) (by omega) e4 (by show (Go.Lib.join (xs.map (·.data.toList)) [44]).length≤_;omega)).mono ?_
  ·intro j x hx;have:=ho.cells (g:=g) rfl j (.string x) (by simp[hx]);rw[show ((⟨g,0,none⟩:Addr).add j)=⟨g,j,none⟩ from by simp[Addr.add];intro h;exact h.symm] at this;rw[Qx];exact this
  ·rintro e w' ⟨rfl,hb⟩;exact ⟨rfl,hb⟩
def kzy (n:ByteArray)(ms:List Int):ByteArray:=((n++⟨#[40]⟩)++zz5 (ms.map fun i=>kwu i.toNat))++⟨#[41]⟩
def qxe (ms:List Int):Bool:=ms.all (fun i=>decide (0≤i)&&decide (i≤9))&&decide (ms.length≤1000)&&decide ((Go.Lib.join ((ms.map fun i=>kwu i.toNat).map (·.data.toList)) [44]).length≤1000000)
theorem jx5 {ms:List Int}(h:qxe ms=true):(∀ i∈ms,0≤i∧i≤9)∧ms.length≤1000∧(Go.Lib.join ((ms.map fun i=>kwu i.toNat).map (·.data.toList)) [44]).length≤1000000:=by
 unfold qxe at h;rw[wY,wY] at h;refine ⟨fun i hi=>?_,of_decide_eq_true h.1.2,of_decide_eq_true h.2⟩;have:=nX.1 h.1.1 i hi;rw[wY] at this;exact ⟨of_decide_eq_true this.1,of_decide_eq_true this.2⟩
theorem qwl (w:World)(lo:Nat)(n:Tok)(ms:List Int)(ma:Option Addr)(mn mc:Nat)(hM:w.ownsRow lo 3 1 (.slice ma mn mc) ms.length (ms.map (Value.int .i64)))(hok:qxe ms=true)(hns:n.text.size≤1000) :
  Calls Tryz.prog 172 #[.agg #[.string n.text,.int .i64 n.at_],.slice ma mn mc] w fun e w'=>e=.returned (.string (kzy n.text ms))∧Below w.heap.size w w':=by
 obtain ⟨i0,hi,hz0,hz1,hz2⟩:=info_parts Tryz.infoStr0;obtain ⟨hdig,hl,hjl⟩:=jx5 hok;obtain ⟨W,hW⟩:∃ W,W=w.alloc (.cells #[.string n.text,.int .i64 n.at_] 107):=⟨_,rfl⟩;have hbW:Below w.heap.size w W:=by rw[hW];exact below_alloc1 w _
 have hsW:w.heap.size<W.heap.size:=by rw[hW];simp
 have hN:W.heap[w.heap.size]?=some (.cells #[.string n.text,.int .i64 n.at_] 107 (0,0)):=by rw[hW];exact qy _ _
 obtain ⟨xa,cap,e1,hview⟩:=zq (qj hM hbW);injection e1 with e1 e2 e3;subst e1;subst e2;subst e3;have HW:=hide hview;have HDIG:=hide hdig;have HJL:=hide hjl;have HN:=hide hN;have HBW:=hide hbW;have HWE:=hide hW.symm;clear hview hM hbW hW hdig hok hN hjl;go_enter Tryz.func172,Tryz.ntmps172
 go_wp2_with fail
 rw[ku HWE];go_loopw [5,7,10] (fun x _ i wr=>∃ (k:Nat) (la:Option Addr) (ll lc:Nat),k≤ms.length∧i=.int .i64 k∧x=.slice la ll lc∧wr.ownsRow W.heap.size 9 1 (.slice la ll lc) k (((ms.take k).map fun i=>kwu i.toNat).map Value.string)∧Below W.heap.size W wr) (fun _ _ i _=>ms.length-(intOf i).toNat)
 case atStart=>exact ⟨0,none,0,0,tu _,rfl,rfl,rP _ _ _ _,Below.refl _ _⟩
 case round=>
  obtain ⟨k,la,ll,lc,hk,rfl,rfl,ho,hb⟩:=hrel;have HO:=hide ho;have HB:=hide hb;have hsz:=hb.size;by_cases hlt:k<ms.length
  ·obtain ⟨g,rfl,hg1,hg2,hc⟩:=ku HW k hlt;have e0:wr.cell? ⟨g,k,none⟩=some (.int .i64 ms[k]):=by
    rw[hb.cell (p:=⟨g,k,none⟩) hg2,hc k (by omega),lq,ny hlt];rfl
   obtain ⟨d0,d9⟩:=(ku HDIG) ms[k] (rJ hlt);have HIT:=hide (qkb ms[k].toNat (by omega) wr);rw[Jz d0] at HIT;have HSTEP:=hide (show ((ms.take (k+1)).map fun i=>kwu i.toNat).map Value.string=((ms.take k).map fun i=>kwu i.toNat).map Value.string++[.string (kwu ms[k].toNat)] by rw[nG hlt,ng,ng];rfl);generalize kwu ms[k].toNat=dk at *;generalize ms[k]=x at *;clear hc ho hb;go_wp2_with fail
   refine (ku HIT).mono ?_;rintro e w2 ⟨rfl,rfl⟩;go_wp2_with (at_builtin;refine lJ _ rfl _ _ 22 rfl W.heap.size 9 i0 _ 1 16 Tryz.underlying22 hi hz0 hz1 hz2 rfl (by decide) (.slice la ll lc) _ _ rfl ((ku HO).alloc _) ⟨w2.heap.size,0,none⟩ 1 1 [.string dk] rfl rfl (kj3 w2 _ [.string dk] _ rfl) (by intro y hy;simp at hy;subst hy;rfl) (by unfold maxLen;omega) (by omega) (by simp;omega) ?_)
   intro v' w' hown hgrow _ hat;obtain ⟨a3,l3,c3,rfl⟩:=jy hown;have HO':=hide (show w'.ownsRow W.heap.size 9 1 (.slice a3 l3 c3) (k+1) (((ms.take (k+1)).map fun i=>kwu i.toNat).map Value.string) by rw[ku HSTEP,fZ,List.map_take];exact hown);have HB':=hide (((ku HB).alloc hsz _).grown hgrow (by simp;omega) (yw (ku HO)));clear hown hgrow hat;go_wp2
   go_roundw
   case rel=>exact ⟨k+1,a3,l3,c3,by omega,by go_num,rfl,ku HO',ku HB'⟩
   case measure=>simp[intOf];omega
  ·have:k=ms.length:=by omega
   subst this;rw[Qk] at ho;have HJ:=hide (jws wr.drew W.heap.size (ms.map fun i=>kwu i.toNat) la ll lc (by rw[sG];exact ho) (by rw[sG];omega) (ku HJL));have hrow:=(hb.block w.heap.size hsW).trans (ku HN);obtain ⟨q0,q1,_,_⟩:=yj hrow;have HROW:=hide hrow;clear ho hb HO hrow;have hinsT:kzy n.text ms=((n.text++⟨#[40]⟩)++zz5 (ms.map fun i=>kwu i.toNat))++⟨#[41]⟩:=rfl;have HIN:=hide hinsT;have hjs:(zz5 (ms.map fun i=>kwu i.toNat)).size≤1000000:=by have:=ku HJL;simpa[zz5,ByteArray.size] using this
   generalize zz5 (ms.map fun i=>kwu i.toNat)=jb at *;have hc1:¬(9223372036854775807<n.text.size+1):=by omega
   have hc2:¬(9223372036854775807<n.text.size+1+jb.size):=by omega
   have hc3:¬(9223372036854775807<n.text.size+1+jb.size+1):=by omega
   clear hinsT;go_upto_region 7 with fail
   go_region_held3 (fun w'=>w'.cell? ⟨w.heap.size,0,none⟩=some (.string n.text)) (first|exact q0|exact u0)
    ((go_at_call 221;refine (ku HJ).mono ?_;rintro e w1 ⟨rfl,hb1⟩;obtain ⟨u0,u1,_⟩:=yj ((hb1.block w.heap.size (by show w.heap.size<wr.heap.size;omega)).trans (ku HROW));have HB1:=hide ((ku HBW).trans (((ku HB).drew.trans (hb1.mono (by show W.heap.size≤wr.heap.size;omega))).mono (Qv hsW)));clear hb1;dsimp only))
   go_wp2
   go_ret
   rw[ku HIN];exact ⟨rfl,ku HB1⟩
theorem Tryz.infoIns:(Tryz.prog.info? 176).map (fun i=>(i.zero,i.size,i.bytes))=some (some (.agg #[.string ⟨#[]⟩,.pointer none,.slice none 0 0,.slice none 0 0]),4,72):=by kernel_rfl
def qve (w:World)(M:Nat)(pv:Value)(n:ByteArray)(ls:List (List Int))(cs:List Value):Prop:=
 cs.length=ls.length * 4∧∀ k (hk:k<ls.length),∃ ma mn mc,(cs.drop (k * 4)).take 4=[.string (kzy n ls[k]),.pointer (some ⟨M,0,none⟩),pv,.slice ma mn mc]∧w.ownsRow 0 3 1 (.slice ma mn mc) ls[k].length (ls[k].map (Value.int .i64))
theorem qve.tk {w w':World}{M:Nat}{pv:Value}{n:ByteArray}{ls:List (List Int)}{cs:List Value}{x:Option Nat}{bad:List Nat}(h:qve w M pv n ls cs)(hk:Tk x bad w w')(hx:uy w x)(he:3 ∉ bad):qve w' M pv n ls cs:=
 ⟨h.1,fun k hl=>by obtain ⟨a,b,c,e,ho⟩:=h.2 k hl;exact ⟨a,b,c,e,zk ho hk hx he⟩⟩
theorem qve.snoc {w:World}{M:Nat}{pv:Value}{n:ByteArray}{ls:List (List Int)}{cs:List Value}{l:List Int}{ma:Option Addr}{mn mc:Nat}(h:qve w M pv n ls cs)(ho:w.ownsRow 0 3 1 (.slice ma mn mc) l.length (l.map (Value.int .i64))):qve w M pv n (ls++[l]) (cs++[.string (kzy n l),.pointer (some ⟨M,0,none⟩),pv,.slice ma mn mc]):=by
 refine ⟨by simp[h.1];omega,fun k hk=>?_⟩;by_cases hl:k<ls.length
 ·have hc:=h.1;rw[Q9 (by omega),Q8 (by simp;omega),QD hl];exact h.2 k hl
 ·have:k=ls.length:=by simp at hk;omega
  subst this;rw[←h.1,Qj];exact ⟨ma,mn,mc,by simp,by simpa using ho⟩
theorem jv4 {cs:List Value}{k:Nat}{a b c d:Value}(h:(cs.drop (k * 4)).take 4=[a,b,c,d]):cs[k * 4]?=some a∧cs[k * 4+1]?=some b∧cs[k * 4+2]?=some c∧cs[k * 4+3]?=some d:=by
 have g:∀ j,j<4→cs[k * 4+j]?=([a,b,c,d]:List Value)[j]?:=fun j hj=>by
  rw[←h,Qq hj,Qs]
 exact ⟨g 0 (by omega),g 1 (by omega),g 2 (by omega),g 3 (by omega)⟩
theorem qxa (w:World)(lo mo M:Nat)(a0 a1 a2 a3 a4:Option Addr)(n0 n1 n2 n3 n4 c0 c1 c2 c3 c4:Nat)(m:MdL)(hm:kky mo w (.slice a0 n0 c0) (.slice a1 n1 c1) (.slice a2 n2 c2) (.slice a3 n3 c3) (.slice a4 n4 c4) m)(hf:MdFit m)(n:Tok)(hns:n.text.size≤1000)(l:List PP)(pa:Option Addr)(pn pc:Nat)(hP:w.ownsRow lo 352 4 (.slice pa pn pc) l.length (jw l))(hl:l.length≤1000)(r:List (List Int))(hr:chO m.sets l [[]]=some r)(hok:∀ x∈r,qxe x=true)(hrl:r.length≤100000) :
  Calls Tryz.prog 100 #[.pointer (some ⟨M,0,none⟩),mdV a0 a1 a2 a3 a4 n0 n1 n2 n3 n4 c0 c1 c2 c3 c4,.agg #[.string n.text,.int .i64 n.at_],.slice pa pn pc] w fun e w'=>∃ xa xn xc cs,e=.returned (.slice xa xn xc)∧w'.ownsRow w.heap.size 176 4 (.slice xa xn xc) r.length cs∧qve w' M (.slice pa pn pc) n.text r cs∧Below w.heap.size w w':=by
 obtain ⟨i0,hi,hz0,hz1,hz2⟩:=info_parts Tryz.infoIns;obtain ⟨W,hW⟩:∃ W,W=(w.alloc (.cells #[.slice a0 n0 c0,.slice a1 n1 c1,.slice a2 n2 c2,.slice a3 n3 c3,.slice a4 n4 c4] 68)).alloc (.cells #[.string n.text,.int .i64 n.at_] 107):=⟨_,rfl⟩;have hbW:Below w.heap.size w W:=by rw[hW];exact (below_alloc1 w _).trans ((below_alloc1 _ _).mono (by simp))
 have hsW:w.heap.size+1<W.heap.size:=by rw[hW];simp
 have hN:W.heap[w.heap.size+1]?=some (.cells #[.string n.text,.int .i64 n.at_] 107 (0,0)):=by
  rw[hW];have:=qy (w.alloc (.cells #[.slice a0 n0 c0,.slice a1 n1 c1,.slice a2 n2 c2,.slice a3 n3 c3,.slice a4 n4 c4] 68)) (.cells #[.string n.text,.int .i64 n.at_] 107);simp only[tJ] at this;exact this
 have HCH:=hide (jj4 W lo mo a0 a1 a2 a3 a4 n0 n1 n2 n3 n4 c0 c1 c2 c3 c4 m (hm.stay fun k _ hk=>hbW.block k hk) hf l pa pn pc (qj hP hbW) hl r hr);unfold mdV at HCH ⊢;have HN:=hide hN;have HBW:=hide hbW;have HWE:=hide hW.symm;have HOK:=hide hok;clear hm hf hP hr hN hbW hW hok;go_enter Tryz.func100,Tryz.ntmps100
 go_wp2_with fail
 rw[ku HWE];refine (ku HCH).mono ?_;rintro e w1 ⟨v1,rfl,hown1,hb1⟩;obtain ⟨xa,xn,xc,cs,rfl,hrow,hrows⟩:=hown1;obtain ⟨ya,yc,e1,hview⟩:=zq hrow;injection e1 with e1 e2 e3;subst e1;subst e2;subst e3;have hs1:=hb1.size;have HV:=hide hview;have HROWS:=hide hrows;have HN1:=hide ((hb1.block _ hsW).trans (ku HN));have HB1:=hide ((ku HBW).trans (hb1.mono (by omega)));clear hview hrow hrows hb1 HCH HN;go_wp2_with fail
 go_loopw [9,11,16] (fun x _ i wr=>∃ (k:Nat) (za:Option Addr) (zn zc:Nat) (ds:List Value),k≤r.length∧i=.int .i64 k∧x=.slice za zn zc∧wr.ownsRow w1.heap.size 176 4 (.slice za zn zc) k ds∧qve wr M (.slice pa pn pc) n.text (r.take k) ds∧Below w1.heap.size w1 wr) (fun _ _ i _=>r.length-(intOf i).toNat)
 case atStart=>exact ⟨0,none,0,0,[],tu _,rfl,rfl,rP _ _ _ _,⟨rfl,fun k hk=>by simp at hk⟩,Below.refl _ _⟩
 case round=>
  obtain ⟨k,za,zn,zc,ds,hk,rfl,rfl,ho,hins,hb⟩:=hrel;have hsz:=hb.size;by_cases hlt:k<r.length
  ·obtain ⟨g,rfl,hg1,hg2,hc⟩:=ku HV k hlt;obtain ⟨ca,cn,cc,ec,hch⟩:=(ku HROWS).2 k hlt;have e0:wr.cell? ⟨g,k,none⟩=some (.slice ca cn cc):=by
    rw[hb.cell (p:=⟨g,k,none⟩) hg2,hc k (by omega)];exact ec
   have hch':=qj hch hb;have hnr:=(hb.block _ (by omega)).trans (ku HN1);obtain ⟨q0,q1,_,_⟩:=yj hnr;have hxo:=(ku HOK) _ (rJ hlt);have HIT:=hide (qwl wr 0 n r[k] ca cn cc hch' hxo hns);have HSN:=hide (show r.take (k+1)=r.take k++[r[k]] from nG hlt);have HC:=hide hch';have HO:=hide ho;have HI:=hide hins;have HB:=hide hb;have HIT2:=hide (show ∃ tt,tt=kzy n.text r[k] from ⟨_,rfl⟩);obtain ⟨tt,htt⟩:=ku HIT2;rw[←htt] at HIT;have HTT:=hide htt;generalize r[k]=c at *;clear hc hb hch hch' ec ho hins hnr hxo htt HIT2;go_wp2_with fail
   refine (ku HIT).mono ?_;rintro e w2 ⟨rfl,hb2⟩;have hs2:=hb2.size;have HO2:=hide (qj (ku HO) hb2);have HI2:=hide ((ku HI).tk (mg hb2 none [176]) (uy.none _) (by decide));have HC2:=hide (qj (ku HC) hb2);have HB2:=hide ((ku HB).trans (hb2.mono hsz));clear hb2 HIT;go_wp2_with (at_builtin;refine lJ _ rfl _ _ 214 rfl w1.heap.size 176 i0 _ 4 72 Tryz.underlying214 hi hz0 hz1 hz2 rfl (by decide) (.slice za zn zc) _ _ rfl ((ku HO2).alloc _) ⟨w2.heap.size,0,none⟩ 1 1 [.string tt,.pointer (some ⟨M,0,none⟩),.slice pa pn pc,.slice ca cn cc] rfl rfl (kj3 w2 _ [.string tt,.pointer (some ⟨M,0,none⟩),.slice pa pn pc,.slice ca cn cc] _ rfl) (by intro y hy;simp only[tK,nY,or_false] at hy;rcases hy with rfl|rfl|rfl|rfl<;>rfl) (by unfold maxLen;omega) (by omega) (by simp;omega) ?_)
   intro v3 w3 hown3 hgrow3 _ hat3;obtain ⟨a5,l5,c5,rfl⟩:=jy hown3;have k3:Tk none [176] w2 w3:=(mg (below_alloc1 w2 _) _ _).trans (kj7 ((ku HO2).alloc _) hgrow3 (by simp));have HI3:=hide (show qve w3 M (.slice pa pn pc) n.text (r.take (k+1)) (ds++[.string tt,.pointer (some ⟨M,0,none⟩),.slice pa pn pc,.slice ca cn cc]) by
    rw[ku HSN,ku HTT];exact ((ku HI2).snoc (ku HC2)).tk k3 (uy.none _) (by decide))
   have HO3:=hide hown3;have HB3:=hide (((ku HB2).alloc (by omega) _).grown hgrow3 (by simp;omega) (yw (ku HO2)));clear hown3 hgrow3 hat3 k3;go_wp2
   go_roundw
   case rel=>exact ⟨k+1,a5,l5,c5,_,by omega,by go_num,rfl,ku HO3,ku HI3,ku HB3⟩
   case measure=>simp[intOf];omega
  ·have:k=r.length:=by omega
   subst this;rw[Qk] at hins;have HO:=hide (zu (by omega:w.heap.size≤w1.heap.size) ho);have HI:=hide hins;have HB:=hide ((ku HB1).trans (hb.mono (by omega)));clear ho hins hb;go_wp2
   go_ret
   exact ⟨_,_,_,_,rfl,ku HO,ku HI,ku HB⟩
end Go.Proofs.YtpmcnonmkghokaaGreatDoor
