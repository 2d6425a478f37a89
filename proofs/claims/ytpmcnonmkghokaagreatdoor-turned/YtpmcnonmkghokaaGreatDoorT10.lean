import Derived.Test.YtpmcnonmkghokaaGreatDoorT09
set_option maxRecDepth 100000
set_option maxHeartbeats 4000000
set_option linter.unusedVariables false
set_option linter.unusedSimpArgs false
namespace Go.Proofs.YtpmcnonmkghokaaGreatDoor
open Go.RowKit
attribute [local go_sem ↓] Go.wp_at_zero Go.wp_at_succ
theorem yt {w w':World}{B lo e size:Nat}{t:TypeId}{v:Value}{n:Nat}{xs:List Value}{cs:Array Value}{fr:Nat × Nat}(h:w.ownsRow lo e size v n xs)(hB:w.heap[B]?=some (.cells cs t fr))(he:t≠e)(hk:Kept B w w'):w'.ownsRow lo e size v n xs:=
 h.kept (row:=some B) ⟨hk.os,hk.tape,hk.output,hk.size,fun k h1 h2=>hk.block k h1 (fun e=>h2 (by rw[e]))⟩ (Or.inr fun e=>not_row h hB he e.symm)
theorem XIs.nm {lo B:Nat}{w w':World}{t:TypeId}{cs:Array Value}{fr:Nat × Nat}(hB:w.heap[B]?=some (.cells cs t fr))(he:t≠358)(hk:Kept B w w'):∀ {x:PX} {v:Value},XIs lo w x v→XIs lo w' x v
 | .nil,_,h=>h
 | .node _ _ _ _ _,_,⟨k,va,vb,e,hn,hh,ha,hb⟩=>⟨k,va,vb,e,hn,by
   rw[hk.block k (wX hh) (fun e=>by rw[e,hB] at hh;injection hh with h1;injection h1 with h2 h3;exact he h3)];exact hh,ha.nm hB he hk,hb.nm hB he hk⟩
def kxs (tab:Tab)(l:List PP)(z:Int)(n:Tok):Int:=kqu (zvz tab l n) z n
def kjb (n i:Tok):List Tok:=if i.kind.toList==[] then [n] else [n,i]
def qqd (x:ELab):List Tok:=if x.op.toList==[112,108,97,99,101] then kjb x.name x.index else []
def jr:PX→List Tok
 | .nil=>[]
 | .node _ _ x a b=>(qqd x++jr a)++jr b
def pl5 (n i:Tok):Value:=.agg #[.string n.text,.int .i64 n.at_,.bool (!(i.kind.toList==[])),.string i.text,.int .i64 i.at_]
theorem zkz (w:World)(B b lo:Nat)(tab:Tab)(l:List PP)(pa:Option Addr)(pn pc:Nat)(z:Int)(n i:Tok)(h:Nm w B b tab (.slice pa pn pc) z)(ho:w.ownsRow lo 352 4 (.slice pa pn pc) l.length (jw l))(hl:l.length≤1000)(hs:∀ y∈kjb n i,y.text.size≤1000) :
  Calls Tryz.prog 216 #[.pointer (some ⟨B,0,none⟩),pl5 n i] w fun e w'=>e=.returned (.tuple #[])∧Nm w' B b tab (.slice pa pn pc) ((kjb n i).foldl (kxs tab l) z)∧Kept B w w':=by
 have hBl:=wX h.nm;have hs1:n.text.size≤1000:=hs n (by unfold kjb;split<;>simp);have hs2:(i.kind.toList==[])=false→i.text.size≤1000:=fun e=>hs i (by unfold kjb;rw[e];simp)
 have E:=hide (show (kjb n i).foldl (kxs tab l) z=if i.kind.toList==[] then kxs tab l z n else kxs tab l (kxs tab l z n) i by unfold kjb;split<;>rfl);have HV:=hide (zxr _ B b lo tab l pa pn pc z n (h.alloc (.cells #[.string n.text,.int .i64 n.at_,.bool (!(i.kind.toList==[])),.string i.text,.int .i64 i.at_] 332)) (ho.alloc _) hl hs1);have HO:=hide (ho.alloc (.cells #[.string n.text,.int .i64 n.at_,.bool (!(i.kind.toList==[])),.string i.text,.int .i64 i.at_] 332));have HN:=hide (h.alloc (.cells #[.string n.text,.int .i64 n.at_,.bool (!(i.kind.toList==[])),.string i.text,.int .i64 i.at_] 332));clear h ho hs;unfold pl5 ptV at *;generalize (i.kind.toList==[])=c at *;go_enter Tryz.func216,Tryz.ntmps216
 cases c
 ·have hs2':=hs2 rfl;clear hs2;go_wp2_with fail
  refine (ku HV).mono ?_;rintro e w1 ⟨rfl,h1,hk1⟩;obtain ⟨_,_,g2,g3,g4,_⟩:=zo (hk1.row (b:=w.heap.size) (by omega) (qy _ _));have HV2:=hide (zxr w1 B b lo tab l pa pn pc _ i h1 (yt (ku HO) (ku HN).nm (by decide) hk1) hl hs2');have HK:=hide hk1;clear h1 hk1 HV HO HN;unfold ptV at *;go_wp2_with fail
  refine (ku HV2).mono ?_;rintro e w2 ⟨rfl,h2,hk2⟩;have H2:=hide h2;have HK2:=hide hk2;clear h2 hk2;go_wp2
  go_end0
  rw[ku E];exact ⟨rfl,ku H2,((Kept.kq5 _).trans (ku HK)).trans (ku HK2)⟩
 ·clear hs2;go_wp2_with fail
  refine (ku HV).mono ?_;rintro e w1 ⟨rfl,h1,hk1⟩;obtain ⟨_,_,g2,g3,g4,_⟩:=zo (hk1.row (b:=w.heap.size) (by omega) (qy _ _));have H1:=hide h1;have HK:=hide hk1;clear h1 hk1 HV HO HN;go_wp2
  go_end0
  rw[ku E];exact ⟨rfl,ku H1,(Kept.kq5 _).trans (ku HK)⟩
theorem qwy (o:List UInt8):(opN o==4)=(o==[112,108,97,99,101]):=by
 unfold opN;cases hc:(o==[112,108,97,99,101])
 ·cases (o==[116,114,117,101])
  ·cases (o==[102,97,108,115,101])
   ·cases (o==[110,111,110,101])
    ·cases (o==[100,105,103,105,116])
     ·cases (o==[33])
      ·cases (o==[38])
       ·cases (o==[124])
        ·cases (o==[61,61])
         ·cases (o==[33,61])
          ·cases (o==[60])
           ·cases (o==[43])
            ·cases (o==[45])<;>rfl
            ·rfl
           ·rfl
          ·rfl
         ·rfl
        ·rfl
       ·rfl
      ·rfl
     ·rfl
    ·rfl
   ·rfl
  ·rfl
 ·have:o=[112,108,97,99,101]:=by simpa using hc
  subst this;rfl
def qxp (x:PX):Prop:=∀ (w:World) (B b lo xo:Nat) (tab:Tab) (l:List PP) (pa:Option Addr) (pn pc:Nat) (z:Int) (v:Value),Nm w B b tab (.slice pa pn pc) z→w.ownsRow lo 352 4 (.slice pa pn pc) l.length (jw l)→l.length≤1000 →
  XIs xo w x v→(∀ y∈jr x,y.text.size≤1000) →
  Calls Tryz.prog 160 #[.pointer (some ⟨B,0,none⟩),v] w fun e w'=>e=.returned (.tuple #[])∧Nm w' B b tab (.slice pa pn pc) ((jr x).foldl (kxs tab l) z)∧Kept B w w'
theorem jzp (i j:Nat)(x:ELab)(a c:PX)(iha:qxp a)(ihc:qxp c):qxp (.node i j x a c):=by
 intro w B b lo xo tab l pa pn pc z v h ho hl hX hs;obtain ⟨k,va,vb,rfl,hk,hh,ha,hb⟩:=hX;obtain ⟨p1,rfl⟩:=ha.ptr;obtain ⟨p2,rfl⟩:=hb.ptr;have E:=hide (show (jr (.node i j x a c)).foldl (kxs tab l) z=(jr c).foldl (kxs tab l) ((jr a).foldl (kxs tab l) ((qqd x).foldl (kxs tab l) z)) by rw[jr,lY,lY]);have hsa:∀ y∈jr a,y.text.size≤1000:=fun y hy=>hs y (by rw[jr];simp[hy])
 have hsc:∀ y∈jr c,y.text.size≤1000:=fun y hy=>hs y (by rw[jr];simp[hy])
 have hsp:∀ y∈qqd x,y.text.size≤1000:=fun y hy=>hs y (by rw[jr];simp[hy])
 have hh':=hh;unfold kku at hh;obtain ⟨⟨q0,q1,q2,q3,q4,q5,q6,q7,q8⟩,_⟩:=kxg hh;have hop:=qwy x.op.toList;have hkB:k≠B:=fun e=>by rw[e,h.nm] at hh';injection hh' with h1;injection h1 with h2 h3;exact absurd h3 (by decide)
 have HPL:=hide (fun e:qqd x=kjb x.name x.index=>zkz w B b lo tab l pa pn pc z x.name x.index h ho hl (by rw[←e];exact hsp));unfold pl5 at HPL;have HX:=hide hh;have HN:=hide h;have HO:=hide ho;have HA:=hide ha;have HB:=hide hb;have HSA:=hide hsa;have HSC:=hide hsc;have HL:=hide hl;clear h ho ha hb hsp hs hh hh' hl hsa hsc;go_enter Tryz.func160,Tryz.ntmps160
 generalize opN x.op.toList=o at *;generalize (!(x.index.kind.toList==[]))=d at *;cases hc:(o==4)
 ·rw[hc] at hop;rw[show (qqd x).foldl (kxs tab l) z=z by unfold qqd;rw[←hop];rfl] at E;clear hop;go_wp2_with fail
  refine (iha w B b lo xo tab l pa pn pc z _ (ku HN) (ku HO) (ku HL) (ku HA) (ku HSA)).mono ?_;rintro e w1 ⟨rfl,h1,hk1⟩;obtain ⟨⟨_,_,_,_,_,_,_,_,r8⟩,_⟩:=kxg (hk1.row hkB (ku HX));have HC:=hide (ihc w1 B b lo xo tab l pa pn pc _ _ h1 (yt (ku HO) (ku HN).nm (by decide) hk1) (ku HL) ((ku HB).nm (ku HN).nm (by decide) hk1) (ku HSC));have HK1:=hide hk1;clear h1 hk1 q0 q1 q2 q3 q4 q5 q6 q7 q8;go_wp2_with fail
  refine (ku HC).mono ?_;rintro e w2 ⟨rfl,h2,hk2⟩;have H2:=hide h2;have HK2:=hide hk2;clear h2 hk2;go_wp2
  go_end0
  rw[ku E];exact ⟨rfl,ku H2,(ku HK1).trans (ku HK2)⟩
 ·rw[hc] at hop;have hown:qqd x=kjb x.name x.index:=by unfold qqd;rw[←hop];rfl
  rw[hown] at E;have HPL':=hide ((ku HPL) hown);clear hop hown HPL;go_wp2_with fail
  refine (ku HPL').mono ?_;rintro e w1 ⟨rfl,h1,hk1⟩;obtain ⟨⟨_,_,_,_,_,_,_,r7,r8⟩,_⟩:=kxg (hk1.row hkB (ku HX));have HX1:=hide (hk1.row hkB (ku HX));have HO1:=hide (yt (ku HO) (ku HN).nm (by decide) hk1);have HA1:=hide ((ku HA).nm (ku HN).nm (by decide) hk1);have HB1:=hide ((ku HB).nm (ku HN).nm (by decide) hk1);have HN1:=hide h1;have HK1:=hide hk1;clear h1 hk1 q0 q1 q2 q3 q4 q5 q6 q7 q8 HN HO HA HB HX HPL';go_wp2_with fail
  refine (iha w1 B b lo xo tab l pa pn pc _ _ (ku HN1) (ku HO1) (ku HL) (ku HA1) (ku HSA)).mono ?_;rintro e w2 ⟨rfl,h2,hk2⟩;obtain ⟨⟨_,_,_,_,_,_,_,_,r8'⟩,_⟩:=kxg (hk2.row hkB (ku HX1));have HC:=hide (ihc w2 B b lo xo tab l pa pn pc _ _ h2 (yt (ku HO1) (ku HN1).nm (by decide) hk2) (ku HL) ((ku HB1).nm (ku HN1).nm (by decide) hk2) (ku HSC));have HK2:=hide hk2;clear h2 hk2 r7 r8;go_wp2_with fail
  refine (ku HC).mono ?_;rintro e w3 ⟨rfl,h3,hk3⟩;have H3:=hide h3;have HK3:=hide hk3;clear h3 hk3;go_wp2
  go_end0
  rw[ku E];exact ⟨rfl,ku H3,((ku HK1).trans (ku HK2)).trans (ku HK3)⟩
theorem kwb:∀ x:PX,qxp x
 | .nil=>fun w B b lo xo tab l pa pn pc z v h ho hl hX hs=>by
  have hp:v=.pointer none:=hX;subst hp;have HN:=hide h;clear h ho;go_enter Tryz.func160,Tryz.ntmps160
  go_wp2
  refine rY (results_none rfl _ _ _) rfl ?_;exact ⟨rfl,ku HN,Kept.refl _ _⟩
 | .node i j x a c=>jzp i j x a c (kwb a) (kwb c)
theorem BIs.nm {lo B:Nat}{no:Option Nat}{w w':World}{t:TypeId}{cs:Array Value}{fr:Nat × Nat}(hB:w.heap[B]?=some (.cells cs t fr))(he:t≠358)(he2:t≠334)(hk:Kept B w w'):∀ {b:PB} {xs:List Value},BIs lo no w b xs→BIs lo no w' b xs
 | .nil,_,h=>h
 | .node _ _ a .nil n,cs,⟨p,rest,e,hx,hn⟩=>⟨p,rest,e,hx.nm hB he hk,BIs.nm hB he he2 hk hn⟩
 | .node _ _ a (.node _ _ _ t e) n,cs,⟨p,ta,tn,tc,ea,en,ec,ct,ce,rest,e1,hx,⟨ht1,ht3,ht2⟩,⟨he1,he3,hee2⟩,hn⟩=>
  ⟨p,ta,tn,tc,ea,en,ec,ct,ce,rest,e1,hx.nm hB he hk,⟨yt ht1 hB he2 hk,ht3,BIs.nm hB he he2 hk ht2⟩,⟨yt he1 hB he2 hk,he3,BIs.nm hB he he2 hk hee2⟩,BIs.nm hB he he2 hk hn⟩
def vqo:PX→List Tok
 | .nil=>[jk]
 | .node _ _ x _ _=>kjb x.name x.index
theorem zjc:∀ x:PX,∃ n i:Tok,plC x=[.string n.text,.int .i64 n.at_,.bool (!(i.kind.toList==[])),.string i.text,.int .i64 i.at_]∧vqo x=kjb n i
 | .nil=>⟨jk,jk,by rw[kjh];rfl,by unfold kjb;rw[kjh];rfl⟩
 | .node _ _ x _ _=>⟨x.name,x.index,rfl,rfl⟩
def zh:PB→List Tok
 | .nil=>[]
 | .node _ _ a .nil n=>(vqo a.place++jr a.value)++zh n
 | .node _ _ a (.node _ _ _ t e) n=>((jr a.cond++zh t)++zh e)++zh n
def kke:PB→Prop
 | .nil=>True
 | .node _ _ a .nil n=>kke n
 | .node _ _ a (.node _ _ _ t e) n=>(kke t∧uz t≤1000)∧(kke e∧uz e≤1000)∧kke n
def kxy (b:PB):Prop:=∀ (w:World) (B bb lo so:Nat) (no:Option Nat) (tab:Tab) (l:List PP) (pa:Option Addr) (pn pc:Nat) (z:Int) (v:Value) (cs:List Value),Nm w B bb tab (.slice pa pn pc) z→w.ownsRow lo 352 4 (.slice pa pn pc) l.length (jw l)→l.length≤1000 →
  w.ownsRow so 334 9 v (uz b) cs→BIs so no w b cs→kke b→uz b≤1000→(∀ y∈zh b,y.text.size≤1000) →
  Calls Tryz.prog 161 #[.pointer (some ⟨B,0,none⟩),v] w fun e w'=>e=.returned (.tuple #[])∧Nm w' B bb tab (.slice pa pn pc) ((zh b).foldl (kxs tab l) z)∧Kept B w w'
def qv0:PB→Prop
 | .nil=>True
 | .node _ _ _ .nil n=>kxy .nil∧qv0 n
 | .node _ _ _ (.node _ _ _ t e) n=>kxy t∧kxy e∧qv0 n
def vkh (w:World)(B bb so:Nat)(no:Option Nat)(tab:Tab)(l:List PP)(ps:Value)(fin:Int)(len:Nat)(cs:List Value)(i:Value)(wr:World):Prop:=
 ∃ (k:Nat) (rest:PB) (a:Int),k+uz rest=len∧i=.int .i64 k∧BIs so no wr rest (cs.drop (k * 9))∧qv0 rest∧kke rest∧(∀ y∈zh rest,y.text.size≤1000)∧(zh rest).foldl (kxs tab l) a=fin∧Nm wr B bb tab ps a∧Kept B w wr
theorem kwh {cs st rest:List Value}{k:Nat}(h:cs.drop (k * 9)=st++rest)(hl:st.length=9):cs.drop ((k+1) * 9)=rest∧∀ j,j<9→cs[k * 9+j]?=st[j]?:=by
 constructor
 ·rw[show (k+1) * 9=k * 9+9 by omega,←nD,h,←hl,Qj]
 ·intro j hj;rw[←Qs,h,Qm (by omega)]
theorem kyh (b:PB)(hI:qv0 b):kxy b:=by
 intro w B bb lo so no tab l pa pn pc z v cs h ho hl hv hbi hbl hpl hs;have hBl:=wX h.nm;obtain ⟨xa,cap,rfl,hview⟩:=zq hv;have HW:=hide (show ∀ i,i<uz b→∃ g,xa=some ⟨g,0,none⟩∧g≠B∧∀ j,j<uz b * 9→w.cell? ⟨g,j,none⟩=cs[j]? from fun i hi=>by
  obtain ⟨g,rfl,_,_,hc⟩:=hview i hi;exact ⟨g,rfl,fun e=>not_row hv h.nm (by decide) (by rw[←e];rfl),hc⟩)
 have HR:=hide (show vkh w B bb so no tab l (.slice pa pn pc) ((zh b).foldl (kxs tab l) z) (uz b) cs (.int .i64 0) w from ⟨0,b,z,by omega,rfl,by simpa using hbi,hI,hbl,hs,rfl,h,Kept.refl _ _⟩);have HCL:=hide (show cs.length=uz b * 9 from hbi.len);have HN:=hide h;have HO:=hide ho;generalize (zh b).foldl (kxs tab l) z=fin at *;generalize uz b=len at *;clear h ho hview hv hbi hbl hs hI;go_enter Tryz.func161,Tryz.ntmps161
 go_wp2_with fail
 go_loopw [5,8] (fun _ i wr=>vkh w B bb so no tab l (.slice pa pn pc) fin len cs i wr) (fun _ i _=>len-(intOf i).toNat)
 case atStart=>exact ku HR
 case round=>
  obtain ⟨k,rest,a0,hk,rfl,hst,hIn,hbl,hs,hfin,hN,hK⟩:=hrel;have HNr:=hide hN;have HKr:=hide hK;have HOr:=hide (yt (ku HO) (ku HN).nm (by decide) hK);have HF:=hide hfin;have hsz:=hK.size;have hBr:=wX hN.nm;clear hN hK hfin;match rest,hst,hIn,hbl,hs,HF,hk with
  | .nil,hst,hIn,hbl,hs,HF,hk=>
   have hne:¬k<len:=by simp only[uz] at hk;omega
   clear hst hIn hbl hs hk;go_wp2
   go_end0
   exact ⟨rfl,by rw[←ku HF];exact ku HNr,ku HKr⟩
  | .node _ _ la .nil nx,hst,hIn,hbl,hs,HF,hk=>
   obtain ⟨p,rst,hd,hx,hnx⟩:=hst;have hlt:k<len:=by simp only[uz] at hk;omega
   obtain ⟨g,rfl,hgB,hc⟩:=ku HW k hlt;obtain ⟨n,i,hpc,hpn⟩:=zjc la.place;obtain ⟨hdr,hcc⟩:=kwh hd (kyk _ _ _ _ _);have cc:∀ j,j<9→∀ u,(stC false la (.pointer p) (.slice none 0 0) (.slice none 0 0))[j]?=some u→wr.cell? ⟨g,k * 9+j,none⟩=some u:=fun j hj u hu=>(ku HKr).cell (a:=⟨g,k * 9+j,none⟩) hgB ((hc (k * 9+j) (by omega)).trans ((hcc j hj).trans hu))
   unfold stC at cc;rw[hpc] at cc;have e0:=cc 0 (by omega) _ rfl;have e1:=cc 1 (by omega) _ rfl;have e2:=cc 2 (by omega) _ rfl;have e3:=cc 3 (by omega) _ rfl;have e4:=cc 4 (by omega) _ rfl;have e5:=cc 5 (by omega) _ rfl;have e6:=cc 6 (by omega) _ rfl;have e7:=cc 7 (by omega) _ rfl;have e8:=cc 8 (by omega) _ rfl;simp only[nV] at e0;have hsp:∀ y∈kjb n i,y.text.size≤1000:=fun y hy=>hs y (by rw[zh,hpn];simp[hy])
   have hsv:∀ y∈jr la.value,y.text.size≤1000:=fun y hy=>hs y (by rw[zh];simp[hy])
   have hsn:∀ y∈zh nx,y.text.size≤1000:=fun y hy=>hs y (by rw[zh];simp[hy])
   have HF2:=hide (show (zh nx).foldl (kxs tab l) ((jr la.value).foldl (kxs tab l) ((kjb n i).foldl (kxs tab l) a0))=fin by rw[←ku HF,zh,hpn,lY,lY]);have HB1:=hide (show BIs so no wr nx (cs.drop ((k+1) * 9)) by rw[hdr];exact hnx);have HX0:=hide hx;have HPL:=hide (zkz _ B bb lo tab l pa pn pc a0 n i ((ku HNr).alloc (.cells #[.bool false,.string n.text,.int .i64 n.at_,.bool (!(i.kind.toList==[])),.string i.text,.int .i64 i.at_,.pointer p,.slice none 0 0,.slice none 0 0] 334)) ((ku HOr).alloc _) hl hsp);have HNX:=hide (⟨hIn.2,hbl,hsn⟩:qv0 nx∧kke nx∧∀ y∈zh nx,y.text.size≤1000);have hnil:=hIn.1;have HSV:=hide hsv;have hkn:k+1+uz nx=len:=by simp only[uz] at hk;omega
   clear cc hc hcc hdr hd hpc hpn hs hsp hsn hx hnx hbl hIn HF HR HW HCL hk hsv;unfold pl5 at HPL;generalize (!(i.kind.toList==[]))=d at *;go_wp2_with fail
   refine (ku HPL).mono ?_;rintro e w2 ⟨rfl,h2,hk2⟩;have r2:=hk2.row (b:=wr.heap.size) (by omega) (qy _ _);obtain ⟨⟨_,_,_,_,_,_,r6,r7,r8⟩,_⟩:=kxg r2;have HR2:=hide r2;have HO2:=hide (yt ((ku HOr).alloc _) ((ku HNr).alloc _).nm (by decide) hk2);have HEX:=hide (kwb la.value w2 B bb lo so tab l pa pn pc _ _ h2 (ku HO2) hl (XIs.nm ((ku HNr).alloc _).nm (by decide) hk2 ((ku HX0).below (below_alloc1 _ _))) (ku HSV));have HK2:=hide ((Kept.kq5 _).trans hk2);have HN2:=hide h2;clear h2 hk2 r2 HPL e0 e1 e2 e3 e4 e5 e6 e7 e8 HX0 HSV;go_wp2_with fail
   refine (ku HEX).mono ?_;rintro e w3 ⟨rfl,h3,hk3⟩;have r3:=hk3.row (b:=wr.heap.size) (by omega) (ku HR2);obtain ⟨⟨_,_,_,_,_,_,_,t7,t8⟩,_⟩:=kxg r3;have HR3:=hide r3;have HO3:=hide (yt (ku HO2) (ku HN2).nm (by decide) hk3);have HK3:=hide ((ku HK2).trans hk3);have HN3:=hide h3;clear h3 hk3 r3 HEX r6 r7 r8 HR2 HO2 HN2 HK2;go_wp2_with fail
   refine (hnil w3 B bb lo so no tab l pa pn pc _ _ [] (ku HN3) (ku HO3) hl (rP _ _ _ _) rfl trivial (by simp[uz]) (by simp[zh])).mono ?_;rintro e w4 ⟨rfl,h4,hk4⟩;have r4:=hk4.row (b:=wr.heap.size) (by omega) (ku HR3);obtain ⟨⟨_,_,_,_,_,_,_,_,s8⟩,_⟩:=kxg r4;have HO4:=hide (yt (ku HO3) (ku HN3).nm (by decide) hk4);have HK4:=hide ((ku HK3).trans hk4);have HN4:=hide h4;clear h4 hk4 r4 t7 t8 HR3 HO3 HN3 HK3;go_wp2_with fail
   refine (hnil w4 B bb lo so no tab l pa pn pc _ _ [] (ku HN4) (ku HO4) hl (rP _ _ _ _) rfl trivial (by simp[uz]) (by simp[zh])).mono ?_;rintro e w5 ⟨rfl,h5,hk5⟩;have HK5:=hide ((ku HK4).trans hk5);have HN5:=hide h5;clear h5 hk5 s8 HO4 HN4 HK4;go_wp2
   go_roundw
   case rel=>exact ⟨k+1,nx,_,hkn,by go_num,(ku HB1).nm (ku HNr).nm (by decide) (by decide) (ku HK5),(ku HNX).1,(ku HNX).2.1,(ku HNX).2.2,ku HF2,ku HN5,(ku HKr).trans (ku HK5)⟩
   case measure=>simp[intOf];omega
  | .node _ _ la (.node _ _ _ t e) nx,hst,hIn,hbl,hs,HF,hk=>
   obtain ⟨p,ta,tn,tc,ea,en,ec,ct,ce,rst,hd,hx,⟨ht1,_,ht2⟩,⟨he1,_,he2⟩,hnx⟩:=hst;have hlt:k<len:=by simp only[uz] at hk;omega
   obtain ⟨g,rfl,hgB,hc⟩:=ku HW k hlt;obtain ⟨n,i,hpc,hpn⟩:=zjc la.place;obtain ⟨hdr,hcc⟩:=kwh hd (kyk _ _ _ _ _);have cc:∀ j,j<9→∀ u,(stC true la (.pointer p) (.slice ta tn tc) (.slice ea en ec))[j]?=some u→wr.cell? ⟨g,k * 9+j,none⟩=some u:=fun j hj u hu=>(ku HKr).cell (a:=⟨g,k * 9+j,none⟩) hgB ((hc (k * 9+j) (by omega)).trans ((hcc j hj).trans hu))
   unfold stC at cc;rw[hpc] at cc;have e0:=cc 0 (by omega) _ rfl;have e1:=cc 1 (by omega) _ rfl;have e2:=cc 2 (by omega) _ rfl;have e3:=cc 3 (by omega) _ rfl;have e4:=cc 4 (by omega) _ rfl;have e5:=cc 5 (by omega) _ rfl;have e6:=cc 6 (by omega) _ rfl;have e7:=cc 7 (by omega) _ rfl;have e8:=cc 8 (by omega) _ rfl;simp only[nV] at e0;have hsc:∀ y∈jr la.cond,y.text.size≤1000:=fun y hy=>hs y (by rw[zh];simp[hy])
   have hstt:∀ y∈zh t,y.text.size≤1000:=fun y hy=>hs y (by rw[zh];simp[hy])
   have hse:∀ y∈zh e,y.text.size≤1000:=fun y hy=>hs y (by rw[zh];simp[hy])
   have hsn:∀ y∈zh nx,y.text.size≤1000:=fun y hy=>hs y (by rw[zh];simp[hy])
   have HF2:=hide (show (zh nx).foldl (kxs tab l) ((zh e).foldl (kxs tab l) ((zh t).foldl (kxs tab l) ((jr la.cond).foldl (kxs tab l) a0)))=fin by rw[←ku HF,zh,lY,lY,lY]);have HB1:=hide (show BIs so no wr nx (cs.drop ((k+1) * 9)) by rw[hdr];exact hnx);have HT:=hide (⟨ht1,ht2,hbl.1.1,hbl.1.2,hstt,hIn.1⟩:wr.ownsRow so 334 9 (.slice ta tn tc) (uz t) ct∧BIs so no wr t ct∧kke t∧uz t≤1000∧(∀ y∈zh t,y.text.size≤1000)∧kxy t);have HE:=hide (⟨he1,he2,hbl.2.1.1,hbl.2.1.2,hse,hIn.2.1⟩:wr.ownsRow so 334 9 (.slice ea en ec) (uz e) ce∧BIs so no wr e ce∧kke e∧uz e≤1000∧(∀ y∈zh e,y.text.size≤1000)∧kxy e);have HEX:=hide (kwb la.cond _ B bb lo so tab l pa pn pc a0 _ ((ku HNr).alloc (.cells #[.bool true,.string n.text,.int .i64 n.at_,.bool (!(i.kind.toList==[])),.string i.text,.int .i64 i.at_,.pointer p,.slice ta tn tc,.slice ea en ec] 334)) ((ku HOr).alloc _) hl (hx.below (below_alloc1 _ _)) hsc);have HNX:=hide (⟨hIn.2.2,hbl.2.2,hsn⟩:qv0 nx∧kke nx∧∀ y∈zh nx,y.text.size≤1000);have hkn:k+1+uz nx=len:=by simp only[uz] at hk;omega
   clear cc hc hcc hdr hd hpc hpn hs hsc hsn hx hnx hbl hIn HF HR HW HCL hk hstt hse ht1 ht2 he1 he2;generalize (!(i.kind.toList==[]))=d at *;go_wp2_with fail
   refine (ku HEX).mono ?_;rintro e' w3 ⟨rfl,h3,hk3⟩;have r3:=hk3.row (b:=wr.heap.size) (by omega) (qy _ _);obtain ⟨⟨_,_,_,_,_,_,_,t7,t8⟩,_⟩:=kxg r3;have HR3:=hide r3;have HO3:=hide (yt ((ku HOr).alloc _) ((ku HNr).alloc _).nm (by decide) hk3);have HK3:=hide ((Kept.kq5 _).trans hk3);have HN3:=hide h3;clear h3 hk3 r3 HEX e0 e1 e2 e3 e4 e5 e6 e7 e8;go_wp2_with fail
   refine ((ku HT).2.2.2.2.2 w3 B bb lo so no tab l pa pn pc _ _ ct (ku HN3) (ku HO3) hl (yt (ku HT).1 (ku HNr).nm (by decide) (ku HK3)) ((ku HT).2.1.nm (ku HNr).nm (by decide) (by decide) (ku HK3)) (ku HT).2.2.1 (ku HT).2.2.2.1 (ku HT).2.2.2.2.1).mono ?_;rintro e' w4 ⟨rfl,h4,hk4⟩;have r4:=hk4.row (b:=wr.heap.size) (by omega) (ku HR3);obtain ⟨⟨_,_,_,_,_,_,_,_,s8⟩,_⟩:=kxg r4;have HO4:=hide (yt (ku HO3) (ku HN3).nm (by decide) hk4);have HK4:=hide ((ku HK3).trans hk4);have HN4:=hide h4;clear h4 hk4 r4 t7 t8 HR3 HO3 HN3 HK3 HT;go_wp2_with fail
   refine ((ku HE).2.2.2.2.2 w4 B bb lo so no tab l pa pn pc _ _ ce (ku HN4) (ku HO4) hl (yt (ku HE).1 (ku HNr).nm (by decide) (ku HK4)) ((ku HE).2.1.nm (ku HNr).nm (by decide) (by decide) (ku HK4)) (ku HE).2.2.1 (ku HE).2.2.2.1 (ku HE).2.2.2.2.1).mono ?_;rintro e' w5 ⟨rfl,h5,hk5⟩;have HK5:=hide ((ku HK4).trans hk5);have HN5:=hide h5;clear h5 hk5 s8 HO4 HN4 HK4 HE;go_wp2
   go_roundw
   case rel=>exact ⟨k+1,nx,_,hkn,by go_num,(ku HB1).nm (ku HNr).nm (by decide) (by decide) (ku HK5),(ku HNX).1,(ku HNX).2.1,(ku HNX).2.2,ku HF2,ku HN5,(ku HKr).trans (ku HK5)⟩
   case measure=>simp[intOf];omega
theorem jzm:kxy .nil:=kyh .nil trivial
theorem kws:∀ b:PB,qv0 b
 | .nil=>trivial
 | .node _ _ _ .nil n=>⟨jzm,kws n⟩
 | .node _ _ _ (.node _ _ _ t e) n=>⟨kyh t (kws t),kyh e (kws e),kws n⟩
theorem jzh (b:PB):kxy b:=kyh b (kws b)
theorem qye {w:World}{p:Addr}{v:Value}(o:Obj)(h:w.cell? p=some v)(hp:p.block<w.heap.size):(w.alloc o).cell? p=some v:=((below_alloc1 w o).cell hp).trans h
def qji:List PP→List UInt8→Nat
 | [],_=>0
 | p::l,s=>if p.name.text.toList==s then 0 else qji l s+1
theorem zv2:∀ (l:List PP) (k:Nat) (s:List UInt8),k≤l.length→(∀ i (hi:i<l.length),i<k→(l[i].name.text.toList==s)=false)→qji l s=k+qji (l.drop k) s
 | [],k,s,hk,_=>by simp at hk;subst hk;simp
 | p::l,0,s,_,_=>by simp
 | p::l,k+1,s,hk,h=>by
  have h0:=h 0 (by simp) (by omega);simp only[fB] at h0;have:=zv2 l k s (by simpa using hk) (fun i hi hk=>by have:=h (i+1) (by simpa using hi) (by omega);simpa using this);rw[qji,h0,QU];simp;omega
def zx7 (vars:List MVar)(tab:uq)(l:List PP)(ms st:List Int)(s:List UInt8):Option Int:=
 if fpB l s then (ms[qji l s]?).bind fun m=>(small m).map (·+1)
 else if (kjt tab s).isVar then (vars[(kjt tab s).num]?).bind fun v=>(st[v.first]?).bind small
 else some (kjt tab s).num
theorem qym (w:World)(lo R M nb:Nat)(vars:List MVar)(tab:uq)(l:List PP)(ms st:List Int)(sv:Value)(b:Bool)(n:Tok)(h:Rn lo w R M nb vars tab l ms st sv b)(hv:vars.length≤1000)(hpl:l.length≤1000)(hs:n.text.size≤1000)(fin:Int)(hfin:zx7 vars tab l ms st n.text.toList=some fin) :
  Calls Tryz.prog 256 #[.pointer (some ⟨R,0,none⟩),ptV n] w fun e w'=>e=.returned (.int .i64 fin)∧Below w.heap.size w w':=by
 obtain ⟨W,hW⟩:∃ W,W=w.alloc (.cells #[.string n.text,.int .i64 n.at_] 107):=⟨_,rfl⟩;have hbW:Below w.heap.size w W:=by rw[hW];exact below_alloc1 w _
 have hsW:w.heap.size<W.heap.size:=by rw[hW];simp
 have HNM:=hide (show W.heap[w.heap.size]?=some (.cells #[.string n.text,.int .i64 n.at_] 107 (0,0)) by rw[hW];exact qy _ _);have HRN:=hide (h.below hbW);have hsR:R<w.heap.size:=by obtain ⟨⟨tx,pa,pn,pc,ma,mn,mc,hR,_,_⟩,_⟩:=h;exact wX hR
 obtain ⟨⟨tx,pa,pn,pc,ma,mn,mc,hR,hP,hMm⟩,hmc,hst⟩:=h.below hbW;obtain ⟨xa,cap,e1,hview⟩:=zq hP;injection e1 with ea en ec;subst ea;subst en;subst ec;obtain ⟨ya,yc,e2,hview2⟩:=zq hMm;injection e2 with ea en ec;subst ea;subst en;subst ec;obtain ⟨za,zc,e3,hview3⟩:=zq hst;subst e3;have HR:=hide hR;have HW:=hide hview;have HW2:=hide hview2;have HW3:=hide hview3;have HBW:=hide hbW;have HWE:=hide hW.symm;have E:=hide (show (if fpB l n.text.toList then (ms[qji l n.text.toList]?).bind fun m=>(small m).map (·+1)
 else if (kjt tab n.text.toList).isVar then (vars[(kjt tab n.text.toList).num]?).bind fun v=>(st[v.first]?).bind small
 else some ((kjt tab n.text.toList).num:Int))=some fin from hfin)
 have r2:w.cell? ⟨R,2,none⟩=some (.slice pa l.length pc):=by
  have:=(kvt hR).2.2.1;rwa [hbW.cell (p:=⟨R,2,none⟩) hsR] at this
 clear hview hview2 hview3 hbW hW hR hP hMm hmc hst h hfin;unfold ptV;go_enter Tryz.func256,Tryz.ntmps256
 go_wp2_with fail
 rw[ku HWE];go_loopw [5,6,14] (fun _ _ i wr=>∃ k:Nat,k≤l.length∧i=.int .i64 k∧(∀ i (hi:i<l.length),i<k→(l[i].name.text.toList==n.text.toList)=false)∧Below W.heap.size W wr) (fun _ _ i _=>l.length-(intOf i).toNat)
 case atStart=>exact ⟨0,tu _,rfl,fun i _ h=>by omega,Below.refl _ _⟩
 case round=>
  obtain ⟨k,hk,rfl,hno,hb⟩:=hrel;have HNO:=hide hno;have HB:=hide hb;have hsz:=hb.size;have hnm:=(hb.block w.heap.size (by omega)).trans (ku HNM);obtain ⟨m0,m1,_,_⟩:=yj hnm;obtain ⟨r0,r1,r2,r3,r4,r5,_⟩:=kvt ((hb.block R (by omega)).trans (ku HR));have hml:=wX hnm;have hRr:R<wr.heap.size:=by omega
  clear hno hnm;by_cases hlt:k<l.length
  ·obtain ⟨g,rfl,hg1,hg2,hc⟩:=ku HW k hlt;have fl:=fun j (hj:j<4)=>kjx kjr 4 (fun _=>rfl) l k j hlt hj
   have cc:∀ j,j<l.length * 4→wr.cell? ⟨g,j,none⟩=(jw l)[j]?:=fun j hj=>(hb.cell (p:=⟨g,j,none⟩) hg2).trans (hc j hj)
   have e0:=(cc (k * 4+0) (by omega)).trans (fl 0 (by omega));have e1:=(cc (k * 4+1) (by omega)).trans (fl 1 (by omega));have e2:=(cc (k * 4+2) (by omega)).trans (fl 2 (by omega));have e3:=(cc (k * 4+3) (by omega)).trans (fl 3 (by omega));simp only[kjr,sW,sK,nV] at e0 e1 e2 e3;have hfx:=zv2 l k n.text.toList hk (ku HNO);rw[sQ hlt] at hfx;have hP:=qvt l k n.text.toList (ku HNO);rw[sQ hlt] at hP;have HP:=hide hP.2;have HF:=hide hfx;have HST:=hide (fun (hq:(l[k].name.text.toList==n.text.toList)=false)=>(show ∀ i (hi:i<l.length),i<k+1→(l[i].name.text.toList==n.text.toList)=false from fun i hi h=>by
    by_cases e:i=k
    ·subst e;exact hq
    ·exact (ku HNO) i hi (by omega)))
   generalize l[k]=p at e0 e1 e2 e3 HP HST HF;clear cc fl hc hP hfx;cases hq:(p.name.text.toList==n.text.toList)
   ·have HS2:=hide ((ku HST) hq);clear hb;go_wp2
    go_roundw
    case rel=>exact ⟨k+1,by omega,by go_num,ku HS2,(ku HB).alloc hsz _⟩
    case measure=>simp[intOf];omega
   ·have h1:=ku E;rw[ku HP,ku HF,show fpB (p::l.drop (k+1)) n.text.toList=true by simp[fpB,hq],show qji (p::l.drop (k+1)) n.text.toList=0 by simp[qji,hq],if_pos rfl,nV] at h1;obtain ⟨mk,hmk,h2⟩:=wQ.mp h1;obtain ⟨y,h3,h4⟩:=rQ.mp h2;obtain ⟨rfl,hy1,hy2⟩:=kvm h3;obtain ⟨hkm,hme⟩:=nJ.mp hmk;obtain ⟨g',rfl,hg1',hg2',hc'⟩:=ku HW2 k hkm;have d0:=(hb.cell (p:=⟨g',k,none⟩) hg2').trans (hc' k (by omega));rw[lq,hmk,Option.map_some] at d0;have hgr:g'<wr.heap.size:=by omega
    have H4:=hide h4;clear hb hc' h1 h2 h3 h4 hmk hme;go_wp2
    go_ret
    refine ⟨kvd ?_,?_⟩
    ·rw[←ku H4]
    ·exact (((ku HBW).trans ((ku HB).mono (by omega))).alloc (by omega) _)
  ·have hP:=(qvt l l.length n.text.toList (fun i hi _=>(ku HNO) i hi (by omega))).2;rw[lW] at hP;have h1:=ku E;rw[show fpB l n.text.toList=false from hP,if_neg (by simp)] at h1;have hRN:=(ku HRN).below hb;have hl:=qqm hRN.mc.tab hs;have hl1:=qqm (hRN.below (Below.refl _ _).drew).mc.tab hs;have hl2:=qqm (hRN.below ((Below.refl _ _).alloc (wW _) (.cells #[.bool false,.int .i64 0] 116)).drew).mc.tab hs;obtain ⟨⟨y0,y1,y2,y3,y4,y5,y6,hMb,_,_⟩,_⟩:=hRN.mc;obtain ⟨_,_,_,_,m4,_⟩:=kvt hMb;have hMl:=wX hMb;clear hMb;cases hiv:(kjt tab n.text.toList).isVar
   ·rw[hiv,if_neg (by simp)] at h1;injection h1 with h1;have H1:=hide h1;unfold kw9 at hl hl1 hl2;rw[hiv] at hl hl1 hl2;generalize (kjt tab n.text.toList).num=q at *;clear h1 hP hRN hb;go_wp2
    go_region
    all_goals
     go_wp2
     go_ret
     exact ⟨kvd (ku H1),(((ku HBW).trans ((ku HB).mono (by omega))).alloc (by omega) _).drew⟩
   ·rw[hiv,if_pos rfl] at h1;obtain ⟨v,hv1,h2⟩:=wQ.mp h1;obtain ⟨x,hx,h3⟩:=wQ.mp h2;obtain ⟨rfl,hy1,hy2⟩:=kvm h3;obtain ⟨hxl,hxe⟩:=nJ.mp hx;obtain ⟨g,rfl,hg1,hg2,hc⟩:=ku HW3 v.first hxl;have d0:=(hb.cell (p:=⟨g,v.first,none⟩) hg2).trans (hc v.first (by omega));rw[lq,hx,Option.map_some] at d0;have hgr:g<wr.heap.size:=by omega
    unfold kw9 at hl hl1 hl2;rw[hiv] at hl hl1 hl2;have HVA:=hide (fun w' (hb':Below wr.heap.size wr w')=>kyi w' lo R M nb vars tab l ms st _ b n (hRN.below hb') hs v hv1 hv);have hmf:=jwz v;generalize (kjt tab n.text.toList).num=q at *;clear hb hc h1 h2 h3 hP hRN hv1 hx hxe;go_upto_region 10 with fail
    go_region
    all_goals
     go_upto_region 10 with fail
     go_region_held3 (fun w'=>w'.cell? ⟨R,4,none⟩=some (.slice (some ⟨g,0,none⟩) st.length zc)∧w'.cell? ⟨w.heap.size,0,none⟩=some (.string n.text)∧w'.cell? ⟨w.heap.size,1,none⟩=some (.int .i64 n.at_)∧w'.cell? ⟨g,v.first,none⟩=some (.int .u8 fin))
      (first|exact ⟨z0,z1,z2,z3⟩|exact ⟨qye _ r4 hRr,qye _ m0 hml,qye _ m1 hml,qye _ d0 hgr⟩)
      ((go_at_call 233;refine ((ku HVA) _ (((Below.refl _ _).alloc (wW _) _).drew.drew)).mono ?_;rintro e w2 ⟨ta,tc,rfl,_,hb2⟩;have z0:=(hb2.cell (p:=⟨R,4,none⟩) (by simp;omega)).trans (qye _ r4 hRr);have z1:=(hb2.cell (p:=⟨w.heap.size,0,none⟩) (by simp;omega)).trans (qye _ m0 hml);have z2:=(hb2.cell (p:=⟨w.heap.size,1,none⟩) (by simp;omega)).trans (qye _ m1 hml);have z3:=(hb2.cell (p:=⟨g,v.first,none⟩) (by simp;omega)).trans (qye _ d0 hgr);have HB2:=hide hb2;clear hb2;dsimp only))
     go_wp2
     go_ret
     exact ⟨kvd (by rw[nK];omega),((((ku HBW).trans ((ku HB).mono (by omega))).alloc (by omega) _).drew.drew).trans ((ku HB2).mono (by simp;omega))⟩
theorem zqv {w:World}{k R:Nat}{cs cs':Array Value}{t t':TypeId}{fr fr':Nat × Nat}(h:w.heap[k]?=some (.cells cs t fr))(hR:w.heap[R]?=some (.cells cs' t' fr'))(he:t'≠t):k≠R:=fun e=>by
 rw[e,hR] at h;injection h with h1;injection h1 with h2 h3;exact he h3
theorem Mc.nm {lo:Nat}{w w':World}{M nb R:Nat}{vars:List MVar}{tab:uq}{cs':Array Value}{t:TypeId}{fr:Nat × Nat}(h:Mc lo w M nb vars tab)(hR:w.heap[R]?=some (.cells cs' t fr))(h1:t≠105)(h2:t≠213)(h3:t≠9)(hk:Kept R w w'):Mc lo w' M nb vars tab:=by
 obtain ⟨⟨x0,x1,x2,va,vc,z,cs,hM,hO,hV⟩,hT⟩:=h;refine ⟨⟨x0,x1,x2,va,vc,z,cs,(hk.block M (wX hM) (zqv hM hR h1)).trans hM,yt hO hR h2 hk,hV.stay fun k e cs fr hh he=>hk.block k (wX hh) (zqv hh hR (by rw[he];exact h3))⟩,hT.stay (hk.block nb hT.lt ?_)⟩;obtain ⟨⟨es,c,h5,_⟩,_⟩:=hT;intro e;rw[e,hR] at h5;injection h5 with h6;cases h6
theorem Rn.wrong {lo:Nat}{w:World}{R M nb:Nat}{vars:List MVar}{tab:uq}{l:List PP}{ms st:List Int}{sv:Value}{b:Bool}(h:Rn lo w R M nb vars tab l ms st sv b)(c:Bool):Rn lo (w.setCell ⟨R,5,none⟩ (.bool c)) R M nb vars tab l ms st sv c:=by
 obtain ⟨⟨tx,pa,pn,pc,ma,mn,mc,hR,hP,hM⟩,hmc,hst⟩:=h;have hk:Kept R w (w.setCell ⟨R,5,none⟩ (.bool c)):=(Kept.refl _ _).kki 5 _;exact ⟨⟨tx,pa,pn,pc,ma,mn,mc,heap_setCell_same _ R 5 _ _ _ hR,yt hP hR (by decide) hk,yt hM hR (by decide) hk⟩,hmc.nm hR (by decide) (by decide) (by decide) hk,yt hst hR (by decide) hk⟩
theorem Rn.lt {lo:Nat}{w:World}{R M nb:Nat}{vars:List MVar}{tab:uq}{l:List PP}{ms st:List Int}{sv:Value}{b:Bool}(h:Rn lo w R M nb vars tab l ms st sv b):R<w.heap.size:=by
 obtain ⟨⟨tx,pa,pn,pc,ma,mn,mc,hR,_⟩,_⟩:=h;exact wX hR
theorem Rn.cells {lo:Nat}{w:World}{R M nb:Nat}{vars:List MVar}{tab:uq}{l:List PP}{ms st:List Int}{sv:Value}{b:Bool}(h:Rn lo w R M nb vars tab l ms st sv b):w.cell? ⟨R,1,none⟩=some (.pointer (some ⟨M,0,none⟩))∧w.cell? ⟨R,4,none⟩=some sv∧w.cell? ⟨R,5,none⟩=some (.bool b)∧w.frozen? ⟨R,5,none⟩=false:=by
 obtain ⟨⟨tx,pa,pn,pc,ma,mn,mc,hR,_⟩,_⟩:=h;obtain ⟨_,a,_,_,b,c,_,_,_,_,_,d⟩:=kvt hR;exact ⟨a,b,c,d⟩
theorem Rn.orF {lo:Nat}{w:World}{R M nb:Nat}{vars:List MVar}{tab:uq}{l:List PP}{ms st:List Int}{sv:Value}{b:Bool}(h:Rn lo w R M nb vars tab l ms st sv b):Rn lo w R M nb vars tab l ms st sv (b||false):=by rw[nM];exact h
def atO (vars:List MVar)(tab:uq)(l:List PP)(ms st:List Int)(v:MVar)(i:Tok):Option (Int × Bool):=
 if i.kind.toList==[] then some (v.first,false)
 else (zx7 vars tab l ms st i.text.toList).bind fun x=>if x==0 then some (v.first,true) else (small x).bind fun _=>(small v.first).map fun _=>((v.first:Int)+x-1,false)
theorem jkf (w:World)(lo R M nb:Nat)(vars:List MVar)(tab:uq)(l:List PP)(ms st:List Int)(sv:Value)(b:Bool)(v:MVar)(ta:Option Addr)(tc:Nat)(n i:Tok)(h:Rn lo w R M nb vars tab l ms st sv b)(hv:vars.length≤1000)(hpl:l.length≤1000)(hs:(i.kind.toList==[])=false→i.text.size≤1000)(r:Int × Bool)(hr:atO vars tab l ms st v i=some r) :
  Calls Tryz.prog 234 #[.pointer (some ⟨R,0,none⟩),.agg (kxb v ta tc),pl5 n i] w fun e w'=>e=.returned (.int .i64 r.1)∧Rn lo w' R M nb vars tab l ms st sv (b||r.2)∧Kept R w w':=by
 unfold kxb pl5;unfold atO at hr;cases hk:(i.kind.toList==[])
 ·rw[hk,if_neg (by simp)] at hr;obtain ⟨x,hx,hr⟩:=wQ.mp hr;obtain ⟨W,hW⟩:∃ W,W=(w.alloc (.cells #[.int .i64 v.first,.int .i64 v.count,.slice ta v.texts.length tc,.int .i64 v.over,.int .i64 v.of_] 213)).alloc (.cells #[.string n.text,.int .i64 n.at_,.bool true,.string i.text,.int .i64 i.at_] 332):=⟨_,rfl⟩;have hbW:Below w.heap.size w W:=by rw[hW];exact (below_alloc1 w _).trans ((below_alloc1 _ _).mono (by simp))
  have hsW:w.heap.size+1<W.heap.size:=by rw[hW];simp
  have hv0:W.heap[w.heap.size]?=some (.cells #[.int .i64 v.first,.int .i64 v.count,.slice ta v.texts.length tc,.int .i64 v.over,.int .i64 v.of_] 213 (0,0)):=by rw[hW];exact qp (qy _ _)
  have hp0:W.heap[w.heap.size+1]?=some (.cells #[.string n.text,.int .i64 n.at_,.bool true,.string i.text,.int .i64 i.at_] 332 (0,0)):=by
   rw[hW];have:=qy (w.alloc (.cells #[.int .i64 v.first,.int .i64 v.count,.slice ta v.texts.length tc,.int .i64 v.over,.int .i64 v.of_] 213)) (.cells #[.string n.text,.int .i64 n.at_,.bool true,.string i.text,.int .i64 i.at_] 332);simp only[tJ] at this;exact this
  have HSG:=hide (qym W lo R M nb vars tab l ms st sv b i (h.below hbW) hv hpl (hs hk) x hx);have HRN:=hide (h.below hbW);have HV0:=hide hv0;have HBW:=hide hbW;have HWE:=hide hW.symm;obtain ⟨p0,p1,p2,p3,p4,_⟩:=zo hp0;have HR:=hide hr;clear hr hx hs h hv0 hp0 hbW hW;unfold ptV at HSG;go_enter Tryz.func234,Tryz.ntmps234
  go_wp2_with fail
  rw[ku HWE];refine (ku HSG).mono ?_;rintro e w1 ⟨rfl,hb1⟩;have hs1:=hb1.size;obtain ⟨v0,v1,v2,v3,v4,_⟩:=zo ((hb1.block w.heap.size (by omega)).trans (ku HV0));have h1:=(ku HRN).below hb1;have hb01:=(ku HBW).trans (hb1.mono (Qv (Nat.lt_trans (Nat.lt_succ_self _) hsW)));have hRl:=h1.lt;obtain ⟨c1,c4,c5,cf⟩:=h1.cells;have H1:=hide h1;have HB1:=hide hb01;have hr:=ku HR;cases hx0:(x==0)
  ·rw[hx0,if_neg (by simp)] at hr;obtain ⟨y,hy,hr⟩:=wQ.mp hr;obtain ⟨z,hz,hr⟩:=rQ.mp hr;obtain ⟨_,hy1,hy2⟩:=kvm hy;obtain ⟨_,hz1,hz2⟩:=kvm hz;subst hr;clear hb1 h1 hb01 HR HSG HRN HBW hy hz p0 p1 p2 p3 p4;go_wp2
   go_ret
   exact ⟨rfl,ku H1,Kept.of_below (ku HB1)⟩
  ·rw[hx0,if_pos rfl] at hr;injection hr with hr;subst hr;clear hb1 h1 hb01 HR HSG HRN HBW p0 p1 p2 p3 p4;go_wp2
   go_ret
   exact ⟨rfl,(ku H1).wrong true,(Kept.of_below (ku HB1)).kki _ _⟩
 ·rw[hk,if_pos rfl] at hr;injection hr with hr;subst hr;have HR:=hide (fun (w':World) (hb:Below w.heap.size w w')=>(show Rn lo w' R M nb vars tab l ms st sv (b||false) by rw[nM];exact h.below hb));clear h hs;go_enter Tryz.func234,Tryz.ntmps234
  go_wp2
  go_ret
  have hb2:Below w.heap.size w ((w.alloc (.cells #[.int .i64 v.first,.int .i64 v.count,.slice ta v.texts.length tc,.int .i64 v.over,.int .i64 v.of_] 213)).alloc (.cells #[.string n.text,.int .i64 n.at_,.bool false,.string i.text,.int .i64 i.at_] 332)):=(below_alloc1 w _).trans ((below_alloc1 _ _).mono (by simp));exact ⟨rfl,(ku HR) _ hb2,Kept.of_below hb2⟩
def zju (vars:List MVar)(tab:uq)(l:List PP)(ms st:List Int)(n i:Tok):Option (Int × Bool):=
 if i.kind.toList==[] then (zx7 vars tab l ms st n.text.toList).map fun x=>(x,false)
 else (vars[(kjt tab n.text.toList).num]?).bind fun v=>(atO vars tab l ms st v i).bind fun p=>if p.1<0 then none else (st[p.1.toNat]?).bind fun x=>(small x).map fun y=>(y,p.2)
def qja (vars:List MVar)(tab:uq)(l:List PP)(ms st:List Int):PX→Option (Int × Bool)
 | .nil=>none
 | .node _ _ x a c=>
  if opN x.op.toList==0 then some (1,false) else if (opN x.op.toList==1||opN x.op.toList==2) then some (0,false) else if opN x.op.toList==3 then some (x.n,false)
  else if opN x.op.toList==4 then zju vars tab l ms st x.name x.index
  else if opN x.op.toList==5 then (qja vars tab l ms st a).bind fun p=>(small p.1).map fun _=>(1-p.1,p.2)
  else (qja vars tab l ms st a).bind fun p=>(qja vars tab l ms st c).bind fun q=>(small p.1).bind fun _=>(small q.1).map fun _=>(kz5 (opN x.op.toList) p.1 q.1,p.2||q.2)
def jvz:Prop:=∀ (w:World) (lo R M nb:Nat) (vars:List MVar) (tab:uq) (l:List PP) (ms st:List Int) (sv:Value) (b:Bool) (n i:Tok),Rn lo w R M nb vars tab l ms st sv b→vars.length≤1000→l.length≤1000→(∀ y∈kjb n i,y.text.size≤1000) →
  ∀ r:Int × Bool,zju vars tab l ms st n i=some r →
  Calls Tryz.prog 231 #[.pointer (some ⟨R,0,none⟩),pl5 n i] w fun e w'=>e=.returned (.int .i64 r.1)∧Rn lo w' R M nb vars tab l ms st sv (b||r.2)∧Kept R w w'
def zqd (x:PX):Prop:=∀ (w:World) (lo xo R M nb:Nat) (vars:List MVar) (tab:uq) (l:List PP) (ms st:List Int) (sv:Value) (b:Bool) (v:Value),Rn lo w R M nb vars tab l ms st sv b→vars.length≤1000→l.length≤1000→XIs xo w x v→(∀ y∈jr x,y.text.size≤1000) →
  ∀ r:Int × Bool,qja vars tab l ms st x=some r →
  Calls Tryz.prog 190 #[.pointer (some ⟨R,0,none⟩),v] w fun e w'=>e=.returned (.int .i64 r.1)∧Rn lo w' R M nb vars tab l ms st sv (b||r.2)∧Kept R w w'
theorem Rn.blk {lo:Nat}{w:World}{R M nb:Nat}{vars:List MVar}{tab:uq}{l:List PP}{ms st:List Int}{sv:Value}{b:Bool}(h:Rn lo w R M nb vars tab l ms st sv b):∃ cs fr,w.heap[R]?=some (.cells cs 269 fr):=by
 obtain ⟨⟨tx,pa,pn,pc,ma,mn,mc,hR,_⟩,_⟩:=h;exact ⟨_,_,hR⟩
theorem Rn.drew {lo:Nat}{w:World}{R M nb:Nat}{vars:List MVar}{tab:uq}{l:List PP}{ms st:List Int}{sv:Value}{b:Bool}(h:Rn lo w R M nb vars tab l ms st sv b):Rn lo w.drew R M nb vars tab l ms st sv b:=h.below (Below.refl _ _).drew
theorem Rn.or2 {lo:Nat}{w:World}{R M nb:Nat}{vars:List MVar}{tab:uq}{l:List PP}{ms st:List Int}{sv:Value}{b c d:Bool}(h:Rn lo w R M nb vars tab l ms st sv (b||c||d)):Rn lo w R M nb vars tab l ms st sv (b||(c||d)):=by rw[←Q7];exact h
theorem Rn.vvz {lo:Nat}{w:World}{R M nb:Nat}{vars:List MVar}{tab:uq}{l:List PP}{ms st:List Int}{sv:Value}{b:Bool}(h:Rn lo w R M nb vars tab l ms st sv b):∃ sa sc,sv=.slice sa st.length sc∧∀ i (hi:i<st.length),∃ g,sa=some ⟨g,0,none⟩∧g<w.heap.size∧w.cell? ⟨g,i,none⟩=some (.int .u8 st[i])∧w.frozen? ⟨g,i,none⟩=false:=by
 rcases h.st.2 with ⟨h1,h2⟩|⟨g,cap,cur,h1,_,h3,_,_,_,h7⟩
 ·exact ⟨none,0,by rw[h1,h2],fun i hi=>by omega⟩
 ·refine ⟨_,cap,h1,fun i hi=>⟨g,rfl,wX h3,?_,tY w g i _ _ h3⟩⟩;rw[rD w g i _ _ _ h3];have:(cur.toList.take (st.length * 1))[i]?=some (.int .u8 st[i]):=by rw[h7,lq,ny hi];rfl
  rw[Qq (by omega)] at this;simpa using this
theorem Rn.sat {lo:Nat}{w:World}{R M nb g n sc k:Nat}{vars:List MVar}{tab:uq}{l:List PP}{ms st:List Int}{b:Bool}(h:Rn lo w R M nb vars tab l ms st (.slice (some ⟨g,0,none⟩) n sc) b)(hk:k<st.length):w.cell? ⟨g,k,none⟩=some (.int .u8 st[k]):=by
 obtain ⟨sa,sc',e,hs⟩:=h.vvz;injection e with e1 e2 e3;subst e1;obtain ⟨g',e4,_,h5,_⟩:=hs k hk;injection e4 with e4;injection e4 with e4;subst e4;exact h5
theorem Kept.vko {R:Nat}{w w':World}(h:Kept R w.drew w'):Kept R w w':=⟨h.os,h.tape,h.output,h.size,h.block⟩
theorem jzl:jvz:=by
 intro w lo R M nb vars tab l ms st sv b n i h hv hpl hs2 r hr;have hn1:n.text.size≤1000:=hs2 n (by unfold kjb;split<;>simp);have hi1:(i.kind.toList==[])=false→i.text.size≤1000:=fun e=>hs2 i (by unfold kjb;rw[e];simp)
 unfold zju at hr;unfold pl5;have hRl:=h.lt;cases hk:(i.kind.toList==[])
 ·rw[hk,if_neg (by simp)] at hr;obtain ⟨v,hvv,hr⟩:=wQ.mp hr;obtain ⟨⟨p1,pw⟩,hp,hr⟩:=wQ.mp hr;by_cases hp0:p1<0
  ·rw[if_pos hp0] at hr;cases hr
  rw[if_neg hp0] at hr;obtain ⟨k,rfl⟩:=JU (show 0≤p1 by omega);obtain ⟨x,hx,hr⟩:=wQ.mp hr;obtain ⟨y,hy,hrr⟩:=rQ.mp hr;obtain ⟨hyx,hy1,hy2⟩:=kvm hy;rw[hyx] at hrr;subst hrr;replace hx:st[k]?=some x:=hx
  obtain ⟨hkl,hke⟩:=nJ.mp hx;obtain ⟨sa,sc,rfl,hsb⟩:=h.vvz;obtain ⟨g,rfl,hgl,hgc,_⟩:=hsb k hkl;obtain ⟨W,hW⟩:∃ W,W=w.alloc (.cells #[.string n.text,.int .i64 n.at_,.bool true,.string i.text,.int .i64 i.at_] 332):=⟨_,rfl⟩;have hbW:Below w.heap.size w W:=by rw[hW];exact below_alloc1 w _
  have hsW:w.heap.size<W.heap.size:=by rw[hW];simp
  have hP:W.heap[w.heap.size]?=some (.cells #[.string n.text,.int .i64 n.at_,.bool true,.string i.text,.int .i64 i.at_] 332 (0,0)):=by rw[hW];exact qy _ _
  have hRW:=h.below hbW;obtain ⟨_,r4,_,_⟩:=hRW.cells;obtain ⟨q0,q1,q2,q3,q4,_⟩:=zo hP;have s0:W.cell? ⟨g,k,none⟩=some (.int .u8 x):=by rw[←hke];exact (hbW.cell (p:=⟨g,k,none⟩) hgl).trans hgc
  have HVA:=hide (kyi W.drew lo R M nb vars tab l ms st _ b n hRW.drew hn1 v hvv hv);have HAT:=hide (fun (w1:World) (h1:Rn lo w1 R M nb vars tab l ms st (.slice (some ⟨g,0,none⟩) st.length sc) b) (va:Option Addr) (vc:Nat)=>jkf w1 lo R M nb vars tab l ms st _ b v va vc n i h1 hv hpl hi1 _ hp);have HRN:=hide hRW.drew;have HP:=hide hP;have HBW:=hide hbW;have HWE:=hide hW.symm;unfold pl5 at HAT;rw[hk] at HAT;clear hp hvv hy hyx hr hgc hsb hRW hP hbW hW hs2 hi1 h;go_enter Tryz.func231,Tryz.ntmps231
  go_upto_region 2 with fail
  rw[ku HWE];go_region_held3 (fun w'=>w'.cell? ⟨R,4,none⟩=some (.slice (some ⟨g,0,none⟩) st.length sc)∧w'.cell? ⟨w.heap.size,0,none⟩=some (.string n.text)∧w'.cell? ⟨w.heap.size,1,none⟩=some (.int .i64 n.at_)∧w'.cell? ⟨w.heap.size,2,none⟩=some (.bool true)∧w'.cell? ⟨w.heap.size,3,none⟩=some (.string i.text)∧w'.cell? ⟨w.heap.size,4,none⟩=some (.int .i64 i.at_)∧w'.cell? ⟨g,k,none⟩=some (.int .u8 x))
   (first|exact ⟨r4,q0,q1,q2,q3,q4,s0⟩|exact ⟨a4,b0,b1,b2,b3,b4,t0⟩|exact ⟨c4,d0,d1,d2,d3,d4,u0⟩)
   (first
   | (go_at_call 233;refine (ku HVA).mono ?_;rintro e w1 ⟨va,vc,rfl,_,hb1⟩;have h1:=(ku HRN).below hb1;have hP1:=(hb1.block w.heap.size (by simpa using hsW)).trans (ku HP);obtain ⟨_,a4,_,_⟩:=h1.cells;obtain ⟨b0,b1,b2,b3,b4,_⟩:=zo hP1;have t0:=(hb1.cell (p:=⟨g,k,none⟩) (by show g<W.heap.size;omega)).trans s0;have HAT1:=hide ((ku HAT) w1 h1 va vc);have HP1:=hide hP1;have HK1:=hide (((ku HBW).drew).trans (hb1.mono (by show w.heap.size≤W.heap.size;omega)));clear h1 hP1 hb1 HVA HAT)
   | (go_at_call 234;refine (ku HAT1).mono ?_;rintro e w2 ⟨rfl,h2,hk2⟩;have hP2:=hk2.row (b:=w.heap.size) (by omega) (ku HP1);obtain ⟨_,c4,_,_⟩:=h2.cells;obtain ⟨d0,d1,d2,d3,d4,_⟩:=zo hP2;have u0:w2.cell? ⟨g,k,none⟩=some (.int .u8 x):=(by rw[←hke];exact h2.sat hkl);have H2:=hide h2;have HK2:=hide ((Kept.of_below (ku HK1)).trans hk2);clear h2 hP2 hk2;dsimp only))
  all_goals
   go_wp2
   go_ret
   exact ⟨kvd (by rw[nK];omega),ku H2,ku HK2⟩
 ·rw[hk,if_pos rfl] at hr;obtain ⟨x,hx,hr⟩:=rQ.mp hr;subst hr;have hbW:=below_alloc1 w (.cells #[.string n.text,.int .i64 n.at_,.bool false,.string i.text,.int .i64 i.at_] 332);have HSG:=hide (qym _ lo R M nb vars tab l ms st sv b n (h.below hbW) hv hpl hn1 x hx);have HRN:=hide (h.below hbW);have HBW:=hide hbW;unfold ptV at HSG;clear hbW hx hs2 hi1 h;go_enter Tryz.func231,Tryz.ntmps231
  go_wp2_with fail
  refine (ku HSG).mono ?_;rintro e w1 ⟨rfl,hb1⟩;have H1:=hide ((ku HRN).below hb1);have HB1:=hide ((ku HBW).trans (hb1.mono (by simp)));clear hb1;go_wp2
  go_ret
  exact ⟨rfl,(ku H1).orF,Kept.of_below (ku HB1)⟩
theorem jq7 (PLV:jvz)(i j:Nat)(x:ELab)(a c:PX)(iha:zqd a)(ihc:zqd c):zqd (.node i j x a c):=by
 intro w lo xo R M nb vars tab l ms st sv b v h hv hpl hX hs r hr;obtain ⟨k,va,vb,rfl,hk,hh,ha,hb⟩:=hX;obtain ⟨p1,rfl⟩:=ha.ptr;obtain ⟨p2,rfl⟩:=hb.ptr;obtain ⟨rcs,rfr,hRb⟩:=h.blk;have hkR:k≠R:=zqv hh hRb (by decide);have hsa:∀ y∈jr a,y.text.size≤1000:=fun y hy=>hs y (by rw[jr];simp[hy])
 have hsc:∀ y∈jr c,y.text.size≤1000:=fun y hy=>hs y (by rw[jr];simp[hy])
 have hsp:∀ y∈qqd x,y.text.size≤1000:=fun y hy=>hs y (by rw[jr];simp[hy])
 have hop:=qwy x.op.toList;have hh':=hh;unfold kku at hh;obtain ⟨⟨q0,q1,q2,q3,q4,q5,q6,q7,q8⟩,_⟩:=kxg hh;have E:(if opN x.op.toList==0 then some (1,false) else if (opN x.op.toList==1||opN x.op.toList==2) then some (0,false) else if opN x.op.toList==3 then some (x.n,false)
  else if opN x.op.toList==4 then zju vars tab l ms st x.name x.index
  else if opN x.op.toList==5 then (qja vars tab l ms st a).bind fun p=>(small p.1).map fun _=>(1-p.1,p.2)
  else (qja vars tab l ms st a).bind fun p=>(qja vars tab l ms st c).bind fun q=>(small p.1).bind fun _=>(small q.1).map fun _=>(kz5 (opN x.op.toList) p.1 q.1,p.2||q.2))=some r:=hr
 have HPL:=hide (fun (e:qqd x=kjb x.name x.index) (he:zju vars tab l ms st x.name x.index=some r)=>PLV w lo R M nb vars tab l ms st sv b x.name x.index h hv hpl (by rw[←e];exact hsp) r he);have HA:=hide (fun p e=>iha w lo xo R M nb vars tab l ms st sv b _ h hv hpl ha hsa p e);have HAd:=hide (fun p e=>iha w.drew lo xo R M nb vars tab l ms st sv b _ h.drew hv hpl (ha.below (Below.refl _ _).drew) hsa p e);have HC:=hide (fun (w1:World) (b1:Bool) (h1:Rn lo w1 R M nb vars tab l ms st sv b1) (hk1:Kept R w.drew w1) q e=>ihc w1 lo xo R M nb vars tab l ms st sv b1 _ h1 hv hpl ((hb.below (Below.refl _ _).drew).nm (w:=w.drew) hRb (by decide) hk1) hsc q e);have HX:=hide hh;have HRN:=hide h;unfold pl5 at HPL;have hdX:w.drew.heap[k]?=w.heap[k]?:=rfl;generalize (!(x.index.kind.toList==[]))=d at *;clear hr h ha hb hh hh' hs hsa hsc hsp hRb hk;go_enter Tryz.func190,Tryz.ntmps190
 generalize opN x.op.toList=o at *;cases h0:(o==0)
 case true=>
  rw[h0,if_pos rfl] at E;injection E with E;subst E;go_wp2
  go_ret
  exact ⟨rfl,ku HRN,Kept.refl _ _⟩
 case false=>
 rw[h0,if_neg (by simp)] at E;cases h1:(o==1)
 case true=>
  rw[h1,Qc,if_pos rfl] at E;injection E with E;subst E;go_wp2
  go_ret
  exact ⟨rfl,ku HRN,Kept.refl _ _⟩
 case false=>
 cases h2:(o==2)
 case true=>
  rw[h1,h2,Qw,if_pos rfl] at E;injection E with E;subst E;go_wp2
  go_ret
  exact ⟨rfl,ku HRN,Kept.refl _ _⟩
 case false=>
 rw[h1,h2,nM,if_neg (by simp)] at E;cases h3:(o==3)
 case true=>
  rw[h3,if_pos rfl] at E;injection E with E;subst E;go_wp2
  go_ret
  exact ⟨rfl,ku HRN,Kept.refl _ _⟩
 case false=>
 rw[h3,if_neg (by simp)] at E;cases h4:(o==4)
 case true=>
  rw[h4,if_pos rfl] at E;rw[h4] at hop;have HPL':=hide ((ku HPL) (by unfold qqd;rw[←hop];rfl) E);clear HPL E hop HA HAd HC;go_wp2_with fail
  refine (ku HPL').mono ?_;rintro e w1 ⟨rfl,h1,hk1⟩;have H1:=hide h1;have HK1:=hide hk1;clear h1 hk1;go_wp2
  go_ret
  exact ⟨rfl,ku H1,ku HK1⟩
 case false=>
 rw[h4,if_neg (by simp)] at E;cases h5:(o==5)
 case true=>
  rw[h5,if_pos rfl] at E;obtain ⟨p,hp,E⟩:=wQ.mp E;obtain ⟨y,hy,E⟩:=rQ.mp E;obtain ⟨_,hy1,hy2⟩:=kvm hy;subst E;have HA':=hide ((ku HA) p hp);clear HPL hop HA HAd HC hp hy;go_wp2_with fail
  refine (ku HA').mono ?_;rintro e w1 ⟨rfl,h1,hk1⟩;have H1:=hide h1;have HK1:=hide hk1;clear h1 hk1;go_wp2
  go_ret
  exact ⟨rfl,ku H1,ku HK1⟩
 case false=>
 rw[h5,if_neg (by simp)] at E;obtain ⟨p,hp,E⟩:=wQ.mp E;obtain ⟨q,hq,E⟩:=wQ.mp E;obtain ⟨y,hy,E⟩:=wQ.mp E;obtain ⟨z,hz,E⟩:=rQ.mp E;obtain ⟨_,hy1,hy2⟩:=kvm hy;obtain ⟨_,hz1,hz2⟩:=kvm hz;subst E;have HA':=hide ((ku HAd) p hp);have HC':=hide (fun w1 b1 h1 hk1=>(ku HC) w1 b1 h1 hk1 q hq);clear HPL hop HA HAd HC hp hy hz hq;go_upto_region 13 with fail
 go_region_held3 (fun w'=>w'.cell? ⟨k,0,none⟩=some (.int .i64 o)∧w'.cell? ⟨k,7,none⟩=some (.pointer p1)∧w'.cell? ⟨k,8,none⟩=some (.pointer p2))
  (first|exact ⟨q0,q7,q8⟩|exact ⟨a0,a7,a8⟩|exact ⟨c0,c7,c8⟩)
  (first
  | (go_at_call 190;refine (ku HA').mono ?_;rintro e w1 ⟨rfl,h1,hk1⟩;have hX1:=hk1.row hkR (ku HX);obtain ⟨⟨a0,_,_,_,_,_,_,a7,a8⟩,_⟩:=kxg hX1;have HC1:=hide ((ku HC') w1 _ h1 hk1);have HX1:=hide hX1;have HK1:=hide hk1;clear h1 hk1 hX1 HA')
  | (go_at_call 190;refine (ku HC1).mono ?_;rintro e w2 ⟨rfl,h2,hk2⟩;have hX2:=hk2.row hkR (ku HX1);obtain ⟨⟨c0,_,_,_,_,_,_,c7,c8⟩,_⟩:=kxg hX2;have H2:=hide h2;have HK2:=hide ((ku HK1).trans hk2);clear h2 hk2 hX2 HC1)
  | (go_at_call 232;refine (vjn o p.1 q.1 _ hy1 hy2 hz1 hz2).mono ?_;rintro e w3 ⟨rfl,rfl⟩;dsimp only))
 all_goals
  go_wp2
  go_ret
  exact ⟨rfl,(ku H2).or2,(ku HK2).vko⟩
theorem qju:∀ x:PX,zqd x
 | .nil=>fun w lo xo R M nb vars tab l ms st sv b v _ _ _ _ _ r h=>by cases h
 | .node i j x a c=>jq7 jzl i j x a c (qju a) (qju c)
end Go.Proofs.YtpmcnonmkghokaaGreatDoor
