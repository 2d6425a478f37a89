import Derived.Test.YtpmcnonmkghokaaGreatDoorT31
set_option maxRecDepth 100000
set_option maxHeartbeats 8000000
set_option linter.unusedVariables false
set_option linter.unusedSimpArgs false
namespace Go.Proofs.YtpmcnonmkghokaaGreatDoor
open Go.RowKit
attribute [local go_sem ↓] Go.wp_at_zero Go.wp_at_succ
def KnS (S sb:Nat)(ov:Value)(kk:List Int)(w:World):Prop:=w.cell? ⟨S,2,none⟩=some (.map (some sb))∧(convert 95 9 ov).run Tryz.prog w=.ok (.string (strOfNums kk)) w
def KmS (S fb:Nat)(wv ov yv:Value)(kk:List Int)(w:World):Prop:=w.cell? ⟨S,1,none⟩=some wv∧w.cell? ⟨S,3,none⟩=some (.map (some fb))∧(convert 95 9 ov).run Tryz.prog w=.ok (.string (strOfNums kk)) w∧(Instr.lookup 167 (.map (some fb)) (.string (strOfNums kk)) false).run Tryz.prog w=.ok yv w
theorem qyc.conv {w:World}{v:Value}{l:List Int}(h:qyc w v l):(convert 95 9 v).run Tryz.prog w=.ok (.string (strOfNums l)) w:=by
 obtain ⟨⟨xa,xc,rfl,hv⟩,_⟩:=h;by_cases h0:0<l.length
 ·obtain ⟨g,rfl,_,hc⟩:=hv h0;refine run_convert_bytes_arg w 95 5 Tryz.underlying95 Tryz.underlying5 g 0 l.length xc l rfl (fun i hi=>?_) 9 Tryz.underlying9;rw[lU,hc i hi,nJ,wW hi,fB]
 ·have:l=[]:=sG (by omega);subst this;show (convert 95 9 (.slice xa 0 xc)).run Tryz.prog w=_;rw[run_convert_bytes_string w 95 9 5 xa 0 xc Tryz.underlying95 Tryz.underlying5 Tryz.underlying9];cases xa with
  | none=>simp[Conv.bytesToString];rfl
  | some a=>rw[run_bytesToString w a 0 xc [] rfl];rfl
theorem kza.stay {L:List Nat}{B:Nat}{w w':World}{v:Value}{ls:List (List Int)}(h:kza B w v ls)(hk:yw L w w')(h1:qqd w L 95)(h2:qqd w L 5):kza B w' v ls:=by
 obtain ⟨la,ll,lc,cs,e,ho,hr⟩:=h;exact ⟨la,ll,lc,cs,e,kzq ho hk h1,hr.stay hk h2⟩
theorem jq6:∀ (f:Fnd) (j:Nat) (hj:j<f.length),(f.map (·.1)).Nodup→kks f f[j].1=f[j].2
 | y::l,0,_,_=>by rw[kks];simp
 | y::l,j+1,hj,hn=>by
  simp only[lJ,Qb] at hn;have hj2:j<l.length:=by simpa using hj
  rw[kks,if_neg]
  ·exact jq6 l j hj2 hn.2
  ·simp only[Qd,rZ];intro e;exact hn.1 (by rw[e];exact tC (wY hj2))
theorem vqh {seen:List (List Int)}{f:Fnd}{k:List Int}(h:k∈(newF seen f).map (·.1)):k ∉ seen:=fun hm=>by
 obtain ⟨y,hy,rfl⟩:=su.mp h;have:=(Qy.mp hy).2;rw[lQ] at this;have h2:(seen.any fun k=>k==y.1)=true:=l9.mpr ⟨y.1,hm,by simp⟩;rw[h2] at this;cases this
theorem zwh {l:List (List Int)}(h:l.Nodup):(sortL l).Nodup:=(kxr l).nodup_iff.mpr h
theorem qjc.keyOf {B:Nat}{w:World}{gc:Nat}{es:List MapEntry}{Z:FZ}(h:qjc B w gc es Z){e:MapEntry}(he:e∈es):∃ z∈Z,e.key=.string (strOfNums z.1.1):=by
 have:(e.key,e.val)∈Z.map zz2:=by rw[←h.eq];exact tC he
 obtain ⟨z,hz,e1⟩:=su.mp this;unfold zz2 at e1;simp only[Prod.mk.injEq] at e1;exact ⟨z,hz,e1.1.symm⟩
theorem qjc.uniq {B:Nat}{w:World}{gc:Nat}{es:List MapEntry}{Z:FZ}(h:qjc B w gc es Z){x y:MapEntry}(hx:x∈es)(hy:y∈es)(e:x.key=y.key):x=y:=by
 obtain ⟨i,hi,rfl⟩:=rP hx;obtain ⟨j,hj,rfl⟩:=rP hy;have hl:es.length=Z.length:=by have:=congrArg List.length h.eq;simpa using this
 have ge:∀ q (hq:q<es.length),es[q].key=.string (strOfNums (Z[q]'(by omega)).1.1):=fun q hq=>by
  have h1:(es.map fun e=>(e.key,e.val))[q]?=(Z.map zz2)[q]?:=by rw[h.eq]
  rw[sW,sW,wW hq,wW (by omega),Qw,Qw] at h1;injection h1 with h1;unfold zz2 at h1;simp only[Prod.mk.injEq] at h1;exact h1.1
 rw[ge i hi,ge j hj] at e;injection e with e;have e2:=key_inj (h.ok _ (wY (by omega))).1 (h.ok _ (wY (by omega))).1 e;have:i=j:=qq6 h.nodup (by simp;omega) (by simp;omega) (by simpa using e2);subst this;rfl
theorem jqz (w:World)(B S O M gc cc sb fb:Nat)(ts:List Turn)(s:SSt)(h:kqc B w S O M gc cc sb fb ts s)(hfl:s.found.length≤100000)(hwl:s.ways.length≤100000)(hB:B≤w.heap.size) :
  Calls Tryz.prog 77 #[.pointer (some ⟨S,0,none⟩)] w fun e w'=>e=.returned (.int .i64 s.ways.length)∧kqc B w' S O M gc cc sb fb ts (gu s)∧Below B w w':=by
 obtain ⟨la,ll,lc,cs,r1,r2,r3⟩:=h.row;obtain ⟨xa,xc,ex,-⟩:=qm r2;injection ex with ex1 ex2 ex3;subst ex1;subst ex2;subst ex3;obtain ⟨z0,z1,z2,z3,-⟩:=kj5 r1;obtain ⟨vs,hf,hv⟩:=h.found;obtain ⟨es,clock,h1,h3,h4,hZ⟩:=vx6 hf hv;obtain ⟨us,hse,hun⟩:=h.seen;obtain ⟨hSl,hOl,hgl,hsl,hfbl⟩:=h.lts;obtain ⟨i0,hi,hz0,hz1,hz2⟩:=info_parts Tryz.infoWay;have hSfb:S≠fb:=fun e=>by rw[e] at r1;rw[h1] at r1;cases r1
 have hsok:∀ x∈s.seen,kzj x=true:=fun x hx=>(hse.ok x hx).1
 have hnl:(newF s.seen s.found).length≤100000:=rQ (Zy _ _) hfl;obtain ⟨W,hW⟩:∃ W,W=w.alloc (.mapIter (some fb) clock #[] clock):=⟨_,rfl⟩;have hstW:yw [fb] w W:=by rw[hW];exact .of_below (below_alloc1 w _)
 have hR:W.heap[w.heap.size]?=some (.mapIter (some fb) clock #[] clock):=by rw[hW];exact heap_alloc_new _ _
 have hrg:=run_range_map (P:=Tryz.prog) w 167 9 173 fb es clock Tryz.underlying167 h1;have HH:=hide h;have HZ:=hide hZ;have H1W:=hide (hstW.block fb hfbl);have H3:=hide h3;have H4:=hide h4;have HSE:=hide hse;have HUN:=hide hun;have HSOK:=hide hsok;have HR1:=hide r1;have HVL:=hide hv.1;have HST:=hide (show ∃ es',W.heap[fb]?=some (.map es' clock)∧es'.toList=es.toList.filter (kvr s.seen #[]) from ⟨es,by rw[hW];exact (heap_alloc_old w _ hfbl).trans h1,by
  symm
  rw[Zm];intro x _;simp[kvr]⟩)
 have HR:=hide hR;have HSTW:=hide hstW;have HWE:=hide hW.symm;clear h1 h3 h4 hZ hse hun hsok hR hstW hW h r1 r2 r3 hf hv;go_enter Tryz.func77,Tryz.ntmps77
 go_wp2_with fail
 rw[ku HWE];clear hrg;go_loopw [4,5,6] (fun _ _ _ wr=>∃ (came:Array Nat) (es':Array MapEntry),wr.heap[fb]?=some (.map es' clock)∧es'.toList=es.toList.filter (kvr s.seen came)∧wr.heap[w.heap.size]?=some (.mapIter (some fb) clock came clock)∧yw [fb] w wr) (fun _ _ _ wr=>(es.toList.filter fun x=>!((wr.iterSeen w.heap.size).contains x.born)).length)
 case atStart=>
  obtain ⟨es',e1,e2⟩:=ku HST;exact ⟨#[],es',e1,e2,ku HR,ku HSTW⟩
 case round=>
  obtain ⟨came,es',hfb,hes,hit,hst⟩:=hrel;have hsz:=hst.size;have hrl:=wZ hit;have hme:=kvn hit;have hsub:∀ x∈es'.toList,x∈es.toList:=fun x hx=>by rw[hes] at hx;exact (Qy.mp hx).1
  have hnd':(es'.toList.map (·.born)).Nodup:=by rw[hes];exact (ku H3).sublist (List.Sublist.map _ JV)
  have rr:=hst.at (ku HR1) (by simpa using hSfb);obtain ⟨y0,y1,y2,y3,-⟩:=kj5 rr;rcases run_next_at (P:=Tryz.prog) wr 0 w.heap.size fb clock clock came es' clock hit hfb (fun x hx=>(ku H4) x (hsub x hx)) (wX _) with ⟨hz,hrun⟩|⟨e,he,w1,hw1,hrun⟩
  ·have hnil:((es.toList.filter (kvr s.seen came)).filter fun e=>!came.contains e.born)=[]:=by
    rw[←hes];have h9:((leftOf es' came).toList).length=0:=by rw[Qn];exact hz
    unfold leftOf at h9;rw[Jg] at h9;exact sG h9
   have hfin:=vj4 hnil;rw[hfin] at hes;have hsepf:Sep w gc [fb]:=fun k hk=>(ku HH).sep k (by simp at hk;simp[hk])
   have hent:=((ku HZ).stay hst hsepf).vzs (ku HSOK);rw[←hes] at hent;obtain ⟨hmp,hfv⟩:=vx5 hfb hnd' (fun x hx=>(ku H4) x (hsub x hx)) hent;rw[vqm _ _ _ (ku HVL).symm] at hmp hfv;obtain ⟨tv,ho⟩:=(ku HH).orb;have hsch:kqc B wr S O M gc cc sb fb ts ⟨s.ways,s.seen,newF s.seen s.found,s.cur⟩:=(ku HH).turned (hst.wide (by simp)) rfl (kwx ho.own hst (fun k hk hm=>by
     injection hk with hk;have e1:gc=k:=hk;simp at hm;exact (ku HH).jwm.1 (by omega))) ((ku HSE).stay hst (by simpa using (ku HH).ne)) (ku HUN) hmp hfv
   have HBr:=hide (hst.below hB (fun k hk=>by simp at hk;subst hk;exact (ku HH).ge.2.2.2));have HSO:=hide (jjr wr fb _ _ hmp (by simpa using hnl));have hnd:=hmp.nodup;have HND:=hide hnd;have HKO:=hide hmp.ok;have HSC:=hide hsch;have HKN:=hide (show ∀ k∈(newF s.seen s.found).map (·.1),k ∉ s.seen from fun k hk=>vqh hk);have HKP:=hide (show gu s=⟨s.ways++(kvt (newF s.seen s.found)).map (kks (newF s.seen s.found)),s.seen++kvt (newF s.seen s.found),newF s.seen s.found,s.cur⟩ from rfl);have HKS:=hide (show sortL ((newF s.seen s.found).map (·.1))=kvt (newF s.seen s.found) from rfl);have HKM:=hide (show ∀ k∈kvt (newF s.seen s.found),k∈(newF s.seen s.found).map (·.1) from fun k hk=>(kxr _).mem_iff.mp hk);have HKD:=hide (show (kvt (newF s.seen s.found)).Nodup from zwh hnd);have hkl:(kvt (newF s.seen s.found)).length≤100000:=by unfold kvt;rw[kx3];simpa using hnl
   generalize newF s.seen s.found=F at *;clear hz hnil hfin hes hent hmp hfv ho hsch hnd hfb hit hme hnd' hsub rr hst hsepf;go_wp2_with fail
   refine (ku HSO).mono ?_;rintro e w5 ⟨v5,rfl,hst5,hb5⟩;rw[ku HKS] at hst5;generalize kvt F=Ks at *;obtain ⟨va,vn,vc,vcs,rfl,hvo,hvr⟩:=hst5;obtain ⟨xa2,xc2,ex2,-⟩:=qm hvo;injection ex2 with ex1 ex2' ex3;subst ex1;subst ex2';subst ex3;have hsz5:=hb5.size;have hwrb:=(ku HBr).size;have HSA:=hide (show kza wr.heap.size w5 (.slice va Ks.length vc) Ks from ⟨va,Ks.length,vc,vcs,rfl,hvo,hvr⟩);have HSC5:=hide ((ku HSC).below hb5);have HB5:=hide ((ku HBr).trans (hb5.mono (by omega)));clear hvo hvr hb5 HSO y0 y1 y2 y3;go_wp2_with fail
   go_loopw [8,44] (fun _ i wr=>∃ k:Nat,k≤Ks.length∧i=.int .i64 k∧kqc B wr S O M gc cc sb fb ts ⟨s.ways++(Ks.take k).map (kks F),s.seen++Ks.take k,F,s.cur⟩∧(∃ B',kza B' wr (.slice va Ks.length vc) Ks)∧Below B w wr) (fun _ i _=>Ks.length-(intOf i).toNat)
   case atStart=>exact ⟨0,rG _,rfl,by simpa using ku HSC5,⟨_,ku HSA⟩,ku HB5⟩
   case round=>
    obtain ⟨wo,hwo⟩:∃ wo,wo=wr:=⟨_,rfl⟩;subst hwo;obtain ⟨k,hk,rfl,hsch,⟨B',hsa⟩,hb⟩:=hrel;have hszo:=hb.size;by_cases hlt:k<Ks.length
    ·obtain ⟨va',vn',vc',vcs,ev,hvo,hvr⟩:=hsa;injection ev with ev1 ev2 ev3;subst ev1;subst ev2;subst ev3;have hvl:k<vcs.length:=by rw[←hvr.1];exact hlt
     obtain ⟨xa3,xc3,ex3,hview⟩:=qm hvo;injection ex3 with ex1 _ ex3;subst ex1;subst ex3;obtain ⟨g,rfl,_,hg2,hc⟩:=hview k hlt;have e5:wo.cell? ⟨g,k * 1,none⟩=some vcs[k]:=by rw[hc (k * 1) (by omega),lM,wW hvl]
     simp only[lM] at e5;obtain ⟨hby,-⟩:=hvr.2 k hvl hlt;have hkm:=(ku HKM) Ks[k] (wY hlt);have hko:=(ku HKO) Ks[k] hkm;have hkn:Ks[k] ∉ s.seen++Ks.take k:=fun hm=>by
      rcases rC.mp hm with hm|hm
      ·exact (ku HKN) _ hkm hm
      ·obtain ⟨i,hi2,e⟩:=rP hm;rw[JC] at e;have:=qq6 (ku HKD) (by simp at hi2;omega) hlt e;simp at hi2;omega
     obtain ⟨ly,ln,lc0,cs0,q1,q2,q3⟩:=hsch.row;obtain ⟨p0,p1,p2,p3,-⟩:=kj5 q1;obtain ⟨us2,hse2,hun2⟩:=hsch.seen;obtain ⟨fv2,hf2,hfv2⟩:=hsch.found;have hdr:Below wo.heap.size wo wo.drew:=(Below.refl _ wo).drew;obtain ⟨w5,hrun,hmp5,hstp⟩:=vqs (hse2.stay (yw.of_below (S:=[]) hdr) (by simp)) Tryz.underlying166 hko.1 hko.2 hkn (.agg #[]);have hsch':=hsch.below hdr;obtain ⟨tv5,ho5⟩:=hsch'.orb;obtain ⟨fv5,hf5,hfv5⟩:=hsch'.found;have hsbfb:sb≠fb:=hsch.ne;have hsep5:Sep wo.drew gc [sb]:=fun q hq=>hsch'.sep q (by simp at hq;simp[hq])
     have hsch5:kqc B w5 S O M gc cc sb fb ts ⟨s.ways++(Ks.take k).map (kks F),s.seen++Ks.take k++[Ks[k]],F,s.cur⟩:=hsch'.turned (hstp.wide (by simp)) rfl (kwx ho5.own hstp (fun q hq hm=>by
      injection hq with hq;have e1:gc=q:=hq;simp at hm;exact hsch'.jwm.2 (by omega))) hmp5 (fun v hv=>by
       rcases rC.mp hv with hv|hv
       ·exact hun2 v hv
       ·simpa using hv) (hf5.stay hstp (by simpa using fun e=>hsbfb e.symm)) (hfv5.stay hstp hsep5)
     have hnoSb:∀ t,qqd wo.drew [sb] t:=fun t q hq c fr e1=>by
      have hq':q=sb:=by simpa using hq
      rw[hq'] at e1;obtain ⟨es9,c9,e9,_⟩:=hse2.ents;have e10:wo.drew.heap[sb]?=some (.map es9 c9):=e9;rw[e10] at e1;cases e1
     have hsa0:kza B' wo (.slice (some ⟨g,0,none⟩) Ks.length vc) Ks:=⟨_,_,_,vcs,rfl,hvo,hvr⟩;have hsa5:=(hsa0.stay (yw.of_below (S:=[]) hdr) (fun q hq=>by simp at hq) (fun q hq=>by simp at hq)).stay hstp (hnoSb _) (hnoSb _);have hby0:=hby.stay (yw.of_below (S:=[]) hdr) (fun q hq=>by simp at hq);have hby5:=hby0.stay hstp (hnoSb _);have HS0:=hide (show KnS S sb vcs[k] Ks[k] wo.drew from ⟨p2,hby0.conv⟩);have hb5:Below B w w5:=(hb.drew).trans (hstp.below (show B≤wo.heap.size by omega) (by simpa using hsch.ge.2.2.1));have hsz5':=hb5.size;have hdr5:Below w5.heap.size w5 w5.drew:=(Below.refl _ w5).drew;have hsch6:=hsch5.below hdr5;obtain ⟨la2,ll2,lc2,cs2,t1,t2,t3⟩:=hsch6.row;obtain ⟨u0,u1,u2,u3,-⟩:=kj5 t1;obtain ⟨fv6,hf6,hfv6⟩:=hsch6.found;obtain ⟨jj,hjj,ejj⟩:=rP hkm;have hjF:jj<F.length:=by simpa using hjj
     have hjv:jj<fv6.length:=by rw[←hf6.len];exact hjj
     have hlk:=jkz hf6 Tryz.underlying167 hjj hjv false;rw[ejj] at hlk;simp only[tJ,if_false] at hlk;obtain ⟨ya,yn,yc,ey,hyst⟩:=hfv6.2 jj hjF;rw[wW hjv] at ey;injection ey with ey;rw[ey,jv7] at hlk;have hlook:kks F Ks[k]=F[jj].2:=by
      have:=jq6 F jj hjF (ku HND);rw[←this];congr 1
      rw[←ejj];simp
     have hnw:(s.ways++(Ks.take k).map (kks F)).length≤200000:=by simp;omega
     have hby6:=hby5.stay (yw.of_below (S:=[]) hdr5) (fun q hq=>by simp at hq);have hal:Below w5.drew.heap.size w5.drew (w5.drew.alloc (.cells #[.slice ya yn yc,.int .i64 F[jj].2.from_,.string F[jj].2.step] 173)):=below_alloc1 _ _;have HS5:=hide (show KmS S fb (.slice la2 ll2 lc2) vcs[k] (.agg #[.slice ya yn yc,.int .i64 F[jj].2.from_,.string F[jj].2.step]) Ks[k] w5.drew from ⟨u1,u3,hby6.conv,hlk⟩);have HS6:=hide (show KmS S fb (.slice la2 ll2 lc2) vcs[k] (.agg #[.slice ya yn yc,.int .i64 F[jj].2.from_,.string F[jj].2.step]) Ks[k] (w5.drew.alloc (.cells #[.slice ya yn yc,.int .i64 F[jj].2.from_,.string F[jj].2.step] 173)) from by
      have hx7:=hsch6.below hal;obtain ⟨fv7,hf7,hfv7⟩:=hx7.found;have hjv7:jj<fv7.length:=by rw[←hf7.len];exact hjj
      have hf8:=hf6.stay (yw.of_below (S:=[]) hal) (by simp);have hlk7:=jkz hf8 Tryz.underlying167 hjj hjv false;rw[ejj] at hlk7;simp only[tJ,if_false] at hlk7;rw[ey,jv7] at hlk7;have hS6:S<w5.drew.heap.size:=wZ t1;exact ⟨(hal.cell (p:=⟨S,1,none⟩) hS6).trans u1,(hal.cell (p:=⟨S,3,none⟩) hS6).trans u3,(hby6.stay (yw.of_below (S:=[]) hal) (fun q hq=>by simp at hq)).conv,hlk7⟩)
     have HSC6:=hide hsch6;have HR5:=hide t1;have HWO5:=hide t2;have HWI5:=hide t3;have HY5:=hide hyst;have HWO:=hide (qj t2 hal);have HNEW:=hide (heap_alloc_new w5.drew (.cells #[.slice ya yn yc,.int .i64 F[jj].2.from_,.string F[jj].2.step] 173));have HB5':=hide hb5;have HSA5:=hide (hsa5.stay (yw.of_below (S:=[]) hdr5) (fun q hq=>by simp at hq) (fun q hq=>by simp at hq));have HTAKE:=hide (show Ks.take (k+1)=Ks.take k++[Ks[k]] from nD hlt);have HLOOK:=hide hlook;have hrunx:=hrun;obtain ⟨nw,hnwe⟩:∃ nw,nw=(s.ways++(Ks.take k).map (kks F)).length:=⟨_,rfl⟩;have HNWE:=hide hnwe;rw[←hnwe] at hnw;have HWO':=HWO;rw[show (({ ways:=s.ways++(Ks.take k).map (kks F),seen:=s.seen++Ks.take k++[Ks[k]],found:=F,cur:=s.cur }:SSt).ways.length)=nw from hnwe.symm] at HWO';have HGE5:=hide (show B≤S∧(∀ q∈kv1 (.slice la2 ll2 lc2),B≤q) from ⟨hsch.ge.1,fun q hq=>vg t2 q (by
      unfold kv1 at hq;rw[Option.mem_toList] at hq;exact hq)⟩)
     have HNOW:=hide (show ∀ t,t≠170→t≠173→qqd w5.drew (S::kv1 (.slice la2 ll2 lc2)) t from fun t h1 h2 q hq c fr e1=>by
      rcases tX.mp hq with rfl|hq
      ·rw[t1] at e1;injection e1 with e1;injection e1 with _ e1 _;exact h1 e1.symm
      ·obtain ⟨c2,fr2,e2⟩:=kwk t2 q hq;rw[e2] at e1;injection e1 with e1;injection e1 with _ e1 _;exact h2 e1.symm)
     generalize F[jj].2=y at *;generalize hkk:Ks[k]=kk at *;obtain ⟨ov,hov⟩:∃ ov,ov=vcs[k]:=⟨_,rfl⟩;rw[←hov] at HS0 HS5 HS6 e5;clear hc hview hvo hvr hby hkm hko hkn q1 q2 q3 p0 p1 p2 p3 hse2 hun2 hf2 hfv2 hdr hmp5 hstp hsch' ho5 hf5 hfv5 hsep5 hsch5 hnoSb hsa0 hsa5 hby0 hby5 hb5 hdr5 hsch6 t1 t2 t3 u0 u1 u2 u3 hf6 hfv6 hjj ejj hjF hjv hlk ey hyst hlook hby6 hal hsch hb HWO hov hnwe hrunx hkk;go_upto_region 11 with fail
     refine pz (S:=KnS S sb ov kk) (tl:=[7]) (by kernel_rfl) ?_;refine qy (i:=0) (v:=.pointer (some ⟨S,0,none⟩)) rfl (by kernel_rfl) (by kernel_rfl) (by kernel_rfl) (fun _ _ _ h=>h) (Or.inl ⟨by rfl,fun _ _=>by go_simp⟩) ?_;try simp only[Act.put,wz,wQ,wu]
     refine qy (i:=1) (v:=.pointer (some ⟨S,0,none⟩)) rfl (by kernel_rfl) (by kernel_rfl) (by kernel_rfl) (fun _ _ _ h=>h) (Or.inl ⟨by rfl,fun _ _=>by go_simp⟩) ?_;try simp only[Act.put,wz,wQ,wu]
     refine qy (i:=2) (v:=.pointer (some ⟨S,2,none⟩)) rfl (by kernel_rfl) (by kernel_rfl) (by kernel_rfl) (fun _ _ _ h=>h) (Or.inl ⟨by rfl,fun _ _=>by go_simp⟩) ?_;try simp only[Act.put,wz,wQ,wu]
     refine qo (i:=3) (v:=.map (some sb)) [7] rfl (by kernel_rfl) (by kernel_rfl) (by kernel_rfl) (by kernel_rfl) (by decide) (fun _ _ _ h=>h) (Or.inl ⟨by rfl,fun wq hSw=>by (obtain ⟨s0,s1⟩:=hSw;go_simp)⟩) (ku HS0) ?_;try simp only[Act.put,wz,wQ,wu]
     refine qy (i:=4) (v:=ov) rfl (by kernel_rfl) (by kernel_rfl) (by kernel_rfl) (fun _ _ _ h=>h) (Or.inl ⟨by rfl,fun _ _=>by go_simp⟩) ?_;try simp only[Act.put,wz,wQ,wu]
     refine qo (i:=5) (v:=.string (strOfNums kk)) [7] rfl (by kernel_rfl) (by kernel_rfl) (by kernel_rfl) (by kernel_rfl) (by decide) (fun _ _ _ h=>h) (Or.inl ⟨by rfl,fun wq hSw=>by (obtain ⟨s0,s1⟩:=hSw;go_simp)⟩) (ku HS0) ?_;try simp only[Act.put,wz,wQ,wu]
     refine qy (i:=6) (v:=.agg #[]) rfl (by kernel_rfl) (by kernel_rfl) (by kernel_rfl) (fun _ _ _ h=>h) (Or.inl ⟨by rfl,fun _ _=>by go_simp⟩) ?_;try simp only[Act.put,wz,wQ,wu]
     refine kq1 _ _ _ _ (kjd (by kernel_rfl)) ?_;refine wpAny_ready (rs:=[7]) (by kernel_rfl) (by simp) (AllReady.cons rfl (fun K hK=>?_) AllReady.nil);go_simp
     refine hK _ _ ?_;clear hK K;refine wpAny_done (by kernel_rfl) ?_ _;clear hrun;go_upto_region 12 with fail
     refine pz (S:=KmS S fb (.slice la2 ll2 lc2) ov (.agg #[.slice ya yn yc,.int .i64 y.from_,.string y.step]) kk) (tl:=[13,14,15,16]) (by kernel_rfl) ?_;refine qy (i:=0) (v:=.pointer (some ⟨S,0,none⟩)) rfl (by kernel_rfl) (by kernel_rfl) (by kernel_rfl) (fun _ _ _ h=>h) (Or.inl ⟨by rfl,fun _ _=>by go_simp⟩) ?_;try simp only[Act.put,wz,wQ,wu]
     refine qy (i:=1) (v:=.pointer (some ⟨S,0,none⟩)) rfl (by kernel_rfl) (by kernel_rfl) (by kernel_rfl) (fun _ _ _ h=>h) (Or.inl ⟨by rfl,fun _ _=>by go_simp⟩) ?_;try simp only[Act.put,wz,wQ,wu]
     refine qy (i:=2) (v:=.pointer (some ⟨S,0,none⟩)) rfl (by kernel_rfl) (by kernel_rfl) (by kernel_rfl) (fun _ _ _ h=>h) (Or.inl ⟨by rfl,fun _ _=>by go_simp⟩) ?_;try simp only[Act.put,wz,wQ,wu]
     refine qy (i:=3) (v:=.pointer (some ⟨S,1,none⟩)) rfl (by kernel_rfl) (by kernel_rfl) (by kernel_rfl) (fun _ _ _ h=>h) (Or.inl ⟨by rfl,fun _ _=>by go_simp⟩) ?_;try simp only[Act.put,wz,wQ,wu]
     refine qo (i:=4) (v:=.slice la2 ll2 lc2) [13,14,15,16] rfl (by kernel_rfl) (by kernel_rfl) (by kernel_rfl) (by kernel_rfl) (by decide) (fun _ _ _ h=>h) (Or.inl ⟨by rfl,fun wq hSw=>by (obtain ⟨s0,s1,s2,s3⟩:=hSw;go_simp)⟩) (ku HS5) ?_;try simp only[Act.put,wz,wQ,wu]
     refine qy (i:=5) (v:=.pointer (some ⟨S,0,none⟩)) rfl (by kernel_rfl) (by kernel_rfl) (by kernel_rfl) (fun _ _ _ h=>h) (Or.inl ⟨by rfl,fun _ _=>by go_simp⟩) ?_;try simp only[Act.put,wz,wQ,wu]
     refine qy (i:=6) (v:=.pointer (some ⟨S,0,none⟩)) rfl (by kernel_rfl) (by kernel_rfl) (by kernel_rfl) (fun _ _ _ h=>h) (Or.inl ⟨by rfl,fun _ _=>by go_simp⟩) ?_;try simp only[Act.put,wz,wQ,wu]
     refine qy (i:=7) (v:=.pointer (some ⟨S,3,none⟩)) rfl (by kernel_rfl) (by kernel_rfl) (by kernel_rfl) (fun _ _ _ h=>h) (Or.inl ⟨by rfl,fun _ _=>by go_simp⟩) ?_;try simp only[Act.put,wz,wQ,wu]
     refine qo (i:=8) (v:=.map (some fb)) [11,12,13,14,15,16] rfl (by kernel_rfl) (by kernel_rfl) (by kernel_rfl) (by kernel_rfl) (by decide) (fun _ _ _ h=>h) (Or.inl ⟨by rfl,fun wq hSw=>by (obtain ⟨s0,s1,s2,s3⟩:=hSw;go_simp)⟩) (ku HS5) ?_;try simp only[Act.put,wz,wQ,wu]
     refine qy (i:=9) (v:=ov) rfl (by kernel_rfl) (by kernel_rfl) (by kernel_rfl) (fun _ _ _ h=>h) (Or.inl ⟨by rfl,fun _ _=>by go_simp⟩) ?_;try simp only[Act.put,wz,wQ,wu]
     refine qo (i:=10) (v:=.string (strOfNums kk)) [11,12,13,14,15,16] rfl (by kernel_rfl) (by kernel_rfl) (by kernel_rfl) (by kernel_rfl) (by decide) (fun _ _ _ h=>h) (Or.inl ⟨by rfl,fun wq hSw=>by (obtain ⟨s0,s1,s2,s3⟩:=hSw;go_simp)⟩) (ku HS5) ?_;try simp only[Act.put,wz,wQ,wu]
     refine qo (i:=11) (v:=.agg #[.slice ya yn yc,.int .i64 y.from_,.string y.step]) [12,13,14,15,16] rfl (by kernel_rfl) (by kernel_rfl) (by kernel_rfl) (by kernel_rfl) (by decide) (fun _ _ _ h=>h) (Or.inl ⟨by rfl,fun wq hSw=>by (obtain ⟨s0,s1,s2,s3⟩:=hSw;go_simp)⟩) (ku HS5) ?_;try simp only[Act.put,wz,wQ,wu]
     refine yu (rs:=[12]) (by kernel_rfl) (by simp) ?_;refine jd.cons rfl (fun K hK=>?_) jd.nil;go_simp
     refine hK _ _ (ku HS6) ?_;clear hK K;refine kq1 _ _ _ _ (kjd (by kernel_rfl)) ?_;refine wpAny_ready (rs:=[13]) (by kernel_rfl) (by simp) (AllReady.cons rfl (fun K hK=>?_) AllReady.nil);refine step_append_lies _ (by rfl) _ _ _ (by rfl) B 173 i0 _ 3 48 Tryz.underlying168 hi hz0 hz1 hz2 rfl (by omega) (.slice la2 ll2 lc2) nw cs2 (by rfl) (ku HWO') ⟨w5.heap.size,0,none⟩ 1 1 [.slice ya yn yc,.int .i64 y.from_,.string y.step] (by rfl) (by rfl) (World.news_of_block (cs:=#[.slice ya yn yc,.int .i64 y.from_,.string y.step]) (ku HNEW)) (by intro z hz;simp at hz;rcases hz with rfl|rfl|rfl<;>rfl) (by omega) (by unfold maxLen;omega) (by omega) (by simp;omega) (w5.heap.size+1) (by simp) ?_;intro gg gcap w6 hown6 hgrow6 hat6 hlt6;refine hK _ _ ?_;clear hK K;have hend:=(ku HSC6).pushed (ku HR5) (ku HWO5) (ku HWI5) hgrow6 (by have h9:=hown6;rw[ku HNWE] at h9;exact h9) (ku HY5);dsimp only at hend;rw[←ku HNWE] at hend;have hr6:=hend.2.2;obtain ⟨m0,m1,m2,m3,f0,f1,f2,f3⟩:=kj5 hr6;have HEND:=hide hend.1;have HSTE:=hide hend.2.1;clear hend hr6 hown6 hgrow6 hat6;refine wpAny_ready (rs:=[14]) (by kernel_rfl) (by simp) (AllReady.cons rfl (fun K hK=>?_) AllReady.nil);go_simp
     refine hK _ _ ?_;clear hK K;refine wpAny_ready (rs:=[15]) (by kernel_rfl) (by simp) (AllReady.cons rfl (fun K hK=>?_) AllReady.nil);go_simp
     refine hK _ _ ?_;clear hK K;refine wpAny_ready (rs:=[16]) (by kernel_rfl) (by simp) (AllReady.cons rfl (fun K hK=>?_) AllReady.nil);go_simp
     refine hK _ _ ?_;clear hK K;refine wpAny_done (by kernel_rfl) ?_ _;have HX1:=hide (show kqc B _ S O M gc cc sb fb ts ⟨s.ways++(Ks.take (k+1)).map (kks F),s.seen++Ks.take (k+1),F,s.cur⟩ by
      rw[ku HTAKE,sJ,List.map_singleton,ku HLOOK,←tK,←tK];exact ku HEND)
     have HX2:=hide ((ku HSA5).stay (ku HSTE) ((ku HNOW) _ (by decide) (by decide)) ((ku HNOW) _ (by decide) (by decide)));have HX3:=hide ((ku HB5').drew.trans ((ku HSTE).below (show B≤w5.heap.size by omega) (fun q hq=>by
      rcases tX.mp hq with rfl|hq
      ·exact (ku HGE5).1
      ·exact (ku HGE5).2 q hq)))
     clear m0 m1 m2 m3 f0 f1 f2 f3;go_wp2
     go_roundw
     case rel=>exact ⟨k+1,by omega,by go_num,ku HX1,⟨_,ku HX2⟩,ku HX3⟩
     case measure=>simp[intOf];omega
    ·have:k=Ks.length:=by omega
     subst this;rw[Qq] at hsch;have HX:=hide hsch;have HB:=hide hb;clear hsch hb hsa;go_wp2
     go_ret
     exact ⟨rfl,by rw[ku HKP];exact ku HX,ku HB⟩
  ·have he2:e∈es'.toList∧came.contains e.born=false:=by
    unfold leftOf at he;simp only[Jg,Qy] at he;exact ⟨he.1,by simpa using he.2⟩
   obtain ⟨hep,hec⟩:=he2;have hem:=hsub e hep;obtain ⟨z,hzm,ekey⟩:=(ku HZ).keyOf hem;have hok:=(ku HZ).ok z hzm;have hsz1:w1.heap=wr.heap:=by rcases hw1 with rfl|rfl<;>rfl
   have hb1:Below wr.heap.size wr w1:=by rcases hw1 with rfl|rfl;exact Below.refl _ _;exact (Below.refl _ _).drew
   obtain ⟨w2,hw2⟩:∃ w2,w2=ChangeMaps.setBlock w1 w.heap.size (.mapIter (some fb) clock (came.push e.born) clock):=⟨_,rfl⟩;have hst2:yw [w.heap.size] wr w2:=by
    rw[hw2];refine ⟨hb1.os,hb1.tape,hb1.output,by simp[ChangeMaps.setBlock,hsz1],fun k hk hn=>?_⟩;have hne:k≠w.heap.size:=by simpa using hn
    rw[show (ChangeMaps.setBlock w1 w.heap.size (.mapIter (some fb) clock (came.push e.born) clock)).heap[k]?=w1.heap[k]? from by simp[ChangeMaps.setBlock,Qu,Ne.symm hne],hsz1]
   have hit2:w2.heap[w.heap.size]?=some (.mapIter (some fb) clock (came.push e.born) clock):=by
    rw[hw2];simp[ChangeMaps.setBlock,hsz1,hrl]
   have hfb2:w2.heap[fb]?=some (.map es' clock):=hst2.at hfb (by simp;omega);have hent:=run_entry_at (P:=Tryz.prog) w2 w.heap.size fb clock came es' clock e hit2 hfb2 hep hnd';rw[ekey] at hrun hent;rw[←hw2] at hrun;have hse2:=((ku HSE).stay hst (by simpa using (ku HH).ne)).stay hst2 (by simp;omega);obtain ⟨q0,q1,q2,q3,-⟩:=kj5 (hst2.at rr (by simp;omega));have hsv:=zxd (k:=z.1.1) (ku HSOK) hok.1;rw[←ekey] at hsv;have hstw2:yw [fb] w w2:=(((hst.wide (S':=[fb,w.heap.size]) (by simp)).trans (hst2.wide (by simp))).wide (fun k hk hl=>by simp at hk;rcases hk with rfl|rfl;simp;omega));have HME:=hide hme;have HMM:=hide (show (es.toList.filter fun x=>!((came.push e.born).contains x.born)).length<(es.toList.filter fun x=>!(came.contains x.born)).length from filter_lt _ _ (fun x hx=>by
    cases hc:came.contains x.born with
    | false=>rfl
    | true=>
     have hc2:(came.push e.born).contains x.born=true:=by rw[Q9] at hc ⊢;exact Array.mem_push.mpr (Or.inl hc)
     rw[hc2] at hx;cases hx) e (by rw[hec];rfl) (by
     have hc2:(came.push e.born).contains e.born=true:=by rw[Q9];simp
     rw[hc2];rfl) es.toList hem)
   have hs2:=hst2.size;by_cases hin:z.1.1∈s.seen
   ·obtain ⟨j,hj,ej⟩:=rP hin;have hju:j<us.length:=by rw[←hse2.len];exact hj
    have hlk:=jkz hse2 Tryz.underlying166 hj hju true;rw[ej,(ku HUN) _ (wY hju)] at hlk;simp only[if_true] at hlk;have hsv2:qjk s.seen e.key=true:=by rw[hsv];exact l9.mpr ⟨_,hin,by simp⟩
    obtain ⟨w3,hw3⟩:∃ w3,w3=w2.alloc (.cells #[] 264):=⟨_,rfl⟩;have hb3:Below w2.heap.size w2 w3:=by rw[hw3];exact below_alloc1 _ _
    have hfb3:w3.heap[fb]?=some (.map es' clock):=(hb3.block fb (by omega)).trans hfb2;obtain ⟨es3,hdel,hes3⟩:=zza (T:=167) (E:=173) hfb3 Tryz.underlying167 (fun x hx=>by
     obtain ⟨z',hz',e'⟩:=(ku HZ).keyOf (hsub x hx);exact ⟨_,by rw[e'];exact qzj ((ku HZ).ok z' hz').2⟩) hok.2 hep ekey (fun x hx ex=>(ku HZ).uniq (hsub x hx) hem ex) hnd' 0
    obtain ⟨w4,hw4⟩:∃ w4,w4=ChangeMaps.setBlock w3 fb (.map es3 clock):=⟨_,rfl⟩;rw[←hw4] at hdel;have hst4:yw [fb] w3 w4:=by rw[hw4];exact kyu w3 fb _ hfb3
    have hs3:=hb3.size;have hit4:w4.heap[w.heap.size]?=some (.mapIter (some fb) clock (came.push e.born) clock):=hst4.at ((hb3.block w.heap.size (by omega)).trans hit2) (by simp;omega);have HF4:=hide (show w4.heap[fb]?=some (.map es3 clock) by rw[hw4];exact ChangeMaps.heap_setBlock_same hfb3 _);have HE4:=hide (show es3.toList=es.toList.filter (kvr s.seen (came.push e.born)) by rw[hes3,hes];exact jqj (ku H3) hem hsv2);have HI4:=hide hit4;have HIS:=hide (kvn hit4);have HS4:=hide ((hstw2.trans (.of_below hb3)).trans hst4);rw[hw3] at hdel;have hS2:S<w2.heap.size:=by omega
    obtain ⟨v0,v1,v2,v3,-⟩:=kj5 ((hb3.block S hS2).trans (hst2.at rr (by simp;omega)));rw[hw3] at v0 v1 v2 v3;generalize strOfNums z.1.1=kb at *;clear hz0 hz1 hz2 hi hsub hnd' hme hes hst hst2 hit hit2 hfb hfb2 hfb3 hw1 hw2 hw3 hw4 hst4 hb3 hb1 hsz1 hep hec hem hzm ekey hok hse2 hsv hsv2 hstw2 hin hj ej hju hes3 hit4 rr he;go_wp2
    go_roundw
    case rel=>exact ⟨_,_,ku HF4,ku HE4,ku HI4,ku HS4⟩
    case measure=>rw[ku HIS,ku HME];exact ku HMM
   ·have hlk:=vxn hse2 Tryz.underlying166 jy4 hok.1 hok.2 hin true;simp only[if_true] at hlk;have hsv2:qjk s.seen e.key=false:=by
     rw[hsv];cases hc:(s.seen.any fun x=>x==z.1.1) with
     | false=>rfl
     | true=>
      obtain ⟨x,hx,ex⟩:=l9.mp hc;exact absurd ((by simpa using ex:x=z.1.1) ▸ hx) hin
    have hb3:Below w2.heap.size w2 (w2.alloc (.cells #[] 264)):=below_alloc1 _ _;have hit4:=(hb3.block w.heap.size (by omega)).trans hit2;have HF4:=hide ((hb3.block fb (by omega)).trans hfb2);have HE4:=hide (show es'.toList=es.toList.filter (kvr s.seen (came.push e.born)) by rw[hes];exact jzf (ku H3) hem hsv2);have HI4:=hide hit4;have HIS:=hide (kvn hit4);have HS4:=hide (hstw2.trans (.of_below hb3));generalize strOfNums z.1.1=kb at *;clear hz0 hz1 hz2 hi hsub hnd' hme hes hst hst2 hit hit2 hfb hfb2 hw1 hw2 hb3 hb1 hsz1 hep hec hem hzm ekey hok hse2 hsv hsv2 hstw2 hin hit4 rr he;go_wp2
    go_roundw
    case rel=>exact ⟨_,_,ku HF4,ku HE4,ku HI4,ku HS4⟩
    case measure=>rw[ku HIS,ku HME];exact ku HMM
end Go.Proofs.YtpmcnonmkghokaaGreatDoor
namespace Go.Proofs.YtpmcnonmkghokaaGreatDoor
open Go.RowKit
attribute [local go_sem ↓] Go.wp_at_zero Go.wp_at_succ
theorem jwt (w:World)(so M nb:Nat)(a:Mach)(st:List Int)(sa:Option Addr)(sn sc:Nat)(h:qzr so w M nb a)(hok:MachOk a)(hS:w.ownsRow 0 5 1 (.slice sa sn sc) st.length (st.map (Value.int .u8)))(hsl:st.length≤1000000)(v:MView)(hv:lookO a st=some v) :
  Calls Tryz.prog 78 #[.pointer (some ⟨M,0,none⟩),.slice sa sn sc] w fun e w'=>e=.returned (.int .i64 (endOf v))∧Below w.heap.size w w':=by
 obtain ⟨h0,⟨ta,tc,cs,h1,h2,h3⟩,⟨na,nc,ds,h4,h5,h6⟩,_,_⟩:=h;have HLO:=hide (jq2 w 0 so M nb a st sa ta na sn sc tc nc cs ds h0 hS h1 h2 h3 hok.steps h4 h5 h6 hok.nevers hok.vars hsl hok.sl hok.nl (rG _) v hv);clear h0 h1 h2 h3 h4 h5 h6 hS hok hv;go_enter Tryz.func78,Tryz.ntmps78
 go_wp2_with fail
 refine (ku HLO).mono ?_;rintro e w5 ⟨x5,rfl,⟨ea,en,ec,wa,wn,wc,ba,bn,bc,rfl,hp1,hp2,hp3⟩,hb5⟩;obtain ⟨ba2,bc2,e1,-⟩:=qm hp3;obtain ⟨wa2,wc2,e2,-⟩:=qm hp2;injection e1 with e1a e1 e1c;injection e2 with e2a e2 e2c;subst e1;subst e2;subst e1a;subst e1c;subst e2a;subst e2c;have HB:=hide (hb5.alloc hb5.size (.cells #[.string v.text,.slice ea en ec,.slice wa v.wrong.length wc,.slice ba v.broken.length bc,.bool (kqg v)] 24));clear hp1 hp2 hp3 hb5 HLO;by_cases c1:0<v.broken.length
 ·have c1':(0:Int)<v.broken.length:=by omega
  have HE:=hide (show endOf v=1 by rw[endOf,if_pos c1]);generalize kqg v=md at *;go_wp2
  go_ret
  exact ⟨by rw[ku HE];rfl,ku HB⟩
 ·have c1':¬(0:Int)<v.broken.length:=by omega
  cases c2:kqg v
  ·rw[c2] at HB;by_cases c3:0<v.wrong.length
   ·have c3':(0:Int)<v.wrong.length:=by omega
    have HE:=hide (show endOf v=3 by rw[endOf,if_neg c1,c2,if_neg (by simp),if_pos c3]);go_wp2
    go_ret
    exact ⟨by rw[ku HE];rfl,ku HB⟩
   ·have c3':¬(0:Int)<v.wrong.length:=by omega
    have HE:=hide (show endOf v=0 by rw[endOf,if_neg c1,c2,if_neg (by simp),if_neg c3]);go_wp2
    go_ret
    exact ⟨by rw[ku HE];rfl,ku HB⟩
  ·rw[c2] at HB;have HE:=hide (show endOf v=2 by rw[endOf,if_neg c1,c2,if_pos rfl]);go_wp2
   go_ret
   exact ⟨by rw[ku HE];rfl,ku HB⟩
section
open Go.Sort
theorem vq2 (w:World)(B:Nat)(acc:List ByteArray)(sa:Option Addr)(sn sc:Nat)(h:w.ownsRow B 9 1 (.slice sa sn sc) acc.length (acc.map Value.string))(hl:acc.length≤1000000) :
  Calls Tryz.prog 134 #[.slice sa sn sc] w fun e w'=>e=.returned (.tuple #[])∧w'.ownsRow B 9 1 (.slice sa sn sc) acc.length (acc.reverse.map Value.string)∧yw (kv1 (.slice sa sn sc)) w w':=by
 rcases h.2 with ⟨e1,e2⟩|⟨g,cap,cur,e1,e2,e3,e4,e5,e6,e7⟩
 ·injection e1 with e1 e1' e1'';subst e1;subst e1';subst e1'';have hn:acc=[]:=sG e2;subst hn;have hcon:=Any.slices_Reverse_string_empty Tryz.revS none 0 w;change Calls Tryz.prog 134 _ _ _ at hcon
  refine hcon.mono ?_;rintro e w' ⟨rfl,rfl⟩;exact ⟨rfl,h,yw.refl _ _⟩
 ·injection e1 with e1 e1' e1'';subst e1;subst e1';subst e1'';have henc:∀ (b:ByteArray),encStr b.data.toList=.string b:=fun b=>by cases b;simp[encStr]
  have hH:Holds encStr w g 0 (acc.map fun b=>b.data.toList).toArray:=by
   intro j hj;have hj':j<acc.length:=by simpa using hj
   refine ⟨?_,?_⟩
   ·rw[getElem!_pos _ j hj];simp only[List.getElem_toArray,Qa,henc];unfold World.cell?;simp only[e3,lU];have h9:cur.toList[j]?=(acc.map Value.string)[j]?:=by rw[←e7,lg (by omega)]
    rw[sW,wW hj'] at h9;simpa using h9
   ·unfold World.frozen?;simp[e3]
  have hcon:=Any.slices_Reverse_string Tryz.revS g 0 sc (acc.map fun b=>b.data.toList) w hH (by simp;omega);change Calls Tryz.prog 134 _ _ _ at hcon
  rw[ni] at hcon;refine hcon.mono ?_;rintro e w' ⟨rfl,n,hw⟩;have hw2:w'=sortWorld encStr w g 0 n (acc.map fun b=>b.data.toList).reverse.toArray #[]:=by rw[hw];unfold sortWorld;rw[grow_empty]
  refine ⟨rfl,?_,by rw[hw2];exact kwm _ _ _ _ _ _ _⟩;refine ⟨by simp,Or.inr ⟨g,sc,_,rfl,e2,by rw[hw2];exact qxp _ _ _ _ _ _ e3,e4,e5,by simp[putCells,e6],?_⟩⟩;have hd:((acc.map fun b=>b.data.toList).reverse.toArray).size=acc.length:=by simp
  have:=qxb encStr (acc.map fun b=>b.data.toList).reverse.toArray cur (by rw[hd];omega);rw[hd] at this;rw[lM,this];simp only[List.toList_toArray,←List.map_reverse,Qz];apply List.map_congr_left;intro b _;exact henc b
end
theorem zxu (w:World)(B S O M gc cc sb fb:Nat)(ts:List Turn)(s:SSt)(last:Nat)(h:kqc B w S O M gc cc sb fb ts s)(hlw:0<last→last<s.ways.length)(hwl:s.ways.length≤1000000)(hl9:last≤1000000)(l:List ByteArray)(hr:zzn s.ways last last []=some l) :
  Calls Tryz.prog 80 #[.pointer (some ⟨S,0,none⟩),.int .i64 last] w fun e w'=>∃ v,e=.returned v∧w'.ownsRow w.heap.size 9 1 v l.length (l.reverse.map Value.string)∧Below w.heap.size w w':=by
 obtain ⟨i0,hi,hz0,hz1,hz2⟩:=info_parts Tryz.infoStr0;obtain ⟨la,ll,lc,cs,r1,r2,r3⟩:=h.row;obtain ⟨xa,xc,ex,hview⟩:=qm r2;injection ex with ex1 ex2 ex3;subst ex1;subst ex2;subst ex3;have hSl:=wZ r1;have HR1:=hide r1;have HVW:=hide hview;have HWI:=hide r3;have HR:=hide hr;clear h r1 r2 r3 hview hr;go_enter Tryz.func80,Tryz.ntmps80
 go_wp2_with fail
 go_loopw [5,6] (fun x i wr=>∃ (n k:Nat) (acc:List ByteArray) (sa:Option Addr) (sn sc:Nat),i=.int .i64 k∧k≤n∧k≤last∧acc.length+k≤last∧zzn s.ways n k acc=some l∧x=.slice sa sn sc∧wr.ownsRow w.heap.size 9 1 (.slice sa sn sc) acc.length (acc.map Value.string)∧Below w.heap.size w wr) (fun _ i _=>(intOf i).toNat)
 case atStart=>exact ⟨last,last,[],none,0,0,rfl,wX _,wX _,by simp,ku HR,rfl,rW _ _ _ _,Below.refl _ _⟩
 case round=>
  obtain ⟨n,k,acc,sa,sn,sc,rfl,hkn,hkl,hal,hrest,rfl,hown,hb⟩:=hrel;have hsz:=hb.size;cases k with
  | zero=>
   have hl:acc=l:=by
    cases n with
    | zero=>rw[zzn] at hrest;injection hrest
    | succ n=>rw[zzn] at hrest;injection hrest
   subst hl;have HRV:=hide (vq2 wr w.heap.size acc sa sn sc hown (by omega));have HGE:=hide (vg hown);have HB:=hide hb;clear hown hb hrest;go_wp2_with fail
   refine (ku HRV).mono ?_;rintro e w5 ⟨rfl,ho5,hst5⟩;have HX:=hide ho5;have HB5:=hide ((ku HB).trans (hst5.below hsz (fun q hq=>(ku HGE) q (by
    unfold kv1 at hq;rw[Option.mem_toList] at hq;exact hq))))
   clear ho5 hst5 HRV;go_wp2
   go_ret
   exact ⟨_,rfl,ku HX,ku HB5⟩
  | succ k=>
   cases n with
   | zero=>omega
   | succ n=>
    rw[zzn] at hrest;obtain ⟨x,hx,hrest⟩:=wJ.mp hrest;have hfk:x.from_≤k:=by
     apply rD;intro hc;rw[if_neg hc] at hrest;cases hrest
    rw[if_pos hfk] at hrest;have hkw:k+1<s.ways.length:=by have:=hlw (by omega);omega
    rw[wW hkw] at hx;injection hx with hx;obtain ⟨wa,wn,wc,c0,c1,c2,-⟩:=(ku HWI).2 (k+1) hkw;rw[hx] at c1 c2;obtain ⟨g,rfl,_,hg2,hc⟩:=ku HVW (k+1) hkw;obtain ⟨z0,z1,z2,z3,-⟩:=kj5 ((hb.block S hSl).trans (ku HR1));have e1:wr.cell? ⟨g,(k+1) * 3+1,none⟩=some (.int .i64 x.from_):=by
     rw[hb.cell (p:=⟨g,(k+1) * 3+1,none⟩) hg2,hc _ (by omega)];exact c1
    have e2:wr.cell? ⟨g,(k+1) * 3+2,none⟩=some (.string x.step):=by
     rw[hb.cell (p:=⟨g,(k+1) * 3+2,none⟩) hg2,hc _ (by omega)];exact c2
    have HXW:=hide hx;have HOW:=hide hown;have HB:=hide hb;have HRS:=hide hrest;have hS2:S<wr.heap.size:=by omega
    have hge2:g<wr.heap.size:=by omega
    clear hown hb hrest c0 c1 c2 hc hx;go_wp2_with (at_builtin;refine nC _ rfl _ _ 22 rfl w.heap.size 9 i0 _ 1 16 Tryz.underlying22 hi hz0 hz1 hz2 rfl (by decide) (.slice sa sn sc) _ _ rfl ((ku HOW).alloc _) ⟨wr.heap.size,0,none⟩ 1 1 [.string x.step] rfl rfl (kqz wr _ [.string x.step] _ rfl) (by intro y hy;simp at hy;subst hy;rfl) (by unfold maxLen;omega) (by omega) (by simp;omega) ?_)
    intro v6 w6 hown6 hgrow6 _ hat6;obtain ⟨a6,l6,c6,rfl⟩:=zu hown6;have hb6:=((ku HB).alloc (by omega) (.cells #[.string x.step] 9)).grown hgrow6 (by simp;omega) (vg (ku HOW));obtain ⟨z0',z1',z2',z3',-⟩:=kj5 ((hb6.block S hSl).trans (ku HR1));have e1':w6.cell? ⟨g,(k+1) * 3+1,none⟩=some (.int .i64 x.from_):=by
     obtain ⟨wa2,wn2,wc2,c0,c1,c2,-⟩:=(ku HWI).2 (k+1) hkw;obtain ⟨g',eg,_,_,hc'⟩:=ku HVW (k+1) hkw;injection eg with eg;injection eg with eg;subst eg;rw[hb6.cell (p:=⟨g,(k+1) * 3+1,none⟩) hg2,hc' _ (by omega),c1];rw[ku HXW]
    have HX6:=hide (show w6.ownsRow w.heap.size 9 1 (.slice a6 l6 c6) (acc++[x.step]).length ((acc++[x.step]).map Value.string) by rw[wB,sJ];exact hown6);have HB6:=hide hb6;clear hown6 hgrow6 hat6 hb6;go_wp2
    go_roundw
    case rel=>exact ⟨n,x.from_,acc++[x.step],a6,l6,c6,rfl,by omega,by omega,by simp;omega,ku HRS,rfl,ku HX6,ku HB6⟩
    case measure=>simp[intOf];omega
end Go.Proofs.YtpmcnonmkghokaaGreatDoor
namespace Go.Proofs.YtpmcnonmkghokaaGreatDoor
open Go.RowKit
attribute [local go_sem ↓] Go.wp_at_zero Go.wp_at_succ
theorem vjl (f:Fnd)(k:List Int)(x:SWay):(qjt f k x).length≤f.length+1:=by
 unfold qjt;split
 ·omega
 ·simp
theorem qwu {a:Mach}{ts:List Turn}{x:SWay}{f:Fnd}{c:List Int}{q:Fnd × List Int}(h:qqx a ts x f c=some q):q.1.length≤f.length+1:=by
 unfold qqx at h;split at h
 ·obtain ⟨r,_,h⟩:=wJ.mp h;split at h
  ·injection h with h;subst h;exact vjl _ _ _
  ·cases h
 ·cases h
theorem qk3 {a:Mach}{ts:List Turn}{most at_:Nat}{st:List Int}:∀ (l:List MStep) (f:Fnd) (c:List Int) (q:Fnd × List Int × Bool),kjs a ts most at_ st l f c=some q→f.length≤most→q.1.length≤most+1∧(q.2.2=false→q.1.length≤most)
 | [],f,c,q,h,hf=>by rw[kjs] at h;injection h with h;subst h;exact ⟨by simp;omega,fun _=>hf⟩
 | s::l,f,c,q,h,hf=>by
  rw[kjs] at h;obtain ⟨r,_,h⟩:=wJ.mp h;split at h
  ·obtain ⟨q1,hq1,h⟩:=wJ.mp h;have h1:=qwu hq1;split at h
   ·injection h with h;subst h;exact ⟨by simp;omega,fun e=>by cases e⟩
   ·exact qk3 l _ _ q h (by omega)
  ·exact qk3 l _ _ q h hf
theorem qwo {a:Mach}{ts:List Turn}{most:Nat}:∀ (l:List SWay) (at_:Nat) (f:Fnd) (c:List Int) (q:Fnd × List Int),kj9 a ts most l at_ f c=some q→f.length≤most→q.1.length≤most+1
 | [],_,f,c,q,h,hf=>by rw[kj9] at h;injection h with h;subst h;simp;omega
 | x::l,at_,f,c,q,h,hf=>by
  rw[kj9] at h;split at h
  ·obtain ⟨q1,hq1,h⟩:=wJ.mp h;have h1:=qk3 _ _ _ _ hq1 hf;cases hb:q1.2.2
   ·rw[hb,if_neg (by simp)] at h;exact qwo l _ _ _ q h (h1.2 hb)
   ·rw[hb,if_pos rfl] at h;injection h with h;subst h;exact h1.1
  ·cases h
theorem jwk (s:SSt):(gu s).ways.length≤s.ways.length+s.found.length∧s.ways.length≤(gu s).ways.length:=by
 unfold gu kvt;simp only[wB,ni,kx3];have:=Zy (fun y:List Int × SWay=>!(s.seen.any fun k=>k==y.1)) s.found;unfold newF;omega
theorem zqj:∀ (l:List Int) (ts r:List Turn),kke l ts=some r→ts.length≤100000→r.length≤100000
 | [],ts,r,h,ht=>by rw[kke] at h;injection h with h;subst h;exact ht
 | n::l,ts,r,h,ht=>by
  rw[kke] at h;split at h
  ·rename_i hc;exact zqj l _ r h hc.2.2
  ·cases h
theorem vz8 {so:Nat}{w:World}{M nb:Nat}{a:Mach}(h:qzr so w M nb a)(hok:MachOk a)(k:Nat)(hk:k<a.steps.length) :
  ∃ g tc pa pn pc ma mn mc p ba bn bc,w.cell? ⟨M,0,none⟩=some (.slice (some ⟨g,0,none⟩) a.steps.length tc)∧g<w.heap.size∧w.cell? ⟨g,k * 6,none⟩=some (.string a.steps[k].text)∧w.cell? ⟨g,k * 6+1,none⟩=some (.pointer (some ⟨M,0,none⟩))∧w.cell? ⟨g,k * 6+2,none⟩=some (.slice pa pn pc)∧w.cell? ⟨g,k * 6+3,none⟩=some (.slice ma mn mc)∧w.cell? ⟨g,k * 6+4,none⟩=some (.pointer p)∧w.cell? ⟨g,k * 6+5,none⟩=some (.slice ba bn bc) ∧
   ∀ (wx:World) (st:List Int) (sa:Option Addr) (sn sc:Nat) (r:List Int × Int),Below w.heap.size w wx→wx.ownsRow 0 5 1 (.slice sa sn sc) st.length (st.map (Value.int .u8))→st.length≤1000000→kwq a.vars a.tab a.steps[k].params a.steps[k].mems st a.steps[k].guard a.steps[k].block=some r →
    Calls Tryz.prog 79 #[.agg #[.string a.steps[k].text,.pointer (some ⟨M,0,none⟩),.slice pa pn pc,.slice ma mn mc,.pointer p,.slice ba bn bc],.slice sa sn sc] wx fun e w'=>∃ v,e=.returned (.tuple #[v,.int .i64 r.2])∧w'.ownsRow wx.heap.size 5 1 v r.1.length (r.1.map (Value.int .u8))∧Below wx.heap.size wx w':=by
 obtain ⟨h0,⟨ta,tc,cs,h1,h2,h3⟩,_,_,_⟩:=h;obtain ⟨xa,xc,e1,hview⟩:=qm h2;injection e1 with e1 _ e3;subst e1;subst e3;obtain ⟨g,rfl,_,hg2,hc⟩:=hview k hk;obtain ⟨pa,pn,pc,ma,mn,mc,p,ba,bn,bc,bs,no,e,i1,i2,i3,i4,i5⟩:=h3.2 k hk;obtain ⟨s0,s1,s2,s3,s4,s5⟩:=jjf e;have hs:=hok.steps a.steps[k] (wY _);refine ⟨g,tc,pa,pn,pc,ma,mn,mc,p,ba,bn,bc,h1,hg2,(hc _ (by omega)).trans s0,(hc _ (by omega)).trans s1,(hc _ (by omega)).trans s2,(hc _ (by omega)).trans s3,(hc _ (by omega)).trans s4,(hc _ (by omega)).trans s5,?_⟩;intro wx st sa sn sc r hb hS hsl hr;exact qw3 a.steps[k].guard a.steps[k].block wx 0 so M nb no a.vars a.tab a.steps[k].params a.steps[k].mems st a.steps[k].text p pa ma sa ba pn pc mn mc sn sc bn bc bs (h0.below hb) (qj i1 hb) (qj i2 hb) hS hok.vars hs.1 hsl (i3.below hb) hs.2.1 ⟨qj i4 hb,i5.stay (fun k _ hk=>hb.block k hk),hs.2.2.1,hs.2.2.2.1,hs.2.2.2.2⟩ (rG _) r hr
def kxe (w:World)(r:SRep)(e:Ending)(w':World):Prop:=
 ∃ ta tn tc,e=.returned (.tuple #[.agg #[.int .i64 r.end_,.slice ta tn tc,.int .i64 r.orbits],.int .i64 r.err])∧w'.ownsRow w.heap.size 9 1 (.slice ta tn tc) r.trace.length (r.trace.map Value.string)∧Below w.heap.size w w'
theorem qko {w:World}{b:Nat}{x0 x1 x2:Value}{t:TypeId}(h:w.heap[b]?=some (.cells #[x0,x1,x2] t (0,0)))(y0 y1 y2:Value):(((w.setCell ⟨b,0,none⟩ y0).setCell ⟨b,1,none⟩ y1).setCell ⟨b,2,none⟩ y2).heap[b]?=some (.cells #[y0,y1,y2] t (0,0)):=by
 have h1:(w.setCell ⟨b,0,none⟩ y0).heap[b]?=some (.cells #[y0,x1,x2] t (0,0)):=heap_setCell_same _ b 0 _ _ _ h;have h2:((w.setCell ⟨b,0,none⟩ y0).setCell ⟨b,1,none⟩ y1).heap[b]?=some (.cells #[y0,y1,x2] t (0,0)):=heap_setCell_same _ b 1 _ _ _ h1;exact heap_setCell_same _ b 2 _ _ _ h2
theorem kyo (w:World)(b:Nat)(y0 y1 y2:Value):yw [b] w (((w.setCell ⟨b,0,none⟩ y0).setCell ⟨b,1,none⟩ y1).setCell ⟨b,2,none⟩ y2):=
 (((yw.refl [b] w).set (Or.inl (by simp)) y0).set (Or.inl (by simp)) y1).set (Or.inl (by simp)) y2
theorem vks {w:World}{b:Nat}{ks:List (List Int)}{vs:List Value}{T E:Nat}(h:kxb w b ks vs)(hT:Tryz.prog.underlying T=some (.map 9 E))(ty:Nat):(Builtin.len_ #[T] ty #[.map (some b)]).run Tryz.prog w=.ok (.int .i64 ks.length) w:=by
 obtain ⟨es,cl,h1,h2,_⟩:=h.ents;have hl:es.size=ks.length:=by
  have:=congrArg List.length h2;simp[h.len] at this;rw[h.len];exact this
 simp[Builtin.len_,Qv hT,MapKept.run_getObj_map h1,Result.andThen,hl];rfl
theorem vqf {w:World}{b:Nat}{ks:List (List Int)}{vs:List Value}{T E:Nat}(h:kxb w b ks vs)(hT:Tryz.prog.underlying T=some (.map 9 E))(ty:Nat):∃ w',(Builtin.clear_ #[T] ty #[.map (some b)]).run Tryz.prog w=.ok (.tuple #[]) w'∧kxb w' b [] []∧yw [b] w w':=by
 obtain ⟨es,cl,h1,h2,_⟩:=h.ents;refine ⟨ChangeMaps.setBlock w b (.map #[] cl),?_,⟨⟨#[],cl,ChangeMaps.heap_setBlock_same h1 _,rfl,by simp,by simp⟩,rfl,Jc,by simp⟩,kyu w b _ h1⟩;simp[Builtin.clear_,Qv hT,MapKept.run_getObj_map h1,MapKept.run_setObj_map _ h1,Result.andThen,ChangeMaps.setBlock]
theorem kqc.jy7 {B:Nat}{w:World}{S O M gc cc sb fb:Nat}{ts:List Turn}{s:SSt}(h:kqc B w S O M gc cc sb fb ts s)(k:Nat)(hk:k<s.ways.length):∃ g lc ya yn yc,w.cell? ⟨S,1,none⟩=some (.slice (some ⟨g,0,none⟩) s.ways.length lc)∧g<w.heap.size∧w.cell? ⟨g,k * 3,none⟩=some (.slice ya yn yc)∧qxu B w gc s.ways[k].state (.slice ya yn yc):=by
 obtain ⟨la,ll,lc,cs,r1,r2,r3⟩:=h.row;obtain ⟨xa,xc,ex,hview⟩:=qm r2;injection ex with ex1 ex2 ex3;subst ex1;subst ex2;subst ex3;obtain ⟨z0,z1,z2,z3,_⟩:=kj5 r1;obtain ⟨g,rfl,_,hg,hc⟩:=hview k hk;obtain ⟨ya,yn,yc,c0,_,_,hs⟩:=r3.2 k hk;exact ⟨g,lc,ya,yn,yc,z1,hg,by rw[hc _ (by omega)];exact c0,hs⟩
theorem kqc.qqh {B:Nat}{w:World}{S O M gc cc sb fb:Nat}{ts:List Turn}{s:SSt}(h:kqc B w S O M gc cc sb fb ts s):∃ la lc,w.cell? ⟨S,1,none⟩=some (.slice la s.ways.length lc)∧w.cell? ⟨S,3,none⟩=some (.map (some fb)):=by
 obtain ⟨la,ll,lc,cs,r1,r2,r3⟩:=h.row;obtain ⟨xa,xc,ex,_⟩:=qm r2;injection ex with ex1 ex2 ex3;subst ex1;subst ex2;subst ex3;obtain ⟨z0,z1,z2,z3,_⟩:=kj5 r1;exact ⟨_,_,z1,z3⟩
theorem kqc.cleared {B:Nat}{w w':World}{S O M gc cc sb fb:Nat}{ts:List Turn}{s:SSt}(h:kqc B w S O M gc cc sb fb ts s)(hm:kxb w' fb [] [])(hk:yw [fb] w w'):kqc B w' S O M gc cc sb fb ts ⟨s.ways,s.seen,[],s.cur⟩:=by
 obtain ⟨tv,ho⟩:=h.orb;obtain ⟨vs,hs,hu⟩:=h.seen;exact h.turned (hk.wide (by simp)) rfl (kwx ho.own hk (fun k ek hm=>by
  injection ek with ek;have e1:gc=k:=ek;simp at hm;exact h.jwm.1 (by omega))) (hs.stay hk (by simpa using h.ne)) hu hm ⟨rfl,fun k hk=>by simp at hk⟩
def vka (w:World)(S:Nat):Nat:=match w.cell? ⟨S,1,none⟩ with|some (.slice _ n _)=>n|_=>0
theorem zvh {w:World}{S:Nat}{la:Option Addr}{n lc:Nat}(h:w.cell? ⟨S,1,none⟩=some (.slice la n lc)):vka w S=n:=by unfold vka;rw[h]
end Go.Proofs.YtpmcnonmkghokaaGreatDoor
