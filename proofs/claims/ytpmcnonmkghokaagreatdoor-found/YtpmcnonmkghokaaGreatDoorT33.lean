import Derived.Test.YtpmcnonmkghokaaGreatDoorT32
import Derived.WalkMore
import Derived.Test.YtpmcnonmkghokaaGreatDoorT27
import Derived.Test.YtpmcnonmkghokaaGreatDoorT24
set_option maxRecDepth 1000000
set_option maxHeartbeats 16000000
set_option linter.unusedVariables false
set_option linter.unusedSimpArgs false
namespace Go.Proofs.YtpmcnonmkghokaaGreatDoor
open Go.RowKit
attribute [local go_sem ↓] Go.wp_at_zero Go.wp_at_succ
def RdS (S:Nat)(wv:Value)(w:World):Prop:=w.cell? ⟨S,1,none⟩=some wv∧True
def ReS (S:Nat)(wv:Value)(b:Nat)(tx:ByteArray)(M:Nat)(pv mv gv bv:Value)(wg j:Nat)(yv:Value)(w:World):Prop:=w.cell? ⟨S,1,none⟩=some wv∧w.cell? ⟨b,0,none⟩=some (.string tx)∧w.cell? ⟨b,1,none⟩=some (.pointer (some ⟨M,0,none⟩))∧w.cell? ⟨b,2,none⟩=some pv∧w.cell? ⟨b,3,none⟩=some mv∧w.cell? ⟨b,4,none⟩=some gv∧w.cell? ⟨b,5,none⟩=some bv∧w.cell? ⟨wg,j,none⟩=some yv
theorem ReS.below {S:Nat}{wv:Value}{b:Nat}{tx:ByteArray}{M:Nat}{pv mv gv bv:Value}{wg j:Nat}{yv:Value}{B:Nat}{w w':World}(h:ReS S wv b tx M pv mv gv bv wg j yv w)(hb:Below B w w')(h1:S<B)(h2:b<B)(h3:wg<B):ReS S wv b tx M pv mv gv bv wg j yv w':=by
 obtain ⟨s0,s1,s2,s3,s4,s5,s6,s7⟩:=h;exact ⟨(hb.cell (p:=⟨S,1,none⟩) h1).trans s0,(hb.cell (p:=⟨b,0,none⟩) h2).trans s1,(hb.cell (p:=⟨b,1,none⟩) h2).trans s2,(hb.cell (p:=⟨b,2,none⟩) h2).trans s3,(hb.cell (p:=⟨b,3,none⟩) h2).trans s4,(hb.cell (p:=⟨b,4,none⟩) h2).trans s5,(hb.cell (p:=⟨b,5,none⟩) h2).trans s6,(hb.cell (p:=⟨wg,j,none⟩) h3).trans s7⟩
theorem zyb {w:World}{b:Nat}{c:Nat}(h:w.heap[b]?=some (.map #[] c)):kxb w b [] []:=⟨⟨#[],c,h,rfl,by simp,by simp⟩,rfl,Jc,by simp⟩
theorem jji (w:World)(so M nb:Nat)(a:Mach)(ma0:Option Addr)(mn0 mc0:Nat)(h:qzr so w M nb a)(hok:MachOk a)(hM2:w.cell? ⟨M,2,none⟩=some (.slice ma0 mn0 mc0))(hS0:w.ownsRow 0 3 1 (.slice ma0 mn0 mc0) a.sets.length (a.sets.map (Value.int .i64)))(hsl:a.sets.length≤1000)(most:Int)(r:SRep)(hr:zy0 a most=some r) :
  Calls Tryz.prog 44 #[.pointer (some ⟨M,0,none⟩),.int .i64 most] w (kxe w r):=by
 obtain ⟨W,hW⟩:∃ W,W=w.alloc (.cells #[.int .i64 0,.slice none 0 0,.int .i64 0] 46):=⟨_,rfl⟩;have hbW:Below w.heap.size w W:=by rw[hW];exact below_alloc1 w _
 have hsW:W.heap.size=w.heap.size+1:=by rw[hW];simp
 have hRW:W.heap[w.heap.size]?=some (.cells #[.int .i64 0,.slice none 0 0,.int .i64 0] 46 (0,0)):=by rw[hW];exact qg _ _
 have HBW:=hide hbW;have HRW:=hide hRW;have HWE:=hide hW.symm;unfold zy0 at hr;by_cases harg:most<1∨500<most
 ·rw[if_pos harg] at hr;injection hr with hr;have HREP:=hide hr.symm;have HPT:=hide (show kxe w (kxw 8) (.returned (.tuple #[.agg #[.int .i64 0,.slice none 0 0,.int .i64 0],.int .i64 8])) (w.alloc (.cells #[.int .i64 0,.slice none 0 0,.int .i64 0] 46)) from ⟨none,0,0,rfl,rW _ _ _ _,below_alloc1 _ _⟩);clear h hok hM2 hS0 hr hRW hbW hW hsW;by_cases h1:most<1
  ·go_enter Tryz.func44,Tryz.ntmps44
   go_wp2_with fail
   go_step3
   go_wp2
   try rw[Exit.noGoto_ret]
   refine wC (v:=.tuple #[.agg #[.int .i64 0,.slice none 0 0,.int .i64 0],.int .i64 8]) (kq8 Tryz.results44 _ _ w.heap.size _ _ _ _ rfl (qg _ _) Tryz.underlying46 rfl (by kernel_rfl)) rfl ?_;rw[ku HREP];exact ku HPT
  ·have h2:500<most:=by omega
   go_enter Tryz.func44,Tryz.ntmps44
   go_wp2_with fail
   go_step3
   go_wp2
   try rw[Exit.noGoto_ret]
   refine wC (v:=.tuple #[.agg #[.int .i64 0,.slice none 0 0,.int .i64 0],.int .i64 8]) (kq8 Tryz.results44 _ _ w.heap.size _ _ _ _ rfl (qg _ _) Tryz.underlying46 rfl (by kernel_rfl)) rfl ?_;rw[ku HREP];exact ku HPT
 ·rw[if_neg harg] at hr;have hsz:a.size≤1000000:=by
   apply rD;intro hc;rw[if_neg hc] at hr;cases hr
  rw[if_pos hsz] at hr;obtain ⟨ts,hts,hr⟩:=wJ.mp hr;obtain ⟨q0,hq0,hr⟩:=wJ.mp hr;obtain ⟨m,hm⟩:∃ m:Nat,most=m:=⟨most.toNat,by omega⟩;subst hm;rw[QK] at hr;have hm1:1≤m:=by omega
  have hm5:m≤500:=by omega
  have hl1:¬((m:Int)<1):=by omega
  have hl2:¬((500:Int)<m):=by omega
  have hML:=h.lt;have hMW:=h.below hbW;have hq0l:=qwu hq0;have hst0:0<a.size:=by
   unfold qqx at hq0;split at hq0
   ·rename_i hc;simpa[kkw] using hc.1
   ·cases hq0
  have htl:ts.length≤1000000:=by
   have:=zqj _ _ _ hts (by simp);omega
  have HOR:=hide (jzw W M a.size a.sets ma0 mn0 mc0 (by omega) ((hbW.cell (p:=⟨M,2,none⟩) hML).trans hM2) (qj hS0 hbW) hMW.size hsz hsl ts hts);have HMW:=hide hMW;have HOK:=hide hok;have HR:=hide hr;have HQ0:=hide hq0;have hmk1:∀ X:World,(Instr.makeMap 166 none).run Tryz.prog X=.ok (.map (some X.heap.size)) (X.alloc (.map #[] 0)):=fun X=>rfl
  have hmk2:∀ X:World,(Instr.makeMap 167 none).run Tryz.prog X=.ok (.map (some X.heap.size)) (X.alloc (.map #[] 0)):=fun X=>rfl
  clear h hok hM2 hS0 hr hts hq0 hRW hbW hW harg hMW;go_enter Tryz.func44,Tryz.ntmps44
  go_wp2_with fail
  go_step3
  go_wp2_with fail
  rw[ku HWE];refine (ku HOR).mono ?_;rintro e w1 ⟨O,tv,cv,rfl,hO1,hO2,hO3,hO4,hb1⟩;have hs1:=hb1.size;obtain ⟨w4,hw4⟩:∃ w4,w4=((w1.alloc (.map #[] 0)).alloc (.map #[] 0)).alloc (.cells #[.pointer (some ⟨O,0,none⟩),.slice none 0 0,.map (some w1.heap.size),.map (some (w1.heap.size+1))] 170):=⟨_,rfl⟩;have hb4:Below w1.heap.size w1 w4:=by rw[hw4];exact ((below_alloc1 w1 _).alloc (by simp) _).alloc (by simp;omega) _
  have hs4:w4.heap.size=w1.heap.size+3:=by rw[hw4];simp
  obtain ⟨gc,cc,hcv⟩:∃ gc cc,cv=.slice (some ⟨gc,0,none⟩) a.size cc:=by
   rcases hO3.2 with ⟨e1,e2⟩|⟨g,cap,cur,e1,_⟩
   ·omega
   ·exact ⟨g,cap,e1⟩
  subst hcv;have hgcge:W.heap.size≤gc:=vg hO3 gc rfl;have hgclt:gc<w1.heap.size:=by
   obtain ⟨c,fr,e⟩:=kwk hO3 gc (by simp[kv1,Value.ownBlock]);exact wZ e
  have hm4a:w4.heap[w1.heap.size]?=some (.map #[] 0):=by
   rw[hw4];have e1:(w1.alloc (.map #[] 0)).heap[w1.heap.size]?=some (.map #[] 0):=heap_alloc_new w1 _;rw[heap_alloc_old _ _ (by simp;omega),heap_alloc_old _ _ (by simp)];exact e1
  have hm4b:w4.heap[w1.heap.size+1]?=some (.map #[] 0):=by
   rw[hw4,heap_alloc_old _ _ (by simp)];have e1:=heap_alloc_new (w1.alloc (.map #[] 0)) (.map #[] 0);simp only[tZ] at e1;exact e1
  have hm4c:w4.heap[w1.heap.size+2]?=some (.cells #[.pointer (some ⟨O,0,none⟩),.slice none 0 0,.map (some w1.heap.size),.map (some (w1.heap.size+1))] 170 (0,0)):=by
   rw[hw4];have e1:=qg ((w1.alloc (.map #[] 0)).alloc (.map #[] 0)) (.cells #[.pointer (some ⟨O,0,none⟩),.slice none 0 0,.map (some w1.heap.size),.map (some (w1.heap.size+1))] 170);simp only[tZ] at e1;exact e1
  have hsch4:kqc W.heap.size w4 (w1.heap.size+2) O M gc cc w1.heap.size (w1.heap.size+1) ts ⟨[],[],[],List.replicate a.size 0⟩:=by
   refine ⟨⟨none,0,0,[],hm4c,rW _ _ _ _,rfl,fun k hk=>by simp at hk⟩,⟨tv,?_,?_,?_⟩,⟨[],zyb hm4a,by simp⟩,⟨[],zyb hm4b,rfl,fun k hk=>by simp at hk⟩,by omega,by omega,by omega,by omega,by omega⟩
   ·show w4.heap[O]?=some (.cells #[_,_,.slice _ (List.replicate a.size (0:Int)).length _] _ _);rw[QJ];exact (hb4.block O (wZ hO1)).trans hO1
   ·obtain ⟨la,ll,lc,cs,e1,e2,e3⟩:=hO2.tk (vk hb4 none []) (jh.none _) (by simp) (by simp) (by simp);exact ⟨la,ll,lc,cs,e1,zx (rG _) e2,e3⟩
   ·show w4.ownsRow _ _ _ (.slice _ (List.replicate a.size (0:Int)).length _) (List.replicate a.size (0:Int)).length _;rw[QJ];exact qj hO3 hb4
  obtain ⟨S,hS⟩:∃ S,S=w1.heap.size+2:=⟨_,rfl⟩;obtain ⟨sb,hsb⟩:∃ sb,sb=w1.heap.size:=⟨_,rfl⟩;obtain ⟨fb,hfb⟩:∃ fb,fb=w1.heap.size+1:=⟨_,rfl⟩;rw[←hS,←hfb,←hsb] at hsch4;have hbW4:Below W.heap.size W w4:=hb1.trans (hb4.mono hs1);obtain ⟨B,hB⟩:∃ B,B=W.heap.size:=⟨_,rfl⟩;rw[←hB] at hsch4;have HSC4:=hide hsch4;have HBW4:=hide hbW4;have HF4:=hide (qzk w4 M a.size ((ku HMW).below hbW4).size hsz);have HW4:=hide hw4.symm;have hS2:w1.heap.size+2=S:=hS.symm;have HSE:=hide hS;have hSlt:S<w4.heap.size:=by omega
  have hBW:B=W.heap.size:=hB;have HBE:=hide hB;have hBw:B≤w4.heap.size:=by omega
  have hBw2:w.heap.size<B:=by omega
  clear hO1 hO2 hO3 hb1 hb4 hw4 hm4a hm4b hm4c hsch4 hbW4 hsb hfb hgcge hgclt hO4 HOR hS hS2 hB hBW;go_wp2_with fail
  rw[ku HW4,←ku HSE];refine (ku HF4).mono ?_;rintro e w5 ⟨v5,rfl,ho5,hb5⟩;obtain ⟨a5,l5,c5,rfl⟩:=zu ho5;have hs5:=hb5.size;have hb5W:Below W.heap.size W w5:=(ku HBW4).trans (hb5.mono (by have:=ku HBE;omega));have HFI:=hide (jqg w5 B S O M nb gc cc sb fb a ts ⟨[],[],[],List.replicate a.size 0⟩ (kkw a) a5 l5 c5 ((ku HSC4).below hb5) (((ku HMW).below hb5W).mc) (show qxu B w5 gc (kkw a).state (.slice a5 l5 c5) from ⟨by
   show w5.ownsRow B 5 1 (.slice a5 l5 c5) (List.replicate a.size (0:Int)).length _;rw[QJ];exact zx hBw ho5,fun e1=>by
    have h9:=vg ho5 gc e1;have h8:=(ku HSC4).lts.2.2.1;omega⟩) (ku HOK).vars htl (by omega) q0 (ku HQ0))
  have HB5W:=hide hb5W;clear ho5 hb5 hb5W HF4;go_wp2_with fail
  refine (ku HFI).mono ?_;rintro e w6 ⟨rfl,hsch6,hb6⟩;have hs6:=hb6.size;have HSC6:=hide hsch6;have HB6:=hide ((ku HB5W).trans (show Below W.heap.size w5 w6 by rw[←ku HBE];exact hb6));clear hsch6 hb6 HFI HB5W;go_wp2_with fail
  go_step3
  go_wp2_with fail
  have HBB:=hide (show ∀ wx:World,Below B W wx→Below W.heap.size W wx from fun wx hx=>by rw[←ku HBE];exact hx);have HB6':=hide (show Below B W w6 by rw[ku HBE];exact ku HB6);have hBW1:B≤W.heap.size:=by have:=ku HBE;omega
  have hsW1:w.heap.size<W.heap.size:=by omega
  have hMB:M<B:=by have:=ku HBE;omega
  clear hsW hmk1 hmk2 HBW4 HSC4;go_loopw [7,8,9,10,11,13,14,15] (fun e7 e8 _ _ _ _ _ _ wr=>∃ (n:Nat) (s:SSt),e7=.int .i64 0∧e8=.int .i64 0∧kqc B wr S O M gc cc sb fb ts s∧kqo a ts m n s=some r∧s.ways.length≤m∧s.found.length≤m+1∧Below B W wr) (fun _ _ _ _ _ _ _ _ wr=>1000-vka wr S)
  case atStart=>exact ⟨502,⟨[],[],q0.1,q0.2⟩,rfl,rfl,ku HSC6,ku HR,by simp,by simp at hq0l ⊢;omega,ku HB6'⟩
  case round=>
   obtain ⟨wo,hwo⟩:∃ wo,wo=wr:=⟨_,rfl⟩;subst hwo;obtain ⟨n,s,rfl,rfl,hsch,hrest,hwm,hfm,hb⟩:=hrel;have hszo:=hb.size;cases n with
   | zero=>rw[kqo] at hrest;cases hrest
   | succ n=>
    rw[kqo] at hrest;have hkl:=jwk s;obtain ⟨oa,oc,ow,-⟩:=hsch.qqh;have HLW:=hide (zvh ow);have HKN:=hide (jqz wo B S O M gc cc sb fb ts s hsch (by omega) (by omega) (by omega));have HREST:=hide hrest;have HB:=hide hb;clear hsch hrest hb ow;generalize gu s=sK at *;go_wp2_with fail
    go_step3
    go_wp2_with fail
    refine (ku HKN).mono ?_;rintro e w2 ⟨rfl,hsch2,hb2⟩;have hs2:=hb2.size;obtain ⟨la2,lc2,z1,z3⟩:=hsch2.qqh;have hbW2:=(ku HB).trans hb2;have HSC2:=hide hsch2;have HBW2:=hide hbW2;have hS2:=hsch2.lts.1;clear hsch2 hb2 hbW2 HKN;by_cases hbig:m<sK.ways.length
    ·have hrep:=ku HREST;rw[if_pos hbig] at hrep;injection hrep with hrep;have HREP:=hide hrep.symm;have hR2:=((ku HBW2).block w.heap.size (by omega)).trans (ku HRW);obtain ⟨k0,k1,k2,kf0,kf1,kf2⟩:=row3 hR2;have HRT:=hide (qko hR2 (.int .i64 0) (.slice none 0 0) (.int .i64 0));have HPT:=hide (show kxe w (kxw 9) (.returned (.tuple #[.agg #[.int .i64 0,.slice none 0 0,.int .i64 0],.int .i64 9])) (((w2.setCell ⟨w.heap.size,0,none⟩ (.int .i64 0)).setCell ⟨w.heap.size,1,none⟩ (.slice none 0 0)).setCell ⟨w.heap.size,2,none⟩ (.int .i64 0)) from ⟨none,0,0,rfl,rW _ _ _ _,((ku HBW).trans ((ku HBW2).mono (by omega))).trans ((kyo w2 w.heap.size _ _ _).below (by omega) (by simp))⟩);have hbigI:(m:Int)<sK.ways.length:=by omega
     have hRl:w.heap.size<w2.heap.size:=by omega
     clear hrep hR2 hbig;go_wp2
     try rw[Exit.noGoto_ret]
     refine wC (v:=.tuple #[.agg #[.int .i64 0,.slice none 0 0,.int .i64 0],.int .i64 9]) (kq8 Tryz.results44 _ _ w.heap.size _ _ _ _ rfl (ku HRT) Tryz.underlying46 rfl (by kernel_rfl)) rfl ?_;rw[ku HREP];exact ku HPT
    ·have hbigI:¬((m:Int)<sK.ways.length):=by omega
     by_cases hsame:sK.ways.length=s.ways.length
     ·have hrep:=ku HREST;rw[if_neg hbig,if_pos (by simpa using hsame)] at hrep;unfold qzv at hrep;obtain ⟨lt,hlt,hrep⟩:=tu.mp hrep;have HREP:=hide hrep.symm;have HTRC:=hide hlt;have HSCt:=hide (ku HSC2);have HBt:=hide ((ku HBB) w2 (ku HBW2));have hlst:0<0→0<sK.ways.length:=fun h=>by omega
      have hqb:((s.ways.length:Int)==(sK.ways.length:Int))=true:=by simp[hsame]
      have hwk:sK.ways.length≤1000:=by omega
      clear hrep hlt hsame hbig HREST;obtain ⟨tla,tll,tlc,tcs,tr1,tr2,-⟩:=((ku HSCt).below ((Below.refl _ w2).drew)).row;obtain ⟨txa,txc,tex,-⟩:=qm tr2;injection tex with tex1 tex2 tex3;subst tex1;subst tex2;subst tex3;obtain ⟨tz0,tz1,tz2,tz3,-⟩:=kj5 tr1;have HSt:=hide (show RdS S (.slice tla sK.ways.length tlc) w2.drew from ⟨tz1,trivial⟩);have HTR:=hide (zxu w2.drew B S O M gc cc sb fb ts sK 0 ((ku HSCt).below ((Below.refl _ w2).drew)) hlst (by omega) (by omega) lt (ku HTRC));have hxs:=(ku HBt).size;have hSx:S<w2.heap.size:=wZ tr1;clear tr1 tr2 tz0 tz1 tz2 tz3;go_upto_region 28 with fail
      rw[Exit.noGoto_exit];go_upto_region 28 with fail
      refine pz (S:=RdS S (.slice tla sK.ways.length tlc)) (tl:=[7,8]) (by kernel_rfl) ?_;refine qy (i:=0) (v:=.int .i64 0) rfl (by kernel_rfl) (by kernel_rfl) (by kernel_rfl) (fun _ _ _ h=>h) (Or.inl ⟨by rfl,fun _ _=>by go_simp⟩) ?_;try simp only[Act.put,wz,wQ,wu]
      refine qy (i:=1) (v:=.int .i64 0) rfl (by kernel_rfl) (by kernel_rfl) (by kernel_rfl) (fun _ _ _ h=>h) (Or.inl ⟨by rfl,fun _ _=>by go_simp⟩) ?_;try simp only[Act.put,wz,wQ,wu]
      refine qy (i:=3) (v:=.pointer (some ⟨S,1,none⟩)) rfl (by kernel_rfl) (by kernel_rfl) (by kernel_rfl) (fun _ _ _ h=>h) (Or.inl ⟨by rfl,fun _ _=>by go_simp⟩) ?_;try simp only[Act.put,wz,wQ,wu]
      refine qo (i:=4) (v:=.slice tla sK.ways.length tlc) [5,6,7,8] rfl (by kernel_rfl) (by kernel_rfl) (by kernel_rfl) (by kernel_rfl) (by decide) (fun _ _ _ h=>h) (Or.inl ⟨by rfl,fun wq hSw=>by (obtain ⟨s0,_⟩:=hSw;go_simp)⟩) (ku HSt) ?_;try simp only[Act.put,wz,wQ,wu]
      refine qy (i:=5) (v:=.int .i64 sK.ways.length) rfl (by kernel_rfl) (by kernel_rfl) (by kernel_rfl) (fun _ _ _ h=>h) (Or.inl ⟨by rfl,fun _ _=>by go_simp⟩) ?_;try simp only[Act.put,wz,wQ,wu]
      refine yu (rs:=[2]) (by kernel_rfl) (by simp) ?_;refine jd.cons rfl (fun K hK=>?_) jd.nil;go_simp
      go_at_call 80
      refine (ku HTR).mono ?_;rintro e wt ⟨vt,rfl,hot,hbt⟩;obtain ⟨ta,tn,tc,rfl⟩:=zu hot;have hbt':Below w2.heap.size w2 wt:=kva hbt;have hst2:=hbt'.size;have HSt2:=hide (show RdS S (.slice tla sK.ways.length tlc) wt from ⟨(hbt'.cell (p:=⟨S,1,none⟩) hSx).trans (ku HSt).1,trivial⟩);have hRt:wt.heap[w.heap.size]?=some (.cells #[.int .i64 0,.slice none 0 0,.int .i64 0] 46 (0,0)):=(hbt'.block w.heap.size (by omega)).trans (((ku HBt).block w.heap.size (by omega)).trans (ku HRW));obtain ⟨k0,k1,k2,kf0,kf1,kf2⟩:=row3 hRt;have HRT:=hide (qko hRt (.int .i64 0) (.slice ta tn tc) (.int .i64 sK.ways.length));have HPT:=hide (show kxe w r (.returned (.tuple #[.agg #[.int .i64 0,.slice ta tn tc,.int .i64 sK.ways.length],.int .i64 0])) (((wt.setCell ⟨w.heap.size,0,none⟩ (.int .i64 0)).setCell ⟨w.heap.size,1,none⟩ (.slice ta tn tc)).setCell ⟨w.heap.size,2,none⟩ (.int .i64 sK.ways.length)) by
       have hs3:=kyo wt w.heap.size (.int .i64 0) (.slice ta tn tc) (.int .i64 sK.ways.length);rw[ku HREP];refine ⟨ta,tn,tc,rfl,?_,?_⟩
       ·show World.ownsRow _ _ _ _ _ lt.reverse.length _;rw[QV];exact zx (show w.heap.size≤w2.heap.size by omega) (kzq hot hs3 (fun q hq c fr e1=>by
         have hq':q=w.heap.size:=by simpa using hq
         rw[hq',hRt] at e1;injection e1 with e1;injection e1 with _ e1 _;exact absurd e1 (by decide)))
       ·exact (((ku HBW).trans ((ku HBt).mono (by omega))).trans (hbt'.mono (by omega))).trans (hs3.below (by omega) (by simp)))
      clear hot hbt hbt' hRt HTR;dsimp only;refine hK _ _ (ku HSt2) ?_;clear hK K;try simp only[Act.put,wz,wQ,wu]
      refine qy (i:=6) (v:=.agg #[.int .i64 0,.slice ta tn tc,.int .i64 sK.ways.length]) rfl (by kernel_rfl) (by kernel_rfl) (by kernel_rfl) (fun _ _ _ h=>h) (Or.inl ⟨by rfl,fun _ _=>by go_simp⟩) ?_;try simp only[Act.put,wz,wQ,wu]
      refine kq1 _ _ _ _ (kjd (by kernel_rfl)) ?_;refine wpAny_ready (rs:=[7]) (by kernel_rfl) (by simp) (AllReady.cons rfl (fun K hK=>?_) AllReady.nil);go_simp
      refine hK _ _ ?_;clear hK K;refine wpAny_ready (rs:=[8]) (by kernel_rfl) (by simp) (AllReady.cons rfl (fun K hK=>?_) AllReady.nil);go_simp
      refine hK _ _ ?_;clear hK K;refine wpAny_done (by kernel_rfl) ?_ _;clear k0 k1 k2 kf0 kf1 kf2;go_wp2
      try rw[Exit.noGoto_ret]
      refine wC (v:=.tuple #[.agg #[.int .i64 0,.slice ta tn tc,.int .i64 sK.ways.length],.int .i64 0]) (kq8 Tryz.results44 _ _ w.heap.size _ _ _ _ rfl (ku HRT) Tryz.underlying46 rfl (by kernel_rfl)) rfl ?_;exact ku HPT
     ·have hlt0:s.ways.length<sK.ways.length:=by omega
      have hqb:((s.ways.length:Int)==(sK.ways.length:Int))=false:=by
       rw[sD];omega
      have hrep:=ku HREST;rw[if_neg hbig,if_neg (by simpa using hsame)] at hrep;obtain ⟨x,hx,hrep⟩:=wJ.mp hrep;have HEN:=hide hx;have HREP2:=hide hrep;have hwk:sK.ways.length≤500:=by omega
      have hd37:decide (m<sK.ways.length)=false:=by simp;omega
      clear hrep hx hsame hbig HREST;go_wp2_with fail
      try rw[hd37]
      clear hd37;go_loopw [7,8,10] (fun e7 e8 i wr=>∃ k:Nat,i=.int .i64 k∧s.ways.length≤k∧k≤sK.ways.length∧e7=.int .i64 0∧e8=.int .i64 0∧qyu a (sK.ways.drop k) k=some x∧kqc B wr S O M gc cc sb fb ts sK∧Below B W wr) (fun _ _ i _=>sK.ways.length-(intOf i).toNat)
      case atStart=>exact ⟨s.ways.length,rfl,wX _,by omega,rfl,rfl,ku HEN,ku HSC2,ku HBW2⟩
      case round=>
       obtain ⟨w3,hw3⟩:∃ w3,w3=wr:=⟨_,rfl⟩;subst hw3;obtain ⟨k,rfl,hk1,hk2,rfl,rfl,hends,hsch3,hb3⟩:=hrel;have hs3:=hb3.size;have hS3:=hsch3.lts.1;by_cases hlt:k<sK.ways.length
       ·obtain ⟨wg,wlc,ya,yn,yc,y1,hwg,y3,hys⟩:=hsch3.jy7 k hlt;rw[rM hlt,qyu] at hends;have hstl:sK.ways[k].state.length≤1000000:=by
         apply rD;intro hc;rw[if_neg hc] at hends;cases hends
        rw[if_pos hstl] at hends;obtain ⟨v,hv,hends⟩:=wJ.mp hends;have HEA:=hide (jwt w3 so M nb a sK.ways[k].state ya yn yc ((ku HMW).below ((ku HBB) w3 hb3)) (ku HOK) (zx (rG _) hys.1) hstl v hv);have HENDS:=hide hends;have HSC3:=hide hsch3;have HB3:=hide hb3;have HFINAL:=hide (fun (e0:endOf v≠0)=>show x=(k,endOf v) from by
         have h9:=ku HENDS;rw[if_neg (by simpa using e0)] at h9;injection h9 with h9;exact h9.symm)
        have HNEXT:=hide (fun (e0:endOf v=0)=>show qyu a (sK.ways.drop (k+1)) (k+1)=some x from by
         have h9:=ku HENDS;rw[if_pos (by simpa using e0)] at h9;exact h9)
        generalize endOf v=ev at *;clear hends hv hsch3 hb3 hys HENDS;go_wp2_with fail
        refine (ku HEA).mono ?_;rintro e w4 ⟨rfl,hb4⟩;have hs4':=hb4.size;have HSC4:=hide ((ku HSC3).below hb4);have HB4:=hide ((ku HB3).trans (hb4.mono (by omega)));clear hb4 HEA y1 y3;by_cases hz:ev=0
        ·subst hz;have HNX:=hide ((ku HNEXT) rfl);clear HNEXT HFINAL;go_wp2
         go_roundw
         case rel=>exact ⟨k+1,by go_num,by omega,by omega,rfl,rfl,ku HNX,ku HSC4,ku HB4⟩
         case measure=>simp[intOf];omega
        ·have hxe:=(ku HFINAL) hz;have hne:(ev != 0)=true:=by simpa using hz
         have hrep:=ku HREP2;rw[hxe] at hrep;rw[if_neg (by simpa using hz)] at hrep;unfold qzv at hrep;obtain ⟨lt,hlt2,hrep⟩:=tu.mp hrep;have HREP:=hide hrep.symm;have HTRC:=hide hlt2;have HSCt:=hide (ku HSC4);have HBt:=hide ((ku HBB) w4 (ku HB4));have hlst:0<k→k<sK.ways.length:=fun h=>hlt
         clear hrep hlt2 HREP2 HNEXT HFINAL hxe;obtain ⟨tla,tll,tlc,tcs,tr1,tr2,-⟩:=((ku HSCt).below ((Below.refl _ w4).drew)).row;obtain ⟨txa,txc,tex,-⟩:=qm tr2;injection tex with tex1 tex2 tex3;subst tex1;subst tex2;subst tex3;obtain ⟨tz0,tz1,tz2,tz3,-⟩:=kj5 tr1;have HSt:=hide (show RdS S (.slice tla sK.ways.length tlc) w4.drew from ⟨tz1,trivial⟩);have HTR:=hide (zxu w4.drew B S O M gc cc sb fb ts sK k ((ku HSCt).below ((Below.refl _ w4).drew)) hlst (by omega) (by omega) lt (ku HTRC));have hxs:=(ku HBt).size;have hSx:S<w4.heap.size:=wZ tr1;clear tr1 tr2 tz0 tz1 tz2 tz3;go_upto_region 28 with fail
         rw[Exit.noGoto_exit];go_upto_region 28 with fail
         refine pz (S:=RdS S (.slice tla sK.ways.length tlc)) (tl:=[7,8]) (by kernel_rfl) ?_;refine qy (i:=0) (v:=.int .i64 ev) rfl (by kernel_rfl) (by kernel_rfl) (by kernel_rfl) (fun _ _ _ h=>h) (Or.inl ⟨by rfl,fun _ _=>by go_simp⟩) ?_;try simp only[Act.put,wz,wQ,wu]
         refine qy (i:=1) (v:=.int .i64 k) rfl (by kernel_rfl) (by kernel_rfl) (by kernel_rfl) (fun _ _ _ h=>h) (Or.inl ⟨by rfl,fun _ _=>by go_simp⟩) ?_;try simp only[Act.put,wz,wQ,wu]
         refine qy (i:=3) (v:=.pointer (some ⟨S,1,none⟩)) rfl (by kernel_rfl) (by kernel_rfl) (by kernel_rfl) (fun _ _ _ h=>h) (Or.inl ⟨by rfl,fun _ _=>by go_simp⟩) ?_;try simp only[Act.put,wz,wQ,wu]
         refine qo (i:=4) (v:=.slice tla sK.ways.length tlc) [5,6,7,8] rfl (by kernel_rfl) (by kernel_rfl) (by kernel_rfl) (by kernel_rfl) (by decide) (fun _ _ _ h=>h) (Or.inl ⟨by rfl,fun wq hSw=>by (obtain ⟨s0,_⟩:=hSw;go_simp)⟩) (ku HSt) ?_;try simp only[Act.put,wz,wQ,wu]
         refine qy (i:=5) (v:=.int .i64 sK.ways.length) rfl (by kernel_rfl) (by kernel_rfl) (by kernel_rfl) (fun _ _ _ h=>h) (Or.inl ⟨by rfl,fun _ _=>by go_simp⟩) ?_;try simp only[Act.put,wz,wQ,wu]
         refine yu (rs:=[2]) (by kernel_rfl) (by simp) ?_;refine jd.cons rfl (fun K hK=>?_) jd.nil;go_simp
         go_at_call 80
         refine (ku HTR).mono ?_;rintro e wt ⟨vt,rfl,hot,hbt⟩;obtain ⟨ta,tn,tc,rfl⟩:=zu hot;have hbt':Below w4.heap.size w4 wt:=kva hbt;have hst2:=hbt'.size;have HSt2:=hide (show RdS S (.slice tla sK.ways.length tlc) wt from ⟨(hbt'.cell (p:=⟨S,1,none⟩) hSx).trans (ku HSt).1,trivial⟩);have hRt:wt.heap[w.heap.size]?=some (.cells #[.int .i64 0,.slice none 0 0,.int .i64 0] 46 (0,0)):=(hbt'.block w.heap.size (by omega)).trans (((ku HBt).block w.heap.size (by omega)).trans (ku HRW));obtain ⟨k0,k1,k2,kf0,kf1,kf2⟩:=row3 hRt;have HRT:=hide (qko hRt (.int .i64 ev) (.slice ta tn tc) (.int .i64 sK.ways.length));have HPT:=hide (show kxe w r (.returned (.tuple #[.agg #[.int .i64 ev,.slice ta tn tc,.int .i64 sK.ways.length],.int .i64 0])) (((wt.setCell ⟨w.heap.size,0,none⟩ (.int .i64 ev)).setCell ⟨w.heap.size,1,none⟩ (.slice ta tn tc)).setCell ⟨w.heap.size,2,none⟩ (.int .i64 sK.ways.length)) by
          have hs3:=kyo wt w.heap.size (.int .i64 ev) (.slice ta tn tc) (.int .i64 sK.ways.length);rw[ku HREP];refine ⟨ta,tn,tc,rfl,?_,?_⟩
          ·show World.ownsRow _ _ _ _ _ lt.reverse.length _;rw[QV];exact zx (show w.heap.size≤w4.heap.size by omega) (kzq hot hs3 (fun q hq c fr e1=>by
            have hq':q=w.heap.size:=by simpa using hq
            rw[hq',hRt] at e1;injection e1 with e1;injection e1 with _ e1 _;exact absurd e1 (by decide)))
          ·exact (((ku HBW).trans ((ku HBt).mono (by omega))).trans (hbt'.mono (by omega))).trans (hs3.below (by omega) (by simp)))
         clear hot hbt hbt' hRt HTR;dsimp only;refine hK _ _ (ku HSt2) ?_;clear hK K;try simp only[Act.put,wz,wQ,wu]
         refine qy (i:=6) (v:=.agg #[.int .i64 ev,.slice ta tn tc,.int .i64 sK.ways.length]) rfl (by kernel_rfl) (by kernel_rfl) (by kernel_rfl) (fun _ _ _ h=>h) (Or.inl ⟨by rfl,fun _ _=>by go_simp⟩) ?_;try simp only[Act.put,wz,wQ,wu]
         refine kq1 _ _ _ _ (kjd (by kernel_rfl)) ?_;refine wpAny_ready (rs:=[7]) (by kernel_rfl) (by simp) (AllReady.cons rfl (fun K hK=>?_) AllReady.nil);go_simp
         refine hK _ _ ?_;clear hK K;refine wpAny_ready (rs:=[8]) (by kernel_rfl) (by simp) (AllReady.cons rfl (fun K hK=>?_) AllReady.nil);go_simp
         refine hK _ _ ?_;clear hK K;refine wpAny_done (by kernel_rfl) ?_ _;clear k0 k1 k2 kf0 kf1 kf2;go_wp2
         try rw[Exit.noGoto_ret]
         refine wC (v:=.tuple #[.agg #[.int .i64 ev,.slice ta tn tc,.int .i64 sK.ways.length],.int .i64 0]) (kq8 Tryz.results44 _ _ w.heap.size _ _ _ _ rfl (ku HRT) Tryz.underlying46 rfl (by kernel_rfl)) rfl ?_;exact ku HPT
       ·have hke:k=sK.ways.length:=by omega
        subst hke;rw[nV,qyu] at hends;injection hends with hends;have hrep:=ku HREP2;rw[←hends] at hrep;rw[if_pos (by simp)] at hrep;obtain ⟨q,hq,hrep⟩:=wJ.mp hrep;obtain ⟨fv3,hf3,hfv3⟩:=hsch3.found;obtain ⟨wc,hclr,hmc,hstc⟩:=vqf hf3 Tryz.underlying167 0;have hscc:=hsch3.cleared hmc hstc;obtain ⟨la3,lc3,y1,y3⟩:=hsch3.qqh;have hsc:=hstc.size;have hql:=qwo _ _ _ _ _ hq (by simp);have HQ:=hide hq;have HNX:=hide hrep;have HSCC:=hide hscc;have HBC:=hide (hb3.trans (hstc.below (by omega) (by simpa using hsch3.ge.2.2.2)));have hSc:=hscc.lts.1;obtain ⟨la4,lc4,yc1,yc3⟩:=hscc.qqh;clear hends hrep hq hf3 hfv3 hmc hstc hscc hsch3 hb3 HREP2 HEN;go_wp2_with fail
        go_step3
        go_wp2_with fail
        clear hclr;go_loopw [11,13,14,15] (fun i _ _ _ wr=>∃ (k:Nat) (f:Fnd) (c:List Int),i=.int .i64 k∧k≤sK.ways.length∧kj9 a ts m (sK.ways.drop k) k f c=some q∧f.length≤m∧kqc B wr S O M gc cc sb fb ts ⟨sK.ways,sK.seen,f,c⟩∧Below B W wr) (fun i _ _ _ _=>sK.ways.length-(intOf i).toNat)
        case atStart=>exact ⟨s.ways.length,[],sK.cur,rfl,by omega,ku HQ,by simp,ku HSCC,ku HBC⟩
        case round=>
         obtain ⟨w7,hw7⟩:∃ w7,w7=wr:=⟨_,rfl⟩;subst hw7;obtain ⟨k,f,c,rfl,hk2,hsts,hfl,hsch7,hb7⟩:=hrel;have hs7:=hb7.size;have hS7:=hsch7.lts.1;by_cases hlt:k<sK.ways.length
         ·rw[rM hlt,kj9] at hsts;have hstl:sK.ways[k].state.length≤1000000:=by
           apply rD;intro hc;rw[if_neg hc] at hsts;cases hsts
          rw[if_pos hstl] at hsts;obtain ⟨q2,hq2,hsts⟩:=wJ.mp hsts;obtain ⟨_,⟨mta,mtc,mcs,mm0,-,-⟩,-,-,-⟩:=(ku HMW).below ((ku HBB) w7 hb7);obtain ⟨la7,lc7,u1,u3⟩:=hsch7.qqh;have hsl6:a.steps.length≤1000000:=(ku HOK).sl;have HQ2:=hide hq2;have HSTS:=hide hsts;have HSC7:=hide hsch7;have HB7:=hide hb7;have HMM0:=hide mm0;obtain ⟨st,hste⟩:∃ st,st=sK.ways[k].state:=⟨_,rfl⟩;have HWK:=hide (fun (wx:World) (f':Fnd) (c':List Int) (hx:kqc B wx S O M gc cc sb fb ts ⟨sK.ways,sK.seen,f',c'⟩)=>(show ∃ g lc ya yn yc,wx.cell? ⟨S,1,none⟩=some (.slice (some ⟨g,0,none⟩) sK.ways.length lc)∧g<wx.heap.size∧wx.cell? ⟨g,k * 3,none⟩=some (.slice ya yn yc)∧qxu B wx gc st (.slice ya yn yc) from by rw[hste];exact hx.jy7 k hlt));rw[←hste] at hstl HQ2;clear hsts hq2 hsch7 hb7 hste;go_wp2_with fail
          go_loopw [13,14,15,78] (fun _ _ _ i wr=>∃ (j:Nat) (f:Fnd) (c:List Int),i=.int .i64 j∧j≤a.steps.length∧kjs a ts m k st (a.steps.drop j) f c=some q2∧f.length≤m∧kqc B wr S O M gc cc sb fb ts ⟨sK.ways,sK.seen,f,c⟩∧Below B W wr) (fun _ _ _ i _=>a.steps.length-(intOf i).toNat)
          case atStart=>exact ⟨0,f,c,rfl,rG _,ku HQ2,hfl,ku HSC7,ku HB7⟩
          case round=>
           obtain ⟨w8,hw8⟩:∃ w8,w8=wr:=⟨_,rfl⟩;subst hw8;obtain ⟨j,f,c,rfl,hj2,hss,hfl,hsch8,hb8⟩:=hrel;have hs8:=hb8.size;by_cases hltj:j<a.steps.length
           ·obtain ⟨g,tc,pa,pn,pc,ma,mn,mc,pp,ba,bn,bc,d0,hg,d1,d2,d3,d4,d5,d6,hfrom⟩:=vz8 (ku HMW) (ku HOK) j hltj;have hgB:g<B:=by have:=ku HBE;omega
            have hmm:=((ku HB7).cell (p:=⟨M,0,none⟩) hMB).symm.trans (ku HMM0);rw[d0] at hmm;injection hmm with hmm;injection hmm with hm1 _ hm3;subst hm1;subst hm3;have e0:=(hb8.cell (p:=⟨g,j * 6,none⟩) hgB).trans d1;have e1:=(hb8.cell (p:=⟨g,j * 6+1,none⟩) hgB).trans d2;have e2:=(hb8.cell (p:=⟨g,j * 6+2,none⟩) hgB).trans d3;have e3:=(hb8.cell (p:=⟨g,j * 6+3,none⟩) hgB).trans d4;have e4:=(hb8.cell (p:=⟨g,j * 6+4,none⟩) hgB).trans d5;have e5:=(hb8.cell (p:=⟨g,j * 6+5,none⟩) hgB).trans d6;rw[rM hltj,kjs] at hss;obtain ⟨r1,hr1,hss⟩:=wJ.mp hss;obtain ⟨wb,hwb⟩:∃ wb,wb=w8.alloc (.cells #[.string a.steps[j].text,.pointer (some ⟨M,0,none⟩),.slice pa pn pc,.slice ma mn mc,.pointer pp,.slice ba bn bc] 178):=⟨_,rfl⟩;have hbb:Below w8.heap.size w8 wb.drew:=by rw[hwb];exact (below_alloc1 _ _).drew
            have hxb:wb.heap[w8.heap.size]?=some (.cells #[.string a.steps[j].text,.pointer (some ⟨M,0,none⟩),.slice pa pn pc,.slice ma mn mc,.pointer pp,.slice ba bn bc] 178 (0,0)):=by rw[hwb];exact qg _ _
            have hschb:=hsch8.below hbb;obtain ⟨wg,wlc,ya,yn,yc,y1,hwg,y3,hys⟩:=(ku HWK) _ _ _ hschb;obtain ⟨x0,x1,x2,x3,x4,x5,-⟩:=kk4 (show wb.drew.heap[w8.heap.size]?=_ from hxb);have hbWb:Below B W wb.drew:=hb8.trans (hbb.mono (by omega));have HFR:=hide (hfrom wb.drew st ya yn yc r1 ((ku HBB) _ hbWb) (zx (rG _) hys.1) hstl hr1);have HS23:=hide (show ReS S (.slice (some ⟨wg,0,none⟩) sK.ways.length wlc) w8.heap.size a.steps[j].text M (.slice pa pn pc) (.slice ma mn mc) (.pointer pp) (.slice ba bn bc) wg (k * 3) (.slice ya yn yc) wb.drew from ⟨y1,x0,x1,x2,x3,x4,x5,y3⟩);have HXB:=hide hxb;have HSCB:=hide hschb;have HBWB:=hide hbWb;have HSS:=hide hss;have HWB:=hide hwb.symm;have hszb:w8.heap.size<wb.heap.size:=by rw[hwb];simp
            have hSb:S<wb.heap.size:=hschb.lts.1;have hwgb:wg<wb.heap.size:=hwg;have hkI1:(0:Int)≤(k:Int):=by omega
            have hkI2:(k:Int)<sK.ways.length:=by omega
            obtain ⟨stp,hstp⟩:∃ stp,stp=a.steps[j]:=⟨_,rfl⟩;rw[←hstp] at HFR HS23 HXB HSS e0 HWB;have HJ:=hide hltj;clear hfrom d0 d1 d2 d3 d4 d5 d6 hr1 hss hwb hbb hxb hschb hys hbWb x0 x1 x2 x3 x4 x5 y1 y3 hsch8 hb8 hg hstp hwg;go_upto_region 23 with fail
            rw[ku HWB];refine pz (S:=ReS S (.slice (some ⟨wg,0,none⟩) sK.ways.length wlc) w8.heap.size stp.text M (.slice pa pn pc) (.slice ma mn mc) (.pointer pp) (.slice ba bn bc) wg (k * 3) (.slice ya yn yc)) (tl:=[]) (by kernel_rfl) ?_;refine qo (i:=0) (v:=.agg #[.string stp.text,.pointer (some ⟨M,0,none⟩),.slice pa pn pc,.slice ma mn mc,.pointer pp,.slice ba bn bc]) [7,8,9,10,11,12] rfl (by kernel_rfl) (by kernel_rfl) (by kernel_rfl) (by kernel_rfl) (by decide) (fun _ _ _ h=>h) (Or.inl ⟨by rfl,fun wq hSw=>by (obtain ⟨s0,s1,s2,s3,s4,s5,s6,s7⟩:=hSw;go_simp)⟩) (ku HS23) ?_;try simp only[Act.put,wz,wQ,wu]
            refine qy (i:=1) (v:=.pointer (some ⟨S,1,none⟩)) rfl (by kernel_rfl) (by kernel_rfl) (by kernel_rfl) (fun _ _ _ h=>h) (Or.inl ⟨by rfl,fun _ _=>by go_simp⟩) ?_;try simp only[Act.put,wz,wQ,wu]
            refine qo (i:=2) (v:=.slice (some ⟨wg,0,none⟩) sK.ways.length wlc) [4,5,6,7,8,9,10,11,12] rfl (by kernel_rfl) (by kernel_rfl) (by kernel_rfl) (by kernel_rfl) (by decide) (fun _ _ _ h=>h) (Or.inl ⟨by rfl,fun wq hSw=>by (obtain ⟨s0,s1,s2,s3,s4,s5,s6,s7⟩:=hSw;go_simp)⟩) (ku HS23) ?_;try simp only[Act.put,wz,wQ,wu]
            refine qy (i:=3) (v:=.int .i64 k) rfl (by kernel_rfl) (by kernel_rfl) (by kernel_rfl) (fun _ _ _ h=>h) (Or.inl ⟨by rfl,fun _ _=>by go_simp⟩) ?_;try simp only[Act.put,wz,wQ,wu]
            refine qy (i:=4) (v:=.pointer (some ⟨wg,k * 3,none⟩)) rfl (by kernel_rfl) (by kernel_rfl) (by kernel_rfl) (fun _ _ _ h=>h) (Or.inl ⟨by rfl,fun _ _=>by go_simp⟩) ?_;try simp only[Act.put,wz,wQ,wu]
            refine qy (i:=5) (v:=.pointer (some ⟨wg,k * 3,none⟩)) rfl (by kernel_rfl) (by kernel_rfl) (by kernel_rfl) (fun _ _ _ h=>h) (Or.inl ⟨by rfl,fun _ _=>by go_simp⟩) ?_;try simp only[Act.put,wz,wQ,wu]
            refine qo (i:=6) (v:=.slice ya yn yc) [7,8,9,10,11,12] rfl (by kernel_rfl) (by kernel_rfl) (by kernel_rfl) (by kernel_rfl) (by decide) (fun _ _ _ h=>h) (Or.inl ⟨by rfl,fun wq hSw=>by (obtain ⟨s0,s1,s2,s3,s4,s5,s6,s7⟩:=hSw;go_simp)⟩) (ku HS23) ?_;try simp only[Act.put,wz,wQ,wu]
            refine yu (rs:=[7]) (by kernel_rfl) (by simp) ?_;refine jd.cons rfl (fun K hK=>?_) jd.nil;go_simp
            go_at_call 79
            refine (ku HFR).mono ?_;rintro e w5 ⟨v5,rfl,ho5,hb5⟩;obtain ⟨a5',l5',c5',rfl⟩:=zu ho5;have hb5':Below wb.heap.size wb w5:=kva hb5;have hs5':=hb5'.size;have HS5:=hide ((ku HS23).below hb5 hSb hszb hwgb);have HX5:=hide ((hb5'.block w8.heap.size hszb).trans (ku HXB));have HSC5:=hide ((ku HSCB).below hb5);have HB5:=hide ((ku HBWB).trans (hb5.mono (show B≤wb.heap.size by omega)));have HO5:=hide ho5;clear ho5 hb5 hb5' HFR;dsimp only;refine hK _ _ (ku HS5) ?_;clear hK K;try simp only[Act.put,wz,wQ,wu]
            refine qy (i:=8) (v:=.tuple #[.slice a5' l5' c5',.int .i64 r1.2]) rfl (by kernel_rfl) (by kernel_rfl) (by kernel_rfl) (fun _ _ _ h=>h) (Or.inl ⟨by rfl,fun _ _=>by go_simp⟩) ?_;try simp only[Act.put,wz,wQ,wu]
            refine qy (i:=9) (v:=.slice a5' l5' c5') rfl (by kernel_rfl) (by kernel_rfl) (by kernel_rfl) (fun _ _ _ h=>h) (Or.inl ⟨by rfl,fun _ _=>by go_simp⟩) ?_;try simp only[Act.put,wz,wQ,wu]
            refine qy (i:=10) (v:=.int .i64 r1.2) rfl (by kernel_rfl) (by kernel_rfl) (by kernel_rfl) (fun _ _ _ h=>h) (Or.inl ⟨by rfl,fun _ _=>by go_simp⟩) ?_;try simp only[Act.put,wz,wQ,wu]
            refine qy (i:=11) (v:=.slice a5' l5' c5') rfl (by kernel_rfl) (by kernel_rfl) (by kernel_rfl) (fun _ _ _ h=>h) (Or.inl ⟨by rfl,fun _ _=>by go_simp⟩) ?_;try simp only[Act.put,wz,wQ,wu]
            refine qy (i:=12) (v:=.int .i64 r1.2) rfl (by kernel_rfl) (by kernel_rfl) (by kernel_rfl) (fun _ _ _ h=>h) (Or.inl ⟨by rfl,fun _ _=>by go_simp⟩) ?_;try simp only[Act.put,wz,wQ,wu]
            refine kq1 _ _ _ _ (kjd (by kernel_rfl)) ?_;refine wpAny_done (by kernel_rfl) ?_ _;obtain ⟨x0,x1,x2,x3,x4,x5,-⟩:=kk4 (ku HX5);have hx5l:w8.heap.size<w5.heap.size:=by omega
            have HNEN:=hide (fun (h0:r1.2≠1)=>show kjs a ts m k st (a.steps.drop (j+1)) f c=some q2 from by
             have h9:=ku HSS;rw[if_neg (by simpa using h0)] at h9;exact h9)
            have HEN2:=hide (fun (h0:r1.2=1)=>show ∃ q4,qqx a ts ⟨r1.1,k,stp.text⟩ f c=some q4∧(m<q4.1.length→q2=(q4.1,q4.2,true))∧(¬m<q4.1.length→kjs a ts m k st (a.steps.drop (j+1)) q4.1 q4.2=some q2) from by
             have h9:=ku HSS;rw[if_pos (by simpa using h0)] at h9;obtain ⟨q4,hq4,h9⟩:=wJ.mp h9;refine ⟨q4,hq4,fun hc=>?_,fun hc=>?_⟩
             ·rw[if_pos hc] at h9;injection h9 with h9;exact h9.symm
             ·rw[if_neg hc] at h9;exact h9)
            by_cases hen:r1.2=1
            ·obtain ⟨q4,hq4,hqa,hqb2⟩:=(ku HEN2) hen;have hq4l:=qwu hq4;have hMc:=((ku HMW).below ((ku HBB) w5 (ku HB5))).mc;have HFI:=hide (jqg w5 B S O M nb gc cc sb fb a ts ⟨sK.ways,sK.seen,f,c⟩ ⟨r1.1,k,stp.text⟩ a5' l5' c5' (ku HSC5) hMc ⟨zx (show B≤wb.heap.size by omega) (ku HO5),fun e1=>by
              have h9:=vg (ku HO5) gc e1;have h8:=(ku HSCB).lts.2.2.1;omega⟩ (ku HOK).vars htl (by omega) q4 hq4)
             have HQA:=hide hqa;have HQB:=hide hqb2;rw[hen];clear hq4 hqa hqb2 hMc HEN2 HNEN HSS hen;go_wp2_with fail
             refine (ku HFI).mono ?_;rintro e w6 ⟨rfl,hsch6,hb6⟩;have hs6':=hb6.size;obtain ⟨fv6,hf6,-⟩:=hsch6.found;have hlen:=vks hf6 Tryz.underlying167 3;rw[ni] at hlen;obtain ⟨la6,lc6,v1,v3⟩:=hsch6.qqh;have HSC6':=hide hsch6;have hS6:=hsch6.lts.1;have HB6x:=hide ((ku HB5).trans hb6);have HLW6:=hide (zvh v1);clear hsch6 hb6 hf6 HFI x0 x1 x2 x3 x4 x5;by_cases hbig2:m<q4.1.length
             ·have hbI:(m:Int)<q4.1.length:=by omega
              have hq2e:=(ku HQA) hbig2;have hqe:q=(q4.1,q4.2):=by
               have h9:=ku HSTS;rw[hq2e] at h9;simp only[if_true] at h9;injection h9 with h9;exact h9.symm
              have HRN:=hide (show kqo a ts m n ⟨sK.ways,sK.seen,q4.1,q4.2⟩=some r from by have h9:=ku HNX;rw[hqe] at h9;exact h9);clear hq2e hqe HQA HQB HSTS;go_wp2
              go_roundw
              case rel=>exact ⟨_,_,_,_,_,_,_,_,_,_,_,_,_,_,_,_,_,_,_,_,_,_,_,_,_,_,_,_,_,_,_,_,_,_,_,_,_,_,_,_,_,_,_,_,_,_,_,_,_,_,_,_,_,_,_,_,_,_,_,_,_,_,_,_,_,_,_,_,_,_,_,_,_,_,_,_,_,_,_,_,_,_,_,_,_,⟨n,⟨sK.ways,sK.seen,q4.1,q4.2⟩,rfl,rfl,ku HSC6',ku HRN,(by show sK.ways.length≤m;omega),(by show q4.1.length≤m+1;omega),ku HB6x⟩,rfl⟩
              case measure=>rw[ku HLW6,ku HLW];show 1000-sK.ways.length<1000-s.ways.length;omega
             ·have hbI:¬(m:Int)<q4.1.length:=by omega
              have HNXT:=hide ((ku HQB) hbig2);clear HQA HQB;go_wp2
              go_roundw
              case rel=>exact ⟨j+1,q4.1,q4.2,by go_num,by have:=ku HJ;omega,ku HNXT,by omega,ku HSC6',ku HB6x⟩
              case measure=>have:=ku HJ;simp[intOf];omega
            ·have HNXT:=hide ((ku HNEN) hen);have hneB:(r1.2 != 1)=true:=by simpa using hen
             generalize r1.2=oc at *;clear HEN2 HNEN HSS x0 x1 x2 x3 x4 x5;go_wp2
             go_roundw
             case rel=>exact ⟨j+1,f,c,by go_num,by have:=ku HJ;omega,ku HNXT,hfl,ku HSC5,ku HB5⟩
             case measure=>have:=ku HJ;simp[intOf];omega
           ·have hje:j=a.steps.length:=by omega
            subst hje;rw[nV,kjs] at hss;injection hss with hss;have HNXT:=hide (show kj9 a ts m (sK.ways.drop (k+1)) (k+1) f c=some q from by
             have h9:=ku HSTS;rw[←hss] at h9;simpa using h9)
            have HSC8:=hide hsch8;have HB8:=hide hb8;clear hss hsch8 hb8;go_wp2
            go_roundw
            case rel=>exact ⟨k+1,f,c,by go_num,by omega,ku HNXT,hfl,ku HSC8,ku HB8⟩
            case measure=>simp[intOf];omega
         ·have hke:k=sK.ways.length:=by omega
          subst hke;rw[nV,kj9] at hsts;injection hsts with hsts;have HRN:=hide (show kqo a ts m n ⟨sK.ways,sK.seen,f,c⟩=some r from by have h9:=ku HNX;rw[←hsts] at h9;exact h9);obtain ⟨la7,lc7,u1,u3⟩:=hsch7.qqh;have HLW7:=hide (zvh u1);have HSC7:=hide hsch7;have HB7:=hide hb7;clear hsts hsch7 hb7;go_wp2
          go_roundw
          case rel=>exact ⟨n,_,rfl,rfl,ku HSC7,ku HRN,(by show sK.ways.length≤m;omega),(by show f.length≤m+1;omega),ku HB7⟩
          case measure=>rw[ku HLW7,ku HLW];show 1000-sK.ways.length<1000-s.ways.length;omega
theorem jvo {m:MdL}{a:Mach}(h:zyu m=some a):a.sets=kj3 m.sets:=by
 unfold zyu at h;obtain ⟨t,_,h⟩:=wJ.mp h;obtain ⟨x,_,h⟩:=wJ.mp h;obtain ⟨st,_,h⟩:=wJ.mp h;obtain ⟨nv,_,rfl⟩:=tu.mp h;rfl
theorem zqc (s:ByteArray)(w:World)(most:Int)(r:SRep)(hr:kqu s most=some r) :
  Calls Tryz.prog 25 #[.string s,.int .i64 most] w fun e w'=>kxe w r e w':=by
 obtain ⟨W,hW⟩:∃ W,W=w.alloc (.cells #[.int .i64 0,.slice none 0 0,.int .i64 0] 46):=⟨_,rfl⟩;have hbW:Below w.heap.size w W:=by rw[hW];exact below_alloc1 w _
 have hsW:w.heap.size<W.heap.size:=by rw[hW];simp
 have hR:W.heap[w.heap.size]?=some (.cells #[.int .i64 0,.slice none 0 0,.int .i64 0] 46 (0,0)):=by rw[hW];exact qg _ _
 have HR:=hide hR;have HBW:=hide hbW;have HWE:=hide hW.symm;have HPL:=hide hr;clear hbW hW hR hr;go_enter Tryz.func25,Tryz.ntmps25
 go_wp2_with fail
 rw[ku HWE];refine (zqw s W).mono ?_;rintro e w1 ⟨hb1,x0,x1,x2,x3,x4,rfl,hmd,⟨a0,n0,k0,rfl⟩,⟨a1,n1,k1,rfl⟩,⟨a2,n2,k2,rfl⟩,⟨a3,n3,k3,rfl⟩,⟨a4,n4,k4,rfl⟩⟩;have hs1:=hb1.size;have hbw1:Below w.heap.size w w1:=(ku HBW).trans (hb1.mono (by omega));have hR1:=(hb1.block w.heap.size hsW).trans (ku HR);have hRl1:=wZ hR1;have HMD:=hide hmd;have HB1:=hide hbw1;have HR1:=hide hR1;unfold kqu at HPL;clear hmd hb1 hbw1 hR1 HR;obtain ⟨c1,c2,hc⟩:∃ c1 c2,kz4 s=(c1,c2):=⟨_,_,rfl⟩;rw[hc] at HPL HMD ⊢;dsimp only at HPL HMD ⊢;clear hc;cases hc0:(c1==0)
 ·have hE:r=kxw c1:=by
   have:=ku HPL;rw[hc0,if_neg (by simp)] at this;injection this with this;exact this.symm
  subst hE;have hcn:(c1 != 0)=true:=by simp[bne,hc0]
  obtain ⟨r0,r1,r2,y0,y1,y2⟩:=row3 (ku HR1);clear HPL HMD;go_wp2
  refine wC (v:=.tuple #[.agg #[.int .i64 0,.slice none 0 0,.int .i64 0],.int .i64 c1]) (kq8 Tryz.results25 _ _ w.heap.size _ _ _ _ rfl (ql (qko (ku HR1) _ _ _)) Tryz.underlying46 rfl (by kernel_rfl)) rfl ?_;exact ⟨none,0,0,rfl,rW _ _ _ _,(((ku HB1).trans ((kyo w1 w.heap.size _ _ _).below (by omega) (by simp))).alloc (by simp[World.setCell];omega) _)⟩
 ·have hcn:(c1 != 0)=false:=by simp[bne,hc0]
  have hc00:c1=0:=by simpa using hc0
  have hpl:=ku HPL;rw[hc0,if_pos rfl] at hpl;obtain ⟨a,ha,hwk⟩:=wJ.mp hpl;unfold qjg at ha;have hfit:qj4 (jk (kqd (dw s).1).1)=true:=by
   cases hcd:qj4 (jk (kqd (dw s).1).1)
   ·rw[hcd] at ha;cases ha
   ·rfl
  rw[if_pos hfit] at ha;obtain ⟨a',hnew,ha⟩:=wJ.mp ha;have hmok:kvy a'=true:=by
   cases hcd:kvy a'
   ·rw[hcd] at ha;cases ha
   ·rfl
  rw[if_pos hmok] at ha;injection ha with ha;subst ha;have hsetl:a'.sets.length≤1000:=by
   have h1:=(qw5 hfit).sets;have h2:a'.sets=kj3 (jk (kqd (dw s).1).1).sets:=jvo hnew;rw[h2,kj3,ni];exact h1
  have hmd:=(ku HMD) hc00;obtain ⟨wb,hwb⟩:∃ wb,wb=w1.alloc (.cells #[.slice a0 n0 k0,.slice a1 n1 k1,.slice a2 n2 k2,.slice a3 n3 k3,.slice a4 n4 k4] 68):=⟨_,rfl⟩;have hbb:Below w1.heap.size w1 wb:=by rw[hwb];exact below_alloc1 _ _
  have hsb:=hbb.size;have HNW:=hide (new_any wb W.heap.size a0 a1 a2 a3 a4 n0 n1 n2 n3 n4 k0 k1 k2 k3 k4 _ (hmd.stay fun k _ hk=>hbb.block k hk) (qw5 hfit) a' hnew);unfold mdV at HNW;have HMOK:=hide (zjc hmok);have HWK:=hide hwk;have HWB:=hide hwb.symm;have HBB:=hide ((ku HB1).trans (hbb.mono (by have:=(ku HB1).size;omega)));have HRB:=hide ((hbb.block _ hRl1).trans (ku HR1));clear HPL HMD hpl ha hwk hmok hfit hmd hbb hwb hnew hc00;go_wp2_with fail
  rw[ku HWB];refine (ku HNW).mono ?_;rintro e w2 ⟨M,nb,sv,nv,tv,vv,rfl,hmc,hb2⟩;have hs2:=hb2.size;have hbw2:=(ku HBB).trans (hb2.mono (by have:=(ku HBB).size;omega));obtain ⟨ta0,tn0,tc0,rfl⟩:=zu hmc.sets;obtain ⟨_,_,m2,_⟩:=kk4 hmc.row;have HWL:=hide (jji w2 W.heap.size M nb a' ta0 tn0 tc0 hmc.vw1 (ku HMOK) m2 (zx (rG _) hmc.sets) hsetl most r (ku HWK));have HB2:=hide hbw2;have HR2:=hide ((hb2.block w.heap.size (by have:=wZ (ku HRB);omega)).trans (ku HRB));clear hmc hb2 hbw2 HNW m2;go_wp2_with fail
  refine (ku HWL).mono ?_;rintro e w3 ⟨ea,en,ec,rfl,hp1,hb3⟩;have hs3:=hb3.size;have hz2:=(ku HB2).size;have hbw3:=(ku HB2).trans (hb3.mono hz2);have hR3:=(hb3.block w.heap.size (wZ (ku HR2))).trans (ku HR2);obtain ⟨r0,r1,r2,y0,y1,y2⟩:=row3 hR3;have hRl3:=wZ hR3;have K:=kyo w3 w.heap.size (.int .i64 r.end_) (.slice ea en ec) (.int .i64 r.orbits);have HE:=hide (show kxe w r (.returned (.tuple #[.agg #[.int .i64 r.end_,.slice ea en ec,.int .i64 r.orbits],.int .i64 r.err])) _ from ⟨ea,en,ec,rfl,zx hz2 (kzq hp1 K (fun q hq c fr e1=>by
   have hq':q=w.heap.size:=by simpa using hq
   rw[hq',hR3] at e1;injection e1 with e1;injection e1 with _ e1 _;exact absurd e1 (by decide))),hbw3.trans (K.below (by omega) (by simp))⟩)
  have HR3:=hide hR3;clear hp1 hb3 hbw3 hR3 K HWL;go_wp2
  refine wC (v:=.tuple #[.agg #[.int .i64 r.end_,.slice ea en ec,.int .i64 r.orbits],.int .i64 r.err]) (kq8 Tryz.results25 _ _ w.heap.size _ _ _ _ rfl (qko (ku HR3) _ _ _) Tryz.underlying46 rfl (by kernel_rfl)) rfl ?_;exact ku HE
end Go.Proofs.YtpmcnonmkghokaaGreatDoor
namespace Go.Proofs.YtpmcnonmkghokaaGreatDoor
open Go.RowKit
def jk1 (o:Option SRep)(err end_:Int)(n orbits:Nat):Bool:=match o with|some r=>(r.err==err)&&(r.end_==end_)&&(r.trace.length==n)&&(r.orbits==orbits)|none=>false
theorem zy2 {o:Option SRep}{err end_:Int}{n orbits:Nat}(h:jk1 o err end_ n orbits=true):∃ r,o=some r∧r.err=err∧r.end_=end_∧r.trace.length=n∧r.orbits=orbits:=by
 unfold jk1 at h;cases o with
 | none=>cases h
 | some r=>
  simp only[wG,rZ] at h;exact ⟨r,rfl,h.1.1.1,h.1.1.2,h.1.2,h.2⟩
def vzf:ByteArray:=vvo++vvf
theorem jzc:jk1 (kqu mtx 100) 0 0 0 7=true:=by decide +kernel
theorem jw0:jk1 (kqu mtx 6) 9 0 0 0=true:=by decide +kernel
theorem jw1:(match kqu vzf 100 with|some r=>(r.err==0)&&(r.end_==1)&&(r.trace.length==4)|none=>false)=true:=by decide +kernel
def vqn (o:Option SRep)(n:Nat):Bool:=match o with|some r=>(r.err==0)&&(r.end_==1)&&(r.trace.length==n)|none=>false
theorem vqr {o:Option SRep}{n:Nat}(h:vqn o n=true):∃ r,o=some r∧r.err=0∧r.end_=1∧r.trace.length=n:=by
 unfold vqn at h;cases o with
 | none=>cases h
 | some r=>
  simp only[wG,rZ] at h;exact ⟨r,rfl,h.1.1,h.1.2,h.2⟩
end Go.Proofs.YtpmcnonmkghokaaGreatDoor
namespace Go.Proofs.YtpmcnonmkghokaaGreatDoor
open Go.RowKit
attribute [local go_sem ↓] Go.wp_at_zero Go.wp_at_succ
theorem zyd (w:World):Calls Tryz.prog 39 #[.bool false] w fun e w'=>e=.returned (.string vzf)∧w'=w:=by
 go_enter Tryz.func39,Tryz.ntmps39
 go_wp2
 go_ret
 exact ⟨rfl,rfl⟩
theorem kxl {s:ByteArray}{most:Int}{r:SRep}(hr:kqu s most=some r){err end_:Int}{n orbits:Nat}(h1:r.err=err)(h2:r.end_=end_)(h3:r.trace.length=n)(h4:r.orbits=orbits)(w:World) :
  Calls Tryz.prog 25 #[.string s,.int .i64 most] w fun e w'=>∃ ta tc,e=.returned (.tuple #[.agg #[.int .i64 end_,.slice ta n tc,.int .i64 orbits],.int .i64 err])∧Below w.heap.size w w':=by
 refine (zqc s w most r hr).mono ?_;rintro e w' ⟨ta,tn,tc,rfl,ho,hb⟩;obtain ⟨xa,xc,ex,_⟩:=qm ho;injection ex with e1 e2 e3;exact ⟨ta,tc,by rw[h1,h2,h4,e2,h3],hb⟩
theorem kvk (w:World):Calls Tryz.prog 27 #[] w fun e w'=>e=.returned (.bool true)∧Below w.heap.size w w':=by
 obtain ⟨r1,a0,a1,a2,a3,a4⟩:=zy2 jzc;obtain ⟨r2,b0,b1,b2,b3⟩:=vqr (show vqn (kqu vzf 100) 4=true from jw1);obtain ⟨r3,c0,c1,c2,c3,c4⟩:=zy2 jw0;have HS1:=hide (fun wx=>kxl a0 a1 a2 a3 a4 wx);have HS2:=hide (fun wx=>kxl b0 b1 b2 b3 rfl wx);have HS3:=hide (fun wx=>kxl c0 c1 c2 c3 c4 wx);have HMT:=hide zjw;have HMF:=hide zyd;clear a0 a1 a2 a3 a4 b0 b1 b2 b3 c0 c1 c2 c3 c4;generalize mtx=mm at *;generalize vzf=mn at *;generalize r2.orbits=ro at *;go_enter Tryz.func27,Tryz.ntmps27
 go_wp2_with fail
 refine ((ku HMT) _).mono ?_;rintro e w0 ⟨rfl,rfl⟩;go_wp2_with fail
 refine ((ku HS1) _).mono ?_;rintro e w1 ⟨ta,tc,rfl,hb1⟩;have hs1:=hb1.size;have HB1:=hide (hb1.alloc hs1 (.cells #[.int .i64 0,.slice ta 0 tc,.int .i64 7] 46));clear hb1;go_wp2_with fail
 refine ((ku HMF) _).mono ?_;rintro e w2 ⟨rfl,hw2⟩;subst hw2;go_wp2_with fail
 refine ((ku HS2) _).mono ?_;rintro e w3 ⟨tb,td,rfl,hb3⟩;have hs3:w1.heap.size+1≤w3.heap.size:=by have:=hb3.size;simpa using this
 have e1:=(hb3.block w1.heap.size (by simp)).trans (qg w1 (.cells #[.int .i64 0,.slice ta 0 tc,.int .i64 7] 46));have HE1:=hide e1;have HB3:=hide (((ku HB1).trans (hb3.mono (by simp;omega))).alloc (by omega) (.cells #[.int .i64 1,.slice tb 4 td,.int .i64 ro] 46));clear hb3 e1;go_wp2_with fail
 refine ((ku HMT) _).mono ?_;rintro e w4 ⟨rfl,hw4⟩;subst hw4;go_wp2_with fail
 refine ((ku HS3) _).mono ?_;rintro e w5 ⟨te,tf,rfl,hb5⟩;have hs5:w3.heap.size+1≤w5.heap.size:=by have:=hb5.size;simpa using this
 obtain ⟨p0,p1,p2,-⟩:=row3 ((hb5.block w1.heap.size (by simp;omega)).trans (ql (ku HE1)));obtain ⟨q0,q1,q2,-⟩:=row3 ((hb5.block w3.heap.size (by simp)).trans (qg w3 (.cells #[.int .i64 1,.slice tb 4 td,.int .i64 ro] 46)));have HB5:=hide (((ku HB3).trans (hb5.mono (by simp;omega))).alloc (by omega) (.cells #[.int .i64 0,.slice te 0 tf,.int .i64 0] 46));have h1l:w1.heap.size<w5.heap.size:=by omega
 have h3l:w3.heap.size<w5.heap.size:=by omega
 clear hb5 HS1 HS2 HS3 HMT HMF;go_wp2
 go_ret
 exact ⟨rfl,ku HB5⟩
end Go.Proofs.YtpmcnonmkghokaaGreatDoor
