import Derived.Test.YtpmcnonmkghokaaGreatDoorT27
import Derived.Test.YtpmcnonmkghokaaGreatDoorT33
set_option maxRecDepth 100000
set_option maxHeartbeats 16000000
set_option linter.unusedVariables false
set_option linter.unusedSimpArgs false
namespace Go.Proofs.YtpmcnonmkghokaaGreatDoor
open Go.RowKit
attribute [local go_sem ↓] Go.wp_at_zero Go.wp_at_succ
theorem zkb (s:ByteArray)(most:Int)(w:World)(hm0:-9223372036854775808≤most)(hm1:most≤9223372036854775807)(er:Int)(her:¬er=0)(hS:kqu s (1+(kz9 most 500:Int))=some (kxw er))(hc:(kz4 s).1=er∨((kz4 s).1=0∧er=9)) :
  Calls Tryz.prog 8 #[.string s,.int .i64 most] w fun e w'=>e=.returned (.bool true)∧Below w.heap.size w w':=by
 have HP1:=hide (fun wx=>pick_any most 500 wx hm0 hm1 (by omega) (by omega));have HS1:=hide (fun wx=>kxl hS (err:=er) (end_:=0) (n:=0) (orbits:=0) rfl rfl rfl rfl wx);have HCK:=hide (check_any s);have hne:(er==0)=false:=by rw[sD];exact her
 have hcb:(((kz4 s).1==er)=true)∨(((kz4 s).1==er)=false∧((kz4 s).1==0)=true∧(er==9)=true):=by
  rcases hc with e|⟨e1,e2⟩
  ·exact Or.inl (by rw[rZ];exact e)
  ·rw[e1,e2];exact Or.inr ⟨rfl,rfl,rfl⟩
 clear hS hc hm0 hm1;generalize (kz4 s).1=ce at *;generalize (kz4 s).2=cp at *;obtain ⟨n,hn⟩:∃ n:Nat,n=kz9 most 500:=⟨_,rfl⟩;rw[←hn] at HS1;simp only[←hn] at HP1;clear hn;go_enter Tryz.func8,Tryz.ntmps8
 go_wp2_with fail
 refine (qxq _).mono ?_;rintro e w1 ⟨rfl,hb1⟩;have HB1:=hide hb1;have hz1:=hb1.size;clear hb1;go_wp2_with fail
 refine (kvk _).mono ?_;rintro e w2 ⟨rfl,hb2⟩;have HB2:=hide ((ku HB1).trans (hb2.mono hz1));have hz2:=hb2.size;clear hb2;go_wp2_with fail
 refine ((ku HP1) _).mono ?_;rintro e w3 ⟨rfl,hlt1,hw3⟩;subst hw3;go_wp2_with fail
 refine ((ku HS1) _).mono ?_;rintro e w4 ⟨ta,tc,rfl,hb4⟩;have hz4:=hb4.size;have HB4:=hide (((ku HB2).trans (hb4.mono (by omega))).alloc (by omega) (.cells #[.int .i64 0,.slice ta 0 tc,.int .i64 0] 46));clear hb4 HS1 HP1;go_wp2_with fail
 refine ((ku HCK) _).mono ?_;rintro e w5 ⟨rfl,hb5⟩;obtain ⟨q0,q1,q2,-⟩:=row3 ((hb5.block w4.heap.size (by simp)).trans (qg _ _));have hz5:=hb5.size;have hz5':w4.heap.size<w5.heap.size:=by simp at hz5;omega
 have HB5:=hide ((ku HB4).trans (hb5.mono (by simp;omega)));clear hb5 HCK hz5;rcases hcb with h1|⟨h1,h2,h3⟩
 ·go_wp2
  go_ret
  exact ⟨rfl,ku HB5⟩
 ·go_wp2
  go_ret
  exact ⟨rfl,ku HB5⟩
theorem kki {s:ByteArray}{most:Int}{err end_:Int}{tr:List ByteArray}{orbits:Nat}(hr:kqu s most=some ⟨err,end_,tr,orbits⟩)(w:World) :
  Calls Tryz.prog 25 #[.string s,.int .i64 most] w fun e w'=>∃ ta tc,e=.returned (.tuple #[.agg #[.int .i64 end_,.slice ta tr.length tc,.int .i64 orbits],.int .i64 err])∧w'.ownsRow w.heap.size 9 1 (.slice ta tr.length tc) tr.length (tr.map Value.string)∧Below w.heap.size w w':=by
 refine (zqc s w most _ hr).mono ?_;rintro e w' ⟨ta,tn,tc,rfl,ho,hb⟩;obtain ⟨xa,xc,ex,_⟩:=qm ho;injection ex with e1 e2 e3;subst e2;exact ⟨ta,tc,rfl,ho,hb⟩
theorem qv3 {w:World}{lo T:Nat}{a:Option Addr}{c:Nat}{tr:List ByteArray}(h:w.ownsRow lo T 1 (.slice a tr.length c) tr.length (tr.map Value.string)){j:Nat}(hj:j≤tr.length):w.ownsRow 0 T 1 (.slice a j c) (tr.take j).length ((tr.take j).map Value.string):=by
 have hl:(tr.take j).length=j:=by rw[Qo];omega
 rw[hl];refine ⟨by rw[ni,hl];omega,?_⟩;rcases h.2 with ⟨e,h0⟩|⟨g,cap,cur,e,h1,h2,h3,h4,h5,h6⟩
 ·have hj0:j=0:=by omega
  injection e with e1 e2 e3;subst e1;subst e3;subst hj0;exact Or.inl ⟨rfl,rfl⟩
 ·injection e with e1 e2 e3;subst e1;subst e3;refine Or.inr ⟨g,c,cur,rfl,rG _,h2,by omega,h4,h5,?_⟩;rw[lM] at h6 ⊢;rw[J9,←h6,J6,J3 hj]
theorem zq2 {v:MView}:(endOf v=1∧0<v.broken.length)∨(endOf v=2∧v.broken.length=0∧v.wrong.length=0∧kqg v=true)∨(endOf v=3∧v.broken.length=0∧0<v.wrong.length∧kqg v=false)∨endOf v=0:=by
 unfold endOf;split
 ·exact Or.inl ⟨rfl,by assumption⟩
 ·rename_i h1;split
  ·rename_i h2;refine Or.inr (Or.inl ⟨rfl,by omega,?_,h2⟩);unfold kqg at h2;simp only[wG,rZ] at h2;exact h2.2
  ·rename_i h2;split
   ·rename_i h3;exact Or.inr (Or.inr (Or.inl ⟨rfl,by omega,h3,by simpa using h2⟩))
   ·exact Or.inr (Or.inr (Or.inr rfl))
theorem jx2 (s:ByteArray)(most:Int)(w:World)(hm0:-9223372036854775808≤most)(hm1:most≤9223372036854775807)(en:Int)(tr:List ByteArray)(ob:Nat)(hen:en=0)(hc:(kz4 s).1=0)(h1:1≤ob)(h2:ob≤1+kz9 most 500)
  (hS1:kqu s (1+(kz9 most 500:Int))=some ⟨0,en,tr,ob⟩) (hS2:kqu s (ob:Int)=some ⟨0,en,tr,ob⟩) (hS3:1<ob→kqu s ((ob:Int)-1)=some (kxw 9)) (hsafe:en=0→tr=[])
  (hplay:en≠0→∀ k,k≤tr.length→k≤60→∃ v,kw8 s (tr.take k)=some (v,kqg v,0,0)∧(k<tr.length→endOf v=0)∧(k=tr.length→endOf v=en)) :
  Calls Tryz.prog 8 #[.string s,.int .i64 most] w fun e w'=>e=.returned (.bool true)∧Below w.heap.size w w':=by
 have HE0:=hide hen;clear hen;have HP1:=hide (fun wx=>pick_any most 500 wx hm0 hm1 (by omega) (by omega));have HS1:=hide (fun wx=>kki hS1 wx);have HS2:=hide (fun wx=>kki hS2 wx);have HS3:=hide (fun (h:1<ob) wx=>kxl (hS3 h) (err:=9) (end_:=0) (n:=0) (orbits:=0) rfl rfl rfl rfl wx);have HCK:=hide (fun wx=>(show Calls Tryz.prog 16 #[.string s] wx fun e w'=>e=.returned (.tuple #[.int .i64 0,.int .i64 (kz4 s).2])∧Below wx.heap.size wx w' from by have:=check_any s wx;rw[hc] at this;exact this));have HPY:=hide hplay;have HSF:=hide hsafe;have HPL:=hide (fun (wx:World) (l:List ByteArray) (sa:Option Addr) (sn sc:Nat) (ho:wx.ownsRow 0 9 1 (.slice sa sn sc) l.length (l.map Value.string)) (hl:l.length≤1000) (r:zw6) (hr:kw8 s l=some r)=>qv2 s wx l sa sn sc ho (by omega) r hr);clear hS1 hS2 hS3 hc hm0 hm1 hplay hsafe;generalize (kz4 s).2=cp at *;obtain ⟨n,hn⟩:∃ n:Nat,n=kz9 most 500:=⟨_,rfl⟩;rw[←hn] at HS1 h2;simp only[←hn] at HP1;clear hn;go_enter Tryz.func8,Tryz.ntmps8
 go_wp2_with fail
 refine (qxq _).mono ?_;rintro e w1 ⟨rfl,hb1⟩;have HB1:=hide hb1;have hz1:=hb1.size;clear hb1;go_wp2_with fail
 refine (kvk _).mono ?_;rintro e w2 ⟨rfl,hb2⟩;have HB2:=hide ((ku HB1).trans (hb2.mono hz1));have hz2:=hb2.size;clear hb2;go_wp2_with fail
 refine ((ku HP1) _).mono ?_;rintro e w3 ⟨rfl,hlt1,hw3⟩;subst hw3;have ho1:¬((ob:Int)<1):=by omega
 have ho2:¬((ob:Int) > 1+n):=by omega
 have hob:ob≤500:=by omega
 clear h2;go_wp2_with fail
 refine ((ku HS1) _).mono ?_;rintro e w4 ⟨ta,tc,rfl,hto,hb4⟩;have hz4:=hb4.size;have hal:=below_alloc1 w4 (.cells #[.int .i64 en,.slice ta tr.length tc,.int .i64 ob] 46);have HB4:=hide (((ku HB2).trans (hb4.mono (by omega))).trans (hal.mono (by omega)));have HTO:=hide (qj hto hal);clear hb4 HS1 HP1 hto hal;go_wp2_with fail
 refine ((ku HCK) _).mono ?_;rintro e w5 ⟨rfl,hb5⟩;have HR5:=hide ((hb5.block w4.heap.size (by simp)).trans (qg _ _));obtain ⟨q0,q1,q2,-⟩:=row3 (ku HR5);have hz5:=hb5.size;have hz5':w4.heap.size<w5.heap.size:=by simp at hz5;omega
 have HB5:=hide ((ku HB4).trans (hb5.mono (by simp;omega)));have HTO5:=hide (qj (ku HTO) hb5);clear hb5 HCK hz5 HB4 HTO;go_wp2_with fail
 refine ((ku HS2) _).mono ?_;rintro e w6 ⟨sa,sc,rfl,hso,hb6⟩;clear hso;have hz6:=hb6.size;have h46:w4.heap.size<w6.heap.size:=by omega
 have HR6:=hide ((hb6.block w4.heap.size hz5').trans (ku HR5));have hal:=below_alloc1 w6 (.cells #[.int .i64 en,.slice sa tr.length sc,.int .i64 ob] 46);have h56:=hb6.trans (hal.mono hz6);have HR:=hide ((h56.block w4.heap.size hz5').trans (ku HR5));have HB:=hide ((ku HB5).trans (h56.mono (by omega)));have HT:=hide (qj (ku HTO5) h56);clear q0 q1 q2;obtain ⟨q0,q1,q2,-⟩:=row3 (ku HR6);clear hb6 hal h56 HTO5 HB5 HR5 HS2;have hle:((tr.length:Int) != (tr.length:Int))=false:=by simp
 have hen:=ku HE0;have htr:=(ku HSF) hen;subst hen;subst htr;by_cases hob1:1<ob
 ·have hobI:(1:Int)<ob:=by omega
  go_wp2_with fail
  refine ((ku HS3) hob1 _).mono ?_;rintro e w7 ⟨xa,xc,rfl,hb7⟩;clear q0 q1 q2;obtain ⟨q0,q1,q2,-⟩:=row3 ((hb7.block w4.heap.size (by simp;omega)).trans (ku HR));have hz7:=hb7.size;have h47:w4.heap.size<w7.heap.size:=by simp at hz7;omega
  have HB7:=hide (((ku HB).trans (hb7.mono (by simp;omega))).alloc (by simp at hz7;omega) (.cells #[.int .i64 0,.slice xa 0 xc,.int .i64 0] 46));clear hb7 hz7;go_wp2
  go_ret
  exact ⟨rfl,ku HB7⟩
 ·have hobI:¬(1:Int)<ob:=by omega
  go_wp2
  go_ret
  exact ⟨rfl,ku HB⟩
theorem jx3 (s:ByteArray)(most:Int)(w:World)(hm0:-9223372036854775808≤most)(hm1:most≤9223372036854775807)(en:Int)(tr:List ByteArray)(ob:Nat)(hen:¬en=0)(hob1:1<ob)(hc:(kz4 s).1=0)(h1:1≤ob)(h2:ob≤1+kz9 most 500)
  (hS1:kqu s (1+(kz9 most 500:Int))=some ⟨0,en,tr,ob⟩) (hS2:kqu s (ob:Int)=some ⟨0,en,tr,ob⟩) (hS3:1<ob→kqu s ((ob:Int)-1)=some (kxw 9)) (hsafe:en=0→tr=[])
  (hplay:en≠0→∀ k,k≤tr.length→k≤60→∃ v,kw8 s (tr.take k)=some (v,kqg v,0,0)∧(k<tr.length→endOf v=0)∧(k=tr.length→endOf v=en)) :
  Calls Tryz.prog 8 #[.string s,.int .i64 most] w fun e w'=>e=.returned (.bool true)∧Below w.heap.size w w':=by
 have HE0:=hide hen;have HO0:=hide hob1;clear hen hob1;have HP1:=hide (fun wx=>pick_any most 500 wx hm0 hm1 (by omega) (by omega));have HS1:=hide (fun wx=>kki hS1 wx);have HS2:=hide (fun wx=>kki hS2 wx);have HS3:=hide (fun (h:1<ob) wx=>kxl (hS3 h) (err:=9) (end_:=0) (n:=0) (orbits:=0) rfl rfl rfl rfl wx);have HCK:=hide (fun wx=>(show Calls Tryz.prog 16 #[.string s] wx fun e w'=>e=.returned (.tuple #[.int .i64 0,.int .i64 (kz4 s).2])∧Below wx.heap.size wx w' from by have:=check_any s wx;rw[hc] at this;exact this));have HPY:=hide hplay;have HSF:=hide hsafe;have HPL:=hide (fun (wx:World) (l:List ByteArray) (sa:Option Addr) (sn sc:Nat) (ho:wx.ownsRow 0 9 1 (.slice sa sn sc) l.length (l.map Value.string)) (hl:l.length≤1000) (r:zw6) (hr:kw8 s l=some r)=>qv2 s wx l sa sn sc ho (by omega) r hr);clear hS1 hS2 hS3 hc hm0 hm1 hplay hsafe;generalize (kz4 s).2=cp at *;obtain ⟨n,hn⟩:∃ n:Nat,n=kz9 most 500:=⟨_,rfl⟩;rw[←hn] at HS1 h2;simp only[←hn] at HP1;clear hn;go_enter Tryz.func8,Tryz.ntmps8
 go_wp2_with fail
 refine (qxq _).mono ?_;rintro e w1 ⟨rfl,hb1⟩;have HB1:=hide hb1;have hz1:=hb1.size;clear hb1;go_wp2_with fail
 refine (kvk _).mono ?_;rintro e w2 ⟨rfl,hb2⟩;have HB2:=hide ((ku HB1).trans (hb2.mono hz1));have hz2:=hb2.size;clear hb2;go_wp2_with fail
 refine ((ku HP1) _).mono ?_;rintro e w3 ⟨rfl,hlt1,hw3⟩;subst hw3;have ho1:¬((ob:Int)<1):=by omega
 have ho2:¬((ob:Int) > 1+n):=by omega
 have hob:ob≤500:=by omega
 clear h2;go_wp2_with fail
 refine ((ku HS1) _).mono ?_;rintro e w4 ⟨ta,tc,rfl,hto,hb4⟩;have hz4:=hb4.size;have hal:=below_alloc1 w4 (.cells #[.int .i64 en,.slice ta tr.length tc,.int .i64 ob] 46);have HB4:=hide (((ku HB2).trans (hb4.mono (by omega))).trans (hal.mono (by omega)));have HTO:=hide (qj hto hal);clear hb4 HS1 HP1 hto hal;go_wp2_with fail
 refine ((ku HCK) _).mono ?_;rintro e w5 ⟨rfl,hb5⟩;have HR5:=hide ((hb5.block w4.heap.size (by simp)).trans (qg _ _));obtain ⟨q0,q1,q2,-⟩:=row3 (ku HR5);have hz5:=hb5.size;have hz5':w4.heap.size<w5.heap.size:=by simp at hz5;omega
 have HB5:=hide ((ku HB4).trans (hb5.mono (by simp;omega)));have HTO5:=hide (qj (ku HTO) hb5);clear hb5 HCK hz5 HB4 HTO;go_wp2_with fail
 refine ((ku HS2) _).mono ?_;rintro e w6 ⟨sa,sc,rfl,hso,hb6⟩;clear hso;have hz6:=hb6.size;have h46:w4.heap.size<w6.heap.size:=by omega
 have HR6:=hide ((hb6.block w4.heap.size hz5').trans (ku HR5));have hal:=below_alloc1 w6 (.cells #[.int .i64 en,.slice sa tr.length sc,.int .i64 ob] 46);have h56:=hb6.trans (hal.mono hz6);have HR:=hide ((h56.block w4.heap.size hz5').trans (ku HR5));have HB:=hide ((ku HB5).trans (h56.mono (by omega)));have HT:=hide (qj (ku HTO5) h56);clear q0 q1 q2;obtain ⟨q0,q1,q2,-⟩:=row3 (ku HR6);clear hb6 hal h56 HTO5 HB5 HR5 HS2;have hle:((tr.length:Int) != (tr.length:Int))=false:=by simp
 have hen:=ku HE0;have hob1:=ku HO0;have henb:(en==0)=false:=by rw[sD];exact hen
 have HEN:=hide hen;have HPY:=hide ((ku HPY) hen);have hobI:(1:Int)<ob:=by omega
 go_wp2_with fail
 refine ((ku HS3) hob1 _).mono ?_;rintro e w7 ⟨xa,xc,rfl,hb7⟩;have hz7:=hb7.size;have h47:w4.heap.size<w7.heap.size:=by simp at hz7;omega
 have hal:=below_alloc1 w7 (.cells #[.int .i64 0,.slice xa 0 xc,.int .i64 0] 46);have h7:=hb7.trans (hal.mono (by simp at hz7 ⊢;omega));obtain ⟨W,hW⟩:∃ W,W=w7.alloc (.cells #[.int .i64 0,.slice xa 0 xc,.int .i64 0] 46):=⟨_,rfl⟩;rw[←hW] at h7;have HRW:=hide ((h7.block w4.heap.size (by simp;omega)).trans (ku HR));have HTW:=hide (qj (ku HT) h7);have HBW:=hide ((ku HB).trans (h7.mono (by simp;omega)));have hBz:w.heap.size≤W.heap.size:=(ku HBW).size;have h4W:w4.heap.size<W.heap.size:=by rw[hW];simp;omega
 have HR7:=hide ((hb7.block w4.heap.size (by simp;omega)).trans (ku HR));clear q0 q1 q2;obtain ⟨q0,q1,q2,-⟩:=row3 (ku HR7);have HWE:=hide hW.symm;clear hb7 hz7 hal h7 hW HR7 HS3 HR HT HB;rcases (ku HTW).2 with ⟨eT,h0T⟩|⟨gT,cT,curT,eT,-,-,hcT,hmT,-,-⟩
 ·injection eT with eT1 eT2 eT3;subst eT1;subst eT3;have HT0:=hide h0T;clear h0T eT2;go_wp2_with fail
  rw[ku HWE];clear q0 q1 q2;go_loopw [16,17,18,19,20,21] (fun k _ _ _ _ _ wr=>∃ j:Nat,j≤tr.length+1∧j≤61∧k=.int .i64 j∧Below W.heap.size W wr) (fun k _ _ _ _ _ _=>62-(intOf k).toNat)
  case atStart=>exact ⟨0,rG _,by omega,rfl,Below.refl _ _⟩
  case round=>
   obtain ⟨j,hj1,hj2,rfl,hbx⟩:=hrel;have hsx:=hbx.size;obtain ⟨q0,q1,q2,-⟩:=row3 ((hbx.block w4.heap.size h4W).trans (ku HRW));have h4x:w4.heap.size<wr.heap.size:=by omega
   have HTX:=hide (qj (ku HTW) hbx);have HBX:=hide hbx;clear hbx;by_cases hin:j≤tr.length∧j≤60
   ·obtain ⟨hi1,hi2⟩:=hin;obtain ⟨v,hv1,hv2,hv3⟩:=(ku HPY) j hi1 hi2;have hI1:(j:Int)≤tr.length:=by omega
    have hI2:(j:Int)≤60:=by omega
    have HV1:=hide hv1;have HV2:=hide hv2;have HV3:=hide hv3;have hcJ:(j:Int)≤0:=by have:=ku HT0;omega
    have HOJ:=hide (qv3 (ku HTX) hi1);have HLJ:=hide (show (tr.take j).length≤1000 by rw[Qo];omega);clear hv1 hv2 hv3 HPY;go_wp2_with fail
    refine ((ku HPL) _ _ _ _ _ (ku HOJ) (ku HLJ) _ (ku HV1)).mono ?_;rintro e w8 ⟨ea,enn,ec,wa,wn,wc,ba,bn,bc,rfl,hp1,hp2,hp3,hb8⟩;obtain ⟨za,zc,ez,hq⟩:=qm hp2;clear hq;injection ez with ez1 ez2 ez3;subst ez1;subst ez2;subst ez3;obtain ⟨za,zc,ez,hq⟩:=qm hp3;clear hq;injection ez with ez1 ez2 ez3;subst ez1;subst ez2;subst ez3;clear q0 q1 q2;obtain ⟨q0,q1,q2,-⟩:=row3 ((hb8.block w4.heap.size h4x).trans ((((ku HBX)).block w4.heap.size h4W).trans (ku HRW)));have hs8:=hb8.size;have h48:w4.heap.size<w8.heap.size:=by omega
    have HB8:=hide ((((ku HBX)).trans (hb8.mono hsx)).alloc (by omega) (.cells #[.string v.text,.slice ea enn ec,.slice wa v.wrong.length wc,.slice ba v.broken.length bc,.bool (kqg v)] 24));clear hp1 hp2 hp3 hb8 HBX HPL HOJ HTX HTW HLJ;dsimp only;have hea:=zq2 (v:=v);by_cases hl:j=tr.length
    ·have hee:=(ku HV3) hl;have hjI:((j:Int)==(tr.length:Int))=true:=by rw[rZ];omega
     clear HV1 HV2 HV3;rw[hee] at hea;generalize kqg v=dd at *;generalize v.broken.length=bl at *;generalize v.wrong.length=wl at *;rcases hea with ⟨e1,e2⟩|⟨e1,e2,e3,e4⟩|⟨e1,e2,e3,e4⟩|e1
     ·have hbI:(0:Int)<bl:=by omega
      have hbz:((bl:Int)==0)=false:=by rw[sD];omega
      subst e1;clear e2 hee;go_wp2
      go_roundw
      case rel=>exact ⟨j+1,by omega,by omega,by go_num,ku HB8⟩
      case measure=>simp[intOf];omega
     ·subst e1;subst e2;subst e3;subst e4;clear hee;go_wp2
      go_roundw
      case rel=>exact ⟨j+1,by omega,by omega,by go_num,ku HB8⟩
      case measure=>simp[intOf];omega
     ·have hbI:(0:Int)<wl:=by omega
      have hbz:((wl:Int)==0)=false:=by rw[sD];omega
      subst e1;subst e2;subst e4;clear e3 hee;go_wp2
      go_roundw
      case rel=>exact ⟨j+1,by omega,by omega,by go_num,ku HB8⟩
      case measure=>simp[intOf];omega
     ·exact absurd e1 (ku HEN)
    ·have hee:=qvj ((ku HV2) (by omega));have hjI:((j:Int)==(tr.length:Int))=false:=by rw[sD];omega
     obtain ⟨e1,e2,e3⟩:=hee;clear HV1 HV2 HV3 hea;generalize kqg v=dd at *;generalize v.broken.length=bl at *;generalize v.wrong.length=wl at *;subst e1;subst e2;subst e3;go_wp2
     go_roundw
     case rel=>exact ⟨j+1,by omega,by omega,by go_num,ku HB8⟩
     case measure=>simp[intOf];omega
   ·have hor:¬((j:Int)≤tr.length)∨((j:Int)≤tr.length∧¬((j:Int)≤60)):=by omega
    rcases hor with hor|⟨hor1,hor⟩
    ·go_wp2
     go_ret
     exact ⟨rfl,(ku HBW).trans ((ku HBX).mono hBz)⟩
    ·go_wp2
     go_ret
     exact ⟨rfl,(ku HBW).trans ((ku HBX).mono hBz)⟩
 ·injection eT with eT1 eT2 eT3;subst eT1;subst eT3;have hcI:(tr.length:Int)≤tc:=by omega
  go_wp2_with fail
  rw[ku HWE];clear q0 q1 q2;go_loopw [16,17,18,19,20,21] (fun k _ _ _ _ _ wr=>∃ j:Nat,j≤tr.length+1∧j≤61∧k=.int .i64 j∧Below W.heap.size W wr) (fun k _ _ _ _ _ _=>62-(intOf k).toNat)
  case atStart=>exact ⟨0,rG _,by omega,rfl,Below.refl _ _⟩
  case round=>
   obtain ⟨j,hj1,hj2,rfl,hbx⟩:=hrel;have hsx:=hbx.size;obtain ⟨q0,q1,q2,-⟩:=row3 ((hbx.block w4.heap.size h4W).trans (ku HRW));have h4x:w4.heap.size<wr.heap.size:=by omega
   have HTX:=hide (qj (ku HTW) hbx);have HBX:=hide hbx;clear hbx;by_cases hin:j≤tr.length∧j≤60
   ·obtain ⟨hi1,hi2⟩:=hin;obtain ⟨v,hv1,hv2,hv3⟩:=(ku HPY) j hi1 hi2;have hI1:(j:Int)≤tr.length:=by omega
    have hI2:(j:Int)≤60:=by omega
    have HV1:=hide hv1;have HV2:=hide hv2;have HV3:=hide hv3;have HOJ:=hide (qv3 (ku HTX) hi1);have HLJ:=hide (show (tr.take j).length≤1000 by rw[Qo];omega);clear hv1 hv2 hv3 HPY;go_wp2_with fail
    refine ((ku HPL) _ _ _ _ _ (ku HOJ) (ku HLJ) _ (ku HV1)).mono ?_;rintro e w8 ⟨ea,enn,ec,wa,wn,wc,ba,bn,bc,rfl,hp1,hp2,hp3,hb8⟩;obtain ⟨za,zc,ez,hq⟩:=qm hp2;clear hq;injection ez with ez1 ez2 ez3;subst ez1;subst ez2;subst ez3;obtain ⟨za,zc,ez,hq⟩:=qm hp3;clear hq;injection ez with ez1 ez2 ez3;subst ez1;subst ez2;subst ez3;clear q0 q1 q2;obtain ⟨q0,q1,q2,-⟩:=row3 ((hb8.block w4.heap.size h4x).trans ((((ku HBX)).block w4.heap.size h4W).trans (ku HRW)));have hs8:=hb8.size;have h48:w4.heap.size<w8.heap.size:=by omega
    have HB8:=hide ((((ku HBX)).trans (hb8.mono hsx)).alloc (by omega) (.cells #[.string v.text,.slice ea enn ec,.slice wa v.wrong.length wc,.slice ba v.broken.length bc,.bool (kqg v)] 24));clear hp1 hp2 hp3 hb8 HBX HPL HOJ HTX HTW HLJ;dsimp only;have hea:=zq2 (v:=v);by_cases hl:j=tr.length
    ·have hee:=(ku HV3) hl;have hjI:((j:Int)==(tr.length:Int))=true:=by rw[rZ];omega
     clear HV1 HV2 HV3;rw[hee] at hea;generalize kqg v=dd at *;generalize v.broken.length=bl at *;generalize v.wrong.length=wl at *;rcases hea with ⟨e1,e2⟩|⟨e1,e2,e3,e4⟩|⟨e1,e2,e3,e4⟩|e1
     ·have hbI:(0:Int)<bl:=by omega
      have hbz:((bl:Int)==0)=false:=by rw[sD];omega
      subst e1;clear e2 hee;go_wp2
      go_roundw
      case rel=>exact ⟨j+1,by omega,by omega,by go_num,ku HB8⟩
      case measure=>simp[intOf];omega
     ·subst e1;subst e2;subst e3;subst e4;clear hee;go_wp2
      go_roundw
      case rel=>exact ⟨j+1,by omega,by omega,by go_num,ku HB8⟩
      case measure=>simp[intOf];omega
     ·have hbI:(0:Int)<wl:=by omega
      have hbz:((wl:Int)==0)=false:=by rw[sD];omega
      subst e1;subst e2;subst e4;clear e3 hee;go_wp2
      go_roundw
      case rel=>exact ⟨j+1,by omega,by omega,by go_num,ku HB8⟩
      case measure=>simp[intOf];omega
     ·exact absurd e1 (ku HEN)
    ·have hee:=qvj ((ku HV2) (by omega));have hjI:((j:Int)==(tr.length:Int))=false:=by rw[sD];omega
     obtain ⟨e1,e2,e3⟩:=hee;clear HV1 HV2 HV3 hea;generalize kqg v=dd at *;generalize v.broken.length=bl at *;generalize v.wrong.length=wl at *;subst e1;subst e2;subst e3;go_wp2
     go_roundw
     case rel=>exact ⟨j+1,by omega,by omega,by go_num,ku HB8⟩
     case measure=>simp[intOf];omega
   ·have hor:¬((j:Int)≤tr.length)∨((j:Int)≤tr.length∧¬((j:Int)≤60)):=by omega
    rcases hor with hor|⟨hor1,hor⟩
    ·go_wp2
     go_ret
     exact ⟨rfl,(ku HBW).trans ((ku HBX).mono hBz)⟩
    ·go_wp2
     go_ret
     exact ⟨rfl,(ku HBW).trans ((ku HBX).mono hBz)⟩
theorem jwd (s:ByteArray)(most:Int)(w:World)(hm0:-9223372036854775808≤most)(hm1:most≤9223372036854775807)(en:Int)(tr:List ByteArray)(ob:Nat)(hen:¬en=0)(hob1:¬1<ob)(hc:(kz4 s).1=0)(h1:1≤ob)(h2:ob≤1+kz9 most 500)
  (hS1:kqu s (1+(kz9 most 500:Int))=some ⟨0,en,tr,ob⟩) (hS2:kqu s (ob:Int)=some ⟨0,en,tr,ob⟩) (hS3:1<ob→kqu s ((ob:Int)-1)=some (kxw 9)) (hsafe:en=0→tr=[])
  (hplay:en≠0→∀ k,k≤tr.length→k≤60→∃ v,kw8 s (tr.take k)=some (v,kqg v,0,0)∧(k<tr.length→endOf v=0)∧(k=tr.length→endOf v=en)) :
  Calls Tryz.prog 8 #[.string s,.int .i64 most] w fun e w'=>e=.returned (.bool true)∧Below w.heap.size w w':=by
 have HE0:=hide hen;have HO0:=hide hob1;clear hen hob1;have HP1:=hide (fun wx=>pick_any most 500 wx hm0 hm1 (by omega) (by omega));have HS1:=hide (fun wx=>kki hS1 wx);have HS2:=hide (fun wx=>kki hS2 wx);have HS3:=hide (fun (h:1<ob) wx=>kxl (hS3 h) (err:=9) (end_:=0) (n:=0) (orbits:=0) rfl rfl rfl rfl wx);have HCK:=hide (fun wx=>(show Calls Tryz.prog 16 #[.string s] wx fun e w'=>e=.returned (.tuple #[.int .i64 0,.int .i64 (kz4 s).2])∧Below wx.heap.size wx w' from by have:=check_any s wx;rw[hc] at this;exact this));have HPY:=hide hplay;have HSF:=hide hsafe;have HPL:=hide (fun (wx:World) (l:List ByteArray) (sa:Option Addr) (sn sc:Nat) (ho:wx.ownsRow 0 9 1 (.slice sa sn sc) l.length (l.map Value.string)) (hl:l.length≤1000) (r:zw6) (hr:kw8 s l=some r)=>qv2 s wx l sa sn sc ho (by omega) r hr);clear hS1 hS2 hS3 hc hm0 hm1 hplay hsafe;generalize (kz4 s).2=cp at *;obtain ⟨n,hn⟩:∃ n:Nat,n=kz9 most 500:=⟨_,rfl⟩;rw[←hn] at HS1 h2;simp only[←hn] at HP1;clear hn;go_enter Tryz.func8,Tryz.ntmps8
 go_wp2_with fail
 refine (qxq _).mono ?_;rintro e w1 ⟨rfl,hb1⟩;have HB1:=hide hb1;have hz1:=hb1.size;clear hb1;go_wp2_with fail
 refine (kvk _).mono ?_;rintro e w2 ⟨rfl,hb2⟩;have HB2:=hide ((ku HB1).trans (hb2.mono hz1));have hz2:=hb2.size;clear hb2;go_wp2_with fail
 refine ((ku HP1) _).mono ?_;rintro e w3 ⟨rfl,hlt1,hw3⟩;subst hw3;have ho1:¬((ob:Int)<1):=by omega
 have ho2:¬((ob:Int) > 1+n):=by omega
 have hob:ob≤500:=by omega
 clear h2;go_wp2_with fail
 refine ((ku HS1) _).mono ?_;rintro e w4 ⟨ta,tc,rfl,hto,hb4⟩;have hz4:=hb4.size;have hal:=below_alloc1 w4 (.cells #[.int .i64 en,.slice ta tr.length tc,.int .i64 ob] 46);have HB4:=hide (((ku HB2).trans (hb4.mono (by omega))).trans (hal.mono (by omega)));have HTO:=hide (qj hto hal);clear hb4 HS1 HP1 hto hal;go_wp2_with fail
 refine ((ku HCK) _).mono ?_;rintro e w5 ⟨rfl,hb5⟩;have HR5:=hide ((hb5.block w4.heap.size (by simp)).trans (qg _ _));obtain ⟨q0,q1,q2,-⟩:=row3 (ku HR5);have hz5:=hb5.size;have hz5':w4.heap.size<w5.heap.size:=by simp at hz5;omega
 have HB5:=hide ((ku HB4).trans (hb5.mono (by simp;omega)));have HTO5:=hide (qj (ku HTO) hb5);clear hb5 HCK hz5 HB4 HTO;go_wp2_with fail
 refine ((ku HS2) _).mono ?_;rintro e w6 ⟨sa,sc,rfl,hso,hb6⟩;clear hso;have hz6:=hb6.size;have h46:w4.heap.size<w6.heap.size:=by omega
 have HR6:=hide ((hb6.block w4.heap.size hz5').trans (ku HR5));have hal:=below_alloc1 w6 (.cells #[.int .i64 en,.slice sa tr.length sc,.int .i64 ob] 46);have h56:=hb6.trans (hal.mono hz6);have HR:=hide ((h56.block w4.heap.size hz5').trans (ku HR5));have HB:=hide ((ku HB5).trans (h56.mono (by omega)));have HT:=hide (qj (ku HTO5) h56);clear q0 q1 q2;obtain ⟨q0,q1,q2,-⟩:=row3 (ku HR6);clear hb6 hal h56 HTO5 HB5 HR5 HS2;have hle:((tr.length:Int) != (tr.length:Int))=false:=by simp
 have hen:=ku HE0;have hob1:=ku HO0;have henb:(en==0)=false:=by rw[sD];exact hen
 have HEN:=hide hen;have HPY:=hide ((ku HPY) hen);have hobI:¬(1:Int)<ob:=by omega
 obtain ⟨W,hW⟩:∃ W,W=w6.alloc (.cells #[.int .i64 en,.slice sa tr.length sc,.int .i64 ob] 46):=⟨_,rfl⟩;rw[←hW] at HR HT HB;have HRW:=HR;have HTW:=HT;have HBW:=HB;have hBz:w.heap.size≤W.heap.size:=(ku HBW).size;have h4W:w4.heap.size<W.heap.size:=by rw[hW];simp;omega
 have HWE:=hide hW.symm;clear hW HS3 HR HT HB;rcases (ku HTW).2 with ⟨eT,h0T⟩|⟨gT,cT,curT,eT,-,-,hcT,hmT,-,-⟩
 ·injection eT with eT1 eT2 eT3;subst eT1;subst eT3;have HT0:=hide h0T;clear h0T eT2;go_wp2_with fail
  rw[ku HWE];clear q0 q1 q2;go_loopw [16,17,18,19,20,21] (fun k _ _ _ _ _ wr=>∃ j:Nat,j≤tr.length+1∧j≤61∧k=.int .i64 j∧Below W.heap.size W wr) (fun k _ _ _ _ _ _=>62-(intOf k).toNat)
  case atStart=>exact ⟨0,rG _,by omega,rfl,Below.refl _ _⟩
  case round=>
   obtain ⟨j,hj1,hj2,rfl,hbx⟩:=hrel;have hsx:=hbx.size;obtain ⟨q0,q1,q2,-⟩:=row3 ((hbx.block w4.heap.size h4W).trans (ku HRW));have h4x:w4.heap.size<wr.heap.size:=by omega
   have HTX:=hide (qj (ku HTW) hbx);have HBX:=hide hbx;clear hbx;by_cases hin:j≤tr.length∧j≤60
   ·obtain ⟨hi1,hi2⟩:=hin;obtain ⟨v,hv1,hv2,hv3⟩:=(ku HPY) j hi1 hi2;have hI1:(j:Int)≤tr.length:=by omega
    have hI2:(j:Int)≤60:=by omega
    have HV1:=hide hv1;have HV2:=hide hv2;have HV3:=hide hv3;have hcJ:(j:Int)≤0:=by have:=ku HT0;omega
    have HOJ:=hide (qv3 (ku HTX) hi1);have HLJ:=hide (show (tr.take j).length≤1000 by rw[Qo];omega);clear hv1 hv2 hv3 HPY;go_wp2_with fail
    refine ((ku HPL) _ _ _ _ _ (ku HOJ) (ku HLJ) _ (ku HV1)).mono ?_;rintro e w8 ⟨ea,enn,ec,wa,wn,wc,ba,bn,bc,rfl,hp1,hp2,hp3,hb8⟩;obtain ⟨za,zc,ez,hq⟩:=qm hp2;clear hq;injection ez with ez1 ez2 ez3;subst ez1;subst ez2;subst ez3;obtain ⟨za,zc,ez,hq⟩:=qm hp3;clear hq;injection ez with ez1 ez2 ez3;subst ez1;subst ez2;subst ez3;clear q0 q1 q2;obtain ⟨q0,q1,q2,-⟩:=row3 ((hb8.block w4.heap.size h4x).trans ((((ku HBX)).block w4.heap.size h4W).trans (ku HRW)));have hs8:=hb8.size;have h48:w4.heap.size<w8.heap.size:=by omega
    have HB8:=hide ((((ku HBX)).trans (hb8.mono hsx)).alloc (by omega) (.cells #[.string v.text,.slice ea enn ec,.slice wa v.wrong.length wc,.slice ba v.broken.length bc,.bool (kqg v)] 24));clear hp1 hp2 hp3 hb8 HBX HPL HOJ HTX HTW HLJ;dsimp only;have hea:=zq2 (v:=v);by_cases hl:j=tr.length
    ·have hee:=(ku HV3) hl;have hjI:((j:Int)==(tr.length:Int))=true:=by rw[rZ];omega
     clear HV1 HV2 HV3;rw[hee] at hea;generalize kqg v=dd at *;generalize v.broken.length=bl at *;generalize v.wrong.length=wl at *;rcases hea with ⟨e1,e2⟩|⟨e1,e2,e3,e4⟩|⟨e1,e2,e3,e4⟩|e1
     ·have hbI:(0:Int)<bl:=by omega
      have hbz:((bl:Int)==0)=false:=by rw[sD];omega
      subst e1;clear e2 hee;go_wp2
      go_roundw
      case rel=>exact ⟨j+1,by omega,by omega,by go_num,ku HB8⟩
      case measure=>simp[intOf];omega
     ·subst e1;subst e2;subst e3;subst e4;clear hee;go_wp2
      go_roundw
      case rel=>exact ⟨j+1,by omega,by omega,by go_num,ku HB8⟩
      case measure=>simp[intOf];omega
     ·have hbI:(0:Int)<wl:=by omega
      have hbz:((wl:Int)==0)=false:=by rw[sD];omega
      subst e1;subst e2;subst e4;clear e3 hee;go_wp2
      go_roundw
      case rel=>exact ⟨j+1,by omega,by omega,by go_num,ku HB8⟩
      case measure=>simp[intOf];omega
     ·exact absurd e1 (ku HEN)
    ·have hee:=qvj ((ku HV2) (by omega));have hjI:((j:Int)==(tr.length:Int))=false:=by rw[sD];omega
     obtain ⟨e1,e2,e3⟩:=hee;clear HV1 HV2 HV3 hea;generalize kqg v=dd at *;generalize v.broken.length=bl at *;generalize v.wrong.length=wl at *;subst e1;subst e2;subst e3;go_wp2
     go_roundw
     case rel=>exact ⟨j+1,by omega,by omega,by go_num,ku HB8⟩
     case measure=>simp[intOf];omega
   ·have hor:¬((j:Int)≤tr.length)∨((j:Int)≤tr.length∧¬((j:Int)≤60)):=by omega
    rcases hor with hor|⟨hor1,hor⟩
    ·go_wp2
     go_ret
     exact ⟨rfl,(ku HBW).trans ((ku HBX).mono hBz)⟩
    ·go_wp2
     go_ret
     exact ⟨rfl,(ku HBW).trans ((ku HBX).mono hBz)⟩
 ·injection eT with eT1 eT2 eT3;subst eT1;subst eT3;have hcI:(tr.length:Int)≤tc:=by omega
  go_wp2_with fail
  rw[ku HWE];clear q0 q1 q2;go_loopw [16,17,18,19,20,21] (fun k _ _ _ _ _ wr=>∃ j:Nat,j≤tr.length+1∧j≤61∧k=.int .i64 j∧Below W.heap.size W wr) (fun k _ _ _ _ _ _=>62-(intOf k).toNat)
  case atStart=>exact ⟨0,rG _,by omega,rfl,Below.refl _ _⟩
  case round=>
   obtain ⟨j,hj1,hj2,rfl,hbx⟩:=hrel;have hsx:=hbx.size;obtain ⟨q0,q1,q2,-⟩:=row3 ((hbx.block w4.heap.size h4W).trans (ku HRW));have h4x:w4.heap.size<wr.heap.size:=by omega
   have HTX:=hide (qj (ku HTW) hbx);have HBX:=hide hbx;clear hbx;by_cases hin:j≤tr.length∧j≤60
   ·obtain ⟨hi1,hi2⟩:=hin;obtain ⟨v,hv1,hv2,hv3⟩:=(ku HPY) j hi1 hi2;have hI1:(j:Int)≤tr.length:=by omega
    have hI2:(j:Int)≤60:=by omega
    have HV1:=hide hv1;have HV2:=hide hv2;have HV3:=hide hv3;have HOJ:=hide (qv3 (ku HTX) hi1);have HLJ:=hide (show (tr.take j).length≤1000 by rw[Qo];omega);clear hv1 hv2 hv3 HPY;go_wp2_with fail
    refine ((ku HPL) _ _ _ _ _ (ku HOJ) (ku HLJ) _ (ku HV1)).mono ?_;rintro e w8 ⟨ea,enn,ec,wa,wn,wc,ba,bn,bc,rfl,hp1,hp2,hp3,hb8⟩;obtain ⟨za,zc,ez,hq⟩:=qm hp2;clear hq;injection ez with ez1 ez2 ez3;subst ez1;subst ez2;subst ez3;obtain ⟨za,zc,ez,hq⟩:=qm hp3;clear hq;injection ez with ez1 ez2 ez3;subst ez1;subst ez2;subst ez3;clear q0 q1 q2;obtain ⟨q0,q1,q2,-⟩:=row3 ((hb8.block w4.heap.size h4x).trans ((((ku HBX)).block w4.heap.size h4W).trans (ku HRW)));have hs8:=hb8.size;have h48:w4.heap.size<w8.heap.size:=by omega
    have HB8:=hide ((((ku HBX)).trans (hb8.mono hsx)).alloc (by omega) (.cells #[.string v.text,.slice ea enn ec,.slice wa v.wrong.length wc,.slice ba v.broken.length bc,.bool (kqg v)] 24));clear hp1 hp2 hp3 hb8 HBX HPL HOJ HTX HTW HLJ;dsimp only;have hea:=zq2 (v:=v);by_cases hl:j=tr.length
    ·have hee:=(ku HV3) hl;have hjI:((j:Int)==(tr.length:Int))=true:=by rw[rZ];omega
     clear HV1 HV2 HV3;rw[hee] at hea;generalize kqg v=dd at *;generalize v.broken.length=bl at *;generalize v.wrong.length=wl at *;rcases hea with ⟨e1,e2⟩|⟨e1,e2,e3,e4⟩|⟨e1,e2,e3,e4⟩|e1
     ·have hbI:(0:Int)<bl:=by omega
      have hbz:((bl:Int)==0)=false:=by rw[sD];omega
      subst e1;clear e2 hee;go_wp2
      go_roundw
      case rel=>exact ⟨j+1,by omega,by omega,by go_num,ku HB8⟩
      case measure=>simp[intOf];omega
     ·subst e1;subst e2;subst e3;subst e4;clear hee;go_wp2
      go_roundw
      case rel=>exact ⟨j+1,by omega,by omega,by go_num,ku HB8⟩
      case measure=>simp[intOf];omega
     ·have hbI:(0:Int)<wl:=by omega
      have hbz:((wl:Int)==0)=false:=by rw[sD];omega
      subst e1;subst e2;subst e4;clear e3 hee;go_wp2
      go_roundw
      case rel=>exact ⟨j+1,by omega,by omega,by go_num,ku HB8⟩
      case measure=>simp[intOf];omega
     ·exact absurd e1 (ku HEN)
    ·have hee:=qvj ((ku HV2) (by omega));have hjI:((j:Int)==(tr.length:Int))=false:=by rw[sD];omega
     obtain ⟨e1,e2,e3⟩:=hee;clear HV1 HV2 HV3 hea;generalize kqg v=dd at *;generalize v.broken.length=bl at *;generalize v.wrong.length=wl at *;subst e1;subst e2;subst e3;go_wp2
     go_roundw
     case rel=>exact ⟨j+1,by omega,by omega,by go_num,ku HB8⟩
     case measure=>simp[intOf];omega
   ·have hor:¬((j:Int)≤tr.length)∨((j:Int)≤tr.length∧¬((j:Int)≤60)):=by omega
    rcases hor with hor|⟨hor1,hor⟩
    ·go_wp2
     go_ret
     exact ⟨rfl,(ku HBW).trans ((ku HBX).mono hBz)⟩
    ·go_wp2
     go_ret
     exact ⟨rfl,(ku HBW).trans ((ku HBX).mono hBz)⟩
end Go.Proofs.YtpmcnonmkghokaaGreatDoor
namespace Go.Proofs.YtpmcnonmkghokaaGreatDoor
open Go.RowKit
theorem jwc (s:ByteArray)(most:Int)(w:World)(hm0:-9223372036854775808≤most)(hm1:most≤9223372036854775807) :
  Calls Tryz.prog 8 #[.string s,.int .i64 most] w fun e w'=>e=.returned (.bool true)∧Below w.heap.size w w':=by
 by_cases hc:(kz4 s).1=0
 ·obtain ⟨a,ha,hM⟩:=vza hc;have hlt:kz9 most 500<500:=by
   unfold kz9;have h1:=JU (if most<0 then -(most+1) else most) (b:=((500:Nat):Int)) (by omega);have h2:=Jw (if most<0 then -(most+1) else most) (b:=((500:Nat):Int)) (by omega);omega
  obtain ⟨r,hr⟩:=jvv hc ha hM (n:=1+kz9 most 500) (by omega) (by omega);have hS:=hr.src;rw[show ((1+kz9 most 500:Nat):Int)=1+(kz9 most 500:Int) by omega] at hS;rcases hr.how with e|⟨e1,e2,e3,e4⟩
  ·rw[e] at hS;exact zkb s most w hm0 hm1 9 (by decide) hS (Or.inr ⟨hc,rfl⟩)
  ·have hf:=hr.few e1;obtain ⟨err,en,tr,ob⟩:=r;simp only at e1 e2 e3;subst e1;have hS2:kqu s (ob:Int)=some ⟨0,en,tr,ob⟩:=(hf ob e2 (by omega)).1 (wX _);have hS3:1<ob→kqu s ((ob:Int)-1)=some (kxw 9):=fun h=>by
    have:=(hf (ob-1) (by omega) (by omega)).2 (by show ob-1<ob;omega);rwa [show ((ob-1:Nat):Int)=(ob:Int)-1 by omega] at this
   have hsafe:en=0→tr=[]:=e4.safe;have hplay:en≠0→∀ k,k≤tr.length→k≤60→∃ v,kw8 s (tr.take k)=some (v,kqg v,0,0)∧(k<tr.length→endOf v=0)∧(k=tr.length→endOf v=en):=fun he k h1 h2=>jjd hc ha hM e4 he k h1 h2
   by_cases hen:en=0
   ·exact jx2 s most w hm0 hm1 en tr ob hen hc e2 e3 hS hS2 hS3 hsafe hplay
   ·by_cases hob:1<ob
    ·exact jx3 s most w hm0 hm1 en tr ob hen hob hc e2 e3 hS hS2 hS3 hsafe hplay
    ·exact jwd s most w hm0 hm1 en tr ob hen hob hc e2 e3 hS hS2 hS3 hsafe hplay
 ·have hS:kqu s (1+(kz9 most 500:Int))=some (kxw (kz4 s).1):=by
   unfold kqu;rw[if_neg (by rw[rZ];exact hc)]
  exact zkb s most w hm0 hm1 _ hc hS (Or.inl rfl)
end Go.Proofs.YtpmcnonmkghokaaGreatDoor
