import Derived.Test.YtpmcnonmkghokaaGreatDoorT25
import Derived.Test.YtpmcnonmkghokaaGreatDoorT12
set_option maxRecDepth 100000
set_option maxHeartbeats 8000000
set_option linter.unusedVariables false
set_option linter.unusedSimpArgs false
namespace Go.Proofs.YtpmcnonmkghokaaGreatDoor
open Go.RowKit
attribute [local go_sem ↓] Go.wp_at_zero Go.wp_at_succ
def qqn (cs:List Int)(two:Bool)(k:Nat):GC:=⟨qvg cs two k,qvg cs two (kq8 cs two k),qvg cs two (kq8 cs two (kq8 cs two k)),zxv cs two (kq8 cs two (kq8 cs two k)),nxV cs 8 (kv3 cs two (kq8 cs two (kq8 cs two k)))⟩
def gdA (cs:List Int)(two:Bool)(k:Nat):Nat:=nxA cs (kv3 cs two (kq8 cs two (kq8 cs two k)))
theorem zqy (cs:List Int)(two:Bool)(k:Nat):kv3 cs two k≤k+2:=by
 have h1:=kyc cs two k;have h2:=kye cs (kq8 cs two k);unfold kv3;omega
theorem jx9 (cs:List Int)(two:Bool)(k:Nat):gdA cs two k≤k+5:=by
 have h1:=kyc cs two k;have h2:=kyc cs two (kq8 cs two k);have h3:=zqy cs two (kq8 cs two (kq8 cs two k));have h4:=kye cs (kv3 cs two (kq8 cs two (kq8 cs two k)));unfold gdA;omega
theorem kyn (cs:List Int)(two:Bool)(k:Nat):(qqn cs two k).ok∧(two=false→(qqn cs two k).x=false∧(qqn cs two k).y=false∧(qqn cs two k).z=false):=by
 refine ⟨⟨kxo _ _ (by omega),kxo _ _ (by omega)⟩,fun h=>?_⟩;subst h;exact ⟨rfl,rfl,rfl⟩
def qjd (X Y M:ByteArray)(n:Nat):ByteArray:=if n=0 then ⟨#[116,114,117,101]⟩ else if n=1 then ⟨#[110,91]⟩++X++⟨#[93,32,60,32,50]⟩ else if n=2 then ⟨#[110,91]⟩++X++⟨#[93,32,61,61,32,110,91]⟩++Y++⟨#[93]⟩ else if n=3 then ⟨#[118,32,61,61,32]⟩++M else if n=4 then ⟨#[118,32,33,61,32]⟩++M else if n=5 then ⟨#[109,91]⟩++X++⟨#[93,32,61,61,32,110,111,110,101]⟩ else if n=6 then ⟨#[40,118,32,61,61,32,110,111,110,101,32,124,32,110,91]⟩++X++⟨#[93,32,61,61,32,49,41]⟩ else ⟨#[33,40]⟩++X++⟨#[32,61,61,32]⟩++M++⟨#[41]⟩
theorem kxq (x y z:Bool)(k n:Nat)(hk:k<3)(hn:n<8):qjd (zq5 x) (zq5 y) (jzs z k) n=⟨(kkr x y z k n).toArray⟩:=by
 rcases (show n=0∨n=1∨n=2∨n=3∨n=4∨n=5∨n=6∨n=7 by omega) with rfl|rfl|rfl|rfl|rfl|rfl|rfl|rfl<;>rcases (show k=0∨k=1∨k=2 by omega) with rfl|rfl|rfl<;>cases x<;>cases y<;>cases z<;>kernel_rfl
theorem qwk (j:Bool):(zq5 j).size=1:=by cases j<;>rfl
theorem zkc (j:Bool)(k:Nat)(hk:k<3):(jzs j k).size=1∨(jzs j k).size=4:=by
 rcases (show k=0∨k=1∨k=2 by omega) with rfl|rfl|rfl<;>cases j<;>first|exact Or.inl rfl|exact Or.inr rfl
theorem zw7 (w:World)(R:Nat)(two:Bool)(ca:Option Addr)(cc:Nat)(cs:List Int)(k:Nat)(h:kqt w R ca cc cs k)(hk:k≤80000) :
  Calls Tryz.prog 41 #[.pointer (some ⟨R,0,none⟩),.bool two] w fun e w'=>e=.returned (.string ⟨((qqn cs two k).s).toArray⟩)∧kqt w' R ca cc cs (gdA cs two k)∧Kept R w w':=by
 have hRl:R<w.heap.size:=wX h.fd;have a1:=kyc cs two k;have a2:=kyc cs two (kq8 cs two k);have a3:=zqy cs two (kq8 cs two (kq8 cs two k));have HO:=hide (jkm w R two ca cc cs k h (by omega));have HP:=hide (fun (wx:World) (hx:kqt wx R ca cc cs (kq8 cs two k))=>jkm wx R two ca cc cs _ hx (by omega));have HQ:=hide (fun (wx:World) (hx:kqt wx R ca cc cs (kq8 cs two (kq8 cs two k)))=>jqq wx R two ca cc cs _ hx (by omega));have HN:=hide (fun (wx:World) (hx:kqt wx R ca cc cs (kv3 cs two (kq8 cs two (kq8 cs two k))))=>qkg wx R 8 ca cc cs _ hx (by omega) (by omega) (by omega));have hn:nxV cs 8 (kv3 cs two (kq8 cs two (kq8 cs two k)))<8:=kxo _ _ (by omega);have hmk:zxv cs two (kq8 cs two (kq8 cs two k))<3:=kxo _ _ (by omega);unfold qqn gdA GC.s;clear h a1 a2 a3;simp only;generalize nxV cs 8 (kv3 cs two (kq8 cs two (kq8 cs two k)))=n at *;generalize nxA cs (kv3 cs two (kq8 cs two (kq8 cs two k)))=k4 at *;generalize zxv cs two (kq8 cs two (kq8 cs two k))=mk at *;generalize kv3 cs two (kq8 cs two (kq8 cs two k))=k3 at *;generalize qvg cs two (kq8 cs two (kq8 cs two k))=z at *;generalize kq8 cs two (kq8 cs two k)=k2 at *;generalize qvg cs two (kq8 cs two k)=y at *;generalize kq8 cs two k=k1 at *;generalize qvg cs two k=x at *;have hMM:=zkc z mk hmk;go_enter Tryz.func41,Tryz.ntmps41
 go_wp2_with fail
 refine (ku HO).mono ?_;rintro e w1 ⟨rfl,h1,hk1⟩;have H1:=hide h1;have HK1:=hide hk1;have hs1:=hk1.size;clear h1 hk1 HO;obtain ⟨X,hX⟩:∃ X,X=zq5 x:=⟨_,rfl⟩;have hXs:X.size=1:=by rw[hX];exact qwk x
 have HX:=hide hX;rw[←hX];clear hX;go_wp2_with fail
 refine ((ku HP) _ (ku H1)).mono ?_;rintro e w2 ⟨rfl,h2,hk2⟩;have H2:=hide h2;have HK2:=hide ((ku HK1).trans hk2);have hs2:=hk2.size;clear h2 hk2 HP H1 HK1;obtain ⟨Y,hY⟩:∃ Y,Y=zq5 y:=⟨_,rfl⟩;have hYs:Y.size=1:=by rw[hY];exact qwk y
 have HY:=hide hY;rw[←hY];clear hY;go_wp2_with fail
 refine ((ku HQ) _ (ku H2)).mono ?_;rintro e w3 ⟨rfl,h3,hk3⟩;have H3:=hide h3;have HK3:=hide ((ku HK2).trans hk3);have hs3:=hk3.size;clear h3 hk3 HQ H2 HK2;obtain ⟨M,hM⟩:∃ M,M=jzs z mk:=⟨_,rfl⟩;rw[←hM] at hMM;have HM:=hide hM;rw[←hM];clear hM;have HB:=hide (below_alloc1 w3 (.cells #[.string (⟨#[116,114,117,101]⟩),.string (⟨#[110,91]⟩++X++⟨#[93,32,60,32,50]⟩),.string (⟨#[110,91]⟩++X++⟨#[93,32,61,61,32,110,91]⟩++Y++⟨#[93]⟩),.string (⟨#[118,32,61,61,32]⟩++M),.string (⟨#[118,32,33,61,32]⟩++M),.string (⟨#[109,91]⟩++X++⟨#[93,32,61,61,32,110,111,110,101]⟩),.string (⟨#[40,118,32,61,61,32,110,111,110,101,32,124,32,110,91]⟩++X++⟨#[93,32,61,61,32,49,41]⟩),.string (⟨#[33,40]⟩++X++⟨#[32,61,61,32]⟩++M++⟨#[41]⟩)] 9));have HC:=hide (qy w3 (.cells #[.string (⟨#[116,114,117,101]⟩),.string (⟨#[110,91]⟩++X++⟨#[93,32,60,32,50]⟩),.string (⟨#[110,91]⟩++X++⟨#[93,32,61,61,32,110,91]⟩++Y++⟨#[93]⟩),.string (⟨#[118,32,61,61,32]⟩++M),.string (⟨#[118,32,33,61,32]⟩++M),.string (⟨#[109,91]⟩++X++⟨#[93,32,61,61,32,110,111,110,101]⟩),.string (⟨#[40,118,32,61,61,32,110,111,110,101,32,124,32,110,91]⟩++X++⟨#[93,32,61,61,32,49,41]⟩),.string (⟨#[33,40]⟩++X++⟨#[32,61,61,32]⟩++M++⟨#[41]⟩)] 9));have HF:=hide ((ku H3).below (ku HB));rcases hMM with hMs|hMs;all_goals
  go_wp2_with fail
  refine ((ku HN) _ (ku HF)).mono ?_;rintro e w4 ⟨rfl,h4,hk4⟩;have hb4:=(hk4.block w3.heap.size (by simp) (by omega)).trans (ku HC);have q0:w4.cell? ⟨w3.heap.size,0,none⟩=some (.string (⟨#[116,114,117,101]⟩)):=by rw[rD w4 w3.heap.size 0 _ _ _ hb4];rfl
  have q1:w4.cell? ⟨w3.heap.size,1,none⟩=some (.string (⟨#[110,91]⟩++X++⟨#[93,32,60,32,50]⟩)):=by rw[rD w4 w3.heap.size 1 _ _ _ hb4];rfl
  have q2:w4.cell? ⟨w3.heap.size,2,none⟩=some (.string (⟨#[110,91]⟩++X++⟨#[93,32,61,61,32,110,91]⟩++Y++⟨#[93]⟩)):=by rw[rD w4 w3.heap.size 2 _ _ _ hb4];rfl
  have q3:w4.cell? ⟨w3.heap.size,3,none⟩=some (.string (⟨#[118,32,61,61,32]⟩++M)):=by rw[rD w4 w3.heap.size 3 _ _ _ hb4];rfl
  have q4:w4.cell? ⟨w3.heap.size,4,none⟩=some (.string (⟨#[118,32,33,61,32]⟩++M)):=by rw[rD w4 w3.heap.size 4 _ _ _ hb4];rfl
  have q5:w4.cell? ⟨w3.heap.size,5,none⟩=some (.string (⟨#[109,91]⟩++X++⟨#[93,32,61,61,32,110,111,110,101]⟩)):=by rw[rD w4 w3.heap.size 5 _ _ _ hb4];rfl
  have q6:w4.cell? ⟨w3.heap.size,6,none⟩=some (.string (⟨#[40,118,32,61,61,32,110,111,110,101,32,124,32,110,91]⟩++X++⟨#[93,32,61,61,32,49,41]⟩)):=by rw[rD w4 w3.heap.size 6 _ _ _ hb4];rfl
  have q7:w4.cell? ⟨w3.heap.size,7,none⟩=some (.string (⟨#[33,40]⟩++X++⟨#[32,61,61,32]⟩++M++⟨#[41]⟩)):=by rw[rD w4 w3.heap.size 7 _ _ _ hb4];rfl
  have H4:=hide h4;have HK4:=hide (((ku HK3).trans (Kept.of_below (ku HB))).trans hk4);clear h4 hk4 hb4 HC HF HB H3 HK3 HN;rcases (show n=0∨n=1∨n=2∨n=3∨n=4∨n=5∨n=6∨n=7 by omega) with rfl|rfl|rfl|rfl|rfl|rfl|rfl|rfl
  ·go_wp2
   go_ret
   exact ⟨(show Ending.returned (.string (qjd X Y M 0))=.returned (.string ⟨(kkr x y z mk 0).toArray⟩) by rw[ku HX,ku HY,ku HM,kxq x y z mk 0 hmk (by omega)]),ku H4,ku HK4⟩
  ·go_wp2
   go_ret
   exact ⟨(show Ending.returned (.string (qjd X Y M 1))=.returned (.string ⟨(kkr x y z mk 1).toArray⟩) by rw[ku HX,ku HY,ku HM,kxq x y z mk 1 hmk (by omega)]),ku H4,ku HK4⟩
  ·go_wp2
   go_ret
   exact ⟨(show Ending.returned (.string (qjd X Y M 2))=.returned (.string ⟨(kkr x y z mk 2).toArray⟩) by rw[ku HX,ku HY,ku HM,kxq x y z mk 2 hmk (by omega)]),ku H4,ku HK4⟩
  ·go_wp2
   go_ret
   exact ⟨(show Ending.returned (.string (qjd X Y M 3))=.returned (.string ⟨(kkr x y z mk 3).toArray⟩) by rw[ku HX,ku HY,ku HM,kxq x y z mk 3 hmk (by omega)]),ku H4,ku HK4⟩
  ·go_wp2
   go_ret
   exact ⟨(show Ending.returned (.string (qjd X Y M 4))=.returned (.string ⟨(kkr x y z mk 4).toArray⟩) by rw[ku HX,ku HY,ku HM,kxq x y z mk 4 hmk (by omega)]),ku H4,ku HK4⟩
  ·go_wp2
   go_ret
   exact ⟨(show Ending.returned (.string (qjd X Y M 5))=.returned (.string ⟨(kkr x y z mk 5).toArray⟩) by rw[ku HX,ku HY,ku HM,kxq x y z mk 5 hmk (by omega)]),ku H4,ku HK4⟩
  ·go_wp2
   go_ret
   exact ⟨(show Ending.returned (.string (qjd X Y M 6))=.returned (.string ⟨(kkr x y z mk 6).toArray⟩) by rw[ku HX,ku HY,ku HM,kxq x y z mk 6 hmk (by omega)]),ku H4,ku HK4⟩
  ·go_wp2
   go_ret
   exact ⟨(show Ending.returned (.string (qjd X Y M 7))=.returned (.string ⟨(kkr x y z mk 7).toArray⟩) by rw[ku HX,ku HY,ku HM,kxq x y z mk 7 hmk (by omega)]),ku H4,ku HK4⟩
def zyz (cs:List Int)(two:Bool)(k:Nat):SC:=⟨qvg cs two k,qvg cs two (kq8 cs two k),zxv cs two (kq8 cs two k),nxV cs 3 (kv3 cs two (kq8 cs two k)),nxV cs 6 (nxA cs (kv3 cs two (kq8 cs two k)))⟩
def scA (cs:List Int)(two:Bool)(k:Nat):Nat:=nxA cs (nxA cs (kv3 cs two (kq8 cs two k)))
theorem vqy (cs:List Int)(two:Bool)(k:Nat):scA cs two k≤k+5:=by
 have h1:=kyc cs two k;have h3:=zqy cs two (kq8 cs two k);have h4:=kye cs (kv3 cs two (kq8 cs two k));have h5:=kye cs (nxA cs (kv3 cs two (kq8 cs two k)));unfold scA;omega
theorem jk9 (cs:List Int)(two:Bool)(k:Nat):(zyz cs two k).ok∧(two=false→(zyz cs two k).x=false∧(zyz cs two k).z=false):=by
 refine ⟨⟨kxo _ _ (by omega),kxo _ _ (by omega),kxo _ _ (by omega)⟩,fun h=>?_⟩;subst h;exact ⟨rfl,rfl⟩
def zqa (X M D:ByteArray)(n:Nat):ByteArray:=if n=0 then ⟨#[118,32,61,32]⟩++M++⟨#[59,32]⟩ else if n=1 then ⟨#[109,91]⟩++X++⟨#[93,32,61,32]⟩++M++⟨#[59,32]⟩ else if n=2 then ⟨#[110,91]⟩++X++⟨#[93,32,61,32]⟩++D++⟨#[59,32]⟩ else if n=3 then ⟨#[118,32,61,32,110,111,110,101,59,32]⟩ else if n=4 then ⟨#[105,102,32,110,91]⟩++X++⟨#[93,32,60,32,50,32,123,32,110,91]⟩++X++⟨#[93,32,61,32,110,91]⟩++X++⟨#[93,32,43,32,49,59,32,125,32,101,108,115,101,32,123,32,110,91]⟩++X++⟨#[93,32,61,32,48,59,32,125,32]⟩ else ⟨#[109,91]⟩++X++⟨#[93,32,61,32,110,111,110,101,59,32]⟩
theorem kwp (x z:Bool)(k d n:Nat)(hk:k<3)(hd:d<3)(hn:n<6):zqa (zq5 x) (jzs z k) (kwu d) n=⟨(qjr x z k d n).toArray⟩:=by
 rcases (show n=0∨n=1∨n=2∨n=3∨n=4∨n=5 by omega) with rfl|rfl|rfl|rfl|rfl|rfl<;>rcases (show k=0∨k=1∨k=2 by omega) with rfl|rfl|rfl<;>rcases (show d=0∨d=1∨d=2 by omega) with rfl|rfl|rfl<;>cases x<;>cases z<;>kernel_rfl
theorem jy8 (d:Nat):(kwu d).size=1:=rfl
theorem zy3 (w:World)(R:Nat)(two:Bool)(ca:Option Addr)(cc:Nat)(cs:List Int)(k:Nat)(h:kqt w R ca cc cs k)(hk:k≤80000) :
  Calls Tryz.prog 42 #[.pointer (some ⟨R,0,none⟩),.bool two] w fun e w'=>e=.returned (.string ⟨((zyz cs two k).s).toArray⟩)∧kqt w' R ca cc cs (scA cs two k)∧Kept R w w':=by
 have hRl:R<w.heap.size:=wX h.fd;have a1:=kyc cs two k;have a3:=zqy cs two (kq8 cs two k);have a4:=kye cs (kv3 cs two (kq8 cs two k));have HO:=hide (jkm w R two ca cc cs k h (by omega));have HQ:=hide (fun (wx:World) (hx:kqt wx R ca cc cs (kq8 cs two k))=>jqq wx R two ca cc cs _ hx (by omega));have HP:=hide (fun (wx:World) (hx:kqt wx R ca cc cs (kv3 cs two (kq8 cs two k)))=>qkg wx R 3 ca cc cs _ hx (by omega) (by omega) (by omega));have HN:=hide (fun (wx:World) (hx:kqt wx R ca cc cs (nxA cs (kv3 cs two (kq8 cs two k))))=>qkg wx R 6 ca cc cs _ hx (by omega) (by omega) (by omega));have hn:nxV cs 6 (nxA cs (kv3 cs two (kq8 cs two k)))<6:=kxo _ _ (by omega);have hd:nxV cs 3 (kv3 cs two (kq8 cs two k))<3:=kxo _ _ (by omega);have hmk:zxv cs two (kq8 cs two k)<3:=kxo _ _ (by omega);unfold zyz scA SC.s;clear h a1 a3 a4;simp only;generalize nxV cs 6 (nxA cs (kv3 cs two (kq8 cs two k)))=n at *;generalize nxA cs (nxA cs (kv3 cs two (kq8 cs two k)))=k4 at *;generalize nxV cs 3 (kv3 cs two (kq8 cs two k))=d at *;generalize nxA cs (kv3 cs two (kq8 cs two k))=k3 at *;generalize zxv cs two (kq8 cs two k)=mk at *;generalize kv3 cs two (kq8 cs two k)=k2 at *;generalize qvg cs two (kq8 cs two k)=z at *;generalize kq8 cs two k=k1 at *;generalize qvg cs two k=x at *;have hMM:=zkc z mk hmk;have HI:=hide (fun wx=>qkb d (by omega) wx);go_enter Tryz.func42,Tryz.ntmps42
 go_wp2_with fail
 refine (ku HO).mono ?_;rintro e w1 ⟨rfl,h1,hk1⟩;have H1:=hide h1;have HK1:=hide hk1;have hs1:=hk1.size;clear h1 hk1 HO;obtain ⟨X,hX⟩:∃ X,X=zq5 x:=⟨_,rfl⟩;have hXs:X.size=1:=by rw[hX];exact qwk x
 have HX:=hide hX;rw[←hX];clear hX;go_wp2_with fail
 refine ((ku HQ) _ (ku H1)).mono ?_;rintro e w2 ⟨rfl,h2,hk2⟩;have H2:=hide h2;have HK2:=hide ((ku HK1).trans hk2);have hs2:=hk2.size;clear h2 hk2 HQ H1 HK1;obtain ⟨M,hM⟩:∃ M,M=jzs z mk:=⟨_,rfl⟩;rw[←hM] at hMM;have HM:=hide hM;rw[←hM];clear hM;go_wp2_with fail
 refine ((ku HP) _ (ku H2)).mono ?_;rintro e w3 ⟨rfl,h3,hk3⟩;have H3:=hide h3;have HK3:=hide ((ku HK2).trans hk3);have hs3:=hk3.size;clear h3 hk3 HP H2 HK2;go_wp2_with fail
 refine ((ku HI) _).mono ?_;rintro e w4 ⟨rfl,hw4⟩;replace hw4:=hw4.symm
 subst hw4;clear HI;obtain ⟨D,hD⟩:∃ D,D=kwu d:=⟨_,rfl⟩;have hDs:D.size=1:=by rw[hD];exact jy8 d
 have HD:=hide hD;rw[←hD];clear hD;have HB:=hide (below_alloc1 w3 (.cells #[.string (⟨#[118,32,61,32]⟩++M++⟨#[59,32]⟩),.string (⟨#[109,91]⟩++X++⟨#[93,32,61,32]⟩++M++⟨#[59,32]⟩),.string (⟨#[110,91]⟩++X++⟨#[93,32,61,32]⟩++D++⟨#[59,32]⟩),.string (⟨#[118,32,61,32,110,111,110,101,59,32]⟩),.string (⟨#[105,102,32,110,91]⟩++X++⟨#[93,32,60,32,50,32,123,32,110,91]⟩++X++⟨#[93,32,61,32,110,91]⟩++X++⟨#[93,32,43,32,49,59,32,125,32,101,108,115,101,32,123,32,110,91]⟩++X++⟨#[93,32,61,32,48,59,32,125,32]⟩),.string (⟨#[109,91]⟩++X++⟨#[93,32,61,32,110,111,110,101,59,32]⟩)] 9));have HC:=hide (qy w3 (.cells #[.string (⟨#[118,32,61,32]⟩++M++⟨#[59,32]⟩),.string (⟨#[109,91]⟩++X++⟨#[93,32,61,32]⟩++M++⟨#[59,32]⟩),.string (⟨#[110,91]⟩++X++⟨#[93,32,61,32]⟩++D++⟨#[59,32]⟩),.string (⟨#[118,32,61,32,110,111,110,101,59,32]⟩),.string (⟨#[105,102,32,110,91]⟩++X++⟨#[93,32,60,32,50,32,123,32,110,91]⟩++X++⟨#[93,32,61,32,110,91]⟩++X++⟨#[93,32,43,32,49,59,32,125,32,101,108,115,101,32,123,32,110,91]⟩++X++⟨#[93,32,61,32,48,59,32,125,32]⟩),.string (⟨#[109,91]⟩++X++⟨#[93,32,61,32,110,111,110,101,59,32]⟩)] 9));have HF:=hide ((ku H3).below (ku HB));rcases hMM with hMs|hMs;all_goals
  go_wp2_with fail
  refine ((ku HN) _ (ku HF)).mono ?_;rintro e w5 ⟨rfl,h5,hk5⟩;have hb5:=(hk5.block w3.heap.size (by simp) (by omega)).trans (ku HC);have q0:w5.cell? ⟨w3.heap.size,0,none⟩=some (.string (⟨#[118,32,61,32]⟩++M++⟨#[59,32]⟩)):=by rw[rD w5 w3.heap.size 0 _ _ _ hb5];rfl
  have q1:w5.cell? ⟨w3.heap.size,1,none⟩=some (.string (⟨#[109,91]⟩++X++⟨#[93,32,61,32]⟩++M++⟨#[59,32]⟩)):=by rw[rD w5 w3.heap.size 1 _ _ _ hb5];rfl
  have q2:w5.cell? ⟨w3.heap.size,2,none⟩=some (.string (⟨#[110,91]⟩++X++⟨#[93,32,61,32]⟩++D++⟨#[59,32]⟩)):=by rw[rD w5 w3.heap.size 2 _ _ _ hb5];rfl
  have q3:w5.cell? ⟨w3.heap.size,3,none⟩=some (.string (⟨#[118,32,61,32,110,111,110,101,59,32]⟩)):=by rw[rD w5 w3.heap.size 3 _ _ _ hb5];rfl
  have q4:w5.cell? ⟨w3.heap.size,4,none⟩=some (.string (⟨#[105,102,32,110,91]⟩++X++⟨#[93,32,60,32,50,32,123,32,110,91]⟩++X++⟨#[93,32,61,32,110,91]⟩++X++⟨#[93,32,43,32,49,59,32,125,32,101,108,115,101,32,123,32,110,91]⟩++X++⟨#[93,32,61,32,48,59,32,125,32]⟩)):=by rw[rD w5 w3.heap.size 4 _ _ _ hb5];rfl
  have q5:w5.cell? ⟨w3.heap.size,5,none⟩=some (.string (⟨#[109,91]⟩++X++⟨#[93,32,61,32,110,111,110,101,59,32]⟩)):=by rw[rD w5 w3.heap.size 5 _ _ _ hb5];rfl
  have H5:=hide h5;have HK5:=hide (((ku HK3).trans (Kept.of_below (ku HB))).trans hk5);clear h5 hk5 hb5 HC HF HB H3 HK3 HN;rcases (show n=0∨n=1∨n=2∨n=3∨n=4∨n=5 by omega) with rfl|rfl|rfl|rfl|rfl|rfl
  ·go_wp2
   go_ret
   exact ⟨(show Ending.returned (.string (zqa X M D 0))=.returned (.string ⟨(qjr x z mk d 0).toArray⟩) by rw[ku HX,ku HM,ku HD,kwp x z mk d 0 hmk hd (by omega)]),ku H5,ku HK5⟩
  ·go_wp2
   go_ret
   exact ⟨(show Ending.returned (.string (zqa X M D 1))=.returned (.string ⟨(qjr x z mk d 1).toArray⟩) by rw[ku HX,ku HM,ku HD,kwp x z mk d 1 hmk hd (by omega)]),ku H5,ku HK5⟩
  ·go_wp2
   go_ret
   exact ⟨(show Ending.returned (.string (zqa X M D 2))=.returned (.string ⟨(qjr x z mk d 2).toArray⟩) by rw[ku HX,ku HM,ku HD,kwp x z mk d 2 hmk hd (by omega)]),ku H5,ku HK5⟩
  ·go_wp2
   go_ret
   exact ⟨(show Ending.returned (.string (zqa X M D 3))=.returned (.string ⟨(qjr x z mk d 3).toArray⟩) by rw[ku HX,ku HM,ku HD,kwp x z mk d 3 hmk hd (by omega)]),ku H5,ku HK5⟩
  ·go_wp2
   go_ret
   exact ⟨(show Ending.returned (.string (zqa X M D 4))=.returned (.string ⟨(qjr x z mk d 4).toArray⟩) by rw[ku HX,ku HM,ku HD,kwp x z mk d 4 hmk hd (by omega)]),ku H5,ku HK5⟩
  ·go_wp2
   go_ret
   exact ⟨(show Ending.returned (.string (zqa X M D 5))=.returned (.string ⟨(qjr x z mk d 5).toArray⟩) by rw[ku HX,ku HM,ku HD,kwp x z mk d 5 hmk hd (by omega)]),ku H5,ku HK5⟩
end Go.Proofs.YtpmcnonmkghokaaGreatDoor
namespace Go.Proofs.YtpmcnonmkghokaaGreatDoor
open Go.RowKit
def qzm:List UInt8:=[115,101,116,32,115,32,51,59,32,118,97,114,32,110,32,58,32,91,115,93,32,116,111,32,50,59,32,118,97,114,32,109,32,58,32,91,115,93,32,115,59,32,118,97,114,32,118,32,58,32,115,59,10]
def zjf:List UInt8:=[110,101,118,101,114,32,100,40,105,32,58,32,115,41,32]
def qvb:List UInt8:=[38,32,110,91,105,93,32,61,61,32,50,59]
def kve (r0 r1 r2:RC)(g1 g2:GC):List UInt8:=
 qzm++(kzg 0 r0++(kzg 1 r1++(kzg 2 r2++(zjf++((g1.s++[32])++([38,32]++((g2.s++[32])++qvb)))))))
def zzq (rest:List Tok):List Tok:=pcT qzm++rest
def qq7 (d:Nat)(rest:List Tok):List Tok:=⟨kq4,⟨#[110]⟩,d+2⟩::⟨kwq,⟨#[91]⟩,d+3⟩::⟨kq4,⟨#[105]⟩,d+4⟩::⟨kwq,⟨#[93]⟩,d+5⟩::⟨kwq,⟨#[61,61]⟩,d+7⟩::⟨kw6,⟨#[50]⟩,d+10⟩::⟨kwq,⟨#[59]⟩,d+11⟩::rest
def zjs (g1 g2:GC)(d:Nat)(rest:List Tok):List Tok:=
 (pcT zjf).map (jh d)++gdL g1.x g1.y g1.z g1.k g1.n (d+15) (ky8 (d+15+g1.s.length+1)::gdL g2.x g2.y g2.z g2.k g2.n (d+15+g1.s.length+3) (ky8 (d+15+g1.s.length+3+g2.s.length+1)::qq7 (d+15+g1.s.length+3+g2.s.length+1) rest))
def qxo (d:Nat):PX:=opX ⟨#[61,61]⟩ (plX ⟨#[110]⟩ ⟨kq4,⟨#[105]⟩,d+4⟩ (d+2)) (zq8 2)
def vvd (g1 g2:GC)(d:Nat):PX:=opX ⟨#[38]⟩ (opX ⟨#[38]⟩ (gdX g1.x g1.y g1.z g1.k g1.n (d+15)) (gdX g2.x g2.y g2.z g2.k g2.n (d+15+g1.s.length+3))) (qxo (d+15+g1.s.length+3+g2.s.length+1))
def qqb (g1 g2:GC)(d:Nat):PRule:=⟨⟨kq4,⟨#[100]⟩,d+6⟩,[⟨⟨kq4,⟨#[105]⟩,d+8⟩,⟨kq4,⟨#[115]⟩,d+12⟩⟩],vvd g1 g2 d,.nil⟩
def GC.one (g:GC):Prop:=g.ok∧g.x=false∧g.y=false∧g.z=false
def nvN (g1 g2:GC):Nat:=gdN g1.k g1.n+(1+gdN g2.k g2.n+(1+6))
theorem jvb (f d:Nat)(rest:List Tok):rX (f+60) 2 .nil (qq7 d rest) ⟨0,0,false⟩=(qxo d,⟨6,0,false⟩):=by kernel_rfl
theorem vj6 (f d1 a1 d2 a2:Nat)(rest:List Tok)(g1 g2:GC)(h1:g1.one)(h2:g2.one) :
  rX (f+64) 0 .nil (gdL g1.x g1.y g1.z g1.k g1.n d1 (ky8 a1::gdL g2.x g2.y g2.z g2.k g2.n d2 (ky8 a2::qq7 a2 rest))) ⟨0,0,false⟩=(opX ⟨#[38]⟩ (opX ⟨#[38]⟩ (gdX g1.x g1.y g1.z g1.k g1.n d1) (gdX g2.x g2.y g2.z g2.k g2.n d2)) (qxo a2),⟨nvN g1 g2,0,false⟩):=by
 obtain ⟨o1,x1,y1,z1⟩:=h1;obtain ⟨o2,x2,y2,z2⟩:=h2;have q1:∀ F r,rX (F+60) 2 .nil (gdL g1.x g1.y g1.z g1.k g1.n d1 (ky8 a1::r)) ⟨0,0,false⟩=(gdX g1.x g1.y g1.z g1.k g1.n d1,⟨gdN g1.k g1.n,0,false⟩):=fun F r=>by rw[x1,y1,z1];exact qyr F d1 a1 r g1.k g1.n o1.1 o1.2
 have q2:∀ F r,rX (F+60) 2 .nil (gdL g2.x g2.y g2.z g2.k g2.n d2 (ky8 a2::r)) ⟨0,0,false⟩=(gdX g2.x g2.y g2.z g2.k g2.n d2,⟨gdN g2.k g2.n,0,false⟩):=fun F r=>by rw[x2,y2,z2];exact qyr F d2 a2 r g2.k g2.n o2.1 o2.2
 have e1:=kva o1 d1 (ky8 a1::gdL g2.x g2.y g2.z g2.k g2.n d2 (ky8 a2::qq7 a2 rest));have e2:=kva o2 d2 (ky8 a2::qq7 a2 rest);have q1':=q1 (f+2) (gdL g2.x g2.y g2.z g2.k g2.n d2 (ky8 a2::qq7 a2 rest));have q2':=q2 (f+1) (qq7 a2 rest);unfold nvN;generalize gdN g1.k g1.n=N1 at *;generalize gdN g2.k g2.n=N2 at *;generalize gdX g1.x g1.y g1.z g1.k g1.n d1=G1 at *;generalize gdX g2.x g2.y g2.z g2.k g2.n d2=G2 at *;generalize hM:gdL g1.x g1.y g1.z g1.k g1.n d1 (ky8 a1::gdL g2.x g2.y g2.z g2.k g2.n d2 (ky8 a2::qq7 a2 rest))=M at *;generalize hK:gdL g2.x g2.y g2.z g2.k g2.n d2 (ky8 a2::qq7 a2 rest)=K at *;clear hM hK q1 q2 o1 o2 x1 y1 z1 x2 y2 z2;have t1:tk M N1=ky8 a1:=by rw[show N1=N1+0 from rfl,kwk,e1];rfl
 have d1':M.drop (N1+1)=K:=by rw[←nD,e1];rfl
 have t2:tk M (N1+1+N2)=ky8 a2:=by rw[show N1+1+N2=(N1+1)+(N2+0) from rfl,kwk,d1',kwk,e2];rfl
 have d2':M.drop (N1+1+N2+1)=qq7 a2 rest:=by rw[show N1+1+N2+1=(N1+1)+(N2+1) by omega,←nD,d1',←nD,e2];rfl
 have t3:tk M (N1+1+N2+1+6)=⟨kwq,⟨#[59]⟩,a2+11⟩:=by rw[kwk,d2'];rfl
 have p2:rX (f+61) 2 .nil M ⟨N1+1,0,false⟩=(G2,⟨N1+1+N2,0,false⟩):=by
  rw[show (⟨N1+1,0,false⟩:RS)=shR (N1+1) ⟨0,0,false⟩ from rfl,zk1,d1',q2'];rfl
 have p3:rX (f+60) 2 .nil M ⟨N1+1+N2+1,0,false⟩=(qxo a2,⟨N1+1+N2+1+6,0,false⟩):=by
  rw[show (⟨N1+1+N2+1,0,false⟩:RS)=shR (N1+1+N2+1) ⟨0,0,false⟩ from rfl,zk1,d2',jvb];rfl
 have b1:kz7 1 (ky8 a1)=true:=by kernel_rfl
 have b2:kz7 1 (ky8 a2)=true:=by kernel_rfl
 have b3:kz7 1 ⟨kwq,⟨#[59]⟩,a2+11⟩=false:=by kernel_rfl
 have b4:kz7 0 ⟨kwq,⟨#[59]⟩,a2+11⟩=false:=by kernel_rfl
 have s1:rX (f+60) 11 (opX ⟨#[38]⟩ (opX ⟨#[38]⟩ G1 G2) (qxo a2)) M ⟨N1+1+N2+1+6,0,false⟩=(opX ⟨#[38]⟩ (opX ⟨#[38]⟩ G1 G2) (qxo a2),⟨N1+1+N2+1+6,0,false⟩):=by
  rw[rX,if_neg (by decide),if_neg (by decide),if_pos (by decide),if_neg lM,show kz7 (11-10) (tk M (N1+1+N2+1+6))=false from by rw[t3];exact b3,if_neg (by decide)]
 have s2:rX (f+61) 11 (opX ⟨#[38]⟩ G1 G2) M ⟨N1+1+N2,0,false⟩=(opX ⟨#[38]⟩ (opX ⟨#[38]⟩ G1 G2) (qxo a2),⟨N1+1+N2+1+6,0,false⟩):=by
  rw[rX,if_neg (by decide),if_neg (by decide),if_pos (by decide),if_neg lM,show kz7 (11-10) (tk M (N1+1+N2))=true from by rw[t2];exact b2,if_pos rfl,if_neg (by decide)];show rX (f+60) 11 (opX (tk M (N1+1+N2)).text (opX ⟨#[38]⟩ G1 G2) (rX (f+60) 2 .nil M ⟨N1+1+N2+1,0,false⟩).1) M (rX (f+60) 2 .nil M ⟨N1+1+N2+1,0,false⟩).2=_;rw[p3,t2];exact s1
 have s3:rX (f+62) 11 G1 M ⟨N1,0,false⟩=(opX ⟨#[38]⟩ (opX ⟨#[38]⟩ G1 G2) (qxo a2),⟨N1+1+N2+1+6,0,false⟩):=by
  rw[rX,if_neg (by decide),if_neg (by decide),if_pos (by decide),if_neg lM,show kz7 (11-10) (tk M N1)=true from by rw[t1];exact b1,if_pos rfl,if_neg (by decide)];show rX (f+61) 11 (opX (tk M N1).text G1 (rX (f+61) 2 .nil M ⟨N1+1,0,false⟩).1) M (rX (f+61) 2 .nil M ⟨N1+1,0,false⟩).2=_;rw[p2,t1];exact s2
 have s4:rX (f+63) 1 .nil M ⟨0,0,false⟩=(opX ⟨#[38]⟩ (opX ⟨#[38]⟩ G1 G2) (qxo a2),⟨N1+1+N2+1+6,0,false⟩):=by
  rw[rX,if_pos (by decide),if_neg (by decide)];show rX (f+62) 11 (rX (f+62) 2 .nil M ⟨0,0,false⟩).1 M (rX (f+62) 2 .nil M ⟨0,0,false⟩).2=_;rw[q1'];exact s3
 rw[rX,if_pos (by decide),if_neg (by decide)];show rX (f+63) 10 (rX (f+63) 1 .nil M ⟨0,0,false⟩).1 M (rX (f+63) 1 .nil M ⟨0,0,false⟩).2=_;rw[s4,show f+63=(f+62)+1 from rfl,rX,if_neg (by decide),if_neg (by decide),if_pos (by decide),if_neg lM,show kz7 (10-10) (tk M (N1+1+N2+1+6))=false from by rw[t3];exact b4,if_neg (by decide)];rw[show N1+1+N2+1+6=N1+(1+N2+(1+6)) by omega]
def nhL (d:Nat)(rest:List Tok):List Tok:=(pcT zjf).map (jh d)++rest
theorem vj9 (d:Nat)(rest:List Tok):qh (nhL d rest) [110,97,109,101] (qg (nhL d rest) [110,101,118,101,114] ⟨0,0,false⟩)=(⟨kq4,⟨#[100]⟩,d+6⟩,⟨2,0,false⟩):=by kernel_rfl
theorem vj7 (f d:Nat)(rest:List Tok):qqx (f+10) (nhL d rest) ⟨2,0,false⟩=([⟨⟨kq4,⟨#[105]⟩,d+8⟩,⟨kq4,⟨#[115]⟩,d+12⟩⟩],⟨7,0,false⟩):=by kernel_rfl
theorem jkr:(pcT zjf).length=7:=by kernel_rfl
theorem jzd {L:List Tok}{D d:Nat}{g1 g2:GC}{rest:List Tok}(h1:g1.one)(h2:g2.one)(hL:L.drop D=zjs g1 g2 d rest)(hlen:30≤L.length):kqn L (shR D ⟨0,0,false⟩)=sh2 D (qqb g1 g2 d,⟨7+nvN g1 g2+1,0,false⟩):=by
 obtain ⟨f,hf⟩:∃ f,ji L=f+64:=⟨ji L-64,by unfold ji;omega⟩;obtain ⟨p,hp⟩:∃ p,pz L=p+10:=⟨pz L-10,by unfold pz;omega⟩;obtain ⟨R1,hR1⟩:∃ R1,R1=gdL g1.x g1.y g1.z g1.k g1.n (d+15) (ky8 (d+15+g1.s.length+1)::gdL g2.x g2.y g2.z g2.k g2.n (d+15+g1.s.length+3) (ky8 (d+15+g1.s.length+3+g2.s.length+1)::qq7 (d+15+g1.s.length+3+g2.s.length+1) rest)):=⟨_,rfl⟩;have hLh:L.drop D=nhL d R1:=by rw[hL,hR1];rfl
 have k1:qjw L (shR D ⟨0,0,false⟩)=sh2 D (⟨kq4,⟨#[100]⟩,d+6⟩,⟨2,0,false⟩):=by
  unfold qjw;rw[kzn,qvy,hLh,vj9]
 have k2:qjv L (shR D ⟨0,0,false⟩)=sh2 D ([⟨⟨kq4,⟨#[105]⟩,d+8⟩,⟨kq4,⟨#[115]⟩,d+12⟩⟩],⟨7,0,false⟩):=by
  unfold qjv;rw[k1,zk6,hp,kyv,zjq,hLh,vj7]
 have hd2:L.drop (D+7)=R1:=by
  rw[←nD,hLh];unfold nhL;rw[←jkr,←sG (f:=jh d),Qj]
 have k4:kwf L (shR D ⟨0,0,false⟩)=sh2 (D+7) (vvd g1 g2 d,⟨nvN g1 g2,0,false⟩):=by
  unfold kwf;rw[k2,hf,kyv,show shR D ⟨7,0,false⟩=shR (D+7) ⟨0,0,false⟩ from rfl,zk1,hd2,hR1,vj6 f _ _ _ _ _ g1 g2 h1 h2];rfl
 have hd3:L.drop (D+7+nvN g1 g2)=⟨kwq,⟨#[59]⟩,d+15+g1.s.length+3+g2.s.length+1+11⟩::rest:=by
  unfold nvN;rw[←nD,hd2,hR1,←nD,kva h1.1];rw[show 1+gdN g2.k g2.n+(1+6)=1+(gdN g2.k g2.n+7) by omega,show ∀ (t:Tok) (l:List Tok) (n:Nat),(t::l).drop (1+n)=l.drop n from fun t l n=>by rw[Jk];rfl,←nD,kva h2.1];rfl
 have k5:qg L [59] (kwf L (shR D ⟨0,0,false⟩)).2=shR (D+7+nvN g1 g2) ⟨1,0,false⟩:=by
  rw[k4,kyv,show shR (D+7) ⟨nvN g1 g2,0,false⟩=shR (D+7+nvN g1 g2) ⟨0,0,false⟩ from rfl,kzn,hd3];congr 1
  kernel_rfl
 unfold kqn;rw[k5,k4,k2,k1];show (_,_)=(_,_);congr 1
 show (⟨D+7+nvN g1 g2+1,0,false⟩:RS)=⟨D+(7+nvN g1 g2+1),0,false⟩;rw[show D+7+nvN g1 g2+1=D+(7+nvN g1 g2+1) by omega]
def qw5:PSet:=⟨⟨kq4,⟨#[115]⟩,4⟩,⟨kw6,⟨#[51]⟩,6⟩⟩
def gvN:PVar:=⟨⟨kq4,⟨#[110]⟩,13⟩,⟨kq4,⟨#[115]⟩,18⟩,⟨qzp,⟨#[116,111]⟩,21⟩,⟨kw6,⟨#[50]⟩,24⟩⟩
def gvM:PVar:=⟨⟨kq4,⟨#[109]⟩,31⟩,⟨kq4,⟨#[115]⟩,36⟩,⟨kq4,⟨#[115]⟩,39⟩,jk⟩
def gvV:PVar:=⟨⟨kq4,⟨#[118]⟩,46⟩,jk,⟨kq4,⟨#[115]⟩,50⟩,jk⟩
theorem jx6 (rest:List Tok):kji (zzq rest) kq3=([qw5],[],⟨4,0,false⟩):=by kernel_rfl
def vq3 (a:Nat):Tok:=⟨qzp,⟨#[114,117,108,101]⟩,a⟩
theorem vars_read (f a:Nat)(rest:List Tok):qyx (f+10) (zzq (vq3 a::rest)) [] ⟨4,0,false⟩=([gvN,gvM,gvV],⟨26,0,false⟩):=by kernel_rfl
theorem jwe:(pcT qzm).length=26:=by kernel_rfl
theorem head_cons (c:Nat)(hc:c<3)(two:Bool):pcT (bg c two)=⟨qzp,⟨#[114,117,108,101]⟩,0⟩::(pcT (bg c two)).tail:=by
 rcases (show c=0∨c=1∨c=2 by omega) with rfl|rfl|rfl<;>cases two<;>kernel_rfl
theorem vjq:pcT zjf=⟨qzp,⟨#[110,101,118,101,114]⟩,0⟩::(pcT zjf).tail:=by kernel_rfl
theorem qkx (c:Nat)(hc:c<3)(r:RC)(d:Nat)(rest:List Tok):∃ l,kx7 c r d rest=vq3 d::l:=by
 unfold kx7;rw[head_cons c hc r.two];exact ⟨_,rfl⟩
theorem zxe (a:Nat)(rest:List Tok):ql (vq3 a::rest) [114,117,108,101] ⟨0,0,false⟩=true:=by kernel_rfl
theorem jq5 (g1 g2:GC)(d:Nat)(rest:List Tok):∃ l,zjs g1 g2 d rest=⟨qzp,⟨#[110,101,118,101,114]⟩,d⟩::l:=by
 unfold zjs;rw[vjq];exact ⟨_,rfl⟩
theorem jzb (a:Nat)(rest:List Tok):ql (⟨qzp,⟨#[110,101,118,101,114]⟩,a⟩::rest) [114,117,108,101] ⟨0,0,false⟩=false:=by kernel_rfl
theorem vj8 (a:Nat)(rest:List Tok):ql (⟨qzp,⟨#[110,101,118,101,114]⟩,a⟩::rest) [110,101,118,101,114] ⟨0,0,false⟩=true:=by kernel_rfl
theorem jy5 (a:Nat):ql [kq2 a] [110,101,118,101,114] ⟨0,0,false⟩=false:=by kernel_rfl
def kqf (r0:RC):Nat:=53+(kzg 0 r0).length
def kqs (r0 r1:RC):Nat:=kqf r0+(kzg 1 r1).length
def kqd (r0 r1 r2:RC):Nat:=kqs r0 r1+(kzg 2 r2).length
def zzv (r0 r1 r2:RC)(g1 g2:GC)(n:Nat):List Tok:=
 zzq (kx7 0 r0 53 (kx7 1 r1 (kqf r0) (kx7 2 r2 (kqs r0 r1) (zjs g1 g2 (kqd r0 r1 r2) [kq2 n]))))
def kk0 (r0 r1 r2:RC)(g1 g2:GC):PTree:=
 ⟨[qw5],[],[gvN,gvM,gvV],[kjk 0 r0 53,kjk 1 r1 (kqf r0),kjk 2 r2 (kqs r0 r1)],[qqb g1 g2 (kqd r0 r1 r2)]⟩
theorem zzc:∀ (l:List SC),(∀ s∈l,s.ok)→∀ (x:Nat) (q:List Tok),(kzw l x q).drop (kk2 l)=q
 | [],_,x,q=>rfl
 | s::l,hl,x,q=>by
  show (stL s.x s.z s.k s.e s.n x (kzw l (x+s.s.length) q)).drop (stN s.k s.n+kk2 l)=q;rw[←nD,zj0 (hl s (rG ..)),zzc l (fun y hy=>hl y (rU _ hy))]
theorem drop_one (t:Tok)(l:List Tok)(n:Nat):(t::l).drop (1+n)=l.drop n:=by rw[Jk];rfl
theorem qkk {c:Nat}(hc:c<3){r:RC}(hr:r.ok)(d:Nat)(rest:List Tok):(kx7 c r d rest).drop (kqk r)=rest:=by
 unfold kx7 kqk;rw[Qp,←nD,←jql c hc,←sG (f:=jh d),Qj,←nD,kva hr.1,show 2+kk2 r.b=1+(kk2 r.b+1) by omega,drop_one,←nD,zzc r.b hr.2];rfl
theorem jvp (r0 r1 r2:RC)(g1 g2:GC)(n:Nat)(h0:r0.ok)(h1:r1.ok)(h2:r2.ok)(hg1:g1.one)(hg2:g2.one)(hb:r0.b.length≤10∧r1.b.length≤10∧r2.b.length≤10):kqy (zzv r0 r1 r2 g1 g2 n)=(kk0 r0 r1 r2 g1 g2,none):=by
 obtain ⟨T3,hT3⟩:∃ T3,T3=zjs g1 g2 (kqd r0 r1 r2) [kq2 n]:=⟨_,rfl⟩;obtain ⟨T2,hT2⟩:∃ T2,T2=kx7 2 r2 (kqs r0 r1) T3:=⟨_,rfl⟩;obtain ⟨T1,hT1⟩:∃ T1,T1=kx7 1 r1 (kqf r0) T2:=⟨_,rfl⟩;obtain ⟨T0,hT0⟩:∃ T0,T0=kx7 0 r0 53 T1:=⟨_,rfl⟩;have hL:zzv r0 r1 r2 g1 g2 n=zzq T0:=by rw[hT0,hT1,hT2,hT3];rfl
 obtain ⟨l0,e0⟩:=qkx 0 (by decide) r0 53 T1;obtain ⟨l1,e1⟩:=qkx 1 (by decide) r1 (kqf r0) T2;obtain ⟨l2,e2⟩:=qkx 2 (by decide) r2 (kqs r0 r1) T3;obtain ⟨l3,e3⟩:=jq5 g1 g2 (kqd r0 r1 r2) [kq2 n];rw[←hT0] at e0;rw[←hT1] at e1;rw[←hT2] at e2;rw[←hT3] at e3;rw[hL];obtain ⟨L,hLL⟩:∃ L,L=zzq T0:=⟨_,rfl⟩;rw[←hLL];have q0:L.drop 26=T0:=by rw[hLL];unfold zzq;rw[←jwe,Qj]
 have q1:L.drop (26+kqk r0)=T1:=by rw[←nD,q0,hT0,qkk (by decide) h0]
 have q2:L.drop (26+kqk r0+kqk r1)=T2:=by rw[←nD,q1,hT1,qkk (by decide) h1]
 have q3:L.drop (26+kqk r0+kqk r1+kqk r2)=T3:=by rw[←nD,q2,hT2,qkk (by decide) h2]
 have hlen:40≤L.length:=by
  have a0:8≤kqk r0:=by unfold kqk kkt;split<;>omega
  have a1:8≤kqk r1:=by unfold kqk kkt;split<;>omega
  have:(L.drop (26+kqk r0+kqk r1)).length=T2.length:=by rw[q2]
  rw[Jc,e2,sU] at this;omega
 obtain ⟨m,hm⟩:∃ m,pz L=m+10:=⟨pz L-10,by unfold pz;omega⟩;have kH:kji L kq3=([qw5],[],⟨4,0,false⟩):=by rw[hLL];exact jx6 _
 have kV:kkz L=([gvN,gvM,gvV],⟨26,0,false⟩):=by
  unfold kkz;rw[kH,hm,hLL,e0];exact vars_read m 53 l0
 have kA:=qw7 (L:=L) (D:=26) (by decide) h0 (q0.trans hT0) (by omega);have kB:=qw7 (L:=L) (D:=26+kqk r0) (by decide) h1 (q1.trans hT1) (by omega);have kC:=qw7 (L:=L) (D:=26+kqk r0+kqk r1) (by decide) h2 (q2.trans hT2) (by omega);have kN:=jzd (L:=L) (D:=26+kqk r0+kqk r1+kqk r2) hg1 hg2 (q3.trans hT3) (by omega);have n1:ql L [114,117,108,101] (shR (26+kqk r0) ⟨0,0,false⟩)=true:=by rw[kzr,q1,e1];exact zxe _ _
 have n2:ql L [114,117,108,101] (shR (26+kqk r0+kqk r1) ⟨0,0,false⟩)=true:=by rw[kzr,q2,e2];exact zxe _ _
 have n3:ql L [114,117,108,101] (shR (26+kqk r0+kqk r1+kqk r2) ⟨0,0,false⟩)=false:=by rw[kzr,q3,e3];exact jzb _ _
 have n4:ql L [110,101,118,101,114] (shR (26+kqk r0+kqk r1+kqk r2) ⟨0,0,false⟩)=true:=by rw[kzr,q3,e3];exact vj8 _ _
 have q4:L.drop (26+kqk r0+kqk r1+kqk r2+(7+nvN g1 g2+1))=[kq2 n]:=by
  rw[←nD,q3,hT3];unfold zjs nvN;rw[show 7+(gdN g1.k g1.n+(1+gdN g2.k g2.n+(1+6)))+1=7+(gdN g1.k g1.n+(1+(gdN g2.k g2.n+8))) by omega,←nD,←jkr,←sG (f:=jh (kqd r0 r1 r2)),Qj,←nD,kva hg1.1,drop_one,←nD,kva hg2.1];rfl
 have n5:ql L [110,101,118,101,114] (shR (26+kqk r0+kqk r1+kqk r2+(7+nvN g1 g2+1)) ⟨0,0,false⟩)=false:=by rw[kzr,q4];exact jy5 _
 have kR:kv6 L=([kjk 0 r0 53,kjk 1 r1 (kqf r0),kjk 2 r2 (kqs r0 r1)],shR (26+kqk r0+kqk r1+kqk r2) ⟨0,0,false⟩):=by
  unfold kv6;rw[kV,hm];show kw5 (m+9+1) L [] (shR 26 ⟨0,0,false⟩)=_;rw[kw5,kA];show (if (false:Bool)=true then _ else if ql L [114,117,108,101] (shR (26+kqk r0) ⟨0,0,false⟩)=true then kw5 (m+8+1) L [kjk 0 r0 53] (shR (26+kqk r0) ⟨0,0,false⟩) else _)=_;rw[if_neg lM,if_pos n1,kw5,kB];show (if (false:Bool)=true then _ else if ql L [114,117,108,101] (shR (26+kqk r0+kqk r1) ⟨0,0,false⟩)=true then kw5 (m+7+1) L [kjk 0 r0 53,kjk 1 r1 (kqf r0)] (shR (26+kqk r0+kqk r1) ⟨0,0,false⟩) else _)=_;rw[if_neg lM,if_pos n2,kw5,kC];show (if (false:Bool)=true then _ else if ql L [114,117,108,101] (shR (26+kqk r0+kqk r1+kqk r2) ⟨0,0,false⟩)=true then _ else ([kjk 0 r0 53,kjk 1 r1 (kqf r0),kjk 2 r2 (kqs r0 r1)],shR (26+kqk r0+kqk r1+kqk r2) ⟨0,0,false⟩))=_;rw[if_neg lM,n3,if_neg lM]
 have kE:kx3 L=([qqb g1 g2 (kqd r0 r1 r2)],shR (26+kqk r0+kqk r1+kqk r2+(7+nvN g1 g2+1)) ⟨0,0,false⟩):=by
  unfold kx3;rw[kR,hm];show kvc (m+9+1) L [] (shR (26+kqk r0+kqk r1+kqk r2) ⟨0,0,false⟩)=_;rw[kvc,n4,if_pos rfl,kN];show kvc (m+8+1) L [qqb g1 g2 (kqd r0 r1 r2)] (shR (26+kqk r0+kqk r1+kqk r2+(7+nvN g1 g2+1)) ⟨0,0,false⟩)=_;rw[kvc,n5,if_neg lM]
 have kK:tk L (26+kqk r0+kqk r1+kqk r2+(7+nvN g1 g2+1))=kq2 n:=by
  have:=kwk L (26+kqk r0+kqk r1+kqk r2+(7+nvN g1 g2+1)) 0;rw[q4] at this;exact this
 unfold kqy;rw[kE,kR,kV,kH];show (kk0 r0 r1 r2 g1 g2,if (false||!((tk L (26+kqk r0+kqk r1+kqk r2+(7+nvN g1 g2+1))).kind.toList==[101,110,100]))=true then _ else none)=_;rw[kK,show ((kq2 n).kind.toList==[101,110,100])=true by kernel_rfl];rfl
theorem zx6 (l:List Tok):l.map (jh 0)=l:=by
 have:(jh 0)=id:=funext fun t=>by cases t;simp[jh]
 rw[this,JM]
theorem qxy:∀ (l:List SC) (d:Nat) (r:List Tok),kzw l d r=kzw l d []++r
 | [],_,_=>rfl
 | s::l,d,r=>by
  show stL s.x s.z s.k s.e s.n d (kzw l (d+s.s.length) r)=stL s.x s.z s.k s.e s.n d (kzw l (d+s.s.length) [])++r;unfold stL;rw[qxy l _ r,tX]
theorem qw9 (c:Nat)(r:RC)(d:Nat)(rest:List Tok):kx7 c r d rest=kx7 c r d []++rest:=by
 unfold kx7 gdL;rw[qxy r.b _ (_::rest),qxy r.b _ [_]];simp
theorem zyy:(qqu qzm&&qqu zjf&&qqu [123,32]&&qqu [125,10]&&qqu [38,32])=true:=by decide +kernel
theorem vjs:∀ (c:Fin 3) (two:Bool),qqu (bg c two)=true:=by decide +kernel
theorem GC.lex {g:GC}(h:g.ok):qqu (g.s++[32])=true:=jwi g.x g.y g.z ⟨g.k,h.1⟩ ⟨g.n,h.2⟩
theorem SC.lex {s:SC}(h:s.ok):qqu s.s=true:=vq6 s.x s.z ⟨s.k,h.1⟩ ⟨s.e,h.2.1⟩ ⟨s.n,h.2.2⟩
theorem jy0:∀ (x y z:Bool) (k:Fin 3) (n:Fin 8),(kkr x y z k n).length≤23:=by decide +kernel
theorem vq7:∀ (x z:Bool) (k d:Fin 3) (n:Fin 6),(qjr x z k d n).length≤52:=by decide +kernel
theorem GC.len {g:GC}(h:g.ok):g.s.length≤23:=jy0 g.x g.y g.z ⟨g.k,h.1⟩ ⟨g.n,h.2⟩
theorem SC.len {s:SC}(h:s.ok):s.s.length≤52:=vq7 s.x s.z ⟨s.k,h.1⟩ ⟨s.e,h.2.1⟩ ⟨s.n,h.2.2⟩
theorem jvl (c:Nat)(two:Bool):(bg c two).length≤24:=by unfold bg;cases two<;>simp
theorem qwi:∀ (l:List SC),(∀ s∈l,s.ok)→(kj2 l).length≤52 * l.length
 | [],_=>wW _
 | s::l,hl=>by
  have ih:=qwi l (fun y hy=>hl y (rU _ hy));have:=SC.len (hl s (rG ..));rw[kj2,wU,sU];omega
theorem qx4 (c:Nat){r:RC}(hr:r.ok)(hb:r.b.length≤3):(kzg c r).length≤208:=by
 have h1:=jvl c r.two;have h2:=GC.len hr.1;have h3:=qwi r.b hr.2;unfold kzg;simp only[wU,sU,fP];omega
theorem zv1 {r0 r1 r2:RC}{g1 g2:GC}(h0:r0.ok)(h1:r1.ok)(h2:r2.ok)(hg1:g1.ok)(hg2:g2.ok)(hb:r0.b.length≤3∧r1.b.length≤3∧r2.b.length≤3):(kve r0 r1 r2 g1 g2).length≤800:=by
 have a0:=qx4 0 h0 hb.1;have a1:=qx4 1 h1 hb.2.1;have a2:=qx4 2 h2 hb.2.2;have b1:=GC.len hg1;have b2:=GC.len hg2;unfold kve;simp only[wU,sU,fP];have c1:qzm.length=53:=rfl;have c2:zjf.length=15:=rfl;have c3:qvb.length=12:=rfl;omega
theorem jj9 {T:List UInt8}:∀ (l:List SC),(∀ s∈l,s.ok)→∀ {B:List UInt8} {d:Nat} {acc:List Tok},Lx T d acc→T.drop d=kj2 l++B→Lx T (d+(kj2 l).length) (acc++kzw l d [])∧T.drop (d+(kj2 l).length)=B
 | [],_,B,d,acc,h,e=>by
  show Lx T (d+0) (acc++[])∧T.drop (d+0)=B;rw[ni];exact ⟨h,e⟩
 | s::l,hl,B,d,acc,h,e=>by
  have hs:=hl s (rG ..);rw[kj2,tX] at e;have h1:=h.piece e (SC.lex hs);have e1:=Lx.rest e;obtain ⟨h2,e2⟩:=jj9 l (fun y hy=>hl y (rU _ hy)) h1 e1;rw[kj2,wU,←Qp];refine ⟨?_,e2⟩;rw[tX] at h2;exact h2
theorem zj5 {T:List UInt8}{c:Nat}(hc:c<3){r:RC}(hr:r.ok){B:List UInt8}{d:Nat}{acc:List Tok}(h:Lx T d acc)(e:T.drop d=kzg c r++B):Lx T (d+(kzg c r).length) (acc++kx7 c r d [])∧T.drop (d+(kzg c r).length)=B:=by
 have hx:=zyy;simp only[wY] at hx;obtain ⟨⟨⟨⟨_,_⟩,x3⟩,x4⟩,_⟩:=hx;unfold kzg at e;simp only[tX] at e;have h1:=h.piece e (vjs ⟨c,hc⟩ r.two);have e1:=Lx.rest e;rw[show r.g.s++([32]++([123,32]++(kj2 r.b++([125,10]++B))))=(r.g.s++[32])++([123,32]++(kj2 r.b++([125,10]++B))) by simp] at e1;have h2:=h1.piece e1 (GC.lex hr.1);have e2:=Lx.rest e1;have h3:=h2.piece e2 x3;have e3:=Lx.rest e2;obtain ⟨h4,e4⟩:=jj9 r.b hr.2 h3 e3;have h5:=h4.piece e4 x4;have e5:=Lx.rest e4;have hl:d+(bg c r.two).length+(r.g.s++([32]:List UInt8)).length+([123,32]:List UInt8).length+(kj2 r.b).length+([125,10]:List UInt8).length=d+(kzg c r).length:=by
  unfold kzg;simp only[wU,sU,fP];omega
 rw[hl] at h5 e5;refine ⟨?_,e5⟩;have p1:(pcT [123,32]).map (jh (d+(bg c r.two).length+(r.g.s++[32]).length))=[kw3 (d+(bg c r.two).length+r.g.s.length+1)]:=by
  rw[show d+(bg c r.two).length+(r.g.s++([32]:List UInt8)).length=d+(bg c r.two).length+r.g.s.length+1 by simp[Qp]];generalize d+(bg c r.two).length+r.g.s.length+1=a;kernel_rfl
 have p2:(pcT [125,10]).map (jh (d+(bg c r.two).length+(r.g.s++([32]:List UInt8)).length+([123,32]:List UInt8).length+(kj2 r.b).length))=[kkx (d+(bg c r.two).length+r.g.s.length+3+(kj2 r.b).length)]:=by
  rw[show d+(bg c r.two).length+(r.g.s++([32]:List UInt8)).length+([123,32]:List UInt8).length+(kj2 r.b).length=d+(bg c r.two).length+r.g.s.length+3+(kj2 r.b).length by simp[Qp]];generalize d+(bg c r.two).length+r.g.s.length+3+(kj2 r.b).length=a;kernel_rfl
 rw[p1,p2,show d+(bg c r.two).length+(r.g.s++([32]:List UInt8)).length+([123,32]:List UInt8).length=d+(bg c r.two).length+r.g.s.length+3 by simp;omega] at h5;have p3:kx7 c r d []=(pcT (bg c r.two)).map (jh d)++((pcT (r.g.s++[32])).map (jh (d+(bg c r.two).length))++([kw3 (d+(bg c r.two).length+r.g.s.length+1)]++(kzw r.b (d+(bg c r.two).length+r.g.s.length+3) []++[kkx (d+(bg c r.two).length+r.g.s.length+3+(kj2 r.b).length)]))):=by
  unfold kx7 gdL;rw[qxy r.b _ [_]];rfl
 rw[p3];simp only[tX] at h5 ⊢;exact h5
theorem vjh:kqj (qvb.length+1) ⟨qvb.toArray⟩ 0 []=(pcT qvb++[kq2 qvb.length],none):=by kernel_rfl
theorem jwt (d:Nat):(pcT qvb).map (jh d)=ky8 d::qq7 d []:=by kernel_rfl
theorem jy2 (r0 r1 r2:RC)(g1 g2:GC)(n:Nat):zzv r0 r1 r2 g1 g2 n=pcT qzm++(kx7 0 r0 53 []++(kx7 1 r1 (kqf r0) []++(kx7 2 r2 (kqs r0 r1) []++zjs g1 g2 (kqd r0 r1 r2) [kq2 n]))):=by
 unfold zzv zzq;rw[qw9 0 r0 53 (kx7 1 r1 (kqf r0) (kx7 2 r2 (kqs r0 r1) (zjs g1 g2 (kqd r0 r1 r2) [kq2 n]))),qw9 1 r1 (kqf r0) (kx7 2 r2 (kqs r0 r1) (zjs g1 g2 (kqd r0 r1 r2) [kq2 n])),qw9 2 r2 (kqs r0 r1) (zjs g1 g2 (kqd r0 r1 r2) [kq2 n])]
theorem vja {r0 r1 r2:RC}{g1 g2:GC}(h0:r0.ok)(h1:r1.ok)(h2:r2.ok)(hg1:g1.ok)(hg2:g2.ok)(hb:r0.b.length≤3∧r1.b.length≤3∧r2.b.length≤3):gq ⟨(kve r0 r1 r2 g1 g2).toArray⟩=(zzv r0 r1 r2 g1 g2 (kve r0 r1 r2 g1 g2).length,none):=by
 have hx:=zyy;simp only[wY] at hx;obtain ⟨⟨⟨⟨x1,x2⟩,_⟩,_⟩,x5⟩:=hx;have hlen:=zv1 h0 h1 h2 hg1 hg2 hb;have hT:kve r0 r1 r2 g1 g2=qzm++(kzg 0 r0++(kzg 1 r1++(kzg 2 r2++(zjf++((g1.s++[32])++([38,32]++((g2.s++[32])++qvb))))))):=rfl;generalize kve r0 r1 r2 g1 g2=T at *;have k0:=Lx.start hlen;have e0:T.drop 0=_:=hT;have k1:=k0.piece e0 x1;have e1:=Lx.rest e0;have c1:0+qzm.length=53:=rfl;rw[c1,zx6,lK] at k1;rw[c1] at e1;obtain ⟨k2,e2⟩:=zj5 (by decide) h0 k1 e1;obtain ⟨k3,e3⟩:=zj5 (by decide) h1 k2 e2;obtain ⟨k4,e4⟩:=zj5 (by decide) h2 k3 e3;have k5:=k4.piece e4 x2;have e5:=Lx.rest e4;have k6:=k5.piece e5 (GC.lex hg1);have e6:=Lx.rest e5;have k7:=k6.piece e6 x5;have e7:=Lx.rest e6;have k8:=k7.piece e7 (GC.lex hg2);have e8:=Lx.rest e7;have k9:=k8.last e8 vjh;rw[k9];congr 1
 rw[jwt];have d1:53+(kzg 0 r0).length=kqf r0:=rfl;have d2:kqf r0+(kzg 1 r1).length=kqs r0 r1:=rfl;have d3:kqs r0 r1+(kzg 2 r2).length=kqd r0 r1 r2:=rfl;rw[d1,d2,d3,show zjf.length=15 from rfl,jy2];generalize kqd r0 r1 r2=d;have p1:∀ a,(pcT [38,32]).map (jh a)=[ky8 a]:=fun a=>by kernel_rfl
 rw[p1,show d+15+(g1.s++([32]:List UInt8)).length=d+15+g1.s.length+1 by simp;omega,show d+15+g1.s.length+1+([38,32]:List UInt8).length=d+15+g1.s.length+3 by simp,show d+15+g1.s.length+3+(g2.s++([32]:List UInt8)).length=d+15+g1.s.length+3+g2.s.length+1 by simp;omega];unfold zjs gdL qq7;simp only[tX,fD,lK,d1,d2];rfl
end Go.Proofs.YtpmcnonmkghokaaGreatDoor
