import Derived.Test.YtpmcnonmkghokaaGreatDoorT26
import Derived.Test.YtpmcnonmkghokaaGreatDoorT23
import Derived.Test.YtpmcnonmkghokaaGreatDoorT25
import Derived.Laws.BytesArg
import Derived.Lib.ConvBytes
set_option maxRecDepth 100000
set_option maxHeartbeats 8000000
set_option linter.unusedVariables false
set_option linter.unusedSimpArgs false
namespace Go.Proofs.YtpmcnonmkghokaaGreatDoor
open Go.RowKit
def kx5 (p0 p1 p2 p3:Nat):Tab:=[(⟨#[115]⟩,⟨1,4,bE,kz0⟩),(⟨#[110]⟩,⟨4,13,bE,cu gvN⟩),(⟨#[109]⟩,⟨4,31,bE,cu gvM⟩),(⟨#[118]⟩,⟨4,46,bE,cu gvV⟩),(⟨#[97]⟩,⟨5,p0,bE,kz0⟩),(⟨#[98]⟩,⟨5,p1,bE,kz0⟩),(⟨#[99]⟩,⟨5,p2,bE,kz0⟩),(⟨#[100]⟩,⟨6,p3,bE,kz0⟩)]
def qqg (two:Bool)(e1 e2 e3 e4:Nat):List PP:=if two then [⟨⟨kq4,⟨#[105]⟩,e1⟩,⟨kq4,⟨#[115]⟩,e2⟩⟩,⟨⟨kq4,⟨#[106]⟩,e3⟩,⟨kq4,⟨#[115]⟩,e4⟩⟩] else [⟨⟨kq4,⟨#[105]⟩,e1⟩,⟨kq4,⟨#[115]⟩,e2⟩⟩]
def kyr (tab:Tab)(l:List PP)(x:PX):Bool:=(jr x).all (fun t=>!zvz tab l t)&&((kqg tab l x).fam==1)
def qv6 (tab:Tab)(l:List PP)(b:PB):Bool:=(zh b).all (fun t=>!zvz tab l t)&&kzf tab l b
theorem qkt (p0 p1 p2 p3 e1 e2 e3 e4 d:Nat)(two x y z:Bool)(k n:Nat)(hk:k<3)(hn:n<8)(ht:two=false→x=false∧y=false∧z=false):kyr (kx5 p0 p1 p2 p3) (qqg two e1 e2 e3 e4) (gdX x y z k n d)=true:=by
 cases two
 ·obtain ⟨rfl,rfl,rfl⟩:=ht rfl;rcases (show n=0∨n=1∨n=2∨n=3∨n=4∨n=5∨n=6∨n=7 by omega) with rfl|rfl|rfl|rfl|rfl|rfl|rfl|rfl<;>rcases (show k=0∨k=1∨k=2 by omega) with rfl|rfl|rfl<;>kernel_rfl
 ·clear ht;rcases (show n=0∨n=1∨n=2∨n=3∨n=4∨n=5∨n=6∨n=7 by omega) with rfl|rfl|rfl|rfl|rfl|rfl|rfl|rfl<;>rcases (show k=0∨k=1∨k=2 by omega) with rfl|rfl|rfl<;>cases x<;>cases y<;>cases z<;>kernel_rfl
theorem jvn (p0 p1 p2 p3 e1 e2 e3 e4 d:Nat)(two x z:Bool)(k e n:Nat)(hk:k<3)(he:e<3)(hn:n<6)(ht:two=false→x=false∧z=false):qv6 (kx5 p0 p1 p2 p3) (qqg two e1 e2 e3 e4) (stX x z k e n d)=true:=by
 cases two
 ·obtain ⟨rfl,rfl⟩:=ht rfl;rcases (show n=0∨n=1∨n=2∨n=3∨n=4∨n=5 by omega) with rfl|rfl|rfl|rfl|rfl|rfl<;>rcases (show k=0∨k=1∨k=2 by omega) with rfl|rfl|rfl<;>rcases (show e=0∨e=1∨e=2 by omega) with rfl|rfl|rfl<;>kernel_rfl
 ·clear ht;rcases (show n=0∨n=1∨n=2∨n=3∨n=4∨n=5 by omega) with rfl|rfl|rfl|rfl|rfl|rfl<;>rcases (show k=0∨k=1∨k=2 by omega) with rfl|rfl|rfl<;>rcases (show e=0∨e=1∨e=2 by omega) with rfl|rfl|rfl<;>cases x<;>cases z<;>kernel_rfl
theorem jwr (p0 p1 p2 p3 e1 e2 e3 e4 d:Nat):kyr (kx5 p0 p1 p2 p3) (qqg false e1 e2 e3 e4) (qxo d)=true:=by kernel_rfl
theorem qzh (r0 r1 r2:RC)(g1 g2:GC):zx (jq (kk0 r0 r1 r2 g1 g2))=kx5 58 (kqf r0+5) (kqs r0 r1+5) (kqd r0 r1 r2+6):=by
 unfold kk0 kjk qqb;generalize kqf r0=a1;generalize kqs r0 r1=a2;generalize kqd r0 r1 r2=a3;kernel_rfl
theorem qzv:∀ (a b:PB),zh (kz8 a b)=zh a++zh b
 | .nil,b=>rfl
 | .node i j s .nil n,b=>by
  simp only[kz8,zh,qzv n b,tX]
 | .node i j s (.node _ _ _ t e) n,b=>by
  simp only[kz8,zh,qzv n b,tX]
theorem qy1 (tab:Tab)(l:List PP):∀ (a b:PB),kzf tab l (kz8 a b)=(kzf tab l a&&kzf tab l b)
 | .nil,b=>by rw[kz8,kzf,Qz]
 | .node i j s .nil n,b=>by
  simp only[kz8,kzf,qy1 tab l n b,Bool.and_assoc]
 | .node i j s (.node _ _ _ t e) n,b=>by
  simp only[kz8,kzf,qy1 tab l n b,Bool.and_assoc]
def RC.fit (r:RC):Prop:=r.ok∧(r.two=false→r.g.x=false∧r.g.y=false∧r.g.z=false)∧∀ s∈r.b,r.two=false→s.x=false∧s.z=false
theorem zv7 (p0 p1 p2 p3 e1 e2 e3 e4:Nat)(two:Bool):∀ (l:List SC) (d:Nat),(∀ s∈l,s.ok)→(∀ s∈l,two=false→s.x=false∧s.z=false)→qv6 (kx5 p0 p1 p2 p3) (qqg two e1 e2 e3 e4) (qk2 l d)=true
 | [],_,_,_=>by
  unfold qk2 qv6;rfl
 | s::l,d,h1,h2=>by
  have hs:=h1 s (rG ..);have a1:=jvn p0 p1 p2 p3 e1 e2 e3 e4 d two s.x s.z s.k s.e s.n hs.1 hs.2.1 hs.2.2 (h2 s (rG ..));have a2:=zv7 p0 p1 p2 p3 e1 e2 e3 e4 two l (d+s.s.length) (fun y hy=>h1 y (rU _ hy)) (fun y hy=>h2 y (rU _ hy));unfold qv6 at *;rw[wY] at a1 a2 ⊢;rw[qk2,qzv,qy1,JZ,a1.1,a1.2,a2.1,a2.2];exact ⟨rfl,rfl⟩
theorem qjc {tab:Tab}{l:List PP}:∀ {ns:List Tok},ns.all (fun t=>!zvz tab l t)=true→∀ z,ns.foldl (kxs tab l) z=z
 | [],_,z=>rfl
 | n::ns,h,z=>by
  rw[Jf,wY,nP] at h;rw[Qe,show kxs tab l z n=z by unfold kxs kqu;rw[h.1];rfl];exact qjc h.2 z
theorem jqe (p0 p1 p2 p3 e1 e2 e3 e4:Nat)(two:Bool):gy (zzy (kx5 p0 p1 p2 p3) (qqg two e1 e2 e3 e4)) (qqg two e1 e2 e3 e4) 0 (-1)=-1:=by cases two<;>kernel_rfl
theorem zqx (two:Bool)(d:Nat):qyd two d=qqg two (d+7) (d+11) (d+14) (d+18):=rfl
theorem vxn (p0 p1 p2 p3:Nat):kqh (kx5 p0 p1 p2 p3) ⟨kq4,⟨#[97]⟩,p0⟩=false:=by
 unfold kqh;rw[show qo (kx5 p0 p1 p2 p3) (⟨kq4,⟨#[97]⟩,p0⟩:Tok).text.toList=⟨5,p0,bE,kz0⟩ by kernel_rfl];simp
theorem vxr (p0 p1 p2 p3:Nat):kqh (kx5 p0 p1 p2 p3) ⟨kq4,⟨#[98]⟩,p1⟩=false:=by
 unfold kqh;rw[show qo (kx5 p0 p1 p2 p3) (⟨kq4,⟨#[98]⟩,p1⟩:Tok).text.toList=⟨5,p1,bE,kz0⟩ by kernel_rfl];simp
theorem vxt (p0 p1 p2 p3:Nat):kqh (kx5 p0 p1 p2 p3) ⟨kq4,⟨#[99]⟩,p2⟩=false:=by
 unfold kqh;rw[show qo (kx5 p0 p1 p2 p3) (⟨kq4,⟨#[99]⟩,p2⟩:Tok).text.toList=⟨5,p2,bE,kz0⟩ by kernel_rfl];simp
theorem vxh (p0 p1 p2 p3:Nat):kqh (kx5 p0 p1 p2 p3) ⟨kq4,⟨#[100]⟩,p3⟩=false:=by
 unfold kqh;rw[show qo (kx5 p0 p1 p2 p3) (⟨kq4,⟨#[100]⟩,p3⟩:Tok).text.toList=⟨6,p3,bE,kz0⟩ by kernel_rfl];simp
theorem qw8 {p0 p1 p2 p3 c d:Nat}{r:RC}(h:r.fit)(hg:kqh (kx5 p0 p1 p2 p3) (kjk c r d).name=false):wR (kx5 p0 p1 p2 p3) (-1) (kjk c r d)=-1∧qxs (kx5 p0 p1 p2 p3) (kjk c r d)=true:=by
 obtain ⟨ho,h1,h2⟩:=h;have a1:=qkt p0 p1 p2 p3 (d+7) (d+11) (d+14) (d+18) (d+(bg c r.two).length) r.two r.g.x r.g.y r.g.z r.g.k r.g.n ho.1.1 ho.1.2 h1;have a2:=zv7 p0 p1 p2 p3 (d+7) (d+11) (d+14) (d+18) r.two r.b (d+(bg c r.two).length+r.g.s.length+3) ho.2 h2;have a3:=jqe p0 p1 p2 p3 (d+7) (d+11) (d+14) (d+18) r.two;rw[←zqx] at a1 a2 a3;unfold kyr at a1;unfold qv6 at a2;rw[wY] at a1 a2;constructor
 ·unfold wR;rw[show kqu (kqh (kx5 p0 p1 p2 p3) (kjk c r d).name) (-1) (kjk c r d).name=-1 by unfold kqu;rw[hg];rfl];show (zh (qk2 r.b (d+(bg c r.two).length+r.g.s.length+3))).foldl (kxs (kx5 p0 p1 p2 p3) (qyd r.two d)) ((jr (gdX r.g.x r.g.y r.g.z r.g.k r.g.n (d+(bg c r.two).length))).foldl (kxs (kx5 p0 p1 p2 p3) (qyd r.two d)) (gy (zzy (kx5 p0 p1 p2 p3) (qyd r.two d)) (qyd r.two d) 0 (-1)))=-1;rw[a3,qjc a1.1,qjc a2.1]
 ·unfold qxs;rw[wY];exact ⟨a1.2,a2.2⟩
theorem jyg (a c:PX):jr (opX ⟨#[38]⟩ a c)=jr a++jr c:=by
 show (qqd _++jr a)++jr c=_;rw[show qqd (⟨⟨#[38]⟩,jk,jk,0⟩:ELab)=[] by kernel_rfl];rfl
theorem vzu {tab:Tab}{l:List PP}{a c:PX}(h1:((kqg tab l a).fam==1)=true)(h2:((kqg tab l c).fam==1)=true):((kqg tab l (opX ⟨#[38]⟩ a c)).fam==1)=true:=by
 unfold opX;rw[kqg];have e:opN (⟨⟨#[38]⟩,jk,jk,0⟩:ELab).op.toList=6:=by kernel_rfl
 rw[e];show ((qzr 6 (kqg tab l a) (kqg tab l c)).fam==1)=true;unfold qzr;rw[h1,h2];rfl
theorem jjy {tab:Tab}{l:List PP}{a c:PX}(h1:kyr tab l a=true)(h2:kyr tab l c=true):kyr tab l (opX ⟨#[38]⟩ a c)=true:=by
 unfold kyr at *;rw[wY] at h1 h2 ⊢;rw[jyg,JZ,h1.1,h2.1];exact ⟨rfl,vzu h1.2 h2.2⟩
theorem jzc {p0 p1 p2 d:Nat}{g1 g2:GC}(h1:g1.one)(h2:g2.one):wN (kx5 p0 p1 p2 (d+6)) (-1) (qqb g1 g2 d)=-1∧jq6 (kx5 p0 p1 p2 (d+6)) (qqb g1 g2 d)=true:=by
 have a1:=qkt p0 p1 p2 (d+6) (d+8) (d+12) 0 0 (d+15) false g1.x g1.y g1.z g1.k g1.n h1.1.1 h1.1.2 (fun _=>h1.2);have a2:=qkt p0 p1 p2 (d+6) (d+8) (d+12) 0 0 (d+15+g1.s.length+3) false g2.x g2.y g2.z g2.k g2.n h2.1.1 h2.1.2 (fun _=>h2.2);have a3:=jwr p0 p1 p2 (d+6) (d+8) (d+12) 0 0 (d+15+g1.s.length+3+g2.s.length+1);have a4:=jjy (jjy a1 a2) a3;have a5:=jqe p0 p1 p2 (d+6) (d+8) (d+12) 0 0 false;unfold kyr at a4;rw[wY] at a4;constructor
 ·unfold wN;rw[show kqu (kqh (kx5 p0 p1 p2 (d+6)) (qqb g1 g2 d).name) (-1) (qqb g1 g2 d).name=-1 by unfold kqu;rw[show kqh (kx5 p0 p1 p2 (d+6)) (qqb g1 g2 d).name=false from vxh p0 p1 p2 (d+6)];rfl];show (jr (vvd g1 g2 d)).foldl (kxs (kx5 p0 p1 p2 (d+6)) (qqg false (d+8) (d+12) 0 0)) (gy (zzy (kx5 p0 p1 p2 (d+6)) (qqg false (d+8) (d+12) 0 0)) (qqg false (d+8) (d+12) 0 0) 0 (-1))=-1;rw[a5];exact qjc a4.1 _
 ·exact a4.2
theorem jwp (r0 r1 r2:RC)(g1 g2:GC):kvq (jq (kk0 r0 r1 r2 g1 g2))=-1:=by
 obtain ⟨t0,x0,b0⟩:=r0;obtain ⟨t1,x1,b1⟩:=r1;obtain ⟨t2,x2,b2⟩:=r2;unfold kk0 kjk qqb;generalize kqf _=a1;generalize kqs _ _=a2;generalize kqd _ _ _=a3;cases t0<;>cases t1<;>cases t2<;>kernel_rfl
theorem jx7 (p0 p1 p2 p3:Nat):([gvN,gvM,gvV].map cu).foldl (wV (kx5 p0 p1 p2 p3)) ([qw5].foldl (wS (kx5 p0 p1 p2 p3)) (-1))=-1:=by kernel_rfl
theorem jxj {r0 r1 r2:RC}{g1 g2:GC}(h0:r0.fit)(h1:r1.fit)(h2:r2.fit)(hg1:g1.one)(hg2:g2.one)(hb:r0.b.length≤3∧r1.b.length≤3∧r2.b.length≤3):ky4 ⟨(kve r0 r1 r2 g1 g2).toArray⟩=(0,0)∧(kqy (gq ⟨(kve r0 r1 r2 g1 g2).toArray⟩).1).1=kk0 r0 r1 r2 g1 g2:=by
 have e1:=vja h0.1 h1.1 h2.1 hg1.1 hg2.1 hb;have e2:=jvp r0 r1 r2 g1 g2 (kve r0 r1 r2 g1 g2).length h0.1 h1.1 h2.1 hg1 hg2 ⟨by omega,by omega,by omega⟩;have e3:=zv1 h0.1 h1.1 h2.1 hg1.1 hg2.1 hb;refine ⟨?_,by rw[e1,e2]⟩;unfold ky4;rw[if_neg (by show ¬800<(kve r0 r1 r2 g1 g2).toArray.size;simp;omega),e1];show (match (kqy (zzv r0 r1 r2 g1 g2 (kve r0 r1 r2 g1 g2).length)).2 with|some k=>((3,(k:Int)):Int × Int)|none=>qxn (jq (kqy (zzv r0 r1 r2 g1 g2 (kve r0 r1 r2 g1 g2).length)).1))=(0,0);rw[e2];show qxn (jq (kk0 r0 r1 r2 g1 g2))=(0,0);unfold qxn;rw[jwp,if_neg (by decide),qzh];obtain ⟨w0,y0⟩:=qw8 (p0:=58) (p1:=kqf r0+5) (p2:=kqs r0 r1+5) (p3:=kqd r0 r1 r2+6) (c:=0) (d:=53) h0 (vxn _ _ _ _);obtain ⟨w1,y1⟩:=qw8 (p0:=58) (p1:=kqf r0+5) (p2:=kqs r0 r1+5) (p3:=kqd r0 r1 r2+6) (c:=1) (d:=kqf r0) h1 (vxr _ _ _ _);obtain ⟨w2,y2⟩:=qw8 (p0:=58) (p1:=kqf r0+5) (p2:=kqs r0 r1+5) (p3:=kqd r0 r1 r2+6) (c:=2) (d:=kqs r0 r1) h2 (vxt _ _ _ _);obtain ⟨w3,y3⟩:=jzc (p0:=58) (p1:=kqf r0+5) (p2:=kqs r0 r1+5) (d:=kqd r0 r1 r2) hg1 hg2;have hw:kkg (kx5 58 (kqf r0+5) (kqs r0 r1+5) (kqd r0 r1 r2+6)) (jq (kk0 r0 r1 r2 g1 g2))=-1:=by
  unfold kkg wt4 wt3 wt2 wt1;show wN _ (wR _ (wR _ (wR _ (([gvN,gvM,gvV].map cu).foldl (wV _) ([qw5].foldl (wS _) (-1))) (kjk 0 r0 53)) (kjk 1 r1 (kqf r0))) (kjk 2 r2 (kqs r0 r1))) (qqb g1 g2 (kqd r0 r1 r2))=-1;rw[jx7,w0,w1,w2,w3]
 have hy:kwr (kx5 58 (kqf r0+5) (kqs r0 r1+5) (kqd r0 r1 r2+6)) (jq (kk0 r0 r1 r2 g1 g2))=true:=by
  unfold kwr;show (([kjk 0 r0 53,kjk 1 r1 (kqf r0),kjk 2 r2 (kqs r0 r1)]:List PRule).all (qxs _)&&([qqb g1 g2 (kqd r0 r1 r2)]:List PRule).all (jq6 _))=true;simp only[Jf,List.all_nil,y0,y1,y2,y3,Ja]
 rw[hw,if_neg (by decide),hy,if_pos rfl]
end Go.Proofs.YtpmcnonmkghokaaGreatDoor
namespace Go.Proofs.YtpmcnonmkghokaaGreatDoor
open Go.RowKit
attribute [local go_sem ↓] Go.wp_at_zero Go.wp_at_succ
def ssL (cs:List Int)(two:Bool):Nat→Nat→List SC
 | 0,_=>[]
 | m+1,k=>zyz cs two k::ssL cs two m (scA cs two k)
def ssA (cs:List Int)(two:Bool):Nat→Nat→Nat
 | 0,k=>k
 | m+1,k=>ssA cs two m (scA cs two k)
def rcT (cs:List Int)(k:Nat):Bool:=nxV cs 2 k==1
def qxm (cs:List Int)(k:Nat):RC:=⟨rcT cs k,qqn cs (rcT cs k) (nxA cs k),ssL cs (rcT cs k) (nxV cs 3 (gdA cs (rcT cs k) (nxA cs k))+1) (nxA cs (gdA cs (rcT cs k) (nxA cs k)))⟩
def rcA (cs:List Int)(k:Nat):Nat:=ssA cs (rcT cs k) (nxV cs 3 (gdA cs (rcT cs k) (nxA cs k))+1) (nxA cs (gdA cs (rcT cs k) (nxA cs k)))
theorem vqj (cs:List Int)(two:Bool):∀ (m k:Nat),ssA cs two m k≤k+5 * m
 | 0,k=>by unfold ssA;omega
 | m+1,k=>by
  have h1:=vqj cs two m (scA cs two k);have h2:=vqy cs two k;unfold ssA;omega
theorem zvg (cs:List Int)(two:Bool):∀ (m k:Nat),(ssL cs two m k).length=m
 | 0,k=>rfl
 | m+1,k=>by rw[ssL,sU,zvg cs two m]
theorem jja (cs:List Int)(two:Bool):∀ (m k:Nat),∀ s∈ssL cs two m k,s.ok∧(two=false→s.x=false∧s.z=false)
 | 0,k,s,h=>by cases h
 | m+1,k,s,h=>by
  rcases tK.mp h with rfl|h
  ·exact jk9 cs two k
  ·exact jja cs two m _ s h
theorem vvk (cs:List Int)(k:Nat):rcA cs k≤k+22:=by
 have h1:=kye cs k;have h2:=jx9 cs (rcT cs k) (nxA cs k);have h3:=kye cs (gdA cs (rcT cs k) (nxA cs k));have h4:=vqj cs (rcT cs k) (nxV cs 3 (gdA cs (rcT cs k) (nxA cs k))+1) (nxA cs (gdA cs (rcT cs k) (nxA cs k)));have h5:=kxo cs (n:=3) (gdA cs (rcT cs k) (nxA cs k)) (by omega);unfold rcA;omega
theorem kvr (cs:List Int)(k:Nat):(qxm cs k).fit∧(qxm cs k).b.length≤3:=by
 have h1:=kyn cs (rcT cs k) (nxA cs k);have h2:=jja cs (rcT cs k) (nxV cs 3 (gdA cs (rcT cs k) (nxA cs k))+1) (nxA cs (gdA cs (rcT cs k) (nxA cs k)));have h5:=kxo cs (n:=3) (gdA cs (rcT cs k) (nxA cs k)) (by omega);refine ⟨⟨⟨h1.1,fun s hs=>(h2 s hs).1⟩,h1.2,fun s hs=>(h2 s hs).2⟩,?_⟩;show (ssL cs (rcT cs k) (nxV cs 3 (gdA cs (rcT cs k) (nxA cs k))+1) (nxA cs (gdA cs (rcT cs k) (nxA cs k)))).length≤3;rw[zvg];omega
def fkA (cs:List Int):Nat→Nat
 | 0=>0
 | j+1=>rcA cs (fkA cs j)
def zqq (cs:List Int):Nat→List UInt8
 | 0=>qzm
 | j+1=>zqq cs j++kzg j (qxm cs (fkA cs j))
theorem vji (cs:List Int):∀ j,fkA cs j≤22 * j
 | 0=>wW _
 | j+1=>by
  have h1:=vji cs j;have h2:=vvk cs (fkA cs j);unfold fkA;omega
theorem qvf (cs:List Int):∀ j,(zqq cs j).length≤53+208 * j
 | 0=>wW _
 | j+1=>by
  have h1:=qvf cs j;have h2:=qx4 j (kvr cs (fkA cs j)).1.1 (kvr cs (fkA cs j)).2;rw[zqq,wU];omega
def zw9 (cs:List Int):List UInt8:=kve (qxm cs 0) (qxm cs (fkA cs 1)) (qxm cs (fkA cs 2)) (qqn cs false (fkA cs 3)) (qqn cs false (gdA cs false (fkA cs 3)))
theorem kq9 (a b:List UInt8):(⟨a.toArray⟩:ByteArray)++⟨b.toArray⟩=⟨(a++b).toArray⟩:=by
 apply ByteArray.ext;rw[Q5];simp
theorem qy0:∀ (a b:List SC),kj2 (a++b)=kj2 a++kj2 b
 | [],b=>rfl
 | s::a,b=>by rw[fD,kj2,kj2,qy0 a b,tX]
def qkp:Obj:=.cells #[.string ⟨#[97]⟩,.string ⟨#[98]⟩,.string ⟨#[99]⟩] 9
def vkr (w:World)(ca:Option Addr)(cc:Nat)(cs:List Int)(s i:Value)(wr:World):Prop:=
 ∃ j:Nat,j≤3∧i=.int .i64 j∧s=.string ⟨(zqq cs j).toArray⟩∧kqt wr w.heap.size ca cc cs (fkA cs j)∧wr.heap[w.heap.size+1]?=some qkp∧Below w.heap.size w wr
def vy8 (w:World)(ca:Option Addr)(cc:Nat)(cs:List Int)(two:Bool)(base:List UInt8)(all:List SC)(fin:Nat)(s i:Value)(wr:World):Prop:=
 ∃ (t kt:Nat) (dn:List SC),t≤3∧i=.int .i64 ((t:Int)-1)∧dn++ssL cs two t kt=all∧ssA cs two t kt=fin∧kt+5 * t≤70000∧s=.string ⟨(base++kj2 dn).toArray⟩∧kqt wr w.heap.size ca cc cs kt∧wr.heap[w.heap.size+1]?=some qkp∧Below w.heap.size w wr
theorem qkf {w a b:World}{F:Nat}(h:Below w.heap.size w a)(hk:Kept F a b)(hF:w.heap.size≤F):Below w.heap.size w b:=
 ⟨hk.os.trans h.os,hk.tape.trans h.tape,hk.output.trans h.output,rV h.size hk.size,fun k hk'=>(hk.block k (lX hk' h.size) (by omega)).trans (h.block k hk')⟩
def zkf (two:Bool):List UInt8:=if two then [40,105,32,58,32,115,44,32,106,32,58,32,115,41,32,105,102,32] else [40,105,32,58,32,115,41,32,105,102,32]
def qk3 (cs:List Int)(j:Nat)(two:Bool)(g:List UInt8):List UInt8:=zqq cs j++((([114,117,108,101,32]++[(97+j).toUInt8])++zkf two)++(g++[32,123,32]))
theorem jyk (cs:List Int){j:Nat}(hj:j<3)(two:Bool){g:List UInt8}(hg:g.length≤23):(qk3 cs j two g).length≤519:=by
 have:=qvf cs j;have h2:(zkf two).length≤18:=by unfold zkf;cases two<;>simp
 unfold qk3;simp only[wU,sU,fP];omega
theorem vjj {w:World}{b:Nat}(h:w.heap[b]?=some qkp){j:Nat}(hj:j<3):w.cell? ⟨b,j,none⟩=some (.string ⟨#[(97+j).toUInt8]⟩):=by
 rw[rD w b j _ _ _ h];rcases (show j=0∨j=1∨j=2 by omega) with rfl|rfl|rfl<;>rfl
theorem bsize (l:List UInt8):(⟨l.toArray⟩:ByteArray).size=l.length:=by show l.toArray.size=_;simp
theorem qyj (c:Nat)(r:RC):kzg c r=((([114,117,108,101,32]++[(97+c).toUInt8])++(if r.two then [40,105,32,58,32,115,44,32,106,32,58,32,115,41,32,105,102,32] else [40,105,32,58,32,115,41,32,105,102,32]))++(r.g.s++[32,123,32]))++(kj2 r.b++[125,10]):=by
 unfold kzg bg;simp
theorem vw0 (cs:List Int)(j:Nat)(g:List UInt8):(⟨(zqq cs j).toArray⟩:ByteArray)++⟨#[114,117,108,101,32]⟩++⟨#[(97+j).toUInt8]⟩++⟨#[40,105,32,58,32,115]⟩++⟨#[41,32,105,102,32]⟩++⟨g.toArray⟩++⟨#[32,123,32]⟩=⟨(qk3 cs j false g++kj2 []).toArray⟩:=by
 rw[kq9,kq9,kq9,kq9,kq9,kq9];unfold qk3 zkf kj2;simp
theorem vvi (cs:List Int)(j:Nat)(g:List UInt8):(⟨(zqq cs j).toArray⟩:ByteArray)++⟨#[114,117,108,101,32]⟩++⟨#[(97+j).toUInt8]⟩++⟨#[40,105,32,58,32,115]⟩++⟨#[44,32,106,32,58,32,115]⟩++⟨#[41,32,105,102,32]⟩++⟨g.toArray⟩++⟨#[32,123,32]⟩=⟨(qk3 cs j true g++kj2 []).toArray⟩:=by
 rw[kq9,kq9,kq9,kq9,kq9,kq9,kq9];unfold qk3 zkf kj2;simp
theorem vzg (cs:List Int)(j:Nat)(two:Bool)(gc:GC)(all:List SC)(h:qxm cs (fkA cs j)=⟨two,gc,all⟩):(⟨(qk3 cs j two gc.s++kj2 all).toArray⟩:ByteArray)++⟨#[125,10]⟩=⟨(zqq cs (j+1)).toArray⟩:=by
 rw[kq9,zqq,qyj,h];unfold qk3 zkf;cases two<;>simp
theorem vz3 (cs:List Int):(⟨(zqq cs 3).toArray⟩:ByteArray)++⟨#[110,101,118,101,114,32,100,40,105,32,58,32,115,41,32]⟩++⟨((qqn cs false (fkA cs 3)).s).toArray⟩++⟨#[32,38,32]⟩++⟨((qqn cs false (gdA cs false (fkA cs 3))).s).toArray⟩++⟨#[32,38,32,110,91,105,93,32,61,61,32,50,59]⟩=⟨(zw9 cs).toArray⟩:=by
 rw[kq9,kq9,kq9,kq9,kq9];unfold zw9 kve;rw[show zqq cs 3=((qzm++kzg 0 (qxm cs 0))++kzg 1 (qxm cs (fkA cs 1)))++kzg 2 (qxm cs (fkA cs 2)) from rfl];unfold zjf qvb;simp
theorem jyh {a b:ByteArray}(h:a=b):Value.string a=Value.string b:=by rw[h]
theorem vqq (cs:List Int)(two:Bool)(dn:List SC)(t kt:Nat){all:List SC}(h:dn++ssL cs two t kt=all)(ho:∀ s∈all,s.ok):(kj2 dn).length≤52 * all.length:=by
 have h1:=qwi all ho;rw[←h,qy0,wU] at h1;rw[←h];omega
theorem vje (w:World)(ca:Option Addr)(cc:Nat)(cs:List Int)(hC:∀ i (hi:i<cs.length),(∃ g o,ca=some ⟨g,o,none⟩∧g<w.heap.size∧w.cell? ⟨g,o+i,none⟩=some (.int .i64 (cs.getD i 0)))∧-9223372036854775808≤cs.getD i 0∧cs.getD i 0≤9223372036854775807) :
  Calls Tryz.prog 21 #[.slice ca cs.length cc] w fun e w'=>e=.returned (.string ⟨(zw9 cs).toArray⟩)∧Below w.heap.size w w':=by
 have HS:=hide (show vkr w ca cc cs (.string ⟨qzm.toArray⟩) (.int .i64 0) ((w.alloc (.cells #[.slice ca cs.length cc,.int .i64 0] 81)).alloc qkp) by
  have hb:=kje w (.cells #[.slice ca cs.length cc,.int .i64 0] 81) qkp;refine ⟨0,by omega,rfl,rfl,⟨?_,fun i hi=>?_⟩,?_,hb⟩
  ·rw[nZ _ _ _ (by simp)];exact qy _ _
  ·obtain ⟨⟨g,o,e,hg,hc⟩,h2⟩:=hC i hi;exact ⟨⟨g,o,e,hg,(hb.cell (p:=⟨g,o+i,none⟩) hg).trans hc⟩,h2⟩
  ·have:=qy (w.alloc (.cells #[.slice ca cs.length cc,.int .i64 0] 81)) qkp;simpa using this)
 clear hC;unfold qkp at HS;generalize hl:cs.length=len at *;go_enter Tryz.func21,Tryz.ntmps21
 go_wp2_with fail
 go_loopw [4,6,7,8] (fun s i _ _ wr=>vkr w ca cc cs s i wr) (fun _ i _ _ _=>3-(intOf i).toNat)
 case atStart=>exact ku HS
 case round=>
  obtain ⟨wo,hwo⟩:∃ wo,wo=wr:=⟨_,rfl⟩;subst hwo;obtain ⟨j,hj,rfl,rfl,hF,hN,hB⟩:=hrel;have hfk:=vji cs j;have hac:=qvf cs j;have hsz:=hB.size;have hFl:w.heap.size+1<wo.heap.size:=wX hN;obtain ⟨S,hS⟩:∃ S,S=(⟨(zqq cs j).toArray⟩:ByteArray):=⟨_,rfl⟩;have hSz:S.size≤700:=by rw[hS,bsize];omega
  have HSd:=hide hS;rw[←hS];clear hS hac;by_cases hlt:j<3
  ·have HN1:=hide (qkg wo w.heap.size 2 ca cc cs _ hF (by omega) (by omega) (by omega));have hv:nxV cs 2 (fkA cs j)=0∨nxV cs 2 (fkA cs j)=1:=by have:=kxo cs (n:=2) (fkA cs j) (by omega);omega
   obtain ⟨tw,htw⟩:∃ tw,rcT cs (fkA cs j)=tw:=⟨_,rfl⟩;have hv2:nxV cs 2 (fkA cs j)=if tw then 1 else 0:=by rw[←htw];unfold rcT;rcases hv with e|e<;>rw[e]<;>rfl
   rw[hv2] at HN1;clear hv hv2;have hA1:=kye cs (fkA cs j);obtain ⟨NM,hNM⟩:∃ NM,NM=(⟨#[(97+j).toUInt8]⟩:ByteArray):=⟨_,rfl⟩;have q0:=vjj hN hlt;rw[←hNM] at q0;have hNMz:NM.size=1:=by rw[hNM];rfl
   have HNM:=hide hNM;have HNn:=hide hN;have HBo:=hide hB;have HP:=hide (qyj j (qxm cs (fkA cs j)));have HAC:=hide (qvf cs j);have HRC:=hide (show qxm cs (fkA cs j)=⟨tw,qqn cs tw (nxA cs (fkA cs j)),ssL cs tw (nxV cs 3 (gdA cs tw (nxA cs (fkA cs j)))+1) (nxA cs (gdA cs tw (nxA cs (fkA cs j))))⟩ by unfold qxm;rw[htw]);have HRA:=hide (show fkA cs (j+1)=ssA cs tw (nxV cs 3 (gdA cs tw (nxA cs (fkA cs j)))+1) (nxA cs (gdA cs tw (nxA cs (fkA cs j)))) by show rcA cs (fkA cs j)=_;unfold rcA;rw[htw]);have HGD:=hide (fun (wx:World) (hx:kqt wx w.heap.size ca cc cs (nxA cs (fkA cs j)))=>zw7 wx w.heap.size tw ca cc cs _ hx (by omega));have hA2:=jx9 cs tw (nxA cs (fkA cs j));have hGs:=GC.len (kyn cs tw (nxA cs (fkA cs j))).1;have HN3:=hide (fun (wx:World) (hx:kqt wx w.heap.size ca cc cs (gdA cs tw (nxA cs (fkA cs j))))=>qkg wx w.heap.size 3 ca cc cs _ hx (by omega) (by omega) (by omega));have hm:=kxo cs (n:=3) (gdA cs tw (nxA cs (fkA cs j))) (by omega);have hA3:=kye cs (gdA cs tw (nxA cs (fkA cs j)));have HST:=hide (fun (wx:World) (kt:Nat) (hx:kqt wx w.heap.size ca cc cs kt) (hk:kt≤70000)=>zy3 wx w.heap.size tw ca cc cs kt hx (by omega));obtain ⟨G,hG⟩:∃ G,G=(⟨((qqn cs tw (nxA cs (fkA cs j))).s).toArray⟩:ByteArray):=⟨_,rfl⟩;have hGz:G.size≤23:=by rw[hG,bsize];exact hGs
   have HG:=hide hG;rw[←hG] at HGD;have HGl:=hide hGs;clear hG hGs htw hNM hF hN hB;generalize qqn cs tw (nxA cs (fkA cs j))=gc at *;have hk3:nxA cs (gdA cs tw (nxA cs (fkA cs j)))≤69000:=by omega
   generalize nxA cs (gdA cs tw (nxA cs (fkA cs j)))=k3 at *;generalize nxV cs 3 (gdA cs tw (nxA cs (fkA cs j)))=m at *;generalize gdA cs tw (nxA cs (fkA cs j))=k2 at *;generalize nxA cs (fkA cs j)=k1 at *;clear hA1 hA2 hA3 hfk;obtain ⟨tq,htq⟩:∃ tq,tq=tw:=⟨_,rfl⟩;have HTQ:=hide htq;clear htq;cases tw;all_goals
    go_wp2_with fail
    refine (ku HN1).mono ?_;rintro e w1 ⟨rfl,h1,hk1⟩;have q1:=hk1.cell (a:=⟨w.heap.size+1,j,none⟩) (by show w.heap.size+1≠w.heap.size;omega) q0;have hs1:=hk1.size;have H1:=hide h1;have HK1:=hide hk1;clear h1 hk1 HN1 q0;go_wp2_with fail
    refine ((ku HGD) _ (ku H1)).mono ?_;rintro e w2 ⟨rfl,h2,hk2⟩;have hs2:=hk2.size;have H2:=hide h2;have HK2:=hide ((ku HK1).trans hk2);clear h2 hk2 HGD q1 H1 HK1;go_wp2_with fail
    refine ((ku HN3) _ (ku H2)).mono ?_;rintro e w3 ⟨rfl,h3,hk3'⟩;have hs3:=hk3'.size;have H3:=hide h3;have HK3:=hide ((ku HK2).trans hk3');have HN':=hide ((ku HK3).row (b:=w.heap.size+1) (by omega) (ku HNn));have HB':=hide (qkf (ku HBo) (ku HK3) (wW _));clear h3 hk3' HN3 H2 HK2 HNn HBo HK3;go_wp2_with fail
    go_loopw [4,8] (fun s i wm=>vy8 w ca cc cs tq (qk3 cs j tq gc.s) (ssL cs tq (m+1) k3) (ssA cs tq (m+1) k3) s i wm) (fun _ i _=>(intOf i+1).toNat)
    case atStart=>
     have e:=ku HTQ;subst e;exact ⟨m+1,k3,[],by omega,by rw[show ((m+1:Nat):Int)-1=(m:Int) by omega],rfl,rfl,by omega,jyh (by rw[ku HSd,ku HNM,ku HG];first|exact vw0 cs j gc.s|exact vvi cs j gc.s),ku H3,ku HN',ku HB'⟩
    case round=>
     obtain ⟨wm,hwm⟩:∃ wm,wm=wr:=⟨_,rfl⟩;subst hwm;obtain ⟨t,kt,dn,ht,rfl,hdn,hfin,hkt,rfl,hF,hN,hB⟩:=hrel;have hbl:=jyk cs hlt tq (ku HGl);have hbd:=vqq cs tq dn t kt hdn (fun s hs=>(jja cs tq (m+1) k3 s hs).1);rw[zvg] at hbd;obtain ⟨U,hU⟩:∃ U,U=(⟨(qk3 cs j tq gc.s++kj2 dn).toArray⟩:ByteArray):=⟨_,rfl⟩;have hUz:U.size≤700:=by rw[hU,bsize,wU];omega
     have HU:=hide hU;rw[←hU];clear hU hbl hbd;cases t with
     | zero=>
      have e:=ku HTQ;subst e;have HF:=hide hF;have HN2:=hide hN;have HB2:=hide hB;have HDN:=hide hdn;have HFN:=hide hfin;clear hF hN hB hdn hfin;go_wp2
      case roundEnd=>
       have e1:=ku HDN;rw[ssL,ni] at e1;have e2:=ku HFN;rw[ssA] at e2;refine ⟨⟨j+1,by omega,by go_num,jyh (by rw[ku HU,e1];exact vzg cs j _ gc _ (ku HRC)),?_,ku HN2,ku HB2⟩,by simp[intOf];omega⟩;rw[ku HRA,←e2];exact ku HF
     | succ t=>
      rw[show ((t+1:Nat):Int)-1=(t:Int) by omega];have hsl:=SC.len (jk9 cs tq kt).1;have hsa:=vqy cs tq kt;obtain ⟨V,hV⟩:∃ V,V=(⟨((zyz cs tq kt).s).toArray⟩:ByteArray):=⟨_,rfl⟩;have hVz:V.size≤52:=by rw[hV,bsize];exact hsl
      have e:=ku HTQ;subst e;have HC:=hide ((ku HST) wm kt hF (by omega));have HN2:=hide hN;have HB2:=hide hB;have HDN:=hide hdn;have HFN:=hide hfin;have HV:=hide hV;rw[←hV] at HC;clear hF hN hB hdn hfin hV hsl;go_wp2_with fail
      refine (ku HC).mono ?_;rintro e w4 ⟨rfl,h4,hk4⟩;have H4:=hide h4;have HN4:=hide (hk4.row (b:=w.heap.size+1) (by omega) (ku HN2));have HB4:=hide (qkf (ku HB2) hk4 (wW _));clear h4 hk4 HC HN2 HB2;go_wp2
      case roundEnd=>
       have e1:=ku HDN;rw[ssL] at e1;have e2:=ku HFN;rw[ssA] at e2;refine ⟨⟨t,_,dn++[zyz cs _ kt],by omega,rfl,by rw[tX];exact e1,e2,by omega,jyh (by rw[ku HU,ku HV,kq9,qy0,kj2,kj2,ni,tX]),ku H4,ku HN4,ku HB4⟩,by simp[intOf]⟩
  ·obtain rfl:j=3:=by omega
   have HG1:=hide (zw7 wo w.heap.size false ca cc cs _ hF (by omega));have hA:=jx9 cs false (fkA cs 3);have HG2:=hide (fun (wx:World) (hx:kqt wx w.heap.size ca cc cs (gdA cs false (fkA cs 3)))=>zw7 wx w.heap.size false ca cc cs _ hx (by omega));have hl1:=GC.len (kyn cs false (fkA cs 3)).1;have hl2:=GC.len (kyn cs false (gdA cs false (fkA cs 3))).1;have HE:=hide (vz3 cs);obtain ⟨G1,hG1⟩:∃ G1,G1=(⟨((qqn cs false (fkA cs 3)).s).toArray⟩:ByteArray):=⟨_,rfl⟩;obtain ⟨G2,hG2⟩:∃ G2,G2=(⟨((qqn cs false (gdA cs false (fkA cs 3))).s).toArray⟩:ByteArray):=⟨_,rfl⟩;have hz1:G1.size≤23:=by rw[hG1,bsize];exact hl1
   have hz2:G2.size≤23:=by rw[hG2,bsize];exact hl2
   rw[←hG1] at HG1 HE;rw[←hG2] at HG2 HE;rw[←ku HSd] at HE;have HBo:=hide hB;clear hF hN hB hl1 hl2 hG1 hG2 hA;go_wp2_with fail
   refine (ku HG1).mono ?_;rintro e w1 ⟨rfl,h1,hk1⟩;have H1:=hide h1;have HK1:=hide hk1;clear h1 hk1 HG1;go_wp2_with fail
   refine ((ku HG2) _ (ku H1)).mono ?_;rintro e w2 ⟨rfl,h2,hk2⟩;have HB2:=hide (qkf (ku HBo) ((ku HK1).trans hk2) (wW _));clear h2 hk2 HG2;go_wp2
   go_ret
   exact ⟨congrArg Ending.returned (jyh (ku HE)),ku HB2⟩
def jzy (n:Nat):Nat × Nat × Nat:=if n=0 then (0,1,2) else if n=1 then (0,2,1) else if n=2 then (1,0,2) else if n=3 then (1,2,0) else if n=4 then (2,0,1) else (2,1,0)
def kww (o:Nat × Nat × Nat):Obj:=.cells #[.int .i64 o.1,.int .i64 o.2.1,.int .i64 o.2.2] 3
theorem alloc_at (w:World)(o:Obj)(n:Nat)(h:w.heap.size=n):(w.alloc o).heap[n]?=some o:=by rw[←h];exact qy w o
theorem jw6 (w:World)(c:Int)(h0:-9223372036854775808≤c)(h1:c≤9223372036854775807) :
  Calls Tryz.prog 20 #[.int .i64 c] w fun e w'=>∃ b,e=.returned (.slice (some ⟨b,0,none⟩) 3 3)∧w.heap.size≤b∧w'.heap[b]?=some (kww (jzy (kzl c 6)))∧Below w.heap.size w w':=by
 have HP:=hide (fun wx=>pick_any c 6 wx h0 h1 (by omega) (by omega));generalize kzl c 6=n at *;go_enter Tryz.func20,Tryz.ntmps20
 go_wp2_with fail
 refine ((ku HP) _).mono ?_;rintro e w1 ⟨rfl,hlt,hw⟩;subst hw;have HB:=hide (((((((below_alloc1 w (kww (0,1,2))).alloc (by simp) (kww (0,2,1))).alloc (by simp;omega) (kww (1,0,2))).alloc (by simp;omega) (kww (1,2,0))).alloc (by simp;omega) (kww (2,0,1))).alloc (by simp;omega) (kww (2,1,0))).alloc (by simp;omega) (.cells #[.slice (some ⟨w.heap.size,0,none⟩) 3 3,.slice (some ⟨w.heap.size+1,0,none⟩) 3 3,.slice (some ⟨w.heap.size+1+1,0,none⟩) 3 3,.slice (some ⟨w.heap.size+1+1+1,0,none⟩) 3 3,.slice (some ⟨w.heap.size+1+1+1+1,0,none⟩) 3 3,.slice (some ⟨w.heap.size+1+1+1+1+1,0,none⟩) 3 3] 31));rcases (show n=0∨n=1∨n=2∨n=3∨n=4∨n=5 by omega) with rfl|rfl|rfl|rfl|rfl|rfl
 ·go_wp2
  go_ret
  exact ⟨_,rfl,by omega,qp (qp (qp (qp (qp (qp (qy w (kww (0,1,2)))))))),ku HB⟩
 ·go_wp2
  go_ret
  exact ⟨_,rfl,by omega,qp (qp (qp (qp (qp (alloc_at _ (kww (0,2,1)) _ (by simp)))))),ku HB⟩
 ·go_wp2
  go_ret
  exact ⟨_,rfl,by omega,qp (qp (qp (qp (alloc_at _ (kww (1,0,2)) _ (by simp))))),ku HB⟩
 ·go_wp2
  go_ret
  exact ⟨_,rfl,by omega,qp (qp (qp (alloc_at _ (kww (1,2,0)) _ (by simp)))),ku HB⟩
 ·go_wp2
  go_ret
  exact ⟨_,rfl,by omega,qp (qp (alloc_at _ (kww (2,0,1)) _ (by simp))),ku HB⟩
 ·go_wp2
  go_ret
  exact ⟨_,rfl,by omega,qp (alloc_at _ (kww (2,1,0)) _ (by simp)),ku HB⟩
def kw4 (o:Nat × Nat × Nat)(c:UInt8):UInt8:=if c=48 then (48+o.1).toUInt8 else if c=49 then (48+o.2.1).toUInt8 else if c=50 then (48+o.2.2).toUInt8 else c
def jyp (o:Nat × Nat × Nat):Prop:=o.1<3∧o.2.1<3∧o.2.2<3
theorem vxk (n:Nat):jyp (jzy n):=by
 unfold jzy;repeat' split
 all_goals exact ⟨by decide,by decide,by decide⟩
theorem zvn {a:Nat}(h:a<3):((48+a).toUInt8.toNat:Int)=48+a:=by
 rcases (show a=0∨a=1∨a=2 by omega) with rfl|rfl|rfl<;>rfl
theorem qyz (w:World)(b:Nat)(o:Nat × Nat × Nat)(ho:jyp o)(hO:w.heap[b]?=some (kww o))(c:UInt8) :
  Calls Tryz.prog 43 #[.int .u8 c.toNat,.slice (some ⟨b,0,none⟩) 3 3] w fun e w'=>e=.returned (.int .u8 (kw4 o c).toNat)∧Below w.heap.size w w':=by
 have q0:w.cell? ⟨b,0,none⟩=some (.int .i64 o.1):=by rw[rD w b 0 _ _ _ hO];rfl
 have q1:w.cell? ⟨b,1,none⟩=some (.int .i64 o.2.1):=by rw[rD w b 1 _ _ _ hO];rfl
 have q2:w.cell? ⟨b,2,none⟩=some (.int .i64 o.2.2):=by rw[rD w b 2 _ _ _ hO];rfl
 obtain ⟨o0,o1,o2⟩:=o;obtain ⟨h0,h1,h2⟩:=ho;simp only at *;clear hO;by_cases c0:c=48
 ·subst c0;rw[show kw4 (o0,o1,o2) 48=(48+o0).toUInt8 from rfl,zvn h0,show ((48:UInt8).toNat:Int)=48 from rfl];go_enter Tryz.func43,Tryz.ntmps43
  go_wp2
  go_ret
  exact ⟨rfl,Below.refl _ _⟩
 ·by_cases c1:c=49
  ·subst c1;rw[show kw4 (o0,o1,o2) 49=(48+o1).toUInt8 from rfl,zvn h1,show ((49:UInt8).toNat:Int)=49 from rfl];clear c0;go_enter Tryz.func43,Tryz.ntmps43
   go_wp2
   go_ret
   exact ⟨rfl,Below.refl _ _⟩
  ·by_cases c2:c=50
   ·subst c2;rw[show kw4 (o0,o1,o2) 50=(48+o2).toUInt8 from rfl,zvn h2,show ((50:UInt8).toNat:Int)=50 from rfl];clear c0 c1;go_enter Tryz.func43,Tryz.ntmps43
    go_wp2
    go_ret
    exact ⟨rfl,Below.refl _ _⟩
   ·rw[show kw4 (o0,o1,o2) c=c by unfold kw4;rw[if_neg c0,if_neg c1,if_neg c2]];have hn:¬c.toNat=48∧¬c.toNat=49∧¬c.toNat=50:=⟨fun e=>c0 (UInt8.toNat_inj.mp e),fun e=>c1 (UInt8.toNat_inj.mp e),fun e=>c2 (UInt8.toNat_inj.mp e)⟩;have hb:=c.toNat_lt;clear c0 c1 c2;generalize c.toNat=n at *;by_cases hl:n<48
    ·go_enter Tryz.func43,Tryz.ntmps43
     go_wp2
     go_ret
     exact ⟨rfl,Below.refl _ _⟩
    ·have hg:50<n:=by omega
     go_enter Tryz.func43,Tryz.ntmps43
     go_wp2
     go_ret
     exact ⟨rfl,Below.refl _ _⟩
def kzi (o:Nat × Nat × Nat)(l:List UInt8):List UInt8:=l.map (kw4 o)
theorem jvg (o:Nat × Nat × Nat)(l:List UInt8)(k:Nat)(hk:k<l.length)(c:UInt8)(hc:c=l[k]):(⟨(kzi o (l.take k)).toArray⟩:ByteArray)++strOfNums [((kw4 o c).toNat:Int)]=⟨(kzi o (l.take (k+1))).toArray⟩:=by
 rw[show strOfNums [((kw4 o c).toNat:Int)]=⟨[kw4 o c].toArray⟩ by unfold strOfNums;simp,kq9,hc];unfold kzi;rw[nG hk,ng];rfl
theorem zqn (w:World)(b:Nat)(o:Nat × Nat × Nat)(ho:jyp o)(hO:w.heap[b]?=some (kww o))(l:List UInt8)(hl:l.length≤1000) :
  Calls Tryz.prog 24 #[.string ⟨l.toArray⟩,.slice (some ⟨b,0,none⟩) 3 3] w fun e w'=>e=.returned (.string ⟨(kzi o l).toArray⟩)∧Below w.heap.size w w':=by
 have HO:=hide hO;have HR:=hide (fun (wx:World) (hx:wx.heap[b]?=some (kww o)) (c:UInt8)=>qyz wx b o ho hx c);clear hO;obtain ⟨S,hS⟩:∃ S,S=(⟨l.toArray⟩:ByteArray):=⟨_,rfl⟩;have hSz:S.size=l.length:=by rw[hS];exact bsize l
 have HS:=hide hS;rw[←hS];clear hS;go_enter Tryz.func24,Tryz.ntmps24
 go_wp2_with fail
 go_loopw [5,6] (fun s i wr=>∃ k:Nat,k≤l.length∧i=.int .i64 k∧s=.string ⟨(kzi o (l.take k)).toArray⟩∧Below w.heap.size w wr) (fun _ i _=>l.length-(intOf i).toNat)
 case atStart=>exact ⟨0,tu _,rfl,rfl,Below.refl _ _⟩
 case round=>
  obtain ⟨wo,hwo⟩:∃ wo,wo=wr:=⟨_,rfl⟩;subst hwo;obtain ⟨k,hk,rfl,rfl,hB⟩:=hrel;have hsz:=hB.size;have HB:=hide hB;have HOo:=hide ((hB.block b (wX (ku HO))).trans (ku HO));clear hB;obtain ⟨U,hU⟩:∃ U,U=(⟨(kzi o (l.take k)).toArray⟩:ByteArray):=⟨_,rfl⟩;have hUz:U.size≤1000:=by rw[hU,bsize];unfold kzi;rw[sG,QV];omega
  have HU:=hide hU;rw[←hU];clear hU;by_cases hlt:k<l.length
  ·have hks:k<S.size:=by omega
   have HC:=hide ((ku HR) wo (ku HOo) S[k]);go_wp2_with fail
   refine (ku HC).mono ?_;rintro e w1 ⟨rfl,hb1⟩;have HB1:=hide ((ku HB).trans (hb1.mono hsz));have hs1:=hb1.size;clear hb1 HC;obtain ⟨D,hD⟩:∃ D,D=strOfNums [((kw4 o S[k]).toNat:Int)]:=⟨_,rfl⟩;have hDz:D.size=1:=by rw[hD];rfl
   have hcv:(convert 83 9 (.slice (some ⟨w1.heap.size,0,none⟩) 1 1)).run Tryz.prog (w1.alloc (.cells #[.int .u8 ((kw4 o S[k]).toNat:Int)] 5))=.ok (.string D) (w1.alloc (.cells #[.int .u8 ((kw4 o S[k]).toNat:Int)] 5)):=by
    rw[hD];refine run_convert_bytes_arg _ 83 5 Tryz.underlying83 Tryz.underlying5 w1.heap.size 0 1 1 [((kw4 o S[k]).toNat:Int)] rfl (fun i hi=>?_) 9 Tryz.underlying9;obtain rfl:i=0:=by omega
    rw[rD _ w1.heap.size 0 _ _ _ (qy w1 _)];rfl
   have HD:=hide hD;clear hD;go_wp2
   case roundEnd=>
    refine ⟨⟨k+1,by omega,by go_num,jyh (by rw[ku HU,ku HD];exact jvg o l k hlt _ (by have:=ku HS;subst this;rfl)),(ku HB1).alloc (by omega) _⟩,by simp[intOf];omega⟩
  ·obtain rfl:k=l.length:=by omega
   go_wp2
   go_ret
   exact ⟨jkx (by rw[ku HU,Qk]),ku HB⟩
structure kwz (w:World)(G:Nat)(l:List UInt8):Prop where
 len:l.length=17
 row:∃ C fr,w.heap[G]?=some (.cells C 5 fr)∧17≤fr.1∧∀ i,i<17→C[i]?=some (.int .u8 (l.getD i 0).toNat)
theorem kwz.cell {w:World}{G:Nat}{l:List UInt8}(h:kwz w G l){i:Nat}(hi:i<17):w.cell? ⟨G,i,none⟩=some (.int .u8 (l.getD i 0).toNat):=by
 obtain ⟨C,fr,h1,h2,h3⟩:=h.row;simp[World.cell?,h1,h3 i hi]
theorem kwz.frozen {w:World}{G:Nat}{l:List UInt8}(h:kwz w G l){i:Nat}(hi:i<17):w.frozen? ⟨G,i,none⟩=false:=by
 obtain ⟨C,fr,h1,h2,h3⟩:=h.row;simp[World.frozen?,h1];omega
theorem kwz.put {w:World}{G:Nat}{l:List UInt8}(h:kwz w G l){i:Nat}(hi:i<17)(c:UInt8):kwz (w.setCell ⟨G,i,none⟩ (.int .u8 c.toNat)) G (l.set i c):=by
 obtain ⟨C,fr,h1,h2,h3⟩:=h.row;have hl:=h.len;refine ⟨by rw[Qa];exact hl,C.setIfInBounds i (.int .u8 c.toNat),fr,?_,h2,fun j hj=>?_⟩
 ·simp[World.setCell,Array.getElem?_modify,h1]
 ·have hC:i<C.size:=by
   have:=h3 i hi;exact (JK.mp this).1
  rw[Qd];by_cases e:i=j
  ·subst e;rw[if_pos rfl,if_pos hC,l9,QB (by omega)];rfl
  ·rw[if_neg e,h3 j hj,l9,l9,Qr e]
theorem kwz.stay {w w':World}{G:Nat}{l:List UInt8}(h:kwz w G l)(hk:w'.heap[G]?=w.heap[G]?):kwz w' G l:=by
 obtain ⟨C,fr,h1,h2,h3⟩:=h.row;exact ⟨h.len,C,fr,hk.trans h1,h2,h3⟩
theorem kwy {w:World}{b:Nat}{o:Obj}(h:w.heap[b]?=some o):b<w.heap.size:=(JK.mp h).1
theorem jzu (l:List UInt8):strOfNums (l.map fun c=>(c.toNat:Int))=⟨l.toArray⟩:=by
 unfold strOfNums;rw[fZ];congr 1
 have:(fun n:Int=>UInt8.ofNat n.toNat) ∘ (fun c:UInt8=>(c.toNat:Int))=id:=funext fun c=>by simp
 rw[this,JM]
def oG (o:Nat × Nat × Nat)(k:Nat):Nat:=if k=0 then o.1 else if k=1 then o.2.1 else o.2.2
theorem vwb {o:Nat × Nat × Nat}(h:jyp o)(k:Nat):oG o k<3:=by
 unfold oG;split
 ·exact h.1
 ·split
  ·exact h.2.1
  ·exact h.2.2
theorem zw0 {w:World}{b:Nat}{o:Nat × Nat × Nat}(h:w.heap[b]?=some (kww o)){k:Nat}(hk:k<3):w.cell? ⟨b,k,none⟩=some (.int .i64 (oG o k)):=by
 rw[rD w b k _ _ _ h];rcases (show k=0∨k=1∨k=2 by omega) with rfl|rfl|rfl<;>rfl
def mvF (o:Nat × Nat × Nat)(l:List UInt8):Nat→List UInt8
 | 0=>l
 | k+1=>((mvF o l k).set (1+2 * oG o k) (l.getD (1+2 * k) 0)).set (9+2 * oG o k) (kw4 o (l.getD (9+2 * k) 0))
def mvL (o:Nat × Nat × Nat)(l:List UInt8):List UInt8:=(mvF o l 3).set 16 (kw4 o (l.getD 16 0))
theorem vz9 (w:World)(l:List UInt8)(hl:l.length=17):kwz (Go.Lib.bytesWorld w 5 ⟨l.toArray⟩) w.heap.size l:=by
 refine ⟨hl,_,_,Go.Lib.bytesWorld_at_new w 5 ⟨l.toArray⟩,?_,fun i hi=>?_⟩
 ·show 17≤(Go.Lib.bytesCells w 5 ⟨l.toArray⟩).size;unfold Go.Lib.bytesCells;rw[Array.size_append,Array.size_map];show 17≤l.toArray.size+_;simp;omega
 ·have:=Go.Lib.bytesWorld_cell w 5 ⟨l.toArray⟩ i (by rw[bsize];omega);simp only[World.cell?,Go.Lib.bytesWorld_at_new] at this;simpa using this
theorem jj7 (w:World)(s:ByteArray):Below w.heap.size w (Go.Lib.bytesWorld w 5 s):=by
 refine ⟨rfl,rfl,rfl,?_,fun k hk=>Go.Lib.bytesWorld_at_old w _ s k hk⟩;rw[Go.Lib.bytesWorld_size];omega
theorem jww (w:World)(b:Nat)(o:Nat × Nat × Nat)(ho:jyp o)(hO:w.heap[b]?=some (kww o))(l:List UInt8)(hl:l.length=17)(h0:l.getD 0 0=91)(h7:l.getD 7 0=32)(h8:l.getD 8 0=91) :
  Calls Tryz.prog 23 #[.string ⟨l.toArray⟩,.slice (some ⟨b,0,none⟩) 3 3] w fun e w'=>e=.returned (.string ⟨(mvL o l).toArray⟩)∧Below w.heap.size w w':=by
 have HO:=hide hO;have hbl:=wX hO;have HR:=hide (fun (wx:World) (hx:wx.heap[b]?=some (kww o)) (c:UInt8)=>qyz wx b o ho hx c);have HM:=hide (vz9 w l hl);have HBw:=hide (jj7 w ⟨l.toArray⟩);clear hO;obtain ⟨S,hS⟩:∃ S,S=(⟨l.toArray⟩:ByteArray):=⟨_,rfl⟩;have hSz:S.size=17:=by rw[hS,bsize];exact hl
 have hcv:=Go.Lib.run_convert_string_bytes (P:=Tryz.prog) w 9 83 5 S Tryz.underlying9 Tryz.underlying83 Tryz.underlying5;rw[←hS] at HM HBw ⊢;have HAT:=hide (show ∀ i (hi:i<S.size),S[i]=l.getD i 0 by
  subst hS;intro i hi;have hi':i<l.length:=by rw[bsize] at hi;exact hi
  rw[l9,ny hi'];rfl)
 have z0:((S[0]'(by omega)).toNat:Int)=91:=by rw[ku HAT,h0];rfl
 have z7:((S[7]'(by omega)).toNat:Int)=32:=by rw[ku HAT,h7];rfl
 have z8:((S[8]'(by omega)).toNat:Int)=91:=by rw[ku HAT,h8];rfl
 have HSd:=hide hS;clear hS h0 h7 h8;rw[hSz] at hcv;generalize grownCap w 17 0 5=cap at hcv;generalize Go.Lib.bytesWorld w 5 S=W at *;go_enter Tryz.func23,Tryz.ntmps23
 go_wp2_with fail
 go_loopw [6] (fun i wr=>∃ k:Nat,k≤3∧i=.int .i64 k∧kwz wr w.heap.size (mvF o l k)∧Below w.heap.size w wr) (fun i _=>3-(intOf i).toNat)
 case atStart=>exact ⟨0,by omega,rfl,ku HM,ku HBw⟩
 case round=>
  obtain ⟨wo,hwo⟩:∃ wo,wo=wr:=⟨_,rfl⟩;subst hwo;obtain ⟨k,hk,rfl,hM,hB⟩:=hrel;have hsz:=hB.size;have HOo:=hide ((hB.block b hbl).trans (ku HO));have HMo:=hide hM;have HBo:=hide hB;by_cases hlt:k<3
  ·have q0:=zw0 (ku HOo) hlt;have hoG:=vwb ho k;have hk1:1+2 * k<S.size:=by omega
   have f1:=hM.frozen (i:=1+2 * oG o k) (by omega);have c1:=hM.cell (i:=1+2 * oG o k) (by omega);clear hM hB;generalize hp:oG o k=p at *;have HP:=hide hp;clear hp;rcases (show k=0∨k=1∨k=2 by omega) with rfl|rfl|rfl
   ·have e1:S[1]'(by omega)=l.getD (1+2 * 0) 0:=(ku HAT) 1 (by omega);have e2:S[9]'(by omega)=l.getD (9+2 * 0) 0:=(ku HAT) 9 (by omega);have HE1:=hide e1;have HE2:=hide e2;clear e1 e2;go_wp2_with fail
    go_region
    obtain ⟨W2,hW2⟩:∃ W2,W2=(wo.setCell ⟨w.heap.size,1+2 * p,none⟩ (.int .u8 ((S[1]'(by omega)).toNat:Int))).drew:=⟨_,rfl⟩;have hM2:kwz W2 w.heap.size ((mvF o l 0).set (1+2 * p) (S[1]'(by omega))):=by rw[hW2];exact ((ku HMo).put (i:=1+2 * p) (by omega) _).stay rfl
    have hO2:W2.heap[b]?=some (kww o):=by rw[hW2];exact (heap_setCell_other wo _ b _ (by show b≠w.heap.size;omega)).trans (ku HOo)
    have hB2:Below w.heap.size w W2:=by rw[hW2];exact ((ku HBo).setCell (p:=⟨w.heap.size,1+2 * p,none⟩) (wW _) _).drew
    have hs2:w.heap.size<W2.heap.size:=by
     obtain ⟨C,fr,hr,_⟩:=hM2.row;exact kwy hr
    rw[←hW2];clear hW2 q0 f1 c1 HOo HMo HBo;have q2:W2.cell? ⟨b,0,none⟩=some (.int .i64 p):=by rw[zw0 hO2 (by omega),ku HP]
    have f2:=hM2.frozen (i:=9+2 * p) (by omega);have c2:=hM2.cell (i:=9+2 * p) (by omega);have HC:=hide ((ku HR) W2.drew hO2 (S[9]'(by omega)));have HM2:=hide hM2;have HO2:=hide hO2;have HB2:=hide hB2;clear hM2 hO2 hB2;have v1:IntKind.i64.wrap 0=0:=by rw[nK];omega
    have v2:IntKind.i64.wrap 9=9:=by rw[nK];omega
    have v3:IntKind.i64.wrap (2 * (p:Int))=2 * (p:Int):=by rw[nK];omega
    have v4:IntKind.i64.wrap (9+2 * (p:Int))=9+2 * (p:Int):=by rw[nK];omega
    have v5:0≤9+2 * (p:Int):=by omega
    have v6:9+2 * (p:Int)<17:=by omega
    have v7:(9+2 * (p:Int)).toNat=9+2 * p:=by omega
    go_wp2_with fail
    go_region_law ((go_simp;go_at_call 43;refine (ku HC).mono ?_;rintro e w3 ⟨rfl,hb3⟩;have hs3:=hb3.size;have q3:=(hb3.cell (p:=⟨b,0,none⟩) (by show b<W2.heap.size;omega)).trans q2;have hM3:=(ku HM2).stay (hb3.block w.heap.size hs2);have f3:=hM3.frozen (i:=9+2 * p) (by omega);have c3:=hM3.cell (i:=9+2 * p) (by omega);have HM3:=hide hM3;have HB3:=hide (((ku HB2).drew).trans (hb3.mono (show w.heap.size≤W2.heap.size by omega)));clear hM3 hb3;dsimp only))
    all_goals
     go_wp2
     case roundEnd=>
      refine ⟨⟨0+1,by omega,rfl,?_,((ku HB3).setCell (p:=⟨w.heap.size,9+2 * p,none⟩) (wW _) _)⟩,by simp[intOf]⟩;have h5:=(ku HM3).put (i:=9+2 * p) (by omega) (kw4 o (S[9]'(by omega)));rw[mvF,ku HP,←ku HE1,←ku HE2];exact h5
   ·have e1:S[3]'(by omega)=l.getD (1+2 * 1) 0:=(ku HAT) 3 (by omega);have e2:S[11]'(by omega)=l.getD (9+2 * 1) 0:=(ku HAT) 11 (by omega);have HE1:=hide e1;have HE2:=hide e2;clear e1 e2;go_wp2_with fail
    go_region
    obtain ⟨W2,hW2⟩:∃ W2,W2=(wo.setCell ⟨w.heap.size,1+2 * p,none⟩ (.int .u8 ((S[3]'(by omega)).toNat:Int))).drew:=⟨_,rfl⟩;have hM2:kwz W2 w.heap.size ((mvF o l 1).set (1+2 * p) (S[3]'(by omega))):=by rw[hW2];exact ((ku HMo).put (i:=1+2 * p) (by omega) _).stay rfl
    have hO2:W2.heap[b]?=some (kww o):=by rw[hW2];exact (heap_setCell_other wo _ b _ (by show b≠w.heap.size;omega)).trans (ku HOo)
    have hB2:Below w.heap.size w W2:=by rw[hW2];exact ((ku HBo).setCell (p:=⟨w.heap.size,1+2 * p,none⟩) (wW _) _).drew
    have hs2:w.heap.size<W2.heap.size:=by
     obtain ⟨C,fr,hr,_⟩:=hM2.row;exact kwy hr
    rw[←hW2];clear hW2 q0 f1 c1 HOo HMo HBo;have q2:W2.cell? ⟨b,1,none⟩=some (.int .i64 p):=by rw[zw0 hO2 (by omega),ku HP]
    have f2:=hM2.frozen (i:=9+2 * p) (by omega);have c2:=hM2.cell (i:=9+2 * p) (by omega);have HC:=hide ((ku HR) W2.drew hO2 (S[11]'(by omega)));have HM2:=hide hM2;have HO2:=hide hO2;have HB2:=hide hB2;clear hM2 hO2 hB2;have v1:IntKind.i64.wrap 2=2:=by rw[nK];omega
    have v2:IntKind.i64.wrap 11=11:=by rw[nK];omega
    have v3:IntKind.i64.wrap (2 * (p:Int))=2 * (p:Int):=by rw[nK];omega
    have v4:IntKind.i64.wrap (9+2 * (p:Int))=9+2 * (p:Int):=by rw[nK];omega
    have v5:0≤9+2 * (p:Int):=by omega
    have v6:9+2 * (p:Int)<17:=by omega
    have v7:(9+2 * (p:Int)).toNat=9+2 * p:=by omega
    go_wp2_with fail
    go_region_law ((go_simp;go_at_call 43;refine (ku HC).mono ?_;rintro e w3 ⟨rfl,hb3⟩;have hs3:=hb3.size;have q3:=(hb3.cell (p:=⟨b,1,none⟩) (by show b<W2.heap.size;omega)).trans q2;have hM3:=(ku HM2).stay (hb3.block w.heap.size hs2);have f3:=hM3.frozen (i:=9+2 * p) (by omega);have c3:=hM3.cell (i:=9+2 * p) (by omega);have HM3:=hide hM3;have HB3:=hide (((ku HB2).drew).trans (hb3.mono (show w.heap.size≤W2.heap.size by omega)));clear hM3 hb3;dsimp only))
    all_goals
     go_wp2
     case roundEnd=>
      refine ⟨⟨1+1,by omega,rfl,?_,((ku HB3).setCell (p:=⟨w.heap.size,9+2 * p,none⟩) (wW _) _)⟩,by simp[intOf]⟩;have h5:=(ku HM3).put (i:=9+2 * p) (by omega) (kw4 o (S[11]'(by omega)));rw[mvF,ku HP,←ku HE1,←ku HE2];exact h5
   ·have e1:S[5]'(by omega)=l.getD (1+2 * 2) 0:=(ku HAT) 5 (by omega);have e2:S[13]'(by omega)=l.getD (9+2 * 2) 0:=(ku HAT) 13 (by omega);have HE1:=hide e1;have HE2:=hide e2;clear e1 e2;go_wp2_with fail
    go_region
    obtain ⟨W2,hW2⟩:∃ W2,W2=(wo.setCell ⟨w.heap.size,1+2 * p,none⟩ (.int .u8 ((S[5]'(by omega)).toNat:Int))).drew:=⟨_,rfl⟩;have hM2:kwz W2 w.heap.size ((mvF o l 2).set (1+2 * p) (S[5]'(by omega))):=by rw[hW2];exact ((ku HMo).put (i:=1+2 * p) (by omega) _).stay rfl
    have hO2:W2.heap[b]?=some (kww o):=by rw[hW2];exact (heap_setCell_other wo _ b _ (by show b≠w.heap.size;omega)).trans (ku HOo)
    have hB2:Below w.heap.size w W2:=by rw[hW2];exact ((ku HBo).setCell (p:=⟨w.heap.size,1+2 * p,none⟩) (wW _) _).drew
    have hs2:w.heap.size<W2.heap.size:=by
     obtain ⟨C,fr,hr,_⟩:=hM2.row;exact kwy hr
    rw[←hW2];clear hW2 q0 f1 c1 HOo HMo HBo;have q2:W2.cell? ⟨b,2,none⟩=some (.int .i64 p):=by rw[zw0 hO2 (by omega),ku HP]
    have f2:=hM2.frozen (i:=9+2 * p) (by omega);have c2:=hM2.cell (i:=9+2 * p) (by omega);have HC:=hide ((ku HR) W2.drew hO2 (S[13]'(by omega)));have HM2:=hide hM2;have HO2:=hide hO2;have HB2:=hide hB2;clear hM2 hO2 hB2;have v1:IntKind.i64.wrap 4=4:=by rw[nK];omega
    have v2:IntKind.i64.wrap 13=13:=by rw[nK];omega
    have v3:IntKind.i64.wrap (2 * (p:Int))=2 * (p:Int):=by rw[nK];omega
    have v4:IntKind.i64.wrap (9+2 * (p:Int))=9+2 * (p:Int):=by rw[nK];omega
    have v5:0≤9+2 * (p:Int):=by omega
    have v6:9+2 * (p:Int)<17:=by omega
    have v7:(9+2 * (p:Int)).toNat=9+2 * p:=by omega
    go_wp2_with fail
    go_region_law ((go_simp;go_at_call 43;refine (ku HC).mono ?_;rintro e w3 ⟨rfl,hb3⟩;have hs3:=hb3.size;have q3:=(hb3.cell (p:=⟨b,2,none⟩) (by show b<W2.heap.size;omega)).trans q2;have hM3:=(ku HM2).stay (hb3.block w.heap.size hs2);have f3:=hM3.frozen (i:=9+2 * p) (by omega);have c3:=hM3.cell (i:=9+2 * p) (by omega);have HM3:=hide hM3;have HB3:=hide (((ku HB2).drew).trans (hb3.mono (show w.heap.size≤W2.heap.size by omega)));clear hM3 hb3;dsimp only))
    all_goals
     go_wp2
     case roundEnd=>
      refine ⟨⟨2+1,by omega,rfl,?_,((ku HB3).setCell (p:=⟨w.heap.size,9+2 * p,none⟩) (wW _) _)⟩,by simp[intOf]⟩;have h5:=(ku HM3).put (i:=9+2 * p) (by omega) (kw4 o (S[13]'(by omega)));rw[mvF,ku HP,←ku HE1,←ku HE2];exact h5
  ·
   obtain rfl:k=3:=by omega
   have hs0:w.heap.size<wo.heap.size:=by
    obtain ⟨C,fr,hr,_⟩:=hM.row;exact kwy hr
   have e1:S[16]'(by omega)=l.getD 16 0:=(ku HAT) 16 (by omega);have HE1:=hide e1;have HC:=hide ((ku HR) wo (ku HOo) (S[16]'(by omega)));clear e1 hM hB HOo;go_wp2_with fail
   refine (ku HC).mono ?_;rintro e w1 ⟨rfl,hb1⟩;have hM1:=(ku HMo).stay (hb1.block w.heap.size hs0);have hB1:=(ku HBo).trans (hb1.mono hsz);have f1:=hM1.frozen (i:=16) (by omega);have c1:=hM1.cell (i:=16) (by omega);have hM5:kwz (w1.setCell ⟨w.heap.size,16,none⟩ (.int .u8 ((kw4 o (S[16]'(by omega))).toNat:Int))) w.heap.size (mvL o l):=by
    have:=hM1.put (i:=16) (by omega) (kw4 o (S[16]'(by omega)));unfold mvL;rw[←ku HE1];exact this
   have hcv2:(convert 83 9 (.slice (some ⟨w.heap.size,0,none⟩) 17 cap)).run Tryz.prog (w1.setCell ⟨w.heap.size,16,none⟩ (.int .u8 ((kw4 o (S[16]'(by omega))).toNat:Int)))=.ok (.string (strOfNums ((mvL o l).map fun c=>(c.toNat:Int)))) (w1.setCell ⟨w.heap.size,16,none⟩ (.int .u8 ((kw4 o (S[16]'(by omega))).toNat:Int))):=by
    refine run_convert_bytes_arg _ 83 5 Tryz.underlying83 Tryz.underlying5 w.heap.size 0 17 cap _ (by rw[sG];exact hM5.len) (fun i hi=>?_) 9 Tryz.underlying9;rw[Qx,hM5.cell hi,l9,l9,lq,ny (by rw[hM5.len];exact hi)];rfl
   have HB5:=hide (hB1.setCell (p:=⟨w.heap.size,16,none⟩) (wW _) (.int .u8 ((kw4 o (S[16]'(by omega))).toNat:Int)));have HSN:=hide (jzu (mvL o l));generalize strOfNums ((mvL o l).map fun c=>(c.toNat:Int))=F at *;clear hM1 hB1 hM5 hb1 HC HMo HBo;go_wp2
   go_ret
   exact ⟨jkx (ku HSN),ku HB5⟩
end Go.Proofs.YtpmcnonmkghokaaGreatDoor
