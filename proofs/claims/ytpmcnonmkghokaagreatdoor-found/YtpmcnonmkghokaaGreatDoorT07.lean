import Derived.Test.YtpmcnonmkghokaaGreatDoorT06
set_option maxRecDepth 100000
set_option maxHeartbeats 8000000
set_option linter.unusedVariables false
set_option linter.unusedSimpArgs false
namespace Go.Proofs.YtpmcnonmkghokaaGreatDoor
open Go.RowKit
attribute [local go_sem ↓] Go.wp_at_zero Go.wp_at_succ
def loopA {α:Type}(L:List Tok)(lit:List UInt8)(one:RS→α × RS):Nat→List α→RS→List α × RS
 | 0,l,s=>(l,s)
 | f+1,l,s=>if zq L lit s then loopA L lit one f (l++[(one s).1]) (one s).2 else (l,s)
def kjf {α:Type}(L:List Tok)(lit:List UInt8)(one:RS→α × RS):Nat→List α→RS→List α × RS
 | 0,l,s=>(l,s)
 | f+1,l,s=>if s.bad then (l,s) else if zq L lit (one s).2 then kjf L lit one f (l++[(one s).1]) (one s).2 else (l++[(one s).1],(one s).2)
theorem qze (L:List Tok):∀ (f:Nat) (l:List PSet) (s:RS),ky8 f L l s=loopA L [115,101,116] (kxx L) f l s
 | 0,_,_=>rfl
 | f+1,l,s=>by rw[ky8,loopA];split;exact qze L f _ _;rfl
theorem qq0 (L:List Tok):∀ (f:Nat) (l:List PKind) (s:RS),qk5 f L l s=loopA L [107,105,110,100] (kjx L) f l s
 | 0,_,_=>rfl
 | f+1,l,s=>by rw[qk5,loopA];split;exact qq0 L f _ _;rfl
theorem kwu (L:List Tok):∀ (f:Nat) (l:List PRule) (s:RS),qzi f L l s=loopA L [110,101,118,101,114] (kqa L) f l s
 | 0,_,_=>rfl
 | f+1,l,s=>by rw[qzi,loopA];split;exact kwu L f _ _;rfl
theorem qqs (L:List Tok):∀ (f:Nat) (l:List PVar) (s:RS),zqs f L l s=kjf L [118,97,114] (kyp L) f l s
 | 0,_,_=>rfl
 | f+1,l,s=>by rw[zqs,kjf];split;rfl;split;exact qqs L f _ _;rfl
theorem kye (L:List Tok):∀ (f:Nat) (l:List PRule) (s:RS),qvf f L l s=kjf L [114,117,108,101] (kql L) f l s
 | 0,_,_=>rfl
 | f+1,l,s=>by rw[qvf,kjf];split;rfl;split;exact kye L f _ _;rfl
theorem zk6 {α β:Type}(h:α→β)(L:List Tok)(lit:List UInt8)(one:RS→α × RS):∀ (f:Nat) (l:List α) (s:RS),kjf L lit (fun s=>(h (one s).1,(one s).2)) f (l.map h) s=((kjf L lit one f l s).1.map h,(kjf L lit one f l s).2)
 | 0,_,_=>rfl
 | f+1,l,s=>by
  rw[kjf,kjf];split
  ·rfl
  ·simp only;split
   ·rw[show l.map h++[h (one s).1]=(l++[(one s).1]).map h by simp];exact zk6 h L lit one f _ _
   ·simp
theorem kxq {α:Type}{L:List Tok}{lit:List UInt8}{one:RS→α × RS}{s:RS}(hb:s.bad=true):∀ (f:Nat) (l:List α),loopA L lit one f l s=(l,s)
 | 0,_=>rfl
 | f+1,l=>by rw[loopA,uy hb];rfl
theorem kx9 {α:Type}{L:List Tok}{lit:List UInt8}{one:RS→α × RS}{s:RS}(hb:s.bad=true):∀ (f:Nat) (l:List α),kjf L lit one f l s=(l,s)
 | 0,_=>rfl
 | f+1,l=>by rw[kjf,hb];rfl
def qqm {α:Type}(L:List Tok)(lit:List UInt8)(one:RS→α × RS)(fin:List α × RS)(l:List α)(s:RS):Prop:=
 (s.bad=true∧fin.2=s)∨(s.bad=false∧∃ g,L.length<s.at_+g∧loopA L lit one g l s=fin)
def qxo {α:Type}(L:List Tok)(lit:List UInt8)(one:RS→α × RS)(fin:List α × RS)(l:List α)(s:RS):Prop:=
 (s.bad=true∧fin.2=s)∨(s.bad=false∧∃ g,L.length<s.at_+g∧(if zq L lit s then kjf L lit one g l s else (l,s))=fin)
theorem qzd {α:Type}{L:List Tok}{lit:List UInt8}{one:RS→α × RS}(s:RS):qqm L lit one (loopA L lit one (uf L) [] s) [] s:=by
 cases hb:s.bad
 ·exact Or.inr ⟨hb,uf L,by unfold uf;omega,rfl⟩
 ·exact Or.inl ⟨hb,by rw[kxq hb]⟩
theorem qky {α:Type}{L:List Tok}{lit:List UInt8}{one:RS→α × RS}{fin:List α × RS}{l:List α}{s:RS}{e:α}(h:qqm L lit one fin l s)(hlt:s.at_<L.length)(hn:zq L lit s=true)(hp:s.at_+1≤(one s).2.at_)(he:(one s).2.bad=false→e=(one s).1):qqm L lit one fin (l++[e]) (one s).2:=by
 rcases h with ⟨hb,_⟩|⟨hb,g,hg,h1⟩
 ·rw[uy hb] at hn;cases hn
 ·obtain ⟨g,rfl⟩:∃ k,g=k+1:=⟨g-1,by omega⟩;rw[loopA,hn] at h1;simp only[if_true] at h1;cases hb2:(one s).2.bad
  ·exact Or.inr ⟨hb2,g,by omega,by rw[he hb2];exact h1⟩
  ·exact Or.inl ⟨hb2,by rw[←h1,kxq hb2]⟩
theorem qwt {α:Type}{L:List Tok}{lit:List UInt8}{one:RS→α × RS}{fin:List α × RS}{l:List α}{s:RS}(h:qqm L lit one fin l s)(hlt:s.at_<L.length)(hn:zq L lit s=false):fin.2=s∧(s.bad=false→fin.1=l):=by
 rcases h with ⟨hb,h1⟩|⟨hb,g,hg,h1⟩
 ·exact ⟨h1,fun h=>by rw[hb] at h;cases h⟩
 ·obtain ⟨g,rfl⟩:∃ k,g=k+1:=⟨g-1,by omega⟩;rw[loopA,hn] at h1;simp only[tJ,if_false] at h1;rw[←h1];exact ⟨rfl,fun _=>rfl⟩
theorem qyj {α:Type}{L:List Tok}{lit:List UInt8}{one:RS→α × RS}{s:RS}{e:α}(hb0:s.bad=true→(one s).2=s)(hm:s.bad=false→s.at_≤(one s).2.at_)(he:(one s).2.bad=false→e=(one s).1):qxo L lit one (kjf L lit one (uf L) [] s) [e] (one s).2:=by
 cases hb:s.bad
 ·unfold uf;rw[kjf,hb];simp only[tJ,if_false,fD];cases hb2:(one s).2.bad
  ·exact Or.inr ⟨hb2,L.length+1,by omega,by rw[he hb2]⟩
  ·exact Or.inl ⟨hb2,by rw[uy hb2];rfl⟩
 ·rw[kx9 hb,hb0 hb];exact Or.inl ⟨hb,rfl⟩
theorem zji {α:Type}{L:List Tok}{lit:List UInt8}{one:RS→α × RS}{fin:List α × RS}{l:List α}{s:RS}{e:α}(h:qxo L lit one fin l s)(hlt:s.at_<L.length)(hn:zq L lit s=true)(hp:(one s).2.bad=false→s.at_+1≤(one s).2.at_)(he:(one s).2.bad=false→e=(one s).1):qxo L lit one fin (l++[e]) (one s).2:=by
 rcases h with ⟨hb,_⟩|⟨hb,g,hg,h1⟩
 ·rw[uy hb] at hn;cases hn
 ·rw[hn] at h1;simp only[if_true] at h1;obtain ⟨g,rfl⟩:∃ k,g=k+1:=⟨g-1,by omega⟩;rw[kjf,hb] at h1;simp only[tJ,if_false] at h1;cases hb2:(one s).2.bad
  ·have:=hp hb2;exact Or.inr ⟨hb2,g,by omega,by rw[he hb2];exact h1⟩
  ·refine Or.inl ⟨hb2,?_⟩;rw[uy hb2] at h1;rw[←h1];rfl
theorem zku {α:Type}{L:List Tok}{lit:List UInt8}{one:RS→α × RS}{fin:List α × RS}{l:List α}{s:RS}(h:qxo L lit one fin l s)(hn:zq L lit s=false):fin.2=s∧(s.bad=false→fin.1=l):=by
 rcases h with ⟨hb,h1⟩|⟨hb,g,hg,h1⟩
 ·exact ⟨h1,fun h=>by rw[hb] at h;cases h⟩
 ·rw[hn] at h1;simp only[tJ,if_false] at h1;rw[←h1];exact ⟨rfl,fun _=>rfl⟩
theorem qy1 {L:List Tok}{st:RS}(h:st.bad=true):(kjz L st).2=st:=by unfold kjz;rw[uy h];rfl
theorem zqf {L:List Tok}{st:RS}(h:st.bad=true):(kk5 L st).2=st:=by unfold kk5;rw[uy h,uy h];exact kj1 h
theorem jz0 {L:List Tok}{st:RS}(h:st.bad=true):(kyp L st).2=st:=by
 show qp L [59] (kk5 L (kjz L (qp L [58] (qh L [110,97,109,101] (qp L [118,97,114] st)).2)).2).2=st;rw[dn (L:=L) (s:=[118,97,114]) h,kj1 h,dn (L:=L) (s:=[58]) h,qy1 h,zqf h,dn h]
theorem jz3 {L:List Tok}{st:RS}(h:st.bad=true):∀ (f:Nat) (l:List PP),kw2 f L l st=(l,st)
 | 0,_=>rfl
 | f+1,l=>by rw[kw2,h];rfl
theorem zzi {L:List Tok}{st:RS}(h:st.bad=true):(kqn L st).2=st:=by
 unfold kqn;rw[dn (L:=L) (s:=[40]) h,uy h];simp only[tJ,if_false];rw[jz3 h,dn h]
theorem zvk {L:List Tok}{st:RS}(h:st.bad=true):(kql L st).2=st:=by
 rw[zxr (L:=L) (st:=st) rfl rfl rfl rfl rfl rfl];simp only;rw[dn (L:=L) (s:=[114,117,108,101]) h,kj1 h,zzi h,dn (L:=L) (s:=[105,102]) h,kqm h,kzn h]
def yg (x:PVar):VrT:=⟨x.name,!(x.over.kind.toList==[]),x.over,if x.type_.kind.toList==[119,111,114,100] then (if x.type_.text.toList==[98,111,111,108] then ⟨0,jy,jy⟩ else ⟨1,x.top,jy⟩) else ⟨2,jy,x.type_⟩⟩
theorem qw1 {L:List Tok}{st:RS}(hL:pq L)(hlt:st.at_<L.length){l:List UInt8}(hl:l∈lits)(hw:∃ c r,l=c::r∧(decide (97≤(c.toNat:Int))&&decide ((c.toNat:Int)≤122))=true)(h:zq L l st=true):((tk L st.at_).kind.toList==[119,111,114,100])=true:=by
 obtain ⟨c,r,e,hc⟩:=hw;have ht:=(kq3 h).1;exact (hL.ok _ hlt).jy6 hl ht (by rw[qw8 (ht.trans e)];exact hc)
theorem vkp {L:List Tok}{st:RS}(hL:pq L)(hlt:st.at_<L.length)(hb:(kk5 L st).2.bad=false):siT L st=if (tk L st.at_).kind.toList==[119,111,114,100] then (if (tk L st.at_).text.toList==[98,111,111,108] then ⟨0,jy,jy⟩ else ⟨1,(kk5 L st).1,jy⟩) else ⟨2,jy,tk L st.at_⟩:=by
 unfold siT kk5 at *;cases h1:zq L [98,111,111,108] st
 ·rw[h1] at hb;simp only[tJ,if_false] at hb ⊢;cases h2:zq L [116,111] st
  ·rw[h2] at hb;simp only[tJ,if_false] at hb ⊢;have hk:kqk L [110,97,109,101] st=true:=by
    cases hk:kqk L [110,97,109,101] st
    ·unfold qh at hb;rw[hk] at hb;simp at hb
    ·rfl
   have e1:(qh L [110,97,109,101] st).1=tk L st.at_:=by unfold qh;rw[hk];rfl
   unfold kqk at hk;simp only[wG] at hk;have:=hk.2;rw[rZ] at this;rw[e1,this];rfl
  ·simp only[if_true];rw[qw1 hL hlt (by decide) ⟨_,_,rfl,by decide⟩ h2];have ht:=(kq3 h2).1;rw[ht];rfl
 ·simp only[if_true];rw[qw1 hL hlt (by decide) ⟨_,_,rfl,by decide⟩ h1];have ht:=(kq3 h1).1;rw[ht];rfl
theorem zwj {L:List Tok}{st:RS}(hL:pq L)(hF:qkc L)(hlt:st.at_<L.length)(hb:(kyp L st).2.bad=false):vrT L st=yg (kyp L st).1:=by
 have h5:(kk5 L (kjz L (qxe L st)).2).2.bad=false:=kj2 (s:=[59]) hb;have h4:(kjz L (qxe L st)).2.bad=false:=by
  cases hh:(kjz L (qxe L st)).2.bad
  ·rfl
  ·rw[zqf hh,hh] at h5;cases h5
 have h3:(qxe L st).bad=false:=by
  cases hh:(qxe L st).bad
  ·rfl
  ·rw[qy1 hh,hh] at h4;cases h4
 have h2:(qh L [110,97,109,101] (qp L [118,97,114] st)).2.bad=false:=kj2 (s:=[58]) h3;have h1:(qp L [118,97,114] st).bad=false:=by
  cases hh:(qp L [118,97,114] st).bad
  ·rfl
  ·rw[kj1 hh,hh] at h2;cases h2
 obtain ⟨_,_,l1⟩:=jl hF hlt h1;obtain ⟨_,_,_,_,l2⟩:=kqi hF l1 rfl h2;obtain ⟨_,_,l3⟩:=jl hF l2 h3;have hov:zq L [91] (qxe L st)=(!((kjz L (qxe L st)).1.kind.toList==[]))∧(kjz L (qxe L st)).2.at_<L.length:=by
  have l3':(qxe L st).at_<L.length:=l3;generalize qxe L st=s3 at *;unfold kjz at h4 ⊢;cases hn:zq L [91] s3
  ·simp only[tJ,if_false];exact ⟨by rw[kqh];rfl,l3'⟩
  ·rw[hn] at h4;simp only[if_true] at h4 ⊢;have hk:(qh L [110,97,109,101] (qp L [91] s3)).2.bad=false:=kj2 h4;have hm:(qp L [91] s3).bad=false:=by
    cases hh:(qp L [91] s3).bad
    ·rfl
    ·rw[kj1 hh,hh] at hk;cases hk
   obtain ⟨_,_,m1⟩:=jl hF l3' hm;obtain ⟨_,e1,e2,_,m2⟩:=kqi hF m1 rfl hk;obtain ⟨_,_,m3⟩:=jl hF m2 h4;refine ⟨?_,m3⟩;rw[e1];rw[rZ] at e2;rw[e2];rfl
 have hsi:=vkp hL hov.2 h5;show (⟨_,zq L [91] (qxe L st),_,siT L (kjz L (qxe L st)).2⟩:VrT)=_;rw[hov.1,hsi];rfl
theorem Tryz.infoSSet:(Tryz.prog.info? 111).map (fun i=>(i.zero,i.size,i.bytes))=some (some (.agg #[.string ⟨#[]⟩,.int .i64 0,.int .i64 0,.int .i64 0]),4,40):=by kernel_rfl
theorem Tryz.infoSKind:(Tryz.prog.info? 114).map (fun i=>(i.zero,i.size,i.bytes))=some (some (.agg #[.string ⟨#[]⟩,.int .i64 0,.slice none 0 0]),3,48):=by kernel_rfl
theorem Tryz.infoSVar:(Tryz.prog.info? 121).map (fun i=>(i.zero,i.size,i.bytes))=some (some (.agg #[.string ⟨#[]⟩,.int .i64 0,.bool false,.string ⟨#[]⟩,.int .i64 0,.int .i64 0,.int .i64 0,.int .i64 0,.string ⟨#[]⟩,.int .i64 0]),10,104):=by kernel_rfl
theorem Tryz.infoSRule:(Tryz.prog.info? 127).map (fun i=>(i.zero,i.size,i.bytes))=some (some (.agg #[.string ⟨#[]⟩,.int .i64 0,.slice none 0 0,.pointer none,.slice none 0 0]),5,80):=by kernel_rfl
theorem Tryz.infoSNever:(Tryz.prog.info? 130).map (fun i=>(i.zero,i.size,i.bytes))=some (some (.agg #[.string ⟨#[]⟩,.int .i64 0,.slice none 0 0,.pointer none]),4,56):=by kernel_rfl
def vvu (P:Nat)(v:Value)(L:List Tok)(w:World)(e:Ending)(w':World):Prop:=
 ∃ x0 x1 x2 x3 x4 m,e=.returned (.agg #[x0,x1,x2,x3,x4])∧kk6 w.heap.size w' x0 x1 x2 x3 x4 m∧((kxu L).2.bad=false→m=⟨(kqd L).1.sets,(kqd L).1.kinds,(kqd L).1.vars.map yg,(kqd L).1.rules,(kqd L).1.nevers⟩)∧Pd w' P v L (kxu L).2∧Kept P w w'∧((∃ a l c,x0=.slice a l c)∧(∃ a l c,x1=.slice a l c)∧(∃ a l c,x2=.slice a l c)∧(∃ a l c,x3=.slice a l c)∧(∃ a l c,x4=.slice a l c))
theorem vki (t:ByteArray)(n:Int)(a:Option Addr)(m:Nat){c:Nat}:∀ u∈[Value.string t,.int .i64 n,.slice a m c],u.oneCell'=true:=by
 intro u h;simp only[tX,nM,or_false] at h;rcases h with rfl|rfl|rfl<;>rfl
def qvc (L:List Tok)(s:RS):VrT × RS:=(yg (kyp L s).1,(kyp L s).2)
theorem jk9 {L:List Tok}{l:List UInt8}{s:RS}(h:zq L l s=true)(ho:opens l=false)(hs:shuts l=false):(qp L l s).at_=s.at_+1:=by
 rw[kjm ho hs];unfold qve;rw[h];rfl
theorem vvp {L:List Tok}{s:RS}(h:zq L [118,97,114] s=true):s.at_+1≤(qvc L s).2.at_:=by
 have:=zxh L s;rw[jk9 h rfl rfl] at this;exact this
theorem vvr {L:List Tok}{s:RS}(h:zq L [114,117,108,101] s=true):s.at_+1≤(kql L s).2.at_:=by
 have:=qwi L s;rw[jk9 h rfl rfl] at this;exact this
theorem vvd (L:List Tok)(s:RS):s.at_≤(qvc L s).2.at_:=rQ (zo L [118,97,114] s) (zxh L s)
theorem vvn (L:List Tok)(s:RS):s.at_≤(kql L s).2.at_:=rQ (zo L [114,117,108,101] s) (qwi L s)
theorem zxy {L:List Tok}{finS:List PSet × RS}{finK:List PKind × RS}{finV:List VrT × RS}{finR finN:List PRule × RS}(hS:finS=loopA L [115,101,116] (kxx L) (uf L) [] kqq)(hK:finK=loopA L [107,105,110,100] (kjx L) (uf L) [] finS.2)
  (hV:finV=kjf L [118,97,114] (qvc L) (uf L) [] finK.2) (hR:finR=kjf L [114,117,108,101] (kql L) (uf L) [] finV.2) (hN:finN=loopA L [110,101,118,101,114] (kqa L) (uf L) [] finR.2) :
  kxu L=finN∧kw6 L=finR∧finV=((kkn L).1.map yg,(kkn L).2)∧finK=(kz1 L kqq).2∧(kz1 L kqq).1=finS.1:=by
 have eS:ky8 (uf L) L [] kqq=finS:=by rw[qze,hS]
 have eH:kz1 L kqq=(finS.1,finK):=by
  unfold kz1;rw[eS,qq0,hK]
 have eV:finV=((kkn L).1.map yg,(kkn L).2):=by
  unfold kkn;rw[eH,qqs,hV];exact zk6 yg L [118,97,114] (kyp L) (uf L) [] finK.2
 have eR:kw6 L=finR:=by
  unfold kw6;rw[kye,hR,eV]
 refine ⟨?_,eR,eV,by rw[eH],by rw[eH]⟩;unfold kxu;rw[kwu,hN,eR]
theorem qz7 {lo:Nat}{w:World}{x0 x1 x2 x3 x4:Value}{m:MdL}(h:kk6 lo w x0 x1 x2 x3 x4 m):(∃ a l c,x0=.slice a l c)∧(∃ a l c,x1=.slice a l c)∧(∃ a l c,x2=.slice a l c)∧(∃ a l c,x3=.slice a l c)∧(∃ a l c,x4=.slice a l c):=
 ⟨zu h.o0,zu h.o1.choose_spec.1,zu h.o2,zu h.o3.choose_spec.1,zu h.o4.choose_spec.1⟩
theorem jz7 (w:World)(P:Nat)(v:Value)(L:List Tok)(hF:qkc L)(h:Pd w P v L kqq) :
  Calls Tryz.prog 88 #[.pointer (some ⟨P,0,none⟩)] w fun e w'=>vvu P v L w e w':=by
 obtain ⟨i0,hi0,hz00,hz01,hz02⟩:=info_parts Tryz.infoSSet;obtain ⟨i1,hi1,hz10,hz11,hz12⟩:=info_parts Tryz.infoSKind;obtain ⟨i2,hi2,hz20,hz21,hz22⟩:=info_parts Tryz.infoSVar;obtain ⟨i3,hi3,hz30,hz31,hz32⟩:=info_parts Tryz.infoSRule;obtain ⟨i4,hi4,hz40,hz41,hz42⟩:=info_parts Tryz.infoSNever;have hX:=h.in;have HV:=hide h.kqs;have hL:=h.ok;have hlen:=hL.len;have HK0:=hide (qzd (L:=L) (lit:=[115,101,116]) (one:=kxx L) kqq);obtain ⟨finS,hfS⟩:∃ f,f=loopA L [115,101,116] (kxx L) (uf L) [] kqq:=⟨_,rfl⟩;rw[←hfS] at HK0;have HK1:=hide (qzd (L:=L) (lit:=[107,105,110,100]) (one:=kjx L) finS.2);obtain ⟨finK,hfK⟩:∃ f,f=loopA L [107,105,110,100] (kjx L) (uf L) [] finS.2:=⟨_,rfl⟩;rw[←hfK] at HK1;obtain ⟨finV,hfV⟩:∃ f,f=kjf L [118,97,114] (qvc L) (uf L) [] finK.2:=⟨_,rfl⟩;have HK2:=hide hfV.symm;obtain ⟨finR,hfR⟩:∃ f,f=kjf L [114,117,108,101] (kql L) (uf L) [] finV.2:=⟨_,rfl⟩;have HK3:=hide hfR.symm;have HK4:=hide (qzd (L:=L) (lit:=[110,101,118,101,114]) (one:=kqa L) finR.2);obtain ⟨finN,hfN⟩:∃ f,f=loopA L [110,101,118,101,114] (kqa L) (uf L) [] finR.2:=⟨_,rfl⟩;rw[←hfN] at HK4;have HTS:=hide hfS;have HTK:=hide hfK;have HTV:=hide hfV;have HTR:=hide hfR;have HTN:=hide hfN;clear hfS hfK hfV hfR hfN;have H:=hide h;clear h;go_enter Tryz.func88,Tryz.ntmps88
 have HLoop0:=hide (show ∃ (x:Value) (l:List PSet) (s:RS),qqm L [115,101,116] (kxx L) finS l s∧l.length≤s.at_∧kjw w P v L w.heap.size (w.heap.size+1) x (.slice none 0 0) (.slice none 0 0) (.slice none 0 0) (.slice none 0 0) ⟨l,[],[],[],[]⟩ s ((w.alloc (.cells #[.slice none 0 0,.slice none 0 0,.slice none 0 0,.slice none 0 0,.slice none 0 0] 68)).alloc (.cells #[.slice none 0 0,.slice none 0 0,.slice none 0 0,.slice none 0 0,.slice none 0 0] 68)) from
  ⟨.slice none 0 0,[],kqq,ku HK0,by simp,⟨ql (qg _ _),by have:=qg (w.alloc (.cells #[.slice none 0 0,.slice none 0 0,.slice none 0 0,.slice none 0 0,.slice none 0 0] 68)) (.cells #[.slice none 0 0,.slice none 0 0,.slice none 0 0,.slice none 0 0,.slice none 0 0] 68);simpa using this,⟨rW _ _ _ _,⟨[],rW _ _ _ _,rfl⟩,rW _ _ _ _,⟨[],rW _ _ _ _,rfl⟩,⟨[],rW _ _ _ _,rfl⟩⟩,((ku H).alloc _).alloc _,((Kept.refl _ _).alloc _).alloc _⟩⟩)
 go_wp2_with fail
 go_loopw [] (fun wr=>∃ (x:Value) (l:List PSet) (s:RS),qqm L [115,101,116] (kxx L) finS l s∧l.length≤s.at_∧kjw w P v L w.heap.size (w.heap.size+1) x (.slice none 0 0) (.slice none 0 0) (.slice none 0 0) (.slice none 0 0) ⟨l,[],[],[],[]⟩ s wr) (fun wr=>L.length-qxw wr P)
 case atStart=>exact ku HLoop0
 case round=>
  obtain ⟨x,l,s,hleft,hal,hR⟩:=hrel;have hlt:=hR.pd.lt;have HL0:=hide hleft;have HR0:=hide hR;clear hleft hR HLoop0;go_wp2_with fail
  refine (kwf [115,101,116] (by decide) _ P v L s (ku HR0).pd).mono ?_;rintro e wa0 ⟨rfl,ha,hka⟩;have HRa0:=hide ((ku HR0).kept' hka ha (by omega) (by omega));clear ha hka;cases hc:zq L [115,101,116] s
  ·obtain ⟨he0,hf0⟩:=qwt (ku HL0) hlt hc;have HE0:=hide he0;have HF0:=hide hf0;clear he0 hf0 HL0 HR0;obtain ⟨y0,hy0⟩:∃ y,y=x:=⟨_,rfl⟩;obtain ⟨l0,hl0⟩:∃ y,y=l:=⟨_,rfl⟩;obtain ⟨s0,hs0⟩:∃ y,y=s:=⟨_,rfl⟩;rw[←hl0] at HF0 HRa0;rw[←hs0] at HE0 HF0 HRa0 hlt hc;rw[←hy0] at HRa0;clear hy0 hl0 hs0 hal x l s;have HLoop1:=hide (show ∃ (x:Value) (l:List PKind) (s:RS),qqm L [107,105,110,100] (kjx L) finK l s∧l.length≤s.at_∧kjw w P v L w.heap.size (w.heap.size+1) y0 x (.slice none 0 0) (.slice none 0 0) (.slice none 0 0) ⟨l0,l,[],[],[]⟩ s wa0 from ⟨_,[],s0,by rw[←show finS.2=s0 from ku HE0];exact ku HK1,by simp,ku HRa0⟩);clear hlt hc HRa0;go_wp2_with fail
   go_loopw [] (fun wr=>∃ (x:Value) (l:List PKind) (s:RS),qqm L [107,105,110,100] (kjx L) finK l s∧l.length≤s.at_∧kjw w P v L w.heap.size (w.heap.size+1) y0 x (.slice none 0 0) (.slice none 0 0) (.slice none 0 0) ⟨l0,l,[],[],[]⟩ s wr) (fun wr=>L.length-qxw wr P)
   case atStart=>exact ku HLoop1
   case round=>
    obtain ⟨x,l,s,hleft,hal,hR⟩:=hrel;have hlt:=hR.pd.lt;have HL1:=hide hleft;have HR1:=hide hR;clear hleft hR HLoop1;go_wp2_with fail
    refine (kwf [107,105,110,100] (by decide) _ P v L s (ku HR1).pd).mono ?_;rintro e wa1 ⟨rfl,ha,hka⟩;have HRa1:=hide ((ku HR1).kept' hka ha (by omega) (by omega));clear ha hka;cases hc:zq L [107,105,110,100] s
    ·obtain ⟨he1,hf1⟩:=qwt (ku HL1) hlt hc;have HE1:=hide he1;have HF1:=hide hf1;clear he1 hf1 HL1 HR1;obtain ⟨y1,hy1⟩:∃ y,y=x:=⟨_,rfl⟩;obtain ⟨l1,hl1⟩:∃ y,y=l:=⟨_,rfl⟩;obtain ⟨s1,hs1⟩:∃ y,y=s:=⟨_,rfl⟩;rw[←hl1] at HF1 HRa1;rw[←hs1] at HE1 HF1 HRa1 hlt hc;rw[←hy1] at HRa1;clear hy1 hl1 hs1 hal x l s;go_upto_region 6 with fail
     go_cut [] from 22 to 28 (fun wx=>∃ (x:Value) (e:VrT),(((qvc L) s1).2.bad=false→e=((qvc L) s1).1)∧kjw w P v L w.heap.size (w.heap.size+1) y0 y1 x (.slice none 0 0) (.slice none 0 0) ⟨l0,l1,[e],[],[]⟩ ((qvc L) s1).2 wx)
     case first=>
      obtain ⟨_,_,q2,_,_,_,_,r2,_,_⟩:=jq (ku HRa1).b1;have hsz3:=wZ (ku HRa1).b1;go_region_law (first
       | (refine step_append_lies _ (by rfl) _ _ _ (by rfl) (w.heap.size+1+1) 121 i2 _ 10 104 Tryz.underlying64 hi2 hz20 hz21 hz22 rfl (by omega) (.slice none 0 0) ([]:List VrT).length (jju ([]:List VrT)) (by rfl) ((ku HR5).md.o2.alloc _) ⟨w5.heap.size,0,none⟩ 1 1 (kqx (vrT L s1)) (by rfl) (by rfl) (World.news_of_block (cs:=(kqx (vrT L s1)).toArray) (t:=121) (fr:=(0,0)) (heap_alloc_new w5 _)) (qws _) (by omega) (by unfold maxLen;simp) (by simp) (by simp;omega) (w5.heap.size+1) (by simp) ?_;intro gg cap w6 hown6 hgrow hat hlt6;have hf6:w6.frozen? ⟨w.heap.size+1,2,none⟩=false:=(hgrow.frozen_far _ (by simp;omega) (show some (w.heap.size+1)≠_ from fun e=>by have:=hge5 _ e.symm;omega)).trans (kjq (below_alloc1 _ _) hsz5 r5);have hc6:w6.cell? ⟨w.heap.size+1,2,none⟩=some (.slice none 0 0):=(hgrow.cell_far _ (by simp;omega) (show some (w.heap.size+1)≠_ from fun e=>by have:=hge5 _ e.symm;omega)).trans (fZ (below_alloc1 _ _) q5))
       | (go_simp;go_at_call 149;refine (qxc _ P v L s1 ((ku HRa1).pd.below ((Below.refl _ _).drew))).mono ?_;rintro e w5 ⟨rfl,h5,hk5⟩;have hR5:=(ku HRa1).kept' ((Kept.refl _ _).drew.trans hk5) h5 (by omega) (by omega);obtain ⟨_,_,q5,_,_,_,_,r5,_,_⟩:=jq hR5.b1;have hge5:=vg hR5.md.o2;have HR5:=hide hR5;have hsz5:=wZ hR5.b1;unfold vrV kqx;clear h5 hk5 hR5;dsimp only))
      all_goals
       go_wp2_with fail
       go_meet
       exact ⟨_,vrT L s1,fun hb=>(by unfold qvc;exact zwj hL hF hlt hb),(ku HR5).more2 (e:=vrT L s1) hgrow hown6 (ku HV) hX rfl (by omega)⟩
     case rest=>
     obtain ⟨x,ev,hev,hRv⟩:=hcut;have HLoop2:=hide (show ∃ (x:Value) (l:List VrT) (s:RS),qxo L [118,97,114] (qvc L) finV l s∧l.length≤s.at_+1∧kjw w P v L w.heap.size (w.heap.size+1) y0 y1 x (.slice none 0 0) (.slice none 0 0) ⟨l0,l1,l,[],[]⟩ s wc from ⟨x,[ev],((qvc L) s1).2,by rw[←ku HK2,show finK.2=s1 from ku HE1];exact qyj (fun hb=>jz0 hb) (fun hb=>vvd L s1) hev,by simp,hRv⟩);clear hlt hc HRa1 hev hRv;go_wp2_with fail
     go_loopw [] (fun wr=>∃ (x:Value) (l:List VrT) (s:RS),qxo L [118,97,114] (qvc L) finV l s∧l.length≤s.at_+1∧kjw w P v L w.heap.size (w.heap.size+1) y0 y1 x (.slice none 0 0) (.slice none 0 0) ⟨l0,l1,l,[],[]⟩ s wr) (fun wr=>L.length-qxw wr P)
     case atStart=>exact ku HLoop2
     case round=>
      obtain ⟨x,l,s,hleft,hal,hR⟩:=hrel;have hlt:=hR.pd.lt;have HL2:=hide hleft;have HR2:=hide hR;clear hleft hR HLoop2;go_wp2_with fail
      refine (kwf [118,97,114] (by decide) _ P v L s (ku HR2).pd).mono ?_;rintro e wa2 ⟨rfl,ha,hka⟩;have HRa2:=hide ((ku HR2).kept' hka ha (by omega) (by omega));clear ha hka;cases hc:zq L [118,97,114] s
      ·obtain ⟨he2,hf2⟩:=zku (ku HL2) hc;have HE2:=hide he2;have HF2:=hide hf2;clear he2 hf2 HL2 HR2;obtain ⟨y2,hy2⟩:∃ y,y=x:=⟨_,rfl⟩;obtain ⟨l2,hl2⟩:∃ y,y=l:=⟨_,rfl⟩;obtain ⟨s2,hs2⟩:∃ y,y=s:=⟨_,rfl⟩;rw[←hl2] at HF2 HRa2;rw[←hs2] at HE2 HF2 HRa2 hlt hc;rw[←hy2] at HRa2;clear hy2 hl2 hs2 hal x l s;go_upto_region 9 with fail
       go_cut [] from 38 to 44 (fun wx=>∃ (x:Value) (e:PRule),(((kql L) s2).2.bad=false→e=((kql L) s2).1)∧kjw w P v L w.heap.size (w.heap.size+1) y0 y1 y2 x (.slice none 0 0) ⟨l0,l1,l2,[e],[]⟩ ((kql L) s2).2 wx)
       case first=>
        obtain ⟨_,_,_,q2,_,_,_,_,r2,_⟩:=jq (ku HRa2).b1;have hsz3:=wZ (ku HRa2).b1;go_region_law (first
         | (refine step_append_lies _ (by rfl) _ _ _ (by rfl) (w.heap.size+1+1) 127 i3 _ 5 80 Tryz.underlying65 hi3 hz30 hz31 hz32 rfl (by omega) (.slice none 0 0) ([]:List PRule).length cs5 (by rfl) ((ku HO5).alloc _) ⟨w5.heap.size,0,none⟩ 1 1 [c0,c1,c2,c3,c4] (by rfl) (by rfl) (World.news_of_block (cs:=[c0,c1,c2,c3,c4].toArray) (t:=127) (fr:=(0,0)) (heap_alloc_new w5 _)) (ku HONE) (by omega) (by unfold maxLen;simp) (by simp) (by simp;omega) (w5.heap.size+1) (by simp) ?_;intro gg cap w6 hown6 hgrow hat hlt6;have hf6:w6.frozen? ⟨w.heap.size+1,3,none⟩=false:=(hgrow.frozen_far _ (by simp;omega) (show some (w.heap.size+1)≠_ from fun e=>by have:=hge5 _ e.symm;omega)).trans (kjq (below_alloc1 _ _) hsz5 r5);have hc6:w6.cell? ⟨w.heap.size+1,3,none⟩=some (.slice none 0 0):=(hgrow.cell_far _ (by simp;omega) (show some (w.heap.size+1)≠_ from fun e=>by have:=hge5 _ e.symm;omega)).trans (fZ (below_alloc1 _ _) q5))
         | (go_simp;go_at_call 150;refine (zxf _ P v L s2 ((ku HRa2).pd.below ((Below.refl _ _).drew))).mono ?_;rintro e w5 ⟨c0,c1,c2,c3,c4,rr,rfl,hnew0,hone,hgr,h5,hk5⟩;have hR5:=(ku HRa2).kept' ((Kept.refl _ _).drew.trans hk5) h5 (by omega) (by omega);obtain ⟨_,_,_,q5,_,_,_,_,r5,_⟩:=jq hR5.b1;have hge5:=vg hR5.md.o3.choose_spec.1;have HR5:=hide hR5;have hsz5:=wZ hR5.b1;obtain ⟨cs5,ho5,hin5⟩:=hR5.md.o3;have HO5:=hide ho5;have HIN:=hide hin5;have HNW:=hide (hnew0.mono (lo':=w.heap.size+1+1) (by have:=wZ (ku HRa2).b1;simp;omega));have HGR:=hide hgr;have HONE:=hide hone;clear ho5 hin5 hnew0 hgr hone;clear h5 hk5 hR5;dsimp only))
        all_goals
         go_wp2_with fail
         go_meet
         exact ⟨_,_,ku HGR,(ku HR5).more3 hgrow hown6 (ku HIN) (ku HNW) (ku HV) hX rfl (by omega)⟩
       case rest=>
       obtain ⟨x,ev,hev,hRv⟩:=hcut;have HLoop3:=hide (show ∃ (x:Value) (l:List PRule) (s:RS),qxo L [114,117,108,101] (kql L) finR l s∧l.length≤s.at_+1∧kjw w P v L w.heap.size (w.heap.size+1) y0 y1 y2 x (.slice none 0 0) ⟨l0,l1,l2,l,[]⟩ s wc from ⟨x,[ev],((kql L) s2).2,by rw[←ku HK3,show finV.2=s2 from ku HE2];exact qyj (fun hb=>zvk hb) (fun hb=>vvn L s2) hev,by simp,hRv⟩);clear hlt hc HRa2 hev hRv;go_wp2_with fail
       go_loopw [] (fun wr=>∃ (x:Value) (l:List PRule) (s:RS),qxo L [114,117,108,101] (kql L) finR l s∧l.length≤s.at_+1∧kjw w P v L w.heap.size (w.heap.size+1) y0 y1 y2 x (.slice none 0 0) ⟨l0,l1,l2,l,[]⟩ s wr) (fun wr=>L.length-qxw wr P)
       case atStart=>exact ku HLoop3
       case round=>
        obtain ⟨x,l,s,hleft,hal,hR⟩:=hrel;have hlt:=hR.pd.lt;have HL3:=hide hleft;have HR3:=hide hR;clear hleft hR HLoop3;go_wp2_with fail
        refine (kwf [114,117,108,101] (by decide) _ P v L s (ku HR3).pd).mono ?_;rintro e wa3 ⟨rfl,ha,hka⟩;have HRa3:=hide ((ku HR3).kept' hka ha (by omega) (by omega));clear ha hka;cases hc:zq L [114,117,108,101] s
        ·obtain ⟨he3,hf3⟩:=zku (ku HL3) hc;have HE3:=hide he3;have HF3:=hide hf3;clear he3 hf3 HL3 HR3;obtain ⟨y3,hy3⟩:∃ y,y=x:=⟨_,rfl⟩;obtain ⟨l3,hl3⟩:∃ y,y=l:=⟨_,rfl⟩;obtain ⟨s3,hs3⟩:∃ y,y=s:=⟨_,rfl⟩;rw[←hl3] at HF3 HRa3;rw[←hs3] at HE3 HF3 HRa3 hlt hc;rw[←hy3] at HRa3;clear hy3 hl3 hs3 hal x l s;have HLoop4:=hide (show ∃ (x:Value) (l:List PRule) (s:RS),qqm L [110,101,118,101,114] (kqa L) finN l s∧l.length≤s.at_∧kjw w P v L w.heap.size (w.heap.size+1) y0 y1 y2 y3 x ⟨l0,l1,l2,l3,l⟩ s wa3 from ⟨_,[],s3,by rw[←show finR.2=s3 from ku HE3];exact ku HK4,by simp,ku HRa3⟩);clear hlt hc HRa3;go_wp2_with fail
         go_loopw [] (fun wr=>∃ (x:Value) (l:List PRule) (s:RS),qqm L [110,101,118,101,114] (kqa L) finN l s∧l.length≤s.at_∧kjw w P v L w.heap.size (w.heap.size+1) y0 y1 y2 y3 x ⟨l0,l1,l2,l3,l⟩ s wr) (fun wr=>L.length-qxw wr P)
         case atStart=>exact ku HLoop4
         case round=>
          obtain ⟨x,l,s,hleft,hal,hR⟩:=hrel;have hlt:=hR.pd.lt;have HL4:=hide hleft;have HR4:=hide hR;clear hleft hR HLoop4;go_wp2_with fail
          refine (kwf [110,101,118,101,114] (by decide) _ P v L s (ku HR4).pd).mono ?_;rintro e wa4 ⟨rfl,ha,hka⟩;have HRa4:=hide ((ku HR4).kept' hka ha (by omega) (by omega));clear ha hka;cases hc:zq L [110,101,118,101,114] s
          ·obtain ⟨he4,hf4⟩:=qwt (ku HL4) hlt hc;have HE4:=hide he4;have HF4:=hide hf4;clear he4 hf4 HL4 HR4;obtain ⟨y4,hy4⟩:∃ y,y=x:=⟨_,rfl⟩;obtain ⟨l4,hl4⟩:∃ y,y=l:=⟨_,rfl⟩;obtain ⟨s4,hs4⟩:∃ y,y=s:=⟨_,rfl⟩;rw[←hl4] at HF4 HRa4;rw[←hs4] at HE4 HF4 HRa4 hlt hc;rw[←hy4] at HRa4;clear hy4 hl4 hs4 hal x l s;obtain ⟨d0,d1,d2,d3,d4,e0,e1,e2,e3,e4⟩:=jq (ku HRa4).b0;obtain ⟨g0,g1,g2,g3,g4,_⟩:=jq (ku HRa4).b1;have hso:=qz7 (ku HRa4).md;obtain ⟨⟨a0,n0,k0,rfl⟩,⟨a1,n1,k1,rfl⟩,⟨a2,n2,k2,rfl⟩,⟨a3,n3,k3,rfl⟩,⟨a4,n4,k4,rfl⟩⟩:=hso;go_wp2
           refine wC (v:=.agg #[.slice a0 n0 k0,.slice a1 n1 k1,.slice a2 n2 k2,.slice a3 n3 k3,.slice a4 n4 k4]) (ru Tryz.results88 _ _ w.heap.size _ _ _ _ rfl (kjy (ku HRa4).b0 _ _ _ _ _) Tryz.underlying68 rfl (by kernel_rfl)) rfl ?_;refine ⟨_,_,_,_,_,⟨l0,l1,l2,l3,l4⟩,rfl,?_,?_,?_,(ku HRa4).kept.kkc (wX _) _ _ _ _ _,⟨⟨_,_,_,rfl⟩,⟨_,_,_,rfl⟩,⟨_,_,_,rfl⟩,⟨_,_,_,rfl⟩,⟨_,_,_,rfl⟩⟩⟩
           ·exact ((ku HRa4).md.stay ((yj.refl (w.heap.size+1+1) _).kkc (Or.inl (by omega)) _ _ _ _ _).block).mono (by omega)
           ·have hT:=zxy (ku HTS) (ku HTK) (ku HTV) (ku HTR) (ku HTN);intro hb;rw[hT.1] at hb;have bR:finR.2.bad=false:=by
             cases hh:finR.2.bad
             ·rfl
             ·rw[ku HTN,kxq hh] at hb;simp only at hb;rw[hh] at hb;cases hb
            have bV:finV.2.bad=false:=by
             cases hh:finV.2.bad
             ·rfl
             ·rw[ku HTR,kx9 hh] at bR;simp only at bR;rw[hh] at bR;cases bR
            have bK:finK.2.bad=false:=by
             cases hh:finK.2.bad
             ·rfl
             ·rw[ku HTV,kx9 hh] at bV;simp only at bV;rw[hh] at bV;cases bV
            have bS:finS.2.bad=false:=by
             cases hh:finS.2.bad
             ·rfl
             ·rw[ku HTK,kxq hh] at bK;simp only at bK;rw[hh] at bK;cases bK
            have q0:=(ku HF0) (by rw[←ku HE0];exact bS);have q1:=(ku HF1) (by rw[←ku HE1];exact bK);have q2:=(ku HF2) (by rw[←ku HE2];exact bV);have q3:=(ku HF3) (by rw[←ku HE3];exact bR);have q4:=(ku HF4) (by rw[←ku HE4];exact hb);rw[←q0,←q1,←q2,←q3,←q4];show (⟨_,_,_,_,_⟩:MdL)=⟨(kz1 L kqq).1,(kz1 L kqq).2.1,(kkn L).1.map yg,(kw6 L).1,(kxu L).1⟩;rw[hT.1,hT.2.1,←hT.2.2.2.1,hT.2.2.2.2];rw[hT.2.2.1]
           ·have hT:=zxy (ku HTS) (ku HTK) (ku HTV) (ku HTR) (ku HTN);rw[hT.1,ku HE4];exact (ku HRa4).pd.kkc (ku HV) hX (wX _) _ _ _ _ _
          ·have hns:=kqb hL hlt hc;have hpr:=zvw hc;obtain ⟨xa,xl,xc,rfl⟩:=zu (ku HRa4).md.o4.choose_spec.1;go_wp2_with fail
           obtain ⟨_,_,_,_,q2,_,_,_,_,r2⟩:=jq (ku HRa4).b1;have hsz3:=wZ (ku HRa4).b1;go_region_law (first
            | (refine step_append_lies _ (by rfl) _ _ _ (by rfl) (w.heap.size+1+1) 130 i4 _ 4 56 Tryz.underlying66 hi4 hz40 hz41 hz42 rfl (by omega) (.slice xa xl xc) l.length cs5 (by rfl) ((ku HO5).alloc _) ⟨w5.heap.size,0,none⟩ 1 1 [c0,c1,c2,c3] (by rfl) (by rfl) (World.news_of_block (cs:=[c0,c1,c2,c3].toArray) (t:=130) (fr:=(0,0)) (heap_alloc_new w5 _)) (ku HONE) (by omega) (by unfold maxLen;omega) (by omega) (by simp;omega) (w5.heap.size+1) (by simp) ?_;intro gg cap w6 hown6 hgrow hat hlt6;have hf6:w6.frozen? ⟨w.heap.size+1,4,none⟩=false:=(hgrow.frozen_far _ (by simp;omega) (show some (w.heap.size+1)≠_ from fun e=>by have:=hge5 _ e.symm;omega)).trans (kjq (below_alloc1 _ _) hsz5 r5);have hc6:w6.cell? ⟨w.heap.size+1,4,none⟩=some (.slice xa xl xc):=(hgrow.cell_far _ (by simp;omega) (show some (w.heap.size+1)≠_ from fun e=>by have:=hge5 _ e.symm;omega)).trans (fZ (below_alloc1 _ _) q5))
            | (go_simp;go_at_call 151;refine (jz6 _ P v L s ((ku HRa4).pd.below ((Below.refl _ _).drew))).mono ?_;rintro e w5 ⟨c0,c1,c2,c3,rr,rfl,hnew0,hone,hgr,h5,hk5⟩;have hR5:=(ku HRa4).kept' ((Kept.refl _ _).drew.trans hk5) h5 (by omega) (by omega);obtain ⟨_,_,_,_,q5,_,_,_,_,r5⟩:=jq hR5.b1;have hge5:=vg hR5.md.o4.choose_spec.1;have HR5:=hide hR5;have hsz5:=wZ hR5.b1;obtain ⟨cs5,ho5,hin5⟩:=hR5.md.o4;have HO5:=hide ho5;have HIN:=hide hin5;have HNW:=hide (hnew0.mono (lo':=w.heap.size+1+1) (by have:=wZ (ku HRa4).b1;simp;omega));have HGR:=hide hgr;have HONE:=hide hone;clear ho5 hin5 hnew0 hgr hone;clear h5 hk5 hR5;dsimp only))
           all_goals
            have hm2:=(ku HR5).more4 hgrow hown6 (ku HIN) (ku HNW) (ku HV) hX rfl (by omega);have HMS:=hide (kx6 (ku HR4).pd hm2.pd hns.1 hns.2 (fun _=>hpr));have HR7:=hide (show ∃ (x:Value) (l:List PRule) (s:RS),qqm L [110,101,118,101,114] (kqa L) finN l s∧l.length≤s.at_∧kjw w P v L w.heap.size (w.heap.size+1) y0 y1 y2 y3 x ⟨l0,l1,l2,l3,l⟩ s _ from ⟨_,_,_,qky (ku HL4) hlt hc hpr ((ku HGR)),by simp;omega,hm2⟩);clear hm2 hown6 hgrow hat hf6 hc6;go_wp2
            go_roundw
            case rel=>exact ku HR7
            case measure=>exact ku HMS
        ·have hns:=kqb hL hlt hc;have hpr:=vvr hc;obtain ⟨xa,xl,xc,rfl⟩:=zu (ku HRa3).md.o3.choose_spec.1;go_wp2_with fail
         obtain ⟨_,_,_,q2,_,_,_,_,r2,_⟩:=jq (ku HRa3).b1;have hsz3:=wZ (ku HRa3).b1;go_region_law (first
          | (refine step_append_lies _ (by rfl) _ _ _ (by rfl) (w.heap.size+1+1) 127 i3 _ 5 80 Tryz.underlying65 hi3 hz30 hz31 hz32 rfl (by omega) (.slice xa xl xc) l.length cs5 (by rfl) ((ku HO5).alloc _) ⟨w5.heap.size,0,none⟩ 1 1 [c0,c1,c2,c3,c4] (by rfl) (by rfl) (World.news_of_block (cs:=[c0,c1,c2,c3,c4].toArray) (t:=127) (fr:=(0,0)) (heap_alloc_new w5 _)) (ku HONE) (by omega) (by unfold maxLen;omega) (by omega) (by simp;omega) (w5.heap.size+1) (by simp) ?_;intro gg cap w6 hown6 hgrow hat hlt6;have hf6:w6.frozen? ⟨w.heap.size+1,3,none⟩=false:=(hgrow.frozen_far _ (by simp;omega) (show some (w.heap.size+1)≠_ from fun e=>by have:=hge5 _ e.symm;omega)).trans (kjq (below_alloc1 _ _) hsz5 r5);have hc6:w6.cell? ⟨w.heap.size+1,3,none⟩=some (.slice xa xl xc):=(hgrow.cell_far _ (by simp;omega) (show some (w.heap.size+1)≠_ from fun e=>by have:=hge5 _ e.symm;omega)).trans (fZ (below_alloc1 _ _) q5))
          | (go_simp;go_at_call 150;refine (zxf _ P v L s ((ku HRa3).pd.below ((Below.refl _ _).drew))).mono ?_;rintro e w5 ⟨c0,c1,c2,c3,c4,rr,rfl,hnew0,hone,hgr,h5,hk5⟩;have hR5:=(ku HRa3).kept' ((Kept.refl _ _).drew.trans hk5) h5 (by omega) (by omega);obtain ⟨_,_,_,q5,_,_,_,_,r5,_⟩:=jq hR5.b1;have hge5:=vg hR5.md.o3.choose_spec.1;have HR5:=hide hR5;have hsz5:=wZ hR5.b1;obtain ⟨cs5,ho5,hin5⟩:=hR5.md.o3;have HO5:=hide ho5;have HIN:=hide hin5;have HNW:=hide (hnew0.mono (lo':=w.heap.size+1+1) (by have:=wZ (ku HRa3).b1;simp;omega));have HGR:=hide hgr;have HONE:=hide hone;clear ho5 hin5 hnew0 hgr hone;clear h5 hk5 hR5;dsimp only))
         all_goals
          have hm2:=(ku HR5).more3 hgrow hown6 (ku HIN) (ku HNW) (ku HV) hX rfl (by omega);have HMS:=hide (kx6 (ku HR3).pd hm2.pd hns.1 hns.2 (fun _=>hpr));have HR7:=hide (show ∃ (x:Value) (l:List PRule) (s:RS),qxo L [114,117,108,101] (kql L) finR l s∧l.length≤s.at_+1∧kjw w P v L w.heap.size (w.heap.size+1) y0 y1 y2 x (.slice none 0 0) ⟨l0,l1,l2,l,[]⟩ s _ from ⟨_,_,_,zji (ku HL3) hlt hc (fun _=>hpr) ((ku HGR)),by simp;omega,hm2⟩);clear hm2 hown6 hgrow hat hf6 hc6;go_wp2
          go_roundw
          case rel=>exact ku HR7
          case measure=>exact ku HMS
      ·have hns:=kqb hL hlt hc;have hpr:=vvp hc;obtain ⟨xa,xl,xc,rfl⟩:=zu (ku HRa2).md.o2;go_wp2_with fail
       obtain ⟨_,_,q2,_,_,_,_,r2,_,_⟩:=jq (ku HRa2).b1;have hsz3:=wZ (ku HRa2).b1;go_region_law (first
        | (refine step_append_lies _ (by rfl) _ _ _ (by rfl) (w.heap.size+1+1) 121 i2 _ 10 104 Tryz.underlying64 hi2 hz20 hz21 hz22 rfl (by omega) (.slice xa xl xc) l.length (jju l) (by rfl) ((ku HR5).md.o2.alloc _) ⟨w5.heap.size,0,none⟩ 1 1 (kqx (vrT L s)) (by rfl) (by rfl) (World.news_of_block (cs:=(kqx (vrT L s)).toArray) (t:=121) (fr:=(0,0)) (heap_alloc_new w5 _)) (qws _) (by omega) (by unfold maxLen;omega) (by omega) (by simp;omega) (w5.heap.size+1) (by simp) ?_;intro gg cap w6 hown6 hgrow hat hlt6;have hf6:w6.frozen? ⟨w.heap.size+1,2,none⟩=false:=(hgrow.frozen_far _ (by simp;omega) (show some (w.heap.size+1)≠_ from fun e=>by have:=hge5 _ e.symm;omega)).trans (kjq (below_alloc1 _ _) hsz5 r5);have hc6:w6.cell? ⟨w.heap.size+1,2,none⟩=some (.slice xa xl xc):=(hgrow.cell_far _ (by simp;omega) (show some (w.heap.size+1)≠_ from fun e=>by have:=hge5 _ e.symm;omega)).trans (fZ (below_alloc1 _ _) q5))
        | (go_simp;go_at_call 149;refine (qxc _ P v L s ((ku HRa2).pd.below ((Below.refl _ _).drew))).mono ?_;rintro e w5 ⟨rfl,h5,hk5⟩;have hR5:=(ku HRa2).kept' ((Kept.refl _ _).drew.trans hk5) h5 (by omega) (by omega);obtain ⟨_,_,q5,_,_,_,_,r5,_,_⟩:=jq hR5.b1;have hge5:=vg hR5.md.o2;have HR5:=hide hR5;have hsz5:=wZ hR5.b1;unfold vrV kqx;clear h5 hk5 hR5;dsimp only))
       all_goals
        have hm2:=(ku HR5).more2 (e:=vrT L s) hgrow hown6 (ku HV) hX rfl (by omega);have HMS:=hide (kx6 (ku HR2).pd hm2.pd hns.1 hns.2 (fun _=>hpr));have HR7:=hide (show ∃ (x:Value) (l:List VrT) (s:RS),qxo L [118,97,114] (qvc L) finV l s∧l.length≤s.at_+1∧kjw w P v L w.heap.size (w.heap.size+1) y0 y1 x (.slice none 0 0) (.slice none 0 0) ⟨l0,l1,l,[],[]⟩ s _ from ⟨_,_,_,zji (ku HL2) hlt hc (fun _=>hpr) (fun hb=>by unfold qvc;exact zwj hL hF hlt hb),by simp;omega,hm2⟩);clear hm2 hown6 hgrow hat hf6 hc6;go_wp2
        go_roundw
        case rel=>exact ku HR7
        case measure=>exact ku HMS
    ·have hns:=kqb hL hlt hc;have hpr:=zy7 hc;obtain ⟨xa,xl,xc,rfl⟩:=zu (ku HRa1).md.o1.choose_spec.1;go_wp2_with fail
     obtain ⟨_,q2,_,_,_,_,r2,_,_,_⟩:=jq (ku HRa1).b1;have hsz3:=wZ (ku HRa1).b1;go_region_law (first
      | (refine step_append_lies _ (by rfl) _ _ _ (by rfl) (w.heap.size+1+1) 114 i1 _ 3 48 Tryz.underlying63 hi1 hz10 hz11 hz12 rfl (by omega) (.slice xa xl xc) l.length cs5 (by rfl) ((ku HO5).alloc _) ⟨w5.heap.size,0,none⟩ 1 1 [Value.string (kjx L s).1.name.text,.int .i64 (kjx L s).1.name.at_,.slice ma mn mc] (by rfl) (by rfl) (World.news_of_block (cs:=[Value.string (kjx L s).1.name.text,.int .i64 (kjx L s).1.name.at_,.slice ma mn mc].toArray) (t:=114) (fr:=(0,0)) (heap_alloc_new w5 _)) (vki _ _ _ _) (by omega) (by unfold maxLen;omega) (by omega) (by simp;omega) (w5.heap.size+1) (by simp) ?_;intro gg cap w6 hown6 hgrow hat hlt6;have hf6:w6.frozen? ⟨w.heap.size+1,1,none⟩=false:=(hgrow.frozen_far _ (by simp;omega) (show some (w.heap.size+1)≠_ from fun e=>by have:=hge5 _ e.symm;omega)).trans (kjq (below_alloc1 _ _) hsz5 r5);have hc6:w6.cell? ⟨w.heap.size+1,1,none⟩=some (.slice xa xl xc):=(hgrow.cell_far _ (by simp;omega) (show some (w.heap.size+1)≠_ from fun e=>by have:=hge5 _ e.symm;omega)).trans (fZ (below_alloc1 _ _) q5))
      | (go_simp;go_at_call 148;refine (jvm _ P v L s ((ku HRa1).pd.below ((Below.refl _ _).drew))).mono ?_;rintro e w5 ⟨xk,lk,rfl,hok,hgk,h5,hk5,hlk⟩;obtain ⟨ma,mn,mc,rfl⟩:=zu hok;have hR5:=(ku HRa1).kept' ((Kept.refl _ _).drew.trans hk5) h5 (by omega) (by omega);obtain ⟨_,q5,_,_,_,_,r5,_,_,_⟩:=jq hR5.b1;have hge5:=vg hR5.md.o1.choose_spec.1;have HR5:=hide hR5;have hsz5:=wZ hR5.b1;obtain ⟨cs5,ho5,hin5⟩:=hR5.md.o1;have HO5:=hide ho5;have HIN:=hide hin5;have HNW:=hide (show kx1 (w.heap.size+1+1) w5 [⟨(kjx L s).1.name,lk⟩] [Value.string (kjx L s).1.name.text,.int .i64 (kjx L s).1.name.at_,.slice ma mn mc] from ⟨ma,mn,mc,[],rfl,zx (by have:=wZ (ku HRa1).b1;simp;omega) hok,rfl⟩);have HGK:=hide hgk;clear ho5 hin5 hok hgk;clear h5 hk5 hR5;dsimp only))
     all_goals
      have hm2:=(ku HR5).more1 hgrow hown6 (ku HIN) (ku HNW) (ku HV) hX rfl (by omega);have HMS:=hide (kx6 (ku HR1).pd hm2.pd hns.1 hns.2 (fun _=>hpr));have HR7:=hide (show ∃ (x:Value) (l:List PKind) (s:RS),qqm L [107,105,110,100] (kjx L) finK l s∧l.length≤s.at_∧kjw w P v L w.heap.size (w.heap.size+1) y0 x (.slice none 0 0) (.slice none 0 0) (.slice none 0 0) ⟨l0,l,[],[],[]⟩ s _ from ⟨_,_,_,qky (ku HL1) hlt hc hpr (fun hb=>by rw[(ku HGK) hb]),by simp;omega,hm2⟩);clear hm2 hown6 hgrow hat hf6 hc6;go_wp2
      go_roundw
      case rel=>exact ku HR7
      case measure=>exact ku HMS
  ·have hns:=kqb hL hlt hc;have hpr:=jz2 hc;obtain ⟨xa,xl,xc,rfl⟩:=zu (ku HRa0).md.o0;go_wp2_with fail
   obtain ⟨q2,_,_,_,_,r2,_,_,_,_⟩:=jq (ku HRa0).b1;have hsz3:=wZ (ku HRa0).b1;go_region_law (first
    | (refine step_append_lies _ (by rfl) _ _ _ (by rfl) (w.heap.size+1+1) 111 i0 _ 4 40 Tryz.underlying62 hi0 hz00 hz01 hz02 rfl (by omega) (.slice xa xl xc) l.length (zqy l) (by rfl) ((ku HR5).md.o0.alloc _) ⟨w5.heap.size,0,none⟩ 1 1 (qqn (kxx L s).1) (by rfl) (by rfl) (World.news_of_block (cs:=(qqn (kxx L s).1).toArray) (t:=111) (fr:=(0,0)) (heap_alloc_new w5 _)) (jyr _) (by omega) (by unfold maxLen;omega) (by omega) (by simp;omega) (w5.heap.size+1) (by simp) ?_;intro gg cap w6 hown6 hgrow hat hlt6;have hf6:w6.frozen? ⟨w.heap.size+1,0,none⟩=false:=(hgrow.frozen_far _ (by simp;omega) (show some (w.heap.size+1)≠_ from fun e=>by have:=hge5 _ e.symm;omega)).trans (kjq (below_alloc1 _ _) hsz5 r5);have hc6:w6.cell? ⟨w.heap.size+1,0,none⟩=some (.slice xa xl xc):=(hgrow.cell_far _ (by simp;omega) (show some (w.heap.size+1)≠_ from fun e=>by have:=hge5 _ e.symm;omega)).trans (fZ (below_alloc1 _ _) q5))
    | (go_simp;go_at_call 147;refine (vq9 _ P v L s ((ku HRa0).pd.below ((Below.refl _ _).drew))).mono ?_;rintro e w5 ⟨rfl,h5,hk5⟩;have hR5:=(ku HRa0).kept' ((Kept.refl _ _).drew.trans hk5) h5 (by omega) (by omega);obtain ⟨q5,_,_,_,_,r5,_,_,_,_⟩:=jq hR5.b1;have hge5:=vg hR5.md.o0;have HR5:=hide hR5;have hsz5:=wZ hR5.b1;unfold stV;clear h5 hk5 hR5;dsimp only))
   all_goals
    have hm2:=(ku HR5).more0 (e:=(kxx L s).1) hgrow hown6 (ku HV) hX rfl (by omega);have HMS:=hide (kx6 (ku HR0).pd hm2.pd hns.1 hns.2 (fun _=>hpr));have HR7:=hide (show ∃ (x:Value) (l:List PSet) (s:RS),qqm L [115,101,116] (kxx L) finS l s∧l.length≤s.at_∧kjw w P v L w.heap.size (w.heap.size+1) x (.slice none 0 0) (.slice none 0 0) (.slice none 0 0) (.slice none 0 0) ⟨l,[],[],[],[]⟩ s _ from ⟨_,_,_,qky (ku HL0) hlt hc hpr (fun _=>rfl),by simp;omega,hm2⟩);clear hm2 hown6 hgrow hat hf6 hc6;go_wp2
    go_roundw
    case rel=>exact ku HR7
    case measure=>exact ku HMS
end Go.Proofs.YtpmcnonmkghokaaGreatDoor
namespace Go.Proofs.YtpmcnonmkghokaaGreatDoor
open Go.RowKit
theorem uh {P:Program}{fn:Func}{p t1 t2:Tmp}{ty:TypeId}(h:fn.results=#[.cell p ty,.tmp t1,.tmp t2])(tmps:Array Value)(w:World)(g:Nat)(t:TypeId)(cs:Array Value)(fr:Nat × Nat)(d:TypeDesc)
  (hp:tmps.getD p undef=.pointer (some ⟨g,0,none⟩)) (hg:w.heap[g]?=some (.cells cs t fr))
  (hu:P.underlying ty=some d) (hd:(match d with|.struct _|.array _ _=>true|_=>false)=true) (hi:(P.info? ty).map (·.size)=some cs.size) :
  (results fn tmps).run P w=.ok (.tuple #[.agg cs,tmps.getD t1 undef,tmps.getD t2 undef]) w:=by
 have hp':tmps[p]?.getD undef=.pointer (some ⟨g,0,none⟩):=by simpa using hp
 simp[results,h,hp',asAddr,run_loadVar_row w g t ty cs fr d hg hu hd hi]
theorem Pw.away {w:World}{P:Nat}{v:Value}{L:List Tok}{r:PR}{b i:Nat}(h:Pw w P v L r)(hb:P≠b)(hv:v.ownBlock≠some b)(u:Value):Pw (w.setCell ⟨b,i,none⟩ u) P v L r:=
 ⟨by rw[wP _ _ _ _ hb];exact h.pd,ownsRow_setCell_other h.own hv u,h.ne,h.ok,h.lt⟩
theorem Pw.vk1 {w:World}{P:Nat}{v:Value}{L:List Tok}{r:PR}{b:Nat}(h:Pw w P v L r)(hb:P≠b)(hv:v.ownBlock≠some b)(y0 y1 y2 y3 y4:Value) :
  Pw (((((w.setCell ⟨b,0,none⟩ y0).setCell ⟨b,1,none⟩ y1).setCell ⟨b,2,none⟩ y2).setCell ⟨b,3,none⟩ y3).setCell ⟨b,4,none⟩ y4) P v L r:=
 ((((h.away hb hv y0).away hb hv y1).away hb hv y2).away hb hv y3).away hb hv y4
def jk (t:PTree):MdL:=⟨t.sets,t.kinds,t.vars.map yg,t.rules,t.nevers⟩
def vvv (L:List Tok)(w:World)(e:Ending)(w':World):Prop:=
 Below w.heap.size w w'∧(((kqd L).2=none∧∃ x0 x1 x2 x3 x4,e=.returned (.tuple #[.agg #[x0,x1,x2,x3,x4],.int .i64 0,.bool true])∧kk6 w.heap.size w' x0 x1 x2 x3 x4 (jk (kqd L).1)) ∨
  ∃ k:Nat,(kqd L).2=some k∧e=.returned (.tuple #[.agg #[.slice none 0 0,.slice none 0 0,.slice none 0 0,.slice none 0 0,.slice none 0 0],.int .i64 k,.bool false]))
theorem qvl (L:List Tok):(kqd L).2=if (kxu L).2.bad||!((tk L (kxu L).2.at_).kind.toList==[101,110,100]) then some (tk L (kxu L).2.at_).at_ else none:=rfl
theorem parse_any (w:World)(v:Value)(L:List Tok)(hL:pq L)(ho:w.ownsRow 0 194 2 v L.length (kq2 L)) :
  Calls Tryz.prog 52 #[v] w fun e w'=>vvv L w e w':=by
 have HV:=hide (kqs ho);have hlen:=hL.len;have hpos:=hL.pos;obtain ⟨va,vl,vc,rfl⟩:=zu ho;have hPd:Pd ((w.alloc (.cells #[.slice none 0 0,.slice none 0 0,.slice none 0 0,.slice none 0 0,.slice none 0 0] 68)).alloc (.cells #[.slice va vl vc,.int .i64 0,.int .i64 0,.bool false,.int .i64 0] 196)) (w.heap.size+1) (.slice va vl vc) L kqq:=by
  refine ⟨⟨0,0,false,0⟩,⟨?_,(ho.alloc _).alloc _,?_,hL,hpos⟩,⟨hpos,by simp[kqq],by simp[kqq],fun _=>⟨rfl,rfl,rfl,rfl⟩,fun h=>by cases h⟩⟩
  ·have:=qg (w.alloc (.cells #[.slice none 0 0,.slice none 0 0,.slice none 0 0,.slice none 0 0,.slice none 0 0] 68)) (.cells #[.slice va vl vc,.int .i64 0,.int .i64 0,.bool false,.int .i64 0] 196);simpa using this
  ·intro e;have:=ku HV _ e;omega
 have HPd:=hide hPd;clear hPd ho;go_enter Tryz.func52,Tryz.ntmps52
 go_wp2_with fail
 refine (jz7 _ (w.heap.size+1) _ L hL.qxy (ku HPd)).mono ?_;rintro e w1 ⟨x0,x1,x2,x3,x4,m,rfl,hmd,hmg,h1,hk1,⟨a0,n0,k0,rfl⟩,⟨a1,n1,k1,rfl⟩,⟨a2,n2,k2,rfl⟩,⟨a3,n3,k3,rfl⟩,⟨a4,n4,k4,rfl⟩⟩;have hx1:=hk1.row (b:=w.heap.size) (by omega) (ql (qg _ _));obtain ⟨d0,d1,d2,d3,d4,e0,e1,e2,e3,e4⟩:=jq hx1;have hz1:=h1.in;have HX1:=hide hx1;have HK1:=hide ((((Kept.refl (w.heap.size+1) w).alloc _).alloc _).trans hk1);have HMD:=hide hmd;have HMG:=hide hmg;have HTT:=hide (qvl L);obtain ⟨r,hw1,hps⟩:=h1;have HW1:=hide hw1;have HPS:=hide hps;clear hmd hmg hk1 hx1 hw1 hps HPd;generalize (kxu L).2=sN at *;have hq:((tk L r.next).text.toList==[])=(sN.bad||((tk L sN.at_).kind.toList==[101,110,100])):=by
  cases hb:sN.bad
  ·rw[((ku HPS).good hb).2.1,(hL.ok _ (ku HPS).lt).fin];rfl
  ·rw[((ku HPS).bad hb).2.1,hL.lastText];rfl
 go_wp2_with fail
 clear d0 d1 d2 d3 d4 e0 e1 e2 e3 e4;have hvb:(Value.slice va vl vc).ownBlock≠some w.heap.size:=fun e=>by have:=ku HV _ e;omega
 refine (jzo ⟨#[]⟩ _ (w.heap.size+1) _ L r ((ku HW1).vk1 (by omega) hvb _ _ _ _ _)).mono ?_;rintro e w2 ⟨rfl,hb2⟩;rw[show (⟨#[]⟩:ByteArray).toList=[] from zh [],hq];have hw2:=((ku HW1).vk1 (by omega) hvb (.slice a0 n0 k0) (.slice a1 n1 k1) (.slice a2 n2 k2) (.slice a3 n3 k3) (.slice a4 n4 k4)).below hb2;have hx2:=(hb2.block w.heap.size (by simp[World.setCell];omega)).trans (kjy (ku HX1) (.slice a0 n0 k0) (.slice a1 n1 k1) (.slice a2 n2 k2) (.slice a3 n3 k3) (.slice a4 n4 k4));have HK2:=hide (((ku HK1).kkc (b:=w.heap.size) (wX _) (.slice a0 n0 k0) (.slice a1 n1 k1) (.slice a2 n2 k2) (.slice a3 n3 k3) (.slice a4 n4 k4)).trans (.of_below hb2));have HM2:=hide (((ku HMD).stay ((yj.refl _ w1).kkc (b:=w.heap.size) (Or.inl (by simp;omega)) (.slice a0 n0 k0) (.slice a1 n1 k1) (.slice a2 n2 k2) (.slice a3 n3 k3) (.slice a4 n4 k4)).block).stay (fun k _ hk=>hb2.block k hk));have HW2:=hide hw2;have HX2:=hide hx2;clear hb2 hw2 hx2 HW1 HX1 HK1 HMD hq;cases hbad:sN.bad
 ·cases hend:((tk L sN.at_).kind.toList==[101,110,100])
  ·rw[hbad,hend] at HTT;go_wp2_with fail
   refine (qqk _ (w.heap.size+1) _ L r (ku HW2)).mono ?_;rintro e w3 ⟨rfl,hw3,hk3⟩;have hpl:(kzf L r).place=(tk L sN.at_).at_:=by
    unfold kzf;rw[((ku HPS).good hbad).1,((ku HPS).good hbad).2.1];rfl
   obtain ⟨c0,c1,c2,c3,c4,_⟩:=ky9 hw3.pd;rw[hpl] at c4;rw[show (kzf L r).failed=true from rfl] at c3;have hx3:=hk3.row (b:=w.heap.size) (by omega) (ku HX2);obtain ⟨d0,d1,d2,d3,d4,e0,e1,e2,e3,e4⟩:=jq hx3;have hPl:=wZ hw3.pd;have hBl:=wZ hx3;have HK3:=hide ((ku HK2).trans hk3);have HX3:=hide hx3;clear hw3 hk3 hx3 hpl HW2 HX2 HK2;go_wp2
   go_region
   all_goals
    go_wp2
    refine wC (v:=.tuple #[.agg #[.slice none 0 0,.slice none 0 0,.slice none 0 0,.slice none 0 0,.slice none 0 0],.int .i64 (tk L sN.at_).at_,.bool false]) ?_ rfl ?_
    ·have:=kjy (ku HX3) (.slice none 0 0) (.slice none 0 0) (.slice none 0 0) (.slice none 0 0) (.slice none 0 0);exact uh Tryz.results52 _ _ w.heap.size _ _ _ _ rfl this Tryz.underlying68 rfl (by kernel_rfl)
    ·exact ⟨Kept.toBelow ((ku HK3).kkc (b:=w.heap.size) (wX _) _ _ _ _ _).drew (by omega) (wX _),Or.inr ⟨_,ku HTT,rfl⟩⟩
  ·rw[hbad,hend] at HTT;obtain ⟨c0,c1,c2,c3,c4,_⟩:=ky9 (ku HW2).pd;rw[((ku HPS).good hbad).1] at c3;obtain ⟨d0,d1,d2,d3,d4,e0,e1,e2,e3,e4⟩:=jq (ku HX2);have HMm:=hide ((ku HMG) hbad);go_wp2
   refine wC (v:=.tuple #[.agg #[.slice a0 n0 k0,.slice a1 n1 k1,.slice a2 n2 k2,.slice a3 n3 k3,.slice a4 n4 k4],.int .i64 0,.bool true]) (uh Tryz.results52 _ _ w.heap.size _ _ _ _ rfl (kjy (ku HX2) _ _ _ _ _) Tryz.underlying68 rfl (by kernel_rfl)) rfl ?_;refine ⟨Kept.toBelow ((ku HK2).kkc (b:=w.heap.size) (wX _) _ _ _ _ _) (by omega) (wX _),Or.inl ⟨ku HTT,_,_,_,_,_,rfl,?_⟩⟩;rw[show jk (kqd L).1=m from (ku HMm).symm];exact ((ku HM2).stay ((yj.refl _ w2).kkc (b:=w.heap.size) (Or.inl (by simp;omega)) _ _ _ _ _).block).mono (by simp;omega)
 ·rw[hbad] at HTT;obtain ⟨c0,c1,c2,c3,c4,_⟩:=ky9 (ku HW2).pd;rw[((ku HPS).bad hbad).1] at c3;rw[((ku HPS).bad hbad).2.2] at c4;obtain ⟨d0,d1,d2,d3,d4,e0,e1,e2,e3,e4⟩:=jq (ku HX2);have hPl:=wZ (ku HW2).pd;have hBl:=wZ (ku HX2);go_wp2
  go_region
  all_goals
   go_wp2
   refine wC (v:=.tuple #[.agg #[.slice none 0 0,.slice none 0 0,.slice none 0 0,.slice none 0 0,.slice none 0 0],.int .i64 (tk L sN.at_).at_,.bool false]) ?_ rfl ?_
   ·have:=kjy (ku HX2) (.slice none 0 0) (.slice none 0 0) (.slice none 0 0) (.slice none 0 0) (.slice none 0 0);exact uh Tryz.results52 _ _ w.heap.size _ _ _ _ rfl this Tryz.underlying68 rfl (by kernel_rfl)
   ·exact ⟨Kept.toBelow ((ku HK2).kkc (b:=w.heap.size) (wX _) _ _ _ _ _).drew (by omega) (wX _),Or.inr ⟨_,ku HTT,rfl⟩⟩
def bf {α:Type}(f:Int→Nat→α→Int):List α→Nat→Int→Int
 | [],_,a=>a
 | x::xs,i,a=>bf f xs (i+1) (f a i x)
theorem kv7 {α:Type}{f:Int→Nat→α→Int}{items:List α}{z a:Int}{k:Nat}(hk:¬k<items.length)(h:bf f (items.drop k) k a=bf f items 0 z):a=bf f items 0 z:=by
 rw[Qc (by omega),bf] at h;exact h
def jjj (t:Tok):Prop:=∃ h:0<t.text.size,48≤((t.text[0]'h).toNat:Int)∧((t.text[0]'h).toNat:Int)≤57
end Go.Proofs.YtpmcnonmkghokaaGreatDoor
