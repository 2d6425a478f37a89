import Derived.Test.YtpmcnonmkghokaaGreatDoorT06
set_option maxRecDepth 100000
set_option maxHeartbeats 8000000
set_option linter.unusedVariables false
set_option linter.unusedSimpArgs false
namespace Go.Proofs.YtpmcnonmkghokaaGreatDoor
open Go.RowKit
attribute [local go_sem ↓] Go.wp_at_zero Go.wp_at_succ
def loopA {α:Type}(L:List Tok)(lit:List UInt8)(one:RS→α × RS):Nat→List α→RS→List α × RS
 | 0,l,s=>(l,s)
 | f+1,l,s=>if ql L lit s then loopA L lit one f (l++[(one s).1]) (one s).2 else (l,s)
def kz1 {α:Type}(L:List Tok)(lit:List UInt8)(one:RS→α × RS):Nat→List α→RS→List α × RS
 | 0,l,s=>(l,s)
 | f+1,l,s=>if s.bad then (l,s) else if ql L lit (one s).2 then kz1 L lit one f (l++[(one s).1]) (one s).2 else (l++[(one s).1],(one s).2)
theorem qx5 (L:List Tok):∀ (f:Nat) (l:List PSet) (s:RS),kyp f L l s=loopA L [115,101,116] (kxl L) f l s
 | 0,_,_=>rfl
 | f+1,l,s=>by rw[kyp,loopA];split;exact qx5 L f _ _;rfl
theorem qqv (L:List Tok):∀ (f:Nat) (l:List PKind) (s:RS),qkv f L l s=loopA L [107,105,110,100] (kjw L) f l s
 | 0,_,_=>rfl
 | f+1,l,s=>by rw[qkv,loopA];split;exact qqv L f _ _;rfl
theorem kwc (L:List Tok):∀ (f:Nat) (l:List PRule) (s:RS),kvc f L l s=loopA L [110,101,118,101,114] (kqn L) f l s
 | 0,_,_=>rfl
 | f+1,l,s=>by rw[kvc,loopA];split;exact kwc L f _ _;rfl
theorem qj9 (L:List Tok):∀ (f:Nat) (l:List PVar) (s:RS),qyx f L l s=kz1 L [118,97,114] (kyo L) f l s
 | 0,_,_=>rfl
 | f+1,l,s=>by rw[qyx,kz1];split;rfl;split;exact qj9 L f _ _;rfl
theorem qqz (L:List Tok):∀ (f:Nat) (l:List PRule) (s:RS),kw5 f L l s=kz1 L [114,117,108,101] (kqm L) f l s
 | 0,_,_=>rfl
 | f+1,l,s=>by rw[kw5,kz1];split;rfl;split;exact qqz L f _ _;rfl
theorem zkm {α β:Type}(h:α→β)(L:List Tok)(lit:List UInt8)(one:RS→α × RS):∀ (f:Nat) (l:List α) (s:RS),kz1 L lit (fun s=>(h (one s).1,(one s).2)) f (l.map h) s=((kz1 L lit one f l s).1.map h,(kz1 L lit one f l s).2)
 | 0,_,_=>rfl
 | f+1,l,s=>by
  rw[kz1,kz1];split
  ·rfl
  ·simp only;split
   ·rw[show l.map h++[h (one s).1]=(l++[(one s).1]).map h by simp];exact zkm h L lit one f _ _
   ·simp
theorem kxt {α:Type}{L:List Tok}{lit:List UInt8}{one:RS→α × RS}{s:RS}(hb:s.bad=true):∀ (f:Nat) (l:List α),loopA L lit one f l s=(l,s)
 | 0,_=>rfl
 | f+1,l=>by rw[loopA,uj hb];rfl
theorem kxh {α:Type}{L:List Tok}{lit:List UInt8}{one:RS→α × RS}{s:RS}(hb:s.bad=true):∀ (f:Nat) (l:List α),kz1 L lit one f l s=(l,s)
 | 0,_=>rfl
 | f+1,l=>by rw[kz1,hb];rfl
def qj4 {α:Type}(L:List Tok)(lit:List UInt8)(one:RS→α × RS)(fin:List α × RS)(l:List α)(s:RS):Prop:=
 (s.bad=true∧fin.2=s)∨(s.bad=false∧∃ g,L.length<s.at_+g∧loopA L lit one g l s=fin)
def qk6 {α:Type}(L:List Tok)(lit:List UInt8)(one:RS→α × RS)(fin:List α × RS)(l:List α)(s:RS):Prop:=
 (s.bad=true∧fin.2=s)∨(s.bad=false∧∃ g,L.length<s.at_+g∧(if ql L lit s then kz1 L lit one g l s else (l,s))=fin)
theorem qzs {α:Type}{L:List Tok}{lit:List UInt8}{one:RS→α × RS}(s:RS):qj4 L lit one (loopA L lit one (pz L) [] s) [] s:=by
 cases hb:s.bad
 ·exact Or.inr ⟨hb,pz L,by unfold pz;omega,rfl⟩
 ·exact Or.inl ⟨hb,by rw[kxt hb]⟩
theorem qko {α:Type}{L:List Tok}{lit:List UInt8}{one:RS→α × RS}{fin:List α × RS}{l:List α}{s:RS}{e:α}(h:qj4 L lit one fin l s)(hlt:s.at_<L.length)(hn:ql L lit s=true)(hp:s.at_+1≤(one s).2.at_)(he:(one s).2.bad=false→e=(one s).1):qj4 L lit one fin (l++[e]) (one s).2:=by
 rcases h with ⟨hb,_⟩|⟨hb,g,hg,h1⟩
 ·rw[uj hb] at hn;cases hn
 ·obtain ⟨g,rfl⟩:∃ k,g=k+1:=⟨g-1,by omega⟩;rw[loopA,hn] at h1;simp only[if_true] at h1;cases hb2:(one s).2.bad
  ·exact Or.inr ⟨hb2,g,by omega,by rw[he hb2];exact h1⟩
  ·exact Or.inl ⟨hb2,by rw[←h1,kxt hb2]⟩
theorem qy5 {α:Type}{L:List Tok}{lit:List UInt8}{one:RS→α × RS}{fin:List α × RS}{l:List α}{s:RS}(h:qj4 L lit one fin l s)(hlt:s.at_<L.length)(hn:ql L lit s=false):fin.2=s∧(s.bad=false→fin.1=l):=by
 rcases h with ⟨hb,h1⟩|⟨hb,g,hg,h1⟩
 ·exact ⟨h1,fun h=>by rw[hb] at h;cases h⟩
 ·obtain ⟨g,rfl⟩:∃ k,g=k+1:=⟨g-1,by omega⟩;rw[loopA,hn] at h1;simp only[tZ,if_false] at h1;rw[←h1];exact ⟨rfl,fun _=>rfl⟩
theorem qyt {α:Type}{L:List Tok}{lit:List UInt8}{one:RS→α × RS}{s:RS}{e:α}(hb0:s.bad=true→(one s).2=s)(hm:s.bad=false→s.at_≤(one s).2.at_)(he:(one s).2.bad=false→e=(one s).1):qk6 L lit one (kz1 L lit one (pz L) [] s) [e] (one s).2:=by
 cases hb:s.bad
 ·unfold pz;rw[kz1,hb];simp only[tZ,if_false,lK];cases hb2:(one s).2.bad
  ·exact Or.inr ⟨hb2,L.length+1,by omega,by rw[he hb2]⟩
  ·exact Or.inl ⟨hb2,by rw[uj hb2];rfl⟩
 ·rw[kxh hb,hb0 hb];exact Or.inl ⟨hb,rfl⟩
theorem zzj {α:Type}{L:List Tok}{lit:List UInt8}{one:RS→α × RS}{fin:List α × RS}{l:List α}{s:RS}{e:α}(h:qk6 L lit one fin l s)(hlt:s.at_<L.length)(hn:ql L lit s=true)(hp:(one s).2.bad=false→s.at_+1≤(one s).2.at_)(he:(one s).2.bad=false→e=(one s).1):qk6 L lit one fin (l++[e]) (one s).2:=by
 rcases h with ⟨hb,_⟩|⟨hb,g,hg,h1⟩
 ·rw[uj hb] at hn;cases hn
 ·rw[hn] at h1;simp only[if_true] at h1;obtain ⟨g,rfl⟩:∃ k,g=k+1:=⟨g-1,by omega⟩;rw[kz1,hb] at h1;simp only[tZ,if_false] at h1;cases hb2:(one s).2.bad
  ·have:=hp hb2;exact Or.inr ⟨hb2,g,by omega,by rw[he hb2];exact h1⟩
  ·refine Or.inl ⟨hb2,?_⟩;rw[uj hb2] at h1;rw[←h1];rfl
theorem zka {α:Type}{L:List Tok}{lit:List UInt8}{one:RS→α × RS}{fin:List α × RS}{l:List α}{s:RS}(h:qk6 L lit one fin l s)(hn:ql L lit s=false):fin.2=s∧(s.bad=false→fin.1=l):=by
 rcases h with ⟨hb,h1⟩|⟨hb,g,hg,h1⟩
 ·exact ⟨h1,fun h=>by rw[hb] at h;cases h⟩
 ·rw[hn] at h1;simp only[tZ,if_false] at h1;rw[←h1];exact ⟨rfl,fun _=>rfl⟩
theorem qyw {L:List Tok}{st:RS}(h:st.bad=true):(kjv L st).2=st:=by unfold kjv;rw[uj h];rfl
theorem zj8 {L:List Tok}{st:RS}(h:st.bad=true):(kkw L st).2=st:=by unfold kkw;rw[uj h,uj h];exact kj4 h
theorem jz4 {L:List Tok}{st:RS}(h:st.bad=true):(kyo L st).2=st:=by
 show qg L [59] (kkw L (kjv L (qg L [58] (qh L [110,97,109,101] (qg L [118,97,114] st)).2)).2).2=st;rw[yg (L:=L) (s:=[118,97,114]) h,kj4 h,yg (L:=L) (s:=[58]) h,qyw h,zj8 h,yg h]
theorem jz6 {L:List Tok}{st:RS}(h:st.bad=true):∀ (f:Nat) (l:List PP),kk6 f L l st=(l,st)
 | 0,_=>rfl
 | f+1,l=>by rw[kk6,h];rfl
theorem zxj {L:List Tok}{st:RS}(h:st.bad=true):(kqr L st).2=st:=by
 unfold kqr;rw[yg (L:=L) (s:=[40]) h,uj h];simp only[tZ,if_false];rw[jz6 h,yg h]
theorem zvs {L:List Tok}{st:RS}(h:st.bad=true):(kqm L st).2=st:=by
 rw[zk4 (L:=L) (st:=st) rfl rfl rfl rfl rfl rfl];simp only;rw[yg (L:=L) (s:=[114,117,108,101]) h,kj4 h,zxj h,yg (L:=L) (s:=[105,102]) h,kql h,kx9 h]
def cu (x:PVar):VrT:=⟨x.name,!(x.over.kind.toList==[]),x.over,if x.type_.kind.toList==[119,111,114,100] then (if x.type_.text.toList==[98,111,111,108] then ⟨0,jk,jk⟩ else ⟨1,x.top,jk⟩) else ⟨2,jk,x.type_⟩⟩
theorem qwu {L:List Tok}{st:RS}(hL:pq L)(hlt:st.at_<L.length){l:List UInt8}(hl:l∈lits)(hw:∃ c r,l=c::r∧(decide (97≤(c.toNat:Int))&&decide ((c.toNat:Int)≤122))=true)(h:ql L l st=true):((tk L st.at_).kind.toList==[119,111,114,100])=true:=by
 obtain ⟨c,r,e,hc⟩:=hw;have ht:=(kq0 h).1;exact (hL.ok _ hlt).jyb hl ht (by rw[qwm (ht.trans e)];exact hc)
theorem vv7 {L:List Tok}{st:RS}(hL:pq L)(hlt:st.at_<L.length)(hb:(kkw L st).2.bad=false):siT L st=if (tk L st.at_).kind.toList==[119,111,114,100] then (if (tk L st.at_).text.toList==[98,111,111,108] then ⟨0,jk,jk⟩ else ⟨1,(kkw L st).1,jk⟩) else ⟨2,jk,tk L st.at_⟩:=by
 unfold siT kkw at *;cases h1:ql L [98,111,111,108] st
 ·rw[h1] at hb;simp only[tZ,if_false] at hb ⊢;cases h2:ql L [116,111] st
  ·rw[h2] at hb;simp only[tZ,if_false] at hb ⊢;have hk:kq1 L [110,97,109,101] st=true:=by
    cases hk:kq1 L [110,97,109,101] st
    ·unfold qh at hb;rw[hk] at hb;simp at hb
    ·rfl
   have e1:(qh L [110,97,109,101] st).1=tk L st.at_:=by unfold qh;rw[hk];rfl
   unfold kq1 at hk;simp only[wY] at hk;have:=hk.2;rw[wP] at this;rw[e1,this];rfl
  ·simp only[if_true];rw[qwu hL hlt (by decide) ⟨_,_,rfl,by decide⟩ h2];have ht:=(kq0 h2).1;rw[ht];rfl
 ·simp only[if_true];rw[qwu hL hlt (by decide) ⟨_,_,rfl,by decide⟩ h1];have ht:=(kq0 h1).1;rw[ht];rfl
theorem zwn {L:List Tok}{st:RS}(hL:pq L)(hF:qv2 L)(hlt:st.at_<L.length)(hb:(kyo L st).2.bad=false):vrT L st=cu (kyo L st).1:=by
 have h5:(kkw L (kjv L (qk7 L st)).2).2.bad=false:=kj5 (s:=[59]) hb;have h4:(kjv L (qk7 L st)).2.bad=false:=by
  cases hh:(kjv L (qk7 L st)).2.bad
  ·rfl
  ·rw[zj8 hh,hh] at h5;cases h5
 have h3:(qk7 L st).bad=false:=by
  cases hh:(qk7 L st).bad
  ·rfl
  ·rw[qyw hh,hh] at h4;cases h4
 have h2:(qh L [110,97,109,101] (qg L [118,97,114] st)).2.bad=false:=kj5 (s:=[58]) h3;have h1:(qg L [118,97,114] st).bad=false:=by
  cases hh:(qg L [118,97,114] st).bad
  ·rfl
  ·rw[kj4 hh,hh] at h2;cases h2
 obtain ⟨_,_,l1⟩:=jo hF hlt h1;obtain ⟨_,_,_,_,l2⟩:=kj0 hF l1 rfl h2;obtain ⟨_,_,l3⟩:=jo hF l2 h3;have hov:ql L [91] (qk7 L st)=(!((kjv L (qk7 L st)).1.kind.toList==[]))∧(kjv L (qk7 L st)).2.at_<L.length:=by
  have l3':(qk7 L st).at_<L.length:=l3;generalize qk7 L st=s3 at *;unfold kjv at h4 ⊢;cases hn:ql L [91] s3
  ·simp only[tZ,if_false];exact ⟨by rw[kjh];rfl,l3'⟩
  ·rw[hn] at h4;simp only[if_true] at h4 ⊢;have hk:(qh L [110,97,109,101] (qg L [91] s3)).2.bad=false:=kj5 h4;have hm:(qg L [91] s3).bad=false:=by
    cases hh:(qg L [91] s3).bad
    ·rfl
    ·rw[kj4 hh,hh] at hk;cases hk
   obtain ⟨_,_,m1⟩:=jo hF l3' hm;obtain ⟨_,e1,e2,_,m2⟩:=kj0 hF m1 rfl hk;obtain ⟨_,_,m3⟩:=jo hF m2 h4;refine ⟨?_,m3⟩;rw[e1];rw[wP] at e2;rw[e2];rfl
 have hsi:=vv7 hL hov.2 h5;show (⟨_,ql L [91] (qk7 L st),_,siT L (kjv L (qk7 L st)).2⟩:VrT)=_;rw[hov.1,hsi];rfl
theorem Tryz.infoSSet:(Tryz.prog.info? 111).map (fun i=>(i.zero,i.size,i.bytes))=some (some (.agg #[.string ⟨#[]⟩,.int .i64 0,.int .i64 0,.int .i64 0]),4,40):=by kernel_rfl
theorem Tryz.infoSKind:(Tryz.prog.info? 114).map (fun i=>(i.zero,i.size,i.bytes))=some (some (.agg #[.string ⟨#[]⟩,.int .i64 0,.slice none 0 0]),3,48):=by kernel_rfl
theorem Tryz.infoSVar:(Tryz.prog.info? 121).map (fun i=>(i.zero,i.size,i.bytes))=some (some (.agg #[.string ⟨#[]⟩,.int .i64 0,.bool false,.string ⟨#[]⟩,.int .i64 0,.int .i64 0,.int .i64 0,.int .i64 0,.string ⟨#[]⟩,.int .i64 0]),10,104):=by kernel_rfl
theorem Tryz.infoSRule:(Tryz.prog.info? 127).map (fun i=>(i.zero,i.size,i.bytes))=some (some (.agg #[.string ⟨#[]⟩,.int .i64 0,.slice none 0 0,.pointer none,.slice none 0 0]),5,80):=by kernel_rfl
theorem Tryz.infoSNever:(Tryz.prog.info? 130).map (fun i=>(i.zero,i.size,i.bytes))=some (some (.agg #[.string ⟨#[]⟩,.int .i64 0,.slice none 0 0,.pointer none]),4,56):=by kernel_rfl
def vw9 (P:Nat)(v:Value)(L:List Tok)(w:World)(e:Ending)(w':World):Prop:=
 ∃ x0 x1 x2 x3 x4 m,e=.returned (.agg #[x0,x1,x2,x3,x4])∧kky w.heap.size w' x0 x1 x2 x3 x4 m∧((kx3 L).2.bad=false→m=⟨(kqy L).1.sets,(kqy L).1.kinds,(kqy L).1.vars.map cu,(kqy L).1.rules,(kqy L).1.nevers⟩)∧Pd w' P v L (kx3 L).2∧Kept P w w'∧((∃ a l c,x0=.slice a l c)∧(∃ a l c,x1=.slice a l c)∧(∃ a l c,x2=.slice a l c)∧(∃ a l c,x3=.slice a l c)∧(∃ a l c,x4=.slice a l c))
theorem vvt (t:ByteArray)(n:Int)(a:Option Addr)(m:Nat){c:Nat}:∀ u∈[Value.string t,.int .i64 n,.slice a m c],u.oneCell'=true:=by
 intro u h;simp only[tK,nY,or_false] at h;rcases h with rfl|rfl|rfl<;>rfl
def qw1 (L:List Tok)(s:RS):VrT × RS:=(cu (kyo L s).1,(kyo L s).2)
theorem jkt {L:List Tok}{l:List UInt8}{s:RS}(h:ql L l s=true)(ho:opens l=false)(hs:shuts l=false):(qg L l s).at_=s.at_+1:=by
 rw[kjn ho hs];unfold qwv;rw[h];rfl
theorem vwj {L:List Tok}{s:RS}(h:ql L [118,97,114] s=true):s.at_+1≤(qw1 L s).2.at_:=by
 have:=zk2 L s;rw[jkt h rfl rfl] at this;exact this
theorem vwg {L:List Tok}{s:RS}(h:ql L [114,117,108,101] s=true):s.at_+1≤(kqm L s).2.at_:=by
 have:=qyk L s;rw[jkt h rfl rfl] at this;exact this
theorem vwz (L:List Tok)(s:RS):s.at_≤(qw1 L s).2.at_:=rV (zi L [118,97,114] s) (zk2 L s)
theorem vwp (L:List Tok)(s:RS):s.at_≤(kqm L s).2.at_:=rV (zi L [114,117,108,101] s) (qyk L s)
theorem zxf {L:List Tok}{finS:List PSet × RS}{finK:List PKind × RS}{finV:List VrT × RS}{finR finN:List PRule × RS}(hS:finS=loopA L [115,101,116] (kxl L) (pz L) [] kq3)(hK:finK=loopA L [107,105,110,100] (kjw L) (pz L) [] finS.2)
  (hV:finV=kz1 L [118,97,114] (qw1 L) (pz L) [] finK.2) (hR:finR=kz1 L [114,117,108,101] (kqm L) (pz L) [] finV.2) (hN:finN=loopA L [110,101,118,101,114] (kqn L) (pz L) [] finR.2) :
  kx3 L=finN∧kv6 L=finR∧finV=((kkz L).1.map cu,(kkz L).2)∧finK=(kji L kq3).2∧(kji L kq3).1=finS.1:=by
 have eS:kyp (pz L) L [] kq3=finS:=by rw[qx5,hS]
 have eH:kji L kq3=(finS.1,finK):=by
  unfold kji;rw[eS,qqv,hK]
 have eV:finV=((kkz L).1.map cu,(kkz L).2):=by
  unfold kkz;rw[eH,qj9,hV];exact zkm cu L [118,97,114] (kyo L) (pz L) [] finK.2
 have eR:kv6 L=finR:=by
  unfold kv6;rw[qqz,hR,eV]
 refine ⟨?_,eR,eV,by rw[eH],by rw[eH]⟩;unfold kx3;rw[kwc,hN,eR]
theorem qzy {lo:Nat}{w:World}{x0 x1 x2 x3 x4:Value}{m:MdL}(h:kky lo w x0 x1 x2 x3 x4 m):(∃ a l c,x0=.slice a l c)∧(∃ a l c,x1=.slice a l c)∧(∃ a l c,x2=.slice a l c)∧(∃ a l c,x3=.slice a l c)∧(∃ a l c,x4=.slice a l c):=
 ⟨jy h.o0,jy h.o1.choose_spec.1,jy h.o2,jy h.o3.choose_spec.1,jy h.o4.choose_spec.1⟩
theorem jzq (w:World)(P:Nat)(v:Value)(L:List Tok)(hF:qv2 L)(h:Pd w P v L kq3) :
  Calls Tryz.prog 88 #[.pointer (some ⟨P,0,none⟩)] w fun e w'=>vw9 P v L w e w':=by
 obtain ⟨i0,hi0,hz00,hz01,hz02⟩:=info_parts Tryz.infoSSet;obtain ⟨i1,hi1,hz10,hz11,hz12⟩:=info_parts Tryz.infoSKind;obtain ⟨i2,hi2,hz20,hz21,hz22⟩:=info_parts Tryz.infoSVar;obtain ⟨i3,hi3,hz30,hz31,hz32⟩:=info_parts Tryz.infoSRule;obtain ⟨i4,hi4,hz40,hz41,hz42⟩:=info_parts Tryz.infoSNever;have hX:=h.in;have HV:=hide h.kqa;have hL:=h.ok;have hlen:=hL.len;have HK0:=hide (qzs (L:=L) (lit:=[115,101,116]) (one:=kxl L) kq3);obtain ⟨finS,hfS⟩:∃ f,f=loopA L [115,101,116] (kxl L) (pz L) [] kq3:=⟨_,rfl⟩;rw[←hfS] at HK0;have HK1:=hide (qzs (L:=L) (lit:=[107,105,110,100]) (one:=kjw L) finS.2);obtain ⟨finK,hfK⟩:∃ f,f=loopA L [107,105,110,100] (kjw L) (pz L) [] finS.2:=⟨_,rfl⟩;rw[←hfK] at HK1;obtain ⟨finV,hfV⟩:∃ f,f=kz1 L [118,97,114] (qw1 L) (pz L) [] finK.2:=⟨_,rfl⟩;have HK2:=hide hfV.symm;obtain ⟨finR,hfR⟩:∃ f,f=kz1 L [114,117,108,101] (kqm L) (pz L) [] finV.2:=⟨_,rfl⟩;have HK3:=hide hfR.symm;have HK4:=hide (qzs (L:=L) (lit:=[110,101,118,101,114]) (one:=kqn L) finR.2);obtain ⟨finN,hfN⟩:∃ f,f=loopA L [110,101,118,101,114] (kqn L) (pz L) [] finR.2:=⟨_,rfl⟩;rw[←hfN] at HK4;have HTS:=hide hfS;have HTK:=hide hfK;have HTV:=hide hfV;have HTR:=hide hfR;have HTN:=hide hfN;clear hfS hfK hfV hfR hfN;have H:=hide h;clear h;go_enter Tryz.func88,Tryz.ntmps88
 have HLoop0:=hide (show ∃ (x:Value) (l:List PSet) (s:RS),qj4 L [115,101,116] (kxl L) finS l s∧l.length≤s.at_∧kjp w P v L w.heap.size (w.heap.size+1) x (.slice none 0 0) (.slice none 0 0) (.slice none 0 0) (.slice none 0 0) ⟨l,[],[],[],[]⟩ s ((w.alloc (.cells #[.slice none 0 0,.slice none 0 0,.slice none 0 0,.slice none 0 0,.slice none 0 0] 68)).alloc (.cells #[.slice none 0 0,.slice none 0 0,.slice none 0 0,.slice none 0 0,.slice none 0 0] 68)) from
  ⟨.slice none 0 0,[],kq3,ku HK0,by simp,⟨qp (qy _ _),by have:=qy (w.alloc (.cells #[.slice none 0 0,.slice none 0 0,.slice none 0 0,.slice none 0 0,.slice none 0 0] 68)) (.cells #[.slice none 0 0,.slice none 0 0,.slice none 0 0,.slice none 0 0,.slice none 0 0] 68);simpa using this,⟨rP _ _ _ _,⟨[],rP _ _ _ _,rfl⟩,rP _ _ _ _,⟨[],rP _ _ _ _,rfl⟩,⟨[],rP _ _ _ _,rfl⟩⟩,((ku H).alloc _).alloc _,((Kept.refl _ _).alloc _).alloc _⟩⟩)
 go_wp2_with fail
 go_loopw [] (fun wr=>∃ (x:Value) (l:List PSet) (s:RS),qj4 L [115,101,116] (kxl L) finS l s∧l.length≤s.at_∧kjp w P v L w.heap.size (w.heap.size+1) x (.slice none 0 0) (.slice none 0 0) (.slice none 0 0) (.slice none 0 0) ⟨l,[],[],[],[]⟩ s wr) (fun wr=>L.length-qxh wr P)
 case atStart=>exact ku HLoop0
 case round=>
  obtain ⟨x,l,s,hleft,hal,hR⟩:=hrel;have hlt:=hR.pd.lt;have HL0:=hide hleft;have HR0:=hide hR;clear hleft hR HLoop0;go_wp2_with fail
  refine (kwi [115,101,116] (by decide) _ P v L s (ku HR0).pd).mono ?_;rintro e wa0 ⟨rfl,ha,hka⟩;have HRa0:=hide ((ku HR0).kept' hka ha (by omega) (by omega));clear ha hka;cases hc:ql L [115,101,116] s
  ·obtain ⟨he0,hf0⟩:=qy5 (ku HL0) hlt hc;have HE0:=hide he0;have HF0:=hide hf0;clear he0 hf0 HL0 HR0;obtain ⟨y0,hy0⟩:∃ y,y=x:=⟨_,rfl⟩;obtain ⟨l0,hl0⟩:∃ y,y=l:=⟨_,rfl⟩;obtain ⟨s0,hs0⟩:∃ y,y=s:=⟨_,rfl⟩;rw[←hl0] at HF0 HRa0;rw[←hs0] at HE0 HF0 HRa0 hlt hc;rw[←hy0] at HRa0;clear hy0 hl0 hs0 hal x l s;have HLoop1:=hide (show ∃ (x:Value) (l:List PKind) (s:RS),qj4 L [107,105,110,100] (kjw L) finK l s∧l.length≤s.at_∧kjp w P v L w.heap.size (w.heap.size+1) y0 x (.slice none 0 0) (.slice none 0 0) (.slice none 0 0) ⟨l0,l,[],[],[]⟩ s wa0 from ⟨_,[],s0,by rw[←show finS.2=s0 from ku HE0];exact ku HK1,by simp,ku HRa0⟩);clear hlt hc HRa0;go_wp2_with fail
   go_loopw [] (fun wr=>∃ (x:Value) (l:List PKind) (s:RS),qj4 L [107,105,110,100] (kjw L) finK l s∧l.length≤s.at_∧kjp w P v L w.heap.size (w.heap.size+1) y0 x (.slice none 0 0) (.slice none 0 0) (.slice none 0 0) ⟨l0,l,[],[],[]⟩ s wr) (fun wr=>L.length-qxh wr P)
   case atStart=>exact ku HLoop1
   case round=>
    obtain ⟨x,l,s,hleft,hal,hR⟩:=hrel;have hlt:=hR.pd.lt;have HL1:=hide hleft;have HR1:=hide hR;clear hleft hR HLoop1;go_wp2_with fail
    refine (kwi [107,105,110,100] (by decide) _ P v L s (ku HR1).pd).mono ?_;rintro e wa1 ⟨rfl,ha,hka⟩;have HRa1:=hide ((ku HR1).kept' hka ha (by omega) (by omega));clear ha hka;cases hc:ql L [107,105,110,100] s
    ·obtain ⟨he1,hf1⟩:=qy5 (ku HL1) hlt hc;have HE1:=hide he1;have HF1:=hide hf1;clear he1 hf1 HL1 HR1;obtain ⟨y1,hy1⟩:∃ y,y=x:=⟨_,rfl⟩;obtain ⟨l1,hl1⟩:∃ y,y=l:=⟨_,rfl⟩;obtain ⟨s1,hs1⟩:∃ y,y=s:=⟨_,rfl⟩;rw[←hl1] at HF1 HRa1;rw[←hs1] at HE1 HF1 HRa1 hlt hc;rw[←hy1] at HRa1;clear hy1 hl1 hs1 hal x l s;go_upto_region 6 with fail
     go_cut [] from 22 to 28 (fun wx=>∃ (x:Value) (e:VrT),(((qw1 L) s1).2.bad=false→e=((qw1 L) s1).1)∧kjp w P v L w.heap.size (w.heap.size+1) y0 y1 x (.slice none 0 0) (.slice none 0 0) ⟨l0,l1,[e],[],[]⟩ ((qw1 L) s1).2 wx)
     case first=>
      obtain ⟨_,_,q2,_,_,_,_,r2,_,_⟩:=zo (ku HRa1).b1;have hsz3:=wX (ku HRa1).b1;go_region_law (first
       | (refine step_append_lies _ (by rfl) _ _ _ (by rfl) (w.heap.size+1+1) 121 i2 _ 10 104 Tryz.underlying64 hi2 hz20 hz21 hz22 rfl (by omega) (.slice none 0 0) ([]:List VrT).length (jjt ([]:List VrT)) (by rfl) ((ku HR5).md.o2.alloc _) ⟨w5.heap.size,0,none⟩ 1 1 (kqx (vrT L s1)) (by rfl) (by rfl) (World.news_of_block (cs:=(kqx (vrT L s1)).toArray) (t:=121) (fr:=(0,0)) (heap_alloc_new w5 _)) (qy8 _) (by omega) (by unfold maxLen;simp) (by simp) (by simp;omega) (w5.heap.size+1) (by simp) ?_;intro gg cap w6 hown6 hgrow hat hlt6;have hf6:w6.frozen? ⟨w.heap.size+1,2,none⟩=false:=(hgrow.frozen_far _ (by simp;omega) (show some (w.heap.size+1)≠_ from fun e=>by have:=hge5 _ e.symm;omega)).trans (kjz (below_alloc1 _ _) hsz5 r5);have hc6:w6.cell? ⟨w.heap.size+1,2,none⟩=some (.slice none 0 0):=(hgrow.cell_far _ (by simp;omega) (show some (w.heap.size+1)≠_ from fun e=>by have:=hge5 _ e.symm;omega)).trans (fJ (below_alloc1 _ _) q5))
       | (go_simp;go_at_call 149;refine (qxf _ P v L s1 ((ku HRa1).pd.below ((Below.refl _ _).drew))).mono ?_;rintro e w5 ⟨rfl,h5,hk5⟩;have hR5:=(ku HRa1).kept' ((Kept.refl _ _).drew.trans hk5) h5 (by omega) (by omega);obtain ⟨_,_,q5,_,_,_,_,r5,_,_⟩:=zo hR5.b1;have hge5:=yw hR5.md.o2;have HR5:=hide hR5;have hsz5:=wX hR5.b1;unfold vrV kqx;clear h5 hk5 hR5;dsimp only))
      all_goals
       go_wp2_with fail
       go_meet
       exact ⟨_,vrT L s1,fun hb=>(by unfold qw1;exact zwn hL hF hlt hb),(ku HR5).more2 (e:=vrT L s1) hgrow hown6 (ku HV) hX rfl (by omega)⟩
     case rest=>
     obtain ⟨x,ev,hev,hRv⟩:=hcut;have HLoop2:=hide (show ∃ (x:Value) (l:List VrT) (s:RS),qk6 L [118,97,114] (qw1 L) finV l s∧l.length≤s.at_+1∧kjp w P v L w.heap.size (w.heap.size+1) y0 y1 x (.slice none 0 0) (.slice none 0 0) ⟨l0,l1,l,[],[]⟩ s wc from ⟨x,[ev],((qw1 L) s1).2,by rw[←ku HK2,show finK.2=s1 from ku HE1];exact qyt (fun hb=>jz4 hb) (fun hb=>vwz L s1) hev,by simp,hRv⟩);clear hlt hc HRa1 hev hRv;go_wp2_with fail
     go_loopw [] (fun wr=>∃ (x:Value) (l:List VrT) (s:RS),qk6 L [118,97,114] (qw1 L) finV l s∧l.length≤s.at_+1∧kjp w P v L w.heap.size (w.heap.size+1) y0 y1 x (.slice none 0 0) (.slice none 0 0) ⟨l0,l1,l,[],[]⟩ s wr) (fun wr=>L.length-qxh wr P)
     case atStart=>exact ku HLoop2
     case round=>
      obtain ⟨x,l,s,hleft,hal,hR⟩:=hrel;have hlt:=hR.pd.lt;have HL2:=hide hleft;have HR2:=hide hR;clear hleft hR HLoop2;go_wp2_with fail
      refine (kwi [118,97,114] (by decide) _ P v L s (ku HR2).pd).mono ?_;rintro e wa2 ⟨rfl,ha,hka⟩;have HRa2:=hide ((ku HR2).kept' hka ha (by omega) (by omega));clear ha hka;cases hc:ql L [118,97,114] s
      ·obtain ⟨he2,hf2⟩:=zka (ku HL2) hc;have HE2:=hide he2;have HF2:=hide hf2;clear he2 hf2 HL2 HR2;obtain ⟨y2,hy2⟩:∃ y,y=x:=⟨_,rfl⟩;obtain ⟨l2,hl2⟩:∃ y,y=l:=⟨_,rfl⟩;obtain ⟨s2,hs2⟩:∃ y,y=s:=⟨_,rfl⟩;rw[←hl2] at HF2 HRa2;rw[←hs2] at HE2 HF2 HRa2 hlt hc;rw[←hy2] at HRa2;clear hy2 hl2 hs2 hal x l s;go_upto_region 9 with fail
       go_cut [] from 38 to 44 (fun wx=>∃ (x:Value) (e:PRule),(((kqm L) s2).2.bad=false→e=((kqm L) s2).1)∧kjp w P v L w.heap.size (w.heap.size+1) y0 y1 y2 x (.slice none 0 0) ⟨l0,l1,l2,[e],[]⟩ ((kqm L) s2).2 wx)
       case first=>
        obtain ⟨_,_,_,q2,_,_,_,_,r2,_⟩:=zo (ku HRa2).b1;have hsz3:=wX (ku HRa2).b1;go_region_law (first
         | (refine step_append_lies _ (by rfl) _ _ _ (by rfl) (w.heap.size+1+1) 127 i3 _ 5 80 Tryz.underlying65 hi3 hz30 hz31 hz32 rfl (by omega) (.slice none 0 0) ([]:List PRule).length cs5 (by rfl) ((ku HO5).alloc _) ⟨w5.heap.size,0,none⟩ 1 1 [c0,c1,c2,c3,c4] (by rfl) (by rfl) (World.news_of_block (cs:=[c0,c1,c2,c3,c4].toArray) (t:=127) (fr:=(0,0)) (heap_alloc_new w5 _)) (ku HONE) (by omega) (by unfold maxLen;simp) (by simp) (by simp;omega) (w5.heap.size+1) (by simp) ?_;intro gg cap w6 hown6 hgrow hat hlt6;have hf6:w6.frozen? ⟨w.heap.size+1,3,none⟩=false:=(hgrow.frozen_far _ (by simp;omega) (show some (w.heap.size+1)≠_ from fun e=>by have:=hge5 _ e.symm;omega)).trans (kjz (below_alloc1 _ _) hsz5 r5);have hc6:w6.cell? ⟨w.heap.size+1,3,none⟩=some (.slice none 0 0):=(hgrow.cell_far _ (by simp;omega) (show some (w.heap.size+1)≠_ from fun e=>by have:=hge5 _ e.symm;omega)).trans (fJ (below_alloc1 _ _) q5))
         | (go_simp;go_at_call 150;refine (zkq _ P v L s2 ((ku HRa2).pd.below ((Below.refl _ _).drew))).mono ?_;rintro e w5 ⟨c0,c1,c2,c3,c4,rr,rfl,hnew0,hone,hgr,h5,hk5⟩;have hR5:=(ku HRa2).kept' ((Kept.refl _ _).drew.trans hk5) h5 (by omega) (by omega);obtain ⟨_,_,_,q5,_,_,_,_,r5,_⟩:=zo hR5.b1;have hge5:=yw hR5.md.o3.choose_spec.1;have HR5:=hide hR5;have hsz5:=wX hR5.b1;obtain ⟨cs5,ho5,hin5⟩:=hR5.md.o3;have HO5:=hide ho5;have HIN:=hide hin5;have HNW:=hide (hnew0.mono (lo':=w.heap.size+1+1) (by have:=wX (ku HRa2).b1;simp;omega));have HGR:=hide hgr;have HONE:=hide hone;clear ho5 hin5 hnew0 hgr hone;clear h5 hk5 hR5;dsimp only))
        all_goals
         go_wp2_with fail
         go_meet
         exact ⟨_,_,ku HGR,(ku HR5).more3 hgrow hown6 (ku HIN) (ku HNW) (ku HV) hX rfl (by omega)⟩
       case rest=>
       obtain ⟨x,ev,hev,hRv⟩:=hcut;have HLoop3:=hide (show ∃ (x:Value) (l:List PRule) (s:RS),qk6 L [114,117,108,101] (kqm L) finR l s∧l.length≤s.at_+1∧kjp w P v L w.heap.size (w.heap.size+1) y0 y1 y2 x (.slice none 0 0) ⟨l0,l1,l2,l,[]⟩ s wc from ⟨x,[ev],((kqm L) s2).2,by rw[←ku HK3,show finV.2=s2 from ku HE2];exact qyt (fun hb=>zvs hb) (fun hb=>vwp L s2) hev,by simp,hRv⟩);clear hlt hc HRa2 hev hRv;go_wp2_with fail
       go_loopw [] (fun wr=>∃ (x:Value) (l:List PRule) (s:RS),qk6 L [114,117,108,101] (kqm L) finR l s∧l.length≤s.at_+1∧kjp w P v L w.heap.size (w.heap.size+1) y0 y1 y2 x (.slice none 0 0) ⟨l0,l1,l2,l,[]⟩ s wr) (fun wr=>L.length-qxh wr P)
       case atStart=>exact ku HLoop3
       case round=>
        obtain ⟨x,l,s,hleft,hal,hR⟩:=hrel;have hlt:=hR.pd.lt;have HL3:=hide hleft;have HR3:=hide hR;clear hleft hR HLoop3;go_wp2_with fail
        refine (kwi [114,117,108,101] (by decide) _ P v L s (ku HR3).pd).mono ?_;rintro e wa3 ⟨rfl,ha,hka⟩;have HRa3:=hide ((ku HR3).kept' hka ha (by omega) (by omega));clear ha hka;cases hc:ql L [114,117,108,101] s
        ·obtain ⟨he3,hf3⟩:=zka (ku HL3) hc;have HE3:=hide he3;have HF3:=hide hf3;clear he3 hf3 HL3 HR3;obtain ⟨y3,hy3⟩:∃ y,y=x:=⟨_,rfl⟩;obtain ⟨l3,hl3⟩:∃ y,y=l:=⟨_,rfl⟩;obtain ⟨s3,hs3⟩:∃ y,y=s:=⟨_,rfl⟩;rw[←hl3] at HF3 HRa3;rw[←hs3] at HE3 HF3 HRa3 hlt hc;rw[←hy3] at HRa3;clear hy3 hl3 hs3 hal x l s;have HLoop4:=hide (show ∃ (x:Value) (l:List PRule) (s:RS),qj4 L [110,101,118,101,114] (kqn L) finN l s∧l.length≤s.at_∧kjp w P v L w.heap.size (w.heap.size+1) y0 y1 y2 y3 x ⟨l0,l1,l2,l3,l⟩ s wa3 from ⟨_,[],s3,by rw[←show finR.2=s3 from ku HE3];exact ku HK4,by simp,ku HRa3⟩);clear hlt hc HRa3;go_wp2_with fail
         go_loopw [] (fun wr=>∃ (x:Value) (l:List PRule) (s:RS),qj4 L [110,101,118,101,114] (kqn L) finN l s∧l.length≤s.at_∧kjp w P v L w.heap.size (w.heap.size+1) y0 y1 y2 y3 x ⟨l0,l1,l2,l3,l⟩ s wr) (fun wr=>L.length-qxh wr P)
         case atStart=>exact ku HLoop4
         case round=>
          obtain ⟨x,l,s,hleft,hal,hR⟩:=hrel;have hlt:=hR.pd.lt;have HL4:=hide hleft;have HR4:=hide hR;clear hleft hR HLoop4;go_wp2_with fail
          refine (kwi [110,101,118,101,114] (by decide) _ P v L s (ku HR4).pd).mono ?_;rintro e wa4 ⟨rfl,ha,hka⟩;have HRa4:=hide ((ku HR4).kept' hka ha (by omega) (by omega));clear ha hka;cases hc:ql L [110,101,118,101,114] s
          ·obtain ⟨he4,hf4⟩:=qy5 (ku HL4) hlt hc;have HE4:=hide he4;have HF4:=hide hf4;clear he4 hf4 HL4 HR4;obtain ⟨y4,hy4⟩:∃ y,y=x:=⟨_,rfl⟩;obtain ⟨l4,hl4⟩:∃ y,y=l:=⟨_,rfl⟩;obtain ⟨s4,hs4⟩:∃ y,y=s:=⟨_,rfl⟩;rw[←hl4] at HF4 HRa4;rw[←hs4] at HE4 HF4 HRa4 hlt hc;rw[←hy4] at HRa4;clear hy4 hl4 hs4 hal x l s;obtain ⟨d0,d1,d2,d3,d4,e0,e1,e2,e3,e4⟩:=zo (ku HRa4).b0;obtain ⟨g0,g1,g2,g3,g4,_⟩:=zo (ku HRa4).b1;have hso:=qzy (ku HRa4).md;obtain ⟨⟨a0,n0,k0,rfl⟩,⟨a1,n1,k1,rfl⟩,⟨a2,n2,k2,rfl⟩,⟨a3,n3,k3,rfl⟩,⟨a4,n4,k4,rfl⟩⟩:=hso;go_wp2
           refine rY (v:=.agg #[.slice a0 n0 k0,.slice a1 n1 k1,.slice a2 n2 k2,.slice a3 n3 k3,.slice a4 n4 k4]) (rZ Tryz.results88 _ _ w.heap.size _ _ _ _ rfl (kjc (ku HRa4).b0 _ _ _ _ _) Tryz.underlying68 rfl (by kernel_rfl)) rfl ?_;refine ⟨_,_,_,_,_,⟨l0,l1,l2,l3,l4⟩,rfl,?_,?_,?_,(ku HRa4).kept.kv0 (wW _) _ _ _ _ _,⟨⟨_,_,_,rfl⟩,⟨_,_,_,rfl⟩,⟨_,_,_,rfl⟩,⟨_,_,_,rfl⟩,⟨_,_,_,rfl⟩⟩⟩
           ·exact ((ku HRa4).md.stay ((uo.refl (w.heap.size+1+1) _).kv0 (Or.inl (by omega)) _ _ _ _ _).block).mono (by omega)
           ·have hT:=zxf (ku HTS) (ku HTK) (ku HTV) (ku HTR) (ku HTN);intro hb;rw[hT.1] at hb;have bR:finR.2.bad=false:=by
             cases hh:finR.2.bad
             ·rfl
             ·rw[ku HTN,kxt hh] at hb;simp only at hb;rw[hh] at hb;cases hb
            have bV:finV.2.bad=false:=by
             cases hh:finV.2.bad
             ·rfl
             ·rw[ku HTR,kxh hh] at bR;simp only at bR;rw[hh] at bR;cases bR
            have bK:finK.2.bad=false:=by
             cases hh:finK.2.bad
             ·rfl
             ·rw[ku HTV,kxh hh] at bV;simp only at bV;rw[hh] at bV;cases bV
            have bS:finS.2.bad=false:=by
             cases hh:finS.2.bad
             ·rfl
             ·rw[ku HTK,kxt hh] at bK;simp only at bK;rw[hh] at bK;cases bK
            have q0:=(ku HF0) (by rw[←ku HE0];exact bS);have q1:=(ku HF1) (by rw[←ku HE1];exact bK);have q2:=(ku HF2) (by rw[←ku HE2];exact bV);have q3:=(ku HF3) (by rw[←ku HE3];exact bR);have q4:=(ku HF4) (by rw[←ku HE4];exact hb);rw[←q0,←q1,←q2,←q3,←q4];show (⟨_,_,_,_,_⟩:MdL)=⟨(kji L kq3).1,(kji L kq3).2.1,(kkz L).1.map cu,(kv6 L).1,(kx3 L).1⟩;rw[hT.1,hT.2.1,←hT.2.2.2.1,hT.2.2.2.2];rw[hT.2.2.1]
           ·have hT:=zxf (ku HTS) (ku HTK) (ku HTV) (ku HTR) (ku HTN);rw[hT.1,ku HE4];exact (ku HRa4).pd.kv0 (ku HV) hX (wW _) _ _ _ _ _
          ·have hns:=kqb hL hlt hc;have hpr:=zvo hc;obtain ⟨xa,xl,xc,rfl⟩:=jy (ku HRa4).md.o4.choose_spec.1;go_wp2_with fail
           obtain ⟨_,_,_,_,q2,_,_,_,_,r2⟩:=zo (ku HRa4).b1;have hsz3:=wX (ku HRa4).b1;go_region_law (first
            | (refine step_append_lies _ (by rfl) _ _ _ (by rfl) (w.heap.size+1+1) 130 i4 _ 4 56 Tryz.underlying66 hi4 hz40 hz41 hz42 rfl (by omega) (.slice xa xl xc) l.length cs5 (by rfl) ((ku HO5).alloc _) ⟨w5.heap.size,0,none⟩ 1 1 [c0,c1,c2,c3] (by rfl) (by rfl) (World.news_of_block (cs:=[c0,c1,c2,c3].toArray) (t:=130) (fr:=(0,0)) (heap_alloc_new w5 _)) (ku HONE) (by omega) (by unfold maxLen;omega) (by omega) (by simp;omega) (w5.heap.size+1) (by simp) ?_;intro gg cap w6 hown6 hgrow hat hlt6;have hf6:w6.frozen? ⟨w.heap.size+1,4,none⟩=false:=(hgrow.frozen_far _ (by simp;omega) (show some (w.heap.size+1)≠_ from fun e=>by have:=hge5 _ e.symm;omega)).trans (kjz (below_alloc1 _ _) hsz5 r5);have hc6:w6.cell? ⟨w.heap.size+1,4,none⟩=some (.slice xa xl xc):=(hgrow.cell_far _ (by simp;omega) (show some (w.heap.size+1)≠_ from fun e=>by have:=hge5 _ e.symm;omega)).trans (fJ (below_alloc1 _ _) q5))
            | (go_simp;go_at_call 151;refine (jz9 _ P v L s ((ku HRa4).pd.below ((Below.refl _ _).drew))).mono ?_;rintro e w5 ⟨c0,c1,c2,c3,rr,rfl,hnew0,hone,hgr,h5,hk5⟩;have hR5:=(ku HRa4).kept' ((Kept.refl _ _).drew.trans hk5) h5 (by omega) (by omega);obtain ⟨_,_,_,_,q5,_,_,_,_,r5⟩:=zo hR5.b1;have hge5:=yw hR5.md.o4.choose_spec.1;have HR5:=hide hR5;have hsz5:=wX hR5.b1;obtain ⟨cs5,ho5,hin5⟩:=hR5.md.o4;have HO5:=hide ho5;have HIN:=hide hin5;have HNW:=hide (hnew0.mono (lo':=w.heap.size+1+1) (by have:=wX (ku HRa4).b1;simp;omega));have HGR:=hide hgr;have HONE:=hide hone;clear ho5 hin5 hnew0 hgr hone;clear h5 hk5 hR5;dsimp only))
           all_goals
            have hm2:=(ku HR5).more4 hgrow hown6 (ku HIN) (ku HNW) (ku HV) hX rfl (by omega);have HMS:=hide (kxc (ku HR4).pd hm2.pd hns.1 hns.2 (fun _=>hpr));have HR7:=hide (show ∃ (x:Value) (l:List PRule) (s:RS),qj4 L [110,101,118,101,114] (kqn L) finN l s∧l.length≤s.at_∧kjp w P v L w.heap.size (w.heap.size+1) y0 y1 y2 y3 x ⟨l0,l1,l2,l3,l⟩ s _ from ⟨_,_,_,qko (ku HL4) hlt hc hpr ((ku HGR)),by simp;omega,hm2⟩);clear hm2 hown6 hgrow hat hf6 hc6;go_wp2
            go_roundw
            case rel=>exact ku HR7
            case measure=>exact ku HMS
        ·have hns:=kqb hL hlt hc;have hpr:=vwg hc;obtain ⟨xa,xl,xc,rfl⟩:=jy (ku HRa3).md.o3.choose_spec.1;go_wp2_with fail
         obtain ⟨_,_,_,q2,_,_,_,_,r2,_⟩:=zo (ku HRa3).b1;have hsz3:=wX (ku HRa3).b1;go_region_law (first
          | (refine step_append_lies _ (by rfl) _ _ _ (by rfl) (w.heap.size+1+1) 127 i3 _ 5 80 Tryz.underlying65 hi3 hz30 hz31 hz32 rfl (by omega) (.slice xa xl xc) l.length cs5 (by rfl) ((ku HO5).alloc _) ⟨w5.heap.size,0,none⟩ 1 1 [c0,c1,c2,c3,c4] (by rfl) (by rfl) (World.news_of_block (cs:=[c0,c1,c2,c3,c4].toArray) (t:=127) (fr:=(0,0)) (heap_alloc_new w5 _)) (ku HONE) (by omega) (by unfold maxLen;omega) (by omega) (by simp;omega) (w5.heap.size+1) (by simp) ?_;intro gg cap w6 hown6 hgrow hat hlt6;have hf6:w6.frozen? ⟨w.heap.size+1,3,none⟩=false:=(hgrow.frozen_far _ (by simp;omega) (show some (w.heap.size+1)≠_ from fun e=>by have:=hge5 _ e.symm;omega)).trans (kjz (below_alloc1 _ _) hsz5 r5);have hc6:w6.cell? ⟨w.heap.size+1,3,none⟩=some (.slice xa xl xc):=(hgrow.cell_far _ (by simp;omega) (show some (w.heap.size+1)≠_ from fun e=>by have:=hge5 _ e.symm;omega)).trans (fJ (below_alloc1 _ _) q5))
          | (go_simp;go_at_call 150;refine (zkq _ P v L s ((ku HRa3).pd.below ((Below.refl _ _).drew))).mono ?_;rintro e w5 ⟨c0,c1,c2,c3,c4,rr,rfl,hnew0,hone,hgr,h5,hk5⟩;have hR5:=(ku HRa3).kept' ((Kept.refl _ _).drew.trans hk5) h5 (by omega) (by omega);obtain ⟨_,_,_,q5,_,_,_,_,r5,_⟩:=zo hR5.b1;have hge5:=yw hR5.md.o3.choose_spec.1;have HR5:=hide hR5;have hsz5:=wX hR5.b1;obtain ⟨cs5,ho5,hin5⟩:=hR5.md.o3;have HO5:=hide ho5;have HIN:=hide hin5;have HNW:=hide (hnew0.mono (lo':=w.heap.size+1+1) (by have:=wX (ku HRa3).b1;simp;omega));have HGR:=hide hgr;have HONE:=hide hone;clear ho5 hin5 hnew0 hgr hone;clear h5 hk5 hR5;dsimp only))
         all_goals
          have hm2:=(ku HR5).more3 hgrow hown6 (ku HIN) (ku HNW) (ku HV) hX rfl (by omega);have HMS:=hide (kxc (ku HR3).pd hm2.pd hns.1 hns.2 (fun _=>hpr));have HR7:=hide (show ∃ (x:Value) (l:List PRule) (s:RS),qk6 L [114,117,108,101] (kqm L) finR l s∧l.length≤s.at_+1∧kjp w P v L w.heap.size (w.heap.size+1) y0 y1 y2 x (.slice none 0 0) ⟨l0,l1,l2,l,[]⟩ s _ from ⟨_,_,_,zzj (ku HL3) hlt hc (fun _=>hpr) ((ku HGR)),by simp;omega,hm2⟩);clear hm2 hown6 hgrow hat hf6 hc6;go_wp2
          go_roundw
          case rel=>exact ku HR7
          case measure=>exact ku HMS
      ·have hns:=kqb hL hlt hc;have hpr:=vwj hc;obtain ⟨xa,xl,xc,rfl⟩:=jy (ku HRa2).md.o2;go_wp2_with fail
       obtain ⟨_,_,q2,_,_,_,_,r2,_,_⟩:=zo (ku HRa2).b1;have hsz3:=wX (ku HRa2).b1;go_region_law (first
        | (refine step_append_lies _ (by rfl) _ _ _ (by rfl) (w.heap.size+1+1) 121 i2 _ 10 104 Tryz.underlying64 hi2 hz20 hz21 hz22 rfl (by omega) (.slice xa xl xc) l.length (jjt l) (by rfl) ((ku HR5).md.o2.alloc _) ⟨w5.heap.size,0,none⟩ 1 1 (kqx (vrT L s)) (by rfl) (by rfl) (World.news_of_block (cs:=(kqx (vrT L s)).toArray) (t:=121) (fr:=(0,0)) (heap_alloc_new w5 _)) (qy8 _) (by omega) (by unfold maxLen;omega) (by omega) (by simp;omega) (w5.heap.size+1) (by simp) ?_;intro gg cap w6 hown6 hgrow hat hlt6;have hf6:w6.frozen? ⟨w.heap.size+1,2,none⟩=false:=(hgrow.frozen_far _ (by simp;omega) (show some (w.heap.size+1)≠_ from fun e=>by have:=hge5 _ e.symm;omega)).trans (kjz (below_alloc1 _ _) hsz5 r5);have hc6:w6.cell? ⟨w.heap.size+1,2,none⟩=some (.slice xa xl xc):=(hgrow.cell_far _ (by simp;omega) (show some (w.heap.size+1)≠_ from fun e=>by have:=hge5 _ e.symm;omega)).trans (fJ (below_alloc1 _ _) q5))
        | (go_simp;go_at_call 149;refine (qxf _ P v L s ((ku HRa2).pd.below ((Below.refl _ _).drew))).mono ?_;rintro e w5 ⟨rfl,h5,hk5⟩;have hR5:=(ku HRa2).kept' ((Kept.refl _ _).drew.trans hk5) h5 (by omega) (by omega);obtain ⟨_,_,q5,_,_,_,_,r5,_,_⟩:=zo hR5.b1;have hge5:=yw hR5.md.o2;have HR5:=hide hR5;have hsz5:=wX hR5.b1;unfold vrV kqx;clear h5 hk5 hR5;dsimp only))
       all_goals
        have hm2:=(ku HR5).more2 (e:=vrT L s) hgrow hown6 (ku HV) hX rfl (by omega);have HMS:=hide (kxc (ku HR2).pd hm2.pd hns.1 hns.2 (fun _=>hpr));have HR7:=hide (show ∃ (x:Value) (l:List VrT) (s:RS),qk6 L [118,97,114] (qw1 L) finV l s∧l.length≤s.at_+1∧kjp w P v L w.heap.size (w.heap.size+1) y0 y1 x (.slice none 0 0) (.slice none 0 0) ⟨l0,l1,l,[],[]⟩ s _ from ⟨_,_,_,zzj (ku HL2) hlt hc (fun _=>hpr) (fun hb=>by unfold qw1;exact zwn hL hF hlt hb),by simp;omega,hm2⟩);clear hm2 hown6 hgrow hat hf6 hc6;go_wp2
        go_roundw
        case rel=>exact ku HR7
        case measure=>exact ku HMS
    ·have hns:=kqb hL hlt hc;have hpr:=zyc hc;obtain ⟨xa,xl,xc,rfl⟩:=jy (ku HRa1).md.o1.choose_spec.1;go_wp2_with fail
     obtain ⟨_,q2,_,_,_,_,r2,_,_,_⟩:=zo (ku HRa1).b1;have hsz3:=wX (ku HRa1).b1;go_region_law (first
      | (refine step_append_lies _ (by rfl) _ _ _ (by rfl) (w.heap.size+1+1) 114 i1 _ 3 48 Tryz.underlying63 hi1 hz10 hz11 hz12 rfl (by omega) (.slice xa xl xc) l.length cs5 (by rfl) ((ku HO5).alloc _) ⟨w5.heap.size,0,none⟩ 1 1 [Value.string (kjw L s).1.name.text,.int .i64 (kjw L s).1.name.at_,.slice ma mn mc] (by rfl) (by rfl) (World.news_of_block (cs:=[Value.string (kjw L s).1.name.text,.int .i64 (kjw L s).1.name.at_,.slice ma mn mc].toArray) (t:=114) (fr:=(0,0)) (heap_alloc_new w5 _)) (vvt _ _ _ _) (by omega) (by unfold maxLen;omega) (by omega) (by simp;omega) (w5.heap.size+1) (by simp) ?_;intro gg cap w6 hown6 hgrow hat hlt6;have hf6:w6.frozen? ⟨w.heap.size+1,1,none⟩=false:=(hgrow.frozen_far _ (by simp;omega) (show some (w.heap.size+1)≠_ from fun e=>by have:=hge5 _ e.symm;omega)).trans (kjz (below_alloc1 _ _) hsz5 r5);have hc6:w6.cell? ⟨w.heap.size+1,1,none⟩=some (.slice xa xl xc):=(hgrow.cell_far _ (by simp;omega) (show some (w.heap.size+1)≠_ from fun e=>by have:=hge5 _ e.symm;omega)).trans (fJ (below_alloc1 _ _) q5))
      | (go_simp;go_at_call 148;refine (jw0 _ P v L s ((ku HRa1).pd.below ((Below.refl _ _).drew))).mono ?_;rintro e w5 ⟨xk,lk,rfl,hok,hgk,h5,hk5,hlk⟩;obtain ⟨ma,mn,mc,rfl⟩:=jy hok;have hR5:=(ku HRa1).kept' ((Kept.refl _ _).drew.trans hk5) h5 (by omega) (by omega);obtain ⟨_,q5,_,_,_,_,r5,_,_,_⟩:=zo hR5.b1;have hge5:=yw hR5.md.o1.choose_spec.1;have HR5:=hide hR5;have hsz5:=wX hR5.b1;obtain ⟨cs5,ho5,hin5⟩:=hR5.md.o1;have HO5:=hide ho5;have HIN:=hide hin5;have HNW:=hide (show kxu (w.heap.size+1+1) w5 [⟨(kjw L s).1.name,lk⟩] [Value.string (kjw L s).1.name.text,.int .i64 (kjw L s).1.name.at_,.slice ma mn mc] from ⟨ma,mn,mc,[],rfl,zu (by have:=wX (ku HRa1).b1;simp;omega) hok,rfl⟩);have HGK:=hide hgk;clear ho5 hin5 hok hgk;clear h5 hk5 hR5;dsimp only))
     all_goals
      have hm2:=(ku HR5).more1 hgrow hown6 (ku HIN) (ku HNW) (ku HV) hX rfl (by omega);have HMS:=hide (kxc (ku HR1).pd hm2.pd hns.1 hns.2 (fun _=>hpr));have HR7:=hide (show ∃ (x:Value) (l:List PKind) (s:RS),qj4 L [107,105,110,100] (kjw L) finK l s∧l.length≤s.at_∧kjp w P v L w.heap.size (w.heap.size+1) y0 x (.slice none 0 0) (.slice none 0 0) (.slice none 0 0) ⟨l0,l,[],[],[]⟩ s _ from ⟨_,_,_,qko (ku HL1) hlt hc hpr (fun hb=>by rw[(ku HGK) hb]),by simp;omega,hm2⟩);clear hm2 hown6 hgrow hat hf6 hc6;go_wp2
      go_roundw
      case rel=>exact ku HR7
      case measure=>exact ku HMS
  ·have hns:=kqb hL hlt hc;have hpr:=jz5 hc;obtain ⟨xa,xl,xc,rfl⟩:=jy (ku HRa0).md.o0;go_wp2_with fail
   obtain ⟨q2,_,_,_,_,r2,_,_,_,_⟩:=zo (ku HRa0).b1;have hsz3:=wX (ku HRa0).b1;go_region_law (first
    | (refine step_append_lies _ (by rfl) _ _ _ (by rfl) (w.heap.size+1+1) 111 i0 _ 4 40 Tryz.underlying62 hi0 hz00 hz01 hz02 rfl (by omega) (.slice xa xl xc) l.length (zqo l) (by rfl) ((ku HR5).md.o0.alloc _) ⟨w5.heap.size,0,none⟩ 1 1 (qj7 (kxl L s).1) (by rfl) (by rfl) (World.news_of_block (cs:=(qj7 (kxl L s).1).toArray) (t:=111) (fr:=(0,0)) (heap_alloc_new w5 _)) (vq9 _) (by omega) (by unfold maxLen;omega) (by omega) (by simp;omega) (w5.heap.size+1) (by simp) ?_;intro gg cap w6 hown6 hgrow hat hlt6;have hf6:w6.frozen? ⟨w.heap.size+1,0,none⟩=false:=(hgrow.frozen_far _ (by simp;omega) (show some (w.heap.size+1)≠_ from fun e=>by have:=hge5 _ e.symm;omega)).trans (kjz (below_alloc1 _ _) hsz5 r5);have hc6:w6.cell? ⟨w.heap.size+1,0,none⟩=some (.slice xa xl xc):=(hgrow.cell_far _ (by simp;omega) (show some (w.heap.size+1)≠_ from fun e=>by have:=hge5 _ e.symm;omega)).trans (fJ (below_alloc1 _ _) q5))
    | (go_simp;go_at_call 147;refine (vqn _ P v L s ((ku HRa0).pd.below ((Below.refl _ _).drew))).mono ?_;rintro e w5 ⟨rfl,h5,hk5⟩;have hR5:=(ku HRa0).kept' ((Kept.refl _ _).drew.trans hk5) h5 (by omega) (by omega);obtain ⟨q5,_,_,_,_,r5,_,_,_,_⟩:=zo hR5.b1;have hge5:=yw hR5.md.o0;have HR5:=hide hR5;have hsz5:=wX hR5.b1;unfold stV;clear h5 hk5 hR5;dsimp only))
   all_goals
    have hm2:=(ku HR5).more0 (e:=(kxl L s).1) hgrow hown6 (ku HV) hX rfl (by omega);have HMS:=hide (kxc (ku HR0).pd hm2.pd hns.1 hns.2 (fun _=>hpr));have HR7:=hide (show ∃ (x:Value) (l:List PSet) (s:RS),qj4 L [115,101,116] (kxl L) finS l s∧l.length≤s.at_∧kjp w P v L w.heap.size (w.heap.size+1) x (.slice none 0 0) (.slice none 0 0) (.slice none 0 0) (.slice none 0 0) ⟨l,[],[],[],[]⟩ s _ from ⟨_,_,_,qko (ku HL0) hlt hc hpr (fun _=>rfl),by simp;omega,hm2⟩);clear hm2 hown6 hgrow hat hf6 hc6;go_wp2
    go_roundw
    case rel=>exact ku HR7
    case measure=>exact ku HMS
end Go.Proofs.YtpmcnonmkghokaaGreatDoor
namespace Go.Proofs.YtpmcnonmkghokaaGreatDoor
open Go.RowKit
theorem uw {P:Program}{fn:Func}{p t1 t2:Tmp}{ty:TypeId}(h:fn.results=#[.cell p ty,.tmp t1,.tmp t2])(tmps:Array Value)(w:World)(g:Nat)(t:TypeId)(cs:Array Value)(fr:Nat × Nat)(d:TypeDesc)
  (hp:tmps.getD p undef=.pointer (some ⟨g,0,none⟩)) (hg:w.heap[g]?=some (.cells cs t fr))
  (hu:P.underlying ty=some d) (hd:(match d with|.struct _|.array _ _=>true|_=>false)=true) (hi:(P.info? ty).map (·.size)=some cs.size) :
  (results fn tmps).run P w=.ok (.tuple #[.agg cs,tmps.getD t1 undef,tmps.getD t2 undef]) w:=by
 have hp':tmps[p]?.getD undef=.pointer (some ⟨g,0,none⟩):=by simpa using hp
 simp[results,h,hp',asAddr,run_loadVar_row w g t ty cs fr d hg hu hd hi]
theorem Pw.away {w:World}{P:Nat}{v:Value}{L:List Tok}{r:PR}{b i:Nat}(h:Pw w P v L r)(hb:P≠b)(hv:v.ownBlock≠some b)(u:Value):Pw (w.setCell ⟨b,i,none⟩ u) P v L r:=
 ⟨by rw[ru _ _ _ _ hb];exact h.pd,ownsRow_setCell_other h.own hv u,h.ne,h.ok,h.lt⟩
theorem Pw.vkd {w:World}{P:Nat}{v:Value}{L:List Tok}{r:PR}{b:Nat}(h:Pw w P v L r)(hb:P≠b)(hv:v.ownBlock≠some b)(y0 y1 y2 y3 y4:Value) :
  Pw (((((w.setCell ⟨b,0,none⟩ y0).setCell ⟨b,1,none⟩ y1).setCell ⟨b,2,none⟩ y2).setCell ⟨b,3,none⟩ y3).setCell ⟨b,4,none⟩ y4) P v L r:=
 ((((h.away hb hv y0).away hb hv y1).away hb hv y2).away hb hv y3).away hb hv y4
def jq (t:PTree):MdL:=⟨t.sets,t.kinds,t.vars.map cu,t.rules,t.nevers⟩
def vw6 (L:List Tok)(w:World)(e:Ending)(w':World):Prop:=
 Below w.heap.size w w'∧(((kqy L).2=none∧∃ x0 x1 x2 x3 x4,e=.returned (.tuple #[.agg #[x0,x1,x2,x3,x4],.int .i64 0,.bool true])∧kky w.heap.size w' x0 x1 x2 x3 x4 (jq (kqy L).1)) ∨
  ∃ k:Nat,(kqy L).2=some k∧e=.returned (.tuple #[.agg #[.slice none 0 0,.slice none 0 0,.slice none 0 0,.slice none 0 0,.slice none 0 0],.int .i64 k,.bool false]))
theorem qwq (L:List Tok):(kqy L).2=if (kx3 L).2.bad||!((tk L (kx3 L).2.at_).kind.toList==[101,110,100]) then some (tk L (kx3 L).2.at_).at_ else none:=rfl
theorem parse_any (w:World)(v:Value)(L:List Tok)(hL:pq L)(ho:w.ownsRow 0 194 2 v L.length (bf L)) :
  Calls Tryz.prog 52 #[v] w fun e w'=>vw6 L w e w':=by
 have HV:=hide (kqa ho);have hlen:=hL.len;have hpos:=hL.pos;obtain ⟨va,vl,vc,rfl⟩:=jy ho;have hPd:Pd ((w.alloc (.cells #[.slice none 0 0,.slice none 0 0,.slice none 0 0,.slice none 0 0,.slice none 0 0] 68)).alloc (.cells #[.slice va vl vc,.int .i64 0,.int .i64 0,.bool false,.int .i64 0] 196)) (w.heap.size+1) (.slice va vl vc) L kq3:=by
  refine ⟨⟨0,0,false,0⟩,⟨?_,(ho.alloc _).alloc _,?_,hL,hpos⟩,⟨hpos,by simp[kq3],by simp[kq3],fun _=>⟨rfl,rfl,rfl,rfl⟩,fun h=>by cases h⟩⟩
  ·have:=qy (w.alloc (.cells #[.slice none 0 0,.slice none 0 0,.slice none 0 0,.slice none 0 0,.slice none 0 0] 68)) (.cells #[.slice va vl vc,.int .i64 0,.int .i64 0,.bool false,.int .i64 0] 196);simpa using this
  ·intro e;have:=ku HV _ e;omega
 have HPd:=hide hPd;clear hPd ho;go_enter Tryz.func52,Tryz.ntmps52
 go_wp2_with fail
 refine (jzq _ (w.heap.size+1) _ L hL.qxt (ku HPd)).mono ?_;rintro e w1 ⟨x0,x1,x2,x3,x4,m,rfl,hmd,hmg,h1,hk1,⟨a0,n0,k0,rfl⟩,⟨a1,n1,k1,rfl⟩,⟨a2,n2,k2,rfl⟩,⟨a3,n3,k3,rfl⟩,⟨a4,n4,k4,rfl⟩⟩;have hx1:=hk1.row (b:=w.heap.size) (by omega) (qp (qy _ _));obtain ⟨d0,d1,d2,d3,d4,e0,e1,e2,e3,e4⟩:=zo hx1;have hz1:=h1.in;have HX1:=hide hx1;have HK1:=hide ((((Kept.refl (w.heap.size+1) w).alloc _).alloc _).trans hk1);have HMD:=hide hmd;have HMG:=hide hmg;have HTT:=hide (qwq L);obtain ⟨r,hw1,hps⟩:=h1;have HW1:=hide hw1;have HPS:=hide hps;clear hmd hmg hk1 hx1 hw1 hps HPd;generalize (kx3 L).2=sN at *;have hq:((tk L r.next).text.toList==[])=(sN.bad||((tk L sN.at_).kind.toList==[101,110,100])):=by
  cases hb:sN.bad
  ·rw[((ku HPS).good hb).2.1,(hL.ok _ (ku HPS).lt).fin];rfl
  ·rw[((ku HPS).bad hb).2.1,hL.lastText];rfl
 go_wp2_with fail
 clear d0 d1 d2 d3 d4 e0 e1 e2 e3 e4;have hvb:(Value.slice va vl vc).ownBlock≠some w.heap.size:=fun e=>by have:=ku HV _ e;omega
 refine (jx4 ⟨#[]⟩ _ (w.heap.size+1) _ L r ((ku HW1).vkd (by omega) hvb _ _ _ _ _)).mono ?_;rintro e w2 ⟨rfl,hb2⟩;rw[show (⟨#[]⟩:ByteArray).toList=[] from zy [],hq];have hw2:=((ku HW1).vkd (by omega) hvb (.slice a0 n0 k0) (.slice a1 n1 k1) (.slice a2 n2 k2) (.slice a3 n3 k3) (.slice a4 n4 k4)).below hb2;have hx2:=(hb2.block w.heap.size (by simp[World.setCell];omega)).trans (kjc (ku HX1) (.slice a0 n0 k0) (.slice a1 n1 k1) (.slice a2 n2 k2) (.slice a3 n3 k3) (.slice a4 n4 k4));have HK2:=hide (((ku HK1).kv0 (b:=w.heap.size) (wW _) (.slice a0 n0 k0) (.slice a1 n1 k1) (.slice a2 n2 k2) (.slice a3 n3 k3) (.slice a4 n4 k4)).trans (.of_below hb2));have HM2:=hide (((ku HMD).stay ((uo.refl _ w1).kv0 (b:=w.heap.size) (Or.inl (by simp;omega)) (.slice a0 n0 k0) (.slice a1 n1 k1) (.slice a2 n2 k2) (.slice a3 n3 k3) (.slice a4 n4 k4)).block).stay (fun k _ hk=>hb2.block k hk));have HW2:=hide hw2;have HX2:=hide hx2;clear hb2 hw2 hx2 HW1 HX1 HK1 HMD hq;cases hbad:sN.bad
 ·cases hend:((tk L sN.at_).kind.toList==[101,110,100])
  ·rw[hbad,hend] at HTT;go_wp2_with fail
   refine (qqs _ (w.heap.size+1) _ L r (ku HW2)).mono ?_;rintro e w3 ⟨rfl,hw3,hk3⟩;have hpl:(kxx L r).place=(tk L sN.at_).at_:=by
    unfold kxx;rw[((ku HPS).good hbad).1,((ku HPS).good hbad).2.1];rfl
   obtain ⟨c0,c1,c2,c3,c4,_⟩:=kyd hw3.pd;rw[hpl] at c4;rw[show (kxx L r).failed=true from rfl] at c3;have hx3:=hk3.row (b:=w.heap.size) (by omega) (ku HX2);obtain ⟨d0,d1,d2,d3,d4,e0,e1,e2,e3,e4⟩:=zo hx3;have hPl:=wX hw3.pd;have hBl:=wX hx3;have HK3:=hide ((ku HK2).trans hk3);have HX3:=hide hx3;clear hw3 hk3 hx3 hpl HW2 HX2 HK2;go_wp2
   go_region
   all_goals
    go_wp2
    refine rY (v:=.tuple #[.agg #[.slice none 0 0,.slice none 0 0,.slice none 0 0,.slice none 0 0,.slice none 0 0],.int .i64 (tk L sN.at_).at_,.bool false]) ?_ rfl ?_
    ·have:=kjc (ku HX3) (.slice none 0 0) (.slice none 0 0) (.slice none 0 0) (.slice none 0 0) (.slice none 0 0);exact uw Tryz.results52 _ _ w.heap.size _ _ _ _ rfl this Tryz.underlying68 rfl (by kernel_rfl)
    ·exact ⟨Kept.toBelow ((ku HK3).kv0 (b:=w.heap.size) (wW _) _ _ _ _ _).drew (by omega) (wW _),Or.inr ⟨_,ku HTT,rfl⟩⟩
  ·rw[hbad,hend] at HTT;obtain ⟨c0,c1,c2,c3,c4,_⟩:=kyd (ku HW2).pd;rw[((ku HPS).good hbad).1] at c3;obtain ⟨d0,d1,d2,d3,d4,e0,e1,e2,e3,e4⟩:=zo (ku HX2);have HMm:=hide ((ku HMG) hbad);go_wp2
   refine rY (v:=.tuple #[.agg #[.slice a0 n0 k0,.slice a1 n1 k1,.slice a2 n2 k2,.slice a3 n3 k3,.slice a4 n4 k4],.int .i64 0,.bool true]) (uw Tryz.results52 _ _ w.heap.size _ _ _ _ rfl (kjc (ku HX2) _ _ _ _ _) Tryz.underlying68 rfl (by kernel_rfl)) rfl ?_;refine ⟨Kept.toBelow ((ku HK2).kv0 (b:=w.heap.size) (wW _) _ _ _ _ _) (by omega) (wW _),Or.inl ⟨ku HTT,_,_,_,_,_,rfl,?_⟩⟩;rw[show jq (kqy L).1=m from (ku HMm).symm];exact ((ku HM2).stay ((uo.refl _ w2).kv0 (b:=w.heap.size) (Or.inl (by simp;omega)) _ _ _ _ _).block).mono (by simp;omega)
 ·rw[hbad] at HTT;obtain ⟨c0,c1,c2,c3,c4,_⟩:=kyd (ku HW2).pd;rw[((ku HPS).bad hbad).1] at c3;rw[((ku HPS).bad hbad).2.2] at c4;obtain ⟨d0,d1,d2,d3,d4,e0,e1,e2,e3,e4⟩:=zo (ku HX2);have hPl:=wX (ku HW2).pd;have hBl:=wX (ku HX2);go_wp2
  go_region
  all_goals
   go_wp2
   refine rY (v:=.tuple #[.agg #[.slice none 0 0,.slice none 0 0,.slice none 0 0,.slice none 0 0,.slice none 0 0],.int .i64 (tk L sN.at_).at_,.bool false]) ?_ rfl ?_
   ·have:=kjc (ku HX2) (.slice none 0 0) (.slice none 0 0) (.slice none 0 0) (.slice none 0 0) (.slice none 0 0);exact uw Tryz.results52 _ _ w.heap.size _ _ _ _ rfl this Tryz.underlying68 rfl (by kernel_rfl)
   ·exact ⟨Kept.toBelow ((ku HK2).kv0 (b:=w.heap.size) (wW _) _ _ _ _ _).drew (by omega) (wW _),Or.inr ⟨_,ku HTT,rfl⟩⟩
def gy {α:Type}(f:Int→Nat→α→Int):List α→Nat→Int→Int
 | [],_,a=>a
 | x::xs,i,a=>gy f xs (i+1) (f a i x)
theorem kvw {α:Type}{f:Int→Nat→α→Int}{items:List α}{z a:Int}{k:Nat}(hk:¬k<items.length)(h:gy f (items.drop k) k a=gy f items 0 z):a=gy f items 0 z:=by
 rw[QM (by omega),gy] at h;exact h
def jjd (t:Tok):Prop:=∃ h:0<t.text.size,48≤((t.text[0]'h).toNat:Int)∧((t.text[0]'h).toNat:Int)≤57
end Go.Proofs.YtpmcnonmkghokaaGreatDoor
