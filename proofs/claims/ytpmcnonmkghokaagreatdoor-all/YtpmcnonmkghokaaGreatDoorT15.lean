/- For any two texts of models, any steps and any number the Check, Play and Search of the program tell what the reference tells, in turns and once more behind all the others; what came out is written into and changes nothing else; what is handed in stays. Conditions: none beyond those of the given statement. -/
import Derived.Test.YtpmcnonmkghokaaGreatDoorT13
import Derived.Test.YtpmcnonmkghokaaGreatDoorT14
import Derived.Test.YtpmcnonmkghokaaGreatDoorCards
import Derived.Test.YtpmcnonmkghokaaGreatDoorTie
import Derived.ProofKit
import Derived.LaidMore
import Derived.SliceStrings
import Derived.OpenShut
import Derived.Stop.Joined
import Derived.SevenTiedAt
import Derived.ShutString
import Derived.Carry
import Derived.SizedLaws
set_option maxRecDepth 100000
set_option linter.unusedVariables false
set_option linter.unusedSimpArgs false
namespace Go.Proofs.YtpmcnonmkghokaaGreatDoor.alls
open Go.Proofs.Tryz
open Go.ChangeShapes Go.WideShapes Go.ChangeAt Go.RowKit
open Go.ChangeMaps (open_string shut_string)
theorem laidOut:laidOutB prog=true:=au
theorem own:ownKnob prog.godebug=none:=au
abbrev pqf:List (String×DataW Unit):=Rows.allRow.laid
theorem door_met(os:Os)(args:Array Value):laidMetH prog pqf ((World.doorLaid prog 400 os).forCall (λ_ _=>0) ⟨#[],args,[]⟩).memory:=
 laidMetH_of_parts3 (fuel:=8) (laidMet_of_run' 8 au au) au au
theorem xym{a2:Type}{enc:TypeId×Value->a2}{a3:World}{d:DataW a2}{a5:List MemPlace}{a6:Option Addr}{a7 a8:Nat}(h:DataW.Trod enc prog a3 0 (λ_=>true) true 22 (.slice a6 a7 a8) d a5)(t:∀x∈a5,x.block<a3.heap.size){a9:List TypeId}{ds:List (DataW a2)}(z:(DataW.weightsEach prog a9 ds).all (·<=reachBytes)=true)(j:Nat)(y:a9[j]?=some 22)(v:ds[j]?=some d):∃cs:List ByteArray,cs.length=a7/\jzh a3 a6 cs/\cs.length<=8796093022208:=by
 obtain⟨fuel,w⟩:=h;rcases open_strings underlying22 underlying9 au w with⟨f,p⟩|⟨a,B,u,zs,f,_,D,E,A,p,g,C⟩
 ·simp[Value.cells]at f;obtain⟨rfl,rfl,rfl⟩:=f;exact⟨[],rfl,λi hi=>by simp at hi,ay⟩
 ·simp[Value.cells]at f;obtain⟨rfl,rfl,rfl⟩:=f;simp only[Xw]at A;simp only[Prod.mk.injEq]at p;obtain⟨rfl,rfl⟩:=p;have m:=sized_slice z y v underlying22;rw[show prog.bytesOf 9=16 by kernel_rfl]at m;unfold reachBytes at m;simp[strs]at m;refine⟨zs.take a7,by rw[Ze];omega,λi hi=>?_,by rw[Ze];omega⟩;rw[Ze]at hi;obtain⟨b,l,q⟩:=a;have k:q=none:=by simpa[Addr.add] using World.cell?_spot (g 0 aj)
  subst k;have s:=g i aj;rw[add_plain]at s;have e:(zs.take a7)[i]'(by rw[Ze];exact hi)=zs.getD i ByteArray.empty:=by rw[Zo];simp[List.getD,show i<zs.length by omega]
  rw[e];exact⟨b,l,rfl,t (.cell b l)<|MemPlace.mem_row.2 ⟨0,aj,ay⟩,s⟩
theorem lifted(os:Os)(i:os.Started)(H:Type)(enc:TypeId×Value->H):ReturnsInHanded {} Tryz.checked os 10 .any (λw args=>(Rows.allSpec.pre enc prog Tryz.f10 [] false w args/\laidMetH prog pqf w)/\sizedMet enc prog Tryz.f10 (OpenSpec.ofChange Rows.allSpec) false w args)
   (Rows.allSpec.post enc prog Tryz.f10 false true false false):=by
 refine returnsInHanded_of_change_and (C:=Tryz.checked) (X:=λw _=>laidMetH prog pqf w) (λ_ _ _ hh h=>h.of_heap hh) own i au func10
  (ChangeSpec.witness_shaped (enc:=enc) (C:=Tryz.checked) (os:=os) (X:=λw _=>laidMetH prog pqf w) false (World.doorLaid prog 400 os) #[.string ⟨#[]⟩,.string ⟨#[]⟩,.slice none 0 0,.slice none 0 0,.int .i64 0] 8 rfl (World.shaped_of_RefB au au) au au au<|door_met os _) ?_
 intro W base args ds gs E g I _ f hL _;have d:∀(j:Nat) t v,Tryz.f10.params[j]?=some t->args[j]?=some v->Value.okWide prog W .any base t v:=g;have f:(DataW.weightsEach prog (Tryz.f10.params.toList++Rows.allSpec.plain.varTypes prog)<|ds++gs).all (·<=reachBytes)=true:=f;have k:=I;obtain⟨p,q,m,Y,rfl,a8,a9⟩:=I;have hA:DataW.TrodAll enc prog W 0 (λ_=>true) true Tryz.f10.params.toList args.toList ds p:=m;rw[Tryz.params10]at hA d f;obtain⟨L,aA,d0,a2,p0,q0,Q,rfl,rfl,S,r0⟩:=trodAll_cons hA;obtain⟨M,aB,d1,a3,p1,q1,rfl,rfl,rfl,h1,r1⟩:=trodAll_cons r0;obtain⟨N,aC,d2,a5,B,q2,rfl,rfl,rfl,F,r2⟩:=trodAll_cons r1;obtain⟨O,aD,d3,a6,D,q3,rfl,rfl,rfl,G,r3⟩:=trodAll_cons r2;obtain⟨P,aE,d4,a7,p4,q4,rfl,rfl,rfl,T,r4⟩:=trodAll_cons r3;obtain⟨rfl,rfl,rfl⟩:=trodAll_nil r4;obtain rfl:args=#[L,M,N,O,P]:=by cases args;simp_all
 obtain⟨rfl,rfl⟩:=trodVars_none Y;obtain⟨a0,rfl,rfl,rfl,w0⟩:=open_string underlying9 (d 0 9 L rfl rfl) S;obtain⟨a1,rfl,rfl,rfl,w1⟩:=open_string underlying9 (d 1 9 M rfl rfl) h1;obtain⟨ca,cn,cc,rfl⟩:=okWide_slice underlying22<|d 2 22 N rfl rfl;obtain⟨ea,en,ec,rfl⟩:=okWide_slice underlying22<|d 3 22 O rfl rfl;obtain⟨a4,rfl,rfl,rfl,w4⟩:=open_int underlying3 (d 4 3 P rfl rfl) T;clear m g;simp only[Qs,Qd]at k f;have z:∀x∈B++D,x.block<W.heap.size:=λx l=>by simpa using k.lt x l
 have s:∀x∈B,x.block<W.heap.size:=λx l=>z x<|jU l
 have u:∀x∈D,x.block<W.heap.size:=λx l=>z x<|jP l
 obtain⟨cs,rfl,U,J⟩:=xym F s f 2 rfl rfl;obtain⟨es,rfl,V,K⟩:=xym G u f 3 rfl rfl;have z4:-9223372036854775808<=a4/\a4<=9223372036854775807:=by obtain⟨x,y⟩:=Bool.and_eq_true_iff.1 w4;exact⟨of_decide_eq_true x,of_decide_eq_true y⟩
 refine(xyi a0 a1 U V J K z4).mono λe R ⟨Z,A⟩=>?_
 subst Z;refine⟨_,rfl,_,_,_,[],B++D,[],k,?_,?_,rfl,A.frame _,λh=>ig⟩
 ·exact trodAll_cons_mk (shut_bool underlying4 _) trodAll_mk0
 ·have:=trodAll_cons_mk (shut_string (H:=H) (enc:=enc) (w:=R) (base:=0) (sp:=λb=>decide (b<W.heap.size)) (held:=true) underlying9 w0)<|trodAll_cons_mk (shut_string underlying9 w1) (trodAll_cons_mk (Below.trod laidOut au (of_decide_eq_true au) F A s)<|trodAll_cons_mk (Below.trod laidOut au (of_decide_eq_true au) G A u) (trodAll_cons_mk (shut_int underlying3 w4) trodAll_mk0));simp only[Qd,Qs]at this;exact this
theorem over:Rows.AllSaid:=
 OpenClaim.holds_of_wide 10 Tryz.f10 rfl rfl rfl rfl rfl rfl rfl ⟨rfl,rfl,rfl,rfl,rfl⟩ rfl rfl rfl rfl rfl au func10 xyc
  (of_decide_eq_true au) (by unfold Func.isWrapper;first|(rw[lJ (by decide +kernel)];kernel_rfl)|(rw[Xy (by decide +kernel)];exact⟨rfl,rfl⟩))
  (λos d H enc _=>lifted os d H enc)
end Go.Proofs.YtpmcnonmkghokaaGreatDoor.alls
namespace Go.Proofs.YtpmcnonmkghokaaGreatDoor
open Go.Proofs.Tryz Go
theorem all_proved:Rows.AllCardSaid:=
 Claim7.holds_tied_plain_at .later [] [.data,.data,.data] true (true,"866e42b94a8d35afcd2281c26c94c6bb01422d5ed6fd52653700cd8dee87b256") false
  alls.over (λ_ h=>ig) au (λ_ h=>ig) all_row_tie rfl ⟨rfl,rfl⟩ au rfl
  (λf i k e=>by
   obtain rfl : f = 10:=Option.some.inj ((show prog.funcNamed "orbits/orbitslaw.All" = some 10 by kernel_rfl).symm.trans k) |>.symm
   obtain rfl:i=Tryz.f10:=(Option.some.inj<|func10.symm.trans e).symm;exact⟨au,λj t g=>by
    rw[Tryz.params10]at g;have l:t∈[9,22,3]:=by have:=Array.mem_of_getElem? g;simp at this |-;omega
    have d:([9,22,3].all λu=>!prog.wantsStandIn u)=true:=au;exact(show prog.wantsStandIn t=false by simpa using sJ.1 d t l)⟩)
  au
end Go.Proofs.YtpmcnonmkghokaaGreatDoor
