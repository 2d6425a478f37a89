/- For every text of a model and every number the Search of the program tells what the Search of the reference tells: the same error, the same count of orbits, whether a bad state can be reached, and a way to one that is as short as can be. Conditions: none beyond those of the given statement. -/
import Derived.Test.YtpmcnonmkghokaaGreatDoorT13
import Derived.Test.YtpmcnonmkghokaaGreatDoorT14
import Derived.Test.YtpmcnonmkghokaaGreatDoorCards
import Derived.Test.YtpmcnonmkghokaaGreatDoorTie
import Derived.ProofKit
import Derived.LaidMore
import Derived.OpenShut
import Derived.Stop.Joined
import Derived.SevenTiedAt
import Derived.ShutString
set_option maxRecDepth 100000
set_option linter.unusedVariables false
set_option linter.unusedSimpArgs false
namespace Go.Proofs.YtpmcnonmkghokaaGreatDoor.srch
open Go.Proofs.Tryz
open Go.ChangeShapes Go.WideShapes Go.ChangeAt Go.RowKit
open Go.ChangeMaps (open_string shut_string)
theorem own:ownKnob prog.godebug=none:=au
abbrev pqf:List (String×DataW Unit):=Rows.searchesRow.laid
theorem door_met(os:Os)(args:Array Value):laidMetH prog pqf ((World.doorLaid prog 400 os).forCall (λ_ _=>0) ⟨#[],args,[]⟩).memory:=
 laidMetH_of_parts3 (fuel:=8) (laidMet_of_run' 8 au au) au au
theorem pwk{a2:Type}{enc:TypeId×Value->a2}{a3:Program}{a4:Func}{a5:ChangeSpec}{a6 a7 a8 a9:Bool}{f b3:World}{b4:Array Value}{b5:Value}{ds gs:List (DataW a2)}(h:DataW.Whole enc a3 a4.params.toList a5.vars a6 f b4.toList ds gs [])(e:∀(b:Nat)(sp:Nat->Bool)(hd:Bool),DataW.TrodAll enc a3 b3 b sp hd a4.resultTypes.toList (b5.resultList a4.resultTypes.size) (a5.fn a2<|ds++gs).results [])(a:∀sp:Nat->Bool,DataW.TrodAll enc a3 b3 0 sp true a4.params.toList b4.toList (a5.fn a2<|ds++gs).args [])(c:∀sp:Nat->Bool,DataW.TrodVars enc a3 b3 sp a5.vars (a5.fn a2<|ds++gs).vars [])(i:oq f b3)(g:∀(j:Nat)(t:TypeId)(r:Value),a4.resultTypes[j]?=some t->(b5.resultList a4.resultTypes.size)[j]?=some r->Value.okWide a3 b3 .any 0 t r):a5.post enc a3 a4 a6 a7 a8 a9 f b4 b5 b3:=by exact⟨ds,gs,[],[],[],[],h,e _ _ _,a _,c _,World.keptBut_mono (λp d=>by cases d) (i.frame<|λ_=>False),λ_=>⟨g,_,_,[],⟨[],[],trodAll_append (a _)<|e _ _ _,c _,rfl,λb k d=>by simp at d,λ_=>ay⟩,λp d _=>by simp at d⟩⟩
theorem lifted(os:Os)(c:os.Started)(H:Type)(enc:TypeId×Value->H):ReturnsInHanded {} Tryz.checked os 7 .any (λw args=>(Rows.searchesSpec.pre enc prog Tryz.f7 [] false w args/\laidMetH prog pqf w)/\sizedMet enc prog Tryz.f7 (OpenSpec.ofChange Rows.searchesSpec) false w args)
   (Rows.searchesSpec.post enc prog Tryz.f7 false true false false):=by
 refine returnsInHanded_of_change_and (C:=Tryz.checked) (X:=λw _=>laidMetH prog pqf w) (λ_ _ _ E h=>h.of_heap E) own c au func7
  (ChangeSpec.witness_shaped (enc:=enc) (C:=Tryz.checked) (os:=os) (X:=λw _=>laidMetH prog pqf w) false (World.doorLaid prog 400 os) #[.string ⟨#[]⟩,.int .i64 0] 8 rfl (World.shaped_of_RefB au au) au au au<|door_met os _) ?_
 intro W base args ds gs g b k _ _ Q _;have a:∀(j:Nat) t v,Tryz.f7.params[j]?=some t->args[j]?=some v->Value.okWide prog W .any base t v:=b;have f:=k;obtain⟨p,q,i,A,rfl,L,M⟩:=k;have hA:DataW.TrodAll enc prog W 0 (λ_=>true) true Tryz.f7.params.toList args.toList ds p:=i;rw[Tryz.params7]at hA a;obtain⟨l,N,d0,J,R,T,u,rfl,rfl,z,F⟩:=trodAll_cons hA;obtain⟨m,O,d1,K,S,U,d,rfl,rfl,h1,G⟩:=trodAll_cons F;obtain⟨rfl,rfl,rfl⟩:=trodAll_nil G;subst d;obtain rfl:args=#[l,m]:=by cases args;simp_all
 obtain⟨rfl,rfl⟩:=trodVars_none A;obtain⟨a0,rfl,rfl,rfl,w0⟩:=open_string underlying9 (a 0 9 l rfl rfl) z;obtain⟨a1,rfl,rfl,rfl,s⟩:=open_int underlying3 (a 1 3 m rfl rfl) h1;clear b;simp only[Qs]at f;have I:-9223372036854775808<=a1/\a1<=9223372036854775807:=by obtain⟨x,y⟩:=Bool.and_eq_true_iff.1 s;exact⟨of_decide_eq_true x,of_decide_eq_true y⟩
 refine(jwh W a0 (most:=a1) I).mono λe P ⟨B,D⟩=>?_
 subst B;exact⟨_,rfl,pwk f (λ_ _ _=>(trodAll_cons_mk (shut_bool underlying4 _) trodAll_mk0)) (λV=>(trodAll_cons_mk (shut_string underlying9 w0)<|trodAll_cons_mk (shut_int underlying3 s) trodAll_mk0)) (λ_=>rfl)
  D (ok_one au rfl<|okWide_bool_mk underlying4 _)⟩
theorem over:Rows.SearchesSaid:=
 OpenClaim.holds_of_wide 7 Tryz.f7 rfl rfl rfl rfl rfl rfl rfl ⟨rfl,rfl,rfl,rfl,rfl⟩ rfl rfl rfl rfl rfl au func7 zwh
  (of_decide_eq_true au) (by unfold Func.isWrapper;first|(rw[lJ (by decide +kernel)];kernel_rfl)|(rw[Xy (by decide +kernel)];exact⟨rfl,rfl⟩))
  (λos a H enc _=>lifted os a H enc)
end Go.Proofs.YtpmcnonmkghokaaGreatDoor.srch
namespace Go.Proofs.YtpmcnonmkghokaaGreatDoor
open Go.Proofs.Tryz Go
theorem searches_proved:Rows.SearchesCardSaid:=
 Claim7.holds_tied_plain_at .later [] [.data,.data,.data] true (true,"866e42b94a8d35afcd2281c26c94c6bb01422d5ed6fd52653700cd8dee87b256") false
  srch.over (λ_ h=>ig) au (λ_ h=>ig) searches_row_tie rfl ⟨rfl,rfl⟩ au rfl
  (λf d e b=>by
   obtain rfl : f = 7:=Option.some.inj ((by kernel_rfl : prog.funcNamed "orbits/orbitslaw.Searches" = some 7).symm.trans e) |>.symm
   obtain rfl:d=Tryz.f7:=(Option.some.inj<|func7.symm.trans b).symm;exact⟨au,λj t c=>by
    rw[Tryz.params7]at c;have g:t∈[9,3]:=by simpa using Array.mem_of_getElem? c
    have a:([9,3].all λu=>!prog.wantsStandIn u)=true:=au;exact(by simpa using sJ.1 a t g:prog.wantsStandIn t=false)⟩)
  au
end Go.Proofs.YtpmcnonmkghokaaGreatDoor
