import Derived.Test.YtahlldgocpabjaaGreatAl
import Derived.Test.YtahlldgocpabjaaGreatMrgAI
set_option maxRecDepth 100000
set_option maxHeartbeats 8000000
namespace Go.Proofs.YtahlldgocpabjaaGreat.transSerial
open Go.ChangeShapes Go.WideShapes Go.ChangeAt Go.RowKit Copyhold
open Go.ChangeMaps (open_string shut_string)
set_option linter.unusedVariables false
set_option linter.unusedSimpArgs false
theorem own:ownKnob Tryz.prog.godebug=none:=by kernel_rfl
theorem laidOut:laidOutB Tryz.prog=true:=by kernel_rfl
theorem lifted (os:Os) (started:os.Started) (H:Type) (enc:TypeId × Value→H) :
  ReturnsInHanded {} Tryz.checked os 5 .any (Rows.transSerialSpec.pre6 enc Tryz.prog Tryz.f5 Rows.transSerialRow.domain false) (Rows.transSerialSpec.post enc Tryz.prog Tryz.f5 false true false false):=by
 refine returnsInHanded_of_change_sized (C:=Tryz.checked) own started (by kernel_rfl) Tryz.func5
  (ChangeSpec.witness6 (enc:=enc) (C:=Tryz.checked) false ⟨#[],#[.agg #[.slice none 0 0,.slice none 0 0,.int .i64 0],.slice none 0 0,.slice none 0 0],[]⟩ 8 (by kernel_rfl) (by kernel_rfl) (by kernel_rfl) (by kernel_rfl)) ?_
 intro W base args ds gs before hval0 hW hcnd hsz0 _;have hsz:(DataW.weightsEach Tryz.prog (Tryz.f5.params.toList++[]) (ds++gs)).all (·≤reachBytes)=true:=hsz0;clear hsz0;have hval:∀ (j:Nat) t v,Tryz.f5.params[j]?=some t→args[j]?=some v→Value.okWide Tryz.prog W .any base t v:=hval0;have hW':=hW;have hlt:=hW.lt;obtain ⟨p,q,hA0,hV,rfl,hfz,hnd⟩:=hW;have hA:DataW.TrodAll enc Tryz.prog W 0 (fun _=>true) true Tryz.f5.params.toList args.toList ds p:=hA0;rw [Tryz.params5] at hA hval;obtain ⟨v0,vs0,d0,ds0,p0,q0,hargs,rfl,rfl,h0,r0⟩:=trodAll_cons hA;obtain ⟨v1,vs1,d1,ds1,p1,q1,rfl,rfl,rfl,h1,r1⟩:=trodAll_cons r0;obtain ⟨v2,vs2,d2,ds2,p2,q2,rfl,rfl,rfl,h2,r2⟩:=trodAll_cons r1;obtain ⟨rfl,rfl,rfl⟩:=trodAll_nil r2;obtain rfl:args=#[v0,v1,v2]:=by cases args;simp_all
 obtain ⟨rfl,rfl⟩:=trodVars_none hV;obtain ⟨a0,ra0,o0⟩:=Zc1 (Znt W) Tryz.underlying25 (hval 0 25 v0 rfl rfl) h0 (fun x hx=>hlt x (by simp [hx])) (fun n hn=>Qln hsz (by rw [Tryz.params5];simp [DataW.weightsEach,hn]));obtain ⟨a1,ra1,o1⟩:=Qvs (Zfa W) Tryz.underlying66 (hval 1 66 v1 rfl rfl) h1 (fun x hx=>hlt x (by simp [hx])) (fun n hn=>Qln hsz (by rw [Tryz.params5];simp [DataW.weightsEach,hn]));obtain ⟨a2,ra2,o2⟩:=Qvs (Qy6 W) Tryz.underlying39 (hval 2 39 v2 rfl rfl) h2 (fun x hx=>hlt x (by simp [hx])) (fun n hn=>Qln hsz (by rw [Tryz.params5];simp [DataW.weightsEach,hn]));refine (Zca (Qmp a0 a1 a2 o0 o1.1 o1.2 o2.1 o2.2) (Zly [_,_,_] [_,_,_] ⟨ra0,ra1,ra2,trivial⟩)).mono fun e W' ⟨he,hg⟩=>?_;subst he;exact ⟨_,rfl,Copyhold.law_post laidOut (by kernel_rfl) (by kernel_rfl) Tryz.underlying4 rfl rfl rfl rfl hW' hg⟩
theorem over:Rows.transSerialRow.holds Tryz.pinned (OpenSpec.ofChange Rows.transSerialSpec):=
 OpenClaim.holds_of_wide 5 Tryz.f5 rfl rfl rfl rfl rfl rfl rfl ⟨rfl,rfl,rfl,rfl,rfl⟩ rfl rfl rfl rfl rfl (by kernel_rfl) Tryz.func5 (by kernel_rfl)
  (of_decide_eq_true (by kernel_rfl)) (by unfold Func.isWrapper;first | (rw [W1y (by decide +kernel)];kernel_rfl) | (rw [W1x (by decide +kernel)];exact ⟨rfl,rfl⟩))
  (fun os started H enc _=>lifted os started H enc)
theorem proved:Rows.TransSerialSaid:=
 over
end Go.Proofs.YtahlldgocpabjaaGreat.transSerial
