import Derived.Test.YtkhodpknpligpaaGreatAl
import Derived.Test.YtkhodpknpligpaaGreatMrgAE
set_option maxRecDepth 100000
set_option maxHeartbeats 8000000
namespace Go.Proofs.YtkhodpknpligpaaGreat.hostAgain
open Go.ChangeShapes Go.WideShapes Go.ChangeAt Go.RowKit Copyhold
open Go.ChangeMaps (open_string shut_string)
set_option linter.unusedVariables false
set_option linter.unusedSimpArgs false
theorem own:ownKnob Tryz.prog.godebug=none:=by kernel_rfl
theorem laidOut:laidOutB Tryz.prog=true:=by kernel_rfl
theorem lifted (os:Os) (started:os.Started) (H:Type) (enc:TypeId × Value→H) :
  ReturnsInHanded {} Tryz.checked os 4 .any (Rows.hostAgainSpec.pre6 enc Tryz.prog Tryz.f4 Rows.hostAgainRow.domain false) (Rows.hostAgainSpec.post enc Tryz.prog Tryz.f4 false true false false):=by
 refine returnsInHanded_of_change_sized (C:=Tryz.checked) own started (by kernel_rfl) Tryz.func4
  (ChangeSpec.witness6 (enc:=enc) (C:=Tryz.checked) false ⟨#[],#[.agg #[.slice none 0 0,.slice none 0 0,.int .i64 0,.slice none 0 0,.slice none 0 0,.int .i64 0,.int .i64 0],.agg #[.int .i64 0,.int .i64 0,.int .i64 0,.int .i64 0,.int .i64 0,.int .i64 0,.int .i64 0,.int .i64 0,.int .i64 0,.int .i64 0,.int .i64 0,.string ByteArray.empty,.string ByteArray.empty,.string ByteArray.empty]],[]⟩ 8 (by kernel_rfl) (by kernel_rfl) (by kernel_rfl) (by kernel_rfl)) ?_
 intro W base args ds gs before hval0 hW hcnd hsz0 _;have hsz:(DataW.weightsEach Tryz.prog (Tryz.f4.params.toList++[]) (ds++gs)).all (·≤reachBytes)=true:=hsz0;clear hsz0;have hval:∀ (j:Nat) t v,Tryz.f4.params[j]?=some t→args[j]?=some v→Value.okWide Tryz.prog W .any base t v:=hval0;have hW':=hW;have hlt:=hW.lt;obtain ⟨p,q,hA0,hV,rfl,hfz,hnd⟩:=hW;have hA:DataW.TrodAll enc Tryz.prog W 0 (fun _=>true) true Tryz.f4.params.toList args.toList ds p:=hA0;rw [Tryz.params4] at hA hval;obtain ⟨v0,vs0,d0,ds0,p0,q0,hargs,rfl,rfl,h0,r0⟩:=trodAll_cons hA;obtain ⟨v1,vs1,d1,ds1,p1,q1,rfl,rfl,rfl,h1,r1⟩:=trodAll_cons r0;obtain ⟨rfl,rfl,rfl⟩:=trodAll_nil r1;obtain rfl:args=#[v0,v1]:=by cases args;simp_all
 obtain ⟨rfl,rfl⟩:=trodVars_none hV;obtain ⟨a0,ra0,o0⟩:=Qpc (Zlz W) Tryz.underlying29 (hval 0 29 v0 rfl rfl) h0 (fun x hx=>hlt x (by simp [hx])) (fun n hn=>Qob hsz (by rw [Tryz.params4];simp [DataW.weightsEach,hn]));obtain ⟨a1,ra1,o1⟩:=Qpc (Zly W) Tryz.underlying62 (hval 1 62 v1 rfl rfl) h1 (fun x hx=>hlt x (by simp [hx])) (fun n hn=>Qob hsz (by rw [Tryz.params4];simp [DataW.weightsEach,hn]));refine (Qzl (Qn0 a0 a1 o0 o1) (Zj3 [_,_] [_,_] ⟨ra0,ra1,trivial⟩)).mono fun e W' ⟨he,hg⟩=>?_;subst he;exact ⟨_,rfl,Copyhold.law_post laidOut (by kernel_rfl) (by kernel_rfl) Tryz.underlying4 rfl rfl rfl rfl hW' hg⟩
theorem an {a b:Bool} (h:a=true) (k:b=true):(a&&b)=true:=by rw [h,k];rfl
theorem j0:(Rows.hostAgainRow.wf (OpenSpec.ofChange Rows.hostAgainSpec))=true:=by kernel_rfl
theorem j1:(laidOutB (Tryz.pinned.checked.prog))=true:=by kernel_rfl
theorem j2:(mapsRowed (Tryz.pinned.checked.prog))=true:=by kernel_rfl
theorem j3:(Tryz.f4.params.all ((Tryz.pinned.checked.prog).readableRec ·))=true:=by kernel_rfl
theorem j4:(namedTie (Tryz.pinned.checked.prog) Rows.hostAgainRow.named Rows.hostAgainSpec.vars)=true:=by kernel_rfl
theorem j5:((Rows.hostAgainRow.stops==[]))=true:=by kernel_rfl
theorem j6:(((Tryz.pinned.checked.prog).stops==[]))=true:=by kernel_rfl
theorem j7:((Rows.hostAgainRow.knobs==[]))=true:=by kernel_rfl
theorem j8:(((Tryz.pinned.checked.prog).stopKnobs==[]))=true:=by kernel_rfl
theorem j9:((Rows.hostAgainRow.inPlace==(Tryz.pinned.checked.prog).inPlace 4))=true:=by kernel_rfl
theorem j10:((Rows.hostAgainRow.unfollowed==(Tryz.pinned.checked.prog).unfollowed 4))=true:=by kernel_rfl
theorem j11:((Rows.hostAgainRow.recurses==(Tryz.pinned.checked.prog).recurses 4))=true:=by kernel_rfl
theorem j12:((Rows.hostAgainRow.named==(Tryz.pinned.checked.prog).varsNamed 4))=true:=by kernel_rfl
theorem j13:((Rows.hostAgainRow.maps==(Tryz.f4.params.toList++Rows.hostAgainSpec.plain.varTypes (Tryz.pinned.checked.prog)).any ((Tryz.pinned.checked.prog).mapsRec ·)))=true:=by kernel_rfl
theorem j14:((Rows.hostAgainRow.ifaces==(Tryz.f4.params.toList++Rows.hostAgainSpec.plain.varTypes (Tryz.pinned.checked.prog)).any ((Tryz.pinned.checked.prog).ifacesRec ·)))=true:=by kernel_rfl
theorem j15:((Rows.hostAgainRow.mapsOut==(Tryz.pinned.checked.prog).mapsAmong Tryz.f4.resultTypes.toList))=true:=by kernel_rfl
theorem j16:((Rows.hostAgainRow.loops==(Tryz.f4.params.toList++Rows.hostAgainSpec.plain.varTypes (Tryz.pinned.checked.prog)).any ((Tryz.pinned.checked.prog).loopsFrom ·)))=true:=by kernel_rfl
theorem j17:((Rows.hostAgainRow.wideKeys==(Tryz.f4.params.toList++Rows.hostAgainSpec.plain.varTypes (Tryz.pinned.checked.prog)++Tryz.f4.resultTypes.toList).any ((Tryz.pinned.checked.prog).wideKeysFrom ·)))=true:=by kernel_rfl
theorem j18:(Rows.hostAgainSpec.vars.all ((Tryz.pinned.checked.prog).varReadable ·))=true:=by kernel_rfl
theorem j19:(Tryz.f4.resultTypes.all (fun t=>(Tryz.pinned.checked.prog).readableRec t&&decide (t<(Tryz.pinned.checked.prog).types.size)))=true:=by kernel_rfl
theorem j20:((Rows.hostAgainRow.ifacesOut==Tryz.f4.resultTypes.toList.any ((Tryz.pinned.checked.prog).ifacesRec ·)))=true:=by kernel_rfl
theorem j21:((Rows.hostAgainRow.loopsOut==Tryz.f4.resultTypes.toList.any ((Tryz.pinned.checked.prog).loopsFrom ·)))=true:=by kernel_rfl
theorem j22:((Rows.hostAgainRow.plainKeys==(Tryz.pinned.checked.prog).plainKeys))=true:=by kernel_rfl
theorem j23:(Rows.hostAgainRow.shortTexts.isNone)=true:=by kernel_rfl
theorem j24:((Tryz.pinned.checked.prog).stopsHeard)=true:=by kernel_rfl
theorem j25:((Tryz.pinned.checked.prog).mayEnter)=true:=by kernel_rfl
theorem j26:((Rows.hostAgainRow.lifted==(Tryz.pinned.checked.prog).liftsFinal))=true:=by kernel_rfl
theorem j27:(((Tryz.pinned.checked.prog).make==some Rows.hostAgainRow.make))=true:=by kernel_rfl
theorem j28:((Rows.hostAgainRow.kinds==(if Rows.hostAgainRow.domain.isEmpty then [] else Tryz.f4.params.toList.map fun t=>match (Tryz.pinned.checked.prog).underlying t with | some (.int k)=>some k | _=>none)))=true:=by kernel_rfl
theorem j29:((Rows.hostAgainRow.pinned==Rows.hostAgainRow.pinnedBy))=true:=by kernel_rfl
theorem j30:((Rows.hostAgainRow.veiled==(Tryz.f4.params.toList++Rows.hostAgainSpec.plain.varTypes (Tryz.pinned.checked.prog)++Tryz.f4.resultTypes.toList).any ((Tryz.pinned.checked.prog).veiledRec ·)))=true:=by kernel_rfl
theorem j31:(Rows.hostAgainRow.veiledFits (Tryz.pinned.checked.prog) Tryz.f4.params.toList (Tryz.f4.params.toList++Rows.hostAgainSpec.plain.varTypes (Tryz.pinned.checked.prog)++Tryz.f4.resultTypes.toList))=true:=by kernel_rfl
theorem closed:joinedFacts Tryz.pinned.checked.prog 4 Tryz.f4 Rows.hostAgainSpec Rows.hostAgainRow=true:=(an (an (an (an (an (an (an (an (an (an (an (an (an (an (an (an (an (an (an (an (an (an (an (an (an (an (an (an (an (an (an j0 j1) j2) j3) j4) j5) j6) j7) j8) j9) j10) j11) j12) j13) j14) j15) j16) j17) j18) j19) j20) j21) j22) j23) j24) j25) j26) j27) j28) j29) j30) j31)
theorem over:Rows.hostAgainRow.holds Tryz.pinned (OpenSpec.ofChange Rows.hostAgainSpec):=
 OpenClaim.holds_of_wide 4 Tryz.f4 rfl rfl rfl rfl rfl rfl rfl ⟨rfl,rfl,rfl,rfl,rfl⟩ rfl rfl rfl rfl rfl (by kernel_rfl) Tryz.func4 closed
  (of_decide_eq_true (by kernel_rfl)) (by unfold Func.isWrapper;first | (rw [W1x (by decide +kernel)];kernel_rfl) | (rw [W1w (by decide +kernel)];exact ⟨rfl,rfl⟩))
  (fun os started H enc _=>lifted os started H enc)
theorem proved:Rows.HostAgainSaid:=
 over
end Go.Proofs.YtkhodpknpligpaaGreat.hostAgain
