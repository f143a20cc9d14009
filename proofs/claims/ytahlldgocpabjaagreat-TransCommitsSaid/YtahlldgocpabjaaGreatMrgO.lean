import Derived.Test.YtahlldgocpabjaaGreatMrgN
import Derived.Test.YtahlldgocpabjaaGreatVc
import Derived.Test.YtahlldgocpabjaaGreatMrgI
import Derived.Test.YtahlldgocpabjaaGreatMrgJ
import Derived.MapKept
set_option linter.unusedVariables false
set_option linter.unusedSimpArgs false
namespace Go.Proofs.YtahlldgocpabjaaGreat
open Go Go.RowKit Copyhold
def hasB (U:List Int) (i:Int):Bool:=U.any fun z=>z==i
theorem has_no {U:List Int} {i:Int} (h:AllQ (fun _ z=>(z==i)=false) U):hasB U i=false:=by
 unfold hasB;rw [List.any_eq_false];intro x hx;obtain ⟨j,hj⟩:=List.getElem?_of_mem hx;rw [h j x hj];simp
theorem Zm9 {U:List Int} {k:Nat} {x i:Int} (hx:U[k]?=some x) (h:(x==i)=true):hasB U i=true:=
 List.any_eq_true.2 ⟨x,List.mem_of_getElem? hx,h⟩
theorem Qis {U:List Int} {i:Int}:hasB U i=true↔i∈U:=by
 unfold hasB;rw [List.any_eq_true];exact ⟨fun ⟨x,hx,he⟩=>by rw [beq_iff_eq] at he;exact he ▸ hx,fun h=>⟨i,h,by simp⟩⟩
def addE (U:List Int) (l:List Ent):List Int:=l.foldl (fun U e=>if hasB U e.ino then U else U++[e.ino]) U
theorem Qi1 {U:List Int} {l:List Ent} {k:Nat} {x:Ent} (h:l[k]?=some x) (q:hasB (addE U (l.take k)) x.ino=true):addE U (l.take (k+1))=addE U (l.take k):=by
 unfold addE at q ⊢;rw [Qam h,List.foldl_append];simp [q]
theorem Qlp {U:List Int} {l:List Ent} {k:Nat} {x:Ent} (h:l[k]?=some x) (q:hasB (addE U (l.take k)) x.ino=false):addE U (l.take (k+1))=addE U (l.take k)++[x.ino]:=by
 unfold addE at q ⊢;rw [Qam h,List.foldl_append];simp [q]
theorem Qy3 (l:List Ent):∀ U:List Int,U.length≤(addE U l).length:=by
 induction l with
 | nil=>exact fun U=>Nat.le_refl _
 | cons e r ih=>
  intro U;show _≤(addE (if hasB U e.ino then U else U++[e.ino]) r).length;refine Nat.le_trans ?_ (ih _)
  split
  ·exact Nat.le_refl _
  ·simp
def Qjc (f:Fsy):List Int:=f.l.flatMap fun n=>n.l.map Ent.ino
theorem Qx8 (f:Fsy):(Qjc f).length=(f.l.map wN).sum:=by
 unfold Qjc;rw [List.length_flatMap];congr 1;refine List.map_congr_left fun n _=>?_;rw [List.length_map];rfl
theorem Qqq:∀ {U A:List Int},U.Nodup→(∀ z∈U,z∈A)→U.length≤A.length
 | [],A,_,_=>Nat.zero_le _
 | x :: r,A,hn,hs=>by
  obtain ⟨h1,h2⟩:=List.nodup_cons.1 hn;have hx:x∈A:=hs x (by simp);have:=Qqq (U:=r) (A:=A.erase x) h2 fun z hz=>(List.mem_erase_of_ne (a:=z) (b:=x) (fun e=>h1 (by rw [← e];exact hz))).2 (hs z (by simp [hz]));rw [List.length_erase_of_mem hx] at this;have:=List.length_pos_of_mem hx;simp only [List.length_cons];omega
def Dst (f:Fsy) (U:List Int):Prop:=U.Nodup∧∀ z∈U,z∈Qjc f
theorem Dst.le {f:Fsy} {U:List Int} (h:Dst f U) (hf:fewF f):U.length≤200:=by
 have:=Qqq h.1 h.2;rw [Qx8] at this;have:=hf.1;omega
theorem Dst.nil (f:Fsy):Dst f []:=⟨List.nodup_nil,fun z h=>by cases h⟩
theorem Qfs {f:Fsy}:∀ {l:List Ent} {U:List Int},Dst f U→(∀ e∈l,e.ino∈Qjc f)→Dst f (addE U l)
 | [],U,h,_=>h
 | e :: r,U,h,hl=>by
  show Dst f (addE (if hasB U e.ino then U else U++[e.ino]) r);refine Qfs ?_ fun e' he=>hl e' (by simp [he]);cases hq:hasB U e.ino with
  | true=>exact h
  | false=>
   have hne:e.ino ∉ U:=fun hm=>by rw [Qis.2 hm] at hq;cases hq
   refine ⟨?_,fun z hz=>?_⟩
   ·show (U++[e.ino]).Nodup;rw [List.nodup_append];exact ⟨h.1,by simp,fun a ha b hb=>by obtain rfl:=List.mem_singleton.1 hb;exact fun e=>hne (e ▸ ha)⟩
   ·rcases List.mem_append.1 hz with hz | hz
    ·exact h.2 z hz
    ·obtain rfl:=List.mem_singleton.1 hz;exact hl e (by simp)
theorem Qfq {f:Fsy} {i:Int} {e:Ent} (h:e∈(Qaa f i).l):e.ino∈Qjc f:=by
 unfold Qaa at h;cases hf:f.l.find? (isNo i) with
 | none=>rw [hf] at h;cases h
 | some n=>
  rw [hf] at h;exact List.mem_flatMap.2 ⟨n,List.mem_of_find?_eq_some hf,List.mem_map_of_mem h⟩
theorem Qdv {f:Fsy} {U:List Int} (h:Dst f U) (i:Int) (k:Nat):Dst f (addE U ((Qaa f i).l.take k)):=
 Qfs h fun e he=>Qfq (List.mem_of_mem_take he)
def goU (f:Fsy):Nat→List Int→Nat→List Int
 | 0,U,_=>U
 | n+1,U,p=>
  match U[p]? with
  | some i=>goU f n (addE U (Qaa f i).l) (p+1)
  | none=>U
def Qc1 (f:Fsy) (i:Int):List Int:=goU f 300 (addE [] (Qaa f i).l) 0
def UH (f:Fsy) (i:Int) (U:List Int) (p:Nat):Prop:=Dst f U∧p≤U.length∧goU f (300-p) U p=Qc1 f i
theorem UH.zero (f:Fsy) (i:Int) {j:Nat} (h:(Qaa f i).l.length≤j):UH f i (addE [] ((Qaa f i).l.take j)) 0:=by
 refine ⟨Qdv (Dst.nil f) i j,Nat.zero_le _,?_⟩;rw [Qat h];rfl
theorem UH.step {f:Fsy} {i:Int} {U:List Int} {p j:Nat} {z:Int} (hf:fewF f) (h:UH f i U p) (hz:U[p]?=some z) (hj:(Qaa f z).l.length≤j):UH f i (addE U ((Qaa f z).l.take j)) (p+1):=by
 obtain ⟨h1,h2,h3⟩:=h;have hp:=Qan hz;have hl:=h1.le hf;refine ⟨Qdv h1 z j,by have:=Qy3 ((Qaa f z).l.take j) U;omega,?_⟩;rw [Qat hj,← h3,show 300-p=(300-(p+1))+1 from by omega];simp only [goU,hz]
theorem UH.done {f:Fsy} {i:Int} {U:List Int} {p:Nat} (h:UH f i U p) (hp:U.length≤p):Qc1 f i=U:=by
 rw [← h.2.2];cases 300-p with
 | zero=>rfl
 | succ n=>simp only [goU,List.getElem?_eq_none hp]
theorem Zfa {f:Fsy}:∀ (n:Nat) {U:List Int} (p:Nat),Dst f U→Dst f (goU f n U p)
 | 0,U,p,h=>h
 | n+1,U,p,h=>by
  simp only [goU]
  split
  ·exact Zfa n (p+1) (Qfs h fun e he=>Qfq he)
  ·exact h
def isE (i:Int) (e:Ent):Bool:=e.ino==i
def cntE (i:Int) (n:Nod):Nat:=n.l.countP (isE i)
def Qpi (f:Fsy) (i:Int):Nat:=(f.l.map (cntE i)).sum
def cntK (i:Int) (l:List Ent) (j:Nat):Nat:=(l.take j).countP (isE i)
theorem Zj8 {i:Int} {l:List Ent} {j:Nat} {x:Ent} (h:l[j]?=some x) (q:(x.ino==i)=true):cntK i l (j+1)=cntK i l j+1:=by
 unfold cntK;rw [Qam h,List.countP_append];simp [isE,q]
theorem Znr {i:Int} {l:List Ent} {j:Nat} {x:Ent} (h:l[j]?=some x) (q:(x.ino==i)=false):cntK i l (j+1)=cntK i l j:=by
 unfold cntK;rw [Qam h,List.countP_append];simp [isE,q]
theorem Zj9 {i:Int} {n:Nod} {j:Nat} (h:n.l.length≤j):cntK i n.l j=cntE i n:=by unfold cntK cntE;rw [Qat h]
theorem Zns (i:Int) (l:List Ent) (j:Nat):cntK i l j≤l.length:=Nat.le_trans List.countP_le_length (by rw [List.length_take];omega)
theorem Zgc (i:Int):∀ l:List Nod,(l.map (cntE i)).sum≤(l.map wN).sum
 | []=>Nat.le_refl _
 | n :: r=>by
  have:=Zgc i r;have:cntE i n≤wN n:=List.countP_le_length;simp only [List.map_cons,List.sum_cons];omega
def Qnn (f:Fsy) (i:Nat) (n:Nod):Bool:=!(decide ((i:Int)>0)&&(decide (n.links<1)||(n.kind==2&&(decide (n.links>1)||!(hasB (Qc1 f 1) n.ino)))))
def Qvw (f:Fsy) (i:Nat) (n:Nod):Prop:=n.links=(Qpi f n.ino:Int)∧Qnn f i n=true∧AllQ (fun _ e=>Qav f e.ino=true) n.l
def Qhb (f:Fsy):Prop:=Qar f∧(∃ n,f.l[0]?=some n∧n.ino=1∧n.kind=2∧n.links=0)∧AllQ (Qvw f) f.l
def Qry (P:Program) (f:FuncId) (args:List AV) (y:Bx) (r:AV):Prop:=
 ∀ (D:Nat→Prop) (w:World) (vs:Array Value),(∀ b,D b→b<w.heap.size)→Qde D w args vs→BoxR D w y→(∀ g,y.blk=some g→¬ D g) →
  Calls P f vs w (fun e w'=>∃ v,∃ D':Nat→Prop,e=.returned v∧Below 0 w w'∧(∀ k,y.blk ≠ some k→k<w.heap.size→w'.heap[k]?=w.heap[k]?)∧(∀ b,D b→D' b) ∧
   (∀ b,D' b→b<w'.heap.size∧(D b∨y.blk=some b∨w.heap.size≤b))∧Ra D' w' r v)
theorem Ziw {P:Program} {f:FuncId} {F:Func} {code:Code} {args:List AV} {q:Nat} {y:Bx} {r:AV} (n:Nat) (ct:Ct P) (hf:P.funcs[f]?=some F) (hb:F.body=some code)
  (hk:(decide (args.length≤F.ntmps)&&(P.follows .mixedOrders&&(F.results.toList.all fun rv=>decide ((match rv with | .tmp t=>t | .cell t _=>t)<F.ntmps))))=true)
  (h:vcC ct=vc P F (.val r) n ct (.code code) [] ⟨Qdp args 0,[(q,y)]⟩):Qry P f args y r:=by
 simp only [Bool.and_eq_true] at hk;have hsz:args.length≤F.ntmps:=of_decide_eq_true hk.1;have hn:=hk.2.2;have hv:vc P F (.val r) n ct (.code code) [] ⟨Qdp args 0,[(q,y)]⟩:=h ▸ Qay ct;intro D w vs hD hvs hy hyD;refine calls_of_wp hf hb ?_
 let c:Cx:=⟨w.heap.size,w,F.ntmps,D,fun k=>y.blk=some k⟩
 have hawp:AWp c P code (FinG P F (.val r)) (LS.mk (Qdp args 0) [(q,y)]).fs:=Qa0 (c:=c) rfl hk.2.1 n ct (.code code) [] _ hv;have htm:∀ t,(LS.mk (Qdp args 0) [(q,y)]).fs.tm t=args.getD t .any:=fun t=>by
  show lget (Qdp args 0) t=_;rw [Qgi];simp
 have hbx:∀ i x,(LS.mk (Qdp args 0) [(q,y)]).fs.bx i=some x→i=q∧x=y:=fun i x hx=>by
  have hx':bget [(q,y)] i=some x:=hx;simp only [bget] at hx';cases hb:Nat.beq q i with
  | true=>
   rw [hb] at hx';exact ⟨(Nat.eq_of_beq_eq_true hb).symm,(Option.some.inj hx').symm⟩
  | false=>rw [hb] at hx';cases hx'
 have hrel:Rel c (LS.mk (Qdp args 0) [(q,y)]).fs { tmps:=vs++Array.replicate (F.ntmps-vs.size) undef,defers:=[] } w:=by
  refine ⟨Nat.le_refl _,D,rfl,?_,BelowL.refl (c:=c),hD,⟨fun _ h=>h,fun _ h=>.inl h⟩,fun t v hv=>?_,fun id x h=>?_,fun i j x z hx hz hij=>?_⟩
  ·have:=hvs.1;simp [c];omega
  ·rw [htm];by_cases ht:t<vs.size
   ·rw [Array.getElem?_append_left ht] at hv;have hta:t<args.length:=by rw [hvs.1];exact ht
    have:=hvs.2 t args[t] v (List.getElem?_eq_getElem hta) hv;simpa [List.getD,List.getElem?_eq_getElem hta] using this
   ·have hta:args.length≤t:=by rw [hvs.1];omega
    have:args.getD t .any=.any:=by simp [List.getD,List.getElem?_eq_none hta]
    rw [this];exact .any v
  ·obtain ⟨_,rfl⟩:=hbx id x h;exact ⟨fun g hg=>⟨.inr hg,hyD g hg⟩,hy⟩
  ·exact absurd ((hbx i x hx).1.trans (hbx j z hz).1.symm) hij
 refine wp_mono (hawp _ _ hrel) fun e' a' w' ⟨s',hq,hc,D',hR⟩=>?_;obtain ⟨he,hd⟩:=hq;have hn':∀ rv∈F.results.toList,(match rv with | .tmp t=>t | .cell t _=>t)<c.n:=fun rv hrv=>by
  have:=List.all_eq_true.1 hn rv hrv;simpa using this
 obtain ⟨v,hv1,hrv⟩:=Qgu hR hn' hd;have fin:∃ u,∃ D'':Nat→Prop,Ending.returned v=.returned u∧Below 0 w w'∧(∀ k,y.blk ≠ some k→k<w.heap.size→w'.heap[k]?=w.heap[k]?)∧(∀ b,D b→D'' b) ∧
   (∀ b,D'' b→b<w'.heap.size∧(D b∨y.blk=some b∨w.heap.size≤b))∧Ra D'' w' r u:=
  ⟨v,D',rfl,⟨hR.below.os,hR.below.tape,hR.below.output,hR.below.size,fun k hk=>absurd hk (by omega)⟩,fun k hk hl=>hR.below.block k hl hk,hR.old.1,
   fun b hb=>⟨hR.dlt b hb,(hR.old.2 b hb).imp id fun h=>h.symm⟩,hrv⟩
 rcases he with rfl | rfl
 ·exact ⟨hR.defers,v,hv1,fin⟩
 ·exact ⟨hR.defers,v,hv1,fin⟩
def gone:Bx:=.row (.slice none 0 0) 0 0 []
def lcR (P:Program) (q:Nat) (ops:Array Oper) (s:LS) (i:Nat):Option ((FuncId × List AV × Option Tmp) × Bx):=
 match Ql4 ops s i,bget s.bx q with
 | some (f,args,d),some y=>bif entB P f then some ((f,args,d),y) else none
 | _,_=>none
theorem Znb (D:Nat→Prop) (w:World):BoxR D w gone:=by
 show BoxR D w (.row (.slice none 0 0) 0 0 []);refine ⟨fun l h=>(by cases h),[],World.ownsRow_nil _ _ _ _,fun u h=>(by cases h),fun j a u h=>(by simp at h)⟩
theorem Qcy {P:Program} {q:Nat} {f:FuncId} {args args':List AV} {d:Option Tmp} {y:Bx} {r:AV} (hs:Qdf args args') (hsp:Qry P f args' y r) :
  ∀ (ops:Array Oper) (i:Nat) (s:LS) (K:FS→Prop),lcR P q ops s i=some ((f,args,d),y)→(∀ a:Unit,K ((s.put d r).setB q gone).fs)→Qun P ops i s.fs K:=by
 intro ops i s K h kk;unfold lcR at h
 split at h
 ·rename_i f' args0 d' y' hc hr;cases he:entB P f' with
  | false=>rw [he] at h;cases h
  | true=>
   rw [he] at h;simp only [cond_true,Option.some.injEq,Prod.mk.injEq] at h;obtain ⟨⟨rfl,rfl,rfl⟩,rfl⟩:=h;obtain ⟨o,hi,hg,hrd,hd,hrun⟩:=Qks (P:=P) hc;refine ⟨o,hi,hg,q,fun x z=>x=r∧z=gone,?_,?_⟩
   ·intro D w a Q K' hD hops hbx hnd hcont;obtain ⟨hl,hsa⟩:=hs.ok;obtain ⟨vs,h1,h2⟩:=hrun D w a.eval hops;have hra:Qde D w args' vs:=by
     refine ⟨by rw [← hl];exact h2.1,fun j x v hx hv=>?_⟩;have hj:j<args0.length:=by have:=(List.getElem?_eq_some_iff.1 hx).1;omega
     exact hsa j args0[j] x (List.getElem?_eq_getElem hj) hx D w v (h2.2 j args0[j] v (List.getElem?_eq_getElem hj) hv)
    unfold Oper.wp;rw [h1,Qje he,Oper.upon_enter];refine (hsp D w _ hD hra (hbx q _ hr) (fun g hg=>hnd _ g hr hg)).mono ?_;rintro e' w' ⟨v,D',rfl,g1,g2,g3,g4,g5⟩;exact hcont v w' r _ gone D' ⟨rfl,rfl⟩ hr g1 g2 g3 g4 (fun g h=>by cases h) (Znb D' w') g5
   ·rintro x z ⟨rfl,rfl⟩;rw [hd,LS.fs_put,LS.fs_setB];exact kk ()
 ·cases h
theorem Qkb {P:Program} {f:FuncId} {F:Func} {code:Code} {args:List AV} {q:Nat} {y:Bx} {r:AV} (hf:P.funcs[f]?=some F) (ct:Ct P) (n:Nat:=400) (hb:F.body=some code:=by rfl)
  (hk:(decide (args.length≤F.ntmps)&&(P.follows .mixedOrders&&(F.results.toList.all fun rv=>decide ((match rv with | .tmp t=>t | .cell t _=>t)<F.ntmps))))=true:=by kernel_rfl)
  (h:vcC ct=vc P F (.val r) n ct (.code code) [] ⟨Qdp args 0,[(q,y)]⟩:=by kernel_rfl):Qry P f args y r:=Ziw n ct hf hb hk h
theorem Zeq {P:Program} {kt:TypeId} (h:Qci P kt (.i 0)=true) (es:List (MK × AV)) (he:∀ p∈es,∃ z,p.1=.i z):(es.all fun p=>Qci P kt p.1)=true:=by
 rw [List.all_eq_true];intro p hp;obtain ⟨z,hz⟩:=he p hp;rw [hz];exact h
def lkS (ok:Bool) (fd:Option (Nat × AV)) (zv:Value) (y:AV):Prop:=Sub (Qs8 ok (fdV fd zv) fd.isSome) y
theorem Zhx {P:Program} {ops:Array Oper} {K:FS→Prop} {rest:List Nat} {i:Nat} {s:LS} {kt e:TypeId} {k:MK} {es:List (MK × AV)} {ok:Bool} {d:Option Tmp} (fd:Option (Nat × AV)) (zv:Value) (h:lkO P ops s i=some (kt,e,es,k,ok,d))
  (hk:(es.all fun p=>Qci P kt p.1)=true) (hk2:Qci P kt k=true) (hz:(P.info? e).bind (·.zero)=some zv) (hn:Qdz k es 0=fd)
  {y:AV} (hy:lkS ok fd zv y) (kk:SeqR P ops K rest (s.put d y).fs):SeqR P ops K (i :: rest) s.fs:=by
 unfold lkO at h
 split at h
 ·rename_i o ho;obtain ⟨hi,hg⟩:=Qbw ho
  split at h
  ·rename_i t m ko ok' hop
   split at h
   ·rename_i kt' e' es1 kk' hu hm hko;simp only [Option.some.injEq,Prod.mk.injEq] at h;obtain ⟨rfl,rfl,rfl,rfl,rfl,rfl⟩:=h;refine ⟨o,hi,.inr ⟨hg,.inr (.inl ⟨by rw [hop];rfl,fun z nb=>z=y∧nb=none,?_,?_⟩)⟩⟩
    ·intro D w a Q K' hD hops hbx hcont;have hvm:=Qa5 hops m (by simp [hop,Op.operands]);have hvk:=Qa5 hops ko (by simp [hop,Op.operands]);rw [hm] at hvm;rw [Qnq hko] at hvk;generalize hmv:a.eval m=vm at hvm;generalize hkv:a.eval ko=vk at hvk;cases hvk;cases hvm with
     | mp es r es' clock g1 g2 g3 g4' g5 g6=>
      obtain ⟨g4,gB⟩:=g4';obtain ⟨dd,hd'⟩:=Qnp hk2;have e1:(getObj r).run P w=.ok (.map es' clock) w:=by simp [getObj,Sem.run,g3]
      obtain ⟨f1,f2⟩:=Qe2 hd' hk2 es1 es'.toList 0 (by simpa using g4) (fun p hp=>List.all_eq_true.1 hk p hp) (fun j p e hp he=>g5 j p e hp (by simpa using he));have main:∃ v,(execOp a.eval o).run P w=.ok (.value v) w∧Ra D w (Qs8 ok' (fdV fd zv) fd.isSome) v:=by
       cases fd with
       | none=>
        have hfind:=f1 hn;obtain ⟨inf,hi1,hi2⟩:∃ inf,P.info? e'=some inf∧inf.zero=some zv:=by
         cases hinf:P.info? e' with
         | none=>rw [hinf] at hz;cases hz
         | some inf=>rw [hinf] at hz;exact ⟨inf,rfl,hz⟩
        cases ok' with
        | true=>
         refine ⟨.tuple #[zv,.bool false],by simp [execOp,hop,hmv,hkv,Instr.lookup,run_underlying hu,e1,Qbu _ hk2,Instr.findKey,run_underlying hd',hfind,zeroValue,typeInfo,hi1,hi2],.tup _ _ rfl (fun j x v hx hv=>?_)⟩
         match j,hx,hv with
         | 0,hx,hv=>simp at hx hv;subst hx hv;exact .val _
         | 1,hx,hv=>simp at hx hv;subst hx hv;exact .val _
         | j+2,hx,_=>simp at hx
        | false=>
         exact ⟨zv,by simp [execOp,hop,hmv,hkv,Instr.lookup,run_underlying hu,e1,Qbu _ hk2,Instr.findKey,run_underlying hd',hfind,zeroValue,typeInfo,hi1,hi2],.val _⟩
       | some p=>
        obtain ⟨j,x⟩:=p;obtain ⟨en,q,q1,q2,q3,hfind⟩:=f2 j x hn;have hre:=g6 q _ en q2 (by simpa using q1);cases ok' with
        | true=>
         refine ⟨.tuple #[en.val,.bool true],by simp [execOp,hop,hmv,hkv,Instr.lookup,run_underlying hu,e1,Qbu _ hk2,Instr.findKey,run_underlying hd',hfind],.tup _ _ rfl (fun j x v hx hv=>?_)⟩
         match j,hx,hv with
         | 0,hx,hv=>simp at hx hv;subst hx hv;exact hre
         | 1,hx,hv=>simp at hx hv;subst hx hv;exact .val _
         | j+2,hx,_=>simp at hx
        | false=>
         exact ⟨en.val,by simp [execOp,hop,hmv,hkv,Instr.lookup,run_underlying hu,e1,Qbu _ hk2,Instr.findKey,run_underlying hd',hfind],hre⟩
      obtain ⟨v,m1,m2⟩:=main;unfold Oper.wp;rw [m1,Oper.upon_value];exact hcont _ w _ none D ⟨rfl,rfl⟩ (Below.refl _ _) (fun _ h=>h) (fun b h=>⟨hD b h,.inl h⟩) (hy D w v m2) (fun id y h=>by cases h)
    ·rintro z nb ⟨rfl,rfl⟩;refine ⟨fun id y h=>(by cases h),?_⟩;simp only [FS.addB];rw [LS.fs_put];exact kk
   ·cases h
  ·cases h
 ·cases h
def lkB (P:Program) (ops:Array Oper) (s:LS) (i:Nat):Option (TypeId × TypeId × Nat × Nat × MK × Bool × Option Tmp):=
 match opAt ops s i with
 | some o=>
  match o.op with
  | .lookup t m k ok=>
   match P.underlying t,s.ev m,keyA (s.ev k) with
   | some (.map kt e),.mref id r,some kk=>some (kt,e,id,r,kk,ok,o.dst)
   | _,_,_=>none
  | _=>none
 | none=>none
theorem Zhy {P:Program} {ops:Array Oper} {K:FS→Prop} {rest:List Nat} {i:Nat} {s:LS} {kt e:TypeId} {k:MK} {es:List (MK × AV)} {ok:Bool} {d:Option Tmp} (fd:Option (Nat × AV)) (zv:Value) {id r r':Nat} (h:lkB P ops s i=some (kt,e,id,r,k,ok,d)) (hbx0:bget s.bx id=some (.mp r' es)) (hr0:r'=r)
  (hk:(es.all fun p=>Qci P kt p.1)=true) (hk2:Qci P kt k=true) (hz:(P.info? e).bind (·.zero)=some zv) (hn:Qdz k es 0=fd)
  {y:AV} (hy:lkS ok fd zv y) (kk:SeqR P ops K rest (s.put d y).fs):SeqR P ops K (i :: rest) s.fs:=by
 unfold lkB at h
 split at h
 ·rename_i o ho;obtain ⟨hi,hg⟩:=Qbw ho
  split at h
  ·rename_i t m ko ok' hop
   split at h
   ·rename_i kt' e' id1 r1 kk' hu hm hko;simp only [Option.some.injEq,Prod.mk.injEq] at h;obtain ⟨rfl,rfl,rfl,rfl,rfl,rfl,rfl⟩:=h;subst hr0;refine ⟨o,hi,.inr ⟨hg,.inr (.inl ⟨by rw [hop];rfl,fun z nb=>z=y∧nb=none,?_,?_⟩)⟩⟩
    ·intro D w a Q K' hD hops hbx hcont;have hvm:=Qa5 hops m (by simp [hop,Op.operands]);have hvk:=Qa5 hops ko (by simp [hop,Op.operands]);rw [hm] at hvm;rw [Qnq hko] at hvk;generalize hmv:a.eval m=vm at hvm;generalize hkv:a.eval ko=vk at hvk;cases hvk;cases hvm
     ·obtain ⟨es',clock,g3,⟨g4,gB⟩,g5,g6⟩:=hbx id1 _ hbx0;obtain ⟨dd,hd'⟩:=Qnp hk2;have e1:(getObj r').run P w=.ok (.map es' clock) w:=by simp [getObj,Sem.run,g3]
      obtain ⟨f1,f2⟩:=Qe2 hd' hk2 es es'.toList 0 (by simpa using g4) (fun p hp=>List.all_eq_true.1 hk p hp) (fun j p e hp he=>g5 j p e hp (by simpa using he));have main:∃ v,(execOp a.eval o).run P w=.ok (.value v) w∧Ra D w (Qs8 ok' (fdV fd zv) fd.isSome) v:=by
       cases fd with
       | none=>
        have hfind:=f1 hn;obtain ⟨inf,hi1,hi2⟩:∃ inf,P.info? e'=some inf∧inf.zero=some zv:=by
         cases hinf:P.info? e' with
         | none=>rw [hinf] at hz;cases hz
         | some inf=>rw [hinf] at hz;exact ⟨inf,rfl,hz⟩
        cases ok' with
        | true=>
         refine ⟨.tuple #[zv,.bool false],by simp [execOp,hop,hmv,hkv,Instr.lookup,run_underlying hu,e1,Qbu _ hk2,Instr.findKey,run_underlying hd',hfind,zeroValue,typeInfo,hi1,hi2],.tup _ _ rfl (fun j x v hx hv=>?_)⟩
         match j,hx,hv with
         | 0,hx,hv=>simp at hx hv;subst hx hv;exact .val _
         | 1,hx,hv=>simp at hx hv;subst hx hv;exact .val _
         | j+2,hx,_=>simp at hx
        | false=>
         exact ⟨zv,by simp [execOp,hop,hmv,hkv,Instr.lookup,run_underlying hu,e1,Qbu _ hk2,Instr.findKey,run_underlying hd',hfind,zeroValue,typeInfo,hi1,hi2],.val _⟩
       | some p=>
        obtain ⟨j,x⟩:=p;obtain ⟨en,q,q1,q2,q3,hfind⟩:=f2 j x hn;have hre:=g6 q _ en q2 (by simpa using q1);cases ok' with
        | true=>
         refine ⟨.tuple #[en.val,.bool true],by simp [execOp,hop,hmv,hkv,Instr.lookup,run_underlying hu,e1,Qbu _ hk2,Instr.findKey,run_underlying hd',hfind],.tup _ _ rfl (fun j x v hx hv=>?_)⟩
         match j,hx,hv with
         | 0,hx,hv=>simp at hx hv;subst hx hv;exact hre
         | 1,hx,hv=>simp at hx hv;subst hx hv;exact .val _
         | j+2,hx,_=>simp at hx
        | false=>
         exact ⟨en.val,by simp [execOp,hop,hmv,hkv,Instr.lookup,run_underlying hu,e1,Qbu _ hk2,Instr.findKey,run_underlying hd',hfind],hre⟩
      obtain ⟨v,m1,m2⟩:=main;unfold Oper.wp;rw [m1,Oper.upon_value];exact hcont _ w _ none D ⟨rfl,rfl⟩ (Below.refl _ _) (fun _ h=>h) (fun b h=>⟨hD b h,.inl h⟩) (hy D w v m2) (fun id y h=>by cases h)
    ·rintro z nb ⟨rfl,rfl⟩;refine ⟨fun id y h=>(by cases h),?_⟩;simp only [FS.addB];rw [LS.fs_put];exact kk
   ·cases h
  ·cases h
 ·cases h
def lkRO (P:Program) (ops:Array Oper) (s:LS) (i:Nat):Option ((TypeId × Option Value) × List (MK × AV) × MK × Bool × Option Tmp):=
 match lkO P ops s i with
 | some (kt,e,es,k,ok,d)=>some ((kt,(P.info? e).bind (·.zero)),es,k,ok,d)
 | none=>none
def lkRB (P:Program) (ops:Array Oper) (s:LS) (i:Nat):Option ((TypeId × Option Value) × (Nat × Nat × Nat × List (MK × AV)) × MK × Bool × Option Tmp):=
 match lkB P ops s i with
 | some (kt,e,id,r,k,ok,d)=>
  (match bget s.bx id with
  | some (.mp r' es)=>some ((kt,(P.info? e).bind (·.zero)),(id,r,r',es),k,ok,d)
  | _=>none)
 | none=>none
theorem Qzm {P:Program} {kt:TypeId} {zv:Value} {es:List (MK × AV)} {k:MK} {ok:Bool} {d:Option Tmp} (fd:Option (Nat × AV)) {y:AV}
  (hk:(es.all fun p=>Qci P kt p.1)=true) (hk2:Qci P kt k=true) (hn:Qdz k es 0=fd) (hy:lkS ok fd zv y) :
  ∀ (ops:Array Oper) (i:Nat) (s:LS) (K:FS→Prop) (rest:List Nat),lkRO P ops s i=some ((kt,some zv),es,k,ok,d)→(∀ a:Unit,SeqR P ops K rest (s.put d y).fs)→SeqR P ops K (i :: rest) s.fs:=by
 intro ops i s K rest h kk;unfold lkRO at h
 split at h
 ·rename_i kt' e es' k' ok' d' ho;simp only [Option.some.injEq,Prod.mk.injEq] at h;obtain ⟨⟨rfl,hz⟩,rfl,rfl,rfl,rfl⟩:=h;exact Zhx fd zv ho hk hk2 hz hn hy (kk ())
 ·cases h
theorem Qzn {P:Program} {kt:TypeId} {zv:Value} {id r:Nat} {es:List (MK × AV)} {k:MK} {ok:Bool} {d:Option Tmp} (fd:Option (Nat × AV)) {y:AV}
  (hk:(es.all fun p=>Qci P kt p.1)=true) (hk2:Qci P kt k=true) (hn:Qdz k es 0=fd) (hy:lkS ok fd zv y) :
  ∀ (ops:Array Oper) (i:Nat) (s:LS) (K:FS→Prop) (rest:List Nat),lkRB P ops s i=some ((kt,some zv),(id,r,r,es),k,ok,d)→(∀ a:Unit,SeqR P ops K rest (s.put d y).fs)→SeqR P ops K (i :: rest) s.fs:=by
 intro ops i s K rest h kk;unfold lkRB at h
 split at h
 ·rename_i kt' e id' r' k' ok' d' ho
  split at h
  ·rename_i r2 es' hb;simp only [Option.some.injEq,Prod.mk.injEq] at h;obtain ⟨⟨rfl,hz⟩,⟨rfl,rfl,rfl,rfl⟩,rfl,rfl,rfl⟩:=h;exact Zhy fd zv ho hb rfl hk hk2 hz hn hy (kk ())
  ·cases h
 ·cases h
def insR (P:Program) (ops:Array Oper) (s:LS) (i:Nat):Option (TypeId × (Nat × Nat × Nat × List (MK × AV)) × MK × AV):=
 match insO P ops s i with
 | some (kt,id,r,k,x,none)=>
  (match bget s.bx id with
  | some (.mp r' es)=>some (kt,(id,r,r',es),k,x)
  | _=>none)
 | _=>none
theorem Zch {P:Program} {kt:TypeId} {id r:Nat} {es es2:List (MK × AV)} {k:MK} {x:AV}
  (hk:(es.all fun p=>Qci P kt p.1)=true) (hk2:Qci P kt k=true) (hn:Qdz k es 0=none) (he:es++[(k,x)]=es2) :
  ∀ (ops:Array Oper) (i:Nat) (s:LS) (K:FS→Prop) (rest:List Nat),insR P ops s i=some (kt,(id,r,r,es),k,x)→(∀ a:Unit,SeqR P ops K rest (s.setB id (.mp r es2)).fs)→SeqR P ops K (i :: rest) s.fs:=by
 subst he;intro ops i s K rest h kk;unfold insR at h
 split at h
 ·rename_i kt' id' r' k' x' ho
  split at h
  ·rename_i r2 es' hb;simp only [Option.some.injEq,Prod.mk.injEq] at h;obtain ⟨rfl,⟨rfl,rfl,rfl,rfl⟩,rfl,rfl⟩:=h;exact Zku ho hb rfl hk hk2 hn rfl (kk ())
  ·cases h
 ·cases h
theorem Qws {es:Array MapEntry} {clock:Nat} (h:Born es clock) (i:Nat) (f:MapEntry→MapEntry) (hf:∀ e,(f e).born=e.born):Born (es.modify i f) clock:=by
 have hm:(es.modify i f).toList.map (·.born)=es.toList.map (·.born):=by
  apply List.ext_getElem?;intro j;simp only [List.getElem?_map,Array.getElem?_toList,Array.getElem?_modify];by_cases hij:i=j
  ·subst hij;cases he:es[i]? with
   | none=>simp
   | some e=>simp [hf e]
  ·simp [hij]
 refine ⟨fun x hx=>?_,by rw [hm];exact h.2⟩;have:x.born∈(es.modify i f).toList.map (·.born):=List.mem_map_of_mem hx;rw [hm] at this;obtain ⟨y,hy,he⟩:=List.mem_map.1 this;rw [← he];exact h.1 y hy
theorem seqUpd {P:Program} {ops:Array Oper} {K:FS→Prop} {rest:List Nat} {i:Nat} {s s':LS} {kt:TypeId} {id r r':Nat} {k:MK} {x:AV} {es:List (MK × AV)} (h:insO P ops s i=some (kt,id,r,k,x,none))
  (hb:bget s.bx id=some (.mp r' es)) (hr:r'=r) (hk:(es.all fun p=>Qci P kt p.1)=true) (hk2:Qci P kt k=true) {j0:Nat} {x0:AV} (hn:Qdz k es 0=some (j0,x0))
  (hf:s.setB id (.mp r' (es.set j0 (k,x)))=s') (kk:SeqR P ops K rest s'.fs):SeqR P ops K (i :: rest) s.fs:=by
 subst hr hf;have core:∀ (o:Oper) (t:TypeId) (m ko xo:Operand),opAt ops s i=some o→(o.op=.insert t m ko xo∨o.op=.mapUpdate t m ko xo)→(∃ e,P.underlying t=some (.map kt e))→s.ev m=.mref id r'→keyA (s.ev ko)=some k→s.ev xo=x→o.dst=none→SeqR P ops K (i :: rest) s.fs:=by
  intro o t m ko xo ho hop hu hm hko hx hd;obtain ⟨hi,hg⟩:=Qbw ho;have hmo:m∈o.op.operands∧ko∈o.op.operands∧xo∈o.op.operands:=by
   rcases hop with h | h<;>simp [h,Op.operands]
  refine ⟨o,hi,.inr ⟨hg,.inr (.inr ⟨by rcases hop with h | h<;>(rw [h];rfl),by rcases hop with h | h<;>(rw [h];rfl),id,fun z y'=>z=.any∧y'=.mp r' (es.set j0 (k,x)),?_,?_⟩)⟩⟩
  ·refine Quq.up ?_;intro D w a Q K' hD hops hbx hnd hcont;have hvm:=Qa5 hops m hmo.1;have hvk:=Qa5 hops ko hmo.2.1;have hvx:=Qa5 hops xo hmo.2.2;rw [hm] at hvm;rw [Qnq hko] at hvk;rw [hx] at hvx;generalize hmv:a.eval m=vm at hvm;generalize hkv:a.eval ko=vk at hvk;generalize hxv:a.eval xo=vx at hvx;cases hvm;cases hvk;obtain ⟨es',clock,g1,⟨g2,gB⟩,g3,g4⟩:=hbx id _ hb;obtain ⟨d,hd'⟩:=Qnp hk2;obtain ⟨e,hu⟩:=hu;obtain ⟨en,q0,q1,q2,q3,hfind⟩:=(Qe2 hd' hk2 es es'.toList 0 (by simpa using g2) (fun p hp=>List.all_eq_true.1 hk p hp) (fun j p e hp he=>g3 j p e hp (by simpa using he))).2 j0 x0 hn;have hq:q0=j0:=by omega
   subst hq;have hen:es'[q0]?=some en:=by simpa using q1
   have hkey:en.key=k.val:=g3 q0 _ en q2 hen;have hstay:(Instr.keyThatStays k.val k.val).run P w=.ok k.val w:=by
    cases k<;>simp [Instr.keyThatStays,MK.val,Instr.sameBits,Qoa]
   have hrun:(Instr.mapUpdate t (.map (some r')) k.val vx).run P w=.ok () { w with heap:=w.heap.setIfInBounds r' (.map (es'.modify q0 fun e=>{ e with key:=k.val,val:=vx }) clock) }:=by
    have e1:(getObj r').run P w=.ok (.map es' clock) w:=by simp [getObj,Sem.run,g1]
    have e2:∀ o',(setObj r' o').run P w=.ok () { w with heap:=w.heap.setIfInBounds r' o' }:=fun o'=>by simp [setObj,Sem.run,g1]
    simp [Instr.mapUpdate,run_underlying hu,e1,Qbu false hk2,Instr.findKey,run_underlying hd',hfind,e2,hen,hkey,hstay]
   have hexec:(execOp a.eval o).run P w=.ok .skip { w with heap:=w.heap.setIfInBounds r' (.map (es'.modify q0 fun e=>{ e with key:=k.val,val:=vx }) clock) }:=by
    rcases hop with h | h<;>simp [execOp,h,hmv,hkv,hxv,hrun]
   unfold Oper.wp;rw [hexec,Oper.upon_skip];have hlt:r'<w.heap.size:=(Array.getElem?_eq_some_iff.1 g1).1;have hother:∀ q,q ≠ r'→(w.heap.setIfInBounds r' (.map (es'.modify q0 fun e=>{ e with key:=k.val,val:=vx }) clock))[q]?=w.heap[q]?:=fun q hq=>Array.getElem?_setIfInBounds_ne (Ne.symm hq);have hfr:∀ b u,Ra D w b u→Ra D { w with heap:=w.heap.setIfInBounds r' (.map (es'.modify q0 fun e=>{ e with key:=k.val,val:=vx }) clock) } b u:=fun b u hu=>
    hu.frame (fun _ h=>h) (by simp) (fun b hdb hl=>hother b (fun e=>hnd _ r' hb rfl (e ▸ hdb)))
   refine hcont undef _ .any _ _ ⟨rfl,rfl⟩ hb ⟨rfl,rfl,rfl,by simp,fun q hq=>by omega⟩ (fun q hq _=>hother q (fun e=>hq (by rw [e];rfl))) (fun g hg=>⟨.inl hg,hnd _ g hb hg⟩)
    ⟨(es'.modify q0 fun e=>{ e with key:=k.val,val:=vx }),clock,by simp [hlt],⟨by simp [g2],Qws gB _ _ fun e=>rfl⟩,fun j p e hp he=>?_,fun j p e hp he=>?_⟩ (.any _)
   ·rw [Array.getElem?_modify] at he;rw [List.getElem?_set] at hp;by_cases hj:q0=j
    ·subst hj;rw [if_pos rfl,hen] at he;simp only [Option.map_some,Option.some.injEq] at he;have hl:=Qan q2;rw [if_pos rfl,if_pos hl] at hp;obtain rfl:=Option.some.inj hp;subst he;rfl
    ·rw [if_neg hj] at he hp;exact g3 j p e hp he
   ·rw [Array.getElem?_modify] at he;rw [List.getElem?_set] at hp;by_cases hj:q0=j
    ·subst hj;rw [if_pos rfl,hen] at he;simp only [Option.map_some,Option.some.injEq] at he;have hl:=Qan q2;rw [if_pos rfl,if_pos hl] at hp;obtain rfl:=Option.some.inj hp;subst he;exact hfr _ _ hvx
    ·rw [if_neg hj] at he hp;exact hfr _ _ (g4 j p e hp he)
  ·rintro z y' ⟨rfl,rfl⟩;rw [hd];have:=kk;rw [← LS.fs_setB] at this;exact this
 unfold insO at h
 split at h
 ·rename_i o ho
  split at h
  ·rename_i t m ko xo hop
   split at h
   ·rename_i kt' e id' r kk' hu hm hko;simp only [Option.some.injEq,Prod.mk.injEq] at h;obtain ⟨rfl,rfl,rfl,rfl,hx,hd⟩:=h;exact core o t m ko xo ho (.inl hop) ⟨e,hu⟩ hm hko hx hd
   ·cases h
  ·rename_i t m ko xo hop
   split at h
   ·rename_i kt' e id' r kk' hu hm hko;simp only [Option.some.injEq,Prod.mk.injEq] at h;obtain ⟨rfl,rfl,rfl,rfl,hx,hd⟩:=h;exact core o t m ko xo ho (.inr hop) ⟨e,hu⟩ hm hko hx hd
   ·cases h
  ·cases h
 ·cases h
theorem Zce {P:Program} {kt:TypeId} {id r:Nat} {es es2:List (MK × AV)} {k:MK} {x:AV} {j0:Nat} {x0:AV}
  (hk:(es.all fun p=>Qci P kt p.1)=true) (hk2:Qci P kt k=true) (hn:Qdz k es 0=some (j0,x0)) (he:es.set j0 (k,x)=es2) :
  ∀ (ops:Array Oper) (i:Nat) (s:LS) (K:FS→Prop) (rest:List Nat),insR P ops s i=some (kt,(id,r,r,es),k,x)→(∀ a:Unit,SeqR P ops K rest (s.setB id (.mp r es2)).fs)→SeqR P ops K (i :: rest) s.fs:=by
 subst he;intro ops i s K rest h kk;unfold insR at h
 split at h
 ·rename_i kt' id' r' k' x' ho
  split at h
  ·rename_i r2 es' hb;simp only [Option.some.injEq,Prod.mk.injEq] at h;obtain ⟨rfl,⟨rfl,rfl,rfl,rfl⟩,rfl,rfl⟩:=h;exact seqUpd ho hb rfl hk hk2 hn rfl (kk ())
  ·cases h
 ·cases h
def mpR (id:Nat) (s:LS):Option (Nat × List (MK × AV)):=
 match bget s.bx id with
 | some (.mp r es)=>some (r,es)
 | _=>none
theorem Qu4 {P:Program} {id r:Nat} {es es':List (MK × AV)} (he:es=es'):∀ (c:Cx) (Q:Exit→FS→Prop) (code:Code) (s:LS),mpR id s=some (r,es)→(∀ a:Unit,AWp c P code Q (s.setB id (.mp r es')).fs)→AWp c P code Q s.fs:=by
 subst he;intro c Q code s h kk;unfold mpR at h
 split at h
 ·rename_i r' es' hb;simp only [Option.some.injEq,Prod.mk.injEq] at h;obtain ⟨rfl,rfl⟩:=h;have:=kk ();rw [← LS.fs_setB] at this;have e:s.fs.setB id (some (.mp r' es'))=s.fs:=by
   show FS.mk _ _=FS.mk _ _;congr 1;funext i;show (if i=id then some (Bx.mp r' es') else s.fs.bx i)=s.fs.bx i
   split
   ·rename_i hi;subst hi;exact hb.symm
   ·rfl
  rw [e] at this;exact this
 ·cases h
end Go.Proofs.YtahlldgocpabjaaGreat
