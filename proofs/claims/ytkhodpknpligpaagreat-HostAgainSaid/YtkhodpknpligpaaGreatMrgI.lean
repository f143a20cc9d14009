import Derived.Test.YtkhodpknpligpaaGreatAl
import Derived.Test.YtkhodpknpligpaaGreatMrgH
import Derived.Test.YtkhodpknpligpaaGreatMrgG
import Derived.Test.YtkhodpknpligpaaGreatMrgA
import Derived.Test.YtkhodpknpligpaaGreatRows
import Derived.Test.YtkhodpknpligpaaGreatMrgF
import Derived.Laws.Externs
import Derived.Lib.Bytealg
set_option maxRecDepth 100000
set_option maxHeartbeats 8000000
set_option linter.unusedVariables false
set_option linter.unusedSimpArgs false
namespace Go.Proofs.YtkhodpknpligpaaGreat
open Go Go.RowKit Copyhold Go.Proofs.Tryz
def Qh2 (P:Program) (f:FuncId) (args:List AV) (y:Bx) (r:AV) (y':Bx):Prop:=
 ∀ (D:Nat→Prop) (w:World) (vs:Array Value),(∀ b,D b→b<w.heap.size)→Qc8 D w args vs→BoxR D w y→(∀ g,y.blk=some g→¬ D g) →
  Calls P f vs w (fun e w'=>∃ v,∃ D':Nat→Prop,e=.returned v∧Below 0 w w'∧(∀ k,y.blk ≠ some k→k<w.heap.size→w'.heap[k]?=w.heap[k]?)∧(∀ b,D b→D' b) ∧
   (∀ b,D' b→b<w'.heap.size∧(D b∨y.blk=some b∨w.heap.size≤b))∧(∀ g,y'.blk=some g→(y.blk=some g∨w.heap.size≤g)∧¬ D' g)∧BoxR D' w' y'∧Ra D' w' r v)
theorem Zc1 {P:Program} {f:FuncId} {F:Func} {code:Code} {args:List AV} {q:Nat} {y y':Bx} {r:AV} (n:Nat) (ct:Ct P) (hf:P.funcs[f]?=some F) (hb:F.body=some code)
  (hk:(decide (args.length≤F.ntmps)&&(P.follows .mixedOrders&&(F.results.toList.all fun rv=>decide ((match rv with | .tmp t=>t | .cell t _=>t)<F.ntmps))))=true)
  (h:vcC ct=vc P F (.valB r q y') n ct (.code code) [] ⟨Qdc args 0,[(q,y)]⟩):Qh2 P f args y r y':=by
 simp only [W0r] at hk;have hsz:args.length≤F.ntmps:=of_decide_eq_true hk.1;have hn:=hk.2.2;have hv:vc P F (.valB r q y') n ct (.code code) [] ⟨Qdc args 0,[(q,y)]⟩:=h ▸ Qaw ct;intro D w vs hD hvs hy hyD;refine calls_of_wp hf hb ?_
 let c:Cx:=⟨w.heap.size,w,F.ntmps,D,fun k=>y.blk=some k⟩
 have hawp:AWp c P code (FinG P F (.valB r q y')) (LS.mk (Qdc args 0) [(q,y)]).fs:=Qay (c:=c) rfl hk.2.1 n ct (.code code) [] _ hv;have htm:∀ t,(LS.mk (Qdc args 0) [(q,y)]).fs.tm t=args.getD t .any:=fun t=>by
  show lget (Qdc args 0) t=_;rw [Qfl];simp
 have hbx:∀ i x,(LS.mk (Qdc args 0) [(q,y)]).fs.bx i=some x→i=q∧x=y:=fun i x hx=>by
  have hx':bget [(q,y)] i=some x:=hx;simp only [bget] at hx';cases hb:Nat.beq q i with
  | true=>
   rw [hb] at hx';exact ⟨(W0q hb).symm,(W0c hx').symm⟩
  | false=>rw [hb] at hx';cases hx'
 have hrel:Rel c (LS.mk (Qdc args 0) [(q,y)]).fs { tmps:=vs++Array.replicate (F.ntmps-vs.size) undef,defers:=[] } w:=by
  refine ⟨W0m _,D,rfl,?_,BelowL.refl (c:=c),hD,⟨fun _ h=>h,fun _ h=>.inl h⟩,fun t v hv=>?_,fun id x h=>?_,fun i j x z hx hz hij=>?_⟩
  ·have:=hvs.1;simp [c];omega
  ·rw [htm];by_cases ht:t<vs.size
   ·rw [W2b ht] at hv;have hta:t<args.length:=by rw [hvs.1];exact ht
    have:=hvs.2 t args[t] v (W0d hta) hv;simpa [List.getD,W0d hta] using this
   ·have hta:args.length≤t:=by rw [hvs.1];omega
    have:args.getD t .any=.any:=by simp [List.getD,W1h hta]
    rw [this];exact .any v
  ·obtain ⟨_,rfl⟩:=hbx id x h;exact ⟨fun g hg=>⟨.inr hg,hyD g hg⟩,hy⟩
  ·exact absurd ((hbx i x hx).1.trans (hbx j z hz).1.symm) hij
 refine wp_mono (hawp _ _ hrel) fun e' a' w' ⟨s',hq,hc,D',hR⟩=>?_;obtain ⟨he,hd,hby⟩:=hq;have hn':∀ rv∈F.results.toList,(match rv with | .tmp t=>t | .cell t _=>t)<c.n:=fun rv hrv=>by
  have:=W1z.1 hn rv hrv;simpa using this
 obtain ⟨v,hv1,hrv⟩:=Qfr hR hn' hd;have fin:∃ u,∃ D'':Nat→Prop,Ending.returned v=.returned u∧Below 0 w w'∧(∀ k,y.blk ≠ some k→k<w.heap.size→w'.heap[k]?=w.heap[k]?)∧(∀ b,D b→D'' b) ∧
   (∀ b,D'' b→b<w'.heap.size∧(D b∨y.blk=some b∨w.heap.size≤b))∧(∀ g,y'.blk=some g→(y.blk=some g∨w.heap.size≤g)∧¬ D'' g)∧BoxR D'' w' y'∧Ra D'' w' r u:=
  ⟨v,D',rfl,⟨hR.below.os,hR.below.tape,hR.below.output,hR.below.size,fun k hk=>absurd hk (by omega)⟩,fun k hk hl=>hR.below.block k hl hk,hR.old.1,
   fun b hb=>⟨hR.dlt b hb,(hR.old.2 b hb).imp id fun h=>h.symm⟩,fun g hg=>⟨((hR.bx q y' hby).1 g hg).1.symm.imp id id,((hR.bx q y' hby).1 g hg).2⟩,(hR.bx q y' hby).2,hrv⟩
 rcases he with rfl | rfl
 ·exact ⟨hR.defers,v,hv1,fin⟩
 ·exact ⟨hR.defers,v,hv1,fin⟩
theorem Qde {P:Program} {q:Nat} {f:FuncId} {args args':List AV} {d:Option Tmp} {y y':Bx} {r:AV} (hs:Qc0 args args') (hsp:Qh2 P f args' y r y') :
  ∀ (ops:Array Oper) (i:Nat) (s:LS) (K:FS→Prop),lcR P q ops s i=some ((f,args,d),y)→(∀ a:Unit,K ((s.put d r).setB q y').fs)→Qtk P ops i s.fs K:=by
 intro ops i s K h kk;unfold lcR at h
 split at h
 ·rename_i f' args0 d' y1 hc hr;cases he:entB P f' with
  | false=>rw [he] at h;cases h
  | true=>
   rw [he] at h;simp only [cond_true,W0k,W0s] at h;obtain ⟨⟨rfl,rfl,rfl⟩,rfl⟩:=h;obtain ⟨o,hi,hg,hrd,hd,hrun⟩:=Qjo (P:=P) hc;refine ⟨o,hi,hg,.inl ⟨q,fun x z=>x=r∧z=y',?_,?_⟩⟩
   ·intro D w a Q K' hD hops hbx hnd hcont;obtain ⟨hl,hsa⟩:=hs.ok;obtain ⟨vs,h1,h2⟩:=hrun D w a.eval hops;have hra:Qc8 D w args' vs:=by
     refine ⟨by rw [← hl];exact h2.1,fun j x v hx hv=>?_⟩;have hj:j<args0.length:=by have:=(W0i.1 hx).1;omega
     exact hsa j args0[j] x (W0d hj) hx D w v (h2.2 j args0[j] v (W0d hj) hv)
    unfold Oper.wp;rw [h1,Qib he,Oper.upon_enter];refine (hsp D w _ hD hra (hbx q _ hr) (fun g hg=>hnd _ g hr hg)).mono ?_;rintro e' w' ⟨v,D',rfl,g1,g2,g3,g4,g6,g7,g5⟩;exact hcont v w' r _ y' D' ⟨rfl,rfl⟩ hr g1 g2 g3 g4 g6 g7 g5
   ·rintro x z ⟨rfl,rfl⟩;rw [hd,LS.fs_put,LS.fs_setB];exact kk ()
 ·cases h
def mput (es:List (MK × AV)) (k:MK) (x:AV):List (MK × AV):=
 match Qdb k es 0 with
 | some (j,_)=>es.set j (k,x)
 | none=>es++[(k,x)]
theorem Zbl {P:Program} {kt:TypeId} {id r:Nat} {es es2:List (MK × AV)} {k:MK} {x:AV}
  (hk:(es.all fun p=>Qb9 P kt p.1)=true) (hk2:Qb9 P kt k=true) (he:mput es k x=es2) :
  ∀ (ops:Array Oper) (i:Nat) (s:LS) (K:FS→Prop) (rest:List Nat),insR P ops s i=some (kt,(id,r,r,es),k,x)→(∀ a:Unit,SeqR P ops K rest (s.setB id (.mp r es2)).fs)→SeqR P ops K (i :: rest) s.fs:=by
 unfold mput at he
 split at he
 ·rename_i j x0 hn;exact Zbk hk hk2 hn he
 ·rename_i hn;exact Zbm hk hk2 hn he
def CLn (F:FuncId) (pre:List AV):Nat→AV
 | 0=>.any
 | n+1=>.clo F (pre++[.dptr [CLn F pre n]])
def recR (id:Nat) (s:LS):Option (Nat × TypeId × FuncId × List AV × Nat × Nat):=
 match bget s.bx id with
 | some (.box b T [.clo F caps])=>
  (match caps.reverse with
  | .ptr id' b' 0 :: pre=>some (b,T,F,pre.reverse,id',b')
  | _=>none)
 | _=>none
def recS (id t:Nat) (x:AV) (ts bs:List Nat) (s:LS):LS:=
 ⟨(t,.dptr [x]) :: ts.map (fun q=>(q,lget s.tm q)),bs.filterMap fun q=>(bif Nat.beq q id then none else bget s.bx q).map fun y=>(q,y)⟩
theorem Zfm {l:List Nat} {g:Nat→Option Bx} {i:Nat} {y:Bx} (h:bget (l.filterMap fun q=>(g q).map fun y=>(q,y)) i=some y):g i=some y:=by
 induction l with
 | nil=>cases h
 | cons q r ih=>
  cases hg:g q with
  | none=>rw [List.filterMap_cons_none (by rw [hg];rfl)] at h;exact ih h
  | some z=>
   rw [List.filterMap_cons_some (by rw [hg];rfl)] at h;simp only [bget] at h;cases hb:Nat.beq q i with
   | true=>rw [hb] at h;obtain rfl:=W0q hb;rw [hg];exact h
   | false=>rw [hb] at h;exact ih h
theorem Qw4 {s:LS}:∀ (l:List Nat) (i:Nat),lget (l.map fun q=>(q,lget s.tm q)) i=lget s.tm i∨lget (l.map fun q=>(q,lget s.tm q)) i=.any
 | [],i=>.inr rfl
 | q :: r,i=>by
  simp only [W1t,lget];cases hb:Nat.beq q i with
  | true=>left;obtain rfl:=W0q hb;rfl
  | false=>exact Qw4 r i
theorem Zg8 {P:Program} {id t b:Nat} {T:TypeId} {F:FuncId} {pre:List AV} (N:Nat) (ts bs:List Nat) :
  ∀ (c:Cx) (Q:Exit→FS→Prop) (code:Code) (s:LS),((recR id s).map fun x=>(x,lget s.tm t))=some ((b,T,F,pre,id,b),.ptr id b 0)→(∀ a:Unit,AWp c P code Q (recS id t (CLn F pre N) ts bs s).fs)→AWp c P code Q s.fs:=by
 intro c Q code s h kk a w hr;cases hq:recR id s with
 | none=>rw [hq] at h;cases h
 | some x=>
 rw [hq] at h;simp only [Option.map_some,W0k,W0s] at h;obtain ⟨hx,ht⟩:=h;subst hx;unfold recR at hq
 split at hq
 ·rename_i b1 T1 F1 caps hb
  split at hq
  ·rename_i id1 b2 pre1 hc;simp only [W0k,W0s] at hq;obtain ⟨rfl,rfl,rfl,rfl,rfl,rfl⟩:=hq;have hcaps:caps=pre1.reverse++[.ptr id1 b2 0]:=by rw [← List.reverse_reverse caps,hc,List.reverse_cons]
   subst hcaps;obtain ⟨hcb,D,hR⟩:=hr;obtain ⟨ho,hB⟩:=hR.bx _ _ hb;obtain ⟨vs,htb,hsz,hone,hcell⟩:=hB;have hv0:∃ v,vs[0]?=some v∧Ra D w (.clo F1 (pre1.reverse++[.ptr id1 b2 0])) v:=by
    have h0:0<vs.size:=by rw [hsz];simp
    exact ⟨vs[0],W1p h0,hcell 0 _ _ rfl (W1p h0)⟩
   obtain ⟨C,hC,hRC⟩:=hv0;obtain ⟨us,hCe,h1,h2⟩:∃ us:Array Value,C=.func (.func F1) #[] us∧(pre1.reverse++[AV.ptr id1 b2 0]).length=us.size∧∀ (j:Nat) (x:AV) (v:Value),(pre1.reverse++[AV.ptr id1 b2 0])[j]?=some x→us[j]?=some v→Ra D w x v:=by
    cases hRC with
    | clo f caps us h1 h2=>exact ⟨us,rfl,h1,h2⟩
   have hbD:¬ D b2:=(ho b2 rfl).2;have hblt:b2<w.heap.size:=htb.lt
   let D':Nat→Prop:=fun k=>D k∨k=b2
   have fr:∀ {x:AV} {v:Value},Ra D w x v→Ra D' w x v:=fun h=>h.frame (fun _ h=>.inl h) (W0m _) (fun _ _ _=>rfl);have key:∀ n,Ra D' w (.dptr [CLn F1 pre1.reverse n]) (.pointer (some ⟨b2,0,none⟩)):=by
    intro n;have hcl:Ra D' w (CLn F1 pre1.reverse n) C:=by
     induction n with
     | zero=>exact .any _
     | succ n ih=>
      refine hCe ▸ .clo _ _ us (by rw [← h1];simp) (fun j x v hx hv=>?_);by_cases hj:j<pre1.reverse.length
      ·have hx':(pre1.reverse++[AV.ptr id1 b2 0])[j]?=some x:=by rw [W0o hj] at hx ⊢;exact hx
       exact fr (h2 j x v hx' hv)
      ·rw [W0n (by omega)] at hx;have hj2:j=pre1.reverse.length:=by have:=(W0i.1 hx).1;simp only [W0b,W0f] at this;omega
       subst hj2;simp only [Nat.sub_self,List.getElem?_cons_zero,W0k] at hx;subst hx;have hp:=h2 pre1.reverse.length (AV.ptr id1 b2 0) v (by rw [W0n (W0m _)];simp) hv;cases hp;refine .dptr _ b2 0 (fun _=>C) (.inr rfl) hblt (fun j x hx=>?_) (fun j x hx=>?_)
       ·match j,hx with
        | 0,hx=>exact ⟨by rw [htb.cell];exact hC,hone 0 C hC⟩
        | j+1,hx=>simp at hx
       ·match j,hx with
        | 0,hx=>
         obtain rfl:=W0c hx;exact ih
        | j+1,hx=>simp at hx
    refine .dptr _ b2 0 (fun _=>C) (.inr rfl) hblt (fun j x hx=>?_) (fun j x hx=>?_)
    ·match j,hx with
     | 0,hx=>exact ⟨by rw [htb.cell];exact hC,hone 0 C hC⟩
     | j+1,hx=>simp at hx
    ·match j,hx with
     | 0,hx=>obtain rfl:=W0c hx;exact hcl
     | j+1,hx=>simp at hx
   refine kk () a w ⟨hcb,D',?_⟩;have hbx':∀ i y,(recS id1 t (CLn F1 pre1.reverse N) ts bs s).fs.bx i=some y→i ≠ id1∧s.fs.bx i=some y:=fun i y h=>by
    have h2:=Zfm (g:=fun q=>bif Nat.beq q id1 then none else bget s.bx q) (i:=i) (y:=y) h;cases hbq:Nat.beq i id1 with
    | true=>simp [hbq] at h2
    | false=>simp only [hbq,cond_false] at h2;exact ⟨Nat.ne_of_beq_eq_false hbq,h2⟩
   refine ⟨hR.defers,hR.size,hR.below,fun k hk=>?_,⟨fun k hk=>.inl (hR.old.1 k hk),fun k hk=>?_⟩,fun q v hv=>?_,fun i y hy=>?_,fun i j y z hy hz hij=>?_⟩
   ·rcases hk with hk | rfl
    ·exact hR.dlt k hk
    ·exact hblt
   ·rcases hk with hk | rfl
    ·exact hR.old.2 k hk
    ·exact .inr (ho k rfl).1
   ·have hv2:=hR.tm q v hv;show Ra D' w (lget ((t,AV.dptr [CLn F1 pre1.reverse N]) :: ts.map fun q=>(q,lget s.tm q)) q) v;simp only [lget];cases hbq:Nat.beq t q with
    | true=>
     obtain rfl:=W0q hbq;have hv3:Ra D w (lget s.tm t) v:=hv2;rw [ht] at hv3;cases hv3;exact key N
    | false=>
     rcases Qw4 (s:=s) ts q with e | e
     ·simp only [e];exact fr hv2
     ·simp only [e];exact .any v
   ·obtain ⟨h3,h4⟩:=hbx' i y hy;obtain ⟨g1,g2⟩:=hR.bx i y h4;refine ⟨fun g hg=>⟨(g1 g hg).1,fun hd=>?_⟩,g2.frame (fun _ h=>.inl h) (W0m _) (fun _ _ _=>rfl) (fun _ _=>rfl)⟩;rcases hd with hd | rfl
    ·exact (g1 g hg).2 hd
    ·exact hR.apart i id1 y _ h4 hb h3 g hg rfl
   ·exact hR.apart i j y z (hbx' i y hy).2 (hbx' j z hz).2 hij
  ·cases hq
 ·cases hq
theorem Qja {P:Program} {f:FuncId} {F:Func} {code:Code} {args:List AV} {q:Nat} {y y':Bx} {r:AV} (hf:P.funcs[f]?=some F) (ct:Ct P) (n:Nat:=400) (hb:F.body=some code:=by rfl)
  (hk:(decide (args.length≤F.ntmps)&&(P.follows .mixedOrders&&(F.results.toList.all fun rv=>decide ((match rv with | .tmp t=>t | .cell t _=>t)<F.ntmps))))=true:=by kernel_rfl)
  (h:vcC ct=vc P F (.valB r q y') n ct (.code code) [] ⟨Qdc args 0,[(q,y)]⟩:=by kernel_rfl):Qh2 P f args y r y':=Zc1 n ct hf hb hk h
abbrev Dcs:=List (Int × Bool)
structure TRow where
 client:Int
 epoch:Int
 done:Int
 l:List (Int × Bool)
 deriving DecidableEq
def Qax:List Int→Int→Nat × Bool
 | [],_=>(0,false)
 | m :: r,n=>if n≤m then (0,m==n) else ((Qax r n).1+1,(Qax r n).2)
theorem Qmh (ns:List Int) (n:Int) (k:Nat) (hk:k≤ns.length) (h:∀ m∈ns.take k,m<n):Qax ns n=(k+(Qax (ns.drop k) n).1,(Qax (ns.drop k) n).2):=by
 induction k generalizing ns with
 | zero=>simp
 | succ k ih=>
  cases ns with
  | nil=>simp at hk
  | cons m r=>
   have h0:=h m (by simp);have:=ih r (by simpa using hk) (fun x hx=>h x (by simp [hx]));rw [Qax,W1w (by omega),this,List.drop_succ_cons];simp only [W0s,and_true];omega
def ownF (rs:List TRow) (n ep sq:Int):Option TRow × Int:=
 if n<0∨ep<1∨sq<1 then (none,1)
 else if (Qax (rs.map (·.client)) n).2=false then (none,6)
 else match rs[(Qax (rs.map (·.client)) n).1]? with
  | none=>(none,6)
  | some r=>if ep<r.epoch then (none,17) else if r.epoch<ep then (none,6) else (some r,0)
def askF (rs:List TRow) (n ep sq:Int):Bool × Int:=
 match (ownF rs n ep sq).1 with
 | none=>(false,(ownF rs n ep sq).2)
 | some r=>if sq≤r.done then (false,18) else if (Qax (r.l.map (·.1)) sq).2 then (((r.l[(Qax (r.l.map (·.1)) sq).1]?).map (·.2)).getD false,0) else (false,6)
def insD (l:List (Int × Bool)) (sq:Int) (yes:Bool):List (Int × Bool):=l.take (Qax (l.map (·.1)) sq).1++([(sq,yes)]++l.drop (Qax (l.map (·.1)) sq).1)
def Qed (l:List (Int × Bool)) (M:Int):List (Int × Bool):=l.filter (fun d=>decide (M<d.1))
def Qb5 (rs:List TRow) (n ep:Int) (f:TRow→TRow):List TRow:=
 if (Qax (rs.map (·.client)) n).2=false then rs.take (Qax (rs.map (·.client)) n).1++f ⟨n,ep,0,[]⟩ :: rs.drop (Qax (rs.map (·.client)) n).1
 else match rs[(Qax (rs.map (·.client)) n).1]? with
  | none=>rs
  | some r=>rs.take (Qax (rs.map (·.client)) n).1++f (if r.epoch=ep then r else ⟨n,ep,0,[]⟩) :: rs.drop ((Qax (rs.map (·.client)) n).1+1)
def putW (sq:Int) (yes:Bool) (r:TRow):TRow:=⟨r.client,r.epoch,r.done,insD r.l sq yes⟩
def Qn1 (rs:List TRow) (n ep sq:Int):Bool:=(!(Qax (rs.map (·.client)) n).2&&decide (64≤rs.length))||(match (ownF rs n ep sq).1 with | none=>false | some r=>decide (256≤r.l.length))
def Qa0 (rs:List TRow) (n ep sq:Int) (yes:Bool):List TRow × Bool × Int:=
 if (askF rs n ep sq).2 ≠ 6 then (rs,askF rs n ep sq)
 else if Qn1 rs n ep sq=true then (rs,false,12)
 else (Qb5 rs n ep (putW sq yes),yes,0)
def cutW (dn:Int) (r:TRow):TRow:=⟨r.client,r.epoch,max r.done dn,Qed r.l (max r.done dn)⟩
def Qbg (rs:List TRow) (n ep dn:Int):List TRow × Int:=if (ownF rs n ep dn).1=none then (rs,(ownF rs n ep dn).2) else (Qb5 rs n ep (cutW dn),0)
def tdA (d:Int × Bool):List AV:=[aI d.1,aB d.2]
def trA (r:TRow):List AV:=[aI r.client,aI r.epoch,aI r.done,.sl 2 false (r.l.map tdA)]
def OkTr (r:TRow):Prop:=(I64 r.client∧I64 r.epoch∧I64 r.done)∧r.l.length≤100000∧∀ d∈r.l,I64 d.1
def OkRw (rs:List TRow):Prop:=rs.length≤100000∧∀ r∈rs,OkTr r
def tplR (rs:List TRow) (n:Int):Nat:=(Qax (rs.map (·.client)) n).1
def thR (rs:List TRow) (n:Int):Bool:=(Qax (rs.map (·.client)) n).2
def plQ (l:List (Int × Bool)) (n:Int):Nat:=(Qax (l.map (·.1)) n).1
def thQ (l:List (Int × Bool)) (n:Int):Bool:=(Qax (l.map (·.1)) n).2
theorem Qd5:∀ (ns:List Int) (n:Int),(Qax ns n).1≤ns.length∧((Qax ns n).2=true→(Qax ns n).1<ns.length)
 | [],n=>⟨W0m _,fun h=>by cases h⟩
 | m :: r,n=>by
  have ih:=Qd5 r n;rw [Qax]
  split
  ·exact ⟨W0j _,fun _=>by simp⟩
  ·rw [W0b];exact ⟨by omega,fun h=>by have:=ih.2 h;omega⟩
theorem Qcp (rs:List TRow) (n:Int):tplR rs n≤rs.length:=by have:=(Qd5 (rs.map (·.client)) n).1;rwa [W0a] at this
theorem Qr2 (l:List (Int × Bool)) (n:Int):plQ l n≤l.length:=by have:=(Qd5 (l.map (·.1)) n).1;rwa [W0a] at this
theorem Qcd {rs:List TRow} {n:Int} (h:thR rs n=true):tplR rs n<rs.length:=by have:=(Qd5 (rs.map (·.client)) n).2 (show (Qax (rs.map (·.client)) n).2=true from h);rwa [W0a] at this
theorem plQ_lt {l:List (Int × Bool)} {n:Int} (h:thQ l n=true):plQ l n<l.length:=by have:=(Qd5 (l.map (·.1)) n).2 (show (Qax (l.map (·.1)) n).2=true from h);rwa [W0a] at this
theorem Qhm {ns:List Int} {n m:Int} {k:Nat} (h:Qaz (fun _ c=>c<n) ns k) (hk:ns[k]?=some m) (hm:¬ m<n):Qax ns n=(k,m==n):=by
 have hl:=Qan hk;rw [Qmh ns n k (by omega) (fun c hc=>by
  obtain ⟨i,hi⟩:=W0w hc;rw [W1b] at hi
  split at hi
  ·rename_i h1;exact h i c h1 hi
  ·cases hi),List.drop_eq_getElem_cons hl,show ns[k]=m from W0c ((W0d hl).symm.trans hk),Qax,W1x (by omega)]
 rfl
theorem Qjz {ns:List Int} {n:Int} {k:Nat} (h:Qaz (fun _ c=>c<n) ns k) (hk:ns.length≤k):Qax ns n=(ns.length,false):=by
 rw [Qmh ns n ns.length (W0m _) (fun c hc=>by
  obtain ⟨i,hi⟩:=W0w (W13 hc);exact h i c (by have:=Qan hi;omega) hi),List.drop_length]
 rfl
theorem Qn6 {α:Type} {f:α→Int} {n:Int} {l:List α} {k:Nat} (h:Qaz (fun _ c=>f c<n) l k):Qaz (fun _ c=>c<n) (l.map f) k:=fun i e hi he=>by
 rw [W0v] at he;cases hx:l[i]? with
 | none=>rw [hx] at he;cases he
 | some x=>rw [hx] at he;obtain rfl:=W0c he;exact h i x hi hx
def ownR (rs:List TRow) (n ep sq:Int):TRow:=(ownF rs n ep sq).1.getD ⟨0,0,0,[]⟩
theorem Qpy {rs:List TRow} {n ep sq:Int} (h:n<0∨ep<1∨sq<1):ownF rs n ep sq=(none,1):=W1x h
theorem Qwn {rs:List TRow} {n ep sq:Int} (h:¬ (n<0∨ep<1∨sq<1)) (ht:thR rs n=false):ownF rs n ep sq=(none,6):=(W1w h).trans (W1x ht)
theorem Qwo {rs:List TRow} {n ep sq:Int} {x:TRow} (h:¬ (n<0∨ep<1∨sq<1)) (ht:thR rs n=true) (hx:rs[tplR rs n]?=some x):ownF rs n ep sq=if ep<x.epoch then (none,17) else if x.epoch<ep then (none,6) else (some x,0):=by
 unfold ownF;rw [W1w h,W1w (show ¬ (Qax (rs.map (·.client)) n).2=false by rw [show (Qax (rs.map (·.client)) n).2=true from ht];decide),show rs[(Qax (rs.map (·.client)) n).1]?=some x from hx]
theorem Qr3 (rs:List TRow) (h:OkRw rs) (n ep sq:Int):OkTr (ownR rs n ep sq)∧((ownF rs n ep sq).2=0→∃ r∈rs,ownF rs n ep sq=(some r,0))∧(¬ (ownF rs n ep sq).2=0→(ownF rs n ep sq).1=none):=by
 have h0:OkTr ⟨0,0,0,[]⟩:=⟨⟨⟨by decide,by decide⟩,⟨by decide,by decide⟩,⟨by decide,by decide⟩⟩,W0j _,fun d hd=>by cases hd⟩
 have key:(∃ e,¬ e=0∧ownF rs n ep sq=(none,e))∨∃ r∈rs,ownF rs n ep sq=(some r,0):=by
  by_cases h1:n<0∨ep<1∨sq<1
  ·exact .inl ⟨1,by decide,Qpy h1⟩
  ·cases ht:thR rs n with
   | false=>exact .inl ⟨6,by decide,Qwn h1 ht⟩
   | true=>
    obtain ⟨x,hx⟩:=Qdk (Qcd ht);rw [Qwo h1 ht hx]
    split
    ·exact .inl ⟨17,by decide,rfl⟩
    ·split
     ·exact .inl ⟨6,by decide,rfl⟩
     ·exact .inr ⟨x,W0h hx,rfl⟩
 unfold ownR;rcases key with ⟨e,he,hk⟩ | ⟨r,hr,hk⟩
 ·rw [hk];exact ⟨h0,fun h=>absurd h he,fun _=>rfl⟩
 ·rw [hk];exact ⟨h.2 r hr,fun _=>⟨r,hr,rfl⟩,fun h=>absurd rfl h⟩
theorem Znj {rs:List TRow} {n ep sq:Int} (h:(ownF rs n ep sq).1=none):askF rs n ep sq=(false,(ownF rs n ep sq).2):=by unfold askF;rw [h]
theorem Zjs {rs:List TRow} {n ep sq:Int} {r:TRow} (h:ownF rs n ep sq=(some r,0)):askF rs n ep sq=if sq≤r.done then (false,18) else if thQ r.l sq=true then (((r.l[plQ r.l sq]?).map (·.2)).getD false,0) else (false,6):=by unfold askF;rw [h];rfl
theorem Zch (x:TRow):Qag prog 203 [.agg [aI x.client,aI x.epoch,aI x.done,.sl 2 false (x.l.map tdA)]] (aI x.client):=by
 exact Qac func203 (
 .new fun b1=>.r 1<|.u 3 [b1]<|
 .fi (aI x.client) [])
theorem Quc (l:List (TRow)) (n:Int) (hl:l.length≤100000):Qag prog 202 [.sl 4 false (l.map trA),.val (.func (.func 203) #[] #[]),aI n] (.tup [aI ((Qax (l.map fun x=>x.client) n).1:Int),aB (Qax (l.map fun x=>x.client) n).2]):=by
 exact Qac func202 (
 .r 2<|.r 2<|.lm 12 l trA<|.r 1<|let L1:Lp (Nat):=⟨fun a1=>⟨[(0,.sl 4 false (l.map trA)),(1,.val (.func (.func 203) #[] #[])),(2,aI n),(11,.sl 4 false (l.map trA)),(12,aI (l.length:Int)),(13,aI (a1:Int))],[]⟩,fun a1=>l.length-a1,fun a1=>a1≤l.length∧Qaz (fun _ (c:TRow)=>c.client<n) l a1⟩
 .lp L1 0 ⟨W0j _,Qaz.zero _ _⟩ [(13,aI 0)] [] ⟨sR,sR,sR,sR,sR,sO,trivial⟩ trivial fun a1 ha1=>
 (fun (k:Nat) (hH1:k≤l.length∧Qaz (fun _ (c:TRow)=>c.client<n) l k)=>.r 1<|.bd 14 ((k:Int)<(l.length:Int)) (fun p1=>.r 1<|.idxM l trA k (m:=(k:Int)) rfl (by omega) fun x1 hx1=>
 .r 1<|.new fun b1=>.u 2 [b1]<|
 .u 2 [b1]<|
 .call (Zch x1)<|
 .r 1<|.r 3<|.bd 23 (x1.client≥n) (fun p2=>.r 6<|.f (.tup [aI ((Qax (l.map fun x=>x.client) n).1:Int),aB (Qax (l.map fun x=>x.client) n).2]) [] (.tup [aI (k:Int),aB (x1.client==n)]) (by
  rw [Qhm (m:=x1.client) (Qn6 hH1.2) (by rw [W0v,hx1];rfl) (by omega)];exact sR))
 <| fun p2=>.run 2 [rng .i64 ((k:Int)+1)] ⟨Qal,trivial⟩<|
 .bk L1 k (k+1) ⟨by omega,hH1.2.step hx1 (by omega)⟩ (show l.length-(k+1)<l.length-k from (by omega)) [(13,aI ((k:Int)+1))] [] ⟨sR,sR,sR,sR,sR,sO,trivial⟩ trivial)
 <| fun p1=>.r 2<|.lm 30 l trA<|.r 2<|.f (.tup [aI ((Qax (l.map fun x=>x.client) n).1:Int),aB (Qax (l.map fun x=>x.client) n).2]) [] (.tup [aI (l.length:Int),aB false]) (by
  rw [Qjz (k:=k) (Qn6 hH1.2) (by rw [W0a];omega),W0a];exact sR)) a1 ha1)
theorem Qhf (l:List (TRow)) (n:Int) (hl:l.length≤100000):Qag prog 161 [.sl 4 false (l.map trA),aI n] (.tup [aI (tplR l n:Int),aB (thR l n)]):=by
 exact Qac func161 (let R:AV:=.tup [aI (tplR l n:Int),aB (thR l n)];
 .r 2<|.r 2<|.call (Quc l n hl)<|
 .r 4<|.fi R [])
theorem Zci (x:Int × Bool):Qag prog 164 [.agg [aI x.1,aB x.2]] (aI x.1):=by
 exact Qac func164 (
 .new fun b1=>.r 1<|.u 3 [b1]<|
 .fi (aI x.1) [])
theorem Qud (l:List (Int × Bool)) (n:Int) (hl:l.length≤100000):Qag prog 163 [.sl 2 false (l.map tdA),.val (.func (.func 164) #[] #[]),aI n] (.tup [aI ((Qax (l.map fun x=>x.1) n).1:Int),aB (Qax (l.map fun x=>x.1) n).2]):=by
 exact Qac func163 (
 .r 2<|.r 2<|.lm 12 l tdA<|.r 1<|let L1:Lp (Nat):=⟨fun a1=>⟨[(0,.sl 2 false (l.map tdA)),(1,.val (.func (.func 164) #[] #[])),(2,aI n),(11,.sl 2 false (l.map tdA)),(12,aI (l.length:Int)),(13,aI (a1:Int))],[]⟩,fun a1=>l.length-a1,fun a1=>a1≤l.length∧Qaz (fun _ (c:Int × Bool)=>c.1<n) l a1⟩
 .lp L1 0 ⟨W0j _,Qaz.zero _ _⟩ [(13,aI 0)] [] ⟨sR,sR,sR,sR,sR,sO,trivial⟩ trivial fun a1 ha1=>
 (fun (k:Nat) (hH1:k≤l.length∧Qaz (fun _ (c:Int × Bool)=>c.1<n) l k)=>.r 1<|.bd 14 ((k:Int)<(l.length:Int)) (fun p1=>.r 1<|.idxM l tdA k (m:=(k:Int)) rfl (by omega) fun x1 hx1=>
 .r 1<|.new fun b1=>.u 2 [b1]<|
 .u 2 [b1]<|
 .call (Zci x1)<|
 .r 1<|.r 3<|.bd 23 (x1.1≥n) (fun p2=>.r 6<|.f (.tup [aI ((Qax (l.map fun x=>x.1) n).1:Int),aB (Qax (l.map fun x=>x.1) n).2]) [] (.tup [aI (k:Int),aB (x1.1==n)]) (by
  rw [Qhm (m:=x1.1) (Qn6 hH1.2) (by rw [W0v,hx1];rfl) (by omega)];exact sR))
 <| fun p2=>.run 2 [rng .i64 ((k:Int)+1)] ⟨Qal,trivial⟩<|
 .bk L1 k (k+1) ⟨by omega,hH1.2.step hx1 (by omega)⟩ (show l.length-(k+1)<l.length-k from (by omega)) [(13,aI ((k:Int)+1))] [] ⟨sR,sR,sR,sR,sR,sO,trivial⟩ trivial)
 <| fun p1=>.r 2<|.lm 30 l tdA<|.r 2<|.f (.tup [aI ((Qax (l.map fun x=>x.1) n).1:Int),aB (Qax (l.map fun x=>x.1) n).2]) [] (.tup [aI (l.length:Int),aB false]) (by
  rw [Qjz (k:=k) (Qn6 hH1.2) (by rw [W0a];omega),W0a];exact sR)) a1 ha1)
theorem Qoc (l:List (Int × Bool)) (n:Int) (hl:l.length≤100000):Qag prog 138 [.sl 2 false (l.map tdA),aI n] (.tup [aI (plQ l n:Int),aB (thQ l n)]):=by
 exact Qac func138 (let R:AV:=.tup [aI (plQ l n:Int),aB (thQ l n)];
 .r 2<|.r 2<|.call (Qud l n hl)<|
 .r 4<|.fi R [])
theorem Qpw (rs:List TRow) (n ep sq:Int) (okr:OkRw rs):Qag prog 135 [.sl 4 false (rs.map trA),aI n,aI ep,aI sq] (.tup [.agg (trA (ownR rs n ep sq)),aI (ownF rs n ep sq).2]):=by
 exact Qac func135 (
 .new fun b1=>.r 1<|.r 2<|.call (Qhf rs n (by have:=okr.1;omega))<|
 .r 5<|.r 1<|.r 3<|.br 19 (decide (n<0)) (fun q1=>have p1:=decT q1;.u 3 [b1]<|
 .f (.tup [.agg (trA (ownR rs n ep sq)),aI (ownF rs n ep sq).2]) [b1] (.tup [.agg [aI 0,aI 0,aI 0,aN],aI 1]) (by
  unfold ownR;rw [show ownF rs n ep sq=_ from Qpy (by omega)]
  first | exact sR | exact W2q ⟨W2r ⟨sR,sR,sR,Sub.nil _ _,trivial⟩,sR,trivial⟩))
 <| fun q1=>have p1:=decF q1;.r 3<|.br 19 (decide (ep<1)) (fun q2=>have p2:=decT q2;.u 3 [b1]<|
 .f (.tup [.agg (trA (ownR rs n ep sq)),aI (ownF rs n ep sq).2]) [b1] (.tup [.agg [aI 0,aI 0,aI 0,aN],aI 1]) (by
  unfold ownR;rw [show ownF rs n ep sq=_ from Qpy (by omega)]
  first | exact sR | exact W2q ⟨W2r ⟨sR,sR,sR,Sub.nil _ _,trivial⟩,sR,trivial⟩))
 <| fun q2=>have p2:=decF q2;.r 3<|.br 19 (decide (sq<1)) (fun q3=>have p3:=decT q3;.u 3 [b1]<|
 .f (.tup [.agg (trA (ownR rs n ep sq)),aI (ownF rs n ep sq).2]) [b1] (.tup [.agg [aI 0,aI 0,aI 0,aN],aI 1]) (by
  unfold ownR;rw [show ownF rs n ep sq=_ from Qpy (by omega)]
  first | exact sR | exact W2q ⟨W2r ⟨sR,sR,sR,Sub.nil _ _,trivial⟩,sR,trivial⟩))
 <| fun q3=>have p3:=decF q3;.r 2<|.br 28 (thR rs n) (fun q4=>have p4:=booT q4;.r 2<|.idxM rs trA (tplR rs n) (m:=(tplR rs n:Int)) rfl (Qcd (by assumption)) fun x1 hx1=>
 .r 6<|.bd 26 (x1.epoch>ep) (fun p5=>.r 1<|.u 4 [b1]<|
 .f (.tup [.agg (trA (ownR rs n ep sq)),aI (ownF rs n ep sq).2]) [b1] (.tup [.agg [aI 0,aI 0,aI 0,aN],aI 17]) (by
  unfold ownR;rw [show ownF rs n ep sq=_ from (Qwo (by omega) q4 hx1).trans (W1x (by omega))]
  first | exact sR | exact W2q ⟨W2r ⟨sR,sR,sR,Sub.nil _ _,trivial⟩,sR,trivial⟩))
 <| fun p5=>.r 3<|.is 37 (show (!(thR rs n))=false from by rw [q4];rfl)<|.r 2<|.idx (tplR rs n) (m:=(tplR rs n:Int)) (xs:=rs.map trA) (e:=trA x1) rfl (map_some hx1)<|
 .r 5<|.bd 37 (x1.epoch<ep) (fun p6=>.u 4 [b1]<|
 .f (.tup [.agg (trA (ownR rs n ep sq)),aI (ownF rs n ep sq).2]) [b1] (.tup [.agg [aI 0,aI 0,aI 0,aN],aI 6]) (by
  unfold ownR;rw [show ownF rs n ep sq=_ from (Qwo (by omega) q4 hx1).trans ((W1w (by omega)).trans (W1x (by omega)))]
  first | exact sR | exact W2q ⟨W2r ⟨sR,sR,sR,Sub.nil _ _,trivial⟩,sR,trivial⟩))
 <| fun p6=>.r 2<|.idx (tplR rs n) (m:=(tplR rs n:Int)) (xs:=rs.map trA) (e:=trA x1) rfl (map_some hx1)<|
 .u 3 [b1]<|
 .f (.tup [.agg (trA (ownR rs n ep sq)),aI (ownF rs n ep sq).2]) [b1] (.tup [.agg [aI x1.client,aI x1.epoch,aI x1.done,.sl 2 false (x1.l.map tdA)],aI 0]) (by
  unfold ownR;rw [show ownF rs n ep sq=_ from (Qwo (by omega) q4 hx1).trans ((W1w (by omega)).trans (W1w (by omega)))]
  first | exact sR | exact W2q ⟨W2r ⟨sR,sR,sR,Sub.nil _ _,trivial⟩,sR,trivial⟩))
 <| fun q4=>have p4:=booF q4;.r 9<|.r 3<|.is 37 (show (!(thR rs n))=true from by rw [q4];rfl)<|.u 4 [b1]<|
 .f (.tup [.agg (trA (ownR rs n ep sq)),aI (ownF rs n ep sq).2]) [b1] (.tup [.agg [aI 0,aI 0,aI 0,aN],aI 6]) (by
  unfold ownR;rw [show ownF rs n ep sq=_ from Qwn (by omega) q4]
  first | exact sR | exact W2q ⟨W2r ⟨sR,sR,sR,Sub.nil _ _,trivial⟩,sR,trivial⟩))
theorem Qqz (rs:List TRow) (n ep sq:Int) (okr:OkRw rs):Qag prog 108 [.sl 4 false (rs.map trA),aI n,aI ep,aI sq] (.tup [aB (askF rs n ep sq).1,aI (askF rs n ep sq).2]):=by
 have hbo:=(Qr3 rs okr n ep sq).1.2.1;exact Qac func108 (
 .r 2<|.r 4<|.call (Qpw rs n ep sq okr)<|
 .r 3<|.new fun b1=>.u 2 [b1]<|
 .r 2<|.br 23 (((ownF rs n ep sq).2) != 0) (fun q1=>have p1:=bneT q1;have hk:=Znj ((Qr3 rs okr n ep sq).2.2 p1);.r 3<|.f (.tup [aB (askF rs n ep sq).1,aI (askF rs n ep sq).2]) [] (.tup [aB false,aI ((ownF rs n ep sq).2)]) (by
  rw [hk];exact sR))
 <| fun q1=>have p1:=bneF q1;.ex ((Qr3 rs okr n ep sq).2.1 p1) fun r0 hr0=>
 have hk:=Zjs hr0.2;have hor:(ownR rs n ep sq)=r0:=(by unfold ownR;rw [hr0.2];rfl);.u 4 [b1]<|
 .br 28 (decide (((ownR rs n ep sq).done)≥sq)) (fun q2=>have p2:=decT q2;.r 2<|.f (.tup [aB (askF rs n ep sq).1,aI (askF rs n ep sq).2]) [] (.tup [aB false,aI 18]) (by
  rw [hk,W1x (by rw [hor] at *;omega)];exact sR))
 <| fun q2=>have p2:=decF q2;.u 3 [b1]<|
 .call (Qoc (ownR rs n ep sq).l sq (by omega))<|
 .r 5<|.r 2<|.br 37 (!(thQ (ownR rs n ep sq).l sq)) (fun q3=>have q3:=notT q3;have p3:=booF q3;.r 2<|.f (.tup [aB (askF rs n ep sq).1,aI (askF rs n ep sq).2]) [] (.tup [aB false,aI 6]) (by
  rw [hk,W1w (by rw [hor] at *;omega),W1w (by rw [← hor,q3];decide)];exact sR))
 <| fun q3=>have q3:=notF q3;have p3:=booT q3;.u 3 [b1]<|
 .idxM ((ownR rs n ep sq).l) tdA (plQ (ownR rs n ep sq).l sq) (m:=(plQ (ownR rs n ep sq).l sq:Int)) rfl (plQ_lt (by assumption)) fun x1 hx1=>
 .r 4<|.f (.tup [aB (askF rs n ep sq).1,aI (askF rs n ep sq).2]) [] (.tup [aB x1.2,aI 0]) (by
  rw [hk,W1w (by rw [hor] at *;omega),W1x (by rw [← hor];exact q3),← hor,hx1];exact sR))
end Go.Proofs.YtkhodpknpligpaaGreat

namespace Copyhold.Name
abbrev Ent:=List UInt8 × Int
def okN (s:List UInt8):Bool:=!(s==[])&&!(s==[46])&&!(s==[46,46])&&decide (s.length≤32)&&!s.contains 47&&!s.contains 0
def okE (x:Ent):Bool:=okN x.1&&decide (1≤x.2)
def upAt (l:List Ent) (i:Nat) (x:Ent):Bool:=i==0||(match l[i-1]? with | some y=>decide (y.1<x.1) | none=>true)
def okAt (l:List Ent) (i:Nat):Bool:=match l[i]? with | none=>true | some x=>okE x&&upAt l i x
def rightE (l:List Ent):Bool:=decide (l.length≤256)&&(List.range l.length).all (okAt l)
def Srt (l:List Ent):Prop:=l.Pairwise (fun a b=>a.1<b.1)
theorem ltT {a b c:List UInt8} (h:a<b) (h2:b<c):a<c:=List.lt_trans h h2
theorem ltI {a:List UInt8} (h:a<a):False:=List.lt_irrefl a h
theorem ltA {a b:List UInt8} (h:¬ a<b) (h2:¬ b<a):a=b:=List.le_antisymm (List.not_lt.mp h2) (List.not_lt.mp h)
theorem rightE_iff (l:List Ent):rightE l=true↔l.length≤256∧(∀ x∈l,okE x=true)∧Srt l:=by
 constructor
 ·intro h;simp only [rightE,W0r,W2m,W1z,List.mem_range] at h;obtain ⟨h1,h2⟩:=h;have ha:∀ i (hi:i<l.length),okE l[i]=true∧(∀ j (hj:j<l.length),j+1=i→l[j].1<l[i].1):=by
   intro i hi;have:=h2 i hi;simp only [okAt,W0d hi,W0r,upAt,W15,beq_iff_eq] at this;refine ⟨this.1,fun j hj e=>?_⟩;rcases this.2 with h0 | h0
   ·omega
   ·rw [show i-1=j from by omega,W0d hj] at h0;simpa using h0
  refine ⟨h1,fun x hx=>?_,?_⟩
  ·obtain ⟨i,hi,rfl⟩:=List.mem_iff_getElem.1 hx;exact (ha i hi).1
  ·refine W1c.2 fun i j hi hj hij=>?_;obtain ⟨d,rfl⟩:∃ d,j=i+1+d:=⟨j-i-1,by omega⟩
   clear hij
   induction d with
   | zero=>exact (ha (i+1) hj).2 i hi rfl
   | succ d ih=>exact ltT (ih (by omega)) ((ha (i+1+(d+1)) hj).2 (i+1+d) (by omega) rfl)
 ·rintro ⟨h1,h2,h3⟩;simp only [rightE,W0r,W2m,W1z,List.mem_range];refine ⟨h1,fun i hi=>?_⟩;simp only [okAt,W0d hi,W0r,upAt,W15,beq_iff_eq];refine ⟨h2 _ (W1m _),?_⟩;by_cases h0:i=0
  ·exact .inl h0
  ·right;rw [W0d (by omega)];simp only [W2m];exact W1c.1 h3 (i-1) i (by omega) hi (by omega)
def pos (l:List Ent) (s:List UInt8):Nat:=l.countP (fun x=>decide (x.1<s))
def isAt (l:List Ent) (s:List UInt8):Bool:=l.any (fun x=>x.1==s)
def getE (l:List Ent) (s:List UInt8):Option Int:=(l.find? (fun x=>x.1==s)).map (·.2)
def insE:List Ent→Ent→List Ent
 | [],x=>[x]
 | a :: l,x=>if a.1<x.1 then a :: insE l x else x :: a :: l
def delE (l:List Ent) (s:List UInt8):List Ent:=l.filter (fun x=>!(x.1==s))
theorem pos_le (l:List Ent) (s:List UInt8):pos l s≤l.length:=List.countP_le_length
theorem Srt.tail {a:Ent} {l:List Ent} (h:Srt (a :: l)):Srt l:=(W1k.1 h).2
theorem Srt.head {a:Ent} {l:List Ent} (h:Srt (a :: l)):∀ x∈l,a.1<x.1:=(W1k.1 h).1
theorem Qrv {a:Ent} {l:List Ent} {s:List UInt8} (h:a.1<s):pos (a :: l) s=pos l s+1:=by
 simp [pos,h]
theorem Qrw {a:Ent} {l:List Ent} {s:List UInt8} (hs:Srt (a :: l)) (h:¬ a.1<s):pos (a :: l) s=0:=by
 unfold pos;rw [List.countP_eq_zero];intro x hx;rcases W0y.1 hx with rfl | hx
 ·simpa using h
 ·simp only [W2m];exact fun hxs=>h (ltT (hs.head x hx) hxs)
theorem take_ins {l:List Ent} (h:Srt l) (s:List UInt8) (n:Int):l.take (pos l s)++(s,n) :: l.drop (pos l s)=insE l (s,n):=by
 induction l with
 | nil=>rfl
 | cons a l ih=>
  by_cases ha:a.1<s
  ·rw [Qrv ha];simp only [List.take_succ_cons,List.drop_succ_cons,List.cons_append,insE,ha,if_true];rw [ih h.tail]
  ·rw [Qrw h ha];simp [insE,ha]
theorem Qdo (a:Ent) (l:List Ent) (s:List UInt8):isAt (a :: l) s=(a.1==s||isAt l s):=rfl
theorem Qll {l:List Ent} {s:List UInt8}:isAt l s=true↔∃ x∈l,x.1=s:=by simp [isAt]
theorem Qml {a:Ent} {l:List Ent} {s:List UInt8} (h:Srt (a :: l)) (ha:¬ a.1<s):isAt l s=false:=by
 rw [Bool.eq_false_iff];intro hi;obtain ⟨x,hx,rfl⟩:=Qll.1 hi;exact ha (h.head x hx)
theorem del_none {l:List Ent} {s:List UInt8} (h:isAt l s=false):delE l s=l:=by
 unfold delE;rw [List.filter_eq_self];intro x hx;rw [Bool.eq_false_iff] at h;simp only [Bool.not_eq_true',beq_eq_false_iff_ne];exact fun e=>h (Qll.2 ⟨x,hx,e⟩)
theorem take_del {l:List Ent} (h:Srt l) {s:List UInt8} (hi:isAt l s=true):l.take (pos l s)++l.drop (pos l s+1)=delE l s:=by
 induction l with
 | nil=>rfl
 | cons a l ih=>
  by_cases ha:a.1<s
  ·have hne:(a.1==s)=false:=by
    rw [beq_eq_false_iff_ne];rintro rfl;exact ltI ha
   rw [Qdo,hne,W0u] at hi;rw [Qrv ha];simp only [List.take_succ_cons,List.drop_succ_cons,List.cons_append,delE,W2k,hne,W0t,if_true];rw [ih h.tail hi];rfl
  ·have hn:=Qml h ha;rw [Qdo,hn,W01] at hi;rw [Qrw h ha];simp only [List.take_zero,W1v,Nat.zero_add,List.drop_succ_cons,List.drop_zero,delE,W2k,hi,W0x];exact (del_none hn).symm
theorem at_pos {l:List Ent} (h:Srt l) (s:List UInt8):(l[pos l s]?.any (fun x=>x.1==s))=isAt l s:=by
 induction l with
 | nil=>rfl
 | cons a l ih=>
  by_cases ha:a.1<s
  ·have hne:(a.1==s)=false:=by
    rw [beq_eq_false_iff_ne];rintro rfl;exact ltI ha
   rw [Qrv ha,List.getElem?_cons_succ,ih h.tail,Qdo,hne,W0u]
  ·rw [Qrw h ha,Qdo,Qml h ha,W01];rfl
theorem get_pos {l:List Ent} (h:Srt l) {s:List UInt8} (hi:isAt l s=true):∃ x,l[pos l s]?=some x∧x.1=s∧getE l s=some x.2:=by
 induction l with
 | nil=>cases hi
 | cons a l ih=>
  by_cases ha:a.1<s
  ·have hne:(a.1==s)=false:=by
    rw [beq_eq_false_iff_ne];rintro rfl;exact ltI ha
   rw [Qdo,hne,W0u] at hi;obtain ⟨x,h1,h2,h3⟩:=ih h.tail hi;refine ⟨x,by rw [Qrv ha,List.getElem?_cons_succ,h1],h2,?_⟩;unfold getE at h3 ⊢;rw [W1e,hne];exact h3
  ·rw [Qdo,Qml h ha,W01] at hi;refine ⟨a,by rw [Qrw h ha];rfl,by simpa using hi,?_⟩;unfold getE;rw [W1e,hi];rfl
theorem Qxc {l:List Ent} {s:List UInt8} (hi:isAt l s=false):getE l s=none:=by
 unfold getE;rw [Option.map_eq_none_iff,W10];intro x hx e;rw [Bool.eq_false_iff] at hi;exact hi (Qll.2 ⟨x,hx,by simpa using e⟩)
theorem get_some {l:List Ent} {s:List UInt8}:isAt l s=(getE l s).isSome:=by
 by_cases h:isAt l s=true
 ·obtain ⟨x,hx,e⟩:=Qll.1 h;rw [h];unfold getE;rw [Option.isSome_map];symm;rw [List.find?_isSome];exact ⟨x,hx,by simpa using e⟩
 ·have h:isAt l s=false:=by simpa using h
  rw [h,Qxc h];rfl
theorem Zcy (l:List Ent) (x y:Ent):y∈insE l x↔y=x∨y∈l:=by
 induction l with
 | nil=>simp [insE]
 | cons a l ih=>
  unfold insE
  split
  ·simp only [W0y,ih];constructor
   ·rintro (h | h | h)<;>simp [h]
   ·rintro (h | h | h)<;>simp [h]
  ·simp
theorem Zmb (l:List Ent) (x:Ent):(insE l x).length=l.length+1:=by
 induction l with
 | nil=>rfl
 | cons a l ih=>
  unfold insE
  split<;>simp [ih]
theorem srt_ins {l:List Ent} (h:Srt l) {x:Ent} (hi:isAt l x.1=false):Srt (insE l x):=by
 induction l with
 | nil=>exact List.pairwise_singleton _ _
 | cons a l ih=>
  rw [Qdo,Bool.or_eq_false_iff] at hi;unfold insE
  split
  ·rename_i ha;refine W1k.2 ⟨fun y hy=>?_,ih h.tail hi.2⟩;rcases (Zcy l x y).1 hy with rfl | hy
   ·exact ha
   ·exact h.head y hy
  ·rename_i ha;have hax:x.1<a.1:=Classical.byContradiction fun hn=>(beq_eq_false_iff_ne.1 hi.1) (ltA ha hn)
   refine W1k.2 ⟨fun y hy=>?_,h⟩;rcases W0y.1 hy with rfl | hy
   ·exact hax
   ·exact ltT hax (h.head y hy)
theorem get_ins {l:List Ent} {s t:List UInt8} {n:Int} (hi:isAt l s=false):getE (insE l (s,n)) t=if t=s then some n else getE l t:=by
 induction l with
 | nil=>
  by_cases h:t=s
  ·subst h;simp [getE,insE]
  ·simp [getE,insE,h,Ne.symm h]
 | cons a l ih=>
  rw [Qdo,Bool.or_eq_false_iff] at hi;have has:a.1 ≠ s:=beq_eq_false_iff_ne.1 hi.1;have ih:=ih hi.2;unfold insE
  split
  ·unfold getE at ih ⊢;by_cases hat:a.1=t
   ·have h1:(a.1==t)=true:=by simpa using hat
    have:t ≠ s:=hat ▸ has;simp [h1,this]
   ·have h1:(a.1==t)=false:=by simpa using hat
    rw [W1e,h1,W1e,h1];exact ih
  ·unfold getE;by_cases h:t=s
   ·subst h;simp
   ·have h1:(s==t)=false:=by simpa using Ne.symm h
    rw [W1e];simp [h1,h]
theorem del_ins {l:List Ent} {s:List UInt8} {n:Int} (hi:isAt l s=false):delE (insE l (s,n)) s=l:=by
 induction l with
 | nil=>simp [insE,delE]
 | cons a l ih=>
  have hd:=del_none hi;rw [Qdo,Bool.or_eq_false_iff] at hi;unfold insE
  split
  ·have h2:=ih hi.2;unfold delE at h2 ⊢;rw [W2k];simp only [hi.1,W0t,if_true,h2]
  ·unfold delE at hd ⊢;rw [W2k];simp only [beq_self_eq_true,W0x,Bool.false_eq_true,if_false];exact hd
theorem get_del {l:List Ent} {s t:List UInt8}:getE (delE l s) t=if t=s then none else getE l t:=by
 induction l with
 | nil=>simp [getE,delE]
 | cons a l ih=>
  unfold getE delE at ih ⊢;rw [W2k];by_cases has:a.1=s
  ·have h1:(a.1==s)=true:=by simpa using has
   simp only [h1,W0x,Bool.false_eq_true,if_false,ih];by_cases h:t=s
   ·simp [h]
   ·have h2:(a.1==t)=false:=by
     rw [beq_eq_false_iff_ne,has];exact Ne.symm h
    simp [h,h2]
  ·have h1:(a.1==s)=false:=by simpa using has
   simp only [h1,W0t,if_true];rw [W1e,W1e];by_cases hat:a.1=t
   ·have h2:(a.1==t)=true:=by simpa using hat
    have:t ≠ s:=hat ▸ has;simp [h2,this]
   ·have h2:(a.1==t)=false:=by simpa using hat
    simp only [h2];exact ih
theorem srt_del {l:List Ent} (h:Srt l) (s:List UInt8):Srt (delE l s):=List.Pairwise.filter _ h
theorem right_ins {l:List Ent} {s:List UInt8} {n:Int} (h:rightE l=true) (hs:okN s=true) (hn:1≤n) (hi:isAt l s=false) (hl:l.length<256):rightE (insE l (s,n))=true:=by
 rw [rightE_iff] at h ⊢;refine ⟨by rw [Zmb];omega,fun x hx=>?_,srt_ins h.2.2 hi⟩;rcases (Zcy l _ x).1 hx with rfl | hx
 ·simp [okE,hs,hn]
 ·exact h.2.1 x hx
theorem Zbu {l:List Ent} (h:rightE l=true):Srt l:=((rightE_iff l).1 h).2.2
def enterF (l:List Ent) (s:List UInt8) (n:Int):List Ent × Int:=
 if okN s=false then (l,10) else if n<1 then (l,1) else if isAt l s=true then (l,7) else if 256≤l.length then (l,12) else (insE l (s,n),0)
def leaveF (l:List Ent) (s:List UInt8):List Ent × Int × Int:=if isAt l s=true then (delE l s,(getE l s).getD 0,0) else (l,0,6)
end Copyhold.Name

namespace Copyhold.Name
open Go Go.RowKit
def entC (x:Ent):List Value:=[strV x.1,.int .i64 x.2]
def Ents (w:World) (v:Value) (l:List Ent):Prop:=Sl w 2 v l.length (l.flatMap entC)
theorem Qxq:∀ (l:List Ent) (i:Nat),(l.flatMap entC)[i*2]?=l[i]?.map (fun x=>strV x.1)∧(l.flatMap entC)[i*2+1]?=l[i]?.map (fun x=>.int .i64 x.2)
 | [],i=>by simp
 | x :: l,0=>by simp [entC]
 | x :: l,i+1=>by
  have h:=Qxq l i;rw [List.flatMap_cons];constructor
  ·rw [W0n (by simp [entC];omega)];simp only [entC,W0b,W0f];rw [show (i+1)*2-(0+1+1)=i*2 from by omega,h.1];simp
  ·rw [W0n (by simp [entC];omega)];simp only [entC,W0b,W0f];rw [show (i+1)*2+1-(0+1+1)=i*2+1 from by omega,h.2];simp
theorem Qxp (l:List Ent):(l.flatMap entC).length=l.length*2:=by
 induction l with
 | nil=>rfl
 | cons x l ih=>rw [List.flatMap_cons,W0e,ih];simp [entC];omega
theorem Ents.shape {w:World} {v:Value} {l:List Ent} (h:Ents w v l):∃ A c,v=.slice A l.length c∧l.length≤c:=by
 obtain ⟨A,c,rfl,hc,_⟩:=Sl.shape h;exact ⟨A,c,rfl,hc⟩
theorem Ents.below {w w':World} {v:Value} {l:List Ent} (h:Ents w v l) (hb:Below w.heap.size w w'):Ents w' v l:=Sl.below h hb
theorem Ents.nil (w:World):Ents w (.slice none 0 0) []:=Sl.nil w 2
theorem Ents.at {w:World} {A:Option Addr} {c:Nat} {l:List Ent} (h:Ents w (.slice A l.length c) l) (k:Nat) (hk:k<l.length) :
  ∃ b off,A=some ⟨b,off,none⟩∧b<w.heap.size∧l.length≤c∧w.cell? ⟨b,off+k*2,none⟩=some (.string ⟨(l[k].1).toArray⟩)∧w.cell? ⟨b,off+k*2+1,none⟩=some (.int .i64 l[k].2):=by
 obtain ⟨b,off,rfl,hb,hc,_,hcell⟩:=Sl.at h (by omega);have hg:=Qxq l k;rw [W0d hk] at hg;exact ⟨b,off,rfl,hb,hc,hcell _ _ hg.1,by rw [Nat.add_assoc];exact hcell _ _ hg.2⟩
theorem Qsp (l:List Ent) (i:Nat):(l.take i).flatMap entC=(l.flatMap entC).take (i*2):=by
 induction l generalizing i with
 | nil=>simp
 | cons x l ih=>
  cases i with
  | zero=>simp
  | succ i=>
   rw [List.take_succ_cons,List.flatMap_cons,List.flatMap_cons,ih i,List.take_append];have:(entC x).length=2:=rfl;rw [this,show (i+1)*2-2=i*2 from by omega,W1a (l:=entC x) (by rw [this];omega)]
theorem Qsq (l:List Ent) (i:Nat):(l.drop i).flatMap entC=(l.flatMap entC).drop (i*2):=by
 induction l generalizing i with
 | nil=>simp
 | cons x l ih=>
  cases i with
  | zero=>simp
  | succ i=>
   rw [List.drop_succ_cons,List.flatMap_cons,ih i,List.drop_append];have:(entC x).length=2:=rfl;rw [this,show (i+1)*2-2=i*2 from by omega,List.drop_of_length_le (l:=entC x) (by rw [this];omega),W1v]
theorem Ents.take {w:World} {A:Option Addr} {c:Nat} {l:List Ent} (h:Ents w (.slice A l.length c) l) (i:Nat) (hi:i≤l.length):Ents w (.slice A i c) (l.take i):=by
 obtain ⟨A',c',he,hc,hl,hh⟩:=h;simp only [Value.slice.injEq] at he;obtain ⟨rfl,_,rfl⟩:=he;refine ⟨A,c,by rw [W0g,Nat.min_eq_left hi],by rw [W0g];omega,Qxp _,fun h0=>?_⟩;rw [W0g] at h0;obtain ⟨b,off,rfl,hb,hcell⟩:=hh (by omega);refine ⟨b,off,rfl,hb,fun j x hx=>hcell j x ?_⟩;rw [Qsp] at hx;rw [W1b] at hx
 split at hx
 ·exact hx
 ·cases hx
theorem Ents.drop {w:World} {A A':Option Addr} {c n c':Nat} {l:List Ent} (h:Ents w (.slice A l.length c) l) (i:Nat) (hi:i≤l.length) (hn:n=l.length-i) (hc':c'=c-i) (hA:i<l.length→∀ b off,A=some ⟨b,off,none⟩→A'=some ⟨b,off+i*2,none⟩):Ents w (.slice A' n c') (l.drop i):=by
 obtain ⟨A0,c0,he,hc,hl,hh⟩:=h;simp only [Value.slice.injEq] at he;obtain ⟨rfl,_,rfl⟩:=he;subst hn hc';refine ⟨A',c-i,by rw [W0p],by rw [W0p];omega,Qxp _,fun h0=>?_⟩;rw [W0p] at h0;obtain ⟨b,off,rfl,hb,hcell⟩:=hh (by omega);refine ⟨b,off+i*2,hA (by omega) b off rfl,hb,fun j x hx=>?_⟩;rw [Qsq,W07] at hx;rw [Nat.add_assoc];exact hcell _ x hx
end Copyhold.Name
namespace Go.Proofs.YtkhodpknpligpaaGreat
open Go.RowKit Go.ChangeShapes Go.WideShapes Go.ChangeAt Copyhold Copyhold.Name
end Go.Proofs.YtkhodpknpligpaaGreat

namespace Copyhold.Name
end Copyhold.Name

namespace Go.Proofs.YtkhodpknpligpaaGreat
open Go.RowKit Copyhold Copyhold.Name
theorem Qpl (s:List UInt8) (c:UInt8) (W:World):(callFunc 335 #[.string ⟨s.toArray⟩,.int .u8 (c.toNat:Int)]).run Tryz.prog W=.ok (.value (.int .i64 (Lib.indexByte s c))) W:=by
 rw [run_callFunc_extern (e:=Extern.BytealgIndexByte.indexByte) Tryz.func335 (by kernel_rfl) (by kernel_rfl) (by kernel_rfl) (by kernel_rfl),Lib.run_indexByteString];simp
theorem Ql4 (s:List UInt8) (c:UInt8) (w:World):Calls Tryz.prog 315 #[.string ⟨s.toArray⟩,.int .u8 (c.toNat:Int)] w fun e w'=>e=.returned (.int .i64 (Lib.indexByte s c))∧w=w':=by
 have hr:=Qpl s c
 go_enter Tryz.func315,Tryz.ntmps315
 go_wp2_with fail
 go_ret
 exact ⟨rfl,rfl⟩
theorem Qtw (s:List UInt8) (c:UInt8) (w:World):Calls Tryz.prog 291 #[.string ⟨s.toArray⟩,.string ⟨#[c]⟩] w fun e w'=>e=.returned (.int .i64 (Lib.indexByte s c))∧w=w':=by
 by_cases he:s=[c]
 ·subst he;rw [show Lib.indexByte [c] c=0 from by simp [Lib.indexByte]]
  set_option maxRecDepth 100000 in
  go_enter Tryz.func291,Tryz.ntmps291
  go_wp2_with fail
  go_ret
  exact ⟨rfl,rfl⟩
 ·have hq:([c]==s)=false:=by simpa using Ne.symm he
  clear he
  set_option maxRecDepth 100000 in
  go_enter Tryz.func291,Tryz.ntmps291
  go_wp2_with fail
  refine (Ql4 s c _).mono ?_;rintro e w1 ⟨rfl,rfl⟩
  go_wp2_with fail
  go_ret
  exact ⟨rfl,rfl⟩
theorem Qjv (s:List UInt8) (c:UInt8) (w:World):Calls Tryz.prog 257 #[.string ⟨s.toArray⟩,.string ⟨#[c]⟩] w fun e w'=>e=.returned (.int .i64 (Lib.indexByte s c))∧w=w':=by
 go_enter Tryz.func257,Tryz.ntmps257
 go_wp2_with fail
 refine (Qtw s c _).mono ?_;rintro e w1 ⟨rfl,rfl⟩
 go_wp2_with fail
 go_ret
 exact ⟨rfl,rfl⟩
theorem Qp9 (s:List UInt8) (c:UInt8):decide (0≤Lib.indexByte s c)=s.contains c:=by
 induction s with
 | nil=>simp [Lib.indexByte]
 | cons b l ih=>
  have hg:=Lib.indexByte_ge l c;rw [Lib.indexByte,List.contains_cons,← ih];by_cases hb:b=c
  ·subst hb;simp
  ·have h1:(b==c)=false:=by simpa using hb
   have h2:(c==b)=false:=by simpa using Ne.symm hb
   rw [h1,h2];by_cases h:Lib.indexByte l c = -1
   ·rw [h];simp
   ·have h3:(Lib.indexByte l c==-1)=false:=by simpa using h
    rw [h3];simp;omega
theorem Qhy (s:List UInt8) (c:UInt8) (w:World):Calls Tryz.prog 232 #[.string ⟨s.toArray⟩,.string ⟨#[c]⟩] w fun e w'=>e=.returned (.bool (s.contains c))∧w=w':=by
 have hm:=Lib.hid (Qp9 s c);have hge:=Lib.indexByte_ge s c;generalize hx:Lib.indexByte s c=x at *;have HX:=Lib.hid hx;clear hx
 go_enter Tryz.func232,Tryz.ntmps232
 go_wp2_with fail
 refine (Qjv s c _).mono ?_;rintro e w1 ⟨rfl,rfl⟩;rw [HX.out]
 go_wp2_with fail
 go_ret
 exact ⟨by rw [← hm.out];rfl,rfl⟩
theorem Qp6:∀ (x y:List UInt8),Op.bytesLess x y=decide (x<y)
 | [],[]=>by simp [Op.bytesLess]
 | a :: x,[]=>by simp [Op.bytesLess]
 | [],b :: y=>by simp [Op.bytesLess]
 | a :: x,b :: y=>by
  rw [Op.bytesLess,Qp6 x y,Bool.eq_iff_iff];simp only [W15,W0r,W2m,beq_iff_eq,List.cons_lt_cons_iff]
theorem gete (l:List Name.Ent) (i:Nat) (h:i<l.length):l.getD i ([],0)=l[i]:=by simp [List.getD,h]
end Go.Proofs.YtkhodpknpligpaaGreat
