import Derived.Test.YtahlldgocpabjaaGreatAl
import Derived.Test.YtahlldgocpabjaaGreatMrgK
import Derived.Laws.IdiomRangeMap
import Derived.Test.YtahlldgocpabjaaGreatMrgH
import Derived.Deep.QuietTactic
import Derived.BigQuiet
import Derived.IntWalk
import Derived.Test.YtahlldgocpabjaaGreatRows
import Derived.Test.YtahlldgocpabjaaGreatMrgA
set_option maxRecDepth 100000
set_option maxHeartbeats 8000000
set_option linter.unusedVariables false
set_option linter.unusedSimpArgs false
namespace Go.Proofs.YtahlldgocpabjaaGreat
open Go Go.RowKit Copyhold Go.Proofs.Tryz
def Qjt (P:Program) (f:FuncId) (args:List AV) (y:Bx) (r:AV) (y':Bx):Prop:=
 ∀ (D:Nat→Prop) (w:World) (vs:Array Value),(∀ b,D b→b<w.heap.size)→Qdj D w args vs→BoxR D w y→(∀ g,y.blk=some g→¬ D g) →
  Calls P f vs w (fun e w'=>∃ v,∃ D':Nat→Prop,e=.returned v∧Below 0 w w'∧(∀ k,y.blk ≠ some k→k<w.heap.size→w'.heap[k]?=w.heap[k]?)∧(∀ b,D b→D' b) ∧
   (∀ b,D' b→b<w'.heap.size∧(D b∨y.blk=some b∨w.heap.size≤b))∧(∀ g,y'.blk=some g→(y.blk=some g∨w.heap.size≤g)∧¬ D' g)∧BoxR D' w' y'∧Ra D' w' r v)
theorem Zfu {P:Program} {f:FuncId} {F:Func} {code:Code} {args:List AV} {q:Nat} {y y':Bx} {r:AV} (n:Nat) (ct:Ct P) (hf:P.funcs[f]?=some F) (hb:F.body=some code)
  (hk:(decide (args.length≤F.ntmps)&&(P.follows .mixedOrders&&(F.results.toList.all fun rv=>decide ((match rv with | .tmp t=>t | .cell t _=>t)<F.ntmps))))=true)
  (h:vcC ct=vc P F (.valB r q y') n ct (.code code) [] ⟨Qdu args 0,[(q,y)]⟩):Qjt P f args y r y':=by
 simp only [W0r] at hk;have hsz:args.length≤F.ntmps:=of_decide_eq_true hk.1;have hn:=hk.2.2;have hv:vc P F (.valB r q y') n ct (.code code) [] ⟨Qdu args 0,[(q,y)]⟩:=h ▸ Qay ct;intro D w vs hD hvs hy hyD;refine calls_of_wp hf hb ?_
 let c:Cx:=⟨w.heap.size,w,F.ntmps,D,fun k=>y.blk=some k⟩
 have hawp:AWp c P code (FinG P F (.valB r q y')) (LS.mk (Qdu args 0) [(q,y)]).fs:=Qa1 (c:=c) rfl hk.2.1 n ct (.code code) [] _ hv;have htm:∀ t,(LS.mk (Qdu args 0) [(q,y)]).fs.tm t=args.getD t .any:=fun t=>by
  show lget (Qdu args 0) t=_;rw [Qgt];simp
 have hbx:∀ i x,(LS.mk (Qdu args 0) [(q,y)]).fs.bx i=some x→i=q∧x=y:=fun i x hx=>by
  have hx':bget [(q,y)] i=some x:=hx;simp only [bget] at hx';cases hb:Nat.beq q i with
  | true=>
   rw [hb] at hx';exact ⟨(W0q hb).symm,(W0c hx').symm⟩
  | false=>rw [hb] at hx';cases hx'
 have hrel:Rel c (LS.mk (Qdu args 0) [(q,y)]).fs { tmps:=vs++Array.replicate (F.ntmps-vs.size) undef,defers:=[] } w:=by
  refine ⟨W0m _,D,rfl,?_,BelowL.refl (c:=c),hD,⟨fun _ h=>h,fun _ h=>.inl h⟩,fun t v hv=>?_,fun id x h=>?_,fun i j x z hx hz hij=>?_⟩
  ·have:=hvs.1;simp [c];omega
  ·rw [htm];by_cases ht:t<vs.size
   ·rw [W2c ht] at hv;have hta:t<args.length:=by rw [hvs.1];exact ht
    have:=hvs.2 t args[t] v (W0d hta) hv;simpa [List.getD,W0d hta] using this
   ·have hta:args.length≤t:=by rw [hvs.1];omega
    have:args.getD t .any=.any:=by simp [List.getD,W1i hta]
    rw [this];exact .any v
  ·obtain ⟨_,rfl⟩:=hbx id x h;exact ⟨fun g hg=>⟨.inr hg,hyD g hg⟩,hy⟩
  ·exact absurd ((hbx i x hx).1.trans (hbx j z hz).1.symm) hij
 refine wp_mono (hawp _ _ hrel) fun e' a' w' ⟨s',hq,hc,D',hR⟩=>?_;obtain ⟨he,hd,hby⟩:=hq;have hn':∀ rv∈F.results.toList,(match rv with | .tmp t=>t | .cell t _=>t)<c.n:=fun rv hrv=>by
  have:=W10.1 hn rv hrv;simpa using this
 obtain ⟨v,hv1,hrv⟩:=Qg8 hR hn' hd;have fin:∃ u,∃ D'':Nat→Prop,Ending.returned v=.returned u∧Below 0 w w'∧(∀ k,y.blk ≠ some k→k<w.heap.size→w'.heap[k]?=w.heap[k]?)∧(∀ b,D b→D'' b) ∧
   (∀ b,D'' b→b<w'.heap.size∧(D b∨y.blk=some b∨w.heap.size≤b))∧(∀ g,y'.blk=some g→(y.blk=some g∨w.heap.size≤g)∧¬ D'' g)∧BoxR D'' w' y'∧Ra D'' w' r u:=
  ⟨v,D',rfl,⟨hR.below.os,hR.below.tape,hR.below.output,hR.below.size,fun k hk=>absurd hk (by omega)⟩,fun k hk hl=>hR.below.block k hl hk,hR.old.1,
   fun b hb=>⟨hR.dlt b hb,(hR.old.2 b hb).imp id fun h=>h.symm⟩,fun g hg=>⟨((hR.bx q y' hby).1 g hg).1.symm.imp id id,((hR.bx q y' hby).1 g hg).2⟩,(hR.bx q y' hby).2,hrv⟩
 rcases he with rfl | rfl
 ·exact ⟨hR.defers,v,hv1,fin⟩
 ·exact ⟨hR.defers,v,hv1,fin⟩
theorem Qdw {P:Program} {q:Nat} {f:FuncId} {args args':List AV} {d:Option Tmp} {y y':Bx} {r:AV} (hs:Qdl args args') (hsp:Qjt P f args' y r y') :
  ∀ (ops:Array Oper) (i:Nat) (s:LS) (K:FS→Prop),lcR P q ops s i=some ((f,args,d),y)→(∀ a:Unit,K ((s.put d r).setB q y').fs)→Qvv P ops i s.fs K:=by
 intro ops i s K h kk;unfold lcR at h
 split at h
 ·rename_i f' args0 d' y1 hc hr;cases he:entB P f' with
  | false=>rw [he] at h;cases h
  | true=>
   rw [he] at h;simp only [cond_true,W0k,W0s] at h;obtain ⟨⟨rfl,rfl,rfl⟩,rfl⟩:=h;obtain ⟨o,hi,hg,hrd,hd,hrun⟩:=Qlc (P:=P) hc;refine ⟨o,hi,hg,.inl ⟨q,fun x z=>x=r∧z=y',?_,?_⟩⟩
   ·intro D w a Q K' hD hops hbx hnd hcont;obtain ⟨hl,hsa⟩:=hs.ok;obtain ⟨vs,h1,h2⟩:=hrun D w a.eval hops;have hra:Qdj D w args' vs:=by
     refine ⟨by rw [← hl];exact h2.1,fun j x v hx hv=>?_⟩;have hj:j<args0.length:=by have:=(W0i.1 hx).1;omega
     exact hsa j args0[j] x (W0d hj) hx D w v (h2.2 j args0[j] v (W0d hj) hv)
    unfold Oper.wp;rw [h1,Qjy he,Oper.upon_enter];refine (hsp D w _ hD hra (hbx q _ hr) (fun g hg=>hnd _ g hr hg)).mono ?_;rintro e' w' ⟨v,D',rfl,g1,g2,g3,g4,g6,g7,g5⟩;exact hcont v w' r _ y' D' ⟨rfl,rfl⟩ hr g1 g2 g3 g4 g6 g7 g5
   ·rintro x z ⟨rfl,rfl⟩;rw [hd,LS.fs_put,LS.fs_setB];exact kk ()
 ·cases h
def mput (es:List (MK × AV)) (k:MK) (x:AV):List (MK × AV):=
 match Qd7 k es 0 with
 | some (j,_)=>es.set j (k,x)
 | none=>es++[(k,x)]
theorem Zd2 {P:Program} {kt:TypeId} {id r:Nat} {es es2:List (MK × AV)} {k:MK} {x:AV}
  (hk:(es.all fun p=>Qcn P kt p.1)=true) (hk2:Qcn P kt k=true) (he:mput es k x=es2) :
  ∀ (ops:Array Oper) (i:Nat) (s:LS) (K:FS→Prop) (rest:List Nat),insR P ops s i=some (kt,(id,r,r,es),k,x)→(∀ a:Unit,SeqR P ops K rest (s.setB id (.mp r es2)).fs)→SeqR P ops K (i :: rest) s.fs:=by
 unfold mput at he
 split at he
 ·rename_i j x0 hn;exact Zd1 hk hk2 hn he
 ·rename_i hn;exact Zd4 hk hk2 hn he
def CLn (F:FuncId) (pre:List AV):Nat→AV
 | 0=>.any
 | n+1=>.clo F (pre++[.dptr [CLn F pre n]])
def recR (id:Nat) (s:LS):Option (Nat × TypeId × FuncId × List AV × Nat × Nat):=
 match bget s.bx id with
 | some (.box b T [.clo F caps])=>
  (match caps.reverse with
  | .ptr id' b' 0 :: pre=>some (b,T,F,pre.reverse,id',b')
  | _=>none)
 | _=>none
def recS (id t:Nat) (x:AV) (ts bs:List Nat) (s:LS):LS:=
 ⟨(t,.dptr [x]) :: ts.map (fun q=>(q,lget s.tm q)),bs.filterMap fun q=>(bif Nat.beq q id then none else bget s.bx q).map fun y=>(q,y)⟩
theorem Zh1 {l:List Nat} {g:Nat→Option Bx} {i:Nat} {y:Bx} (h:bget (l.filterMap fun q=>(g q).map fun y=>(q,y)) i=some y):g i=some y:=by
 induction l with
 | nil=>cases h
 | cons q r ih=>
  cases hg:g q with
  | none=>rw [List.filterMap_cons_none (by rw [hg];rfl)] at h;exact ih h
  | some z=>
   rw [List.filterMap_cons_some (by rw [hg];rfl)] at h;simp only [bget] at h;cases hb:Nat.beq q i with
   | true=>rw [hb] at h;obtain rfl:=W0q hb;rw [hg];exact h
   | false=>rw [hb] at h;exact ih h
theorem Qzj {s:LS}:∀ (l:List Nat) (i:Nat),lget (l.map fun q=>(q,lget s.tm q)) i=lget s.tm i∨lget (l.map fun q=>(q,lget s.tm q)) i=.any
 | [],i=>.inr rfl
 | q :: r,i=>by
  simp only [W1u,lget];cases hb:Nat.beq q i with
  | true=>left;obtain rfl:=W0q hb;rfl
  | false=>exact Qzj r i
theorem Zja {P:Program} {id t b:Nat} {T:TypeId} {F:FuncId} {pre:List AV} (N:Nat) (ts bs:List Nat) :
  ∀ (c:Cx) (Q:Exit→FS→Prop) (code:Code) (s:LS),((recR id s).map fun x=>(x,lget s.tm t))=some ((b,T,F,pre,id,b),.ptr id b 0)→(∀ a:Unit,AWp c P code Q (recS id t (CLn F pre N) ts bs s).fs)→AWp c P code Q s.fs:=by
 intro c Q code s h kk a w hr;cases hq:recR id s with
 | none=>rw [hq] at h;cases h
 | some x=>
 rw [hq] at h;simp only [Option.map_some,W0k,W0s] at h;obtain ⟨hx,ht⟩:=h;subst hx;unfold recR at hq
 split at hq
 ·rename_i b1 T1 F1 caps hb
  split at hq
  ·rename_i id1 b2 pre1 hc;simp only [W0k,W0s] at hq;obtain ⟨rfl,rfl,rfl,rfl,rfl,rfl⟩:=hq;have hcaps:caps=pre1.reverse++[.ptr id1 b2 0]:=by rw [← List.reverse_reverse caps,hc,List.reverse_cons]
   subst hcaps;obtain ⟨hcb,D,hR⟩:=hr;obtain ⟨ho,hB⟩:=hR.bx _ _ hb;obtain ⟨vs,htb,hsz,hone,hcell⟩:=hB;have hv0:∃ v,vs[0]?=some v∧Ra D w (.clo F1 (pre1.reverse++[.ptr id1 b2 0])) v:=by
    have h0:0<vs.size:=by rw [hsz];simp
    exact ⟨vs[0],W1r h0,hcell 0 _ _ rfl (W1r h0)⟩
   obtain ⟨C,hC,hRC⟩:=hv0;obtain ⟨us,hCe,h1,h2⟩:∃ us:Array Value,C=.func (.func F1) #[] us∧(pre1.reverse++[AV.ptr id1 b2 0]).length=us.size∧∀ (j:Nat) (x:AV) (v:Value),(pre1.reverse++[AV.ptr id1 b2 0])[j]?=some x→us[j]?=some v→Ra D w x v:=by
    cases hRC with
    | clo f caps us h1 h2=>exact ⟨us,rfl,h1,h2⟩
   have hbD:¬ D b2:=(ho b2 rfl).2;have hblt:b2<w.heap.size:=htb.lt
   let D':Nat→Prop:=fun k=>D k∨k=b2
   have fr:∀ {x:AV} {v:Value},Ra D w x v→Ra D' w x v:=fun h=>h.frame (fun _ h=>.inl h) (W0m _) (fun _ _ _=>rfl);have key:∀ n,Ra D' w (.dptr [CLn F1 pre1.reverse n]) (.pointer (some ⟨b2,0,none⟩)):=by
    intro n;have hcl:Ra D' w (CLn F1 pre1.reverse n) C:=by
     induction n with
     | zero=>exact .any _
     | succ n ih=>
      refine hCe ▸ .clo _ _ us (by rw [← h1];simp) (fun j x v hx hv=>?_);by_cases hj:j<pre1.reverse.length
      ·have hx':(pre1.reverse++[AV.ptr id1 b2 0])[j]?=some x:=by rw [W0o hj] at hx ⊢;exact hx
       exact fr (h2 j x v hx' hv)
      ·rw [W0n (by omega)] at hx;have hj2:j=pre1.reverse.length:=by have:=(W0i.1 hx).1;simp only [W0b,W0f] at this;omega
       subst hj2;simp only [Nat.sub_self,List.getElem?_cons_zero,W0k] at hx;subst hx;have hp:=h2 pre1.reverse.length (AV.ptr id1 b2 0) v (by rw [W0n (W0m _)];simp) hv;cases hp;refine .dptr _ b2 0 (fun _=>C) (.inr rfl) hblt (fun j x hx=>?_) (fun j x hx=>?_)
       ·match j,hx with
        | 0,hx=>exact ⟨by rw [htb.cell];exact hC,hone 0 C hC⟩
        | j+1,hx=>simp at hx
       ·match j,hx with
        | 0,hx=>
         obtain rfl:=W0c hx;exact ih
        | j+1,hx=>simp at hx
    refine .dptr _ b2 0 (fun _=>C) (.inr rfl) hblt (fun j x hx=>?_) (fun j x hx=>?_)
    ·match j,hx with
     | 0,hx=>exact ⟨by rw [htb.cell];exact hC,hone 0 C hC⟩
     | j+1,hx=>simp at hx
    ·match j,hx with
     | 0,hx=>obtain rfl:=W0c hx;exact hcl
     | j+1,hx=>simp at hx
   refine kk () a w ⟨hcb,D',?_⟩;have hbx':∀ i y,(recS id1 t (CLn F1 pre1.reverse N) ts bs s).fs.bx i=some y→i ≠ id1∧s.fs.bx i=some y:=fun i y h=>by
    have h2:=Zh1 (g:=fun q=>bif Nat.beq q id1 then none else bget s.bx q) (i:=i) (y:=y) h;cases hbq:Nat.beq i id1 with
    | true=>simp [hbq] at h2
    | false=>simp only [hbq,cond_false] at h2;exact ⟨Nat.ne_of_beq_eq_false hbq,h2⟩
   refine ⟨hR.defers,hR.size,hR.below,fun k hk=>?_,⟨fun k hk=>.inl (hR.old.1 k hk),fun k hk=>?_⟩,fun q v hv=>?_,fun i y hy=>?_,fun i j y z hy hz hij=>?_⟩
   ·rcases hk with hk | rfl
    ·exact hR.dlt k hk
    ·exact hblt
   ·rcases hk with hk | rfl
    ·exact hR.old.2 k hk
    ·exact .inr (ho k rfl).1
   ·have hv2:=hR.tm q v hv;show Ra D' w (lget ((t,AV.dptr [CLn F1 pre1.reverse N]) :: ts.map fun q=>(q,lget s.tm q)) q) v;simp only [lget];cases hbq:Nat.beq t q with
    | true=>
     obtain rfl:=W0q hbq;have hv3:Ra D w (lget s.tm t) v:=hv2;rw [ht] at hv3;cases hv3;exact key N
    | false=>
     rcases Qzj (s:=s) ts q with e | e
     ·simp only [e];exact fr hv2
     ·simp only [e];exact .any v
   ·obtain ⟨h3,h4⟩:=hbx' i y hy;obtain ⟨g1,g2⟩:=hR.bx i y h4;refine ⟨fun g hg=>⟨(g1 g hg).1,fun hd=>?_⟩,g2.frame (fun _ h=>.inl h) (W0m _) (fun _ _ _=>rfl) (fun _ _=>rfl)⟩;rcases hd with hd | rfl
    ·exact (g1 g hg).2 hd
    ·exact hR.apart i id1 y _ h4 hb h3 g hg rfl
   ·exact hR.apart i j y z (hbx' i y hy).2 (hbx' j z hz).2 hij
  ·cases hq
 ·cases hq
theorem Qkv {P:Program} {f:FuncId} {F:Func} {code:Code} {args:List AV} {q:Nat} {y y':Bx} {r:AV} (hf:P.funcs[f]?=some F) (ct:Ct P) (n:Nat:=400) (hb:F.body=some code:=by rfl)
  (hk:(decide (args.length≤F.ntmps)&&(P.follows .mixedOrders&&(F.results.toList.all fun rv=>decide ((match rv with | .tmp t=>t | .cell t _=>t)<F.ntmps))))=true:=by kernel_rfl)
  (h:vcC ct=vc P F (.valB r q y') n ct (.code code) [] ⟨Qdu args 0,[(q,y)]⟩:=by kernel_rfl):Qjt P f args y r y':=Zfu n ct hf hb hk h
theorem Zhm {l:List Nod} {i:Int} (hr:Qb1 l):∀ x∈outN l i,x.ino ≠ i∧x∈l:=by
 intro x hx;rw [Qhe hr] at hx;obtain ⟨h1,h2⟩:=W1m.1 hx;exact ⟨by simpa using h2,h1⟩
theorem Qy4 {l:List Nod} {i:Int} (hr:Qb1 l):Qb1 (outN l i):=by
 rw [Qhe hr];exact List.Pairwise.filter _ hr
theorem Qy3 {f:Fsy} {i:Int} (h:Qan f):Qan (outF f i):=by
 obtain ⟨h1,h2,h3,h4⟩:=Qbx.1 h;exact Qbx.2 ⟨W1a (Qw6 f.l i) h1,h2,fun n hn=>h3 n (Zhm h4 n hn).2,Qy4 h4⟩
theorem Zkh {f:Fsy} {i j:Int} (hr:Qb1 f.l):Qav (outF f i) j=(if j=i then false else Qav f j)∧Qaa (outF f i) j=(if j=i then nod0 else Qaa f j):=by
 have key:(outN f.l i).find? (isNo j)=if j=i then none else f.l.find? (isNo j):=by
  rw [Qhe hr,List.find?_filter];by_cases h:j=i
  ·rw [W1y h];refine W11.2 fun x _=>?_;subst h;simp [isNo]
  ·rw [W1x h];congr 1;funext x;by_cases hx:x.ino=j
   ·have:¬ x.ino=i:=by omega
    simp [isNo,hx,this,h]
   ·simp [isNo,hx]
 have hb:∀ f:Fsy,Qav f j=(f.l.find? (isNo j)).isSome:=fun f=>by
  unfold Qav
  induction f.l with
  | nil=>rfl
  | cons n r ih=>
   simp only [List.any_cons,W1f];cases h:isNo j n<;>simp [ih]
 constructor
 ·rw [hb,hb];show ((outN f.l i).find? (isNo j)).isSome=_;rw [key]
  split<;>rfl
 ·show ((outN f.l i).find? (isNo j)).getD nod0=_;rw [key]
  split<;>rfl
theorem out_ok {f:Fsy} {i:Int} (okf:OkF f) (hr:Qb1 f.l):OkF (outF f i):=⟨okf.1,W1a (Qw6 f.l i) okf.2.1,fun n hn=>okf.2.2 n (Zhm hr n hn).2⟩
theorem Qxd {l:List Nod} {n x:Nod} (h:x∈putN l n):x=n∨x∈l:=by
 unfold putN at h;rcases W05.1 h with h | h
 ·exact .inr (W14 h)
 ·rcases W0y.1 h with h | h
  ·exact .inl h
  ·exact .inr (W2e h)
theorem Qp5 {f:Fsy} {n:Nod} (okf:OkF f) (okn:OkN n) (hn:n.ino<9223372036854775807) (hl:f.l.length≤100000):OkF (putF f n):=by
 refine ⟨?_,?_,fun x hx=>?_⟩
 ·show I64 (if n.ino+1>f.next then n.ino+1 else f.next)
  split
  ·exact ⟨by have:=okn.1.1;omega,by omega⟩
  ·exact okf.1
 ·have:=Qnv f.l n;show (putN f.l n).length≤_;omega
 ·rcases Qxd hx with rfl | hx
  ·exact okn
  ·exact okf.2.2 x hx
theorem Qi3 {l:List Nod} {n:Nod} (hr:Qb1 l):Qb1 (putN l n):=by
 have hc:=hr.cut n.ino;have e:putN l n=l.take (plN l n.ino)++n :: (l.drop (plN l n.ino)).filter (fun x=>x.ino != n.ino):=by unfold putN;rw [Qhk hr]
 rw [e];refine List.pairwise_append.2 ⟨List.Pairwise.sublist (List.take_sublist _ _) hr,W1l.2 ⟨fun x hx=>?_,List.Pairwise.filter _ (List.Pairwise.sublist (List.drop_sublist _ _) hr)⟩,fun x hx y hy=>?_⟩
 ·obtain ⟨h1,h2⟩:=W1m.1 hx;have h3:=hc.2 x h1;have h4:¬ x.ino=n.ino:=by simpa using h2
  show n.ino<x.ino;omega
 ·have h1:=hc.1 x hx;rcases W0y.1 hy with rfl | hy
  ·exact h1
  ·have h3:=hc.2 y (W1m.1 hy).1;show x.ino<y.ino;omega
theorem Zjf {f:Fsy} {n:Nod} (h:Qan f) (hn:nodP n) (hl:f.l.length<256):Qan (putF f n):=by
 obtain ⟨h1,h2,h3,h4⟩:=Qbx.1 h;have hnx:f.next≤(putF f n).next∧n.ino+1≤(putF f n).next:=by
  show f.next≤(if n.ino+1>f.next then n.ino+1 else f.next)∧n.ino+1≤(if n.ino+1>f.next then n.ino+1 else f.next)
  split<;>omega
 refine Qbx.2 ⟨by have:=Qnv f.l n;show (putN f.l n).length≤256;omega,by omega,fun x hx=>?_,Qi3 h4⟩;rcases Qxd hx with rfl | hx
 ·exact ⟨hn,by omega⟩
 ·have:=h3 x hx;exact ⟨this.1,by omega⟩
theorem Qov {l:List Nod} {i:Int} {x:Nod} (hr:Qb1 l) (hx:x∈l) (hi:x.ino=i):l.find? (isNo i)=some x:=by
 cases h:l.find? (isNo i) with
 | none=>exact absurd (W11.1 h x hx) (by simp [isNo,hi])
 | some y=>
  have hy:=W1o h;have hp:(y.ino==i)=true:=List.find?_some (p:=isNo i) h;obtain ⟨j,hj⟩:=W0w hx;obtain ⟨k,hk⟩:=W0w hy;have h3:=W1d.1 hr;have l1:=Qap hj;have l2:=Qap hk;have e1:l[j]=x:=W0c ((W0d l1).symm.trans hj);have e2:l[k]=y:=W0c ((W0d l2).symm.trans hk);have hyi:y.ino=i:=by simpa using hp
  rcases Nat.lt_trichotomy j k with hlt | rfl | hlt
  ·have:=h3 j k l1 l2 hlt;rw [e1,e2] at this;omega
  ·rw [← e1,← e2]
  ·have:=h3 k j l2 l1 hlt;rw [e1,e2] at this;omega
theorem Qz0 (f:Fsy) (j:Int):Qav f j=(f.l.find? (isNo j)).isSome:=by
 unfold Qav
 induction f.l with
 | nil=>rfl
 | cons n r ih=>
  simp only [List.any_cons,W1f];cases h:isNo j n<;>simp [ih]
theorem Qsd {f:Fsy} {n:Nod} (hr:Qb1 f.l):Qav (putF f n) n.ino=true∧Qaa (putF f n) n.ino=n:=by
 have h:(putN f.l n).find? (isNo n.ino)=some n:=Qov (Qi3 hr) (by unfold putN;simp) rfl;refine ⟨?_,?_⟩
 ·rw [Qz0];show ((putN f.l n).find? (isNo n.ino)).isSome=true;rw [h];rfl
 ·show ((putN f.l n).find? (isNo n.ino)).getD nod0=n;rw [h];rfl
theorem Qpk {f:Fsy} {n:Nod} {j:Int} (hr:Qb1 f.l) (hj:¬ j=n.ino):Qav (putF f n) j=Qav f j∧Qaa (putF f n) j=Qaa f j:=by
 have key:(putN f.l n).find? (isNo j)=f.l.find? (isNo j):=by
  have e:putN f.l n=f.l.take (plN f.l n.ino)++n :: (f.l.drop (plN f.l n.ino)).filter (fun x=>x.ino != n.ino):=by unfold putN;rw [Qhk hr]
  have hn:isNo j n=false:=by simp [isNo];omega
  have e2:((f.l.drop (plN f.l n.ino)).filter (fun x=>x.ino != n.ino)).find? (isNo j)=(f.l.drop (plN f.l n.ino)).find? (isNo j):=by
   rw [List.find?_filter];congr 1;funext x;by_cases hx:x.ino=j
   ·have:¬ x.ino=n.ino:=by omega
    simp [isNo,hx,hj]
   ·simp [isNo,hx]
  rw [e,List.find?_append,W1f,hn,e2]
  conv=>rhs;rw [← W1h (plN f.l n.ino) f.l,List.find?_append]
 exact ⟨by rw [Qz0,Qz0];show ((putN f.l n).find? (isNo j)).isSome=_;rw [key],by show ((putN f.l n).find? (isNo j)).getD nod0=_;rw [key];rfl⟩
def Qa9 (f:Fsy) (i:Int):List Int:=if (Qaa f i).kind=2 then (Qaa f i).l.map Ent.ino else []
theorem Qry {f:Fsy} {i z:Int} (h:z∈Qa9 f i):z∈Qjw f:=by
 unfold Qa9 at h
 split at h
 ·obtain ⟨e,he,rfl⟩:=W1j.1 h;exact Qf4 he
 ·cases h
def dfsF (f:Fsy):Nat→Int→List Int→List Int
 | 0,_,U=>U
 | n+1,i,U=>(Qa9 f i).foldl (fun U z=>if hasB U z=true then U else dfsF f n z (U++[z])) U
def upK (f:Fsy) (n:Nat) (i:Int) (U:List Int) (k:Nat):List Int:=((Qa9 f i).take k).foldl (fun U z=>if hasB U z=true then U else dfsF f n z (U++[z])) U
theorem Zdb {f:Fsy} {n:Nat} {i z:Int} {U:List Int} {k:Nat} (hz:(Qa9 f i)[k]?=some z) (h:hasB (upK f n i U k) z=true):upK f n i U (k+1)=upK f n i U k:=by
 unfold upK at h ⊢;rw [Qam hz,W1p,List.foldl_cons,List.foldl_nil,W1y h]
theorem Zlv {f:Fsy} {n:Nat} {i z:Int} {U:List Int} {k:Nat} (hz:(Qa9 f i)[k]?=some z) (h:hasB (upK f n i U k) z=false):upK f n i U (k+1)=dfsF f n z (upK f n i U k++[z]):=by
 unfold upK at h ⊢;rw [Qam hz,W1p,List.foldl_cons,List.foldl_nil,W1x (by rw [h];decide)]
theorem Zmx {f:Fsy} {n:Nat} {i:Int} {U:List Int} {k:Nat} (hk:(Qa9 f i).length≤k):upK f n i U k=dfsF f (n+1) i U:=by unfold upK;rw [Qat hk];rfl
theorem Qlx {f:Fsy} {i:Int} {k:Nat} {x:Ent} (hk:(Qaa f i).kind=2) (h:(Qaa f i).l[k]?=some x):(Qa9 f i)[k]?=some x.ino:=by
 unfold Qa9;rw [W1y hk,W0v,h];rfl
theorem Zj1 {f:Fsy} {i:Int} (hk:(Qaa f i).kind=2):(Qa9 f i).length=(Qaa f i).l.length:=by
 unfold Qa9;rw [W1y hk,W0a]
theorem Zob {f:Fsy} {i:Int} (h:¬ (Qaa f i).kind=2):Qa9 f i=[]:=W1x h
theorem Zmm {f:Fsy} {n:Nat} {i:Int} {U:List Int} (h:¬ (Qaa f i).kind=2):dfsF f n i U=U:=by
 cases n with
 | zero=>rfl
 | succ n=>show (Qa9 f i).foldl _ U=U;rw [Zob h];rfl
theorem Qu2 {f:Fsy} {i:Int} (h:Qav f i=false):¬ (Qaa f i).kind=2:=by
 unfold Qav at h;unfold Qaa;rw [W11.2 fun x hx=>by simpa using W2d.1 h x hx];decide
def remF (f:Fsy) (U:List Int):Nat:=(Qjw f).countP fun z=>!hasB U z
theorem Qev {U:List Int} {x z:Int}:hasB (U++[x]) z=(hasB U z||x==z):=by unfold hasB;simp
theorem Qsp {α:Type} {p q:α→Bool}:∀ {l:List α},(∀ x∈l,p x=true→q x=true)→l.countP p≤l.countP q
 | [],_=>W0m _
 | x :: r,h=>by
  have ih:=Qsp (l:=r) fun y hy=>h y (by simp [hy]);rw [List.countP_cons,List.countP_cons];have:=h x (by simp);cases hp:p x<;>cases hq:q x<;>simp_all<;>omega
theorem Zac {α:Type} {p q:α→Bool}:∀ {l:List α} {z:α},(∀ x∈l,p x=true→q x=true)→z∈l→p z=false→q z=true→l.countP p<l.countP q
 | x :: r,z,h,hz,h1,h2=>by
  rw [List.countP_cons,List.countP_cons];have hx:=h x (by simp);rcases W0y.1 hz with e | hz
  ·rw [← e,h1,h2];have:=Qsp (l:=r) fun y hy=>h y (by simp [hy]);simp;omega
  ·have ih:=Zac (l:=r) (fun y hy=>h y (by simp [hy])) hz h1 h2;cases hp:p x<;>cases hq:q x<;>simp_all<;>omega
theorem Qyx {f:Fsy} {U V:List Int} (h:∀ z,hasB U z=true→hasB V z=true):remF f V≤remF f U:=by
 refine Qsp fun x _ hx=>?_;cases hu:hasB U x with
 | false=>rfl
 | true=>rw [h x hu] at hx;cases hx
theorem Qwu {f:Fsy} {U:List Int} {z:Int} (hz:z∈Qjw f) (h:hasB U z=false):remF f (U++[z])<remF f U:=by
 refine Zac (z:=z) (fun x _ hx=>?_) hz (by rw [Qev];simp) (by rw [h];rfl);rw [Qev] at hx;simp only [Bool.not_eq_true',Bool.or_eq_false_iff] at hx;rw [hx.1];rfl
theorem Qsg {f:Fsy}:∀ (n:Nat) (i:Int) (U:List Int) (z:Int),hasB U z=true→hasB (dfsF f n i U) z=true
 | 0,_,_,_,h=>h
 | n+1,i,U,z,h=>by
  show hasB ((Qa9 f i).foldl _ U) z=true;generalize Qa9 f i=l
  induction l generalizing U with
  | nil=>exact h
  | cons x r ih=>
   rw [List.foldl_cons];refine ih _ ?_
   split
   ·exact h
   ·exact Qsg n x _ z (by rw [Qev,h];rfl)
theorem Znm {f:Fsy} {n:Nat} {i:Int} {U:List Int}:remF f (dfsF f n i U)≤remF f U:=Qyx fun z h=>Qsg n i U z h
inductive Reach (f:Fsy):Int→Int→Prop where
 | one {i z:Int}:z∈Qa9 f i→Reach f i z
 | more {i y z:Int}:y∈Qa9 f i→Reach f y z→Reach f i z
theorem Reach.trans {f:Fsy} {a b c:Int} (h:Reach f a b) (h2:Reach f b c):Reach f a c:=by
 induction h with
 | one h=>exact .more h h2
 | more h _ ih=>exact .more h (ih h2)
theorem Reach.snoc {f:Fsy} {a b c:Int} (h:Reach f a b) (h2:c∈Qa9 f b):Reach f a c:=h.trans (.one h2)
def Zif (f:Fsy) (U V:List Int):Prop:=∀ z,hasB V z=true→hasB U z=false→∀ y∈Qa9 f z,hasB V y=true
theorem Qqn {f:Fsy}:∀ (n:Nat) (i:Int) (U:List Int),remF f U<n →
  (∀ y∈Qa9 f i,hasB (dfsF f n i U) y=true)∧Zif f U (dfsF f n i U)∧∀ z,hasB (dfsF f n i U) z=true→hasB U z=true∨Reach f i z
 | 0,_,_,h=>absurd h (Nat.not_lt_zero _)
 | n+1,i,U,h=>by
  have key:∀ (l:List Int),(∀ y∈l,y∈Qa9 f i)→∀ (V:List Int),(∀ z,hasB U z=true→hasB V z=true)→Zif f U V→(∀ z,hasB V z=true→hasB U z=true∨Reach f i z) →
    let W:=l.foldl (fun U z=>if hasB U z=true then U else dfsF f n z (U++[z])) V
    (∀ z,hasB V z=true→hasB W z=true)∧(∀ y∈l,hasB W y=true)∧Zif f U W∧∀ z,hasB W z=true→hasB U z=true∨Reach f i z:=by
   intro l
   induction l with
   | nil=>exact fun _ V _ h2 h3=>⟨fun _ h=>h,fun y hy=>by (cases hy),h2,h3⟩
   | cons x r ih=>
    intro hl V h1 h2 h3;simp only [List.foldl_cons];by_cases hx:hasB V x=true
    ·simp only [hx,if_true];obtain ⟨g0,g1,g2,g3⟩:=ih (fun y hy=>hl y (by simp [hy])) V h1 h2 h3;refine ⟨g0,fun y hy=>?_,g2,g3⟩;rcases W0y.1 hy with e | hy
     ·rw [e];exact g0 x hx
     ·exact g1 y hy
    ·rw [W1x hx];have hx':hasB V x=false:=by simpa using hx
     have hr1:remF f V≤remF f U:=Qyx (f:=f) h1;have hr2:=Qwu (f:=f) (Qry (hl x (by simp))) hx';obtain ⟨d1,d2,d3⟩:=Qqn (f:=f) n x (V++[x]) (by omega);have hm:=Qsg (f:=f) n x (V++[x]);have hxx:hasB (dfsF f n x (V++[x])) x=true:=hm x (by rw [Qev];simp);obtain ⟨g0,g1,g2,g3⟩:=ih (fun y hy=>hl y (by simp [hy])) (dfsF f n x (V++[x])) (fun z hz=>hm z (by rw [Qev,h1 z hz];rfl)) (fun z hz hu y hy=>by
      by_cases hv:hasB V z=true
      ·exact hm y (by rw [Qev,h2 z hv hu y hy];rfl)
      ·by_cases hzx:z=x
       ·rw [hzx] at hy;exact d1 y hy
       ·refine d2 z hz ?_ y hy;rw [Qev];have e1:hasB V z=false:=by simpa using hv
        have e2:(x==z)=false:=by simpa using fun e=>hzx (by rw [← e])
        rw [e1,e2];rfl) (fun z hz=>by
      rcases d3 z hz with hd | hd
      ·rw [Qev] at hd;by_cases hv:hasB V z=true
       ·exact h3 z hv
       ·have e:x=z:=by simpa [hv] using hd
        rw [← e];exact .inr (.one (hl x (by simp)))
      ·exact .inr (.more (hl x (by simp)) hd))
     refine ⟨fun z hz=>g0 z (hm z (by rw [Qev,hz];rfl)),fun y hy=>?_,g2,g3⟩;rcases W0y.1 hy with e | hy
     ·rw [e];exact g0 x hxx
     ·exact g1 y hy
  obtain ⟨_,g1,g2,g3⟩:=key (Qa9 f i) (fun _ h=>h) U (fun _ h=>h) (fun z h1 h2=>by rw [h1] at h2;cases h2) (fun z h=>.inl h);exact ⟨g1,g2,g3⟩
def Qek (f:Fsy) (i:Int):List Int:=dfsF f ((Qjw f).length+1) i []
theorem Zeg (f:Fsy):remF f []<(Qjw f).length+1:=Nat.lt_succ_of_le List.countP_le_length
theorem Qh6 {f:Fsy} {i z:Int}:hasB (Qek f i) z=true↔Reach f i z:=by
 obtain ⟨h1,h2,h3⟩:=Qqn _ i [] (Zeg f);refine ⟨fun h=>(h3 z h).resolve_left (by simp [hasB]),fun h=>?_⟩;have main:∀ a b,Reach f a b→(∀ y∈Qa9 f a,hasB (Qek f i) y=true)→hasB (Qek f i) b=true:=by
  intro a b hab
  induction hab with
  | one h=>exact fun hk=>hk _ h
  | more h _ ih=>exact fun hk=>ih fun y hy=>h2 _ (hk _ h) rfl y hy
 exact main i z h h1
def setM (U:List Int):List (MK × AV):=U.map fun z=>(MK.i z,.agg [])
theorem Qnm (U:List Int):∀ p∈setM U,∃ z,p.1=.i z:=fun p hp=>by
 obtain ⟨z,_,rfl⟩:=W1j.1 hp;exact ⟨z,rfl⟩
theorem Qlo:∀ (U:List Int) (z:Int) (i:Nat),(Qd7 (.i z) (setM U) i).isSome=hasB U z∧∀ j x,Qd7 (.i z) (setM U) i=some (j,x)→x=.agg []
 | [],z,i=>⟨rfl,fun j x h=>by cases h⟩
 | y :: r,z,i=>by
  obtain ⟨h1,h2⟩:=Qlo r z (i+1);show (Qd7 (.i z) ((MK.i y,AV.agg []) :: setM r) i).isSome=_∧∀ j x,Qd7 (.i z) ((MK.i y,AV.agg []) :: setM r) i=some (j,x)→_;unfold Qd7;by_cases hy:y=z
  ·subst hy;simp only [if_true];exact ⟨by simp [hasB],fun j x h=>by cases h;rfl⟩
  ·rw [W1x (fun e=>hy (by injection e))];refine ⟨?_,h2⟩;rw [h1];unfold hasB;have e:(y==z)=false:=by simpa using hy
   rw [List.any_cons,e,W0u]
theorem Zim:Sub (.val (.agg #[])) (.agg []):=fun D w v h=>by
 cases h;exact .agg [] #[] rfl (fun j v h=>by simp at h) (fun j x v h=>by simp at h)
theorem Qtn (U:List Int) (z:Int):lkS true (Qd7 (.i z) (setM U) 0) (.agg #[]) (.tup [.agg [],aB (hasB U z)]):=by
 obtain ⟨h1,h2⟩:=Qlo U z 0;unfold lkS Qug;rw [W1y rfl,h1];refine W2s ⟨?_,sR,trivial⟩;cases hm:Qd7 (.i z) (setM U) 0 with
 | none=>exact Zim
 | some p=>
  obtain ⟨j,x⟩:=p;rw [h2 j x hm];exact sR
theorem Ziz {U:List Int} {z:Int} (h:hasB U z=false):mput (setM U) (.i z) (.agg [])=setM (U++[z]):=by
 obtain ⟨h1,h2⟩:=Qlo U z 0;unfold mput;cases hm:Qd7 (.i z) (setM U) 0 with
 | none=>simp [setM]
 | some p=>rw [hm,h] at h1;cases h1
theorem Zfv (f:Fsy) (r:Nat) (okf:OkF f) (hl:f.l.length≤100000) (hr:Qb1 f.l) (m:Nat) (ih:∀ (i:Int) (U:List Int),remF f U<m→Qjt prog 129 [aI i,.dptr (fsyA f),.dptr [.mref 7 r],.dptr [CLn 129 [.dptr (fsyA f),.dptr [.mref 7 r]] m]] (.mp r (setM U)) (.tup []) (.mp r (setM (dfsF f m i U)))) (i:Int) (U:List Int) (h:remF f U<m+1):Qjt prog 129 [aI i,.dptr (fsyA f),.dptr [.mref 7 r],.dptr [.clo 129 [.dptr (fsyA f),.dptr [.mref 7 r],.dptr [CLn 129 [.dptr (fsyA f),.dptr [.mref 7 r]] m]]]] (.mp r (setM U)) (.tup []) (.mp r (setM (dfsF f (m+1) i U))):=by
 have hfb:=(Qed okf i).2.2.2.2.1;exact Qkv (q:=7) func129 (
 .r 2<|.call (Qcp f i (by omega) hr)<|
 .r 3<|.new fun b1=>.u 2 [b1]<|
 .r 3<|.br 19 (!(Qav f i)) (fun q1=>have q1:=notT q1;have p1:=booF q1;.r 4<|.st (mpR 7) (r,setM U) (fun (_:Unit) σ=>σ.setB 7 (.mp r (setM (dfsF f (m+1) i U)))) (Qwf (by rw [Zmm (Qu2 q1)])) fun _=>
 .finB (x:=.tup []) (r:=.tup []) [] trivial (.mp r (setM (dfsF f (m+1) i U))) (by exact sR))
 <| fun q1=>have q1:=notF q1;have p1:=booT q1;.u 4 [b1]<|
 .br 23 (((Qaa f i).kind) != 2) (fun q2=>have p2:=bneT q2;.st (mpR 7) (r,setM U) (fun (_:Unit) σ=>σ.setB 7 (.mp r (setM (dfsF f (m+1) i U)))) (Qwf (by rw [Zmm (by assumption)])) fun _=>
 .finB (x:=.tup []) (r:=.tup []) [] trivial (.mp r (setM (dfsF f (m+1) i U))) (by exact sR))
 <| fun q2=>have p2:=bneF q2;have hk:(Qaa f i).kind=2:=(by simpa using q2);.u 3 [b1]<|
 .lm 26 ((Qaa f i).l) entA<|.r 1<|let L1:Lp (Nat):=⟨fun a1=>⟨[(2,.dptr [.mref 7 r]),(3,.dptr [.clo 129 [.dptr (fsyA f),.dptr [.mref 7 r],.dptr [CLn 129 [.dptr (fsyA f),.dptr [.mref 7 r]] m]]]),(25,.sl 2 false ((Qaa f i).l.map entA)),(26,aI (((Qaa f i).l).length:Int)),(27,aI (a1:Int))],[(7,.mp r (setM (upK f m i U a1)))]⟩,fun a1=>(Qaa f i).l.length-a1,fun a1=>a1≤(Qaa f i).l.length∧remF f (upK f m i U a1)<m+1⟩
 .lp L1 0 ⟨W0j _,h⟩ [(27,aI 0)] [(7,.mp r (setM U))] ⟨sR,sR,sR,sR,sO,trivial⟩ ⟨⟨_,rfl,W2q rfl⟩,trivial⟩ fun a1 ha1=>
 (fun (k:Nat) (hH1:k≤(Qaa f i).l.length∧remF f (upK f m i U k)<m+1)=>.r 1<|.bd 28 ((k:Int)<(((Qaa f i).l).length:Int)) (fun p3=>.idxM ((Qaa f i).l) entA k (m:=(k:Int)) rfl (by omega) fun x1 hx1=>
 .r 1<|.new fun b2=>.u 1 [b2]<|
 .u 3 [b2]<|
 .op (lkRB prog) ((3,some (.agg #[])),(7,r,r,setM (upK f m i U k)),.i x1.ino,true,some 35) (fun (_:Unit) σ=>σ.put (some 35) (.tup [.agg [],aB (hasB (upK f m i U k) x1.ino)])) (Zbc (Qd7 (.i x1.ino) (setM (upK f m i U k)) 0) (Zf7 (by kernel_rfl) _ (Qnm (upK f m i U k))) (by kernel_rfl) rfl (Qtn (upK f m i U k) x1.ino)) fun _=>
 .r 3<|.new fun b3=>.u 2 [b3]<|
 .r 1<|.br 38 (hasB (upK f m i U k) x1.ino) (fun q4=>have p4:=booT q4;.run 2 [rng .i64 ((k:Int)+1)] ⟨Qah,trivial⟩<|
 .bk L1 k (k+1) ⟨by omega,by rw [Zdb (Qlx hk hx1) q4];exact hH1.2⟩ (show (Qaa f i).l.length-(k+1)<(Qaa f i).l.length-k from (by omega)) [(27,aI ((k:Int)+1))] [(7,.mp r (setM (upK f m i U k)))] ⟨sR,sR,sR,sR,sO,trivial⟩ ⟨⟨_,rfl,W2q (by rw [Zdb (Qlx hk hx1) q4])⟩,trivial⟩)
 <| fun q4=>have p4:=booF q4;.u 4 [b2]<|
 .op (insR prog) (3,(7,r,r,setM (upK f m i U k)),.i x1.ino,AV.agg []) (fun (_:Unit) σ=>σ.setB 7 (.mp r (setM ((upK f m i U k)++[x1.ino])))) (Zd2 (Zf7 (by kernel_rfl) _ (Qnm (upK f m i U k))) (by kernel_rfl) (Ziz q4)) fun _=>
 .lent 3<|.u 3 [b2]<|
 .lop (lcR prog 7) ((129,[aI x1.ino,.dptr (fsyA f),.dptr [.mref 7 r],.dptr [CLn 129 [.dptr (fsyA f),.dptr [.mref 7 r]] m]],some 46),.mp r (setM ((upK f m i U k)++[x1.ino]))) (fun (_:Unit) σ=>(σ.put (some 46) (.tup [])).setB 7 (.mp r (setM (dfsF f m x1.ino ((upK f m i U k)++[x1.ino]))))) (Qdw (args':=[aI x1.ino,.dptr (fsyA f),.dptr [.mref 7 r],.dptr [CLn 129 [.dptr (fsyA f),.dptr [.mref 7 r]] m]]) sr4 (ih x1.ino ((upK f m i U k)++[x1.ino]) (by have:=Qwu (f:=f) (Qry (W0h (Qlx hk hx1))) q4;omega))) fun _=>
 .run 2 [rng .i64 ((k:Int)+1)] ⟨Qah,trivial⟩<|
 .bk L1 k (k+1) ⟨by omega,by rw [Zlv (Qlx hk hx1) q4];have:=Znm (f:=f) (n:=m) (i:=x1.ino) (U:=upK f m i U k++[x1.ino]);have:=Qwu (f:=f) (Qry (W0h (Qlx hk hx1))) q4;omega⟩ (show (Qaa f i).l.length-(k+1)<(Qaa f i).l.length-k from (by omega)) [(27,aI ((k:Int)+1))] [(7,.mp r (setM (dfsF f m x1.ino ((upK f m i U k)++[x1.ino]))))] ⟨sR,sR,sR,sR,sO,trivial⟩ ⟨⟨_,rfl,W2q (by rw [Zlv (Qlx hk hx1) q4])⟩,trivial⟩)
 <| fun p3=>.st (mpR 7) (r,setM (upK f m i U k)) (fun (_:Unit) σ=>σ.setB 7 (.mp r (setM (dfsF f (m+1) i U)))) (Qwf (by rw [Zmx (by rw [Zj1 hk];omega)])) fun _=>
 .finB (x:=.tup []) (r:=.tup []) [] trivial (.mp r (setM (dfsF f (m+1) i U))) (by exact sR)) a1 ha1)
theorem Qzh (f:Fsy) (r:Nat) (okf:OkF f) (hl:f.l.length≤100000) (hr:Qb1 f.l):∀ (m:Nat) (i:Int) (U:List Int),remF f U<m→Qjt prog 129 [aI i,.dptr (fsyA f),.dptr [.mref 7 r],.dptr [CLn 129 [.dptr (fsyA f),.dptr [.mref 7 r]] m]] (.mp r (setM U)) (.tup []) (.mp r (setM (dfsF f m i U)))
 | 0,_,_,h=>absurd h (Nat.not_lt_zero _)
 | m+1,i,U,h=>Zfv f r okf hl hr m (Qzh f r okf hl hr m) i U h
theorem Zbp (f:Fsy) (i:Int) (okf:OkF f) (hl:f.l.length≤100000) (hr:Qb1 f.l):Qai prog 82 [.agg (fsyA f),aI i] (.mp (setM (Qek f i))):=by
 exact Qae func82 (let R:AV:=.mp (setM (Qek f i));
 .new fun b1=>.r 1<|.mkMap fun r2=>.new fun b3=>.u 1 [b3]<|
 .new fun b4=>.u 2 [b4]<|
 .frz 2 [1,4,5,6] [7,5,6] [b1=b1] rt1<|
 .frz 5 [1,4,5,6] [7,6] [b3=b3,b3=b3] rt2<|
 .st (fun s=>(recR 6 s).map fun x=>(x,lget s.tm 6)) ((b4,178,129,[.dptr (fsyA f),.dptr [.mref 7 r2]],6,b4),.ptr 6 b4 0) (fun (_:Unit) σ=>recS 6 6 (CLn 129 [.dptr (fsyA f),.dptr [.mref 7 r2]] (((Qjw f).length+1)+1)) [1,4,5] [7] σ) (Zja (((Qjw f).length+1)+1) [1,4,5] [7]) fun _=>
 .lent 2<|.r 2<|.lop (lcR prog 7) ((129,[aI i,.dptr (fsyA f),.dptr [.mref 7 r2],.dptr [CLn 129 [.dptr (fsyA f),.dptr [.mref 7 r2]] ((Qjw f).length+1)]],some 11),.mp r2 []) (fun (_:Unit) σ=>(σ.put (some 11) (.tup [])).setB 7 (.mp r2 (setM (Qek f i)))) (Qdw (args':=[aI i,.dptr (fsyA f),.dptr [.mref 7 r2],.dptr [CLn 129 [.dptr (fsyA f),.dptr [.mref 7 r2]] ((Qjw f).length+1)]]) sr4 (Qzh f r2 okf hl hr ((Qjw f).length+1) i [] (Zeg f))) fun _=>
 .r 2<|.frz 7 [4] [] [r2=r2] rt1<|
 .fi R [])
theorem Zcw (f:Fsy) (i j:Int) (okf:OkF f) (hl:f.l.length≤100000) (hr:Qb1 f.l):Qai prog 222 [.agg (fsyA f),aI i,aI j] (aB (hasB (Qek f j) i)):=by
 exact Qae func222 (let R:AV:=aB (hasB (Qek f j) i);
 .new fun b1=>.r 1<|.u 2 [b1]<|
 .call (Zbp f j okf hl hr)<|
 .r 1<|.op (lkRO prog) ((3,some (.agg #[])),setM (Qek f j),.i i,true,some 14) (fun (_:Unit) σ=>σ.put (some 14) (.tup [.agg [],aB (hasB (Qek f j) i)])) (Zbb (Qd7 (.i i) (setM (Qek f j)) 0) (Zf7 (by kernel_rfl) _ (Qnm (Qek f j))) (by kernel_rfl) rfl (Qtn (Qek f j) i)) fun _=>
 .r 3<|.new fun b2=>.u 2 [b2]<|
 .r 2<|.fi R [])
def cntI:List (Int × Nat)→Int→List (Int × Nat)
 | [],z=>[(z,1)]
 | p :: r,z=>if p.1=z then (p.1,p.2+1) :: r else p :: cntI r z
def cntG:List (Int × Nat)→Int→Nat
 | [],_=>0
 | p :: r,z=>if p.1=z then p.2 else cntG r z
def cntM (L:List (Int × Nat)):List (MK × AV):=L.map fun p=>(MK.i p.1,aI (p.2:Int))
theorem Zmp:∀ (L:List (Int × Nat)) (y z:Int),cntG (cntI L y) z=cntG L z+if y=z then 1 else 0
 | [],y,z=>by
  unfold cntI cntG
  split<;>simp_all [cntG]
 | p :: r,y,z=>by
  have ih:=Zmp r y z;unfold cntI
  split
  ·rename_i h;subst h;simp only [cntG]
   split<;>simp_all
  ·rename_i h;simp only [cntG]
   split
   ·rename_i h2;have:¬ y=z:=fun e=>h (h2.trans e.symm);simp [this]
   ·exact ih
def Zcq (L:List (Int × Nat)) (l:List Ent):List (Int × Nat):=l.foldl (fun L e=>cntI L e.ino) L
def Zhq (L:List (Int × Nat)) (l:List Nod):List (Int × Nat):=l.foldl (fun L n=>if n.kind=2 then Zcq L n.l else L) L
def Qhx (f:Fsy):List (Int × Nat):=Zhq [] f.l
def nodeT (f:Fsy) (_:Nat) (n:Nod):Prop:=1≤n.links∧n.links=(cntG (Qhx f) n.ino:Int)∧(n.kind=2→n.links=1∧hasB (Qek f 1) n.ino=true)
def keyT (f:Fsy) (z:Int):Prop:=Qav f z=true∧¬ z=1
def rightT (f:Fsy):Prop:=Qan f∧(∃ n,f.l[0]?=some n∧n.ino=1∧n.kind=2∧n.links=0)∧(∀ p∈Qhx f,keyT f p.1)∧AllQ (nodeT f) (f.l.drop 1)
def Qyg (f:Fsy) (sn:List Nat):Prop:=sn.Nodup∧(∀ j∈sn,j<(Qhx f).length)∧∀ j∈sn,∀ p,(Qhx f)[j]?=some p→keyT f p.1
theorem Qyg.nil (f:Fsy):Qyg f []:=⟨List.nodup_nil,fun j h=>(by cases h),fun j h=>(by cases h)⟩
theorem Qyg.more {f:Fsy} {sn:List Nat} {j:Nat} {y:Int × Nat} (h:Qyg f sn) (hl:j<(Qhx f).length) (hn:j ∉ sn) (hy:(Qhx f)[j]?=some y) (hk:keyT f y.1):Qyg f (j :: sn):=by
 refine ⟨List.nodup_cons.2 ⟨hn,h.1⟩,fun k hk'=>?_,fun k hk' p hp=>?_⟩
 ·rcases W0y.1 hk' with rfl | hk'
  ·exact hl
  ·exact h.2.1 k hk'
 ·rcases W0y.1 hk' with rfl | hk'
  ·rw [hy] at hp;obtain rfl:=W0c hp;exact hk
  ·exact h.2.2 k hk' p hp
theorem Qyg.all {f:Fsy} {sn:List Nat} (h:Qyg f sn) (ha:∀ j,j<(cntM (Qhx f)).length→j∈sn):∀ p∈Qhx f,keyT f p.1:=fun p hp=>by
 obtain ⟨j,hj⟩:=W0w hp;exact h.2.2 j (ha j (by have:=Qap hj;simpa [cntM] using this)) p hj
theorem Qkz (U:List Int) (i:Int) (hl:U.length≤100000):Qai prog 87 [.sl 1 false (U.map intA),aI i] (aB (hasB U i)):=by
 exact Qae func87 (
 .r 1<|.r 1<|let L1:Lp (Nat):=⟨fun a1=>⟨[(0,.sl 1 false (U.map intA)),(1,aI i),(5,aI (a1:Int))],[]⟩,fun a1=>U.length-a1,fun a1=>Qba (fun _ z=>(z==i)=false) U a1⟩
 .lp L1 0 (show Qba (fun _ z=>(z==i)=false) U 0 from Qba.zero _ _) [(5,aI 0)] [] ⟨sR,sR,sO,trivial⟩ trivial fun a1 ha1=>
 (fun (k:Nat) (hH1:Qba (fun _ z=>(z==i)=false) U k)=>.r 3<|.lm 8 U intA<|.r 1<|.br 9 (decide ((k:Int)<(U.length:Int))) (fun q1=>have p1:=decT q1;.r 2<|.idxM U intA k (m:=(k:Int)) rfl (by omega) fun x1 hx1=>
 .r 3<|.br 17 (x1==i) (fun q2=>have p2:=beqT q2;.r 1<|.f (aB (hasB U i)) [] (aB true) (by exact W2p (W1z aB (Zoe hx1 (by assumption)).symm)))
 <| fun q2=>have p2:=beqF q2;.run 3 [rng .i64 ((k:Int)+1)] ⟨Qah,trivial⟩<|
 .bk L1 k (k+1) (show Qba (fun _ z=>(z==i)=false) U (k+1) from (hH1.step hx1 (by assumption))) (show U.length-(k+1)<U.length-k from (by omega)) [(5,aI ((k:Int)+1))] [] ⟨sR,sR,sO,trivial⟩ trivial)
 <| fun q1=>have p1:=decF q1;.r 1<|.f (aB (hasB U i)) [] (aB false) (by exact W2p (W1z aB (has_no (hH1.full (by omega))).symm))) a1 ha1)
end Go.Proofs.YtahlldgocpabjaaGreat

namespace Go.Proofs.YtahlldgocpabjaaGreat
open Go.RowKit Copyhold Copyhold.Name
def geAt (l:List Name.Ent) (s:List UInt8) (i:Nat):Bool:=!decide ((l.getD i ([],0)).1<s)
theorem Zoi {l:List Name.Ent} {s:List UInt8} (h:Srt l) (i:Nat) (hi:i<l.length):geAt l s i=decide (pos l s≤i):=by
 induction l generalizing i with
 | nil=>simp at hi
 | cons a l ih=>
  by_cases ha:a.1<s
  ·rw [pos_lt ha];cases i with
   | zero=>simp [geAt,ha]
   | succ i=>
    have:=ih h.tail i (by simpa using hi);unfold geAt at this ⊢;rw [List.getD_cons_succ,this];simp
  ·rw [pos_ge h ha];cases i with
   | zero=>simp [geAt,ha]
   | succ i=>
    have hx:¬ ((a :: l).getD (i+1) ([],0)).1<s:=by
     rw [List.getD_cons_succ,gete l i (by simpa using hi)];exact fun hxs=>ha (ltT (h.head _ (W1n _)) hxs)
    unfold geAt;rw [decide_eq_false hx];simp
theorem Zby (l:List Name.Ent) (s:List UInt8) (A:Option Addr) (c i ba bs:Nat) (w:World) (hl:Ents w (.slice A l.length c) l) (hi:i<l.length) (hn:l.length≤1000000)
  (ha:w.cell? ⟨ba,0,none⟩=some (.slice A l.length c)) (hs:w.cell? ⟨bs,0,none⟩=some (.string ⟨s.toArray⟩)) :
  Calls Tryz.prog 205 #[.int .i64 (i:Int),.pointer (some ⟨ba,0,none⟩),.pointer (some ⟨bs,0,none⟩)] w fun e w'=>e=.returned (.bool (geAt l s i))∧∃ n,w'=w.drewN n:=by
 obtain ⟨b,off,rfl,hb,hc,hc1,hc2⟩:=hl.at i hi;have hg:l[i]=l.getD i ([],0):=(gete l i hi).symm;rw [hg] at hc1 hc2;unfold geAt;generalize l.getD i ([],0)=x at *;clear hg hl;have hi1:(i:Int)<(l.length:Int):=by omega
 have hi0:(0:Int)≤(i:Int):=by omega
 go_enter Tryz.func205,Tryz.ntmps205
 go_wp2_with fail
 go_quiet (fail)
 go_wp2_with fail
 go_ret
 exact ⟨by rw [← Qoc];rfl,_,rfl⟩
theorem Qv9 (l:List Name.Ent) (s:List UInt8) (A:Option Addr) (c ba bs:Nat) (w:World) (hl:Ents w (.slice A l.length c) l) (hn:l.length≤1000000) (hsrt:Srt l)
  (ha:w.cell? ⟨ba,0,none⟩=some (.slice A l.length c)) (hs:w.cell? ⟨bs,0,none⟩=some (.string ⟨s.toArray⟩)) :
  Calls Tryz.prog 204 #[.int .i64 (l.length:Int),.func (.func 205) #[] #[.pointer (some ⟨ba,0,none⟩),.pointer (some ⟨bs,0,none⟩)]] w fun e w'=>e=.returned (.int .i64 (pos l s:Int))∧∃ n,w'=w.drewN n:=by
 have hp:=pos_le l s;have HG:=Lib.hid (Zoi (s:=s) hsrt);have HT:=Lib.hid (fun (i m:Nat) (hi:i<l.length)=>Zby l s A c i ba bs (w.drewN m) hl hi hn ha hs);clear hl hsrt ha hs
 go_enter Tryz.func204,Tryz.ntmps204
 go_wp2_with fail
 go_loopw [5,6] (fun si sj wr=>∃ i j n:Nat,si=.int .i64 i∧sj=.int .i64 j∧i≤pos l s∧pos l s≤j∧j≤l.length∧wr=w.drewN n) (fun si sj _=>(intOf sj).toNat-(intOf si).toNat)
 case atStart=>exact ⟨0,l.length,0,rfl,rfl,W0j _,hp,W0m _,rfl⟩
 case round=>
  obtain ⟨i,j,n,rfl,rfl,hi,hj,hjl,rfl⟩:=hrel;by_cases hlt:i<j
  ·have hmid:((i:Int)+j) / 2=(((i+j) / 2:Nat):Int):=by omega
   obtain ⟨m,hm⟩:∃ m,m=(i+j) / 2:=⟨_,rfl⟩
   have hm1:i≤m:=by omega
   have hm2:m<j:=by omega
   rw [← hm] at hmid;have hC:=HT.out m n (by omega);rw [HG.out m (by omega)] at hC;have HC:=Lib.hid hC;clear hC hm;by_cases hge:pos l s≤m
   ·have hd:decide (pos l s≤m)=true:=by simpa using hge
    rw [hd] at HC;clear hd
    go_wp2_with fail
    refine HC.out.mono ?_;rintro e w1 ⟨rfl,n1,rfl⟩
    go_wp2_with fail
    go_roundw
    case rel=>exact ⟨i,m,_,rfl,rfl,hi,hge,by omega,rfl⟩
    case measure=>simp [intOf];omega
   ·have hd:decide (pos l s≤m)=false:=by simpa using hge
    rw [hd] at HC;clear hd
    go_wp2_with fail
    refine HC.out.mono ?_;rintro e w1 ⟨rfl,n1,rfl⟩
    go_wp2_with fail
    go_roundw
    case rel=>exact ⟨m+1,j,_,by go_num,rfl,by omega,hj,hjl,rfl⟩
    case measure=>simp [intOf];omega
  ·obtain rfl:i=pos l s:=by omega
   go_wp2_with fail
   go_ret
   exact ⟨rfl,_,rfl⟩
theorem Qqd (l:List Name.Ent) (s:List UInt8) (A:Option Addr) (c:Nat) (w:World) (hl:Ents w (.slice A l.length c) l) (hn:l.length≤1000000) (hsrt:Srt l) :
  Calls Tryz.prog 156 #[.slice A l.length c,.string ⟨s.toArray⟩] w fun e w'=>e=.returned (.tuple #[.int .i64 (pos l s:Int),.bool (isAt l s)])∧Below w.heap.size w w':=by
 obtain ⟨W,hW⟩:∃ W,W=(w.alloc (.cells #[.slice A l.length c] 82)).alloc (.cells #[.string ⟨s.toArray⟩] 9):=⟨_,rfl⟩
 have hb:Below w.heap.size w W:=by rw [hW];exact ((Below.refl _ _).alloc (W0m _) _).alloc (by simp) _
 have c0:W.cell? ⟨w.heap.size,0,none⟩=some (.slice A l.length c):=by rw [hW];simp [go_sem]
 have c1:W.cell? ⟨w.heap.size+1,0,none⟩=some (.string ⟨s.toArray⟩):=by rw [hW];simp [go_sem]
 have HC:=Lib.hid (Qv9 l s A c w.heap.size (w.heap.size+1) W (hl.below hb) hn hsrt c0 c1);have hat:=at_pos hsrt s;have hp:=pos_le l s;have HW:=Lib.hid hW;have HB:=Lib.hid hb;by_cases hlt:pos l s<l.length
 ·obtain ⟨b,off,rfl,hbk,hc,hc1,hc2⟩:=(hl.below hb).at (pos l s) hlt;rw [W0d hlt,Option.any_some] at hat;have HAT:=Lib.hid hat;have hi1:(pos l s:Int)<(l.length:Int):=by omega
  have hi0:(0:Int)≤(pos l s:Int):=by omega
  clear hl hsrt hat hW hb;generalize l[pos l s]=x at *;generalize isAt l s=q at *;generalize pos l s=k at *
  go_enter Tryz.func156,Tryz.ntmps156
  go_wp2_with fail
  rw [← HW.out];refine HC.out.mono ?_;rintro e w1 ⟨rfl,n1,rfl⟩
  go_wp2_with fail
  go_quiet (fail)
  go_wp2_with fail
  go_ret2
  exact ⟨by rw [← HAT.out];rfl,Qji (Qji HB.out _) _⟩
 ·rw [W1i (by omega),Option.any_none] at hat;have HAT:=Lib.hid hat;have hpl:pos l s=l.length:=by omega
  rw [hpl] at HC ⊢;have hd:decide ((l.length:Int)<(l.length:Int))=false:=by simp
  clear hl hsrt hat hb hlt hp hpl hW;generalize isAt l s=q at *
  go_enter Tryz.func156,Tryz.ntmps156
  go_wp2_with fail
  rw [← HW.out];refine HC.out.mono ?_;rintro e w1 ⟨rfl,n1,rfl⟩
  go_wp2_with fail
  go_quiet (fail)
  go_wp2_with fail
  go_ret2
  exact ⟨by rw [← HAT.out];rfl,Qji (Qji HB.out _) _⟩
def Qxq (l:List Name.Ent) (s:List UInt8):Value:=.tuple #[.int .i64 ((getE l s).getD 0),.bool (isAt l s)]
theorem Zfl (l:List Name.Ent) (s:List UInt8) (A:Option Addr) (c:Nat) (w:World) (hl:Ents w (.slice A l.length c) l) (hn:l.length≤1000000) (hsrt:Srt l) :
  Calls Tryz.prog 96 #[.slice A l.length c,.string ⟨s.toArray⟩] w fun e w'=>e=.returned (Qxq l s)∧Below w.heap.size w w':=by
 have HC:=Lib.hid (Qqd l s A c w hl hn hsrt);unfold Qxq;cases hi:isAt l s with
 | true=>
  obtain ⟨x,hx1,hx2,hx3⟩:=get_pos hsrt hi;obtain ⟨hlt,hxe⟩:=W0i.1 hx1;obtain ⟨b,off,rfl,hbk,hc,hc1,hc2⟩:=hl.at (pos l s) hlt;rw [hxe] at hc2;rw [hx3,W2k];rw [hi] at HC;have HC2:=Lib.hid hc2;have hi1:(pos l s:Int)<(l.length:Int):=by omega
  have hi0:(0:Int)≤(pos l s:Int):=by omega
  clear hl hsrt hc1 hc2 hx1 hx2 hx3 hxe hi;generalize pos l s=k at *
  go_enter Tryz.func96,Tryz.ntmps96
  go_wp2_with fail
  refine HC.out.mono ?_;rintro e w1 ⟨rfl,hb1⟩;have hc2:=Qlb hb1 HC2.out;have HB1:=Lib.hid hb1;clear hb1
  go_wp2_with fail
  go_ret2
  exact ⟨rfl,HB1.out⟩
 | false=>
  rw [Qr4 hi,Option.getD_none];rw [hi] at HC;clear hl hsrt hi
  go_enter Tryz.func96,Tryz.ntmps96
  go_wp2_with fail
  refine HC.out.mono ?_;rintro e w1 ⟨rfl,hb1⟩;have HB1:=Lib.hid hb1;clear hb1
  go_wp2_with fail
  go_ret2
  exact ⟨rfl,HB1.out⟩
end Go.Proofs.YtahlldgocpabjaaGreat

namespace Go.Proofs.YtahlldgocpabjaaGreat
open Go.RowKit Copyhold Copyhold.Name
end Go.Proofs.YtahlldgocpabjaaGreat

namespace Go.Proofs.YtahlldgocpabjaaGreat
open Go.RowKit Copyhold Copyhold.Name
end Go.Proofs.YtahlldgocpabjaaGreat

namespace Go.Proofs.YtahlldgocpabjaaGreat
open Go.RowKit Copyhold Copyhold.Name
theorem Ziq:Elem Tryz.prog 43 9 (.string ⟨#[]⟩) 1 16:=
 ⟨Tryz.underlying43,by kernel_rfl,by kernel_rfl,by decide⟩
end Go.Proofs.YtahlldgocpabjaaGreat

namespace Go.Proofs.YtahlldgocpabjaaGreat
open Go.RowKit Copyhold
end Go.Proofs.YtahlldgocpabjaaGreat
