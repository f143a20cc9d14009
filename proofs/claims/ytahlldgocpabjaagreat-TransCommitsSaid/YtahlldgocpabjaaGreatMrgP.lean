import Derived.Test.YtahlldgocpabjaaGreatMrgO
import Derived.Test.YtahlldgocpabjaaGreatMrgN
set_option maxRecDepth 100000
set_option maxHeartbeats 8000000
set_option linter.unusedVariables false
set_option linter.unusedSimpArgs false
namespace Go.Proofs.YtahlldgocpabjaaGreat
open Go Go.RowKit Copyhold Go.Proofs.Tryz
def Qi7 (P:Program) (f:FuncId) (args:List AV) (y:Bx) (r:AV) (y':Bx):Prop:=
 ∀ (D:Nat→Prop) (w:World) (vs:Array Value),(∀ b,D b→b<w.heap.size)→Qde D w args vs→BoxR D w y→(∀ g,y.blk=some g→¬ D g) →
  Calls P f vs w (fun e w'=>∃ v,∃ D':Nat→Prop,e=.returned v∧Below 0 w w'∧(∀ k,y.blk ≠ some k→k<w.heap.size→w'.heap[k]?=w.heap[k]?)∧(∀ b,D b→D' b) ∧
   (∀ b,D' b→b<w'.heap.size∧(D b∨y.blk=some b∨w.heap.size≤b))∧(∀ g,y'.blk=some g→(y.blk=some g∨w.heap.size≤g)∧¬ D' g)∧BoxR D' w' y'∧Ra D' w' r v)
theorem Zec {P:Program} {f:FuncId} {F:Func} {code:Code} {args:List AV} {q:Nat} {y y':Bx} {r:AV} (n:Nat) (ct:Ct P) (hf:P.funcs[f]?=some F) (hb:F.body=some code)
  (hk:(decide (args.length≤F.ntmps)&&(P.follows .mixedOrders&&(F.results.toList.all fun rv=>decide ((match rv with | .tmp t=>t | .cell t _=>t)<F.ntmps))))=true)
  (h:vcC ct=vc P F (.valB r q y') n ct (.code code) [] ⟨Qdp args 0,[(q,y)]⟩):Qi7 P f args y r y':=by
 simp only [Bool.and_eq_true] at hk;have hsz:args.length≤F.ntmps:=of_decide_eq_true hk.1;have hn:=hk.2.2;have hv:vc P F (.valB r q y') n ct (.code code) [] ⟨Qdp args 0,[(q,y)]⟩:=h ▸ Qay ct;intro D w vs hD hvs hy hyD;refine calls_of_wp hf hb ?_
 let c:Cx:=⟨w.heap.size,w,F.ntmps,D,fun k=>y.blk=some k⟩
 have hawp:AWp c P code (FinG P F (.valB r q y')) (LS.mk (Qdp args 0) [(q,y)]).fs:=Qa0 (c:=c) rfl hk.2.1 n ct (.code code) [] _ hv;have htm:∀ t,(LS.mk (Qdp args 0) [(q,y)]).fs.tm t=args.getD t .any:=fun t=>by
  show lget (Qdp args 0) t=_;rw [Qgi];simp
 have hbx:∀ i x,(LS.mk (Qdp args 0) [(q,y)]).fs.bx i=some x→i=q∧x=y:=fun i x hx=>by
  have hx':bget [(q,y)] i=some x:=hx;simp only [bget] at hx';cases hb:Nat.beq q i with
  | true=>
   rw [hb] at hx';exact ⟨(Nat.eq_of_beq_eq_true hb).symm,(Option.some.inj hx').symm⟩
  | false=>rw [hb] at hx';cases hx'
 have hrel:Rel c (LS.mk (Qdp args 0) [(q,y)]).fs { tmps:=vs++Array.replicate (F.ntmps-vs.size) undef,defers:=[] } w:=by
  refine ⟨Nat.le_refl _,D,rfl,?_,BelowL.refl (c:=c),hD,⟨fun _ h=>h,fun _ h=>.inl h⟩,fun t v hv=>?_,fun id x h=>?_,fun i j x z hx hz hij=>?_⟩
  ·have:=hvs.1;simp [c];omega
  ·rw [htm];by_cases ht:t<vs.size
   ·rw [Array.getElem?_append_left ht] at hv;have hta:t<args.length:=by rw [hvs.1];exact ht
    have:=hvs.2 t args[t] v (List.getElem?_eq_getElem hta) hv;simpa [List.getD,List.getElem?_eq_getElem hta] using this
   ·have hta:args.length≤t:=by rw [hvs.1];omega
    have:args.getD t .any=.any:=by simp [List.getD,List.getElem?_eq_none hta]
    rw [this];exact .any v
  ·obtain ⟨_,rfl⟩:=hbx id x h;exact ⟨fun g hg=>⟨.inr hg,hyD g hg⟩,hy⟩
  ·exact absurd ((hbx i x hx).1.trans (hbx j z hz).1.symm) hij
 refine wp_mono (hawp _ _ hrel) fun e' a' w' ⟨s',hq,hc,D',hR⟩=>?_;obtain ⟨he,hd,hby⟩:=hq;have hn':∀ rv∈F.results.toList,(match rv with | .tmp t=>t | .cell t _=>t)<c.n:=fun rv hrv=>by
  have:=List.all_eq_true.1 hn rv hrv;simpa using this
 obtain ⟨v,hv1,hrv⟩:=Qgu hR hn' hd;have fin:∃ u,∃ D'':Nat→Prop,Ending.returned v=.returned u∧Below 0 w w'∧(∀ k,y.blk ≠ some k→k<w.heap.size→w'.heap[k]?=w.heap[k]?)∧(∀ b,D b→D'' b) ∧
   (∀ b,D'' b→b<w'.heap.size∧(D b∨y.blk=some b∨w.heap.size≤b))∧(∀ g,y'.blk=some g→(y.blk=some g∨w.heap.size≤g)∧¬ D'' g)∧BoxR D'' w' y'∧Ra D'' w' r u:=
  ⟨v,D',rfl,⟨hR.below.os,hR.below.tape,hR.below.output,hR.below.size,fun k hk=>absurd hk (by omega)⟩,fun k hk hl=>hR.below.block k hl hk,hR.old.1,
   fun b hb=>⟨hR.dlt b hb,(hR.old.2 b hb).imp id fun h=>h.symm⟩,fun g hg=>⟨((hR.bx q y' hby).1 g hg).1.symm.imp id id,((hR.bx q y' hby).1 g hg).2⟩,(hR.bx q y' hby).2,hrv⟩
 rcases he with rfl | rfl
 ·exact ⟨hR.defers,v,hv1,fin⟩
 ·exact ⟨hR.defers,v,hv1,fin⟩
theorem Qdr {P:Program} {q:Nat} {f:FuncId} {args args':List AV} {d:Option Tmp} {y y':Bx} {r:AV} (hs:Qdf args args') (hsp:Qi7 P f args' y r y') :
  ∀ (ops:Array Oper) (i:Nat) (s:LS) (K:FS→Prop),lcR P q ops s i=some ((f,args,d),y)→(∀ a:Unit,K ((s.put d r).setB q y').fs)→Qun P ops i s.fs K:=by
 intro ops i s K h kk;unfold lcR at h
 split at h
 ·rename_i f' args0 d' y1 hc hr;cases he:entB P f' with
  | false=>rw [he] at h;cases h
  | true=>
   rw [he] at h;simp only [cond_true,Option.some.injEq,Prod.mk.injEq] at h;obtain ⟨⟨rfl,rfl,rfl⟩,rfl⟩:=h;obtain ⟨o,hi,hg,hrd,hd,hrun⟩:=Qks (P:=P) hc;refine ⟨o,hi,hg,q,fun x z=>x=r∧z=y',?_,?_⟩
   ·intro D w a Q K' hD hops hbx hnd hcont;obtain ⟨hl,hsa⟩:=hs.ok;obtain ⟨vs,h1,h2⟩:=hrun D w a.eval hops;have hra:Qde D w args' vs:=by
     refine ⟨by rw [← hl];exact h2.1,fun j x v hx hv=>?_⟩;have hj:j<args0.length:=by have:=(List.getElem?_eq_some_iff.1 hx).1;omega
     exact hsa j args0[j] x (List.getElem?_eq_getElem hj) hx D w v (h2.2 j args0[j] v (List.getElem?_eq_getElem hj) hv)
    unfold Oper.wp;rw [h1,Qje he,Oper.upon_enter];refine (hsp D w _ hD hra (hbx q _ hr) (fun g hg=>hnd _ g hr hg)).mono ?_;rintro e' w' ⟨v,D',rfl,g1,g2,g3,g4,g6,g7,g5⟩;exact hcont v w' r _ y' D' ⟨rfl,rfl⟩ hr g1 g2 g3 g4 g6 g7 g5
   ·rintro x z ⟨rfl,rfl⟩;rw [hd,LS.fs_put,LS.fs_setB];exact kk ()
 ·cases h
def mput (es:List (MK × AV)) (k:MK) (x:AV):List (MK × AV):=
 match Qdz k es 0 with
 | some (j,_)=>es.set j (k,x)
 | none=>es++[(k,x)]
theorem Zcf {P:Program} {kt:TypeId} {id r:Nat} {es es2:List (MK × AV)} {k:MK} {x:AV}
  (hk:(es.all fun p=>Qci P kt p.1)=true) (hk2:Qci P kt k=true) (he:mput es k x=es2) :
  ∀ (ops:Array Oper) (i:Nat) (s:LS) (K:FS→Prop) (rest:List Nat),insR P ops s i=some (kt,(id,r,r,es),k,x)→(∀ a:Unit,SeqR P ops K rest (s.setB id (.mp r es2)).fs)→SeqR P ops K (i :: rest) s.fs:=by
 unfold mput at he
 split at he
 ·rename_i j x0 hn;exact Zce hk hk2 hn he
 ·rename_i hn;exact Zch hk hk2 hn he
def CLn (F:FuncId) (pre:List AV):Nat→AV
 | 0=>.any
 | n+1=>.clo F (pre++[.dptr [CLn F pre n]])
def recR (id:Nat) (s:LS):Option (Nat × TypeId × FuncId × List AV × Nat × Nat):=
 match bget s.bx id with
 | some (.box b T [.clo F caps])=>
  (match caps.reverse with
  | .ptr id' b' 0 :: pre=>some (b,T,F,pre.reverse,id',b')
  | _=>none)
 | _=>none
def recS (id t:Nat) (x:AV) (ts bs:List Nat) (s:LS):LS:=
 ⟨(t,.dptr [x]) :: ts.map (fun q=>(q,lget s.tm q)),bs.filterMap fun q=>(bif Nat.beq q id then none else bget s.bx q).map fun y=>(q,y)⟩
theorem Zgr {l:List Nat} {g:Nat→Option Bx} {i:Nat} {y:Bx} (h:bget (l.filterMap fun q=>(g q).map fun y=>(q,y)) i=some y):g i=some y:=by
 induction l with
 | nil=>cases h
 | cons q r ih=>
  cases hg:g q with
  | none=>rw [List.filterMap_cons_none (by rw [hg];rfl)] at h;exact ih h
  | some z=>
   rw [List.filterMap_cons_some (by rw [hg];rfl)] at h;simp only [bget] at h;cases hb:Nat.beq q i with
   | true=>rw [hb] at h;obtain rfl:=Nat.eq_of_beq_eq_true hb;rw [hg];exact h
   | false=>rw [hb] at h;exact ih h
theorem Qx1 {s:LS}:∀ (l:List Nat) (i:Nat),lget (l.map fun q=>(q,lget s.tm q)) i=lget s.tm i∨lget (l.map fun q=>(q,lget s.tm q)) i=.any
 | [],i=>.inr rfl
 | q :: r,i=>by
  simp only [List.map_cons,lget];cases hb:Nat.beq q i with
  | true=>left;obtain rfl:=Nat.eq_of_beq_eq_true hb;rfl
  | false=>exact Qx1 r i
theorem Zh2 {P:Program} {id t b:Nat} {T:TypeId} {F:FuncId} {pre:List AV} (N:Nat) (ts bs:List Nat) :
  ∀ (c:Cx) (Q:Exit→FS→Prop) (code:Code) (s:LS),((recR id s).map fun x=>(x,lget s.tm t))=some ((b,T,F,pre,id,b),.ptr id b 0)→(∀ a:Unit,AWp c P code Q (recS id t (CLn F pre N) ts bs s).fs)→AWp c P code Q s.fs:=by
 intro c Q code s h kk a w hr;cases hq:recR id s with
 | none=>rw [hq] at h;cases h
 | some x=>
 rw [hq] at h;simp only [Option.map_some,Option.some.injEq,Prod.mk.injEq] at h;obtain ⟨hx,ht⟩:=h;subst hx;unfold recR at hq
 split at hq
 ·rename_i b1 T1 F1 caps hb
  split at hq
  ·rename_i id1 b2 pre1 hc;simp only [Option.some.injEq,Prod.mk.injEq] at hq;obtain ⟨rfl,rfl,rfl,rfl,rfl,rfl⟩:=hq;have hcaps:caps=pre1.reverse++[.ptr id1 b2 0]:=by rw [← List.reverse_reverse caps,hc,List.reverse_cons]
   subst hcaps;obtain ⟨hcb,D,hR⟩:=hr;obtain ⟨ho,hB⟩:=hR.bx _ _ hb;obtain ⟨vs,htb,hsz,hone,hcell⟩:=hB;have hv0:∃ v,vs[0]?=some v∧Ra D w (.clo F1 (pre1.reverse++[.ptr id1 b2 0])) v:=by
    have h0:0<vs.size:=by rw [hsz];simp
    exact ⟨vs[0],Array.getElem?_eq_getElem h0,hcell 0 _ _ rfl (Array.getElem?_eq_getElem h0)⟩
   obtain ⟨C,hC,hRC⟩:=hv0;obtain ⟨us,hCe,h1,h2⟩:∃ us:Array Value,C=.func (.func F1) #[] us∧(pre1.reverse++[AV.ptr id1 b2 0]).length=us.size∧∀ (j:Nat) (x:AV) (v:Value),(pre1.reverse++[AV.ptr id1 b2 0])[j]?=some x→us[j]?=some v→Ra D w x v:=by
    cases hRC with
    | clo f caps us h1 h2=>exact ⟨us,rfl,h1,h2⟩
   have hbD:¬ D b2:=(ho b2 rfl).2;have hblt:b2<w.heap.size:=htb.lt
   let D':Nat→Prop:=fun k=>D k∨k=b2
   have fr:∀ {x:AV} {v:Value},Ra D w x v→Ra D' w x v:=fun h=>h.frame (fun _ h=>.inl h) (Nat.le_refl _) (fun _ _ _=>rfl);have key:∀ n,Ra D' w (.dptr [CLn F1 pre1.reverse n]) (.pointer (some ⟨b2,0,none⟩)):=by
    intro n;have hcl:Ra D' w (CLn F1 pre1.reverse n) C:=by
     induction n with
     | zero=>exact .any _
     | succ n ih=>
      refine hCe ▸ .clo _ _ us (by rw [← h1];simp) (fun j x v hx hv=>?_);by_cases hj:j<pre1.reverse.length
      ·have hx':(pre1.reverse++[AV.ptr id1 b2 0])[j]?=some x:=by rw [List.getElem?_append_left hj] at hx ⊢;exact hx
       exact fr (h2 j x v hx' hv)
      ·rw [List.getElem?_append_right (by omega)] at hx;have hj2:j=pre1.reverse.length:=by have:=(List.getElem?_eq_some_iff.1 hx).1;simp only [List.length_cons,List.length_nil] at this;omega
       subst hj2;simp only [Nat.sub_self,List.getElem?_cons_zero,Option.some.injEq] at hx;subst hx;have hp:=h2 pre1.reverse.length (AV.ptr id1 b2 0) v (by rw [List.getElem?_append_right (Nat.le_refl _)];simp) hv;cases hp;refine .dptr _ b2 0 (fun _=>C) (.inr rfl) hblt (fun j x hx=>?_) (fun j x hx=>?_)
       ·match j,hx with
        | 0,hx=>exact ⟨by rw [htb.cell];exact hC,hone 0 C hC⟩
        | j+1,hx=>simp at hx
       ·match j,hx with
        | 0,hx=>
         obtain rfl:=Option.some.inj hx;exact ih
        | j+1,hx=>simp at hx
    refine .dptr _ b2 0 (fun _=>C) (.inr rfl) hblt (fun j x hx=>?_) (fun j x hx=>?_)
    ·match j,hx with
     | 0,hx=>exact ⟨by rw [htb.cell];exact hC,hone 0 C hC⟩
     | j+1,hx=>simp at hx
    ·match j,hx with
     | 0,hx=>obtain rfl:=Option.some.inj hx;exact hcl
     | j+1,hx=>simp at hx
   refine kk () a w ⟨hcb,D',?_⟩;have hbx':∀ i y,(recS id1 t (CLn F1 pre1.reverse N) ts bs s).fs.bx i=some y→i ≠ id1∧s.fs.bx i=some y:=fun i y h=>by
    have h2:=Zgr (g:=fun q=>bif Nat.beq q id1 then none else bget s.bx q) (i:=i) (y:=y) h;cases hbq:Nat.beq i id1 with
    | true=>simp [hbq] at h2
    | false=>simp only [hbq,cond_false] at h2;exact ⟨Nat.ne_of_beq_eq_false hbq,h2⟩
   refine ⟨hR.defers,hR.size,hR.below,fun k hk=>?_,⟨fun k hk=>.inl (hR.old.1 k hk),fun k hk=>?_⟩,fun q v hv=>?_,fun i y hy=>?_,fun i j y z hy hz hij=>?_⟩
   ·rcases hk with hk | rfl
    ·exact hR.dlt k hk
    ·exact hblt
   ·rcases hk with hk | rfl
    ·exact hR.old.2 k hk
    ·exact .inr (ho k rfl).1
   ·have hv2:=hR.tm q v hv;show Ra D' w (lget ((t,AV.dptr [CLn F1 pre1.reverse N]) :: ts.map fun q=>(q,lget s.tm q)) q) v;simp only [lget];cases hbq:Nat.beq t q with
    | true=>
     obtain rfl:=Nat.eq_of_beq_eq_true hbq;have hv3:Ra D w (lget s.tm t) v:=hv2;rw [ht] at hv3;cases hv3;exact key N
    | false=>
     rcases Qx1 (s:=s) ts q with e | e
     ·simp only [e];exact fr hv2
     ·simp only [e];exact .any v
   ·obtain ⟨h3,h4⟩:=hbx' i y hy;obtain ⟨g1,g2⟩:=hR.bx i y h4;refine ⟨fun g hg=>⟨(g1 g hg).1,fun hd=>?_⟩,g2.frame (fun _ h=>.inl h) (Nat.le_refl _) (fun _ _ _=>rfl) (fun _ _=>rfl)⟩;rcases hd with hd | rfl
    ·exact (g1 g hg).2 hd
    ·exact hR.apart i id1 y _ h4 hb h3 g hg rfl
   ·exact hR.apart i j y z (hbx' i y hy).2 (hbx' j z hz).2 hij
  ·cases hq
 ·cases hq
theorem Qkc {P:Program} {f:FuncId} {F:Func} {code:Code} {args:List AV} {q:Nat} {y y':Bx} {r:AV} (hf:P.funcs[f]?=some F) (ct:Ct P) (n:Nat:=400) (hb:F.body=some code:=by rfl)
  (hk:(decide (args.length≤F.ntmps)&&(P.follows .mixedOrders&&(F.results.toList.all fun rv=>decide ((match rv with | .tmp t=>t | .cell t _=>t)<F.ntmps))))=true:=by kernel_rfl)
  (h:vcC ct=vc P F (.valB r q y') n ct (.code code) [] ⟨Qdp args 0,[(q,y)]⟩:=by kernel_rfl):Qi7 P f args y r y':=Zec n ct hf hb hk h
theorem Zgb {l:List Nod} {i:Int} (hr:Qbv l):∀ x∈outN l i,x.ino ≠ i∧x∈l:=by
 intro x hx;rw [Qgy hr] at hx;obtain ⟨h1,h2⟩:=List.mem_filter.1 hx;exact ⟨by simpa using h2,h1⟩
theorem Qxn {l:List Nod} {i:Int} (hr:Qbv l):Qbv (outN l i):=by
 rw [Qgy hr];exact List.Pairwise.filter _ hr
theorem Qxm {f:Fsy} {i:Int} (h:Qar f):Qar (outF f i):=by
 obtain ⟨h1,h2,h3,h4⟩:=Qbs.1 h;exact Qbs.2 ⟨Nat.le_trans (Qvs f.l i) h1,h2,fun n hn=>h3 n (Zgb h4 n hn).2,Qxn h4⟩
theorem Zjh {f:Fsy} {i j:Int} (hr:Qbv f.l):Qav (outF f i) j=(if j=i then false else Qav f j)∧Qaa (outF f i) j=(if j=i then nod0 else Qaa f j):=by
 have key:(outN f.l i).find? (isNo j)=if j=i then none else f.l.find? (isNo j):=by
  rw [Qgy hr,List.find?_filter];by_cases h:j=i
  ·rw [if_pos h];refine List.find?_eq_none.2 fun x _=>?_;subst h;simp [isNo]
  ·rw [if_neg h];congr 1;funext x;by_cases hx:x.ino=j
   ·have:¬ x.ino=i:=by omega
    simp [isNo,hx,this,h]
   ·simp [isNo,hx]
 have hb:∀ f:Fsy,Qav f j=(f.l.find? (isNo j)).isSome:=fun f=>by
  unfold Qav
  induction f.l with
  | nil=>rfl
  | cons n r ih=>
   simp only [List.any_cons,List.find?_cons];cases h:isNo j n<;>simp [ih]
 constructor
 ·rw [hb,hb];show ((outN f.l i).find? (isNo j)).isSome=_;rw [key]
  split<;>rfl
 ·show ((outN f.l i).find? (isNo j)).getD nod0=_;rw [key]
  split<;>rfl
theorem out_ok {f:Fsy} {i:Int} (okf:OkF f) (hr:Qbv f.l):OkF (outF f i):=⟨okf.1,Nat.le_trans (Qvs f.l i) okf.2.1,fun n hn=>okf.2.2 n (Zgb hr n hn).2⟩
theorem Qvz {l:List Nod} {n x:Nod} (h:x∈putN l n):x=n∨x∈l:=by
 unfold putN at h;rcases List.mem_append.1 h with h | h
 ·exact .inr (List.mem_of_mem_take h)
 ·rcases List.mem_cons.1 h with h | h
  ·exact .inl h
  ·exact .inr (List.mem_of_mem_drop h)
theorem Qpa {f:Fsy} {n:Nod} (okf:OkF f) (okn:OkN n) (hn:n.ino<9223372036854775807) (hl:f.l.length≤100000):OkF (putF f n):=by
 refine ⟨?_,?_,fun x hx=>?_⟩
 ·show I64 (if n.ino+1>f.next then n.ino+1 else f.next)
  split
  ·exact ⟨by have:=okn.1.1;omega,by omega⟩
  ·exact okf.1
 ·have:=Qm4 f.l n;show (putN f.l n).length≤_;omega
 ·rcases Qvz hx with rfl | hx
  ·exact okn
  ·exact okf.2.2 x hx
theorem Qil {l:List Nod} {n:Nod} (hr:Qbv l):Qbv (putN l n):=by
 have hc:=hr.cut n.ino;have e:putN l n=l.take (plN l n.ino)++n :: (l.drop (plN l n.ino)).filter (fun x=>x.ino != n.ino):=by unfold putN;rw [Qg3 hr]
 rw [e];refine List.pairwise_append.2 ⟨List.Pairwise.sublist (List.take_sublist _ _) hr,List.pairwise_cons.2 ⟨fun x hx=>?_,List.Pairwise.filter _ (List.Pairwise.sublist (List.drop_sublist _ _) hr)⟩,fun x hx y hy=>?_⟩
 ·obtain ⟨h1,h2⟩:=List.mem_filter.1 hx;have h3:=hc.2 x h1;have h4:¬ x.ino=n.ino:=by simpa using h2
  show n.ino<x.ino;omega
 ·have h1:=hc.1 x hx;rcases List.mem_cons.1 hy with rfl | hy
  ·exact h1
  ·have h3:=hc.2 y (List.mem_filter.1 hy).1;show x.ino<y.ino;omega
theorem Zh9 {f:Fsy} {n:Nod} (h:Qar f) (hn:nodP n) (hl:f.l.length<256):Qar (putF f n):=by
 obtain ⟨h1,h2,h3,h4⟩:=Qbs.1 h;have hnx:f.next≤(putF f n).next∧n.ino+1≤(putF f n).next:=by
  show f.next≤(if n.ino+1>f.next then n.ino+1 else f.next)∧n.ino+1≤(if n.ino+1>f.next then n.ino+1 else f.next)
  split<;>omega
 refine Qbs.2 ⟨by have:=Qm4 f.l n;show (putN f.l n).length≤256;omega,by omega,fun x hx=>?_,Qil h4⟩;rcases Qvz hx with rfl | hx
 ·exact ⟨hn,by omega⟩
 ·have:=h3 x hx;exact ⟨this.1,by omega⟩
theorem Qn0 {l:List Nod} {i:Int} {x:Nod} (hr:Qbv l) (hx:x∈l) (hi:x.ino=i):l.find? (isNo i)=some x:=by
 cases h:l.find? (isNo i) with
 | none=>exact absurd (List.find?_eq_none.1 h x hx) (by simp [isNo,hi])
 | some y=>
  have hy:=List.mem_of_find?_eq_some h;have hp:(y.ino==i)=true:=List.find?_some (p:=isNo i) h;obtain ⟨j,hj⟩:=List.getElem?_of_mem hx;obtain ⟨k,hk⟩:=List.getElem?_of_mem hy;have h3:=List.pairwise_iff_getElem.1 hr;have l1:=Qan hj;have l2:=Qan hk;have e1:l[j]=x:=Option.some.inj ((List.getElem?_eq_getElem l1).symm.trans hj);have e2:l[k]=y:=Option.some.inj ((List.getElem?_eq_getElem l2).symm.trans hk);have hyi:y.ino=i:=by simpa using hp
  rcases Nat.lt_trichotomy j k with hlt | rfl | hlt
  ·have:=h3 j k l1 l2 hlt;rw [e1,e2] at this;omega
  ·rw [← e1,← e2]
  ·have:=h3 k j l2 l1 hlt;rw [e1,e2] at this;omega
theorem Qyg (f:Fsy) (j:Int):Qav f j=(f.l.find? (isNo j)).isSome:=by
 unfold Qav
 induction f.l with
 | nil=>rfl
 | cons n r ih=>
  simp only [List.any_cons,List.find?_cons];cases h:isNo j n<;>simp [ih]
theorem Qra {f:Fsy} {n:Nod} (hr:Qbv f.l):Qav (putF f n) n.ino=true∧Qaa (putF f n) n.ino=n:=by
 have h:(putN f.l n).find? (isNo n.ino)=some n:=Qn0 (Qil hr) (by unfold putN;simp) rfl;refine ⟨?_,?_⟩
 ·rw [Qyg];show ((putN f.l n).find? (isNo n.ino)).isSome=true;rw [h];rfl
 ·show ((putN f.l n).find? (isNo n.ino)).getD nod0=n;rw [h];rfl
theorem Qop {f:Fsy} {n:Nod} {j:Int} (hr:Qbv f.l) (hj:¬ j=n.ino):Qav (putF f n) j=Qav f j∧Qaa (putF f n) j=Qaa f j:=by
 have key:(putN f.l n).find? (isNo j)=f.l.find? (isNo j):=by
  have e:putN f.l n=f.l.take (plN f.l n.ino)++n :: (f.l.drop (plN f.l n.ino)).filter (fun x=>x.ino != n.ino):=by unfold putN;rw [Qg3 hr]
  have hn:isNo j n=false:=by simp [isNo];omega
  have e2:((f.l.drop (plN f.l n.ino)).filter (fun x=>x.ino != n.ino)).find? (isNo j)=(f.l.drop (plN f.l n.ino)).find? (isNo j):=by
   rw [List.find?_filter];congr 1;funext x;by_cases hx:x.ino=j
   ·have:¬ x.ino=n.ino:=by omega
    simp [isNo,hx,hj]
   ·simp [isNo,hx]
  rw [e,List.find?_append,List.find?_cons,hn,e2]
  conv=>rhs;rw [← List.take_append_drop (plN f.l n.ino) f.l,List.find?_append]
 exact ⟨by rw [Qyg,Qyg];show ((putN f.l n).find? (isNo j)).isSome=_;rw [key],by show ((putN f.l n).find? (isNo j)).getD nod0=_;rw [key];rfl⟩
def Qa6 (f:Fsy) (i:Int):List Int:=if (Qaa f i).kind=2 then (Qaa f i).l.map Ent.ino else []
theorem Qqv {f:Fsy} {i z:Int} (h:z∈Qa6 f i):z∈Qjc f:=by
 unfold Qa6 at h
 split at h
 ·obtain ⟨e,he,rfl⟩:=List.mem_map.1 h;exact Qfq he
 ·cases h
def dfsF (f:Fsy):Nat→Int→List Int→List Int
 | 0,_,U=>U
 | n+1,i,U=>(Qa6 f i).foldl (fun U z=>if hasB U z=true then U else dfsF f n z (U++[z])) U
def upK (f:Fsy) (n:Nat) (i:Int) (U:List Int) (k:Nat):List Int:=((Qa6 f i).take k).foldl (fun U z=>if hasB U z=true then U else dfsF f n z (U++[z])) U
theorem Zbq {f:Fsy} {n:Nat} {i z:Int} {U:List Int} {k:Nat} (hz:(Qa6 f i)[k]?=some z) (h:hasB (upK f n i U k) z=true):upK f n i U (k+1)=upK f n i U k:=by
 unfold upK at h ⊢;rw [Qam hz,List.foldl_append,List.foldl_cons,List.foldl_nil,if_pos h]
theorem Zks {f:Fsy} {n:Nat} {i z:Int} {U:List Int} {k:Nat} (hz:(Qa6 f i)[k]?=some z) (h:hasB (upK f n i U k) z=false):upK f n i U (k+1)=dfsF f n z (upK f n i U k++[z]):=by
 unfold upK at h ⊢;rw [Qam hz,List.foldl_append,List.foldl_cons,List.foldl_nil,if_neg (by rw [h];decide)]
theorem Zls {f:Fsy} {n:Nat} {i:Int} {U:List Int} {k:Nat} (hk:(Qa6 f i).length≤k):upK f n i U k=dfsF f (n+1) i U:=by unfold upK;rw [Qat hk];rfl
theorem Qlb {f:Fsy} {i:Int} {k:Nat} {x:Ent} (hk:(Qaa f i).kind=2) (h:(Qaa f i).l[k]?=some x):(Qa6 f i)[k]?=some x.ino:=by
 unfold Qa6;rw [if_pos hk,List.getElem?_map,h];rfl
theorem Zi0 {f:Fsy} {i:Int} (hk:(Qaa f i).kind=2):(Qa6 f i).length=(Qaa f i).l.length:=by
 unfold Qa6;rw [if_pos hk,List.length_map]
theorem Zm6 {f:Fsy} {i:Int} (h:¬ (Qaa f i).kind=2):Qa6 f i=[]:=if_neg h
theorem Zlh {f:Fsy} {n:Nat} {i:Int} {U:List Int} (h:¬ (Qaa f i).kind=2):dfsF f n i U=U:=by
 cases n with
 | zero=>rfl
 | succ n=>show (Qa6 f i).foldl _ U=U;rw [Zm6 h];rfl
theorem Qtu {f:Fsy} {i:Int} (h:Qav f i=false):¬ (Qaa f i).kind=2:=by
 unfold Qav at h;unfold Qaa;rw [List.find?_eq_none.2 fun x hx=>by simpa using List.any_eq_false.1 h x hx];decide
def remF (f:Fsy) (U:List Int):Nat:=(Qjc f).countP fun z=>!hasB U z
theorem Qeh {U:List Int} {x z:Int}:hasB (U++[x]) z=(hasB U z||x==z):=by unfold hasB;simp
theorem Qrm {α:Type} {p q:α→Bool}:∀ {l:List α},(∀ x∈l,p x=true→q x=true)→l.countP p≤l.countP q
 | [],_=>Nat.le_refl _
 | x :: r,h=>by
  have ih:=Qrm (l:=r) fun y hy=>h y (by simp [hy]);rw [List.countP_cons,List.countP_cons];have:=h x (by simp);cases hp:p x<;>cases hq:q x<;>simp_all<;>omega
theorem Qyr {α:Type} {p q:α→Bool}:∀ {l:List α} {z:α},(∀ x∈l,p x=true→q x=true)→z∈l→p z=false→q z=true→l.countP p<l.countP q
 | x :: r,z,h,hz,h1,h2=>by
  rw [List.countP_cons,List.countP_cons];have hx:=h x (by simp);rcases List.mem_cons.1 hz with e | hz
  ·rw [← e,h1,h2];have:=Qrm (l:=r) fun y hy=>h y (by simp [hy]);simp;omega
  ·have ih:=Qyr (l:=r) (fun y hy=>h y (by simp [hy])) hz h1 h2;cases hp:p x<;>cases hq:q x<;>simp_all<;>omega
theorem Qxf {f:Fsy} {U V:List Int} (h:∀ z,hasB U z=true→hasB V z=true):remF f V≤remF f U:=by
 refine Qrm fun x _ hx=>?_;cases hu:hasB U x with
 | false=>rfl
 | true=>rw [h x hu] at hx;cases hx
theorem Qvj {f:Fsy} {U:List Int} {z:Int} (hz:z∈Qjc f) (h:hasB U z=false):remF f (U++[z])<remF f U:=by
 refine Qyr (z:=z) (fun x _ hx=>?_) hz (by rw [Qeh];simp) (by rw [h];rfl);rw [Qeh] at hx;simp only [Bool.not_eq_true',Bool.or_eq_false_iff] at hx;rw [hx.1];rfl
theorem Qre {f:Fsy}:∀ (n:Nat) (i:Int) (U:List Int) (z:Int),hasB U z=true→hasB (dfsF f n i U) z=true
 | 0,_,_,_,h=>h
 | n+1,i,U,z,h=>by
  show hasB ((Qa6 f i).foldl _ U) z=true;generalize Qa6 f i=l
  induction l generalizing U with
  | nil=>exact h
  | cons x r ih=>
   rw [List.foldl_cons];refine ih _ ?_
   split
   ·exact h
   ·exact Qre n x _ z (by rw [Qeh,h];rfl)
theorem Zmh {f:Fsy} {n:Nat} {i:Int} {U:List Int}:remF f (dfsF f n i U)≤remF f U:=Qxf fun z h=>Qre n i U z h
inductive Reach (f:Fsy):Int→Int→Prop where
 | one {i z:Int}:z∈Qa6 f i→Reach f i z
 | more {i y z:Int}:y∈Qa6 f i→Reach f y z→Reach f i z
theorem Reach.trans {f:Fsy} {a b c:Int} (h:Reach f a b) (h2:Reach f b c):Reach f a c:=by
 induction h with
 | one h=>exact .more h h2
 | more h _ ih=>exact .more h (ih h2)
theorem Reach.snoc {f:Fsy} {a b c:Int} (h:Reach f a b) (h2:c∈Qa6 f b):Reach f a c:=h.trans (.one h2)
def Zg7 (f:Fsy) (U V:List Int):Prop:=∀ z,hasB V z=true→hasB U z=false→∀ y∈Qa6 f z,hasB V y=true
theorem Qpq {f:Fsy}:∀ (n:Nat) (i:Int) (U:List Int),remF f U<n →
  (∀ y∈Qa6 f i,hasB (dfsF f n i U) y=true)∧Zg7 f U (dfsF f n i U)∧∀ z,hasB (dfsF f n i U) z=true→hasB U z=true∨Reach f i z
 | 0,_,_,h=>absurd h (Nat.not_lt_zero _)
 | n+1,i,U,h=>by
  have key:∀ (l:List Int),(∀ y∈l,y∈Qa6 f i)→∀ (V:List Int),(∀ z,hasB U z=true→hasB V z=true)→Zg7 f U V→(∀ z,hasB V z=true→hasB U z=true∨Reach f i z) →
    let W:=l.foldl (fun U z=>if hasB U z=true then U else dfsF f n z (U++[z])) V
    (∀ z,hasB V z=true→hasB W z=true)∧(∀ y∈l,hasB W y=true)∧Zg7 f U W∧∀ z,hasB W z=true→hasB U z=true∨Reach f i z:=by
   intro l
   induction l with
   | nil=>exact fun _ V _ h2 h3=>⟨fun _ h=>h,fun y hy=>by (cases hy),h2,h3⟩
   | cons x r ih=>
    intro hl V h1 h2 h3;simp only [List.foldl_cons];by_cases hx:hasB V x=true
    ·simp only [hx,if_true];obtain ⟨g0,g1,g2,g3⟩:=ih (fun y hy=>hl y (by simp [hy])) V h1 h2 h3;refine ⟨g0,fun y hy=>?_,g2,g3⟩;rcases List.mem_cons.1 hy with e | hy
     ·rw [e];exact g0 x hx
     ·exact g1 y hy
    ·rw [if_neg hx];have hx':hasB V x=false:=by simpa using hx
     have hr1:remF f V≤remF f U:=Qxf (f:=f) h1;have hr2:=Qvj (f:=f) (Qqv (hl x (by simp))) hx';obtain ⟨d1,d2,d3⟩:=Qpq (f:=f) n x (V++[x]) (by omega);have hm:=Qre (f:=f) n x (V++[x]);have hxx:hasB (dfsF f n x (V++[x])) x=true:=hm x (by rw [Qeh];simp);obtain ⟨g0,g1,g2,g3⟩:=ih (fun y hy=>hl y (by simp [hy])) (dfsF f n x (V++[x])) (fun z hz=>hm z (by rw [Qeh,h1 z hz];rfl)) (fun z hz hu y hy=>by
      by_cases hv:hasB V z=true
      ·exact hm y (by rw [Qeh,h2 z hv hu y hy];rfl)
      ·by_cases hzx:z=x
       ·rw [hzx] at hy;exact d1 y hy
       ·refine d2 z hz ?_ y hy;rw [Qeh];have e1:hasB V z=false:=by simpa using hv
        have e2:(x==z)=false:=by simpa using fun e=>hzx (by rw [← e])
        rw [e1,e2];rfl) (fun z hz=>by
      rcases d3 z hz with hd | hd
      ·rw [Qeh] at hd;by_cases hv:hasB V z=true
       ·exact h3 z hv
       ·have e:x=z:=by simpa [hv] using hd
        rw [← e];exact .inr (.one (hl x (by simp)))
      ·exact .inr (.more (hl x (by simp)) hd))
     refine ⟨fun z hz=>g0 z (hm z (by rw [Qeh,hz];rfl)),fun y hy=>?_,g2,g3⟩;rcases List.mem_cons.1 hy with e | hy
     ·rw [e];exact g0 x hxx
     ·exact g1 y hy
  obtain ⟨_,g1,g2,g3⟩:=key (Qa6 f i) (fun _ h=>h) U (fun _ h=>h) (fun z h1 h2=>by rw [h1] at h2;cases h2) (fun z h=>.inl h);exact ⟨g1,g2,g3⟩
def Qd7 (f:Fsy) (i:Int):List Int:=dfsF f ((Qjc f).length+1) i []
theorem Zcu (f:Fsy):remF f []<(Qjc f).length+1:=Nat.lt_succ_of_le List.countP_le_length
theorem Qho {f:Fsy} {i z:Int}:hasB (Qd7 f i) z=true↔Reach f i z:=by
 obtain ⟨h1,h2,h3⟩:=Qpq _ i [] (Zcu f);refine ⟨fun h=>(h3 z h).resolve_left (by simp [hasB]),fun h=>?_⟩;have main:∀ a b,Reach f a b→(∀ y∈Qa6 f a,hasB (Qd7 f i) y=true)→hasB (Qd7 f i) b=true:=by
  intro a b hab
  induction hab with
  | one h=>exact fun hk=>hk _ h
  | more h _ ih=>exact fun hk=>ih fun y hy=>h2 _ (hk _ h) rfl y hy
 exact main i z h h1
def setM (U:List Int):List (MK × AV):=U.map fun z=>(MK.i z,.agg [])
theorem Qmw (U:List Int):∀ p∈setM U,∃ z,p.1=.i z:=fun p hp=>by
 obtain ⟨z,_,rfl⟩:=List.mem_map.1 hp;exact ⟨z,rfl⟩
theorem Qk3:∀ (U:List Int) (z:Int) (i:Nat),(Qdz (.i z) (setM U) i).isSome=hasB U z∧∀ j x,Qdz (.i z) (setM U) i=some (j,x)→x=.agg []
 | [],z,i=>⟨rfl,fun j x h=>by cases h⟩
 | y :: r,z,i=>by
  obtain ⟨h1,h2⟩:=Qk3 r z (i+1);show (Qdz (.i z) ((MK.i y,AV.agg []) :: setM r) i).isSome=_∧∀ j x,Qdz (.i z) ((MK.i y,AV.agg []) :: setM r) i=some (j,x)→_;unfold Qdz;by_cases hy:y=z
  ·subst hy;simp only [if_true];exact ⟨by simp [hasB],fun j x h=>by cases h;rfl⟩
  ·rw [if_neg (fun e=>hy (by injection e))];refine ⟨?_,h2⟩;rw [h1];unfold hasB;have e:(y==z)=false:=by simpa using hy
   rw [List.any_cons,e,Bool.false_or]
theorem Zhd:Sub (.val (.agg #[])) (.agg []):=fun D w v h=>by
 cases h;exact .agg [] #[] rfl (fun j v h=>by simp at h) (fun j x v h=>by simp at h)
theorem Qsm (U:List Int) (z:Int):lkS true (Qdz (.i z) (setM U) 0) (.agg #[]) (.tup [.agg [],aB (hasB U z)]):=by
 obtain ⟨h1,h2⟩:=Qk3 U z 0;unfold lkS Qs8;rw [if_pos rfl,h1];refine Sub.tups ⟨?_,sR,trivial⟩;cases hm:Qdz (.i z) (setM U) 0 with
 | none=>exact Zhd
 | some p=>
  obtain ⟨j,x⟩:=p;rw [h2 j x hm];exact sR
theorem Zhs {U:List Int} {z:Int} (h:hasB U z=false):mput (setM U) (.i z) (.agg [])=setM (U++[z]):=by
 obtain ⟨h1,h2⟩:=Qk3 U z 0;unfold mput;cases hm:Qdz (.i z) (setM U) 0 with
 | none=>simp [setM]
 | some p=>rw [hm,h] at h1;cases h1
theorem Zed (f:Fsy) (r:Nat) (okf:OkF f) (hl:f.l.length≤100000) (hr:Qbv f.l) (m:Nat) (ih:∀ (i:Int) (U:List Int),remF f U<m→Qi7 prog 129 [aI i,.dptr (fsyA f),.dptr [.mref 7 r],.dptr [CLn 129 [.dptr (fsyA f),.dptr [.mref 7 r]] m]] (.mp r (setM U)) (.tup []) (.mp r (setM (dfsF f m i U)))) (i:Int) (U:List Int) (h:remF f U<m+1):Qi7 prog 129 [aI i,.dptr (fsyA f),.dptr [.mref 7 r],.dptr [.clo 129 [.dptr (fsyA f),.dptr [.mref 7 r],.dptr [CLn 129 [.dptr (fsyA f),.dptr [.mref 7 r]] m]]]] (.mp r (setM U)) (.tup []) (.mp r (setM (dfsF f (m+1) i U))):=by
 have hfb:=(Qd4 okf i).2.2.2.2.1;exact Qkc (q:=7) func129 (
 .r 2<|.call (Qcl f i (by omega) hr)<|
 .r 3<|.new fun b1=>.u 2 [b1]<|
 .r 3<|.br 19 (!(Qav f i)) (fun q1=>have q1:=notT q1;have p1:=booF q1;.r 4<|.st (mpR 7) (r,setM U) (fun (_:Unit) σ=>σ.setB 7 (.mp r (setM (dfsF f (m+1) i U)))) (Qu4 (by rw [Zlh (Qtu q1)])) fun _=>
 .finB (x:=.tup []) (r:=.tup []) [] trivial (.mp r (setM (dfsF f (m+1) i U))) (by exact sR))
 <| fun q1=>have q1:=notF q1;have p1:=booT q1;.u 4 [b1]<|
 .br 23 (((Qaa f i).kind) != 2) (fun q2=>have p2:=bneT q2;.st (mpR 7) (r,setM U) (fun (_:Unit) σ=>σ.setB 7 (.mp r (setM (dfsF f (m+1) i U)))) (Qu4 (by rw [Zlh (by assumption)])) fun _=>
 .finB (x:=.tup []) (r:=.tup []) [] trivial (.mp r (setM (dfsF f (m+1) i U))) (by exact sR))
 <| fun q2=>have p2:=bneF q2;have hk:(Qaa f i).kind=2:=(by simpa using q2);.u 3 [b1]<|
 .lm 26 ((Qaa f i).l) entA<|.r 1<|let L1:Lp (Nat):=⟨fun a1=>⟨[(2,.dptr [.mref 7 r]),(3,.dptr [.clo 129 [.dptr (fsyA f),.dptr [.mref 7 r],.dptr [CLn 129 [.dptr (fsyA f),.dptr [.mref 7 r]] m]]]),(25,.sl 2 false ((Qaa f i).l.map entA)),(26,aI (((Qaa f i).l).length:Int)),(27,aI (a1:Int))],[(7,.mp r (setM (upK f m i U a1)))]⟩,fun a1=>(Qaa f i).l.length-a1,fun a1=>a1≤(Qaa f i).l.length∧remF f (upK f m i U a1)<m+1⟩
 .lp L1 0 ⟨Nat.zero_le _,h⟩ [(27,aI 0)] [(7,.mp r (setM U))] ⟨sR,sR,sR,sR,sO,trivial⟩ ⟨⟨_,rfl,SubB.of_eq rfl⟩,trivial⟩ fun a1 ha1=>
 (fun (k:Nat) (hH1:k≤(Qaa f i).l.length∧remF f (upK f m i U k)<m+1)=>.r 1<|.bd 28 ((k:Int)<(((Qaa f i).l).length:Int)) (fun p3=>.idxM ((Qaa f i).l) entA k (m:=(k:Int)) rfl (by omega) fun x1 hx1=>
 .r 1<|.new fun b2=>.u 1 [b2]<|
 .u 3 [b2]<|
 .op (lkRB prog) ((3,some (.agg #[])),(7,r,r,setM (upK f m i U k)),.i x1.ino,true,some 35) (fun (_:Unit) σ=>σ.put (some 35) (.tup [.agg [],aB (hasB (upK f m i U k) x1.ino)])) (Qzn (Qdz (.i x1.ino) (setM (upK f m i U k)) 0) (Zeq (by kernel_rfl) _ (Qmw (upK f m i U k))) (by kernel_rfl) rfl (Qsm (upK f m i U k) x1.ino)) fun _=>
 .r 3<|.new fun b3=>.u 2 [b3]<|
 .r 1<|.br 38 (hasB (upK f m i U k) x1.ino) (fun q4=>have p4:=booT q4;.run 2 [rng .i64 ((k:Int)+1)] ⟨Qai (by omega) (by omega),trivial⟩<|
 .bk L1 k (k+1) ⟨by omega,by rw [Zbq (Qlb hk hx1) q4];exact hH1.2⟩ (show (Qaa f i).l.length-(k+1)<(Qaa f i).l.length-k from (by omega)) [(27,aI ((k:Int)+1))] [(7,.mp r (setM (upK f m i U k)))] ⟨sR,sR,sR,sR,sO,trivial⟩ ⟨⟨_,rfl,SubB.of_eq (by rw [Zbq (Qlb hk hx1) q4])⟩,trivial⟩)
 <| fun q4=>have p4:=booF q4;.u 4 [b2]<|
 .op (insR prog) (3,(7,r,r,setM (upK f m i U k)),.i x1.ino,AV.agg []) (fun (_:Unit) σ=>σ.setB 7 (.mp r (setM ((upK f m i U k)++[x1.ino])))) (Zcf (Zeq (by kernel_rfl) _ (Qmw (upK f m i U k))) (by kernel_rfl) (Zhs q4)) fun _=>
 .lent 3<|.u 3 [b2]<|
 .lop (lcR prog 7) ((129,[aI x1.ino,.dptr (fsyA f),.dptr [.mref 7 r],.dptr [CLn 129 [.dptr (fsyA f),.dptr [.mref 7 r]] m]],some 46),.mp r (setM ((upK f m i U k)++[x1.ino]))) (fun (_:Unit) σ=>(σ.put (some 46) (.tup [])).setB 7 (.mp r (setM (dfsF f m x1.ino ((upK f m i U k)++[x1.ino]))))) (Qdr (args':=[aI x1.ino,.dptr (fsyA f),.dptr [.mref 7 r],.dptr [CLn 129 [.dptr (fsyA f),.dptr [.mref 7 r]] m]]) sr4 (ih x1.ino ((upK f m i U k)++[x1.ino]) (by have:=Qvj (f:=f) (Qqv (List.mem_of_getElem? (Qlb hk hx1))) q4;omega))) fun _=>
 .run 2 [rng .i64 ((k:Int)+1)] ⟨Qai (by omega) (by omega),trivial⟩<|
 .bk L1 k (k+1) ⟨by omega,by rw [Zks (Qlb hk hx1) q4];have:=Zmh (f:=f) (n:=m) (i:=x1.ino) (U:=upK f m i U k++[x1.ino]);have:=Qvj (f:=f) (Qqv (List.mem_of_getElem? (Qlb hk hx1))) q4;omega⟩ (show (Qaa f i).l.length-(k+1)<(Qaa f i).l.length-k from (by omega)) [(27,aI ((k:Int)+1))] [(7,.mp r (setM (dfsF f m x1.ino ((upK f m i U k)++[x1.ino]))))] ⟨sR,sR,sR,sR,sO,trivial⟩ ⟨⟨_,rfl,SubB.of_eq (by rw [Zks (Qlb hk hx1) q4])⟩,trivial⟩)
 <| fun p3=>.st (mpR 7) (r,setM (upK f m i U k)) (fun (_:Unit) σ=>σ.setB 7 (.mp r (setM (dfsF f (m+1) i U)))) (Qu4 (by rw [Zls (by rw [Zi0 hk];omega)])) fun _=>
 .finB (x:=.tup []) (r:=.tup []) [] trivial (.mp r (setM (dfsF f (m+1) i U))) (by exact sR)) a1 ha1)
theorem Qxz (f:Fsy) (r:Nat) (okf:OkF f) (hl:f.l.length≤100000) (hr:Qbv f.l):∀ (m:Nat) (i:Int) (U:List Int),remF f U<m→Qi7 prog 129 [aI i,.dptr (fsyA f),.dptr [.mref 7 r],.dptr [CLn 129 [.dptr (fsyA f),.dptr [.mref 7 r]] m]] (.mp r (setM U)) (.tup []) (.mp r (setM (dfsF f m i U)))
 | 0,_,_,h=>absurd h (Nat.not_lt_zero _)
 | m+1,i,U,h=>Zed f r okf hl hr m (Qxz f r okf hl hr m) i U h
theorem Qz0 (f:Fsy) (i:Int) (okf:OkF f) (hl:f.l.length≤100000) (hr:Qbv f.l):Qah prog 82 [.agg (fsyA f),aI i] (.mp (setM (Qd7 f i))):=by
 exact Qac func82 (let R:AV:=.mp (setM (Qd7 f i));
 .new fun b1=>.r 1<|.mkMap fun r2=>.new fun b3=>.u 1 [b3]<|
 .new fun b4=>.u 2 [b4]<|
 .frz 2 [1,4,5,6] [7,5,6] [b1=b1] rt1<|
 .frz 5 [1,4,5,6] [7,6] [b3=b3,b3=b3] rt2<|
 .st (fun s=>(recR 6 s).map fun x=>(x,lget s.tm 6)) ((b4,178,129,[.dptr (fsyA f),.dptr [.mref 7 r2]],6,b4),.ptr 6 b4 0) (fun (_:Unit) σ=>recS 6 6 (CLn 129 [.dptr (fsyA f),.dptr [.mref 7 r2]] (((Qjc f).length+1)+1)) [1,4,5] [7] σ) (Zh2 (((Qjc f).length+1)+1) [1,4,5] [7]) fun _=>
 .lent 2<|.r 2<|.lop (lcR prog 7) ((129,[aI i,.dptr (fsyA f),.dptr [.mref 7 r2],.dptr [CLn 129 [.dptr (fsyA f),.dptr [.mref 7 r2]] ((Qjc f).length+1)]],some 11),.mp r2 []) (fun (_:Unit) σ=>(σ.put (some 11) (.tup [])).setB 7 (.mp r2 (setM (Qd7 f i)))) (Qdr (args':=[aI i,.dptr (fsyA f),.dptr [.mref 7 r2],.dptr [CLn 129 [.dptr (fsyA f),.dptr [.mref 7 r2]] ((Qjc f).length+1)]]) sr4 (Qxz f r2 okf hl hr ((Qjc f).length+1) i [] (Zcu f))) fun _=>
 .r 2<|.frz 7 [4] [] [r2=r2] rt1<|
 .fi R [])
theorem Zba (f:Fsy) (i j:Int) (okf:OkF f) (hl:f.l.length≤100000) (hr:Qbv f.l):Qah prog 222 [.agg (fsyA f),aI i,aI j] (aB (hasB (Qd7 f j) i)):=by
 exact Qac func222 (let R:AV:=aB (hasB (Qd7 f j) i);
 .new fun b1=>.r 1<|.u 2 [b1]<|
 .call (Qz0 f j okf hl hr)<|
 .r 1<|.op (lkRO prog) ((3,some (.agg #[])),setM (Qd7 f j),.i i,true,some 14) (fun (_:Unit) σ=>σ.put (some 14) (.tup [.agg [],aB (hasB (Qd7 f j) i)])) (Qzm (Qdz (.i i) (setM (Qd7 f j)) 0) (Zeq (by kernel_rfl) _ (Qmw (Qd7 f j))) (by kernel_rfl) rfl (Qsm (Qd7 f j) i)) fun _=>
 .r 3<|.new fun b2=>.u 2 [b2]<|
 .r 2<|.fi R [])
def cntI:List (Int × Nat)→Int→List (Int × Nat)
 | [],z=>[(z,1)]
 | p :: r,z=>if p.1=z then (p.1,p.2+1) :: r else p :: cntI r z
def cntG:List (Int × Nat)→Int→Nat
 | [],_=>0
 | p :: r,z=>if p.1=z then p.2 else cntG r z
def cntM (L:List (Int × Nat)):List (MK × AV):=L.map fun p=>(MK.i p.1,aI (p.2:Int))
theorem Zll:∀ (L:List (Int × Nat)) (y z:Int),cntG (cntI L y) z=cntG L z+if y=z then 1 else 0
 | [],y,z=>by
  unfold cntI cntG
  split<;>simp_all [cntG]
 | p :: r,y,z=>by
  have ih:=Zll r y z;unfold cntI
  split
  ·rename_i h;subst h;simp only [cntG]
   split<;>simp_all
  ·rename_i h;simp only [cntG]
   split
   ·rename_i h2;have:¬ y=z:=fun e=>h (h2.trans e.symm);simp [this]
   ·exact ih
def Za4 (L:List (Int × Nat)) (l:List Ent):List (Int × Nat):=l.foldl (fun L e=>cntI L e.ino) L
def Zgf (L:List (Int × Nat)) (l:List Nod):List (Int × Nat):=l.foldl (fun L n=>if n.kind=2 then Za4 L n.l else L) L
def Qhe (f:Fsy):List (Int × Nat):=Zgf [] f.l
end Go.Proofs.YtahlldgocpabjaaGreat
