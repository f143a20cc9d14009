import Derived.WalkKit
import Derived.ProofKit
import Derived.OpenShut
import Derived.ShutString
import Derived.JoinedCond
import Derived.Carry
import Derived.SliceStrings
import Derived.SizedLaws
import Derived.Lib.SmallJoins
import Derived.Test.YtahlldgocpabjaaGreatMrgA
import Derived.Deep.Slices
import Derived.Test.YtahlldgocpabjaaGreatMrgF
namespace Copyhold
open Go Go.RowKit Go.ChangeShapes Go.WideShapes Go.ChangeAt
theorem Qjo {H:Type} {enc:TypeId × Value→H} {P:Program} (hl:laidOutB P=true) {W W':World} (hb:Below W.heap.size W W') :
  ∀ (ts:List TypeId) (vs:List Value) (ds:List (DataW H)) (ps:List MemPlace),(∀ t∈ts,P.readableRec t=true∧t<P.types.size) →
   DataW.TrodAll enc P W 0 (fun _=>true) true ts vs ds ps→(∀ x∈ps,x.block<W.heap.size)→DataW.TrodAll enc P W' 0 (fun b=>decide (b<W.heap.size)) true ts vs ds ps
 | [],vs,ds,ps,_,h,_=>by
  obtain ⟨rfl,rfl,rfl⟩:=trodAll_nil h;rfl
 | t :: ts,vs,ds,ps,ht,h,hlt=>by
  obtain ⟨v,vs',d,ds',p,q,rfl,rfl,rfl,h1,h2⟩:=trodAll_cons h;have hr:=ht t (by simp);exact trodAll_cons_mk (Below.trod hl hr.1 hr.2 h1 hb (fun x hx=>hlt x (by simp [hx])))
   (Qjo hl hb ts vs' ds' q (fun u hu=>ht u (by simp [hu])) h2 (fun x hx=>hlt x (by simp [hx])))
theorem list1 {α:Type} {l:List α} (h:l.length=1):∃ x0,l=[x0]:=by
 match l,h with
 | [x0],_=>exact ⟨x0,rfl⟩
theorem Zg0 {α:Type} {l:Array α} (h:l.size=1):∃ x0,l=#[x0]:=by
 obtain ⟨l⟩:=l;obtain ⟨x0,rfl⟩:=list1 h;exact ⟨x0,rfl⟩
theorem list2 {α:Type} {l:List α} (h:l.length=2):∃ x0 x1,l=[x0,x1]:=by
 match l,h with
 | [x0,x1],_=>exact ⟨x0,x1,rfl⟩
theorem Zgz {α:Type} {l:Array α} (h:l.size=2):∃ x0 x1,l=#[x0,x1]:=by
 obtain ⟨l⟩:=l;obtain ⟨x0,x1,rfl⟩:=list2 h;exact ⟨x0,x1,rfl⟩
theorem law_post {H:Type} {enc:TypeId × Value→H} {P:Program} {f:Func} {s:ChangeSpec} {W W':World} {args:Array Value} {ds gs:List (DataW H)} {before:List MemPlace} {tb:TypeId}
  (hl:laidOutB P=true) (hp:(f.params.toList.all fun t=>P.readableRec t&&decide (t<P.types.size))=true) (hr:f.resultTypes=#[tb]) (htb:P.underlying tb=some .bool) (hv:s.vars=[])
  (hfn:(s.fn H (ds++gs)).results=[.lit (.bool true)]) (hfa:(s.fn H (ds++gs)).args=ds) (hfv:(s.fn H (ds++gs)).vars=[])
  (hW:DataW.Whole enc P f.params.toList s.vars false W args.toList ds gs before) (hb:Below W.heap.size W W') :
  s.post enc P f false true false false W args (.bool true) W':=by
 have hlt:=hW.lt;have hW':=hW;obtain ⟨p,q,hA,hV,rfl,hz,hn⟩:=hW;refine ⟨ds,gs,p++q,[],p,[],hW',?_,?_,?_,hb.frame _,fun h=>by cases h⟩
 ·rw [hfn,hr];exact trodAll_cons_mk (shut_bool htb true) trodAll_mk0
 ·rw [hfa];refine Qjo hl hb _ _ _ _ (fun t ht=>?_) hA (fun x hx=>hlt x (by simp [hx]));have:=(List.all_eq_true.1 hp) t ht;simpa using this
 ·rw [hfv,hv];rfl
theorem Qk2 {H:Type} {P:Program} {ts:List TypeId} {ds:List (DataW H)} (h:(DataW.weightsEach P ts ds).all (·≤reachBytes)=true) {n:Nat} (hn:n∈DataW.weightsEach P ts ds):n≤140737488351232:=
 of_decide_eq_true (List.all_eq_true.1 h n hn)
end Copyhold

namespace Copyhold
open Go Go.RowKit Go.ChangeShapes Go.WideShapes Go.ChangeAt Go.Deep
def SlOf {α:Type} (R:α→List Value→Prop) (w:World) (k:Nat) (v:Value) (xs:List α):Prop:=
 ∃ css:List (List Value),Sl w k v xs.length css.flatten∧css.length=xs.length∧∀ (i:Nat) cs a,css[i]?=some cs→xs[i]?=some a→cs.length=k∧R a cs
theorem SlOf.mono {α:Type} {R R':α→List Value→Prop} {w:World} {k:Nat} {v:Value} {xs:List α} (h:SlOf R w k v xs) (hr:∀ a cs,R a cs→R' a cs):SlOf R' w k v xs:=by
 obtain ⟨css,h1,h2,h3⟩:=h;exact ⟨css,h1,h2,fun i cs a hc ha=>⟨(h3 i cs a hc ha).1,hr _ _ (h3 i cs a hc ha).2⟩⟩
theorem SlOf.shape {α:Type} {R:α→List Value→Prop} {w:World} {k:Nat} {v:Value} {xs:List α} (h:SlOf R w k v xs):∃ A c,v=.slice A xs.length c:=by
 obtain ⟨css,h1,_⟩:=h;obtain ⟨A,c,rfl,_⟩:=h1.shape;exact ⟨A,c,rfl⟩
theorem SlOf.below {α:Type} {R:α→List Value→Prop} {w w':World} {k:Nat} {v:Value} {xs:List α} (h:SlOf R w k v xs) (hb:Below w.heap.size w w'):SlOf R w' k v xs:=by
 obtain ⟨css,h1,h2,h3⟩:=h;exact ⟨css,h1.below hb,h2,h3⟩
theorem Qjd {k:Nat}:∀ (css:List (List Value)),(∀ cs∈css,cs.length=k)→∀ (i j:Nat),j<k→css.flatten[i*k+j]?=css[i]?.bind (·[j]?):=by
 intro css
 induction css with
 | nil=>intro _ i j _;simp
 | cons c r ih=>
  intro h i j hj;have hc:=h c List.mem_cons_self;have hr:=ih (fun cs hcs=>h cs (List.mem_cons_of_mem _ hcs));rw [List.flatten_cons];cases i with
  | zero=>
   rw [Nat.zero_mul,Nat.zero_add,List.getElem?_append_left (by omega)];simp
  | succ i=>
   rw [List.getElem?_append_right (by rw [hc,Nat.succ_mul];omega),hc,show (i+1)*k+j-k=i*k+j from by rw [Nat.succ_mul];omega,hr i j hj];simp
theorem SlOf.at {α:Type} {R:α→List Value→Prop} {w:World} {k:Nat} {A:Option Addr} {c:Nat} {xs:List α} (h:SlOf R w k (.slice A xs.length c) xs) (i:Nat) {a:α} (hi:xs[i]?=some a) :
  ∃ b off cs,A=some ⟨b,off,none⟩∧b<w.heap.size∧cs.length=k∧R a cs∧∀ j y,cs[j]?=some y→w.cell? ⟨b,off+(i*k+j),none⟩=some y:=by
 obtain ⟨css,h1,h2,h3⟩:=h;have hil:=(List.getElem?_eq_some_iff.1 hi).1;obtain ⟨b,off,rfl,hbk,_,_,hcl⟩:=h1.at (by omega);have hcs:css[i]?=some (css[i]'(by omega)):=List.getElem?_eq_getElem (by omega);obtain ⟨hl,hr⟩:=h3 i _ a hcs hi;have hall:∀ cs∈css,cs.length=k:=fun cs hm=>by
  obtain ⟨j,hj,rfl⟩:=List.mem_iff_getElem.1 hm;exact (h3 j _ _ (List.getElem?_eq_getElem hj) (List.getElem?_eq_getElem (by omega))).1
 refine ⟨b,off,_,rfl,hbk,hl,hr,fun j y hy=>hcl _ _ ?_⟩;have hj:=(List.getElem?_eq_some_iff.1 hy).1;rw [Qjd css hall i j (by omega),hcs];exact hy
def rowsD {H:Type} (d:DataW H) (n:Nat):Prop:=d=.nil∧n=0∨∃ elems spare,d=.slice elems spare∧elems.length=n
theorem Qo5 {H:Type} {P:Program} {t e:TypeId} {d:DataW H} {n:Nat} (hu:P.underlying t=some (.slice e)) (he:rowsD d n) (hw:∀ m∈DataW.weights P t d,m≤140737488351232):n*P.bytesOf e≤140737488351232:=by
 rcases he with ⟨rfl,rfl⟩ | ⟨elems,spare,rfl,hl⟩
 ·simp
 ·have:=hw ((elems.length+spare.length)*P.bytesOf e) (by simp only [DataW.weights,hu,List.mem_cons,true_or]);rw [Nat.add_mul,hl] at this;omega
theorem Qls {H:Type} {P:Program} {e:TypeId}:∀ (ds:List (DataW H)) (d:DataW H),d∈ds→∀ n∈DataW.weights P e d,n∈DataW.weightsAll P e ds
 | x :: r,d,h,n,hn=>by
  simp only [DataW.weightsAll,List.mem_append];rcases List.mem_cons.1 h with rfl | h
  ·exact .inl hn
  ·exact .inr (Qls r d h n hn)
theorem Qj1 {α:Type} {R:α→List Value→Prop} {H:Type} {enc:TypeId × Value→H} {P:Program} {W:World} {t e:TypeId} {k fuel:Nat} {cs:List Value} {x:DataW H × List MemPlace} (ht:P.underlying t=some (.slice e)) (hc:P.cellsOf e=k) (hk:0<k) (a0:α)
  (hel:∀ (n:Nat) (cs':List Value) (y:DataW H × List MemPlace),DataW.trod enc P W 0 (fun _=>true) true n e cs'=some y→(∀ p∈y.2,p.block<W.heap.size)→cs'.length=k→(∀ n∈DataW.weights P e y.1,n≤140737488351232)→∃ a,R a cs')
  (h:DataW.trod enc P W 0 (fun _=>true) true fuel t cs=some x) (hlt:∀ p∈x.2,p.block<W.heap.size) (hw:∀ n∈DataW.weights P t x.1,n≤140737488351232) :
  ∃ (v:Value) (xs:List α),cs=[v]∧SlOf R W k v xs∧rowsD x.1 xs.length:=by
 rcases open_slice ht h with ⟨rfl,rfl⟩ | ⟨a,len,cap,m,n,D,Pl,rfl,_,hl,hm,hmm,rfl,hi⟩
 ·exact ⟨_,[],rfl,⟨[],Sl.nil _ _,rfl,fun i cs a hc=>by simp at hc⟩,.inl ⟨rfl,rfl⟩⟩
 ·simp only [if_true] at hmm;subst hmm;have hel':∀ i:Nat,∃ q:α × List Value,i<len→q.2.length=k∧R q.1 q.2∧∀ j,j<k→W.cell? (a.add (i*k+j))=q.2[j]?:=by
   intro i;by_cases hil:i<len
   ·obtain ⟨cs',hcs,htr⟩:=hi i (by omega);rw [hc] at hcs;obtain ⟨_,hcl,hat⟩:=World.cells?_some hcs;obtain ⟨y,hy⟩:=hel n cs' _ htr (fun p hp=>hlt p (by
     simp only [List.mem_append,List.mem_flatMap];exact .inr ⟨i,List.mem_range.2 (by omega),hp⟩)) hcl (fun q hq=>hw q (by
     simp only [DataW.weights,ht,List.mem_cons,List.mem_append];exact .inr (.inl (Qls _ (D i) (List.mem_map.2 ⟨i,List.mem_range.2 hil,rfl⟩) q hq))))
    refine ⟨(y,cs'),fun _=>⟨hcl,hy,fun j hj=>?_⟩⟩;have:=hat j hj;rw [Go.Deep.add_add] at this;exact this
   ·exact ⟨(a0,[]),fun h=>absurd h hil⟩
  obtain ⟨f,hf⟩:=Classical.skolem.1 hel';have hlen:((List.range len).map fun i=>(f i).1).length=len:=by simp
  refine ⟨_,(List.range len).map fun i=>(f i).1,rfl,⟨(List.range len).map fun i=>(f i).2,?_,by simp,fun i cs y hcs hy=>?_⟩,.inr ⟨_,_,rfl,by simp⟩⟩
  ·have hall:∀ cs∈(List.range len).map fun i=>(f i).2,cs.length=k:=fun cs hm=>by
    obtain ⟨i,hi',rfl⟩:=List.mem_map.1 hm;exact (hf i (List.mem_range.1 hi')).1
   have hfl:((List.range len).map fun i=>(f i).2).flatten.length=len*k:=by
    rw [List.length_flatten];have:(((List.range len).map fun i=>(f i).2).map List.length)=List.replicate len k:=by
     apply List.ext_getElem (by simp);intro i h1 h2;simp at h1 ⊢;exact (hf i h1).1
    rw [this];simp
   refine ⟨some a,m,by rw [hlen],by rw [hlen];exact hl,by rw [hlen];exact hfl,fun h0=>?_⟩;rw [hlen] at h0;obtain ⟨b,off,spot⟩:=a;have h00:=(hf 0 h0).2.2 0 hk;have hl0:=(hf 0 h0).1;rw [List.getElem?_eq_getElem (by omega)] at h00;have hspot:spot=none:=by simpa [Addr.add] using World.cell?_spot h00
   subst hspot;refine ⟨b,off,rfl,?_,fun j y hy=>?_⟩
   ·exact Qwq (b:=b) (o:=off+(0*k+0)) (by rw [← Qbp];exact h00)
   ·have hj:=(List.getElem?_eq_some_iff.1 hy).1;rw [hfl] at hj;have hdiv:j / k<len:=Nat.div_lt_of_lt_mul (by rw [Nat.mul_comm];exact hj);have hmod:=Nat.mod_lt j hk;have hjj:j=j / k*k+j % k:=by rw [Nat.mul_comm];exact (Nat.div_add_mod j k).symm
    rw [hjj,Qjd _ hall _ _ hmod,List.getElem?_map,List.getElem?_range hdiv] at hy;simp only [Option.map_some,Option.bind_some] at hy;rw [hjj,← Qbp,(hf _ hdiv).2.2 _ hmod];exact hy
  ·have hil:i<len:=by have:=(List.getElem?_eq_some_iff.1 hy).1;rwa [hlen] at this
   rw [List.getElem?_map,List.getElem?_range hil] at hcs hy;simp only [Option.map_some,Option.some.injEq] at hcs hy;subst hcs hy;exact ⟨(hf i hil).1,(hf i hil).2.1⟩
end Copyhold

set_option linter.unusedVariables false
namespace Copyhold
open Go Go.RowKit
def Qi8 (D:Nat→Prop) (w:World) (xs:List AV) (cs:List Value):Prop:=cs.length=xs.length∧∀ (j:Nat) (a:AV) (u:Value),xs[j]?=some a→cs[j]?=some u→Ra D w a u
theorem Qo8 {α:Type} {R:α→List Value→Prop} {w:World} {k:Nat} {enc:α→List AV} {l:List α} {v:Value} (h:SlOf R w k v l) (D:Nat→Prop) (hD:∀ b,b<w.heap.size→D b)
  (hR:∀ x∈l,∀ cs,cs.length=k→R x cs→(∀ u∈cs,u.oneCell'=true)∧Qi8 D w (enc x) cs):Ra D w (.sl k false (l.map enc)) v:=by
 obtain ⟨css,⟨A,c,rfl,hnc,hl,hcells⟩,hcl,hel⟩:=h;have key:∀ (i:Nat) (x:α),l[i]?=some x→∃ cs,css[i]?=some cs∧cs.length=k∧(∀ u∈cs,u.oneCell'=true)∧Qi8 D w (enc x) cs:=fun i x hx=>by
  have hi:i<l.length:=(List.getElem?_eq_some_iff.1 hx).1;have hc:css[i]?=some (css[i]'(by omega)):=List.getElem?_eq_getElem (by omega);obtain ⟨h1,h2⟩:=hel i _ x hc hx;obtain ⟨h3,h4⟩:=hR x (List.mem_of_getElem? hx) _ h1 h2;exact ⟨_,hc,h1,h3,h4⟩
 have hall:∀ cs∈css,cs.length=k:=fun cs hm=>by
  obtain ⟨j,hj,rfl⟩:=List.mem_iff_getElem.1 hm;exact (hel j _ _ (List.getElem?_eq_getElem hj) (List.getElem?_eq_getElem (by omega))).1
 have hb:0<l.length→∃ b off,A=some ⟨b,off,none⟩∧b<w.heap.size∧∀ (j:Nat) (x:Value),css.flatten[j]?=some x→w.cell? ⟨b,off+j,none⟩=some x:=hcells;obtain ⟨b,off,hbo⟩:∃ b off,0<l.length→A=some ⟨b,off,none⟩∧b<w.heap.size∧∀ (j:Nat) (x:Value),css.flatten[j]?=some x→w.cell? ⟨b,off+j,none⟩=some x:=by
  by_cases h0:0<l.length
  ·obtain ⟨b,off,h⟩:=hb h0;exact ⟨b,off,fun _=>h⟩
  ·exact ⟨0,0,fun h=>absurd h h0⟩
 have main:=Ra.sl (D:=D) (w:=w) k false (l.map enc) A c b off (fun i j=>(css.getD i []).getD j undef) (by simpa using hnc) (fun h=>by cases h) (fun h0=>by
   obtain ⟨h1,h2,_⟩:=hbo (by simpa using h0);exact ⟨h1,hD b h2,h2⟩) (fun i e he=>by
   simp only [List.getElem?_map] at he;cases hx:l[i]? with
   | none=>rw [hx] at he;cases he
   | some x=>
    rw [hx] at he;obtain rfl:=Option.some.inj he;obtain ⟨cs,_,h2,_,h4⟩:=key i x hx;rw [← h4.1,h2]) (fun i e j y he hy=>by
   simp only [List.getElem?_map] at he;cases hx:l[i]? with
   | none=>rw [hx] at he;cases he
   | some x=>
    rw [hx] at he;obtain rfl:=Option.some.inj he;obtain ⟨cs,h1,h2,h3,h4⟩:=key i x hx;have hj:j<cs.length:=by rw [h4.1];exact (List.getElem?_eq_some_iff.1 hy).1
    have hc:cs[j]?=some cs[j]:=List.getElem?_eq_getElem hj;have hi:i<l.length:=(List.getElem?_eq_some_iff.1 hx).1;obtain ⟨_,_,hcc⟩:=hbo (by omega);simp only [List.getD,h1,Option.getD_some,hc];refine ⟨hcc _ _ ?_,h3 _ (List.getElem_mem hj)⟩;rw [Qjd css hall i j (by omega),h1];exact hc) (fun i e j y he hy=>by
   simp only [List.getElem?_map] at he;cases hx:l[i]? with
   | none=>rw [hx] at he;cases he
   | some x=>
    rw [hx] at he;obtain rfl:=Option.some.inj he;obtain ⟨cs,h1,h2,h3,h4⟩:=key i x hx;have hj:j<cs.length:=by rw [h4.1];exact (List.getElem?_eq_some_iff.1 hy).1
    have hc:cs[j]?=some cs[j]:=List.getElem?_eq_getElem hj;simp only [List.getD,h1,Option.getD_some,hc];exact h4.2 j y _ hy hc)
 rw [List.length_map] at main;exact main
def txA (l:List UInt8):List AV:=[aS l]
theorem Zfg {P:Program} {f:FuncId} {args:List AV} {V:Value} (h:∀ (D:Nat→Prop) (w:World) (vs:Array Value),Qde D w args vs→Calls P f vs w (fun e w'=>e=.returned V∧Below w.heap.size w w')):Qah P f args (.val V):=by
 intro D w vs hD hv;refine (h D w vs hv).mono ?_;rintro e w' ⟨rfl,hb⟩;exact ⟨V,D,rfl,hb,fun _ h=>h,fun b h=>⟨Nat.lt_of_lt_of_le (hD b h) hb.size,.inl h⟩,.val V⟩
theorem Qde.one {D:Nat→Prop} {w:World} {x:AV} {vs:Array Value} (h:Qde D w [x] vs):∃ v,vs=#[v]∧Ra D w x v:=by
 obtain ⟨h1,h2⟩:=h;obtain ⟨v,rfl⟩:=Zg0 h1.symm;exact ⟨v,rfl,h2 0 x v rfl rfl⟩
theorem Qde.two {D:Nat→Prop} {w:World} {x y:AV} {vs:Array Value} (h:Qde D w [x,y] vs):∃ u v,vs=#[u,v]∧Ra D w x u∧Ra D w y v:=by
 obtain ⟨h1,h2⟩:=h;obtain ⟨u,v,rfl⟩:=Zgz h1.symm;exact ⟨u,v,rfl,h2 0 x u rfl rfl,h2 1 y v rfl rfl⟩
end Copyhold
