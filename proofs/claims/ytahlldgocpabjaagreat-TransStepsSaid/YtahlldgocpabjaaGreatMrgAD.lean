import Derived.Test.YtahlldgocpabjaaGreatMrgJ
import Derived.Test.YtahlldgocpabjaaGreatMrgY
import Derived.Test.YtahlldgocpabjaaGreatMrgAC
import Derived.Test.YtahlldgocpabjaaGreatMrgX
set_option maxRecDepth 100000
set_option maxHeartbeats 8000000
set_option linter.unusedVariables false
set_option linter.unusedSimpArgs false
namespace Go.Proofs.YtahlldgocpabjaaGreat
open Go Go.RowKit Copyhold Go.Proofs.Tryz
def mkN (P:Program) (ops:Array Oper) (s:LS) (i:Nat):Option (TypeId × Int × Int × TypeId × List AV × Nat):=
 match opAt ops s i with
 | some o=>
  match o.op,o.dst with
  | .makeSlice t l c,some d=>
   match s.ev l,s.ev c,Qkn P t,bget s.bx d with
   | .val (.int .i64 m),.val (.int .i64 m'),some e,none=>
    match Qq9 P e with
    | some z=>some (t,m,m',e,z,d)
    | none=>none
   | _,_,_,_=>none
  | _,_=>none
 | none=>none
theorem Zf9 {P:Program} {t e:TypeId} {m:Int} {z:List AV} {d k:Nat} (n bytes:Nat) (hE:Qg1 P t e k bytes=true) (hm:m=(n:Int)) (hby:bytes*n≤140737488355328) (h63:n≤140737488355327) :
  ∀ (ops:Array Oper) (i:Nat) (s:LS) (K:FS→Prop) (rest:List Nat),mkN P ops s i=some (t,m,m,e,z,d)→(∀ V:Value,SeqR P ops K rest ((s.put (some d) (.rw d V n)).setB d (.row V e k (List.replicate n z))).fs)→SeqR P ops K (i :: rest) s.fs:=by
 intro ops i s K rest h kk;subst hm;unfold mkN at h
 split at h
 ·rename_i o ho;obtain ⟨hi,hg⟩:=Qbp ho
  split at h
  ·rename_i t' l c d' hop hd
   split at h
   ·rename_i m1 m2 e' hl hc hel hbn
    split at h
    ·rename_i z' hz;simp only [Option.some.injEq,Prod.mk.injEq] at h;obtain ⟨rfl,rfl,rfl,rfl,rfl,rfl⟩:=h;obtain ⟨zv,hEl⟩:=Qhw hE;obtain ⟨ht,hinf,hzs,hsz⟩:=id hEl;obtain ⟨ti,hti,htz,hsize,hbytes⟩:=Qf5 hinf;have hzk:z'.length=k:=by
      obtain ⟨it,z2,g1,g2,hrepz⟩:=Qfx (D:=fun _=>True) (w:=(default:World)) hz;rw [hti] at g1;obtain rfl:=Option.some.inj g1;rw [htz] at g2;obtain rfl:=Option.some.inj g2;have:=hrepz.1;omega
     have hkx:∀ l∈List.replicate n z',l.length=k:=fun l hl=>by rw [List.eq_of_mem_replicate hl];exact hzk
     refine ⟨o,hi,.inr ⟨hg,.inr (.inl ⟨by rw [hop];rfl,_,Qjf (e:=e') (k:=k) (xs:=List.replicate n z') hd hkx (fun D w ρ hops=>?_),?_⟩)⟩⟩
     ·have hvl:=Qa5 hops l (by simp [hop,Op.operands]);have hvc:=Qa5 hops c (by simp [hop,Op.operands]);rw [hl] at hvl;rw [hc] at hvc;generalize hlv:ρ l=vl at hvl;generalize hcv:ρ c=vc at hvc;cases hvl;cases hvc;obtain ⟨it,z2,g1,g2,hrepz⟩:=Qfx (D:=D) (w:=w) hz;rw [hti] at g1;obtain rfl:=Option.some.inj g1;rw [htz] at g2;obtain rfl:=Option.some.inj g2;have hb48:(ti.bytes:Int)*(n:Int)≤281474976710656:=by
       have h0:((bytes*n:Nat):Int)≤281474976710656:=by omega
       rw [hbytes]
       rwa [Int.natCast_mul] at h0
      have hrun:=run_make (P:=P) w t' e' ti zv ht hti htz .i64 .i64 (n:Int) (n:Int) (by omega) (by omega) hb48 (by omega);rw [hsize,Int.toNat_natCast] at hrun;have hcells:madeCells zv.cells (n*k)=(List.replicate n zv.cells.toList).flatten.toArray:=by
       have:=Qld zv.cells n (by omega);apply Array.ext';rw [← hzs,List.toList_toArray,← this];rfl
      rw [hcells] at hrun;have hrep:=Qfq hrepz n;have hlen:(List.replicate n zv.cells.toList).flatten.length=n*k:=by
       rw [Qfw (k:=k) (fun l hl=>by rw [List.eq_of_mem_replicate hl];simpa using hzs),List.length_replicate]
      refine ⟨.slice (some ⟨w.heap.size,0,none⟩) n n,w.alloc (.cells (List.replicate n zv.cells.toList).flatten.toArray e'),(List.replicate n zv.cells.toList).flatten,by simp [execOp,hop,hlv,hcv,hrun],World.grownBy_alloc w _ none,?_,fun u hu=>?_,fun j a u ha hu=>?_⟩
      ·refine ⟨by rw [hlen,List.length_replicate],.inr ⟨w.heap.size,n,_,by rw [List.length_replicate],Nat.le_refl _,heap_alloc_new w _,by rw [List.length_replicate];exact Nat.le_refl _,by unfold maxLen;omega,by simpa using hlen,?_⟩⟩;rw [List.length_replicate,List.toList_toArray,List.take_of_length_le (by omega)]
      ·obtain ⟨p,hp⟩:=List.mem_iff_getElem?.1 hu;exact hrep.2.1 p u (by simpa using hp)
      ·exact hrep.2.2 j a u ha (by simpa using hu)
     ·rintro y nb ⟨V',rfl,rfl⟩;refine ⟨fun id y hy=>?_,?_⟩
      ·obtain ⟨rfl,rfl⟩:=by simpa using hy
       exact hbn
      ·have:=kk V';rw [← LS.fs_setB,← LS.fs_put] at this;rw [hd,List.length_replicate];exact this
    ·cases h
   ·cases h
  ·cases h
 ·cases h
noncomputable def plF:Fsy→List Cal→Fsy
 | f,[]=>f
 | f,c :: r=>plF (doF f c).1 r
noncomputable def plR:Fsy→List Cal→List Rep
 | _,[]=>[]
 | f,c :: r=>(doF f c).2 :: plR (doF f c).1 r
theorem Zbw:∀ (a b:List Cal) (f:Fsy),plF f (a++b)=plF (plF f a) b
 | [],_,_=>rfl
 | c :: r,b,f=>Zbw r b (doF f c).1
theorem Zbv:∀ (a b:List Cal) (f:Fsy),plR f (a++b)=plR f a++plR (plF f a) b
 | [],_,_=>rfl
 | c :: r,b,f=>by
  show (doF f c).2 :: plR (doF f c).1 (r++b)=(doF f c).2 :: (plR (doF f c).1 r++plR (plF (doF f c).1 r) b);rw [Zbv r b]
theorem Qig:∀ (l:List Cal) (f:Fsy),(plR f l).length=l.length
 | [],_=>rfl
 | c :: r,f=>congrArg (·+1) (Qig r (doF f c).1)
theorem Zgn {f:Fsy} {l:List Cal} {k:Nat} {x:Cal} (h:l[k]?=some x):plF f (l.take (k+1))=(doF (plF f (l.take k)) x).1:=by
 rw [Qak h,Zbw];rfl
theorem Zgm {f:Fsy} {l:List Cal} {k:Nat} {x:Cal} (h:l[k]?=some x):plR f (l.take (k+1))=plR f (l.take k)++[(doF (plF f (l.take k)) x).2]:=by
 rw [Qak h,Zbv];rfl
structure KeptN (f g:Fsy) (k:Nat):Prop where
 ok:OkF g
 tree:TreeP g
 next:f.next≤g.next∧g.next≤f.next+k
 few:wF g≤wF f+2*k
theorem Zc2 {f:Fsy} (okf:OkF f) (T:TreeP f) {l:List Cal} (hl:l.length≤1000) (ok:∀ c∈l,OkCal c) (hx:f.next<1152921504606847976):∀ k,k≤l.length→KeptN f (plF f (l.take k)) k
 | 0,_=>⟨okf,T,⟨Int.le_refl _,by show f.next≤_;omega⟩,by show wF f≤_;omega⟩
 | k+1,hk=>by
  have ih:=Zc2 okf T hl ok hx k (by omega);have h:=List.getElem?_eq_getElem (l:=l) (i:=k) (by omega);have K:=Zc4 ih.ok (ok _ (List.mem_of_getElem? h)) ih.tree (by have:=ih.next.2;omega);rw [Zgn h];have h1:=ih.next;have h2:=K.next;have h3:=ih.few;have h4:=K.few;exact ⟨K.ok,K.tree,by omega,by omega⟩
def zRA (_:Unit):List AV:=[aI 0,aI 0,aI 0,aI 0,aS [],aN]
def prow (R:List Rep) (n:Nat):List (List AV):=R.map repA++List.replicate (n-R.length) (zRA ())
theorem Qpu {R:List Rep} {n:Nat} (h:R.length≤n):(prow R n).length=n:=by
 unfold prow;rw [List.length_append,List.length_map,List.length_replicate];omega
theorem Zgk {R:List Rep} {n k:Nat} (h:R.length=k) (hk:k<n):(prow R n)[k]?=some (zRA ()):=by
 unfold prow;rw [List.getElem?_append_right (by rw [List.length_map];omega),List.length_map,h,Nat.sub_self,List.getElem?_replicate,if_pos (by omega)]
theorem Zgj {R:List Rep} {n k:Nat} {v:Rep} (h:R.length=k) (hk:k<n):(prow R n).set k ((zRA ()).take 0++repA v++(zRA ()).drop (0+(repA v).length))=prow (R++[v]) n:=by
 have e:(zRA ()).take 0++repA v++(zRA ()).drop (0+(repA v).length)=repA v:=rfl;rw [e];unfold prow;rw [List.set_append_right _ _ (by rw [List.length_map];omega),List.length_map,h,Nat.sub_self,List.length_append,h,show n-k=(n-(k+1))+1 from by omega,List.replicate_succ,List.set_cons_zero,List.map_append];simp
theorem Zbs {R:List Rep} {n:Nat} (h:R.length=n):prow R n=R.map repA:=by
 unfold prow;rw [h,Nat.sub_self];simp
theorem Zh5 {f:Fsy} {c:Cal} (hp:Qam f):(doF f c).2.names.length≤256:=by
 have key:(Qbu f c).2.names.length≤256:=by
  rcases (show c.kind=1∨c.kind=2∨c.kind=3∨c.kind=4∨c.kind=5∨c.kind=6∨c.kind=7∨c.kind=8∨c.kind=9∨c.kind=10∨c.kind=11∨c.kind=12∨c.kind=13∨c.kind=14∨c.kind=15∨(c.kind<1∨c.kind>15) from by omega) with h | h | h | h | h | h | h | h | h | h | h | h | h | h | h | h
  ·rw [Qxe h];exact Nat.zero_le _
  ·rw [Qsw h];unfold Qiw;split<;>exact Nat.zero_le _
  ·rw [Qsv h];unfold Qi4;split<;>exact Nat.zero_le _
  ·rw [Qsu h];unfold Qey;split<;>exact Nat.zero_le _
  ·rw [Qst h];unfold cutO;split<;>exact Nat.zero_le _
  ·rw [Qo7 h];exact Nat.zero_le _
  ·rw [Qss h];exact Nat.zero_le _
  ·rw [Qsr h];unfold symO;split<;>exact Nat.zero_le _
  ·rw [Qo6 h];unfold Qcs;split
   ·split<;>exact Nat.zero_le _
   ·exact Nat.zero_le _
  ·rw [Qko h];unfold Qcs;split
   ·split<;>exact Nat.zero_le _
   ·exact Nat.zero_le _
  ·rw [Qqu h];exact Nat.zero_le _
  ·rw [Qqt h];exact Nat.zero_le _
  ·rw [Qne h];exact Nat.zero_le _
  ·rw [Qqs h];show ((dirN f c.ino).l.map Ent.name).length≤256;rw [List.length_map];exact (Qc5 hp c.ino).2
  ·rw [Qqr h];exact Nat.zero_le _
  ·rw [Qqq h];exact Nat.zero_le _
 unfold doF
 split
 ·exact key
 ·exact Nat.zero_le _
theorem rep_eq {x y:Rep} (h1:x.e=y.e) (h2:x.a=y.a) (h3:x.b=y.b) (h4:x.n=y.n) (h5:x.text=y.text) (h6:x.names=y.names):x=y:=by cases x;cases y;simp_all
def pN (l:List Int) (n:Int):Nat:=(l.takeWhile fun x=>decide (x<n)).length
theorem Zk6 (l:List Int) (n:Int):pN l n≤l.length:=(List.takeWhile_sublist _).length_le
theorem Qrx {n:Int}:∀ {l:List Int} {k:Nat} {x:Int},k≤pN l n→l[k]?=some x→(x<n↔k<pN l n)
 | [],k,x,_,hx=>(by simp at hx)
 | a :: r,k,x,hk,hx=>by
  by_cases ha:a<n
  ·have e:pN (a :: r) n=pN r n+1:=by unfold pN;rw [List.takeWhile_cons,if_pos (by simpa using ha)];rfl
   rw [e] at hk ⊢;cases k with
   | zero=>
    simp at hx;subst hx;exact ⟨fun _=>by omega,fun _=>ha⟩
   | succ k=>
    have:=Qrx (n:=n) (l:=r) (k:=k) (x:=x) (by omega) (by simpa using hx);rw [this];omega
  ·have e:pN (a :: r) n=0:=by unfold pN;rw [List.takeWhile_cons,if_neg (by simpa using ha)];rfl
   rw [e] at hk ⊢;obtain rfl:k=0:=by omega
   simp at hx;subst hx;exact ⟨fun h=>absurd h ha,fun h=>by omega⟩
def wiK (l:List Int) (n:Int) (k j:Nat):List Int:=l.take k++n :: ((l.drop k).take (j-k)).filter fun x=>x != n
theorem Zff (l:List Int) (n:Int) (k:Nat):wiK l n k k=l.take k++[n]:=by unfold wiK;simp
theorem Qvw {l:List Int} {n:Int} {k j:Nat} {x:Int} (h:l[j]?=some x) (hkj:k≤j):wiK l n k (j+1)=wiK l n k j++[x].filter fun x=>x != n:=by
 unfold wiK;rw [show j+1-k=(j-k)+1 from by omega,Qak (l:=l.drop k) (k:=j-k) (x:=x) (by rw [List.getElem?_drop,show k+(j-k)=j from by omega];exact h),List.filter_append];simp
theorem Qpf {l:List Int} {n:Int} {k j:Nat} {x:Int} (h:l[j]?=some x) (hkj:k≤j) (q:(x != n)=true):wiK l n k (j+1)=wiK l n k j++[x]:=by rw [Qvw h hkj];simp [List.filter_cons,q]
theorem Qvx {l:List Int} {n:Int} {k j:Nat} {x:Int} (h:l[j]?=some x) (hkj:k≤j) (q:(x != n)=false):wiK l n k (j+1)=wiK l n k j:=by rw [Qvw h hkj];simp [List.filter_cons,q]
theorem Qgf (l:List Int) (n:Int) (k j:Nat) (hk:k≤l.length):(wiK l n k j).length≤l.length+1:=by
 unfold wiK;have:=List.length_filter_le (fun x=>x != n) ((l.drop k).take (j-k));simp only [List.length_append,List.length_cons,List.length_take,List.length_drop] at this ⊢;omega
def Qcq (l:List Int) (n:Int):List Int:=wiK l n (pN l n) l.length
theorem Qhb (l:List Int) (n:Int):(Qcq l n).length≤l.length+1:=Qgf l n _ _ (Zk6 l n)
theorem Qc7 (l:List Int) (n:Int) (hl:l.length≤100000):Qaf prog 50 [.sl 1 false (l.map intA),aI n] (.sl 1 false ((Qcq l n).map intA)):=by
 exact Qac func50 (
 .r 1<|.r 1<|.rowNil 5 5 3 1<|.r 1<|let L1:Lp (Nat × Value):=⟨fun a1=>⟨[(0,.sl 1 false (l.map intA)),(1,aI n),(6,aI (a1.1:Int)),(5,.rw 5 a1.2 ((l.take a1.1).length))],[(5,.row a1.2 3 1 ((l.take a1.1).map intA))]⟩,fun a1=>l.length-a1.1,fun a1=>a1.1≤l.length∧a1.1≤pN l n⟩
 .lp L1 (0,.slice none 0 0) ⟨Nat.zero_le _,Nat.zero_le _⟩ [(6,aI 0),(5,.rw 5 (.slice none 0 0) 0)] [(5,.row (.slice none 0 0) 3 1 ([]))] ⟨sR,sR,sO,Sub.of_eq (congrArg (AV.rw 5 (.slice none 0 0)) (by simp)),trivial⟩ ⟨⟨_,rfl,SubB.of_eq (by simp)⟩,trivial⟩ fun a1 ha1=>
 (fun (k:Nat) (V:Value) (hH1:k≤l.length∧k≤pN l n)=>.r 3<|.lm 9 l intA<|.r 2<|.bd 11 ((k:Int)<(l.length:Int)) (fun p1=>.r 2<|.idxM l intA k (m:=(k:Int)) rfl (by omega) fun x1 hx1=>
 .r 4<|.bd 18 (x1<n) (fun p2=>.r 3<|.idx k (m:=(k:Int)) (xs:=l.map intA) (e:=intA x1) rfl (map_some hx1)<|
 .r 2<|.app 8 V ((l.take k).map intA) ([[aI x1]]) (by first | (simp only [List.length_map,List.length_cons,List.length_nil,List.length_take,List.length_append];omega) | (have hw:=Qgf l n k j (by omega);simp only [List.length_map,List.length_cons,List.length_nil,List.length_append];omega)) (by first | (simp only [List.length_map,List.length_cons,List.length_nil,List.length_take,List.length_append];omega) | (have hw:=Qgf l n k j (by omega);simp only [List.length_map,List.length_cons,List.length_nil,List.length_append];omega)) fun V1=>
 .r 1<|.run 3 [rng .i64 ((k:Int)+1)] ⟨Qaj (by omega) (by omega),trivial⟩<|
 .bk L1 (k,V) ((k+1),V1) (show (k+1)≤l.length∧(k+1)≤pN l n from (by refine ⟨by omega,?_⟩;have:=(Qrx hH1.2 hx1).1 (by omega);omega)) (show l.length-(k+1)<l.length-k from (by omega)) [(6,aI ((k:Int)+1)),(5,.rw 5 V1 (((l.take k).map intA).length+([[aI x1]]:List (List AV)).length))] [(5,.row V1 3 1 (((l.take k).map intA)++([[aI x1]])))] ⟨sR,sR,sO,Sub.of_eq (congrArg (AV.rw 5 V1) (by rw [Qak hx1];simp)),trivial⟩ ⟨⟨_,rfl,SubB.of_eq (by rw [Qak hx1];simp [intA])⟩,trivial⟩)
 <| fun p2=>.r 3<|.app 8 V ((l.take k).map intA) ([[aI n]]) (by first | (simp only [List.length_map,List.length_cons,List.length_nil,List.length_take,List.length_append];omega) | (have hw:=Qgf l n k j (by omega);simp only [List.length_map,List.length_cons,List.length_nil,List.length_append];omega)) (by first | (simp only [List.length_map,List.length_cons,List.length_nil,List.length_take,List.length_append];omega) | (have hw:=Qgf l n k j (by omega);simp only [List.length_map,List.length_cons,List.length_nil,List.length_append];omega)) fun V2=>
 .r 1<|let L2:Lp (Nat × Value):=⟨fun a2=>⟨[(0,.sl 1 false (l.map intA)),(1,aI n),(6,aI (a2.1:Int)),(5,.rw 5 a2.2 ((wiK l n k a2.1).length))],[(5,.row a2.2 3 1 ((wiK l n k a2.1).map intA))]⟩,fun a2=>l.length-a2.1,fun a2=>k≤a2.1∧a2.1≤l.length⟩
 .lp L2 (k,V2) ⟨Nat.le_refl _,by omega⟩ [(5,.rw 5 V2 (((l.take k).map intA).length+([[aI n]]:List (List AV)).length))] [(5,.row V2 3 1 (((l.take k).map intA)++([[aI n]])))] ⟨sR,sR,sR,Sub.of_eq (congrArg (AV.rw 5 V2) (by rw [Zff];simp)),trivial⟩ ⟨⟨_,rfl,SubB.of_eq (by rw [Zff];simp [intA])⟩,trivial⟩ fun a2 ha2=>
 (fun (j:Nat) (W:Value) (hH2:k≤j∧j≤l.length)=>.r 3<|.lm 34 l intA<|.r 1<|.bd 35 ((j:Int)<(l.length:Int)) (fun p3=>.r 2<|.idxM l intA j (m:=(j:Int)) rfl (by omega) fun x2 hx2=>
 .r 3<|.br 41 (x2 != n) (fun q4=>have p4:=bneT q4;.r 3<|.idx j (m:=(j:Int)) (xs:=l.map intA) (e:=intA x2) rfl (map_some hx2)<|
 .r 2<|.app 8 W ((wiK l n k j).map intA) ([[aI x2]]) (by first | (simp only [List.length_map,List.length_cons,List.length_nil,List.length_take,List.length_append];omega) | (have hw:=Qgf l n k j (by omega);simp only [List.length_map,List.length_cons,List.length_nil,List.length_append];omega)) (by first | (simp only [List.length_map,List.length_cons,List.length_nil,List.length_take,List.length_append];omega) | (have hw:=Qgf l n k j (by omega);simp only [List.length_map,List.length_cons,List.length_nil,List.length_append];omega)) fun V3=>
 .r 1<|.run 3 [rng .i64 ((j:Int)+1)] ⟨Qaj (by omega) (by omega),trivial⟩<|
 .bk L2 (j,W) ((j+1),V3) (show k≤(j+1)∧(j+1)≤l.length from (by show _≤_∧_;omega)) (show l.length-(j+1)<l.length-j from (by omega)) [(6,aI ((j:Int)+1)),(5,.rw 5 V3 (((wiK l n k j).map intA).length+([[aI x2]]:List (List AV)).length))] [(5,.row V3 3 1 (((wiK l n k j).map intA)++([[aI x2]])))] ⟨sR,sR,sO,Sub.of_eq (congrArg (AV.rw 5 V3) (by rw [Qpf hx2 (by omega) (by simpa [bne] using q4)];simp)),trivial⟩ ⟨⟨_,rfl,SubB.of_eq (by rw [Qpf hx2 (by omega) (by simpa [bne] using q4)];simp [intA])⟩,trivial⟩)
 <| fun q4=>have p4:=bneF q4;.run 3 [rng .i64 ((j:Int)+1)] ⟨Qaj (by omega) (by omega),trivial⟩<|
 .bk L2 (j,W) ((j+1),W) (show k≤(j+1)∧(j+1)≤l.length from (by show _≤_∧_;omega)) (show l.length-(j+1)<l.length-j from (by omega)) [(6,aI ((j:Int)+1)),(5,.rw 5 W ((wiK l n k j).length))] [(5,.row W 3 1 ((wiK l n k j).map intA))] ⟨sR,sR,sO,Sub.of_eq (congrArg (AV.rw 5 W) (by rw [Qvx hx2 (by omega) (by simpa [bne] using q4)])),trivial⟩ ⟨⟨_,rfl,SubB.of_eq (by rw [Qvx hx2 (by omega) (by simpa [bne] using q4)])⟩,trivial⟩)
 <| fun p3=>.r 2<|.frz 5 [4] [] [W=W,(wiK l n k j).length=((wiK l n k j).map intA).length] ⟨rfl,(by first | rfl | (simp;done) | (simp;omega)),trivial⟩<|
 .f (.sl 1 false ((Qcq l n).map intA)) [] (.sl 1 false ((wiK l n k j).map intA)) (by
  have hk:k=pN l n:=by
   have hq:=Zk6 l n;have hk1:=hH1.2;by_cases h:k<pN l n
   ·have:=(Qrx hH1.2 hx1).2 h;omega
   ·omega
  have e:wiK l n k j=Qcq l n:=by unfold Qcq;rw [hk,show j=l.length from by omega]
  rw [← e]
  first | exact sR | exact Sub.loose _ _ _)) a2.1 a2.2 ha2)
 <| fun p1=>.r 7<|.r 3<|.app 8 V ((l.take k).map intA) ([[aI n]]) (by first | (simp only [List.length_map,List.length_cons,List.length_nil,List.length_take,List.length_append];omega) | (have hw:=Qgf l n k j (by omega);simp only [List.length_map,List.length_cons,List.length_nil,List.length_append];omega)) (by first | (simp only [List.length_map,List.length_cons,List.length_nil,List.length_take,List.length_append];omega) | (have hw:=Qgf l n k j (by omega);simp only [List.length_map,List.length_cons,List.length_nil,List.length_append];omega)) fun V4=>
 .r 1<|let L2:Lp (Nat × Value):=⟨fun a2=>⟨[(0,.sl 1 false (l.map intA)),(1,aI n),(6,aI (a2.1:Int)),(5,.rw 5 a2.2 ((wiK l n k a2.1).length))],[(5,.row a2.2 3 1 ((wiK l n k a2.1).map intA))]⟩,fun a2=>l.length-a2.1,fun a2=>k≤a2.1∧a2.1≤l.length⟩
 .lp L2 (k,V4) ⟨Nat.le_refl _,by omega⟩ [(5,.rw 5 V4 (((l.take k).map intA).length+([[aI n]]:List (List AV)).length))] [(5,.row V4 3 1 (((l.take k).map intA)++([[aI n]])))] ⟨sR,sR,sR,Sub.of_eq (congrArg (AV.rw 5 V4) (by rw [Zff];simp)),trivial⟩ ⟨⟨_,rfl,SubB.of_eq (by rw [Zff];simp [intA])⟩,trivial⟩ fun a2 ha2=>
 (fun (j:Nat) (W:Value) (hH2:k≤j∧j≤l.length)=>.r 3<|.lm 34 l intA<|.r 1<|.bd 35 ((j:Int)<(l.length:Int)) (fun p5=>.r 2<|.idxM l intA j (m:=(j:Int)) rfl (by omega) fun x3 hx3=>
 .r 3<|.br 41 (x3 != n) (fun q6=>have p6:=bneT q6;.r 3<|.idx j (m:=(j:Int)) (xs:=l.map intA) (e:=intA x3) rfl (map_some hx3)<|
 .r 2<|.app 8 W ((wiK l n k j).map intA) ([[aI x3]]) (by first | (simp only [List.length_map,List.length_cons,List.length_nil,List.length_take,List.length_append];omega) | (have hw:=Qgf l n k j (by omega);simp only [List.length_map,List.length_cons,List.length_nil,List.length_append];omega)) (by first | (simp only [List.length_map,List.length_cons,List.length_nil,List.length_take,List.length_append];omega) | (have hw:=Qgf l n k j (by omega);simp only [List.length_map,List.length_cons,List.length_nil,List.length_append];omega)) fun V5=>
 .r 1<|.run 3 [rng .i64 ((j:Int)+1)] ⟨Qaj (by omega) (by omega),trivial⟩<|
 .bk L2 (j,W) ((j+1),V5) (show k≤(j+1)∧(j+1)≤l.length from (by show _≤_∧_;omega)) (show l.length-(j+1)<l.length-j from (by omega)) [(6,aI ((j:Int)+1)),(5,.rw 5 V5 (((wiK l n k j).map intA).length+([[aI x3]]:List (List AV)).length))] [(5,.row V5 3 1 (((wiK l n k j).map intA)++([[aI x3]])))] ⟨sR,sR,sO,Sub.of_eq (congrArg (AV.rw 5 V5) (by rw [Qpf hx3 (by omega) (by simpa [bne] using q6)];simp)),trivial⟩ ⟨⟨_,rfl,SubB.of_eq (by rw [Qpf hx3 (by omega) (by simpa [bne] using q6)];simp [intA])⟩,trivial⟩)
 <| fun q6=>have p6:=bneF q6;.run 3 [rng .i64 ((j:Int)+1)] ⟨Qaj (by omega) (by omega),trivial⟩<|
 .bk L2 (j,W) ((j+1),W) (show k≤(j+1)∧(j+1)≤l.length from (by show _≤_∧_;omega)) (show l.length-(j+1)<l.length-j from (by omega)) [(6,aI ((j:Int)+1)),(5,.rw 5 W ((wiK l n k j).length))] [(5,.row W 3 1 ((wiK l n k j).map intA))] ⟨sR,sR,sO,Sub.of_eq (congrArg (AV.rw 5 W) (by rw [Qvx hx3 (by omega) (by simpa [bne] using q6)])),trivial⟩ ⟨⟨_,rfl,SubB.of_eq (by rw [Qvx hx3 (by omega) (by simpa [bne] using q6)])⟩,trivial⟩)
 <| fun p5=>.r 2<|.frz 5 [4] [] [W=W,(wiK l n k j).length=((wiK l n k j).map intA).length] ⟨rfl,(by first | rfl | (simp;done) | (simp;omega)),trivial⟩<|
 .f (.sl 1 false ((Qcq l n).map intA)) [] (.sl 1 false ((wiK l n k j).map intA)) (by
  have hk:k=pN l n:=by
   have hq:=Zk6 l n;have hk1:=hH1.2;omega
  have e:wiK l n k j=Qcq l n:=by unfold Qcq;rw [hk,show j=l.length from by omega]
  rw [← e]
  first | exact sR | exact Sub.loose _ _ _)) a2.1 a2.2 ha2) a1.1 a1.2 ha1)
def Qbv (l:List Int) (f:Fsy) (d:Int) (s:Txt):List Int:=if isB (Qaa f d).l s=true then Qcq l (getI (Qaa f d).l s) else l
theorem Qck (l:List Int) (f:Fsy) (d:Int) (s:Txt):(Qbv l f d s).length≤l.length+1:=by
 unfold Qbv
 split
 ·exact Qhb _ _
 ·omega
def rl0 (c:Cal):List Int:=Qcq (Qcq [] c.ino) c.to
theorem Qgo (c:Cal):(rl0 c).length≤2:=by
 have:=Qhb [] c.ino;have:=Qhb (Qcq [] c.ino) c.to;unfold rl0;simp at *;omega
def Qic (f:Fsy) (c:Cal):List Int:=if c.kind=15 then [0] else Qbv (Qbv (Qbv (Qbv (rl0 c) f c.ino c.name) f c.ino c.name2) f c.to c.name) f c.to c.name2
theorem Qhn (l:List Int) (f:Fsy) (d:Int) (s:Txt) (hp:Qam f) (hs:s.length≤1000000) (hll:l.length≤100000):Qaf prog 98 [.sl 1 false (l.map intA),.agg (fsyA f),aI d,aS s] (.sl 1 false ((Qbv l f d s).map intA)):=by
 have hl:=hp.1;have hr:=Qad hp;exact Qac func98 (
 .new fun b1=>.r 1<|.u 2 [b1]<|
 .call (Qa9 f d (by omega))<|
 .r 3<|.new fun b2=>.u 2 [b2]<|
 .u 3 [b2]<|
 .call (Qdu (Qaa f d).l s (by have:=(Qeg hp d).2;omega))<|
 .r 5<|.r 2<|.br 27 (!(isB (Qaa f d).l s)) (fun q1=>have q1:=notT q1;have p1:=booF q1;.r 2<|.f (.sl 1 false ((Qbv l f d s).map intA)) [] (.sl 1 false (l.map intA)) (by
  rw [show Qbv l f d s=_ from if_neg (by rw [q1];decide)];exact sR))
 <| fun q1=>have q1:=notF q1;have p1:=booT q1;.r 2<|.call (Qc7 l (getI (Qaa f d).l s) hll)<|
 .r 1<|.f (.sl 1 false ((Qbv l f d s).map intA)) [] (.sl 1 false ((Qcq l (getI (Qaa f d).l s)).map intA)) (by
  rw [show Qbv l f d s=_ from if_pos q1];exact sR))
theorem Qub (f:Fsy) (c:Cal) (okf:OkF f) (okc:OkCal c) (hp:Qam f):Qaf prog 54 [.agg (fsyA f),.agg (calA c)] (.sl 1 false ((Qic f c).map intA)):=by
 have hl:=hp.1;have hr:=Qad hp;have hcn:=okc.name;have hcn2:=okc.name2;have hct:=okc.text;exact Qac func54 (
 .new fun b1=>.new fun b2=>.r 1<|.u 3 [b2]<|
 .be 8 c.kind 15 (fun p1=>.r 2<|.f (.sl 1 false ((Qic f c).map intA)) [] (.sl 1 true ([[aI 0]])) (by
  rw [show Qic f c=_ from if_pos (by omega)]
  first | exact sR | exact Sub.loose _ _ _))
 <| fun p1=>.ord [0,1,3,4,2,5,6]<|.u 4 [b2,b2]<|
 .cs (args0:=[aN,aI c.ino]) (Qc7 [] c.ino (by simp)) ⟨Sub.nil _ _,sR,trivial⟩<|
 .call (Qc7 (Qcq [] c.ino) c.to (by have:=Qhb [] c.ino;simp at this;omega))<|
 .r 1<|.ord [0,1,2,3,4,5,7,8,9,10,11,13,14,15,16,17,19,20,21,22,23,6,12,18,24,25]<|.u 21 [b1,b2,b2,b1,b2,b2,b1,b2,b2,b1,b2,b2]<|
 .call (Qhn (rl0 c) f c.ino c.name hp hcn (by first | (have:=Qgo c;omega) | (have h0:=Qgo c;have h1:=Qck (rl0 c) f c.ino c.name;have h2:=Qck (Qbv (rl0 c) f c.ino c.name) f c.ino c.name2;have h3:=Qck (Qbv (Qbv (rl0 c) f c.ino c.name) f c.ino c.name2) f c.to c.name;omega)))<|
 .call (Qhn (Qbv (rl0 c) f c.ino c.name) f c.ino c.name2 hp hcn2 (by first | (have:=Qgo c;omega) | (have h0:=Qgo c;have h1:=Qck (rl0 c) f c.ino c.name;have h2:=Qck (Qbv (rl0 c) f c.ino c.name) f c.ino c.name2;have h3:=Qck (Qbv (Qbv (rl0 c) f c.ino c.name) f c.ino c.name2) f c.to c.name;omega)))<|
 .call (Qhn (Qbv (Qbv (rl0 c) f c.ino c.name) f c.ino c.name2) f c.to c.name hp hcn (by first | (have:=Qgo c;omega) | (have h0:=Qgo c;have h1:=Qck (rl0 c) f c.ino c.name;have h2:=Qck (Qbv (rl0 c) f c.ino c.name) f c.ino c.name2;have h3:=Qck (Qbv (Qbv (rl0 c) f c.ino c.name) f c.ino c.name2) f c.to c.name;omega)))<|
 .call (Qhn (Qbv (Qbv (Qbv (rl0 c) f c.ino c.name) f c.ino c.name2) f c.to c.name) f c.to c.name2 hp hcn2 (by first | (have:=Qgo c;omega) | (have h0:=Qgo c;have h1:=Qck (rl0 c) f c.ino c.name;have h2:=Qck (Qbv (rl0 c) f c.ino c.name) f c.ino c.name2;have h3:=Qck (Qbv (Qbv (rl0 c) f c.ino c.name) f c.ino c.name2) f c.to c.name;omega)))<|
 .r 1<|.f (.sl 1 false ((Qic f c).map intA)) [] (.sl 1 false ((Qbv (Qbv (Qbv (Qbv (rl0 c) f c.ino c.name) f c.ino c.name2) f c.to c.name) f c.to c.name2).map intA)) (by
  rw [show Qic f c=_ from if_neg (by omega)]
  first | exact sR | exact Sub.loose _ _ _))
def lenB (n:Int):Int:=if n=0 then 0 else if n=1 then 1 else if n≤3 then 2 else if n≤7 then 3 else 4
theorem len_c0 (w:World):Calls prog 203 #[.int .u64 0] w fun e w'=>e=.returned (.int .i64 0)∧w=w':=by
 go_enter func203,Tryz.ntmps203
 go_wp2_with fail
 go_ret
 exact ⟨by kernel_rfl,rfl⟩
theorem len_c1 (w:World):Calls prog 203 #[.int .u64 1] w fun e w'=>e=.returned (.int .i64 1)∧w=w':=by
 go_enter func203,Tryz.ntmps203
 go_wp2_with fail
 go_ret
 exact ⟨by kernel_rfl,rfl⟩
theorem len_c2 (w:World):Calls prog 203 #[.int .u64 2] w fun e w'=>e=.returned (.int .i64 2)∧w=w':=by
 go_enter func203,Tryz.ntmps203
 go_wp2_with fail
 go_ret
 exact ⟨by kernel_rfl,rfl⟩
theorem len_c3 (w:World):Calls prog 203 #[.int .u64 3] w fun e w'=>e=.returned (.int .i64 2)∧w=w':=by
 go_enter func203,Tryz.ntmps203
 go_wp2_with fail
 go_ret
 exact ⟨by kernel_rfl,rfl⟩
theorem len_c4 (w:World):Calls prog 203 #[.int .u64 4] w fun e w'=>e=.returned (.int .i64 3)∧w=w':=by
 go_enter func203,Tryz.ntmps203
 go_wp2_with fail
 go_ret
 exact ⟨by kernel_rfl,rfl⟩
theorem len_c5 (w:World):Calls prog 203 #[.int .u64 5] w fun e w'=>e=.returned (.int .i64 3)∧w=w':=by
 go_enter func203,Tryz.ntmps203
 go_wp2_with fail
 go_ret
 exact ⟨by kernel_rfl,rfl⟩
theorem len_c6 (w:World):Calls prog 203 #[.int .u64 6] w fun e w'=>e=.returned (.int .i64 3)∧w=w':=by
 go_enter func203,Tryz.ntmps203
 go_wp2_with fail
 go_ret
 exact ⟨by kernel_rfl,rfl⟩
theorem len_c7 (w:World):Calls prog 203 #[.int .u64 7] w fun e w'=>e=.returned (.int .i64 3)∧w=w':=by
 go_enter func203,Tryz.ntmps203
 go_wp2_with fail
 go_ret
 exact ⟨by kernel_rfl,rfl⟩
theorem len_c8 (w:World):Calls prog 203 #[.int .u64 8] w fun e w'=>e=.returned (.int .i64 4)∧w=w':=by
 go_enter func203,Tryz.ntmps203
 go_wp2_with fail
 go_ret
 exact ⟨by kernel_rfl,rfl⟩
theorem len_c9 (w:World):Calls prog 203 #[.int .u64 9] w fun e w'=>e=.returned (.int .i64 4)∧w=w':=by
 go_enter func203,Tryz.ntmps203
 go_wp2_with fail
 go_ret
 exact ⟨by kernel_rfl,rfl⟩
theorem Zlo (w:World):Calls prog 203 #[.int .u64 10] w fun e w'=>e=.returned (.int .i64 4)∧w=w':=by
 go_enter func203,Tryz.ntmps203
 go_wp2_with fail
 go_ret
 exact ⟨by kernel_rfl,rfl⟩
theorem Zln (w:World):Calls prog 203 #[.int .u64 11] w fun e w'=>e=.returned (.int .i64 4)∧w=w':=by
 go_enter func203,Tryz.ntmps203
 go_wp2_with fail
 go_ret
 exact ⟨by kernel_rfl,rfl⟩
theorem Zlm (w:World):Calls prog 203 #[.int .u64 12] w fun e w'=>e=.returned (.int .i64 4)∧w=w':=by
 go_enter func203,Tryz.ntmps203
 go_wp2_with fail
 go_ret
 exact ⟨by kernel_rfl,rfl⟩
theorem Zcv (n:Int) (h0:0≤n) (h1:n≤12) (w:World):Calls prog 203 #[.int .u64 n] w fun e w'=>e=.returned (.int .i64 (lenB n))∧w=w':=by
 rcases (show n=0∨n=1∨n=2∨n=3∨n=4∨n=5∨n=6∨n=7∨n=8∨n=9∨n=10∨n=11∨n=12 from by omega) with rfl | rfl | rfl | rfl | rfl | rfl | rfl | rfl | rfl | rfl | rfl | rfl | rfl
 ·exact len_c0 w
 ·exact len_c1 w
 ·exact len_c2 w
 ·exact len_c3 w
 ·exact len_c4 w
 ·exact len_c5 w
 ·exact len_c6 w
 ·exact len_c7 w
 ·exact len_c8 w
 ·exact len_c9 w
 ·exact Zlo w
 ·exact Zln w
 ·exact Zlm w
theorem Zcw (n:Int) (h0:0≤n) (h1:n≤12) (w:World):Calls prog 153 #[.int .u64 n] w fun e w'=>e=.returned (.int .i64 (lenB n))∧w=w':=by
 go_enter func153,Tryz.ntmps153
 go_wp2_with fail
 refine (Zcv n h0 h1 _).mono ?_;rintro e w1 ⟨rfl,rfl⟩
 go_wp2_with fail
 go_ret
 exact ⟨rfl,rfl⟩
theorem Zg8 (n:Int) (h0:0≤n) (h1:n≤12):Qaf prog 153 [.val (.int .u64 n)] (aI (lenB n)):=Qb6 (fun D w=>.val _) fun D w vs h=>by
 obtain ⟨u,rfl,hu⟩:=Qc0.one h;cases hu;exact (Zcw n h0 h1 w).mono fun e w' ⟨g1,g2⟩=>⟨g1,g2 ▸ Below.refl _ _⟩
def lk2 (l:List Ent) (ss:List Txt) (L:List Int):List Int:=ss.foldl (fun L s=>if isB l s=true then L++[getI l s] else L) L
def lk1 (f:Fsy) (c:Cal) (L:List Int) (i:Int):List Int:=if dirE f i=0 then lk2 (dirN f i).l [c.name,c.name2] L else L
def lk0 (f:Fsy) (c:Cal) (is:List Int):List Int:=is.foldl (lk1 f c) [c.ino,c.to]
def Qk2 (f:Fsy) (c:Cal):List Int:=lk0 f c [c.ino,c.to]
theorem Zcq {l:List Ent} {ss:List Txt} {L:List Int} {j:Nat} {s:Txt} (h:ss[j]?=some s) (q:isB l s=true):lk2 l (ss.take (j+1)) L=lk2 l (ss.take j) L++[getI l s]:=by
 unfold lk2;rw [Qak h,List.foldl_append,List.foldl_cons,List.foldl_nil,if_pos q]
theorem Zjn {l:List Ent} {ss:List Txt} {L:List Int} {j:Nat} {s:Txt} (h:ss[j]?=some s) (q:isB l s=false):lk2 l (ss.take (j+1)) L=lk2 l (ss.take j) L:=by
 unfold lk2;rw [Qak h,List.foldl_append,List.foldl_cons,List.foldl_nil,if_neg (by rw [q];decide)]
theorem Qlp {f:Fsy} {c:Cal} {is:List Int} {j:Nat} {i:Int} (h:is[j]?=some i):lk0 f c (is.take (j+1))=lk1 f c (lk0 f c (is.take j)) i:=by
 unfold lk0;rw [Qak h,List.foldl_append];rfl
theorem Qux (l:List Ent):∀ (ss:List Txt) (L:List Int),L.length≤(lk2 l ss L).length∧(lk2 l ss L).length≤L.length+ss.length
 | [],L=>⟨Nat.le_refl _,Nat.le_refl _⟩
 | s :: r,L=>by
  have h:=Qux l r (if isB l s=true then L++[getI l s] else L);have e:lk2 l (s :: r) L=lk2 l r (if isB l s=true then L++[getI l s] else L):=rfl;rw [e];have h2:L.length≤(if isB l s=true then L++[getI l s] else L).length∧(if isB l s=true then L++[getI l s] else L).length≤L.length+1:=by
   split
   ·rw [List.length_append];exact ⟨by omega,Nat.le_refl _⟩
   ·exact ⟨Nat.le_refl _,by omega⟩
  have h3:(s :: r).length=r.length+1:=rfl;omega
theorem Quy (f:Fsy) (c:Cal):∀ (is:List Int) (L:List Int),L.length≤(is.foldl (lk1 f c) L).length∧(is.foldl (lk1 f c) L).length≤L.length+2*is.length
 | [],L=>⟨Nat.le_refl _,Nat.le_refl _⟩
 | i :: r,L=>by
  have h:=Quy f c r (lk1 f c L i);have h2:L.length≤(lk1 f c L i).length∧(lk1 f c L i).length≤L.length+2:=by
   unfold lk1
   split
   ·exact Qux _ _ _
   ·exact ⟨Nat.le_refl _,by omega⟩
  have e:(i :: r).foldl (lk1 f c) L=r.foldl (lk1 f c) (lk1 f c L i):=rfl;rw [e];simp only [List.length_cons];omega
theorem Qmp (f:Fsy) (c:Cal):2≤(Qk2 f c).length∧(Qk2 f c).length≤6:=by
 have:=Quy f c [c.ino,c.to] [c.ino,c.to];unfold Qk2 lk0;simp only [List.length_cons,List.length_nil] at this;omega
theorem Qy9 {t:Bool} (a b:Txt):Sub (.sl 1 t [[aS a],[aS b]]) (.sl 1 false ([a,b].map txA)):=Sub.loose _ _ _
end Go.Proofs.YtahlldgocpabjaaGreat
