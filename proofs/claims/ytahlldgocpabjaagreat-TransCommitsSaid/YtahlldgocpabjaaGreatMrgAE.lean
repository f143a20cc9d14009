import Derived.Test.YtahlldgocpabjaaGreatMrgJ
import Derived.Test.YtahlldgocpabjaaGreatMrgZ
import Derived.Test.YtahlldgocpabjaaGreatMrgAD
import Derived.Test.YtahlldgocpabjaaGreatMrgY
set_option maxRecDepth 100000
set_option maxHeartbeats 8000000
set_option linter.unusedVariables false
set_option linter.unusedSimpArgs false
namespace Go.Proofs.YtahlldgocpabjaaGreat
open Go Go.RowKit Copyhold Go.Proofs.Tryz
def mkN (P:Program) (ops:Array Oper) (s:LS) (i:Nat):Option (TypeId × Int × Int × TypeId × List AV × Nat):=
 match opAt ops s i with
 | some o=>
  match o.op,o.dst with
  | .makeSlice t l c,some d=>
   match s.ev l,s.ev c,Qlf P t,bget s.bx d with
   | .val (.int .i64 m),.val (.int .i64 m'),some e,none=>
    match Qr3 P e with
    | some z=>some (t,m,m',e,z,d)
    | none=>none
   | _,_,_,_=>none
  | _,_=>none
 | none=>none
theorem Zh3 {P:Program} {t e:TypeId} {m:Int} {z:List AV} {d k:Nat} (n bytes:Nat) (hE:Qg2 P t e k bytes=true) (hm:m=(n:Int)) (hby:bytes*n≤140737488355328) (h63:n≤140737488355327) :
  ∀ (ops:Array Oper) (i:Nat) (s:LS) (K:FS→Prop) (rest:List Nat),mkN P ops s i=some (t,m,m,e,z,d)→(∀ V:Value,SeqR P ops K rest ((s.put (some d) (.rw d V n)).setB d (.row V e k (List.replicate n z))).fs)→SeqR P ops K (i :: rest) s.fs:=by
 intro ops i s K rest h kk;subst hm;unfold mkN at h
 split at h
 ·rename_i o ho;obtain ⟨hi,hg⟩:=Qbw ho
  split at h
  ·rename_i t' l c d' hop hd
   split at h
   ·rename_i m1 m2 e' hl hc hel hbn
    split at h
    ·rename_i z' hz;simp only [Option.some.injEq,Prod.mk.injEq] at h;obtain ⟨rfl,rfl,rfl,rfl,rfl,rfl⟩:=h;obtain ⟨zv,hEl⟩:=Qg1 hE;obtain ⟨ht,hinf,hzs,hsz⟩:=id hEl;obtain ⟨ti,hti,htz,hsize,hbytes⟩:=Qgz hinf;have hzk:z'.length=k:=by
      obtain ⟨it,z2,g1,g2,hrepz⟩:=Qgq (D:=fun _=>True) (w:=(default:World)) hz;rw [hti] at g1;obtain rfl:=Option.some.inj g1;rw [htz] at g2;obtain rfl:=Option.some.inj g2;have:=hrepz.1;omega
     have hkx:∀ l∈List.replicate n z',l.length=k:=fun l hl=>by rw [List.eq_of_mem_replicate hl];exact hzk
     refine ⟨o,hi,.inr ⟨hg,.inr (.inl ⟨by rw [hop];rfl,_,Qj9 (e:=e') (k:=k) (xs:=List.replicate n z') hd hkx (fun D w ρ hops=>?_),?_⟩)⟩⟩
     ·have hvl:=Qa5 hops l (by simp [hop,Op.operands]);have hvc:=Qa5 hops c (by simp [hop,Op.operands]);rw [hl] at hvl;rw [hc] at hvc;generalize hlv:ρ l=vl at hvl;generalize hcv:ρ c=vc at hvc;cases hvl;cases hvc;obtain ⟨it,z2,g1,g2,hrepz⟩:=Qgq (D:=D) (w:=w) hz;rw [hti] at g1;obtain rfl:=Option.some.inj g1;rw [htz] at g2;obtain rfl:=Option.some.inj g2;have hb48:(ti.bytes:Int)*(n:Int)≤281474976710656:=by
       have h0:((bytes*n:Nat):Int)≤281474976710656:=by omega
       rw [hbytes]
       rwa [Int.natCast_mul] at h0
      have hrun:=run_make (P:=P) w t' e' ti zv ht hti htz .i64 .i64 (n:Int) (n:Int) (by omega) (by omega) hb48 (by omega);rw [hsize,Int.toNat_natCast] at hrun;have hcells:madeCells zv.cells (n*k)=(List.replicate n zv.cells.toList).flatten.toArray:=by
       have:=Ql5 zv.cells n (by omega);apply Array.ext';rw [← hzs,List.toList_toArray,← this];rfl
      rw [hcells] at hrun;have hrep:=Qf9 hrepz n;have hlen:(List.replicate n zv.cells.toList).flatten.length=n*k:=by
       rw [Qgl (k:=k) (fun l hl=>by rw [List.eq_of_mem_replicate hl];simpa using hzs),List.length_replicate]
      refine ⟨.slice (some ⟨w.heap.size,0,none⟩) n n,w.alloc (.cells (List.replicate n zv.cells.toList).flatten.toArray e'),(List.replicate n zv.cells.toList).flatten,by simp [execOp,hop,hlv,hcv,hrun],World.grownBy_alloc w _ none,?_,fun u hu=>?_,fun j a u ha hu=>?_⟩
      ·refine ⟨by rw [hlen,List.length_replicate],.inr ⟨w.heap.size,n,_,by rw [List.length_replicate],Nat.le_refl _,heap_alloc_new w _,by rw [List.length_replicate];exact Nat.le_refl _,by unfold maxLen;omega,by simpa using hlen,?_⟩⟩;rw [List.length_replicate,List.toList_toArray,List.take_of_length_le (by omega)]
      ·obtain ⟨p,hp⟩:=List.mem_iff_getElem?.1 hu;exact hrep.2.1 p u (by simpa using hp)
      ·exact hrep.2.2 j a u ha (by simpa using hu)
     ·rintro y nb ⟨V',rfl,rfl⟩;refine ⟨fun id y hy=>?_,?_⟩
      ·obtain ⟨rfl,rfl⟩:=by simpa using hy
       exact hbn
      ·have:=kk V';rw [← LS.fs_setB,← LS.fs_put] at this;rw [hd,List.length_replicate];exact this
    ·cases h
   ·cases h
  ·cases h
 ·cases h
noncomputable def plF:Fsy→List Cal→Fsy
 | f,[]=>f
 | f,c :: r=>plF (doF f c).1 r
noncomputable def plR:Fsy→List Cal→List Rep
 | _,[]=>[]
 | f,c :: r=>(doF f c).2 :: plR (doF f c).1 r
theorem Zdi:∀ (a b:List Cal) (f:Fsy),plF f (a++b)=plF (plF f a) b
 | [],_,_=>rfl
 | c :: r,b,f=>Zdi r b (doF f c).1
theorem Zdh:∀ (a b:List Cal) (f:Fsy),plR f (a++b)=plR f a++plR (plF f a) b
 | [],_,_=>rfl
 | c :: r,b,f=>by
  show (doF f c).2 :: plR (doF f c).1 (r++b)=(doF f c).2 :: (plR (doF f c).1 r++plR (plF (doF f c).1 r) b);rw [Zdh r b]
theorem Qfv:∀ (l:List Cal) (f:Fsy),(plR f l).length=l.length
 | [],_=>rfl
 | c :: r,f=>congrArg (·+1) (Qfv r (doF f c).1)
theorem Zih {f:Fsy} {l:List Cal} {k:Nat} {x:Cal} (h:l[k]?=some x):plF f (l.take (k+1))=(doF (plF f (l.take k)) x).1:=by
 rw [Qam h,Zdi];rfl
theorem Zig {f:Fsy} {l:List Cal} {k:Nat} {x:Cal} (h:l[k]?=some x):plR f (l.take (k+1))=plR f (l.take k)++[(doF (plF f (l.take k)) x).2]:=by
 rw [Qam h,Zdh];rfl
structure KeptN (f g:Fsy) (k:Nat):Prop where
 ok:OkF g
 tree:TreeP g
 next:f.next≤g.next∧g.next≤f.next+k
 few:wF g≤wF f+2*k
theorem Zer {f:Fsy} (okf:OkF f) (T:TreeP f) {l:List Cal} (hl:l.length≤1000) (ok:∀ c∈l,OkCal c) (hx:f.next<1152921504606847976):∀ k,k≤l.length→KeptN f (plF f (l.take k)) k
 | 0,_=>⟨okf,T,⟨Int.le_refl _,by show f.next≤_;omega⟩,by show wF f≤_;omega⟩
 | k+1,hk=>by
  have ih:=Zer okf T hl ok hx k (by omega);have h:=List.getElem?_eq_getElem (l:=l) (i:=k) (by omega);have K:=Zet ih.ok (ok _ (List.mem_of_getElem? h)) ih.tree (by have:=ih.next.2;omega);rw [Zih h];have h1:=ih.next;have h2:=K.next;have h3:=ih.few;have h4:=K.few;exact ⟨K.ok,K.tree,by omega,by omega⟩
def zRA (_:Unit):List AV:=[aI 0,aI 0,aI 0,aI 0,aS [],aN]
def prow (R:List Rep) (n:Nat):List (List AV):=R.map repA++List.replicate (n-R.length) (zRA ())
theorem Qqj {R:List Rep} {n:Nat} (h:R.length≤n):(prow R n).length=n:=by
 unfold prow;rw [List.length_append,List.length_map,List.length_replicate];omega
theorem Zie {R:List Rep} {n k:Nat} (h:R.length=k) (hk:k<n):(prow R n)[k]?=some (zRA ()):=by
 unfold prow;rw [List.getElem?_append_right (by rw [List.length_map];omega),List.length_map,h,Nat.sub_self,List.getElem?_replicate,if_pos (by omega)]
theorem Zid {R:List Rep} {n k:Nat} {v:Rep} (h:R.length=k) (hk:k<n):(prow R n).set k ((zRA ()).take 0++repA v++(zRA ()).drop (0+(repA v).length))=prow (R++[v]) n:=by
 have e:(zRA ()).take 0++repA v++(zRA ()).drop (0+(repA v).length)=repA v:=rfl;rw [e];unfold prow;rw [List.set_append_right _ _ (by rw [List.length_map];omega),List.length_map,h,Nat.sub_self,List.length_append,h,show n-k=(n-(k+1))+1 from by omega,List.replicate_succ,List.set_cons_zero,List.map_append];simp
theorem Zde {R:List Rep} {n:Nat} (h:R.length=n):prow R n=R.map repA:=by
 unfold prow;rw [h,Nat.sub_self];simp
theorem Zjq {f:Fsy} {c:Cal} (hp:Qar f):(doF f c).2.names.length≤256:=by
 have key:(Qb1 f c).2.names.length≤256:=by
  rcases (show c.kind=1∨c.kind=2∨c.kind=3∨c.kind=4∨c.kind=5∨c.kind=6∨c.kind=7∨c.kind=8∨c.kind=9∨c.kind=10∨c.kind=11∨c.kind=12∨c.kind=13∨c.kind=14∨c.kind=15∨(c.kind<1∨c.kind>15) from by omega) with h | h | h | h | h | h | h | h | h | h | h | h | h | h | h | h
  ·rw [Qyp h];exact Nat.zero_le _
  ·rw [Qt1 h];unfold Qjq;split<;>exact Nat.zero_le _
  ·rw [Qt0 h];unfold Qjx;split<;>exact Nat.zero_le _
  ·rw [Qtz h];unfold Qfe;split<;>exact Nat.zero_le _
  ·rw [Qty h];unfold cutO;split<;>exact Nat.zero_le _
  ·rw [Qpt h];exact Nat.zero_le _
  ·rw [Qtx h];exact Nat.zero_le _
  ·rw [Qtw h];unfold symO;split<;>exact Nat.zero_le _
  ·rw [Qps h];unfold Qc2;split
   ·split<;>exact Nat.zero_le _
   ·exact Nat.zero_le _
  ·rw [Qlg h];unfold Qc2;split
   ·split<;>exact Nat.zero_le _
   ·exact Nat.zero_le _
  ·rw [Qrk h];exact Nat.zero_le _
  ·rw [Qrj h];exact Nat.zero_le _
  ·rw [Qn3 h];exact Nat.zero_le _
  ·rw [Qri h];show ((dirN f c.ino).l.map Ent.name).length≤256;rw [List.length_map];exact (Qdi hp c.ino).2
  ·rw [Qrh h];exact Nat.zero_le _
  ·rw [Qrg h];exact Nat.zero_le _
 unfold doF
 split
 ·exact key
 ·exact Nat.zero_le _
theorem Qxl:∀ {l:List Cal} {f:Fsy},OkF f→TreeP f→(∀ c∈l,OkCal c)→f.next+l.length<4611686018427387904→∀ r∈plR f l,r.names.length≤256
 | [],f,_,_,_,_,r,hr=>(by cases hr)
 | c :: l,f,okf,T,ok,hx,r,hr=>by
  have hl:((c :: l).length:Int)=(l.length:Int)+1:=by rw [List.length_cons];omega
  rcases List.mem_cons.1 hr with rfl | hr
  ·exact Zjq T.rows
  ·have K:=Zet okf (ok c (by simp)) T (by omega);have:=K.next.2;exact Qxl K.ok K.tree (fun c hc=>ok c (by simp [hc])) (by omega) r hr
theorem rep_eq {x y:Rep} (h1:x.e=y.e) (h2:x.a=y.a) (h3:x.b=y.b) (h4:x.n=y.n) (h5:x.text=y.text) (h6:x.names=y.names):x=y:=by cases x;cases y;simp_all
theorem Qzp (a b:List Txt) (h1:a.length≤1000000) (h2:b.length≤1000000):Qah prog 51 [.sl 1 false (a.map txA),.sl 1 false (b.map txA)] (aB (dP (a=b))):=by
 exact Qac func51 (let R:AV:=aB (dP (a=b));
 .r 1<|.r 2<|.lm 7 a txA<|.r 2<|.lm 9 b txA<|.r 1<|.bn 10 (a.length:Int) (b.length:Int) (fun p1=>.r 1<|.f (aB (dP (a=b))) [] (aB false) (by exact sF (fun h=>by have:=congrArg List.length h;omega)))
 <| fun p1=>.r 1<|let L1:Lp (Nat):=⟨fun a1=>⟨[(0,.sl 1 false (a.map txA)),(1,.sl 1 false (b.map txA)),(5,aI (a1:Int))],[]⟩,fun a1=>a.length-a1,fun a1=>a1≤a.length∧a.take a1=b.take a1⟩
 .lp L1 0 ⟨Nat.zero_le _,rfl⟩ [(5,aI 0)] [] ⟨sR,sR,sO,trivial⟩ trivial fun a1 ha1=>
 (fun (k:Nat) (hH1:k≤a.length∧a.take k=b.take k)=>.r 3<|.lm 13 a txA<|.r 1<|.bd 14 ((k:Int)<(a.length:Int)) (fun p2=>.ord [0,1,2,3,4,5,6,7,8]<|.r 2<|.idxM a txA k (m:=(k:Int)) rfl (by omega) fun x1 hx1=>
 .r 3<|.idxM b txA k (m:=(k:Int)) rfl (by omega) fun x2 hx2=>
 .r 2<|.nbe 25 x1 x2 (fun p3=>.r 1<|.f R [] (aB false) (by
  refine sF (fun h=>?_);rw [h,hx2] at hx1;obtain rfl:=Option.some.inj hx1;simp_all [Qaw,Qab]))
 <| fun p3=>.run 3 [rng .i64 ((k:Int)+1)] ⟨Qai (by omega) (by omega),trivial⟩<|
 .bk L1 k (k+1) ⟨by omega,by rw [Qam hx1,Qam hx2,hH1.2];first | (congr 2;done) | (congr 2;exact (by simp_all))⟩ (show a.length-(k+1)<a.length-k from (by omega)) [(5,aI ((k:Int)+1))] [] ⟨sR,sR,sO,trivial⟩ trivial)
 <| fun p2=>.r 1<|.f R [] (aB true) (by
  refine sT ?_;have h:=hH1.2;rw [Qat (by omega),Qat (by omega)] at h;exact h)) a1 ha1)
theorem Qsu (a b:Rep) (h1:a.names.length≤1000000) (h2:b.names.length≤1000000):Qah prog 21 [.agg (repA a),.agg (repA b)] (aB (dP (a=b))):=by
 exact Qac func21 (let R:AV:=aB (dP (a=b));
 .new fun b1=>.new fun b2=>.r 1<|.u 4 [b1,b2]<|
 .call (Qzp a.names b.names h1 h2)<|
 .r 1<|.r 2<|.bb 12 (dP (a.names=b.names)) (fun p1=>.u 7 [b1,b2]<|
 .be 19 a.e b.e (fun p2=>.u 7 [b1,b2]<|
 .be 26 a.a b.a (fun p3=>.u 7 [b1,b2]<|
 .be 33 a.b b.b (fun p4=>.u 7 [b1,b2]<|
 .be 40 a.n b.n (fun p5=>.u 7 [b1,b2]<|
 .f R [] (aB (a.text==b.text)) (by
  refine sE ?_;constructor
  ·intro h;simp only [Bool.and_eq_true,beq_iff_eq,Qaw] at *;refine rep_eq ?_ ?_ ?_ ?_ ?_ ?_<;>simp_all
  ·intro h;subst h;simp_all [Qaw]))
 <| fun p5=>.r 7<|.f R [] (aB false) (by
  refine sF (fun h=>?_);subst h;simp_all [Qab]))
 <| fun p4=>.r 14<|.f R [] (aB false) (by
  refine sF (fun h=>?_);subst h;simp_all [Qab]))
 <| fun p3=>.r 21<|.f R [] (aB false) (by
  refine sF (fun h=>?_);subst h;simp_all [Qab]))
 <| fun p2=>.r 28<|.f R [] (aB false) (by
  refine sF (fun h=>?_);subst h;simp_all [Qab]))
 <| fun p1=>.r 35<|.f R [] (aB false) (by
  refine sF (fun h=>?_);subst h;simp_all [Qab]))
theorem Zkn (a b:List Rep) (hl1:a.length≤1000000) (hl2:b.length≤1000000) (h1:∀ r∈a,r.names.length≤1000000) (h2:∀ r∈b,r.names.length≤1000000):Qah prog 35 [.sl 6 false (a.map repA),.sl 6 false (b.map repA)] (aB (dP (a=b))):=by
 exact Qac func35 (let R:AV:=aB (dP (a=b));
 .r 1<|.r 2<|.lm 8 a repA<|.r 2<|.lm 10 b repA<|.r 1<|.br 11 ((a.length:Int) != (b.length:Int)) (fun q1=>have p1:=bneT q1;.r 1<|.f (aB (dP (a=b))) [] (aB false) (by exact sF (fun h=>by have:=congrArg List.length h;omega)))
 <| fun q1=>have p1:=bneF q1;.r 1<|let L1:Lp (Nat):=⟨fun a1=>⟨[(0,.sl 6 false (a.map repA)),(1,.sl 6 false (b.map repA)),(5,aI (a1:Int))],[]⟩,fun a1=>a.length-a1,fun a1=>a1≤a.length∧a.take a1=b.take a1⟩
 .lp L1 0 ⟨Nat.zero_le _,rfl⟩ [(5,aI 0)] [] ⟨sR,sR,sO,trivial⟩ trivial fun a1 ha1=>
 (fun (k:Nat) (hH1:k≤a.length∧a.take k=b.take k)=>.r 3<|.lm 14 a repA<|.r 1<|.br 15 (decide ((k:Int)<(a.length:Int))) (fun q2=>have p2:=decT q2;.ord [0,1,2,3,4,5,6,7,8,9]<|.r 2<|.idxM a repA k (m:=(k:Int)) rfl (by omega) fun x1 hx1=>
 have okx1:=h1 x1 (List.mem_of_getElem? hx1);.r 3<|.idxM b repA k (m:=(k:Int)) rfl (by omega) fun x2 hx2=>
 have okx2:=h2 x2 (List.mem_of_getElem? hx2);.r 1<|.call (Qsu x1 x2 okx1 okx2)<|
 .r 1<|.r 2<|.br 28 (!(dP (x1=x2))) (fun q3=>have q3:=notT q3;have p3:=booF q3;.r 1<|.f R [] (aB false) (by
  refine sF (fun h=>?_);rw [h,hx2] at hx1;obtain rfl:=Option.some.inj hx1;simp_all [Qaw,Qab]))
 <| fun q3=>have q3:=notF q3;have p3:=booT q3;.run 3 [rng .i64 ((k:Int)+1)] ⟨Qai (by omega) (by omega),trivial⟩<|
 .bk L1 k (k+1) ⟨by omega,by rw [Qam hx1,Qam hx2,hH1.2];first | (congr 2;done) | (congr 2;exact Qaw.1 (by assumption))⟩ (show a.length-(k+1)<a.length-k from (by omega)) [(5,aI ((k:Int)+1))] [] ⟨sR,sR,sO,trivial⟩ trivial)
 <| fun q2=>have p2:=decF q2;.r 1<|.f R [] (aB true) (by
  refine sT ?_;have h:=hH1.2;rw [Qat (by omega),Qat (by omega)] at h;exact h)) a1 ha1)
def pN (l:List Int) (n:Int):Nat:=(l.takeWhile fun x=>decide (x<n)).length
theorem Zml (l:List Int) (n:Int):pN l n≤l.length:=(List.takeWhile_sublist _).length_le
theorem Qs2 {n:Int}:∀ {l:List Int} {k:Nat} {x:Int},k≤pN l n→l[k]?=some x→(x<n↔k<pN l n)
 | [],k,x,_,hx=>(by simp at hx)
 | a :: r,k,x,hk,hx=>by
  by_cases ha:a<n
  ·have e:pN (a :: r) n=pN r n+1:=by unfold pN;rw [List.takeWhile_cons,if_pos (by simpa using ha)];rfl
   rw [e] at hk ⊢;cases k with
   | zero=>
    simp at hx;subst hx;exact ⟨fun _=>by omega,fun _=>ha⟩
   | succ k=>
    have:=Qs2 (n:=n) (l:=r) (k:=k) (x:=x) (by omega) (by simpa using hx);rw [this];omega
  ·have e:pN (a :: r) n=0:=by unfold pN;rw [List.takeWhile_cons,if_neg (by simpa using ha)];rfl
   rw [e] at hk ⊢;obtain rfl:k=0:=by omega
   simp at hx;subst hx;exact ⟨fun h=>absurd h ha,fun h=>by omega⟩
def wiK (l:List Int) (n:Int) (k j:Nat):List Int:=l.take k++n :: ((l.drop k).take (j-k)).filter fun x=>x != n
theorem Zg8 (l:List Int) (n:Int) (k:Nat):wiK l n k k=l.take k++[n]:=by unfold wiK;simp
theorem Qw3 {l:List Int} {n:Int} {k j:Nat} {x:Int} (h:l[j]?=some x) (hkj:k≤j):wiK l n k (j+1)=wiK l n k j++[x].filter fun x=>x != n:=by
 unfold wiK;rw [show j+1-k=(j-k)+1 from by omega,Qam (l:=l.drop k) (k:=j-k) (x:=x) (by rw [List.getElem?_drop,show k+(j-k)=j from by omega];exact h),List.filter_append];simp
theorem Qp1 {l:List Int} {n:Int} {k j:Nat} {x:Int} (h:l[j]?=some x) (hkj:k≤j) (q:(x != n)=true):wiK l n k (j+1)=wiK l n k j++[x]:=by rw [Qw3 h hkj];simp [List.filter_cons,q]
theorem Qw4 {l:List Int} {n:Int} {k j:Nat} {x:Int} (h:l[j]?=some x) (hkj:k≤j) (q:(x != n)=false):wiK l n k (j+1)=wiK l n k j:=by rw [Qw3 h hkj];simp [List.filter_cons,q]
theorem Qhf (l:List Int) (n:Int) (k j:Nat) (hk:k≤l.length):(wiK l n k j).length≤l.length+1:=by
 unfold wiK;have:=List.length_filter_le (fun x=>x != n) ((l.drop k).take (j-k));simp only [List.length_append,List.length_cons,List.length_take,List.length_drop] at this ⊢;omega
def Qcx (l:List Int) (n:Int):List Int:=wiK l n (pN l n) l.length
theorem Qh9 (l:List Int) (n:Int):(Qcx l n).length≤l.length+1:=Qhf l n _ _ (Zml l n)
theorem Qcw (l:List Int) (n:Int) (hl:l.length≤100000):Qah prog 50 [.sl 1 false (l.map intA),aI n] (.sl 1 false ((Qcx l n).map intA)):=by
 exact Qac func50 (
 .r 1<|.r 1<|.rowNil 5 5 3 1<|.r 1<|let L1:Lp (Nat × Value):=⟨fun a1=>⟨[(0,.sl 1 false (l.map intA)),(1,aI n),(6,aI (a1.1:Int)),(5,.rw 5 a1.2 ((l.take a1.1).length))],[(5,.row a1.2 3 1 ((l.take a1.1).map intA))]⟩,fun a1=>l.length-a1.1,fun a1=>a1.1≤l.length∧a1.1≤pN l n⟩
 .lp L1 (0,.slice none 0 0) ⟨Nat.zero_le _,Nat.zero_le _⟩ [(6,aI 0),(5,.rw 5 (.slice none 0 0) 0)] [(5,.row (.slice none 0 0) 3 1 ([]))] ⟨sR,sR,sO,Sub.of_eq (congrArg (AV.rw 5 (.slice none 0 0)) (by simp)),trivial⟩ ⟨⟨_,rfl,SubB.of_eq (by simp)⟩,trivial⟩ fun a1 ha1=>
 (fun (k:Nat) (V:Value) (hH1:k≤l.length∧k≤pN l n)=>.r 3<|.lm 9 l intA<|.r 2<|.bd 11 ((k:Int)<(l.length:Int)) (fun p1=>.r 2<|.idxM l intA k (m:=(k:Int)) rfl (by omega) fun x1 hx1=>
 .r 4<|.bd 18 (x1<n) (fun p2=>.r 3<|.idx k (m:=(k:Int)) (xs:=l.map intA) (e:=intA x1) rfl (map_some hx1)<|
 .r 2<|.app 8 V ((l.take k).map intA) ([[aI x1]]) (by first | (simp only [List.length_map,List.length_cons,List.length_nil,List.length_take,List.length_append];omega) | (have hw:=Qhf l n k j (by omega);simp only [List.length_map,List.length_cons,List.length_nil,List.length_append];omega)) (by first | (simp only [List.length_map,List.length_cons,List.length_nil,List.length_take,List.length_append];omega) | (have hw:=Qhf l n k j (by omega);simp only [List.length_map,List.length_cons,List.length_nil,List.length_append];omega)) fun V1=>
 .r 1<|.run 3 [rng .i64 ((k:Int)+1)] ⟨Qai (by omega) (by omega),trivial⟩<|
 .bk L1 (k,V) ((k+1),V1) (show (k+1)≤l.length∧(k+1)≤pN l n from (by refine ⟨by omega,?_⟩;have:=(Qs2 hH1.2 hx1).1 (by omega);omega)) (show l.length-(k+1)<l.length-k from (by omega)) [(6,aI ((k:Int)+1)),(5,.rw 5 V1 (((l.take k).map intA).length+([[aI x1]]:List (List AV)).length))] [(5,.row V1 3 1 (((l.take k).map intA)++([[aI x1]])))] ⟨sR,sR,sO,Sub.of_eq (congrArg (AV.rw 5 V1) (by rw [Qam hx1];simp)),trivial⟩ ⟨⟨_,rfl,SubB.of_eq (by rw [Qam hx1];simp [intA])⟩,trivial⟩)
 <| fun p2=>.r 3<|.app 8 V ((l.take k).map intA) ([[aI n]]) (by first | (simp only [List.length_map,List.length_cons,List.length_nil,List.length_take,List.length_append];omega) | (have hw:=Qhf l n k j (by omega);simp only [List.length_map,List.length_cons,List.length_nil,List.length_append];omega)) (by first | (simp only [List.length_map,List.length_cons,List.length_nil,List.length_take,List.length_append];omega) | (have hw:=Qhf l n k j (by omega);simp only [List.length_map,List.length_cons,List.length_nil,List.length_append];omega)) fun V2=>
 .r 1<|let L2:Lp (Nat × Value):=⟨fun a2=>⟨[(0,.sl 1 false (l.map intA)),(1,aI n),(6,aI (a2.1:Int)),(5,.rw 5 a2.2 ((wiK l n k a2.1).length))],[(5,.row a2.2 3 1 ((wiK l n k a2.1).map intA))]⟩,fun a2=>l.length-a2.1,fun a2=>k≤a2.1∧a2.1≤l.length⟩
 .lp L2 (k,V2) ⟨Nat.le_refl _,by omega⟩ [(5,.rw 5 V2 (((l.take k).map intA).length+([[aI n]]:List (List AV)).length))] [(5,.row V2 3 1 (((l.take k).map intA)++([[aI n]])))] ⟨sR,sR,sR,Sub.of_eq (congrArg (AV.rw 5 V2) (by rw [Zg8];simp)),trivial⟩ ⟨⟨_,rfl,SubB.of_eq (by rw [Zg8];simp [intA])⟩,trivial⟩ fun a2 ha2=>
 (fun (j:Nat) (W:Value) (hH2:k≤j∧j≤l.length)=>.r 3<|.lm 34 l intA<|.r 1<|.bd 35 ((j:Int)<(l.length:Int)) (fun p3=>.r 2<|.idxM l intA j (m:=(j:Int)) rfl (by omega) fun x2 hx2=>
 .r 3<|.br 41 (x2 != n) (fun q4=>have p4:=bneT q4;.r 3<|.idx j (m:=(j:Int)) (xs:=l.map intA) (e:=intA x2) rfl (map_some hx2)<|
 .r 2<|.app 8 W ((wiK l n k j).map intA) ([[aI x2]]) (by first | (simp only [List.length_map,List.length_cons,List.length_nil,List.length_take,List.length_append];omega) | (have hw:=Qhf l n k j (by omega);simp only [List.length_map,List.length_cons,List.length_nil,List.length_append];omega)) (by first | (simp only [List.length_map,List.length_cons,List.length_nil,List.length_take,List.length_append];omega) | (have hw:=Qhf l n k j (by omega);simp only [List.length_map,List.length_cons,List.length_nil,List.length_append];omega)) fun V3=>
 .r 1<|.run 3 [rng .i64 ((j:Int)+1)] ⟨Qai (by omega) (by omega),trivial⟩<|
 .bk L2 (j,W) ((j+1),V3) (show k≤(j+1)∧(j+1)≤l.length from (by show _≤_∧_;omega)) (show l.length-(j+1)<l.length-j from (by omega)) [(6,aI ((j:Int)+1)),(5,.rw 5 V3 (((wiK l n k j).map intA).length+([[aI x2]]:List (List AV)).length))] [(5,.row V3 3 1 (((wiK l n k j).map intA)++([[aI x2]])))] ⟨sR,sR,sO,Sub.of_eq (congrArg (AV.rw 5 V3) (by rw [Qp1 hx2 (by omega) (by simpa [bne] using q4)];simp)),trivial⟩ ⟨⟨_,rfl,SubB.of_eq (by rw [Qp1 hx2 (by omega) (by simpa [bne] using q4)];simp [intA])⟩,trivial⟩)
 <| fun q4=>have p4:=bneF q4;.run 3 [rng .i64 ((j:Int)+1)] ⟨Qai (by omega) (by omega),trivial⟩<|
 .bk L2 (j,W) ((j+1),W) (show k≤(j+1)∧(j+1)≤l.length from (by show _≤_∧_;omega)) (show l.length-(j+1)<l.length-j from (by omega)) [(6,aI ((j:Int)+1)),(5,.rw 5 W ((wiK l n k j).length))] [(5,.row W 3 1 ((wiK l n k j).map intA))] ⟨sR,sR,sO,Sub.of_eq (congrArg (AV.rw 5 W) (by rw [Qw4 hx2 (by omega) (by simpa [bne] using q4)])),trivial⟩ ⟨⟨_,rfl,SubB.of_eq (by rw [Qw4 hx2 (by omega) (by simpa [bne] using q4)])⟩,trivial⟩)
 <| fun p3=>.r 2<|.frz 5 [4] [] [W=W,(wiK l n k j).length=((wiK l n k j).map intA).length] ⟨rfl,(by first | rfl | (simp;done) | (simp;omega)),trivial⟩<|
 .f (.sl 1 false ((Qcx l n).map intA)) [] (.sl 1 false ((wiK l n k j).map intA)) (by
  have hk:k=pN l n:=by
   have hq:=Zml l n;have hk1:=hH1.2;by_cases h:k<pN l n
   ·have:=(Qs2 hH1.2 hx1).2 h;omega
   ·omega
  have e:wiK l n k j=Qcx l n:=by unfold Qcx;rw [hk,show j=l.length from by omega]
  rw [← e]
  first | exact sR | exact Sub.loose _ _ _)) a2.1 a2.2 ha2)
 <| fun p1=>.r 7<|.r 3<|.app 8 V ((l.take k).map intA) ([[aI n]]) (by first | (simp only [List.length_map,List.length_cons,List.length_nil,List.length_take,List.length_append];omega) | (have hw:=Qhf l n k j (by omega);simp only [List.length_map,List.length_cons,List.length_nil,List.length_append];omega)) (by first | (simp only [List.length_map,List.length_cons,List.length_nil,List.length_take,List.length_append];omega) | (have hw:=Qhf l n k j (by omega);simp only [List.length_map,List.length_cons,List.length_nil,List.length_append];omega)) fun V4=>
 .r 1<|let L2:Lp (Nat × Value):=⟨fun a2=>⟨[(0,.sl 1 false (l.map intA)),(1,aI n),(6,aI (a2.1:Int)),(5,.rw 5 a2.2 ((wiK l n k a2.1).length))],[(5,.row a2.2 3 1 ((wiK l n k a2.1).map intA))]⟩,fun a2=>l.length-a2.1,fun a2=>k≤a2.1∧a2.1≤l.length⟩
 .lp L2 (k,V4) ⟨Nat.le_refl _,by omega⟩ [(5,.rw 5 V4 (((l.take k).map intA).length+([[aI n]]:List (List AV)).length))] [(5,.row V4 3 1 (((l.take k).map intA)++([[aI n]])))] ⟨sR,sR,sR,Sub.of_eq (congrArg (AV.rw 5 V4) (by rw [Zg8];simp)),trivial⟩ ⟨⟨_,rfl,SubB.of_eq (by rw [Zg8];simp [intA])⟩,trivial⟩ fun a2 ha2=>
 (fun (j:Nat) (W:Value) (hH2:k≤j∧j≤l.length)=>.r 3<|.lm 34 l intA<|.r 1<|.bd 35 ((j:Int)<(l.length:Int)) (fun p5=>.r 2<|.idxM l intA j (m:=(j:Int)) rfl (by omega) fun x3 hx3=>
 .r 3<|.br 41 (x3 != n) (fun q6=>have p6:=bneT q6;.r 3<|.idx j (m:=(j:Int)) (xs:=l.map intA) (e:=intA x3) rfl (map_some hx3)<|
 .r 2<|.app 8 W ((wiK l n k j).map intA) ([[aI x3]]) (by first | (simp only [List.length_map,List.length_cons,List.length_nil,List.length_take,List.length_append];omega) | (have hw:=Qhf l n k j (by omega);simp only [List.length_map,List.length_cons,List.length_nil,List.length_append];omega)) (by first | (simp only [List.length_map,List.length_cons,List.length_nil,List.length_take,List.length_append];omega) | (have hw:=Qhf l n k j (by omega);simp only [List.length_map,List.length_cons,List.length_nil,List.length_append];omega)) fun V5=>
 .r 1<|.run 3 [rng .i64 ((j:Int)+1)] ⟨Qai (by omega) (by omega),trivial⟩<|
 .bk L2 (j,W) ((j+1),V5) (show k≤(j+1)∧(j+1)≤l.length from (by show _≤_∧_;omega)) (show l.length-(j+1)<l.length-j from (by omega)) [(6,aI ((j:Int)+1)),(5,.rw 5 V5 (((wiK l n k j).map intA).length+([[aI x3]]:List (List AV)).length))] [(5,.row V5 3 1 (((wiK l n k j).map intA)++([[aI x3]])))] ⟨sR,sR,sO,Sub.of_eq (congrArg (AV.rw 5 V5) (by rw [Qp1 hx3 (by omega) (by simpa [bne] using q6)];simp)),trivial⟩ ⟨⟨_,rfl,SubB.of_eq (by rw [Qp1 hx3 (by omega) (by simpa [bne] using q6)];simp [intA])⟩,trivial⟩)
 <| fun q6=>have p6:=bneF q6;.run 3 [rng .i64 ((j:Int)+1)] ⟨Qai (by omega) (by omega),trivial⟩<|
 .bk L2 (j,W) ((j+1),W) (show k≤(j+1)∧(j+1)≤l.length from (by show _≤_∧_;omega)) (show l.length-(j+1)<l.length-j from (by omega)) [(6,aI ((j:Int)+1)),(5,.rw 5 W ((wiK l n k j).length))] [(5,.row W 3 1 ((wiK l n k j).map intA))] ⟨sR,sR,sO,Sub.of_eq (congrArg (AV.rw 5 W) (by rw [Qw4 hx3 (by omega) (by simpa [bne] using q6)])),trivial⟩ ⟨⟨_,rfl,SubB.of_eq (by rw [Qw4 hx3 (by omega) (by simpa [bne] using q6)])⟩,trivial⟩)
 <| fun p5=>.r 2<|.frz 5 [4] [] [W=W,(wiK l n k j).length=((wiK l n k j).map intA).length] ⟨rfl,(by first | rfl | (simp;done) | (simp;omega)),trivial⟩<|
 .f (.sl 1 false ((Qcx l n).map intA)) [] (.sl 1 false ((wiK l n k j).map intA)) (by
  have hk:k=pN l n:=by
   have hq:=Zml l n;have hk1:=hH1.2;omega
  have e:wiK l n k j=Qcx l n:=by unfold Qcx;rw [hk,show j=l.length from by omega]
  rw [← e]
  first | exact sR | exact Sub.loose _ _ _)) a2.1 a2.2 ha2) a1.1 a1.2 ha1)
def Qb2 (l:List Int) (f:Fsy) (d:Int) (s:Txt):List Int:=if isB (Qaa f d).l s=true then Qcx l (getI (Qaa f d).l s) else l
theorem Qcz (l:List Int) (f:Fsy) (d:Int) (s:Txt):(Qb2 l f d s).length≤l.length+1:=by
 unfold Qb2
 split
 ·exact Qh9 _ _
 ·omega
def rl0 (c:Cal):List Int:=Qcx (Qcx [] c.ino) c.to
theorem Qhn (c:Cal):(rl0 c).length≤2:=by
 have:=Qh9 [] c.ino;have:=Qh9 (Qcx [] c.ino) c.to;unfold rl0;simp at *;omega
def Qja (f:Fsy) (c:Cal):List Int:=if c.kind=15 then [0] else Qb2 (Qb2 (Qb2 (Qb2 (rl0 c) f c.ino c.name) f c.ino c.name2) f c.to c.name) f c.to c.name2
theorem Qio (l:List Int) (f:Fsy) (d:Int) (s:Txt) (hp:Qar f) (hs:s.length≤1000000) (hll:l.length≤100000):Qah prog 98 [.sl 1 false (l.map intA),.agg (fsyA f),aI d,aS s] (.sl 1 false ((Qb2 l f d s).map intA)):=by
 have hl:=hp.1;have hr:=Qaf hp;exact Qac func98 (
 .new fun b1=>.r 1<|.u 2 [b1]<|
 .call (Qa1 f d (by omega))<|
 .r 3<|.new fun b2=>.u 2 [b2]<|
 .u 3 [b2]<|
 .call (Qeb (Qaa f d).l s (by have:=(Qey hp d).2;omega))<|
 .r 5<|.r 2<|.br 27 (!(isB (Qaa f d).l s)) (fun q1=>have q1:=notT q1;have p1:=booF q1;.r 2<|.f (.sl 1 false ((Qb2 l f d s).map intA)) [] (.sl 1 false (l.map intA)) (by
  rw [show Qb2 l f d s=_ from if_neg (by rw [q1];decide)];exact sR))
 <| fun q1=>have q1:=notF q1;have p1:=booT q1;.r 2<|.call (Qcw l (getI (Qaa f d).l s) hll)<|
 .r 1<|.f (.sl 1 false ((Qb2 l f d s).map intA)) [] (.sl 1 false ((Qcx l (getI (Qaa f d).l s)).map intA)) (by
  rw [show Qb2 l f d s=_ from if_pos q1];exact sR))
theorem Qve (f:Fsy) (c:Cal) (okf:OkF f) (okc:OkCal c) (hp:Qar f):Qah prog 54 [.agg (fsyA f),.agg (calA c)] (.sl 1 false ((Qja f c).map intA)):=by
 have hl:=hp.1;have hr:=Qaf hp;have hcn:=okc.name;have hcn2:=okc.name2;have hct:=okc.text;exact Qac func54 (
 .new fun b1=>.new fun b2=>.r 1<|.u 3 [b2]<|
 .be 8 c.kind 15 (fun p1=>.r 2<|.f (.sl 1 false ((Qja f c).map intA)) [] (.sl 1 true ([[aI 0]])) (by
  rw [show Qja f c=_ from if_pos (by omega)]
  first | exact sR | exact Sub.loose _ _ _))
 <| fun p1=>.ord [0,1,3,4,2,5,6]<|.u 4 [b2,b2]<|
 .cs (args0:=[aN,aI c.ino]) (Qcw [] c.ino (by simp)) ⟨Sub.nil _ _,sR,trivial⟩<|
 .call (Qcw (Qcx [] c.ino) c.to (by have:=Qh9 [] c.ino;simp at this;omega))<|
 .r 1<|.ord [0,1,2,3,4,5,7,8,9,10,11,13,14,15,16,17,19,20,21,22,23,6,12,18,24,25]<|.u 21 [b1,b2,b2,b1,b2,b2,b1,b2,b2,b1,b2,b2]<|
 .call (Qio (rl0 c) f c.ino c.name hp hcn (by first | (have:=Qhn c;omega) | (have h0:=Qhn c;have h1:=Qcz (rl0 c) f c.ino c.name;have h2:=Qcz (Qb2 (rl0 c) f c.ino c.name) f c.ino c.name2;have h3:=Qcz (Qb2 (Qb2 (rl0 c) f c.ino c.name) f c.ino c.name2) f c.to c.name;omega)))<|
 .call (Qio (Qb2 (rl0 c) f c.ino c.name) f c.ino c.name2 hp hcn2 (by first | (have:=Qhn c;omega) | (have h0:=Qhn c;have h1:=Qcz (rl0 c) f c.ino c.name;have h2:=Qcz (Qb2 (rl0 c) f c.ino c.name) f c.ino c.name2;have h3:=Qcz (Qb2 (Qb2 (rl0 c) f c.ino c.name) f c.ino c.name2) f c.to c.name;omega)))<|
 .call (Qio (Qb2 (Qb2 (rl0 c) f c.ino c.name) f c.ino c.name2) f c.to c.name hp hcn (by first | (have:=Qhn c;omega) | (have h0:=Qhn c;have h1:=Qcz (rl0 c) f c.ino c.name;have h2:=Qcz (Qb2 (rl0 c) f c.ino c.name) f c.ino c.name2;have h3:=Qcz (Qb2 (Qb2 (rl0 c) f c.ino c.name) f c.ino c.name2) f c.to c.name;omega)))<|
 .call (Qio (Qb2 (Qb2 (Qb2 (rl0 c) f c.ino c.name) f c.ino c.name2) f c.to c.name) f c.to c.name2 hp hcn2 (by first | (have:=Qhn c;omega) | (have h0:=Qhn c;have h1:=Qcz (rl0 c) f c.ino c.name;have h2:=Qcz (Qb2 (rl0 c) f c.ino c.name) f c.ino c.name2;have h3:=Qcz (Qb2 (Qb2 (rl0 c) f c.ino c.name) f c.ino c.name2) f c.to c.name;omega)))<|
 .r 1<|.f (.sl 1 false ((Qja f c).map intA)) [] (.sl 1 false ((Qb2 (Qb2 (Qb2 (Qb2 (rl0 c) f c.ino c.name) f c.ino c.name2) f c.to c.name) f c.to c.name2).map intA)) (by
  rw [show Qja f c=_ from if_neg (by omega)]
  first | exact sR | exact Sub.loose _ _ _))
def lenB (n:Int):Int:=if n=0 then 0 else if n=1 then 1 else if n≤3 then 2 else if n≤7 then 3 else 4
theorem len_c0 (w:World):Calls prog 203 #[.int .u64 0] w fun e w'=>e=.returned (.int .i64 0)∧w=w':=by
 go_enter func203,Tryz.ntmps203
 go_wp2_with fail
 go_ret
 exact ⟨by kernel_rfl,rfl⟩
theorem len_c1 (w:World):Calls prog 203 #[.int .u64 1] w fun e w'=>e=.returned (.int .i64 1)∧w=w':=by
 go_enter func203,Tryz.ntmps203
 go_wp2_with fail
 go_ret
 exact ⟨by kernel_rfl,rfl⟩
theorem len_c2 (w:World):Calls prog 203 #[.int .u64 2] w fun e w'=>e=.returned (.int .i64 2)∧w=w':=by
 go_enter func203,Tryz.ntmps203
 go_wp2_with fail
 go_ret
 exact ⟨by kernel_rfl,rfl⟩
theorem len_c3 (w:World):Calls prog 203 #[.int .u64 3] w fun e w'=>e=.returned (.int .i64 2)∧w=w':=by
 go_enter func203,Tryz.ntmps203
 go_wp2_with fail
 go_ret
 exact ⟨by kernel_rfl,rfl⟩
theorem len_c4 (w:World):Calls prog 203 #[.int .u64 4] w fun e w'=>e=.returned (.int .i64 3)∧w=w':=by
 go_enter func203,Tryz.ntmps203
 go_wp2_with fail
 go_ret
 exact ⟨by kernel_rfl,rfl⟩
theorem len_c5 (w:World):Calls prog 203 #[.int .u64 5] w fun e w'=>e=.returned (.int .i64 3)∧w=w':=by
 go_enter func203,Tryz.ntmps203
 go_wp2_with fail
 go_ret
 exact ⟨by kernel_rfl,rfl⟩
theorem len_c6 (w:World):Calls prog 203 #[.int .u64 6] w fun e w'=>e=.returned (.int .i64 3)∧w=w':=by
 go_enter func203,Tryz.ntmps203
 go_wp2_with fail
 go_ret
 exact ⟨by kernel_rfl,rfl⟩
theorem len_c7 (w:World):Calls prog 203 #[.int .u64 7] w fun e w'=>e=.returned (.int .i64 3)∧w=w':=by
 go_enter func203,Tryz.ntmps203
 go_wp2_with fail
 go_ret
 exact ⟨by kernel_rfl,rfl⟩
theorem len_c8 (w:World):Calls prog 203 #[.int .u64 8] w fun e w'=>e=.returned (.int .i64 4)∧w=w':=by
 go_enter func203,Tryz.ntmps203
 go_wp2_with fail
 go_ret
 exact ⟨by kernel_rfl,rfl⟩
theorem len_c9 (w:World):Calls prog 203 #[.int .u64 9] w fun e w'=>e=.returned (.int .i64 4)∧w=w':=by
 go_enter func203,Tryz.ntmps203
 go_wp2_with fail
 go_ret
 exact ⟨by kernel_rfl,rfl⟩
theorem Zm4 (w:World):Calls prog 203 #[.int .u64 10] w fun e w'=>e=.returned (.int .i64 4)∧w=w':=by
 go_enter func203,Tryz.ntmps203
 go_wp2_with fail
 go_ret
 exact ⟨by kernel_rfl,rfl⟩
theorem Zm3 (w:World):Calls prog 203 #[.int .u64 11] w fun e w'=>e=.returned (.int .i64 4)∧w=w':=by
 go_enter func203,Tryz.ntmps203
 go_wp2_with fail
 go_ret
 exact ⟨by kernel_rfl,rfl⟩
theorem Zm2 (w:World):Calls prog 203 #[.int .u64 12] w fun e w'=>e=.returned (.int .i64 4)∧w=w':=by
 go_enter func203,Tryz.ntmps203
 go_wp2_with fail
 go_ret
 exact ⟨by kernel_rfl,rfl⟩
theorem Zek (n:Int) (h0:0≤n) (h1:n≤12) (w:World):Calls prog 203 #[.int .u64 n] w fun e w'=>e=.returned (.int .i64 (lenB n))∧w=w':=by
 rcases (show n=0∨n=1∨n=2∨n=3∨n=4∨n=5∨n=6∨n=7∨n=8∨n=9∨n=10∨n=11∨n=12 from by omega) with rfl | rfl | rfl | rfl | rfl | rfl | rfl | rfl | rfl | rfl | rfl | rfl | rfl
 ·exact len_c0 w
 ·exact len_c1 w
 ·exact len_c2 w
 ·exact len_c3 w
 ·exact len_c4 w
 ·exact len_c5 w
 ·exact len_c6 w
 ·exact len_c7 w
 ·exact len_c8 w
 ·exact len_c9 w
 ·exact Zm4 w
 ·exact Zm3 w
 ·exact Zm2 w
theorem Zel (n:Int) (h0:0≤n) (h1:n≤12) (w:World):Calls prog 153 #[.int .u64 n] w fun e w'=>e=.returned (.int .i64 (lenB n))∧w=w':=by
 go_enter func153,Tryz.ntmps153
 go_wp2_with fail
 refine (Zek n h0 h1 _).mono ?_;rintro e w1 ⟨rfl,rfl⟩
 go_wp2_with fail
 go_ret
 exact ⟨rfl,rfl⟩
theorem Ziy (n:Int) (h0:0≤n) (h1:n≤12):Qah prog 153 [.val (.int .u64 n)] (aI (lenB n)):=Qcj (fun D w=>.val _) fun D w vs h=>by
 obtain ⟨u,rfl,hu⟩:=Qde.one h;cases hu;exact (Zel n h0 h1 w).mono fun e w' ⟨g1,g2⟩=>⟨g1,g2 ▸ Below.refl _ _⟩
end Go.Proofs.YtahlldgocpabjaaGreat
