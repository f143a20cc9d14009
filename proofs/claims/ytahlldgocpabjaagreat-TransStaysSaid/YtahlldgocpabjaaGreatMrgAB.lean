import Derived.Test.YtahlldgocpabjaaGreatMrgV
import Derived.Test.YtahlldgocpabjaaGreatOpsD13
import Derived.Test.YtahlldgocpabjaaGreatMrgJ
import Derived.Test.YtahlldgocpabjaaGreatMrgW
import Derived.Test.YtahlldgocpabjaaGreatRfI13
import Derived.Lib.SlicesCompact
set_option maxRecDepth 100000
set_option maxHeartbeats 8000000
set_option linter.unusedVariables false
set_option linter.unusedSimpArgs false
namespace Go.Proofs.YtahlldgocpabjaaGreat
open Go Go.RowKit Copyhold
structure OkC0 (c:Cal):Prop where
 kind:I64 c.kind
 ino:I64 c.ino
 to:I64 c.to
 at_:I64 c.at_
 many:I64 c.many
 name:c.name.length≤140737488351232
 name2:c.name2.length≤140737488351232
 text:c.text.length≤140737488351232
def txC (c:Cal):Nat:=c.name.length+c.name2.length+c.text.length
def smS (l:List Cal) (k:Nat):Nat:=l.length+((l.take k).map txC).sum
def Qfc (l:List Cal):Prop:=smS l l.length≤2000∧l.length≤30
theorem sm_0 (l:List Cal):smS l 0=l.length:=by unfold smS;simp
theorem Qye {l:List Cal} {k:Nat} {x:Cal} (h:l[k]?=some x):smS l (k+1)=smS l k+txC x:=by
 unfold smS
 rw [Qap h]
 simp
 omega
theorem Zho (l:List Cal) (k:Nat):smS l k≤smS l l.length:=by
 unfold smS
 have:=Qhl txC l k
 rw [List.take_length]
 omega
theorem Zdf {l:List Cal} (h:Qfc l) {c:Cal} (hc:c∈l) (h0:OkC0 c):OkCal c:=by
 have h1:=h.1
 have:txC c≤((l.take l.length).map txC).sum:=by rw [List.take_length];exact Qjb hc
 unfold smS at h1
 have e:txC c=c.name.length+c.name2.length+c.text.length:=rfl
 exact ⟨h0.kind,h0.ino,h0.to,h0.at_,h0.many,by omega,by omega,by omega⟩
theorem Qv1 (l:List Cal) (hl:l.length≤8796093022207) (ok:∀ c∈l,OkC0 c):Qaj Tryz.prog 13 [.sl 8 false (l.map calA)] (aB (dP (Qfc l))):=by
 exact Qac (F:=Tryz.f13) 400 (
 .r 1<|.r 2<|.val 6 (show (aI ((l.map calA).length:Int):AV)=aI (l.length:Int) from by rw [List.length_map])<|.r 1<|.r 1<|let L1:Lp (Nat):=⟨fun a1=>⟨[(0,.sl 8 false (l.map calA)),(4,aI (a1:Int)),(3,aI (smS l a1:Int))],[]⟩,fun a1=>l.length-a1,fun a1=>a1≤l.length∧smS l a1≤500000000000000⟩
 .loop L1 0 (show 0≤l.length∧smS l 0≤500000000000000 from (by rw [sm_0];omega)) ⟨[(0,.sl 8 false (l.map calA)),(4,aI 0),(3,aI (l.length:Int))],[]⟩ ⟨sR,Sub.of_eq (congrArg aI (by first | omega | rfl)),Sub.of_eq (congrArg aI (by rw [sm_0])),trivial⟩ trivial fun a1 ha1=>
 (fun (k:Nat) (hH1:k≤l.length∧smS l k≤500000000000000)=>.r 3<|.val 9 (show (aI ((l.map calA).length:Int):AV)=aI (l.length:Int) from by rw [List.length_map])<|.r 2<|.br 11 (decide ((k:Int)<(l.length:Int))) (fun q1=>have p1:=decT q1;.r 3<|.br 14 (decide ((smS l k:Int)≤2000)) (fun q2=>have p2:=decT q2;.ord [0,1,2,3,4,5,6,7,8,9,10,11,12,13,14,15,16,17,18,19,20,21,22]<|.r 3<|.idxM l calA k (m:=(k:Int)) rfl (by omega) fun x1 hx1=>
 have okx1:=ok x1 (List.mem_of_getElem? hx1);have b1x1:=okx1.name;have b2x1:=okx1.name2;have b3x1:=okx1.text;.run 6 [rng .i64 ((smS l k:Int)+((x1.name).length:Int))] ⟨Qas (by omega) (by omega),trivial⟩<|
 .idx k (m:=(k:Int)) (xs:=l.map calA) (e:=calA x1) rfl (map_some hx1)<|
 .run 6 [rng .i64 (((smS l k:Int)+((x1.name).length:Int))+((x1.name2).length:Int))] ⟨Qas (by omega) (by omega),trivial⟩<|
 .idx k (m:=(k:Int)) (xs:=l.map calA) (e:=calA x1) rfl (map_some hx1)<|
 .run 5 [rng .i64 ((((smS l k:Int)+((x1.name).length:Int))+((x1.name2).length:Int))+((x1.text).length:Int))] ⟨Qas (by omega) (by omega),trivial⟩<|
 .run 3 [rng .i64 ((k:Int)+1)] ⟨Qas (by omega) (by omega),trivial⟩<|
 .back L1 k (k+1) (show (k+1)≤l.length∧smS l (k+1)≤500000000000000 from (by refine ⟨by omega,?_⟩;rw [Qye hx1];unfold txC;omega)) (show l.length-(k+1)<l.length-k from (by omega)) ⟨[(0,.sl 8 false (l.map calA)),(4,aI ((k:Int)+1)),(3,aI ((((smS l k:Int)+((x1.name).length:Int))+((x1.name2).length:Int))+((x1.text).length:Int)))],[]⟩ ⟨sR,Sub.of_eq (congrArg aI (by first | omega | rfl)),Sub.of_eq (congrArg aI (by rw [Qye hx1];unfold txC;omega)),trivial⟩ trivial)
 <| fun q2=>have p2:=decF q2;.r 3<|.is 41 q2<|.r 5<|.fin (x:=aB false) (r:=aB (dP (Qfc l))) [] trivial (by
  have hm:=Zho l k
  by_cases hk:k=l.length
  ·rw [← hk] at hm
   refine sE ?_
   unfold Qfc
   rw [← hk]
   simp
   omega
  ·refine sE ?_
   unfold Qfc
   simp
   omega))
 <| fun q1=>have p1:=decF q1;.r 3<|.r 3<|.br 41 (decide ((smS l k:Int)≤2000)) (fun q3=>have p3:=decT q3;.r 2<|.val 43 (show (aI ((l.map calA).length:Int):AV)=aI (l.length:Int) from by rw [List.length_map])<|.r 3<|.fin (x:=aB (decide ((l.length:Int)≤30))) (r:=aB (dP (Qfc l))) [] trivial (by
  have hm:=Zho l k
  by_cases hk:k=l.length
  ·rw [← hk] at hm
   refine sE ?_
   unfold Qfc
   rw [← hk]
   simp
   omega
  ·refine sE ?_
   unfold Qfc
   simp
   omega))
 <| fun q3=>have p3:=decF q3;.r 5<|.fin (x:=aB false) (r:=aB (dP (Qfc l))) [] trivial (by
  have hm:=Zho l k
  by_cases hk:k=l.length
  ·rw [← hk] at hm
   refine sE ?_
   unfold Qfc
   rw [← hk]
   simp
   omega
  ·refine sE ?_
   unfold Qfc
   simp
   omega)) a1 ha1) Tryz.func13 rfl (by kernel_rfl) (by kernel_rfl)
def mkN (P:Program) (ops:Array Oper) (s:LS) (i:Nat):Option (TypeId × Int × Int × TypeId × List AV × Nat):=
 match opAt ops s i with
 | some o=>
  match o.op,o.dst with
  | .makeSlice t l c,some d=>
   match s.ev l,s.ev c,Qjm P t,bget s.bx d with
   | .val (.int .i64 m),.val (.int .i64 m'),some e,none=>
    match Qpq P e with
    | some z=>some (t,m,m',e,z,d)
    | none=>none
   | _,_,_,_=>none
  | _,_=>none
 | none=>none
theorem Zdr {P:Program} {t e:TypeId} {m:Int} {z:List AV} {d k:Nat} (n bytes:Nat) (hE:Qgn P t e k bytes=true) (hm:m=(n:Int)) (hby:bytes*n≤140737488355328) (h63:n≤140737488355327) :
  ∀ (ops:Array Oper) (i:Nat) (s:LS) (K:FS→Prop) (rest:List Nat),mkN P ops s i=some (t,m,m,e,z,d)→(∀ V:Value,SeqR P ops K rest ((s.put (some d) (.rw d V n)).setB d (.row V e k (List.replicate n z))).fs)→SeqR P ops K (i :: rest) s.fs:=by
 intro ops i s K rest h kk
 subst hm
 unfold mkN at h
 split at h
 ·rename_i o ho
  obtain ⟨hi,hg⟩:=Qbr ho
  split at h
  ·rename_i t' l c d' hop hd
   split at h
   ·rename_i m1 m2 e' hl hc hel hbn
    split at h
    ·rename_i z' hz
     simp only [Option.some.injEq,Prod.mk.injEq] at h
     obtain ⟨rfl,rfl,rfl,rfl,rfl,rfl⟩:=h
     obtain ⟨zv,hEl⟩:=Qha hE
     obtain ⟨ht,hinf,hzs,hsz⟩:=id hEl
     obtain ⟨ti,hti,htz,hsize,hbytes⟩:=Qfz hinf
     have hzk:z'.length=k:=by
      obtain ⟨it,z2,g1,g2,hrepz⟩:=Qfp (D:=fun _=>True) (w:=(default:World)) hz
      rw [hti] at g1
      obtain rfl:=Option.some.inj g1
      rw [htz] at g2
      obtain rfl:=Option.some.inj g2
      have:=hrepz.1
      omega
     have hkx:∀ l∈List.replicate n z',l.length=k:=fun l hl=>by rw [List.eq_of_mem_replicate hl];exact hzk
     refine ⟨o,hi,.inr ⟨hg,.inr (.inl ⟨by rw [hop];rfl,_,Qij (e:=e') (k:=k) (xs:=List.replicate n z') hd hkx (fun D w ρ hops=>?_),?_⟩)⟩⟩
     ·have hvl:=Qa4 hops l (by simp [hop,Op.operands])
      have hvc:=Qa4 hops c (by simp [hop,Op.operands])
      rw [hl] at hvl
      rw [hc] at hvc
      generalize hlv:ρ l=vl at hvl
      generalize hcv:ρ c=vc at hvc
      cases hvl
      cases hvc
      obtain ⟨it,z2,g1,g2,hrepz⟩:=Qfp (D:=D) (w:=w) hz
      rw [hti] at g1
      obtain rfl:=Option.some.inj g1
      rw [htz] at g2
      obtain rfl:=Option.some.inj g2
      have hb48:(ti.bytes:Int)*(n:Int)≤281474976710656:=by
       have h0:((bytes*n:Nat):Int)≤281474976710656:=by omega
       rw [hbytes]
       rwa [Int.natCast_mul] at h0
      have hrun:=run_make (P:=P) w t' e' ti zv ht hti htz .i64 .i64 (n:Int) (n:Int) (by omega) (by omega) hb48 (by omega)
      rw [hsize,Int.toNat_natCast] at hrun
      have hcells:madeCells zv.cells (n*k)=(List.replicate n zv.cells.toList).flatten.toArray:=by
       have:=Qkf zv.cells n (by omega)
       apply Array.ext'
       rw [← hzs,List.toList_toArray,← this]
       rfl
      rw [hcells] at hrun
      have hrep:=Qfe hrepz n
      have hlen:(List.replicate n zv.cells.toList).flatten.length=n*k:=by
       rw [Qfm (k:=k) (fun l hl=>by rw [List.eq_of_mem_replicate hl];simpa using hzs),List.length_replicate]
      refine ⟨.slice (some ⟨w.heap.size,0,none⟩) n n,w.alloc (.cells (List.replicate n zv.cells.toList).flatten.toArray e'),(List.replicate n zv.cells.toList).flatten,by simp [execOp,hop,hlv,hcv,hrun],World.grownBy_alloc w _ none,?_,fun u hu=>?_,fun j a u ha hu=>?_⟩
      ·refine ⟨by rw [hlen,List.length_replicate],.inr ⟨w.heap.size,n,_,by rw [List.length_replicate],Nat.le_refl _,heap_alloc_new w _,by rw [List.length_replicate];exact Nat.le_refl _,by unfold maxLen;omega,by simpa using hlen,?_⟩⟩
       rw [List.length_replicate,List.toList_toArray,List.take_of_length_le (by omega)]
      ·obtain ⟨p,hp⟩:=List.mem_iff_getElem?.1 hu
       exact hrep.2.1 p u (by simpa using hp)
      ·exact hrep.2.2 j a u ha (by simpa using hu)
     ·rintro y nb ⟨V',rfl,rfl⟩
      refine ⟨fun id y hy=>?_,?_⟩
      ·obtain ⟨rfl,rfl⟩:=by simpa using hy
       exact hbn
      ·have:=kk V'
       rw [← LS.fs_setB,← LS.fs_put] at this
       rw [hd,List.length_replicate]
       exact this
    ·cases h
   ·cases h
  ·cases h
 ·cases h
noncomputable def plF:Fsy→List Cal→Fsy
 | f,[]=>f
 | f,c :: r=>plF (doF f c).1 r
noncomputable def plR:Fsy→List Cal→List Rep
 | _,[]=>[]
 | f,c :: r=>(doF f c).2 :: plR (doF f c).1 r
theorem Qzl:∀ (a b:List Cal) (f:Fsy),plF f (a++b)=plF (plF f a) b
 | [],_,_=>rfl
 | c :: r,b,f=>Qzl r b (doF f c).1
theorem Qzk:∀ (a b:List Cal) (f:Fsy),plR f (a++b)=plR f a++plR (plF f a) b
 | [],_,_=>rfl
 | c :: r,b,f=>by
  show (doF f c).2 :: plR (doF f c).1 (r++b)=(doF f c).2 :: (plR (doF f c).1 r++plR (plF (doF f c).1 r) b)
  rw [Qzk r b]
theorem Qhm:∀ (l:List Cal) (f:Fsy),(plR f l).length=l.length
 | [],_=>rfl
 | c :: r,f=>congrArg (·+1) (Qhm r (doF f c).1)
theorem Zd3 {f:Fsy} {l:List Cal} {k:Nat} {x:Cal} (h:l[k]?=some x):plF f (l.take (k+1))=(doF (plF f (l.take k)) x).1:=by
 rw [Qap h,Qzl];rfl
theorem Zd2 {f:Fsy} {l:List Cal} {k:Nat} {x:Cal} (h:l[k]?=some x):plR f (l.take (k+1))=plR f (l.take k)++[(doF (plF f (l.take k)) x).2]:=by
 rw [Qap h,Qzk];rfl
structure KeptN (f g:Fsy) (k:Nat):Prop where
 ok:OkF g
 tree:TreeP g
 next:f.next≤g.next∧g.next≤f.next+k
 few:wF g≤wF f+2*k
theorem Zan {f:Fsy} (okf:OkF f) (T:TreeP f) {l:List Cal} (hl:l.length≤1000) (ok:∀ c∈l,OkCal c) (hx:f.next<1152921504606847976):∀ k,k≤l.length→KeptN f (plF f (l.take k)) k
 | 0,_=>⟨okf,T,⟨Int.le_refl _,by show f.next≤_;omega⟩,by show wF f≤_;omega⟩
 | k+1,hk=>by
  have ih:=Zan okf T hl ok hx k (by omega)
  have h:=List.getElem?_eq_getElem (l:=l) (i:=k) (by omega)
  have K:=Zap ih.ok (ok _ (List.mem_of_getElem? h)) ih.tree (by have:=ih.next.2;omega)
  rw [Zd3 h]
  have h1:=ih.next
  have h2:=K.next
  have h3:=ih.few
  have h4:=K.few
  exact ⟨K.ok,K.tree,by omega,by omega⟩
def zRA (_:Unit):List AV:=[aI 0,aI 0,aI 0,aI 0,aS [],aN]
def prow (R:List Rep) (n:Nat):List (List AV):=R.map repA++List.replicate (n-R.length) (zRA ())
theorem Qoj {R:List Rep} {n:Nat} (h:R.length≤n):(prow R n).length=n:=by
 unfold prow
 rw [List.length_append,List.length_map,List.length_replicate]
 omega
theorem Zd0 {R:List Rep} {n k:Nat} (h:R.length=k) (hk:k<n):(prow R n)[k]?=some (zRA ()):=by
 unfold prow
 rw [List.getElem?_append_right (by rw [List.length_map];omega),List.length_map,h,Nat.sub_self,List.getElem?_replicate,if_pos (by omega)]
theorem Zdz {R:List Rep} {n k:Nat} {v:Rep} (h:R.length=k) (hk:k<n):(prow R n).set k ((zRA ()).take 0++repA v++(zRA ()).drop (0+(repA v).length))=prow (R++[v]) n:=by
 have e:(zRA ()).take 0++repA v++(zRA ()).drop (0+(repA v).length)=repA v:=rfl
 rw [e]
 unfold prow
 rw [List.set_append_right _ _ (by rw [List.length_map];omega),List.length_map,h,Nat.sub_self,List.length_append,h,show n-k=(n-(k+1))+1 from by omega,List.replicate_succ,List.set_cons_zero,List.map_append]
 simp
theorem Qzh {R:List Rep} {n:Nat} (h:R.length=n):prow R n=R.map repA:=by
 unfold prow
 rw [h,Nat.sub_self]
 simp
theorem Zfa {f:Fsy} {c:Cal} (hp:Qal f):(doF f c).2.names.length≤256:=by
 have key:(Qbw f c).2.names.length≤256:=by
  rcases (show c.kind=1∨c.kind=2∨c.kind=3∨c.kind=4∨c.kind=5∨c.kind=6∨c.kind=7∨c.kind=8∨c.kind=9∨c.kind=10∨c.kind=11∨c.kind=12∨c.kind=13∨c.kind=14∨c.kind=15∨(c.kind<1∨c.kind>15) from by omega) with h | h | h | h | h | h | h | h | h | h | h | h | h | h | h | h
  ·rw [Qmb h]
   exact Nat.zero_le _
  ·rw [Qj8 h]
   unfold Qcz;split<;>exact Nat.zero_le _
  ·rw [Qj7 h]
   unfold Qc0;split<;>exact Nat.zero_le _
  ·rw [Qj6 h]
   unfold Qb2;split<;>exact Nat.zero_le _
  ·rw [Qj5 h]
   unfold cutO;split<;>exact Nat.zero_le _
  ·rw [Qiy h]
   exact Nat.zero_le _
  ·rw [Qj4 h]
   exact Nat.zero_le _
  ·rw [Qj3 h]
   unfold symO;split<;>exact Nat.zero_le _
  ·rw [Qix h]
   unfold Qa9;split
   ·split<;>exact Nat.zero_le _
   ·exact Nat.zero_le _
  ·rw [Qf3 h]
   unfold Qa9;split
   ·split<;>exact Nat.zero_le _
   ·exact Nat.zero_le _
  ·rw [Qhv h]
   exact Nat.zero_le _
  ·rw [Qhu h]
   exact Nat.zero_le _
  ·rw [Qgo h]
   exact Nat.zero_le _
  ·rw [Qht h]
   show ((dirN f c.ino).l.map Ent.name).length≤256
   rw [List.length_map]
   exact (Qc2 hp c.ino).2
  ·rw [Qhs h]
   exact Nat.zero_le _
  ·rw [Qpf h];exact Nat.zero_le _
 unfold doF
 split
 ·exact key
 ·exact Nat.zero_le _
theorem rep_eq {x y:Rep} (h1:x.e=y.e) (h2:x.a=y.a) (h3:x.b=y.b) (h4:x.n=y.n) (h5:x.text=y.text) (h6:x.names=y.names):x=y:=by cases x;cases y;simp_all
def pN (l:List Int) (n:Int):Nat:=(l.takeWhile fun x=>decide (x<n)).length
theorem pN_le (l:List Int) (n:Int):pN l n≤l.length:=(List.takeWhile_sublist _).length_le
theorem Qzo {n:Int}:∀ {l:List Int} {k:Nat} {x:Int},k≤pN l n→l[k]?=some x→(x<n↔k<pN l n)
 | [],k,x,_,hx=>(by simp at hx)
 | a :: r,k,x,hk,hx=>by
  by_cases ha:a<n
  ·have e:pN (a :: r) n=pN r n+1:=by unfold pN;rw [List.takeWhile_cons,if_pos (by simpa using ha)];rfl
   rw [e] at hk ⊢
   cases k with
   | zero=>
    simp at hx
    subst hx
    exact ⟨fun _=>by omega,fun _=>ha⟩
   | succ k=>
    have:=Qzo (n:=n) (l:=r) (k:=k) (x:=x) (by omega) (by simpa using hx)
    rw [this]
    omega
  ·have e:pN (a :: r) n=0:=by unfold pN;rw [List.takeWhile_cons,if_neg (by simpa using ha)];rfl
   rw [e] at hk ⊢
   obtain rfl:k=0:=by omega
   simp at hx
   subst hx
   exact ⟨fun h=>absurd h ha,fun h=>by omega⟩
def wiK (l:List Int) (n:Int) (k j:Nat):List Int:=l.take k++n :: ((l.drop k).take (j-k)).filter fun x=>x != n
theorem wiK_le (l:List Int) (n:Int) (k j:Nat) (hk:k≤l.length):(wiK l n k j).length≤l.length+1:=by
 unfold wiK
 have:=List.length_filter_le (fun x=>x != n) ((l.drop k).take (j-k))
 simp only [List.length_append,List.length_cons,List.length_take,List.length_drop] at this ⊢
 omega
def Qn5 (l:List Int) (n:Int):List Int:=wiK l n (pN l n) l.length
theorem Zc0 (l:List Int) (n:Int):(Qn5 l n).length≤l.length+1:=wiK_le l n _ _ (pN_le l n)
def lenB (n:Int):Int:=if n=0 then 0 else if n=1 then 1 else if n≤3 then 2 else if n≤7 then 3 else 4
theorem len_c0 (w:World):Calls Tryz.prog 203 #[.int .u64 0] w fun e w'=>e=.returned (.int .i64 0)∧w=w':=by
 go_enter Tryz.func203,Tryz.ntmps203
 go_wp2_with fail
 go_ret
 exact ⟨by kernel_rfl,rfl⟩
theorem len_c1 (w:World):Calls Tryz.prog 203 #[.int .u64 1] w fun e w'=>e=.returned (.int .i64 1)∧w=w':=by
 go_enter Tryz.func203,Tryz.ntmps203
 go_wp2_with fail
 go_ret
 exact ⟨by kernel_rfl,rfl⟩
theorem len_c2 (w:World):Calls Tryz.prog 203 #[.int .u64 2] w fun e w'=>e=.returned (.int .i64 2)∧w=w':=by
 go_enter Tryz.func203,Tryz.ntmps203
 go_wp2_with fail
 go_ret
 exact ⟨by kernel_rfl,rfl⟩
theorem len_c3 (w:World):Calls Tryz.prog 203 #[.int .u64 3] w fun e w'=>e=.returned (.int .i64 2)∧w=w':=by
 go_enter Tryz.func203,Tryz.ntmps203
 go_wp2_with fail
 go_ret
 exact ⟨by kernel_rfl,rfl⟩
theorem len_c4 (w:World):Calls Tryz.prog 203 #[.int .u64 4] w fun e w'=>e=.returned (.int .i64 3)∧w=w':=by
 go_enter Tryz.func203,Tryz.ntmps203
 go_wp2_with fail
 go_ret
 exact ⟨by kernel_rfl,rfl⟩
theorem len_c5 (w:World):Calls Tryz.prog 203 #[.int .u64 5] w fun e w'=>e=.returned (.int .i64 3)∧w=w':=by
 go_enter Tryz.func203,Tryz.ntmps203
 go_wp2_with fail
 go_ret
 exact ⟨by kernel_rfl,rfl⟩
theorem len_c6 (w:World):Calls Tryz.prog 203 #[.int .u64 6] w fun e w'=>e=.returned (.int .i64 3)∧w=w':=by
 go_enter Tryz.func203,Tryz.ntmps203
 go_wp2_with fail
 go_ret
 exact ⟨by kernel_rfl,rfl⟩
theorem len_c7 (w:World):Calls Tryz.prog 203 #[.int .u64 7] w fun e w'=>e=.returned (.int .i64 3)∧w=w':=by
 go_enter Tryz.func203,Tryz.ntmps203
 go_wp2_with fail
 go_ret
 exact ⟨by kernel_rfl,rfl⟩
theorem len_c8 (w:World):Calls Tryz.prog 203 #[.int .u64 8] w fun e w'=>e=.returned (.int .i64 4)∧w=w':=by
 go_enter Tryz.func203,Tryz.ntmps203
 go_wp2_with fail
 go_ret
 exact ⟨by kernel_rfl,rfl⟩
theorem len_c9 (w:World):Calls Tryz.prog 203 #[.int .u64 9] w fun e w'=>e=.returned (.int .i64 4)∧w=w':=by
 go_enter Tryz.func203,Tryz.ntmps203
 go_wp2_with fail
 go_ret
 exact ⟨by kernel_rfl,rfl⟩
theorem Zii (w:World):Calls Tryz.prog 203 #[.int .u64 10] w fun e w'=>e=.returned (.int .i64 4)∧w=w':=by
 go_enter Tryz.func203,Tryz.ntmps203
 go_wp2_with fail
 go_ret
 exact ⟨by kernel_rfl,rfl⟩
theorem Zih (w:World):Calls Tryz.prog 203 #[.int .u64 11] w fun e w'=>e=.returned (.int .i64 4)∧w=w':=by
 go_enter Tryz.func203,Tryz.ntmps203
 go_wp2_with fail
 go_ret
 exact ⟨by kernel_rfl,rfl⟩
theorem Zig (w:World):Calls Tryz.prog 203 #[.int .u64 12] w fun e w'=>e=.returned (.int .i64 4)∧w=w':=by
 go_enter Tryz.func203,Tryz.ntmps203
 go_wp2_with fail
 go_ret
 exact ⟨by kernel_rfl,rfl⟩
theorem Zag (n:Int) (h0:0≤n) (h1:n≤12) (w:World):Calls Tryz.prog 203 #[.int .u64 n] w fun e w'=>e=.returned (.int .i64 (lenB n))∧w=w':=by
 rcases (show n=0∨n=1∨n=2∨n=3∨n=4∨n=5∨n=6∨n=7∨n=8∨n=9∨n=10∨n=11∨n=12 from by omega) with rfl | rfl | rfl | rfl | rfl | rfl | rfl | rfl | rfl | rfl | rfl | rfl | rfl
 ·exact len_c0 w
 ·exact len_c1 w
 ·exact len_c2 w
 ·exact len_c3 w
 ·exact len_c4 w
 ·exact len_c5 w
 ·exact len_c6 w
 ·exact len_c7 w
 ·exact len_c8 w
 ·exact len_c9 w
 ·exact Zii w
 ·exact Zih w
 ·exact Zig w
theorem Zah (n:Int) (h0:0≤n) (h1:n≤12) (w:World):Calls Tryz.prog 153 #[.int .u64 n] w fun e w'=>e=.returned (.int .i64 (lenB n))∧w=w':=by
 go_enter Tryz.func153,Tryz.ntmps153
 go_wp2_with fail
 refine (Zag n h0 h1 _).mono ?_
 rintro e w1 ⟨rfl,rfl⟩
 go_wp2_with fail
 go_ret
 exact ⟨rfl,rfl⟩
theorem Zeh (n:Int) (h0:0≤n) (h1:n≤12):Qaj Tryz.prog 153 [.val (.int .u64 n)] (aI (lenB n)):=Qca (fun D w=>.val _) fun D w vs h=>by
 obtain ⟨u,rfl,hu⟩:=Qcx.one h
 cases hu
 exact (Zah n h0 h1 w).mono fun e w' ⟨g1,g2⟩=>⟨g1,g2 ▸ Below.refl _ _⟩
def lk2 (l:List Ent) (ss:List Txt) (L:List Int):List Int:=ss.foldl (fun L s=>if isB l s=true then L++[getI l s] else L) L
def lk1 (f:Fsy) (c:Cal) (L:List Int) (i:Int):List Int:=if dirE f i=0 then lk2 (dirN f i).l [c.name,c.name2] L else L
def lk0 (f:Fsy) (c:Cal) (is:List Int):List Int:=is.foldl (lk1 f c) [c.ino,c.to]
def Qjz (f:Fsy) (c:Cal):List Int:=lk0 f c [c.ino,c.to]
theorem Zad {l:List Ent} {ss:List Txt} {L:List Int} {j:Nat} {s:Txt} (h:ss[j]?=some s) (q:isB l s=true):lk2 l (ss.take (j+1)) L=lk2 l (ss.take j) L++[getI l s]:=by
 unfold lk2
 rw [Qap h,List.foldl_append,List.foldl_cons,List.foldl_nil,if_pos q]
theorem Zgq {l:List Ent} {ss:List Txt} {L:List Int} {j:Nat} {s:Txt} (h:ss[j]?=some s) (q:isB l s=false):lk2 l (ss.take (j+1)) L=lk2 l (ss.take j) L:=by
 unfold lk2
 rw [Qap h,List.foldl_append,List.foldl_cons,List.foldl_nil,if_neg (by rw [q];decide)]
theorem Qkq {f:Fsy} {c:Cal} {is:List Int} {j:Nat} {i:Int} (h:is[j]?=some i):lk0 f c (is.take (j+1))=lk1 f c (lk0 f c (is.take j)) i:=by
 unfold lk0
 rw [Qap h,List.foldl_append];rfl
theorem Qsz (l:List Ent):∀ (ss:List Txt) (L:List Int),L.length≤(lk2 l ss L).length∧(lk2 l ss L).length≤L.length+ss.length
 | [],L=>⟨Nat.le_refl _,Nat.le_refl _⟩
 | s :: r,L=>by
  have h:=Qsz l r (if isB l s=true then L++[getI l s] else L)
  have e:lk2 l (s :: r) L=lk2 l r (if isB l s=true then L++[getI l s] else L):=rfl
  rw [e]
  have h2:L.length≤(if isB l s=true then L++[getI l s] else L).length∧(if isB l s=true then L++[getI l s] else L).length≤L.length+1:=by
   split
   ·rw [List.length_append];exact ⟨by omega,Nat.le_refl _⟩
   ·exact ⟨Nat.le_refl _,by omega⟩
  have h3:(s :: r).length=r.length+1:=rfl
  omega
theorem Qs0 (f:Fsy) (c:Cal):∀ (is:List Int) (L:List Int),L.length≤(is.foldl (lk1 f c) L).length∧(is.foldl (lk1 f c) L).length≤L.length+2*is.length
 | [],L=>⟨Nat.le_refl _,Nat.le_refl _⟩
 | i :: r,L=>by
  have h:=Qs0 f c r (lk1 f c L i)
  have h2:L.length≤(lk1 f c L i).length∧(lk1 f c L i).length≤L.length+2:=by
   unfold lk1
   split
   ·exact Qsz _ _ _
   ·exact ⟨Nat.le_refl _,by omega⟩
  have e:(i :: r).foldl (lk1 f c) L=r.foldl (lk1 f c) (lk1 f c L i):=rfl
  rw [e]
  simp only [List.length_cons]
  omega
theorem Qlp (f:Fsy) (c:Cal):2≤(Qjz f c).length∧(Qjz f c).length≤6:=by
 have:=Qs0 f c [c.ino,c.to] [c.ino,c.to]
 unfold Qjz lk0
 simp only [List.length_cons,List.length_nil] at this
 omega
theorem Qw4 {t:Bool} (a b:Txt):Sub (.sl 1 t [[aS a],[aS b]]) (.sl 1 false ([a,b].map txA)):=Sub.loose _ _ _
def Asc (l:List Int):Prop:=l.Pairwise (· < ·)
theorem Qtr:∀ {a b:List Int},Asc a→Asc b→(∀ x,x∈a↔x∈b)→a=b
 | [],[],_,_,_=>rfl
 | [],y :: r,_,_,h=>absurd ((h y).2 (by simp)) (by simp)
 | x :: r,[],_,_,h=>absurd ((h x).1 (by simp)) (by simp)
 | x :: r,y :: q,ha,hb,h=>by
  obtain ⟨a1,a2⟩:=List.pairwise_cons.1 ha
  obtain ⟨b1,b2⟩:=List.pairwise_cons.1 hb
  have hx:=(h x).1 (by simp)
  have hy:=(h y).2 (by simp)
  have e:x=y:=by
   rcases List.mem_cons.1 hx with e | e
   ·exact e
   ·rcases List.mem_cons.1 hy with e2 | e2
    ·exact e2.symm
    ·have:=b1 x e
     have:=a1 y e2
     omega
  subst e
  congr 1
  refine Qtr a2 b2 fun z=>?_
  have hz:=h z
  constructor
  ·intro hm
   rcases List.mem_cons.1 (hz.1 (List.mem_cons_of_mem _ hm)) with e | e
   ·have:=a1 z hm;omega
   ·exact e
  ·intro hm
   rcases List.mem_cons.1 (hz.2 (List.mem_cons_of_mem _ hm)) with e | e
   ·have:=b1 z hm;omega
   ·exact e
theorem Zcq {l:List Int} (h:Asc l) (n:Int):(∀ x∈l.take (pN l n),x<n)∧∀ x∈l.drop (pN l n),n≤x:=by
 constructor
 ·intro x hx
  obtain ⟨i,hi,rfl⟩:=List.mem_iff_getElem.1 hx
  rw [List.length_take] at hi
  rw [List.getElem_take]
  exact (Qzo (n:=n) (l:=l) (k:=i) (by omega) (List.getElem?_eq_getElem (by omega))).2 (by omega)
 ·intro x hx
  obtain ⟨i,hi,rfl⟩:=List.mem_iff_getElem.1 hx
  rw [List.length_drop] at hi
  rw [List.getElem_drop]
  have h0:¬ l[pN l n]'(by omega)<n:=fun hc=>by
   have:=(Qzo (n:=n) (l:=l) (k:=pN l n) (Nat.le_refl _) (List.getElem?_eq_getElem (by omega))).1 hc
   omega
  by_cases hi0:i=0
  ·subst hi0
   simp only [Nat.add_zero]
   omega
  ·have:=List.pairwise_iff_getElem.1 h (pN l n) (pN l n+i) (by omega) (by omega) (by omega)
   omega
theorem Qxp (l:List Int) (n:Int):Qn5 l n=l.take (pN l n)++n :: (l.drop (pN l n)).filter fun x=>x != n:=by
 unfold Qn5 wiK
 rw [List.take_of_length_le (l:=l.drop (pN l n)) (i:=l.length-pN l n) (by rw [List.length_drop];exact Nat.le_refl _)]
theorem Zcz {l:List Int} {n x:Int}:x∈Qn5 l n↔x=n∨x∈l:=by
 rw [Qxp]
 have e:x∈l↔x∈l.take (pN l n)∨x∈l.drop (pN l n):=by rw [← List.mem_append,List.take_append_drop]
 rw [e,List.mem_append,List.mem_cons,List.mem_filter]
 constructor
 ·rintro (h | h | h)
  ·exact .inr (.inl h)
  ·exact .inl h
  ·exact .inr (.inr h.1)
 ·rintro (h | h | h)
  ·exact .inr (.inl h)
  ·exact .inl h
  ·by_cases hx:x=n
   ·exact .inr (.inl hx)
   ·exact .inr (.inr ⟨h,by simpa using hx⟩)
theorem Zc1 {l:List Int} (h:Asc l) (n:Int):Asc (Qn5 l n):=by
 obtain ⟨h1,h2⟩:=Zcq h n
 rw [Qxp]
 have hs:Asc (l.take (pN l n)):=List.Pairwise.sublist (List.take_sublist _ _) h
 have hd:Asc (l.drop (pN l n)):=List.Pairwise.sublist (List.drop_sublist _ _) h
 refine List.pairwise_append.2 ⟨hs,List.pairwise_cons.2 ⟨fun y hy=>?_,List.Pairwise.filter _ hd⟩,fun a ha b hb=>?_⟩
 ·obtain ⟨y1,y2⟩:=List.mem_filter.1 hy
  have:=h2 y y1
  have:y ≠ n:=by simpa using y2
  omega
 ·have:=h1 a ha
  rcases List.mem_cons.1 hb with rfl | hb
  ·exact this
  ·have:=h2 b (List.mem_filter.1 hb).1
   omega
def Qck (l:List Int):List Int:=Lib.compact (l.mergeSort fun x y=>decide (x≤y))
theorem Qo6 (l:List Int) {j:Nat} (h:j<l.length):l.toArray[j]! = l[j]:=by simp [h]
theorem Qte {l:List Int} {x:Int}:x∈Lib.compact l↔x∈l:=by
 unfold Lib.compact Lib.compactUpTo
 rw [List.mem_map]
 constructor
 ·rintro ⟨j,hj,rfl⟩
  have:=List.mem_range.1 (List.mem_filter.1 hj).1
  rw [Qo6 l this]
  exact List.getElem_mem _
 ·intro hx
  obtain ⟨i,hi,he⟩:=List.mem_iff_getElem.1 hx
  have key:∀ (n i:Nat) (hi:i<l.length),i≤n→l[i]=x→∃ j,j<l.length∧Lib.keeps l.toArray j=true∧l.toArray[j]! = x:=by
   intro n
   induction n with
   | zero=>
    intro i hi h0 he
    obtain rfl:i=0:=by omega
    exact ⟨0,hi,Lib.keeps_lt_one _ 0 (by omega),by rw [Qo6 l hi];exact he⟩
   | succ n ih=>
    intro i hi h0 he
    cases hk:Lib.keeps l.toArray i with
    | true=>exact ⟨i,hi,hk,by rw [Qo6 l hi];exact he⟩
    | false=>
     have hi0:i ≠ 0:=fun e=>by subst e;rw [Lib.keeps_lt_one _ 0 (by omega)] at hk;cases hk
     have h2:l[i]'hi=l[i-1]'(by omega):=by
      unfold Lib.keeps at hk
      have:=of_decide_eq_false hk
      rw [not_or,Decidable.not_not] at this
      rw [← Qo6 l hi,← Qo6 l (show i-1<l.length by omega)]
      exact this.2
     exact ih (i-1) (by omega) (by omega) (by rw [← h2];exact he)
  obtain ⟨j,h1,h2,h3⟩:=key i i hi (Nat.le_refl _) he
  exact ⟨j,List.mem_filter.2 ⟨List.mem_range.2 h1,h2⟩,h3⟩
theorem Qtf {l:List Int} (h:l.Pairwise (·≤·)):Asc (Lib.compact l):=by
 unfold Lib.compact Lib.compactUpTo Asc
 rw [List.pairwise_map,List.pairwise_filter]
 have hp:=List.pairwise_lt_range (n:=l.length)
 refine List.Pairwise.imp_of_mem (fun {a b} ha hb hab h1 h2=>?_) hp
 have ha:=List.mem_range.1 ha
 have hb:=List.mem_range.1 hb
 rw [Qo6 l ha,Qo6 l hb]
 unfold Lib.keeps at h2
 have h3:=of_decide_eq_true h2
 have h4:l[b]'hb ≠ l[b-1]'(by omega):=by
  rcases h3 with h3 | h3
  ·omega
  ·rwa [Qo6 l hb,Qo6 l (show b-1<l.length by omega)] at h3
 have h5:l[b-1]'(by omega)≤l[b]'hb:=List.pairwise_iff_getElem.1 h (b-1) b (by omega) hb (by omega)
 by_cases e:a=b-1
 ·subst e;omega
 ·have h6:l[a]'ha≤l[b-1]'(by omega):=List.pairwise_iff_getElem.1 h a (b-1) ha (by omega) (by omega)
  omega
theorem Qgc {l:List Int} {x:Int}:x∈Qck l↔x∈l:=by
 unfold Qck
 rw [Qte]
 exact (List.mergeSort_perm _ _).mem_iff
theorem Qh5 (l:List Int):Asc (Qck l):=by
 unfold Qck
 refine Qtf ?_
 have:=List.pairwise_mergeSort (le:=fun (x y:Int)=>decide (x≤y)) (fun a b c h1 h2=>by simp at *;omega) (fun a b=>by simp;omega) l
 exact this.imp fun h=>by simpa using h
theorem Qme (l:List Int):(Lib.compact l).length≤l.length:=by
 unfold Lib.compact Lib.compactUpTo
 rw [List.length_map]
 have:=List.length_filter_le (Lib.keeps l.toArray) (List.range l.length)
 rw [List.length_range] at this
 exact this
theorem Qh4 (l:List Int):(Qck l).length≤l.length:=by
 unfold Qck
 have:=Qme (l.mergeSort fun x y=>decide (x≤y))
 rwa [List.length_mergeSort] at this
def Qbu (f:Fsy) (c:Cal):List Int:=if c.kind=15 then [0] else Qck (Qjz f c)
end Go.Proofs.YtahlldgocpabjaaGreat

namespace Go.Proofs.YtahlldgocpabjaaGreat
open Go Go.RowKit Copyhold
open Copyhold.Name (Srt insE delE getE isAt)
def updF:List (Int × Option Nod)→Option Nod→Int→Option Nod
 | [],x,_=>x
 | (i,v) :: r,x,j=>if j=i then v else updF r x j
def Upd (f k:Fsy) (u:List (Int × Option Nod)):Prop:=∀ j,atF k j=updF u (atF f j) j
theorem Upd.self (f:Fsy):Upd f f []:=fun _=>rfl
theorem Upd.out {f k:Fsy} {u:List (Int × Option Nod)} (h:Upd f k u) {j:Int} (hj:∀ p∈u,¬ p.1=j):atF k j=atF f j:=by
 rw [h j]
 clear h
 induction u with
 | nil=>rfl
 | cons p r ih=>
  obtain ⟨i,v⟩:=p
  have h1:¬ i=j:=hj (i,v) (by simp)
  show (if j=i then v else updF r (atF f j) j)=_
  rw [if_neg (fun e=>h1 e.symm)]
  exact ih fun q hq=>hj q (by simp [hq])
structure Agr (f g:Fsy) (c:Cal) (u:List (Int × Option Nod)):Prop where
 looks:∀ p∈u,p.1∈Qjz f c
 few:u.length≤2
 updf:Upd f (doF f c).1 u
 updg:Upd g (doF g c).1 u
 same:(doF f c).2=(doF g c).2
 nextf:(doF f c).1.next=f.next
 nextg:(doF g c).1.next=g.next
 lenf:(doF f c).1.l.length≤f.l.length
theorem B_eq {f g:Fsy} {i:Int} (h:atF f i=atF g i):Qar f i=Qar g i∧Qaa f i=Qaa g i:=by rw [at_B,at_B,at_N,at_N,h];exact ⟨rfl,rfl⟩
theorem of_eq {f g:Fsy} {i k:Int} (h:atF f i=atF g i):ofE f i k=ofE g i k:=by
 obtain ⟨h1,h2⟩:=B_eq h
 unfold ofE;rw [h1,h2]
def Qhz (c:Cal):Prop:=c.kind=6∨c.kind=7∨c.kind=8∨c.kind=12∨c.kind=15
end Go.Proofs.YtahlldgocpabjaaGreat
