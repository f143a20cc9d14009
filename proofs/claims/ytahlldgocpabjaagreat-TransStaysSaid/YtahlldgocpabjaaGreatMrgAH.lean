import Derived.Test.YtahlldgocpabjaaGreatMrgAG
import Derived.Test.YtahlldgocpabjaaGreatMrgAB
import Derived.Test.YtahlldgocpabjaaGreatMrgAC
import Derived.Test.YtahlldgocpabjaaGreatMrgAD
set_option maxRecDepth 100000
set_option maxHeartbeats 8000000
set_option linter.unusedVariables false
set_option linter.unusedSimpArgs false
namespace Go.Proofs.YtahlldgocpabjaaGreat
open Go Go.RowKit Copyhold
theorem Zf0 {r:List Ver} {st:Int}:∀ v∈Qb1 r st,v∈r:=by
 intro v hv
 unfold Qb1 at hv
 split at hv
 ·split at hv
  ·exact List.mem_of_mem_take hv
  ·exact hv
 ·exact hv
theorem Zh3 {P:Chn→Prop} {l:List Chn} {st n:Int} {v:Ver} (hl:∀ c∈l,P c) (h1:P ⟨n,[v]⟩) (h2:∀ d∈l,P ⟨d.ino,Qb1 d.l st++[v]⟩):∀ c∈putC l st n v,P c:=by
 intro c hc
 unfold putC at hc
 split at hc
 ·split at hc
  ·rename_i d hd
   rcases List.mem_or_eq_of_mem_set hc with hc | rfl
   ·exact hl c hc
   ·exact h2 d (List.mem_of_getElem? hd)
  ·exact hl c hc
 ·rcases List.mem_append.1 hc with hc | hc
  ·exact hl c (List.mem_of_mem_take hc)
  ·rcases List.mem_cons.1 hc with rfl | hc
   ·exact h1
   ·exact hl c (List.mem_of_mem_drop hc)
def Zer (l:List Chn) (st:Int) (cs:List Chg):List Chn:=cs.foldl (fun l c=>putC l st c.ino (Qai c st)) l
theorem Zep (l:List Chn) (st:Int) (cs:List Chg):Qam l st cs cs.length=Zer l st cs:=by unfold Qam Zer;rw [List.take_length]
theorem Qqw {P:Chn→Prop} {st:Int}:∀ {cs:List Chg} {l:List Chn},(∀ c∈l,P c)→(∀ c∈cs,P ⟨c.ino,[Qai c st]⟩)→(∀ c∈cs,∀ d,P d→P ⟨d.ino,Qb1 d.l st++[Qai c st]⟩)→∀ c∈Zer l st cs,P c
 | [],l,hl,_,_=>hl
 | x :: r,l,hl,h1,h2=>Qqw (cs:=r) (l:=putC l st x.ino (Qai x st)) (Zh3 hl (h1 x (List.mem_cons_self ..)) (fun d hd=>h2 x (List.mem_cons_self ..) d (hl d hd))) (fun c hc=>h1 c (List.mem_cons_of_mem _ hc)) (fun c hc=>h2 c (List.mem_cons_of_mem _ hc))
theorem Qkw {c:Chg} {st:Int} (h:OkCh c) (hs:I64 st):OkV (Qai c st):=by
 unfold Qai
 split
 ·exact ⟨hs,Qor⟩
 ·exact ⟨hs,h.1,h.2.2⟩
def OkD (c:Chn):Prop:=I64 c.ino∧∀ v∈c.l,OkV v
theorem Zeq {l:List Chn} {st:Int} {cs:List Chg} (hs:I64 st) (hl:∀ c∈l,OkD c) (hc:∀ c∈cs,OkCh c):∀ c∈Zer l st cs,OkD c:=
 Qqw hl (fun c h=>⟨(hc c h).1,fun v hv=>by obtain rfl:=List.mem_singleton.1 hv;exact Qkw (hc c h) hs⟩)
  (fun c h d hd=>⟨hd.1,fun v hv=>by
   rcases List.mem_append.1 hv with hv | hv
   ·exact hd.2 v (Zf0 v hv)
   ·obtain rfl:=List.mem_singleton.1 hv;exact Qkw (hc c h) hs⟩)
theorem Qzz {s:Sto} {next:Int} (oks:OkS s) (hn:I64 next) (hs:I64 (s.stamp+1)):∀ c∈Qd1 s next,OkK c:=by
 have key:∀ c∈s.nexts++[(⟨s.stamp+1,next⟩:Cnt)],OkK c:=fun c hc=>by
  rcases List.mem_append.1 hc with hc | hc
  ·exact oks.2.2.2.2 c hc
  ·obtain rfl:=List.mem_singleton.1 hc;exact ⟨hs,hn⟩
 intro c hc
 unfold Qd1 at hc
 split at hc
 ·split at hc
  ·exact key c hc
  ·exact oks.2.2.2.2 c hc
 ·exact key c hc
theorem Qws (s:Sto) (next:Int):(Qd1 s next).length≤s.nexts.length+1:=by
 unfold Qd1
 split
 ·split
  ·simp
  ·omega
 ·simp
structure Fit (s:Sto) (B:Nat):Prop where
 ok:OkS s
 l:s.l.length≤B
 n:s.nexts.length≤B
 r:∀ c∈s.l,c.l.length≤B
theorem Fit.inst {s:Sto} {B:Nat} {cs:List Chg} {next:Int} (h:Fit s B) (hc:∀ c∈cs,OkCh c) (hn:I64 next) (hs:s.stamp<9223372036854775807) (hB:B+1+cs.length≤100000):Fit (Qhn s cs next) (B+1+cs.length):=by
 have hst:I64 (s.stamp+1):=⟨by have:=h.ok.1.1;omega,by omega⟩
 have h1:=Qiq s.l (s.stamp+1) cs cs.length
 have h2:=Qeg (st:=s.stamp+1) (cs:=cs) h.r cs.length (Nat.le_refl _)
 have h3:=Qws s next
 have h4:∀ c∈Qam s.l (s.stamp+1) cs cs.length,OkD c:=by
  rw [Zep]
  exact Zeq hst (fun c hc=>⟨(h.ok.2.2.2.1 c hc).1,(h.ok.2.2.2.1 c hc).2.2⟩) hc
 have hl:=h.l
 have hn2:=h.n
 refine ⟨⟨hst,?_,?_,fun c hc=>⟨(h4 c hc).1,?_,(h4 c hc).2⟩,Qzz h.ok hn hst⟩,?_,?_,fun c hc=>?_⟩
 ·show (Qam s.l (s.stamp+1) cs cs.length).length≤_;omega
 ·show (Qd1 s next).length≤_;omega
 ·have:=h2 c hc;omega
 ·show (Qam s.l (s.stamp+1) cs cs.length).length≤_;omega
 ·show (Qd1 s next).length≤_;omega
 ·have:=h2 c hc;omega
structure Abs where
 ino:Int
 last:Option (Bool × Nod)
 later:Bool
theorem Zil:Elem Tryz.prog 29 3 (.int .i64 0) 1 8:=⟨Tryz.underlying29,by kernel_rfl,by kernel_rfl,by decide⟩
theorem Za3 (n:Nat) (hn:n≤1000000) (w:World) :
  Calls Tryz.prog 151 #[.slice none 0 0,.int .i64 (n:Int)] w (Zcx w 3 1 0 []):=by
 by_cases h0:0<n
 ·obtain ⟨G,w',hrun,hG1,hG2,hown,hb⟩:=Qpp Zil Tryz.underlying3 n h0 (by omega) (by omega) w
  have HO:=Lib.hid (And.intro hown hb)
  have hi0:(0:Int)<(n:Int):=by omega
  clear hown hb
  go_enter Tryz.func151,Tryz.ntmps151
  go_wp2_with (at_builtin;refine Qeo rfl _ _ _ _ rfl _ _ _ _ rfl rfl (hrun _) ?_)
  go_ret
  exact ⟨_,rfl,HO.out.1,HO.out.2⟩
 ·obtain rfl:n=0:=by omega
  go_enter Tryz.func151,Tryz.ntmps151
  go_wp2_with fail
  go_ret
  exact ⟨_,rfl,World.ownsRow_nil _ _ _ _,Below.refl _ _⟩
def pcI (p:List (List AV)):List AV:=[.sl 1 false p]
theorem Qrd (ps:List (List (List AV))) (hl:ps.length≤100000) (ht:ps.flatten.length≤100000) (hx:∀ l∈ps.flatten,l.length=1):Qed Tryz.prog 89 [.sl 1 false (ps.map pcI)] 3 1 (ps.flatten):=by
 exact Qee (F:=Tryz.f89) 400 (
 .r 1<|.r 1<|.r 2<|.val 10 (show (aI ((ps.map pcI).length:Int):AV)=aI (ps.length:Int) from by rw [List.length_map])<|.r 1<|let L1:Lp (Nat):=⟨fun a1=>⟨[(0,.sl 1 false (ps.map pcI)),(9,.sl 1 false (ps.map pcI)),(10,aI (ps.length:Int)),(3,aI ((ps.take a1).flatten.length:Int)),(11,aI (a1:Int))],[]⟩,fun a1=>ps.length-a1,fun a1=>a1≤ps.length⟩
 .loop L1 0 (show 0≤ps.length from Nat.zero_le _) ⟨[(0,.sl 1 false (ps.map pcI)),(9,.sl 1 false (ps.map pcI)),(10,aI (ps.length:Int)),(3,aI 0),(11,aI 0)],[]⟩ ⟨sR,sR,sR,Sub.of_eq (congrArg aI (by first | omega | rfl)),Sub.of_eq (congrArg aI (by first | omega | rfl)),trivial⟩ trivial fun a1 ha1=>
 (fun (k:Nat) (hH1:k≤ps.length)=>.r 1<|.br 12 (decide ((k:Int)<(ps.length:Int))) (fun q1=>have p1:=decT q1;.idxM ps pcI k (m:=(k:Int)) rfl (by omega) fun x1 hx1=>
 have tx1:=Qc8 ps (k+1);have ux1:=congrArg List.length (Qc4 hx1);have vx1:=(@List.length_append _ (ps.take k).flatten x1);.r 2<|.run 5 [rng .i64 (((ps.take k).flatten.length:Int)+((x1).length:Int))] ⟨Qas (by omega) (by omega),trivial⟩<|
 .r 2<|.br 20 (decide ((((ps.take k).flatten.length:Int)+((x1).length:Int))<0)) (fun q2=>have p2:=decT q2;.no (by omega))
 <| fun q2=>have p2:=decF q2;.run 2 [rng .i64 ((k:Int)+1)] ⟨Qas (by omega) (by omega),trivial⟩<|
 .back L1 k (k+1) (show (k+1)≤ps.length from (by show _≤_;omega)) (show ps.length-(k+1)<ps.length-k from (by omega)) ⟨[(0,.sl 1 false (ps.map pcI)),(9,.sl 1 false (ps.map pcI)),(10,aI (ps.length:Int)),(3,aI (((ps.take k).flatten.length:Int)+((x1).length:Int))),(11,aI ((k:Int)+1))],[]⟩ ⟨sR,sR,sR,Sub.of_eq (congrArg aI (by rw [Qc4 hx1,List.length_append];omega)),Sub.of_eq (congrArg aI (by first | omega | rfl)),trivial⟩ trivial)
 <| fun q1=>have p1:=decF q1;.r 1<|.callRow (args0:=[aN,aI ((ps.take k).flatten.length:Int)]) (args:=[aN,aI ((ps.take k).flatten.length:Int)]) (xs:=[]) sr2 (by simp) (Qqy (fun w=>Za3 ((ps.take k).flatten.length) (by have:=Qc8 ps k;omega) w)) fun V1=>
 .r 1<|.r 2<|.val 26 (show (aI ((ps.map pcI).length:Int):AV)=aI (ps.length:Int) from by rw [List.length_map])<|.r 1<|let L2:Lp (Nat × Value):=⟨fun a2=>⟨[(25,.sl 1 false (ps.map pcI)),(26,aI (ps.length:Int)),(27,aI (a2.1:Int)),(6,.rw 24 a2.2 ((ps.take a2.1).flatten.length))],[(24,.row a2.2 3 1 ((ps.take a2.1).flatten))]⟩,fun a2=>ps.length-a2.1,fun a2=>a2.1≤ps.length⟩
 .loop L2 (0,V1) (show 0≤ps.length from Nat.zero_le _) ⟨[(25,.sl 1 false (ps.map pcI)),(26,aI (ps.length:Int)),(27,aI 0),(6,.rw 24 V1 0)],[(24,.row V1 3 1 ([]))]⟩ ⟨sR,sR,Sub.of_eq (congrArg aI (by first | omega | rfl)),Sub.of_eq (congrArg (AV.rw 24 V1) (by simp)),trivial⟩ ⟨⟨_,rfl,SubB.of_eq (by simp)⟩,trivial⟩ fun a2 ha2=>
 (fun (j:Nat) (V:Value) (hH2:j≤ps.length)=>.r 1<|.br 28 (decide ((j:Int)<(ps.length:Int))) (fun q3=>have p3:=decT q3;.idxM ps pcI j (m:=(j:Int)) rfl (by omega) fun x2 hx2=>
 have tx2:=Qc8 ps (j+1);have ux2:=congrArg List.length (Qc4 hx2);have vx2:=(@List.length_append _ (ps.take j).flatten x2);.r 2<|.r 2<|.app 8 V ((ps.take j).flatten) x2 (by omega) (by omega) fun V2=>
 .r 1<|.run 2 [rng .i64 ((j:Int)+1)] ⟨Qas (by omega) (by omega),trivial⟩<|
 .back L2 (j,V) ((j+1),V2) (show (j+1)≤ps.length from (by show _≤_;omega)) (show ps.length-(j+1)<ps.length-j from (by omega)) ⟨[(25,.sl 1 false (ps.map pcI)),(26,aI (ps.length:Int)),(27,aI ((j:Int)+1)),(6,.rw 24 V2 (((ps.take j).flatten).length+x2.length))],[(24,.row V2 3 1 (((ps.take j).flatten)++x2))]⟩ ⟨sR,sR,Sub.of_eq (congrArg aI (by first | omega | rfl)),Sub.of_eq (congrArg (AV.rw 24 V2) (by rw [Qc4 hx2,List.length_append])),trivial⟩ ⟨⟨_,rfl,SubB.of_eq (by rw [Qc4 hx2])⟩,trivial⟩)
 <| fun q3=>have p3:=decF q3;.r 2<|.finRow (x:=(ps.take j).flatten) (r:=ps.flatten) [] trivial 24 3 1 ((ps.take j).flatten.length) V (by rw [Qay (by omega)])) a2.1 a2.2 ha2) a1 ha1) Tryz.func89 rfl (by kernel_rfl) (by kernel_rfl)
theorem Qvh (a b:List Int) (h:a.length+b.length≤100000):Qed Tryz.prog 89 [.sl 1 false ([a.map intA,b.map intA].map pcI)] 3 1 ((a++b).map intA):=by
 have hx:∀ l∈[a.map intA,b.map intA].flatten,l.length=1:=fun l hl=>by
  simp only [List.flatten_cons,List.flatten_nil,List.append_nil,List.mem_append,List.mem_map] at hl
  rcases hl with ⟨x,_,rfl⟩ | ⟨x,_,rfl⟩<;>rfl
 have:=Qrd [a.map intA,b.map intA] (by simp) (by simp;omega) hx
 rw [List.map_append]
 simpa using this
theorem pcI2 {t t1 t2:Bool} (A B:List (List AV)):Sub (.sl 1 t [[.sl 1 t1 A],[.sl 1 t2 B]]) (.sl 1 false ([A,B].map pcI)):=
 (Sub.sl2 (xs:=[[.sl 1 t1 A],[.sl 1 t2 B]]) (ys:=[A,B].map pcI) rfl (fun i q p hq hp=>by
 match i,hq,hp with
 | 0,hq,hp=>simp at hq hp;subst hq hp;exact ⟨Sub.loose _ _ _,trivial⟩
 | 1,hq,hp=>simp at hq hp;subst hq hp;exact ⟨Sub.loose _ _ _,trivial⟩
 | i+2,hq,_=>simp at hq)).trans (Sub.loose _ _ _)
theorem Qw1 (a b:List Int) (h1:1≤(a++b).length) (hl:a.length+b.length≤100000):Qaj Tryz.prog 49 [.sl 1 false (a.map intA),.sl 1 false (b.map intA)] (.sl 1 false ((Qck (a++b)).map intA)):=by
 exact Qac (F:=Tryz.f49) 400 (
 .r 1<|.r 3<|.op (crR Tryz.prog 30) (89,[.sl 1 true ([[.sl 1 false (a.map intA)],[.sl 1 false (b.map intA)]])],9) (fun (V:Value) σ=>(σ.put (some 9) (.rw 30 V ((a++b).map intA).length)).setB 30 (.row V 3 1 ((a++b).map intA))) (Qge (args':=[.sl 1 false ([a.map intA,b.map intA].map pcI)]) ⟨pcI2 _ _,trivial⟩ (Qvh a b (by omega))) fun V1=>
 .r 1<|.lent 1<|.r 1<|.lop (lcR Tryz.prog 30) ((90,[.rw 30 V1 (((a++b).map intA).length)],some 11),.row V1 3 1 ((a++b).map intA)) (fun (_:Unit) σ=>(σ.put (some 11) (.tup [])).setB 30 (.row V1 3 1 (((a++b).mergeSort fun x y=>decide (x≤y)).map intA))) (Qda (args':=[.rw 30 V1 ((a++b).length)]) ⟨Sub.of_eq (congrArg (AV.rw 30 V1) (by rw [List.length_map])),trivial⟩ (Qm5 (a++b) V1 h1 (by rw [List.length_append];omega))) fun _=>
 .lent 1<|.r 1<|.lop (lcR Tryz.prog 30) ((91,[.rw 30 V1 (((a++b).map intA).length)],some 13),.row V1 3 1 (((a++b).mergeSort fun x y=>decide (x≤y)).map intA)) (fun (_:Unit) σ=>(σ.put (some 13) (.sl 1 false ((Qck (a++b)).map intA))).setB 30 gone) (Qcn (args':=[.rw 30 V1 (((a++b).mergeSort fun x y=>decide (x≤y)).length)]) ⟨Sub.of_eq (congrArg (AV.rw 30 V1) (by rw [List.length_map,List.length_mergeSort])),trivial⟩ (Qi0 ((a++b).mergeSort fun x y=>decide (x≤y)) V1 (by rw [List.length_mergeSort];exact h1) (by rw [List.length_mergeSort,List.length_append];omega))) fun _=>
 .r 1<|.fin (x:=.sl 1 false ((Qck (a++b)).map intA)) (r:=.sl 1 false ((Qck (a++b)).map intA)) [] trivial (by exact sR)) Tryz.func49 rfl (by kernel_rfl) (by kernel_rfl)
theorem Qw2 :Qaj Tryz.prog 49 [.sl 1 false (([]:List Int).map intA),.sl 1 false (([]:List Int).map intA)] (.sl 1 false []):=by
 exact Qac (F:=Tryz.f49) 400 (
 .r 1<|.r 3<|.op (crR Tryz.prog 30) (89,[.sl 1 true ([[.sl 1 false (([]:List Int).map intA)],[.sl 1 false (([]:List Int).map intA)]])],9) (fun (V:Value) σ=>(σ.put (some 9) (.rw 30 V ([]:List (List AV)).length)).setB 30 (.row V 3 1 (([]:List (List AV))))) (Qge (args':=[.sl 1 false ([([]:List Int).map intA,([]:List Int).map intA].map pcI)]) ⟨pcI2 _ _,trivial⟩ (Qvh [] [] (by simp))) fun V1=>
 .r 1<|.lent 1<|.r 1<|.lop (lcR Tryz.prog 30) ((90,[.rw 30 V1 (([]:List (List AV)).length)],some 11),.row V1 3 1 ([]:List (List AV))) (fun (_:Unit) σ=>(σ.put (some 11) (.tup [])).setB 30 (.row V1 3 1 ([]))) (Qda (args':=[.rw 30 V1 0]) ⟨Sub.of_eq rfl,trivial⟩ (Qm6 V1)) fun _=>
 .lent 1<|.r 1<|.lop (lcR Tryz.prog 30) ((91,[.rw 30 V1 (([]:List (List AV)).length)],some 13),.row V1 3 1 ([])) (fun (_:Unit) σ=>(σ.put (some 13) (.sl 1 false ([]))).setB 30 gone) (Qcn (args':=[.rw 30 V1 0]) ⟨Sub.of_eq rfl,trivial⟩ (Qi1 V1)) fun _=>
 .r 1<|.fin (x:=.sl 1 false ([])) (r:=.sl 1 false []) [] trivial (by exact sR)) Tryz.func49 rfl (by kernel_rfl) (by kernel_rfl)
theorem Qd5 (a b:List Int) (hl:a.length+b.length≤100000):Qaj Tryz.prog 49 [.sl 1 false (a.map intA),.sl 1 false (b.map intA)] (.sl 1 false ((Qck (a++b)).map intA)):=by
 by_cases h1:1≤(a++b).length
 ·exact Qw1 a b h1 hl
 ·rw [List.length_append] at h1
  obtain rfl:a=[]:=List.eq_nil_of_length_eq_zero (by omega)
  obtain rfl:b=[]:=List.eq_nil_of_length_eq_zero (by omega)
  rw [show Qck ([]++[])=[] from List.eq_nil_of_length_eq_zero (Nat.le_zero.1 (Qh4 []))]
  exact Qw2
def fltK (f:Fsy) (c:Cal) (k:Nat):List Int:=((Qbu f c).take k).filter fun x=>decide (1≤x)
def fltF (f:Fsy) (c:Cal):List Int:=(Qbu f c).filter fun x=>decide (1≤x)
def Qb5 (f:Fsy) (c:Cal):List Int:=if c.kind=6∨c.kind=7∨c.kind=8∨c.kind=12∨c.kind=15 then 0 :: fltF f c else fltF f c
theorem Qu4 {f:Fsy} {c:Cal} {k:Nat} {x:Int} (h:(Qbu f c)[k]?=some x) (q:1≤x):fltK f c (k+1)=fltK f c k++[x]:=by
 unfold fltK;rw [Qap h,List.filter_append];simp [q]
theorem Zbd {f:Fsy} {c:Cal} {k:Nat} {x:Int} (h:(Qbu f c)[k]?=some x) (q:¬ 1≤x):fltK f c (k+1)=fltK f c k:=by
 unfold fltK;rw [Qap h,List.filter_append];simp [q]
theorem Qgk (f:Fsy) (c:Cal) (k:Nat):(fltK f c k).length≤6:=by
 have h1:=List.length_filter_le (fun x=>decide ((1:Int)≤x)) ((Qbu f c).take k)
 have h2:=Qno f c
 rw [List.length_take] at h1
 unfold fltK
 omega
theorem Qc6 {f:Fsy} {c:Cal} {k:Nat} (h:(Qbu f c).length≤k):fltK f c k=fltF f c:=by unfold fltK;rw [Qay h];rfl
theorem Qwx (f:Fsy) (c:Cal):Asc (Qbu f c):=by
 unfold Qbu
 split
 ·unfold Asc;simp
 ·exact Qh5 _
theorem Qu5 (f:Fsy) (c:Cal):Asc (fltF f c):=List.Pairwise.filter _ (Qwx f c)
theorem Qkr {f:Fsy} {c:Cal} {x:Int}:x∈fltF f c↔x∈Qbu f c∧1≤x:=by unfold fltF;rw [List.mem_filter];simp
theorem Zey {f:Fsy} {c:Cal} {x:Int} (h:x∈fltF f c):1≤x:=(Qkr.1 h).2
theorem Qxy (f:Fsy) (c:Cal):Asc (Qb5 f c):=by
 unfold Qb5
 split
 ·exact List.pairwise_cons.2 ⟨fun x hx=>by have:=Zey hx;omega,Qu5 f c⟩
 ·exact Qu5 f c
theorem Qpw {f:Fsy} {c:Cal} {x:Int}:x∈Qb5 f c↔(x=0∧Qhz c)∨(x∈Qbu f c∧1≤x):=by
 unfold Qb5
 split
 ·rename_i h
  rw [List.mem_cons,Qkr]
  constructor
  ·rintro (e | e)
   ·exact .inl ⟨e,h⟩
   ·exact .inr e
  ·rintro (e | e)
   ·exact .inl e.1
   ·exact .inr e
 ·rename_i h
  rw [Qkr]
  constructor
  ·exact .inr
  ·rintro (e | e)
   ·exact absurd e.2 h
   ·exact e
theorem Qh1 (f:Fsy) (c:Cal):(Qb5 f c).length≤7:=by
 have h:(fltF f c).length≤6:=by rw [← Qc6 (Nat.le_refl _)];exact Qgk f c _
 unfold Qb5
 split
 ·rw [List.length_cons];omega
 ·omega
theorem Qfb {f:Fsy} {c:Cal} (h:Qhz c):Qck ([0]++fltF f c)=Qb5 f c:=Qtr (Qh5 _) (Qxy f c) fun x=>by
 rw [Qgc,Qpw,List.mem_append,Qkr,List.mem_singleton]
 constructor
 ·rintro (e | e)
  ·exact .inl ⟨e,h⟩
  ·exact .inr e
 ·rintro (e | e)
  ·exact .inl e.1
  ·exact .inr e
theorem Zc4 {f:Fsy} {c:Cal} (h:¬ Qhz c):Qb5 f c=fltF f c:=if_neg h
theorem Qm1 (f:Fsy) (c:Cal) (okf:OkF f) (okc:OkCal c) (hp:Qal f):Qaj Tryz.prog 25 [.agg (fsyA f),.agg (calA c)] (.sl 1 false ((Qb5 f c).map intA)):=by
 have hlu:=Qno f c
 exact Qac (F:=Tryz.f25) 400 (
 .new fun b1=>.new fun b2=>.r 1<|.r 1<|.rowNil 5 5 3 1<|.run 2 [b1=b1,b2=b2] rt2<|
 .call (Qsy f c okf okc hp)<|
 .r 1<|.val 11 (show (aI (((Qbu f c).map intA).length:Int):AV)=aI ((Qbu f c).length:Int) from by rw [List.length_map])<|.r 1<|let L1:Lp (Nat × Value):=⟨fun a1=>⟨[(3,.ptr 3 b2 0),(10,.sl 1 false ((Qbu f c).map intA)),(11,aI ((Qbu f c).length:Int)),(12,aI (a1.1:Int)),(5,.rw 5 a1.2 ((fltK f c a1.1).length))],[(3,.box b2 33 (calA c)),(5,.row a1.2 3 1 ((fltK f c a1.1).map intA))]⟩,fun a1=>(Qbu f c).length-a1.1,fun a1=>a1.1≤(Qbu f c).length⟩
 .loop L1 (0,.slice none 0 0) (show 0≤(Qbu f c).length from Nat.zero_le _) ⟨[(3,.ptr 3 b2 0),(10,.sl 1 false ((Qbu f c).map intA)),(11,aI ((Qbu f c).length:Int)),(12,aI 0),(5,.rw 5 (.slice none 0 0) 0)],[(3,.box b2 33 (calA c)),(5,.row (.slice none 0 0) 3 1 ([]))]⟩ ⟨sR,sR,sR,Sub.of_eq (congrArg aI (by first | omega | rfl)),sR,trivial⟩ ⟨⟨_,rfl,SubB.refl _⟩,⟨_,rfl,SubB.refl _⟩,trivial⟩ fun a1 ha1=>
 (fun (k:Nat) (V:Value) (hH1:k≤(Qbu f c).length)=>.r 1<|.br 13 (decide ((k:Int)<((Qbu f c).length:Int))) (fun q1=>have p1:=decT q1;.idxM (Qbu f c) intA k (m:=(k:Int)) rfl (by omega) fun x1 hx1=>
 .r 2<|.r 2<|.br 17 (decide (x1≥1)) (fun q2=>have p2:=decT q2;.r 3<|.app 8 V ((fltK f c k).map intA) ([[aI x1]]) (by have:=Qgk f c k;simp only [List.length_map,List.length_cons,List.length_nil];omega) (by have:=Qgk f c k;simp only [List.length_map,List.length_cons,List.length_nil];omega) fun V1=>
 .r 1<|.run 2 [rng .i64 ((k:Int)+1)] ⟨Qas (by omega) (by omega),trivial⟩<|
 .back L1 (k,V) ((k+1),V1) (show (k+1)≤(Qbu f c).length from (by show _≤_;omega)) (show (Qbu f c).length-(k+1)<(Qbu f c).length-k from (by omega)) ⟨[(3,.ptr 3 b2 0),(10,.sl 1 false ((Qbu f c).map intA)),(11,aI ((Qbu f c).length:Int)),(12,aI ((k:Int)+1)),(5,.rw 5 V1 (((fltK f c k).map intA).length+([[aI x1]]:List (List AV)).length))],[(3,.box b2 33 (calA c)),(5,.row V1 3 1 (((fltK f c k).map intA)++([[aI x1]])))]⟩ ⟨sR,sR,sR,Sub.of_eq (congrArg aI (by first | omega | rfl)),Sub.of_eq (congrArg (AV.rw 5 V1) (by rw [Qu4 hx1 (by omega)];simp)),trivial⟩ ⟨⟨_,rfl,SubB.refl _⟩,⟨_,rfl,SubB.of_eq (by rw [Qu4 hx1 (by omega)];simp [intA])⟩,trivial⟩)
 <| fun q2=>have p2:=decF q2;.run 2 [rng .i64 ((k:Int)+1)] ⟨Qas (by omega) (by omega),trivial⟩<|
 .back L1 (k,V) ((k+1),V) (show (k+1)≤(Qbu f c).length from (by show _≤_;omega)) (show (Qbu f c).length-(k+1)<(Qbu f c).length-k from (by omega)) ⟨[(3,.ptr 3 b2 0),(10,.sl 1 false ((Qbu f c).map intA)),(11,aI ((Qbu f c).length:Int)),(12,aI ((k:Int)+1)),(5,.rw 5 V ((fltK f c k).length))],[(3,.box b2 33 (calA c)),(5,.row V 3 1 ((fltK f c k).map intA))]⟩ ⟨sR,sR,sR,Sub.of_eq (congrArg aI (by first | omega | rfl)),Sub.of_eq (congrArg (AV.rw 5 V) (by rw [Zbd hx1 (by omega)])),trivial⟩ ⟨⟨_,rfl,SubB.refl _⟩,⟨_,rfl,SubB.of_eq (by rw [Zbd hx1 (by omega)])⟩,trivial⟩)
 <| fun q1=>have p1:=decF q1;.run 2 [b2=b2] rt1<|
 .r 2<|.br 25 (c.kind==6) (fun q3=>have p3:=beqT q3;.frz 5 [5,13,25] [] [V=V,(fltK f c k).length=((fltK f c k).map intA).length] ⟨rfl,(by first | rfl | (simp;done) | (simp;omega)),trivial⟩<|
 .r 2<|.callS (args0:=[.sl 1 true ([[aI 0]]),.sl 1 false ((fltK f c k).map intA)]) (args:=[.sl 1 false (([0]:List Int).map intA),.sl 1 false ((fltF f c).map intA)]) ⟨Sub.loose _ _ _,Sub.of_eq (by rw [Qc6 (by omega)]),trivial⟩ (Qd5 [0] (fltF f c) (by have:=Qgk f c k;rw [← Qc6 (f:=f) (c:=c) (k:=k) (by omega)];simp;omega))<|
 .r 1<|.fin (x:=.sl 1 false ((Qck ([0]++fltF f c)).map intA)) (r:=.sl 1 false ((Qb5 f c).map intA)) [] trivial (by
  rw [← Qfb (by unfold Qhz;omega)]
  exact sR))
 <| fun q3=>have p3:=beqF q3;.r 2<|.br 25 (c.kind==7) (fun q4=>have p4:=beqT q4;.frz 5 [5,13,25] [] [V=V,(fltK f c k).length=((fltK f c k).map intA).length] ⟨rfl,(by first | rfl | (simp;done) | (simp;omega)),trivial⟩<|
 .r 2<|.callS (args0:=[.sl 1 true ([[aI 0]]),.sl 1 false ((fltK f c k).map intA)]) (args:=[.sl 1 false (([0]:List Int).map intA),.sl 1 false ((fltF f c).map intA)]) ⟨Sub.loose _ _ _,Sub.of_eq (by rw [Qc6 (by omega)]),trivial⟩ (Qd5 [0] (fltF f c) (by have:=Qgk f c k;rw [← Qc6 (f:=f) (c:=c) (k:=k) (by omega)];simp;omega))<|
 .r 1<|.fin (x:=.sl 1 false ((Qck ([0]++fltF f c)).map intA)) (r:=.sl 1 false ((Qb5 f c).map intA)) [] trivial (by
  rw [← Qfb (by unfold Qhz;omega)]
  exact sR))
 <| fun q4=>have p4:=beqF q4;.r 2<|.br 25 (c.kind==8) (fun q5=>have p5:=beqT q5;.frz 5 [5,13,25] [] [V=V,(fltK f c k).length=((fltK f c k).map intA).length] ⟨rfl,(by first | rfl | (simp;done) | (simp;omega)),trivial⟩<|
 .r 2<|.callS (args0:=[.sl 1 true ([[aI 0]]),.sl 1 false ((fltK f c k).map intA)]) (args:=[.sl 1 false (([0]:List Int).map intA),.sl 1 false ((fltF f c).map intA)]) ⟨Sub.loose _ _ _,Sub.of_eq (by rw [Qc6 (by omega)]),trivial⟩ (Qd5 [0] (fltF f c) (by have:=Qgk f c k;rw [← Qc6 (f:=f) (c:=c) (k:=k) (by omega)];simp;omega))<|
 .r 1<|.fin (x:=.sl 1 false ((Qck ([0]++fltF f c)).map intA)) (r:=.sl 1 false ((Qb5 f c).map intA)) [] trivial (by
  rw [← Qfb (by unfold Qhz;omega)]
  exact sR))
 <| fun q5=>have p5:=beqF q5;.r 2<|.br 25 (c.kind==12) (fun q6=>have p6:=beqT q6;.frz 5 [5,13,25] [] [V=V,(fltK f c k).length=((fltK f c k).map intA).length] ⟨rfl,(by first | rfl | (simp;done) | (simp;omega)),trivial⟩<|
 .r 2<|.callS (args0:=[.sl 1 true ([[aI 0]]),.sl 1 false ((fltK f c k).map intA)]) (args:=[.sl 1 false (([0]:List Int).map intA),.sl 1 false ((fltF f c).map intA)]) ⟨Sub.loose _ _ _,Sub.of_eq (by rw [Qc6 (by omega)]),trivial⟩ (Qd5 [0] (fltF f c) (by have:=Qgk f c k;rw [← Qc6 (f:=f) (c:=c) (k:=k) (by omega)];simp;omega))<|
 .r 1<|.fin (x:=.sl 1 false ((Qck ([0]++fltF f c)).map intA)) (r:=.sl 1 false ((Qb5 f c).map intA)) [] trivial (by
  rw [← Qfb (by unfold Qhz;omega)]
  exact sR))
 <| fun q6=>have p6:=beqF q6;.r 2<|.br 25 (c.kind==15) (fun q7=>have p7:=beqT q7;.frz 5 [5,13,25] [] [V=V,(fltK f c k).length=((fltK f c k).map intA).length] ⟨rfl,(by first | rfl | (simp;done) | (simp;omega)),trivial⟩<|
 .r 2<|.callS (args0:=[.sl 1 true ([[aI 0]]),.sl 1 false ((fltK f c k).map intA)]) (args:=[.sl 1 false (([0]:List Int).map intA),.sl 1 false ((fltF f c).map intA)]) ⟨Sub.loose _ _ _,Sub.of_eq (by rw [Qc6 (by omega)]),trivial⟩ (Qd5 [0] (fltF f c) (by have:=Qgk f c k;rw [← Qc6 (f:=f) (c:=c) (k:=k) (by omega)];simp;omega))<|
 .r 1<|.fin (x:=.sl 1 false ((Qck ([0]++fltF f c)).map intA)) (r:=.sl 1 false ((Qb5 f c).map intA)) [] trivial (by
  rw [← Qfb (by unfold Qhz;omega)]
  exact sR))
 <| fun q7=>have p7:=beqF q7;.r 2<|.frz 5 [4] [] [V=V,(fltK f c k).length=((fltK f c k).map intA).length] ⟨rfl,(by first | rfl | (simp;done) | (simp;omega)),trivial⟩<|
 .fin (x:=.sl 1 false ((fltK f c k).map intA)) (r:=.sl 1 false ((Qb5 f c).map intA)) [] trivial (by
  rw [Zc4 (by unfold Qhz;omega),← Qc6 (k:=k) (by omega)]
  first | exact sR | exact Sub.loose _ _ _)) a1.1 a1.2 ha1) Tryz.func25 rfl (by kernel_rfl) (by kernel_rfl)
structure Txn where
 stamp:Int
 was:Fsy
 now:Fsy
 looks:List Int
def txnA (t:Txn):List AV:=[aI t.stamp,.sl 5 false (t.was.l.map nodA),aI t.was.next,.sl 5 false (t.now.l.map nodA),aI t.now.next,.sl 1 false (t.looks.map intA)]
noncomputable def Qa7 (t:Txn) (c:Cal):Txn:=⟨t.stamp,t.was,(doF t.now c).1,Qck (t.looks++Qb5 t.now c)⟩
theorem Qx8 (t:Txn) (c:Cal):Asc (Qa7 t c).looks:=Qh5 _
theorem Qh3 (t:Txn) (c:Cal):(Qa7 t c).looks.length≤t.looks.length+7:=by
 have h1:=Qh4 (t.looks++Qb5 t.now c)
 have h2:=Qh1 t.now c
 rw [List.length_append] at h1
 show (Qck (t.looks++Qb5 t.now c)).length≤_
 omega
theorem Qk5 (t:Txn) (c:Cal) (okf:OkF t.now) (okc:OkCal c) (hp:Qal t.now) (hx:t.now.next<4611686018427387904) (hl:t.looks.length≤90000):Qaj Tryz.prog 18 [.agg [aI t.stamp,.sl 5 false (t.was.l.map nodA),aI t.was.next,.sl 5 false (t.now.l.map nodA),aI t.now.next,.sl 1 false (t.looks.map intA)],.agg (calA c)] (.tup [.agg (txnA (Qa7 t c)),.agg (repA (doF t.now c).2)]):=by
 exact Qac (F:=Tryz.f18) 400 (
 .new fun b1=>.new fun b2=>.new fun b3=>.new fun b4=>.run 3 [b1=b1,b2=b2] rt2<|
 .call (Zix t.now c okf okc hp (by omega))<|
 .r 3<|.new fun b5=>.new fun b6=>.run 2 [b5=b5,b6=b6] rt2<|
 let J1:Jn (Unit):=⟨fun j1=>⟨[(4,.ptr 4 b3 0),(5,.ptr 5 b4 0)],[(4,.box b3 31 [aI t.stamp,.sl 5 false (t.was.l.map nodA),aI t.was.next,.sl 5 false ((doF t.now c).1.l.map nodA),aI ((doF t.now c).1.next),.sl 1 false ((Qck (t.looks++Qb5 t.now c)).map intA)]),(5,.box b4 45 [aI ((doF t.now c).2.e),aI ((doF t.now c).2.a),aI ((doF t.now c).2.b),aI ((doF t.now c).2.n),aS ((doF t.now c).2.text),.sl 1 false ((doF t.now c).2.names.map txA)])]⟩,fun _=>True⟩
 .cut J1 (.pick [0,1,2,3,4,5,6,7,8,9]<|.run 10 [b1=b1,b1=b1,b5=b5,b1=b1,b1=b1,b2=b2] rt6<|
 .fork<|.alt (.call (Qm1 t.now c okf okc hp)<|
 .fork<|.alt (.call (Qd5 t.looks (Qb5 t.now c) (by have:=Qh1 t.now c;omega))<|
 .pick [12]<|.r 1<|.fork<|.alt (.run 1 [b6=b6] rt1<|
 .pick [14,15]<|.run 2 [b3=b3,b4=b4] rt2<|
 .join J1 () trivial ⟨[(4,.ptr 4 b3 0),(5,.ptr 5 b4 0)],[(4,.box b3 31 [aI t.stamp,.sl 5 false (t.was.l.map nodA),aI t.was.next,.sl 5 false ((doF t.now c).1.l.map nodA),aI ((doF t.now c).1.next),.sl 1 false ((Qck (t.looks++Qb5 t.now c)).map intA)]),(5,.box b4 45 [aI ((doF t.now c).2.e),aI ((doF t.now c).2.a),aI ((doF t.now c).2.b),aI ((doF t.now c).2.n),aS ((doF t.now c).2.text),.sl 1 false ((doF t.now c).2.names.map txA)])]⟩ sr2 ⟨⟨_,rfl,SubB.refl _⟩,⟨_,rfl,SubB.refl _⟩,trivial⟩)
 <| .run 1 [b3=b3] rt1<|
 .pick [13,15]<|.run 2 [b6=b6,b4=b4] rt2<|
 .join J1 () trivial ⟨[(4,.ptr 4 b3 0),(5,.ptr 5 b4 0)],[(4,.box b3 31 [aI t.stamp,.sl 5 false (t.was.l.map nodA),aI t.was.next,.sl 5 false ((doF t.now c).1.l.map nodA),aI ((doF t.now c).1.next),.sl 1 false ((Qck (t.looks++Qb5 t.now c)).map intA)]),(5,.box b4 45 [aI ((doF t.now c).2.e),aI ((doF t.now c).2.a),aI ((doF t.now c).2.b),aI ((doF t.now c).2.n),aS ((doF t.now c).2.text),.sl 1 false ((doF t.now c).2.names.map txA)])]⟩ sr2 ⟨⟨_,rfl,SubB.refl _⟩,⟨_,rfl,SubB.refl _⟩,trivial⟩)
 <| .run 1 [b6=b6] rt1<|
 .pick [11,12,14,15]<|.call (Qd5 t.looks (Qb5 t.now c) (by have:=Qh1 t.now c;omega))<|
 .run 3 [b3=b3,b4=b4] rt2<|
 .join J1 () trivial ⟨[(4,.ptr 4 b3 0),(5,.ptr 5 b4 0)],[(4,.box b3 31 [aI t.stamp,.sl 5 false (t.was.l.map nodA),aI t.was.next,.sl 5 false ((doF t.now c).1.l.map nodA),aI ((doF t.now c).1.next),.sl 1 false ((Qck (t.looks++Qb5 t.now c)).map intA)]),(5,.box b4 45 [aI ((doF t.now c).2.e),aI ((doF t.now c).2.a),aI ((doF t.now c).2.b),aI ((doF t.now c).2.n),aS ((doF t.now c).2.text),.sl 1 false ((doF t.now c).2.names.map txA)])]⟩ sr2 ⟨⟨_,rfl,SubB.refl _⟩,⟨_,rfl,SubB.refl _⟩,trivial⟩)
 <| .run 1 [b6=b6] rt1<|
 .pick [10,11,12,14,15]<|.call (Qm1 t.now c okf okc hp)<|
 .call (Qd5 t.looks (Qb5 t.now c) (by have:=Qh1 t.now c;omega))<|
 .run 3 [b3=b3,b4=b4] rt2<|
 .join J1 () trivial ⟨[(4,.ptr 4 b3 0),(5,.ptr 5 b4 0)],[(4,.box b3 31 [aI t.stamp,.sl 5 false (t.was.l.map nodA),aI t.was.next,.sl 5 false ((doF t.now c).1.l.map nodA),aI ((doF t.now c).1.next),.sl 1 false ((Qck (t.looks++Qb5 t.now c)).map intA)]),(5,.box b4 45 [aI ((doF t.now c).2.e),aI ((doF t.now c).2.a),aI ((doF t.now c).2.b),aI ((doF t.now c).2.n),aS ((doF t.now c).2.text),.sl 1 false ((doF t.now c).2.names.map txA)])]⟩ sr2 ⟨⟨_,rfl,SubB.refl _⟩,⟨_,rfl,SubB.refl _⟩,trivial⟩)
 <| fun _ _=>.fin (x:=.tup [.agg [aI t.stamp,.sl 5 false (t.was.l.map nodA),aI t.was.next,.sl 5 false ((doF t.now c).1.l.map nodA),aI ((doF t.now c).1.next),.sl 1 false ((Qck (t.looks++Qb5 t.now c)).map intA)],.agg [aI ((doF t.now c).2.e),aI ((doF t.now c).2.a),aI ((doF t.now c).2.b),aI ((doF t.now c).2.n),aS ((doF t.now c).2.text),.sl 1 false ((doF t.now c).2.names.map txA)]]) (r:=.tup [.agg (txnA (Qa7 t c)),.agg (repA (doF t.now c).2)]) [b3=b3,b4=b4] rt2 (by exact sR)) Tryz.func18 rfl (by kernel_rfl) (by kernel_rfl)
end Go.Proofs.YtahlldgocpabjaaGreat
