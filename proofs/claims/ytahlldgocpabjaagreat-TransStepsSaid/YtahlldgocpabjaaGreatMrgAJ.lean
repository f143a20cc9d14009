import Derived.Test.YtahlldgocpabjaaGreatMrgAI
import Derived.Test.YtahlldgocpabjaaGreatMrgAE
import Derived.Test.YtahlldgocpabjaaGreatMrgAF
set_option maxRecDepth 100000
set_option maxHeartbeats 8000000
set_option linter.unusedVariables false
set_option linter.unusedSimpArgs false
namespace Go.Proofs.YtahlldgocpabjaaGreat
open Go Go.RowKit Copyhold Go.Proofs.Tryz
theorem Ziw {r:List Ver} {st:Int}:∀ v∈Qb7 r st,v∈r:=by
 intro v hv;unfold Qb7 at hv
 split at hv
 ·split at hv
  ·exact List.mem_of_mem_take hv
  ·exact hv
 ·exact hv
theorem Zk5 {P:Chn→Prop} {l:List Chn} {st n:Int} {v:Ver} (hl:∀ c∈l,P c) (h1:P ⟨n,[v]⟩) (h2:∀ d∈l,P ⟨d.ino,Qb7 d.l st++[v]⟩):∀ c∈putC l st n v,P c:=by
 intro c hc;unfold putC at hc
 split at hc
 ·split at hc
  ·rename_i d hd;rcases List.mem_or_eq_of_mem_set hc with hc | rfl
   ·exact hl c hc
   ·exact h2 d (List.mem_of_getElem? hd)
  ·exact hl c hc
 ·rcases List.mem_append.1 hc with hc | hc
  ·exact hl c (List.mem_of_mem_take hc)
  ·rcases List.mem_cons.1 hc with rfl | hc
   ·exact h1
   ·exact hl c (List.mem_of_mem_drop hc)
def Zhj (l:List Chn) (st:Int) (cs:List Chg):List Chn:=cs.foldl (fun l c=>putC l st c.ino (Qao c st)) l
theorem Zhh (l:List Chn) (st:Int) (cs:List Chg):Qap l st cs cs.length=Zhj l st cs:=by unfold Qap Zhj;rw [List.take_length]
theorem Qsf {P:Chn→Prop} {st:Int}:∀ {cs:List Chg} {l:List Chn},(∀ c∈l,P c)→(∀ c∈cs,P ⟨c.ino,[Qao c st]⟩)→(∀ c∈cs,∀ d,P d→P ⟨d.ino,Qb7 d.l st++[Qao c st]⟩)→∀ c∈Zhj l st cs,P c
 | [],l,hl,_,_=>hl
 | x :: r,l,hl,h1,h2=>Qsf (cs:=r) (l:=putC l st x.ino (Qao x st)) (Zk5 hl (h1 x (List.mem_cons_self ..)) (fun d hd=>h2 x (List.mem_cons_self ..) d (hl d hd))) (fun c hc=>h1 c (List.mem_cons_of_mem _ hc)) (fun c hc=>h2 c (List.mem_cons_of_mem _ hc))
theorem Qlv {c:Chg} {st:Int} (h:OkCh c) (hs:I64 st):OkV (Qao c st):=by
 unfold Qao
 split
 ·exact ⟨hs,Qke⟩
 ·exact ⟨hs,h.1,h.2.2⟩
def OkD (c:Chn):Prop:=I64 c.ino∧∀ v∈c.l,OkV v
theorem Zhi {l:List Chn} {st:Int} {cs:List Chg} (hs:I64 st) (hl:∀ c∈l,OkD c) (hc:∀ c∈cs,OkCh c):∀ c∈Zhj l st cs,OkD c:=
 Qsf hl (fun c h=>⟨(hc c h).1,fun v hv=>by obtain rfl:=List.mem_singleton.1 hv;exact Qlv (hc c h) hs⟩)
  (fun c h d hd=>⟨hd.1,fun v hv=>by
   rcases List.mem_append.1 hv with hv | hv
   ·exact hd.2 v (Ziw v hv)
   ·obtain rfl:=List.mem_singleton.1 hv;exact Qlv (hc c h) hs⟩)
theorem Zcc {s:Sto} {next:Int} (oks:OkS s) (hn:I64 next) (hs:I64 (s.stamp+1)):∀ c∈Qd9 s next,OkK c:=by
 have key:∀ c∈s.nexts++[(⟨s.stamp+1,next⟩:Cnt)],OkK c:=fun c hc=>by
  rcases List.mem_append.1 hc with hc | hc
  ·exact oks.2.2.2.2 c hc
  ·obtain rfl:=List.mem_singleton.1 hc;exact ⟨hs,hn⟩
 intro c hc;unfold Qd9 at hc
 split at hc
 ·split at hc
  ·exact key c hc
  ·exact oks.2.2.2.2 c hc
 ·exact key c hc
theorem Qyw (s:Sto) (next:Int):(Qd9 s next).length≤s.nexts.length+1:=by
 unfold Qd9
 split
 ·split
  ·simp
  ·omega
 ·simp
structure Fit (s:Sto) (B:Nat):Prop where
 ok:OkS s
 l:s.l.length≤B
 n:s.nexts.length≤B
 r:∀ c∈s.l,c.l.length≤B
theorem Fit.inst {s:Sto} {B:Nat} {cs:List Chg} {next:Int} (h:Fit s B) (hc:∀ c∈cs,OkCh c) (hn:I64 next) (hs:s.stamp<9223372036854775807) (hB:B+1+cs.length≤100000):Fit (Qii s cs next) (B+1+cs.length):=by
 have hst:I64 (s.stamp+1):=⟨by have:=h.ok.1.1;omega,by omega⟩
 have h1:=Qjm s.l (s.stamp+1) cs cs.length;have h2:=Qel (st:=s.stamp+1) (cs:=cs) h.r cs.length (Nat.le_refl _);have h3:=Qyw s next
 have h4:∀ c∈Qap s.l (s.stamp+1) cs cs.length,OkD c:=by
  rw [Zhh];exact Zhi hst (fun c hc=>⟨(h.ok.2.2.2.1 c hc).1,(h.ok.2.2.2.1 c hc).2.2⟩) hc
 have hl:=h.l;have hn2:=h.n;refine ⟨⟨hst,?_,?_,fun c hc=>⟨(h4 c hc).1,?_,(h4 c hc).2⟩,Zcc h.ok hn hst⟩,?_,?_,fun c hc=>?_⟩
 ·show (Qap s.l (s.stamp+1) cs cs.length).length≤_;omega
 ·show (Qd9 s next).length≤_;omega
 ·have:=h2 c hc;omega
 ·show (Qap s.l (s.stamp+1) cs cs.length).length≤_;omega
 ·show (Qd9 s next).length≤_;omega
 ·have:=h2 c hc;omega
structure Abs where
 ino:Int
 last:Option (Bool × Nod)
 later:Bool
theorem Zlr:Elem prog 29 3 (.int .i64 0) 1 8:=⟨Tryz.underlying29,by kernel_rfl,by kernel_rfl,by decide⟩
theorem Zdh (n:Nat) (hn:n≤1000000) (w:World) :
  Calls prog 151 #[.slice none 0 0,.int .i64 (n:Int)] w (Zfc w 3 1 0 []):=by
 by_cases h0:0<n
 ·obtain ⟨G,w',hrun,hG1,hG2,hown,hb⟩:=Qq8 Zlr Tryz.underlying3 n h0 (by omega) (by omega) w;have HO:=Lib.hid (And.intro hown hb);have hi0:(0:Int)<(n:Int):=by omega
  clear hown hb
  go_enter func151,Tryz.ntmps151
  go_wp2_with (at_builtin;refine Qez rfl _ _ _ _ rfl _ _ _ _ rfl rfl (hrun _) ?_)
  go_ret
  exact ⟨_,rfl,HO.out.1,HO.out.2⟩
 ·obtain rfl:n=0:=by omega
  go_enter func151,Tryz.ntmps151
  go_wp2_with fail
  go_ret
  exact ⟨_,rfl,World.ownsRow_nil _ _ _ _,Below.refl _ _⟩
def pcI (p:List (List AV)):List AV:=[.sl 1 false p]
theorem Qs0 (ps:List (List (List AV))) (hl:ps.length≤100000) (ht:ps.flatten.length≤100000) (hx:∀ l∈ps.flatten,l.length=1):Qd2 prog 89 [.sl 1 false (ps.map pcI)] 3 1 (ps.flatten):=by
 exact Qeh func89 (
 .r 1<|.r 1<|.r 2<|.lm 10 ps pcI<|.r 1<|let L1:Lp (Nat):=⟨fun a1=>⟨[(0,.sl 1 false (ps.map pcI)),(9,.sl 1 false (ps.map pcI)),(10,aI (ps.length:Int)),(3,aI ((ps.take a1).flatten.length:Int)),(11,aI (a1:Int))],[]⟩,fun a1=>ps.length-a1,fun a1=>a1≤ps.length⟩
 .lp L1 0 (show 0≤ps.length from Nat.zero_le _) [(3,aI 0),(11,aI 0)] [] ⟨sR,sR,sR,sO,sO,trivial⟩ trivial fun a1 ha1=>
 (fun (k:Nat) (hH1:k≤ps.length)=>.r 1<|.bd 12 ((k:Int)<(ps.length:Int)) (fun p1=>.idxM ps pcI k (m:=(k:Int)) rfl (by omega) fun x1 hx1=>
 have tx1:=Qdb ps (k+1);have ux1:=congrArg List.length (Qc8 hx1);have vx1:=(@List.length_append _ (ps.take k).flatten x1);.r 2<|.run 5 [rng .i64 (((ps.take k).flatten.length:Int)+((x1).length:Int))] ⟨Qaj (by omega) (by omega),trivial⟩<|
 .r 2<|.bd 20 ((((ps.take k).flatten.length:Int)+((x1).length:Int))<0) (fun p2=>.no (by omega))
 <| fun p2=>.run 2 [rng .i64 ((k:Int)+1)] ⟨Qaj (by omega) (by omega),trivial⟩<|
 .bk L1 k (k+1) (show (k+1)≤ps.length from (by show _≤_;omega)) (show ps.length-(k+1)<ps.length-k from (by omega)) [(3,aI (((ps.take k).flatten.length:Int)+((x1).length:Int))),(11,aI ((k:Int)+1))] [] ⟨sR,sR,sR,Sub.of_eq (congrArg aI (by rw [Qc8 hx1,List.length_append];omega)),sO,trivial⟩ trivial)
 <| fun p1=>.r 1<|.cw (args0:=[aN,aI ((ps.take k).flatten.length:Int)]) (Qsg (fun w=>Zdh ((ps.take k).flatten.length) (by have:=Qdb ps k;omega) w)) sr2 fun V1=>
 .r 1<|.r 2<|.lm 26 ps pcI<|.r 1<|let L2:Lp (Nat × Value):=⟨fun a2=>⟨[(25,.sl 1 false (ps.map pcI)),(26,aI (ps.length:Int)),(27,aI (a2.1:Int)),(6,.rw 24 a2.2 ((ps.take a2.1).flatten.length))],[(24,.row a2.2 3 1 ((ps.take a2.1).flatten))]⟩,fun a2=>ps.length-a2.1,fun a2=>a2.1≤ps.length⟩
 .lp L2 (0,V1) (show 0≤ps.length from Nat.zero_le _) [(27,aI 0),(6,.rw 24 V1 0)] [(24,.row V1 3 1 ([]))] ⟨sR,sR,sO,Sub.of_eq (congrArg (AV.rw 24 V1) (by simp)),trivial⟩ ⟨⟨_,rfl,SubB.of_eq (by simp)⟩,trivial⟩ fun a2 ha2=>
 (fun (j:Nat) (V:Value) (hH2:j≤ps.length)=>.r 1<|.bd 28 ((j:Int)<(ps.length:Int)) (fun p3=>.idxM ps pcI j (m:=(j:Int)) rfl (by omega) fun x2 hx2=>
 have tx2:=Qdb ps (j+1);have ux2:=congrArg List.length (Qc8 hx2);have vx2:=(@List.length_append _ (ps.take j).flatten x2);.r 2<|.r 2<|.app 8 V ((ps.take j).flatten) x2 (by omega) (by omega) fun V2=>
 .r 1<|.run 2 [rng .i64 ((j:Int)+1)] ⟨Qaj (by omega) (by omega),trivial⟩<|
 .bk L2 (j,V) ((j+1),V2) (show (j+1)≤ps.length from (by show _≤_;omega)) (show ps.length-(j+1)<ps.length-j from (by omega)) [(27,aI ((j:Int)+1)),(6,.rw 24 V2 (((ps.take j).flatten).length+x2.length))] [(24,.row V2 3 1 (((ps.take j).flatten)++x2))] ⟨sR,sR,sO,Sub.of_eq (congrArg (AV.rw 24 V2) (by rw [Qc8 hx2,List.length_append])),trivial⟩ ⟨⟨_,rfl,SubB.of_eq (by rw [Qc8 hx2])⟩,trivial⟩)
 <| fun p3=>.r 2<|.finRow (x:=(ps.take j).flatten) (r:=ps.flatten) [] trivial 24 3 1 ((ps.take j).flatten.length) V (by rw [Qav (by omega)])) a2.1 a2.2 ha2) a1 ha1)
theorem Qxh (a b:List Int) (h:a.length+b.length≤100000):Qd2 prog 89 [.sl 1 false ([a.map intA,b.map intA].map pcI)] 3 1 ((a++b).map intA):=by
 have hx:∀ l∈[a.map intA,b.map intA].flatten,l.length=1:=fun l hl=>by
  simp only [List.flatten_cons,List.flatten_nil,List.append_nil,List.mem_append,List.mem_map] at hl;rcases hl with ⟨x,_,rfl⟩ | ⟨x,_,rfl⟩<;>rfl
 have:=Qs0 [a.map intA,b.map intA] (by simp) (by simp;omega) hx;rw [List.map_append];simpa using this
theorem pcI2 {t t1 t2:Bool} (A B:List (List AV)):Sub (.sl 1 t [[.sl 1 t1 A],[.sl 1 t2 B]]) (.sl 1 false ([A,B].map pcI)):=
 (Sub.sl2 (xs:=[[.sl 1 t1 A],[.sl 1 t2 B]]) (ys:=[A,B].map pcI) rfl (fun i q p hq hp=>by
 match i,hq,hp with
 | 0,hq,hp=>simp at hq hp;subst hq hp;exact ⟨Sub.loose _ _ _,trivial⟩
 | 1,hq,hp=>simp at hq hp;subst hq hp;exact ⟨Sub.loose _ _ _,trivial⟩
 | i+2,hq,_=>simp at hq)).trans (Sub.loose _ _ _)
theorem Qy6 (a b:List Int) (h1:1≤(a++b).length) (hl:a.length+b.length≤100000):Qaf prog 49 [.sl 1 false (a.map intA),.sl 1 false (b.map intA)] (.sl 1 false ((Qc3 (a++b)).map intA)):=by
 exact Qac func49 (let R:AV:=.sl 1 false ((Qc3 (a++b)).map intA);
 .r 1<|.r 3<|.op (crR prog 30) (89,[.sl 1 true ([[.sl 1 false (a.map intA)],[.sl 1 false (b.map intA)]])],9) (fun (V:Value) σ=>(σ.put (some 9) (.rw 30 V ((a++b).map intA).length)).setB 30 (.row V 3 1 ((a++b).map intA))) (Qgm (args':=[.sl 1 false ([a.map intA,b.map intA].map pcI)]) ⟨pcI2 _ _,trivial⟩ (Qxh a b (by omega))) fun V1=>
 .r 1<|.lent 1<|.r 1<|.lop (lcR prog 30) ((90,[.rw 30 V1 (((a++b).map intA).length)],some 11),.row V1 3 1 ((a++b).map intA)) (fun (_:Unit) σ=>(σ.put (some 11) (.tup [])).setB 30 (.row V1 3 1 (((a++b).mergeSort fun x y=>decide (x≤y)).map intA))) (Qdd (args':=[.rw 30 V1 ((a++b).length)]) ⟨Sub.of_eq (congrArg (AV.rw 30 V1) (by rw [List.length_map])),trivial⟩ (Qob (a++b) V1 h1 (by rw [List.length_append];omega))) fun _=>
 .lent 1<|.r 1<|.lop (lcR prog 30) ((91,[.rw 30 V1 (((a++b).map intA).length)],some 13),.row V1 3 1 (((a++b).mergeSort fun x y=>decide (x≤y)).map intA)) (fun (_:Unit) σ=>(σ.put (some 13) (.sl 1 false ((Qc3 (a++b)).map intA))).setB 30 gone) (Qci (args':=[.rw 30 V1 (((a++b).mergeSort fun x y=>decide (x≤y)).length)]) ⟨Sub.of_eq (congrArg (AV.rw 30 V1) (by rw [List.length_map,List.length_mergeSort])),trivial⟩ (Qjv ((a++b).mergeSort fun x y=>decide (x≤y)) V1 (by rw [List.length_mergeSort];exact h1) (by rw [List.length_mergeSort,List.length_append];omega))) fun _=>
 .r 1<|.fi R [])
theorem Qy7 :Qaf prog 49 [.sl 1 false (([]:List Int).map intA),.sl 1 false (([]:List Int).map intA)] (.sl 1 false []):=by
 exact Qac func49 (
 .r 1<|.r 3<|.op (crR prog 30) (89,[.sl 1 true ([[.sl 1 false (([]:List Int).map intA)],[.sl 1 false (([]:List Int).map intA)]])],9) (fun (V:Value) σ=>(σ.put (some 9) (.rw 30 V ([]:List (List AV)).length)).setB 30 (.row V 3 1 (([]:List (List AV))))) (Qgm (args':=[.sl 1 false ([([]:List Int).map intA,([]:List Int).map intA].map pcI)]) ⟨pcI2 _ _,trivial⟩ (Qxh [] [] (by simp))) fun V1=>
 .r 1<|.lent 1<|.r 1<|.lop (lcR prog 30) ((90,[.rw 30 V1 (([]:List (List AV)).length)],some 11),.row V1 3 1 ([]:List (List AV))) (fun (_:Unit) σ=>(σ.put (some 11) (.tup [])).setB 30 (.row V1 3 1 ([]))) (Qdd (args':=[.rw 30 V1 0]) ⟨Sub.of_eq rfl,trivial⟩ (Qoc V1)) fun _=>
 .lent 1<|.r 1<|.lop (lcR prog 30) ((91,[.rw 30 V1 (([]:List (List AV)).length)],some 13),.row V1 3 1 ([])) (fun (_:Unit) σ=>(σ.put (some 13) (.sl 1 false ([]))).setB 30 gone) (Qci (args':=[.rw 30 V1 0]) ⟨Sub.of_eq rfl,trivial⟩ (Qjw V1)) fun _=>
 .r 1<|.fi (.sl 1 false []) [])
theorem Qec (a b:List Int) (hl:a.length+b.length≤100000):Qaf prog 49 [.sl 1 false (a.map intA),.sl 1 false (b.map intA)] (.sl 1 false ((Qc3 (a++b)).map intA)):=by
 by_cases h1:1≤(a++b).length
 ·exact Qy6 a b h1 hl
 ·rw [List.length_append] at h1;obtain rfl:a=[]:=List.eq_nil_of_length_eq_zero (by omega);obtain rfl:b=[]:=List.eq_nil_of_length_eq_zero (by omega);rw [show Qc3 ([]++[])=[] from List.eq_nil_of_length_eq_zero (Nat.le_zero.1 (Qix []))];exact Qy7
def fltK (f:Fsy) (c:Cal) (k:Nat):List Int:=((Qal f c).take k).filter fun x=>decide (1≤x)
def fltF (f:Fsy) (c:Cal):List Int:=(Qal f c).filter fun x=>decide (1≤x)
def Qbb (f:Fsy) (c:Cal):List Int:=if c.kind=6∨c.kind=7∨c.kind=8∨c.kind=12∨c.kind=15 then 0 :: fltF f c else fltF f c
theorem Qqh {f:Fsy} {c:Cal} {k:Nat} {x:Int} (h:(Qal f c)[k]?=some x) (q:1≤x):fltK f c (k+1)=fltK f c k++[x]:=by
 unfold fltK;rw [Qak h,List.filter_append];simp [q]
theorem Qgy {f:Fsy} {c:Cal} {k:Nat} {x:Int} (h:(Qal f c)[k]?=some x) (q:¬ 1≤x):fltK f c (k+1)=fltK f c k:=by
 unfold fltK;rw [Qak h,List.filter_append];simp [q]
theorem Qdo (f:Fsy) (c:Cal) (k:Nat):(fltK f c k).length≤6:=by
 have h1:=List.length_filter_le (fun x=>decide ((1:Int)≤x)) ((Qal f c).take k);have h2:=Qkh f c;rw [List.length_take] at h1;unfold fltK;omega
theorem Qb3 {f:Fsy} {c:Cal} {k:Nat} (h:(Qal f c).length≤k):fltK f c k=fltF f c:=by unfold fltK;rw [Qav h];rfl
theorem Qy0 (f:Fsy) (c:Cal):Asc (Qal f c):=by
 unfold Qal
 split
 ·unfold Asc;simp
 ·exact Qgj _
theorem Qw3 (f:Fsy) (c:Cal):Asc (fltF f c):=List.Pairwise.filter _ (Qy0 f c)
theorem Qjo {f:Fsy} {c:Cal} {x:Int}:x∈fltF f c↔x∈Qal f c∧1≤x:=by unfold fltF;rw [List.mem_filter];simp
theorem Zhr {f:Fsy} {c:Cal} {x:Int} (h:x∈fltF f c):1≤x:=(Qjo.1 h).2
theorem Qrg (f:Fsy) (c:Cal):Asc (Qbb f c):=by
 unfold Qbb
 split
 ·exact List.pairwise_cons.2 ⟨fun x hx=>by have:=Zhr hx;omega,Qw3 f c⟩
 ·exact Qw3 f c
theorem Qrf {f:Fsy} {c:Cal} {x:Int}:x∈Qbb f c↔(x=0∧Qis c)∨(x∈Qal f c∧1≤x):=by
 unfold Qbb
 split
 ·rename_i h;rw [List.mem_cons,Qjo];constructor
  ·rintro (e | e)
   ·exact .inl ⟨e,h⟩
   ·exact .inr e
  ·rintro (e | e)
   ·exact .inl e.1
   ·exact .inr e
 ·rename_i h;rw [Qjo];constructor
  ·exact .inr
  ·rintro (e | e)
   ·exact absurd e.2 h
   ·exact e
theorem Qep (f:Fsy) (c:Cal):(Qbb f c).length≤7:=by
 have h:(fltF f c).length≤6:=by rw [← Qb3 (Nat.le_refl _)];exact Qdo f c _
 unfold Qbb
 split
 ·rw [List.length_cons];omega
 ·omega
theorem Qfn {f:Fsy} {c:Cal} (h:Qis c):Qc3 ([0]++fltF f c)=Qbb f c:=Qkr (Qgj _) (Qrg f c) fun x=>by
 rw [Qgi,Qrf,List.mem_append,Qjo,List.mem_singleton];constructor
 ·rintro (e | e)
  ·exact .inl ⟨e,h⟩
  ·exact .inr e
 ·rintro (e | e)
  ·exact .inl e.1
  ·exact .inr e
theorem Zfk {f:Fsy} {c:Cal} (h:¬ Qis c):Qbb f c=fltF f c:=if_neg h
def wiF (l:List Int) (ns:List Int):List Int:=ns.foldl Qcq l
theorem Qtq {x:Int}:∀ {ns l:List Int},x∈wiF l ns↔x∈l∨x∈ns
 | [],l=>by simp [wiF]
 | n :: r,l=>by
  show x∈wiF (Qcq l n) r↔_;rw [Qtq,Qip,List.mem_cons];constructor
  ·rintro ((h | h) | h)
   ·exact .inr (.inl h)
   ·exact .inl h
   ·exact .inr (.inr h)
  ·rintro (h | h | h)
   ·exact .inl (.inr h)
   ·exact .inl (.inl h)
   ·exact .inr h
theorem Qtr:∀ {ns l:List Int},Asc l→Asc (wiF l ns)
 | [],_,h=>h
 | n :: r,l,h=>Qtr (ns:=r) (Qiq h n)
theorem Qgg:∀ (ns l:List Int),(wiF l ns).length≤l.length+ns.length
 | [],l=>Nat.le_refl _
 | n :: r,l=>by
  have h1:=Qgg r (Qcq l n);have h2:=Qhb l n;show (wiF (Qcq l n) r).length≤_;rw [List.length_cons];omega
theorem Zfg {l ns:List Int} {k:Nat} {x:Int} (h:ns[k]?=some x):wiF l (ns.take (k+1))=Qcq (wiF l (ns.take k)) x:=by
 unfold wiF;rw [Qak h,List.foldl_append];rfl
theorem Zfh {l ns:List Int} (h:Asc l):wiF l ns=Qc3 (l++ns):=Qkr (Qtr h) (Qgj _) fun x=>by
 rw [Qtq,Qgi,List.mem_append]
def Qbr (c:Cal):List Int:=if c.kind=6∨c.kind=7∨c.kind=8∨c.kind=12∨c.kind=15 then [0] else []
theorem Ziy (c:Cal):Asc (Qbr c):=by
 unfold Qbr
 split
 ·unfold Asc;simp
 ·exact List.Pairwise.nil
theorem Qh1 (c:Cal):(Qbr c).length≤1:=by
 unfold Qbr
 split<;>simp
theorem Qhd (f:Fsy) (c:Cal):wiF (Qbr c) (fltF f c)=Qbb f c:=Qkr (Qtr (Ziy c)) (Qrg f c) fun x=>by
 rw [Qtq,Qrf,Qjo];unfold Qbr
 split
 ·rename_i h;rw [List.mem_singleton];constructor
  ·rintro (e | e)
   ·exact .inl ⟨e,h⟩
   ·exact .inr e
  ·rintro (e | e)
   ·exact .inl e.1
   ·exact .inr e
 ·rename_i h;constructor
  ·rintro (e | e)
   ·cases e
   ·exact .inr e
  ·rintro (e | e)
   ·exact absurd e.2 h
   ·exact .inr e
theorem Qn4 {f:Fsy} {c:Cal} {k:Nat} {x:Int} (h:(Qal f c)[k]?=some x) (q:1≤x):wiF (Qbr c) (fltK f c (k+1))=Qcq (wiF (Qbr c) (fltK f c k)) x:=by
 rw [Qqh h q];unfold wiF;rw [List.foldl_append];rfl
theorem Qj7 (f:Fsy) (c:Cal) (okf:OkF f) (okc:OkCal c) (hp:Qam f):Qaf prog 25 [.agg (fsyA f),.agg (calA c)] (.sl 1 false ((Qbb f c).map intA)):=by
 have hlu:=Qkh f c;exact Qac func25 (
 .new fun b1=>.new fun b2=>.r 1<|.r 1<|.rowNil 5 5 3 1<|.u 2 [b1,b2]<|
 .call (Quw f c okf okc hp)<|
 .r 1<|.lm 11 (Qal f c) intA<|.r 1<|let L1:Lp (Nat × Value):=⟨fun a1=>⟨[(3,.ptr 3 b2 0),(10,.sl 1 false ((Qal f c).map intA)),(11,aI ((Qal f c).length:Int)),(12,aI (a1.1:Int)),(5,.rw 5 a1.2 ((fltK f c a1.1).length))],[(3,.box b2 33 (calA c)),(5,.row a1.2 3 1 ((fltK f c a1.1).map intA))]⟩,fun a1=>(Qal f c).length-a1.1,fun a1=>a1.1≤(Qal f c).length⟩
 .lp L1 (0,.slice none 0 0) (show 0≤(Qal f c).length from Nat.zero_le _) [(12,aI 0),(5,.rw 5 (.slice none 0 0) 0)] [(5,.row (.slice none 0 0) 3 1 ([]))] ⟨sR,sR,sR,sO,sR,trivial⟩ bb2 fun a1 ha1=>
 (fun (k:Nat) (V:Value) (hH1:k≤(Qal f c).length)=>.r 1<|.bd 13 ((k:Int)<((Qal f c).length:Int)) (fun p1=>.idxM (Qal f c) intA k (m:=(k:Int)) rfl (by omega) fun x1 hx1=>
 .r 2<|.r 2<|.bd 17 (x1≥1) (fun p2=>.r 3<|.app 8 V ((fltK f c k).map intA) ([[aI x1]]) (by have:=Qdo f c k;simp only [List.length_map,List.length_cons,List.length_nil];omega) (by have:=Qdo f c k;simp only [List.length_map,List.length_cons,List.length_nil];omega) fun V1=>
 .r 1<|.run 2 [rng .i64 ((k:Int)+1)] ⟨Qaj (by omega) (by omega),trivial⟩<|
 .bk L1 (k,V) ((k+1),V1) (show (k+1)≤(Qal f c).length from (by show _≤_;omega)) (show (Qal f c).length-(k+1)<(Qal f c).length-k from (by omega)) [(12,aI ((k:Int)+1)),(5,.rw 5 V1 (((fltK f c k).map intA).length+([[aI x1]]:List (List AV)).length))] [(5,.row V1 3 1 (((fltK f c k).map intA)++([[aI x1]])))] ⟨sR,sR,sR,sO,Sub.of_eq (congrArg (AV.rw 5 V1) (by rw [Qqh hx1 (by omega)];simp)),trivial⟩ ⟨sB,⟨_,rfl,SubB.of_eq (by rw [Qqh hx1 (by omega)];simp [intA])⟩,trivial⟩)
 <| fun p2=>.run 2 [rng .i64 ((k:Int)+1)] ⟨Qaj (by omega) (by omega),trivial⟩<|
 .bk L1 (k,V) ((k+1),V) (show (k+1)≤(Qal f c).length from (by show _≤_;omega)) (show (Qal f c).length-(k+1)<(Qal f c).length-k from (by omega)) [(12,aI ((k:Int)+1)),(5,.rw 5 V ((fltK f c k).length))] [(5,.row V 3 1 ((fltK f c k).map intA))] ⟨sR,sR,sR,sO,Sub.of_eq (congrArg (AV.rw 5 V) (by rw [Qgy hx1 (by omega)])),trivial⟩ ⟨sB,⟨_,rfl,SubB.of_eq (by rw [Qgy hx1 (by omega)])⟩,trivial⟩)
 <| fun p1=>.u 2 [b2]<|
 .r 2<|.be 25 c.kind 6 (fun p3=>.frz 5 [5,13,25] [] [V=V,(fltK f c k).length=((fltK f c k).map intA).length] ⟨rfl,(by first | rfl | (simp;done) | (simp;omega)),trivial⟩<|
 .r 2<|.cs (args0:=[.sl 1 true ([[aI 0]]),.sl 1 false ((fltK f c k).map intA)]) (Qec [0] (fltF f c) (by have:=Qdo f c k;rw [← Qb3 (f:=f) (c:=c) (k:=k) (by omega)];simp;omega)) ⟨Sub.loose _ _ _,Sub.of_eq (by rw [Qb3 (by omega)]),trivial⟩<|
 .r 1<|.f (.sl 1 false ((Qbb f c).map intA)) [] (.sl 1 false ((Qc3 ([0]++fltF f c)).map intA)) (by
  rw [← Qfn (by unfold Qis;omega)];exact sR))
 <| fun p3=>.r 2<|.be 25 c.kind 7 (fun p4=>.frz 5 [5,13,25] [] [V=V,(fltK f c k).length=((fltK f c k).map intA).length] ⟨rfl,(by first | rfl | (simp;done) | (simp;omega)),trivial⟩<|
 .r 2<|.cs (args0:=[.sl 1 true ([[aI 0]]),.sl 1 false ((fltK f c k).map intA)]) (Qec [0] (fltF f c) (by have:=Qdo f c k;rw [← Qb3 (f:=f) (c:=c) (k:=k) (by omega)];simp;omega)) ⟨Sub.loose _ _ _,Sub.of_eq (by rw [Qb3 (by omega)]),trivial⟩<|
 .r 1<|.f (.sl 1 false ((Qbb f c).map intA)) [] (.sl 1 false ((Qc3 ([0]++fltF f c)).map intA)) (by
  rw [← Qfn (by unfold Qis;omega)];exact sR))
 <| fun p4=>.r 2<|.be 25 c.kind 8 (fun p5=>.frz 5 [5,13,25] [] [V=V,(fltK f c k).length=((fltK f c k).map intA).length] ⟨rfl,(by first | rfl | (simp;done) | (simp;omega)),trivial⟩<|
 .r 2<|.cs (args0:=[.sl 1 true ([[aI 0]]),.sl 1 false ((fltK f c k).map intA)]) (Qec [0] (fltF f c) (by have:=Qdo f c k;rw [← Qb3 (f:=f) (c:=c) (k:=k) (by omega)];simp;omega)) ⟨Sub.loose _ _ _,Sub.of_eq (by rw [Qb3 (by omega)]),trivial⟩<|
 .r 1<|.f (.sl 1 false ((Qbb f c).map intA)) [] (.sl 1 false ((Qc3 ([0]++fltF f c)).map intA)) (by
  rw [← Qfn (by unfold Qis;omega)];exact sR))
 <| fun p5=>.r 2<|.be 25 c.kind 12 (fun p6=>.frz 5 [5,13,25] [] [V=V,(fltK f c k).length=((fltK f c k).map intA).length] ⟨rfl,(by first | rfl | (simp;done) | (simp;omega)),trivial⟩<|
 .r 2<|.cs (args0:=[.sl 1 true ([[aI 0]]),.sl 1 false ((fltK f c k).map intA)]) (Qec [0] (fltF f c) (by have:=Qdo f c k;rw [← Qb3 (f:=f) (c:=c) (k:=k) (by omega)];simp;omega)) ⟨Sub.loose _ _ _,Sub.of_eq (by rw [Qb3 (by omega)]),trivial⟩<|
 .r 1<|.f (.sl 1 false ((Qbb f c).map intA)) [] (.sl 1 false ((Qc3 ([0]++fltF f c)).map intA)) (by
  rw [← Qfn (by unfold Qis;omega)];exact sR))
 <| fun p6=>.r 2<|.be 25 c.kind 15 (fun p7=>.frz 5 [5,13,25] [] [V=V,(fltK f c k).length=((fltK f c k).map intA).length] ⟨rfl,(by first | rfl | (simp;done) | (simp;omega)),trivial⟩<|
 .r 2<|.cs (args0:=[.sl 1 true ([[aI 0]]),.sl 1 false ((fltK f c k).map intA)]) (Qec [0] (fltF f c) (by have:=Qdo f c k;rw [← Qb3 (f:=f) (c:=c) (k:=k) (by omega)];simp;omega)) ⟨Sub.loose _ _ _,Sub.of_eq (by rw [Qb3 (by omega)]),trivial⟩<|
 .r 1<|.f (.sl 1 false ((Qbb f c).map intA)) [] (.sl 1 false ((Qc3 ([0]++fltF f c)).map intA)) (by
  rw [← Qfn (by unfold Qis;omega)];exact sR))
 <| fun p7=>.r 2<|.frz 5 [4] [] [V=V,(fltK f c k).length=((fltK f c k).map intA).length] ⟨rfl,(by first | rfl | (simp;done) | (simp;omega)),trivial⟩<|
 .f (.sl 1 false ((Qbb f c).map intA)) [] (.sl 1 false ((fltK f c k).map intA)) (by
  rw [Zfk (by unfold Qis;omega),← Qb3 (k:=k) (by omega)]
  first | exact sR | exact Sub.loose _ _ _)) a1.1 a1.2 ha1)
theorem Qmc (f:Fsy) (c:Cal) (okf:OkF f) (okc:OkCal c) (hp:Qam f):Qaf prog 26 [.agg (fsyA f),.agg (calA c)] (.sl 1 false ((Qbb f c).map intA)):=by
 have hlu:=Qkh f c;exact Qac func26 (
 .new fun b1=>.new fun b2=>.r 1<|.u 2 [b1,b2]<|
 .call ((Za4 hp ▸ Qub f c okf okc hp))<|
 .r 1<|.r 1<|.u 4 [b2]<|
 .be 14 c.kind 6 (fun p1=>.r 19<|.rowNil 6 6 3 1<|.r 2<|.app 8 (.slice none 0 0) ([]:List (List AV)) ([[aI 0]]) (by simp) (by simp) fun V1=>
 .r 1<|.frz 6 [4,5,6,14,18,19,23,24,28,29,33] [] [V1=V1,([]:List (List AV)).length+([[aI 0]]:List (List AV)).length=(([]:List (List AV))++([[aI 0]])).length] ⟨rfl,(by first | rfl | (simp;done) | (simp;omega)),trivial⟩<|
 .r 1<|let L1:Lp (Nat):=⟨fun a1=>⟨[(5,.sl 1 false ((Qal f c).map intA)),(7,aI (a1:Int)),(6,.sl 1 false ((wiF (Qbr c) (fltK f c a1)).map intA))],[]⟩,fun a1=>(Qal f c).length-a1,fun a1=>a1≤(Qal f c).length⟩
 .lp L1 0 (show 0≤(Qal f c).length from Nat.zero_le _) [(7,aI 0),(6,.sl 1 false (([]:List (List AV))++([[aI 0]])))] [] ⟨sR,sO,(by rw [show wiF (Qbr c) (fltK f c 0)=Qbr c from rfl,show Qbr c=_ from if_pos (by omega)];exact Sub.loose _ _ _),trivial⟩ trivial fun a1 ha1=>
 (fun (k:Nat) (hH1:k≤(Qal f c).length)=>.r 3<|.lm 39 (Qal f c) intA<|.r 1<|.bd 40 ((k:Int)<((Qal f c).length:Int)) (fun p2=>.r 2<|.idxM (Qal f c) intA k (m:=(k:Int)) rfl (by omega) fun x1 hx1=>
 .r 2<|.bd 47 (x1≥1) (fun p3=>.r 3<|.idx k (m:=(k:Int)) (xs:=(Qal f c).map intA) (e:=intA x1) rfl (map_some hx1)<|
 .r 1<|.call (Qc7 (wiF (Qbr c) (fltK f c k)) x1 (by have h1:=Qgg (fltK f c k) (Qbr c);have h2:=Qdo f c k;have h3:=Qh1 c;omega))<|
 .r 1<|.run 3 [rng .i64 ((k:Int)+1)] ⟨Qaj (by omega) (by omega),trivial⟩<|
 .bk L1 k (k+1) (show (k+1)≤(Qal f c).length from (by show _≤_;omega)) (show (Qal f c).length-(k+1)<(Qal f c).length-k from (by omega)) [(7,aI ((k:Int)+1)),(6,.sl 1 false ((Qcq (wiF (Qbr c) (fltK f c k)) x1).map intA))] [] ⟨sR,sO,Sub.of_eq (by rw [Qn4 hx1 (by omega)];rfl),trivial⟩ trivial)
 <| fun p3=>.run 3 [rng .i64 ((k:Int)+1)] ⟨Qaj (by omega) (by omega),trivial⟩<|
 .bk L1 k (k+1) (show (k+1)≤(Qal f c).length from (by show _≤_;omega)) (show (Qal f c).length-(k+1)<(Qal f c).length-k from (by omega)) [(7,aI ((k:Int)+1)),(6,.sl 1 false ((wiF (Qbr c) (fltK f c k)).map intA))] [] ⟨sR,sO,Sub.of_eq (by rw [Qgy hx1 (by omega)];rfl),trivial⟩ trivial)
 <| fun p2=>.r 2<|.f (.sl 1 false ((Qbb f c).map intA)) [] (.sl 1 false ((wiF (Qbr c) (fltK f c k)).map intA)) (by
  rw [← Qhd,← Qb3 (k:=k) (by omega)];exact sR)) a1 ha1)
 <| fun p1=>.u 5 [b2]<|
 .be 19 c.kind 7 (fun p4=>.r 14<|.rowNil 6 6 3 1<|.r 2<|.app 8 (.slice none 0 0) ([]:List (List AV)) ([[aI 0]]) (by simp) (by simp) fun V2=>
 .r 1<|.frz 6 [4,5,6,14,19,23,24,28,29,33] [] [V2=V2,([]:List (List AV)).length+([[aI 0]]:List (List AV)).length=(([]:List (List AV))++([[aI 0]])).length] ⟨rfl,(by first | rfl | (simp;done) | (simp;omega)),trivial⟩<|
 .r 1<|let L1:Lp (Nat):=⟨fun a1=>⟨[(5,.sl 1 false ((Qal f c).map intA)),(7,aI (a1:Int)),(6,.sl 1 false ((wiF (Qbr c) (fltK f c a1)).map intA))],[]⟩,fun a1=>(Qal f c).length-a1,fun a1=>a1≤(Qal f c).length⟩
 .lp L1 0 (show 0≤(Qal f c).length from Nat.zero_le _) [(7,aI 0),(6,.sl 1 false (([]:List (List AV))++([[aI 0]])))] [] ⟨sR,sO,(by rw [show wiF (Qbr c) (fltK f c 0)=Qbr c from rfl,show Qbr c=_ from if_pos (by omega)];exact Sub.loose _ _ _),trivial⟩ trivial fun a1 ha1=>
 (fun (k:Nat) (hH1:k≤(Qal f c).length)=>.r 3<|.lm 39 (Qal f c) intA<|.r 1<|.bd 40 ((k:Int)<((Qal f c).length:Int)) (fun p5=>.r 2<|.idxM (Qal f c) intA k (m:=(k:Int)) rfl (by omega) fun x2 hx2=>
 .r 2<|.bd 47 (x2≥1) (fun p6=>.r 3<|.idx k (m:=(k:Int)) (xs:=(Qal f c).map intA) (e:=intA x2) rfl (map_some hx2)<|
 .r 1<|.call (Qc7 (wiF (Qbr c) (fltK f c k)) x2 (by have h1:=Qgg (fltK f c k) (Qbr c);have h2:=Qdo f c k;have h3:=Qh1 c;omega))<|
 .r 1<|.run 3 [rng .i64 ((k:Int)+1)] ⟨Qaj (by omega) (by omega),trivial⟩<|
 .bk L1 k (k+1) (show (k+1)≤(Qal f c).length from (by show _≤_;omega)) (show (Qal f c).length-(k+1)<(Qal f c).length-k from (by omega)) [(7,aI ((k:Int)+1)),(6,.sl 1 false ((Qcq (wiF (Qbr c) (fltK f c k)) x2).map intA))] [] ⟨sR,sO,Sub.of_eq (by rw [Qn4 hx2 (by omega)];rfl),trivial⟩ trivial)
 <| fun p6=>.run 3 [rng .i64 ((k:Int)+1)] ⟨Qaj (by omega) (by omega),trivial⟩<|
 .bk L1 k (k+1) (show (k+1)≤(Qal f c).length from (by show _≤_;omega)) (show (Qal f c).length-(k+1)<(Qal f c).length-k from (by omega)) [(7,aI ((k:Int)+1)),(6,.sl 1 false ((wiF (Qbr c) (fltK f c k)).map intA))] [] ⟨sR,sO,Sub.of_eq (by rw [Qgy hx2 (by omega)];rfl),trivial⟩ trivial)
 <| fun p5=>.r 2<|.f (.sl 1 false ((Qbb f c).map intA)) [] (.sl 1 false ((wiF (Qbr c) (fltK f c k)).map intA)) (by
  rw [← Qhd,← Qb3 (k:=k) (by omega)];exact sR)) a1 ha1)
 <| fun p4=>.u 5 [b2]<|
 .be 24 c.kind 8 (fun p7=>.r 9<|.rowNil 6 6 3 1<|.r 2<|.app 8 (.slice none 0 0) ([]:List (List AV)) ([[aI 0]]) (by simp) (by simp) fun V3=>
 .r 1<|.frz 6 [4,5,6,14,19,24,28,29,33] [] [V3=V3,([]:List (List AV)).length+([[aI 0]]:List (List AV)).length=(([]:List (List AV))++([[aI 0]])).length] ⟨rfl,(by first | rfl | (simp;done) | (simp;omega)),trivial⟩<|
 .r 1<|let L1:Lp (Nat):=⟨fun a1=>⟨[(5,.sl 1 false ((Qal f c).map intA)),(7,aI (a1:Int)),(6,.sl 1 false ((wiF (Qbr c) (fltK f c a1)).map intA))],[]⟩,fun a1=>(Qal f c).length-a1,fun a1=>a1≤(Qal f c).length⟩
 .lp L1 0 (show 0≤(Qal f c).length from Nat.zero_le _) [(7,aI 0),(6,.sl 1 false (([]:List (List AV))++([[aI 0]])))] [] ⟨sR,sO,(by rw [show wiF (Qbr c) (fltK f c 0)=Qbr c from rfl,show Qbr c=_ from if_pos (by omega)];exact Sub.loose _ _ _),trivial⟩ trivial fun a1 ha1=>
 (fun (k:Nat) (hH1:k≤(Qal f c).length)=>.r 3<|.lm 39 (Qal f c) intA<|.r 1<|.bd 40 ((k:Int)<((Qal f c).length:Int)) (fun p8=>.r 2<|.idxM (Qal f c) intA k (m:=(k:Int)) rfl (by omega) fun x3 hx3=>
 .r 2<|.bd 47 (x3≥1) (fun p9=>.r 3<|.idx k (m:=(k:Int)) (xs:=(Qal f c).map intA) (e:=intA x3) rfl (map_some hx3)<|
 .r 1<|.call (Qc7 (wiF (Qbr c) (fltK f c k)) x3 (by have h1:=Qgg (fltK f c k) (Qbr c);have h2:=Qdo f c k;have h3:=Qh1 c;omega))<|
 .r 1<|.run 3 [rng .i64 ((k:Int)+1)] ⟨Qaj (by omega) (by omega),trivial⟩<|
 .bk L1 k (k+1) (show (k+1)≤(Qal f c).length from (by show _≤_;omega)) (show (Qal f c).length-(k+1)<(Qal f c).length-k from (by omega)) [(7,aI ((k:Int)+1)),(6,.sl 1 false ((Qcq (wiF (Qbr c) (fltK f c k)) x3).map intA))] [] ⟨sR,sO,Sub.of_eq (by rw [Qn4 hx3 (by omega)];rfl),trivial⟩ trivial)
 <| fun p9=>.run 3 [rng .i64 ((k:Int)+1)] ⟨Qaj (by omega) (by omega),trivial⟩<|
 .bk L1 k (k+1) (show (k+1)≤(Qal f c).length from (by show _≤_;omega)) (show (Qal f c).length-(k+1)<(Qal f c).length-k from (by omega)) [(7,aI ((k:Int)+1)),(6,.sl 1 false ((wiF (Qbr c) (fltK f c k)).map intA))] [] ⟨sR,sO,Sub.of_eq (by rw [Qgy hx3 (by omega)];rfl),trivial⟩ trivial)
 <| fun p8=>.r 2<|.f (.sl 1 false ((Qbb f c).map intA)) [] (.sl 1 false ((wiF (Qbr c) (fltK f c k)).map intA)) (by
  rw [← Qhd,← Qb3 (k:=k) (by omega)];exact sR)) a1 ha1)
 <| fun p7=>.u 5 [b2]<|
 .be 29 c.kind 12 (fun p10=>.r 4<|.rowNil 6 6 3 1<|.r 2<|.app 8 (.slice none 0 0) ([]:List (List AV)) ([[aI 0]]) (by simp) (by simp) fun V4=>
 .r 1<|.frz 6 [4,5,6,14,19,24,29,33] [] [V4=V4,([]:List (List AV)).length+([[aI 0]]:List (List AV)).length=(([]:List (List AV))++([[aI 0]])).length] ⟨rfl,(by first | rfl | (simp;done) | (simp;omega)),trivial⟩<|
 .r 1<|let L1:Lp (Nat):=⟨fun a1=>⟨[(5,.sl 1 false ((Qal f c).map intA)),(7,aI (a1:Int)),(6,.sl 1 false ((wiF (Qbr c) (fltK f c a1)).map intA))],[]⟩,fun a1=>(Qal f c).length-a1,fun a1=>a1≤(Qal f c).length⟩
 .lp L1 0 (show 0≤(Qal f c).length from Nat.zero_le _) [(7,aI 0),(6,.sl 1 false (([]:List (List AV))++([[aI 0]])))] [] ⟨sR,sO,(by rw [show wiF (Qbr c) (fltK f c 0)=Qbr c from rfl,show Qbr c=_ from if_pos (by omega)];exact Sub.loose _ _ _),trivial⟩ trivial fun a1 ha1=>
 (fun (k:Nat) (hH1:k≤(Qal f c).length)=>.r 3<|.lm 39 (Qal f c) intA<|.r 1<|.bd 40 ((k:Int)<((Qal f c).length:Int)) (fun p11=>.r 2<|.idxM (Qal f c) intA k (m:=(k:Int)) rfl (by omega) fun x4 hx4=>
 .r 2<|.bd 47 (x4≥1) (fun p12=>.r 3<|.idx k (m:=(k:Int)) (xs:=(Qal f c).map intA) (e:=intA x4) rfl (map_some hx4)<|
 .r 1<|.call (Qc7 (wiF (Qbr c) (fltK f c k)) x4 (by have h1:=Qgg (fltK f c k) (Qbr c);have h2:=Qdo f c k;have h3:=Qh1 c;omega))<|
 .r 1<|.run 3 [rng .i64 ((k:Int)+1)] ⟨Qaj (by omega) (by omega),trivial⟩<|
 .bk L1 k (k+1) (show (k+1)≤(Qal f c).length from (by show _≤_;omega)) (show (Qal f c).length-(k+1)<(Qal f c).length-k from (by omega)) [(7,aI ((k:Int)+1)),(6,.sl 1 false ((Qcq (wiF (Qbr c) (fltK f c k)) x4).map intA))] [] ⟨sR,sO,Sub.of_eq (by rw [Qn4 hx4 (by omega)];rfl),trivial⟩ trivial)
 <| fun p12=>.run 3 [rng .i64 ((k:Int)+1)] ⟨Qaj (by omega) (by omega),trivial⟩<|
 .bk L1 k (k+1) (show (k+1)≤(Qal f c).length from (by show _≤_;omega)) (show (Qal f c).length-(k+1)<(Qal f c).length-k from (by omega)) [(7,aI ((k:Int)+1)),(6,.sl 1 false ((wiF (Qbr c) (fltK f c k)).map intA))] [] ⟨sR,sO,Sub.of_eq (by rw [Qgy hx4 (by omega)];rfl),trivial⟩ trivial)
 <| fun p11=>.r 2<|.f (.sl 1 false ((Qbb f c).map intA)) [] (.sl 1 false ((wiF (Qbr c) (fltK f c k)).map intA)) (by
  rw [← Qhd,← Qb3 (k:=k) (by omega)];exact sR)) a1 ha1)
 <| fun p10=>.u 4 [b2]<|
 .be 33 c.kind 15 (fun p13=>.rowNil 6 6 3 1<|.r 2<|.app 8 (.slice none 0 0) ([]:List (List AV)) ([[aI 0]]) (by simp) (by simp) fun V5=>
 .r 1<|.frz 6 [4,5,6,14,19,24,29,33] [] [V5=V5,([]:List (List AV)).length+([[aI 0]]:List (List AV)).length=(([]:List (List AV))++([[aI 0]])).length] ⟨rfl,(by first | rfl | (simp;done) | (simp;omega)),trivial⟩<|
 .r 1<|let L1:Lp (Nat):=⟨fun a1=>⟨[(5,.sl 1 false ((Qal f c).map intA)),(7,aI (a1:Int)),(6,.sl 1 false ((wiF (Qbr c) (fltK f c a1)).map intA))],[]⟩,fun a1=>(Qal f c).length-a1,fun a1=>a1≤(Qal f c).length⟩
 .lp L1 0 (show 0≤(Qal f c).length from Nat.zero_le _) [(7,aI 0),(6,.sl 1 false (([]:List (List AV))++([[aI 0]])))] [] ⟨sR,sO,(by rw [show wiF (Qbr c) (fltK f c 0)=Qbr c from rfl,show Qbr c=_ from if_pos (by omega)];exact Sub.loose _ _ _),trivial⟩ trivial fun a1 ha1=>
 (fun (k:Nat) (hH1:k≤(Qal f c).length)=>.r 3<|.lm 39 (Qal f c) intA<|.r 1<|.bd 40 ((k:Int)<((Qal f c).length:Int)) (fun p14=>.r 2<|.idxM (Qal f c) intA k (m:=(k:Int)) rfl (by omega) fun x5 hx5=>
 .r 2<|.bd 47 (x5≥1) (fun p15=>.r 3<|.idx k (m:=(k:Int)) (xs:=(Qal f c).map intA) (e:=intA x5) rfl (map_some hx5)<|
 .r 1<|.call (Qc7 (wiF (Qbr c) (fltK f c k)) x5 (by have h1:=Qgg (fltK f c k) (Qbr c);have h2:=Qdo f c k;have h3:=Qh1 c;omega))<|
 .r 1<|.run 3 [rng .i64 ((k:Int)+1)] ⟨Qaj (by omega) (by omega),trivial⟩<|
 .bk L1 k (k+1) (show (k+1)≤(Qal f c).length from (by show _≤_;omega)) (show (Qal f c).length-(k+1)<(Qal f c).length-k from (by omega)) [(7,aI ((k:Int)+1)),(6,.sl 1 false ((Qcq (wiF (Qbr c) (fltK f c k)) x5).map intA))] [] ⟨sR,sO,Sub.of_eq (by rw [Qn4 hx5 (by omega)];rfl),trivial⟩ trivial)
 <| fun p15=>.run 3 [rng .i64 ((k:Int)+1)] ⟨Qaj (by omega) (by omega),trivial⟩<|
 .bk L1 k (k+1) (show (k+1)≤(Qal f c).length from (by show _≤_;omega)) (show (Qal f c).length-(k+1)<(Qal f c).length-k from (by omega)) [(7,aI ((k:Int)+1)),(6,.sl 1 false ((wiF (Qbr c) (fltK f c k)).map intA))] [] ⟨sR,sO,Sub.of_eq (by rw [Qgy hx5 (by omega)];rfl),trivial⟩ trivial)
 <| fun p14=>.r 2<|.f (.sl 1 false ((Qbb f c).map intA)) [] (.sl 1 false ((wiF (Qbr c) (fltK f c k)).map intA)) (by
  rw [← Qhd,← Qb3 (k:=k) (by omega)];exact sR)) a1 ha1)
 <| fun p13=>.r 1<|let L1:Lp (Nat):=⟨fun a1=>⟨[(5,.sl 1 false ((Qal f c).map intA)),(7,aI (a1:Int)),(6,.sl 1 false ((wiF (Qbr c) (fltK f c a1)).map intA))],[]⟩,fun a1=>(Qal f c).length-a1,fun a1=>a1≤(Qal f c).length⟩
 .lp L1 0 (show 0≤(Qal f c).length from Nat.zero_le _) [(7,aI 0),(6,aN)] [] ⟨sR,sO,(by rw [show wiF (Qbr c) (fltK f c 0)=Qbr c from rfl,show Qbr c=_ from if_neg (by omega)];exact Sub.nil _ _),trivial⟩ trivial fun a1 ha1=>
 (fun (k:Nat) (hH1:k≤(Qal f c).length)=>.r 3<|.lm 39 (Qal f c) intA<|.r 1<|.bd 40 ((k:Int)<((Qal f c).length:Int)) (fun p16=>.r 2<|.idxM (Qal f c) intA k (m:=(k:Int)) rfl (by omega) fun x6 hx6=>
 .r 2<|.bd 47 (x6≥1) (fun p17=>.r 3<|.idx k (m:=(k:Int)) (xs:=(Qal f c).map intA) (e:=intA x6) rfl (map_some hx6)<|
 .r 1<|.call (Qc7 (wiF (Qbr c) (fltK f c k)) x6 (by have h1:=Qgg (fltK f c k) (Qbr c);have h2:=Qdo f c k;have h3:=Qh1 c;omega))<|
 .r 1<|.run 3 [rng .i64 ((k:Int)+1)] ⟨Qaj (by omega) (by omega),trivial⟩<|
 .bk L1 k (k+1) (show (k+1)≤(Qal f c).length from (by show _≤_;omega)) (show (Qal f c).length-(k+1)<(Qal f c).length-k from (by omega)) [(7,aI ((k:Int)+1)),(6,.sl 1 false ((Qcq (wiF (Qbr c) (fltK f c k)) x6).map intA))] [] ⟨sR,sO,Sub.of_eq (by rw [Qn4 hx6 (by omega)];rfl),trivial⟩ trivial)
 <| fun p17=>.run 3 [rng .i64 ((k:Int)+1)] ⟨Qaj (by omega) (by omega),trivial⟩<|
 .bk L1 k (k+1) (show (k+1)≤(Qal f c).length from (by show _≤_;omega)) (show (Qal f c).length-(k+1)<(Qal f c).length-k from (by omega)) [(7,aI ((k:Int)+1)),(6,.sl 1 false ((wiF (Qbr c) (fltK f c k)).map intA))] [] ⟨sR,sO,Sub.of_eq (by rw [Qgy hx6 (by omega)];rfl),trivial⟩ trivial)
 <| fun p16=>.r 2<|.f (.sl 1 false ((Qbb f c).map intA)) [] (.sl 1 false ((wiF (Qbr c) (fltK f c k)).map intA)) (by
  rw [← Qhd,← Qb3 (k:=k) (by omega)];exact sR)) a1 ha1)
end Go.Proofs.YtahlldgocpabjaaGreat
