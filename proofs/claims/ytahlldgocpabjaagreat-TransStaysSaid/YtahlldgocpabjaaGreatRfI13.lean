import Derived.Test.YtahlldgocpabjaaGreatRfH13
set_option maxRecDepth 100000
set_option maxHeartbeats 8000000
set_option linter.unusedVariables false
set_option linter.unusedSimpArgs false
namespace Go.Proofs.YtahlldgocpabjaaGreat
open Go Go.RowKit Copyhold
theorem Zid {f:Fsy} {c:Cal} (hk:c.kind=1):doF f c=(f,⟨Qaz f c.ino c.name,(lookN f c.ino c.name).ino,0,0,[],[]⟩):=by
 have hd:Qbw f c=(f,⟨Qaz f c.ino c.name,(lookN f c.ino c.name).ino,0,0,[],[]⟩):=by rw [Qmb hk];rfl
 by_cases he:Qaz f c.ino c.name=0
 ·exact Qbq hd he
 ·rw [Qco hd he,Qji he];rfl
theorem Zhl {f:Fsy} {c:Cal} (hk:c.kind=2) (h:Qar f c.ino=false):doF f c=(f,errR 6):=dono (by rw [Qj8 hk];unfold Qcz;rw [h];rfl) (by decide)
theorem Zdb {f:Fsy} {c:Cal} (hk:c.kind=2) (h:Qar f c.ino=true):doF f c=(f,⟨0,(Qaa f c.ino).kind,(Qaa f c.ino).links,Qcl (Qaa f c.ino),[],[]⟩):=by
 have hd:Qbw f c=(f,⟨0,(Qaa f c.ino).kind,(Qaa f c.ino).links,Qcl (Qaa f c.ino),[],[]⟩):=by rw [Qj8 hk];unfold Qcz;rw [if_pos h]
 exact Qbq hd rfl
theorem lk_do {f:Fsy} {c:Cal} (hk:c.kind=11):doF f c=(Qc1 f c.ino c.name c.to,errR (Qa5 f c.ino c.name c.to)):=by
 have hd:Qbw f c=(Qc1 f c.ino c.name c.to,errR (Qa5 f c.ino c.name c.to)):=by rw [Qhv hk];rfl
 by_cases he:Qa5 f c.ino c.name c.to=0
 ·exact Qbq hd he
 ·rw [Qco hd he,show Qc1 f c.ino c.name c.to=f from if_neg he];rfl
theorem Zic {f:Fsy} {dir:Int} {s:Txt} {to:Int} {t:Txt} (h:¬ Qa8 f dir s to t=0):movF f dir s to t=f:=by
 unfold Qa8 at h
 unfold movF
 split
 ·rename_i h1
  rw [if_pos h1] at h
  split
  ·rfl
  ·first | rfl | rw [if_neg h]
 ·rfl
theorem mv_do {f:Fsy} {c:Cal} (hk:c.kind=12):doF f c=(movF f c.ino c.name c.to c.name2,errR (Qa8 f c.ino c.name c.to c.name2)):=by
 have hd:Qbw f c=(movF f c.ino c.name c.to c.name2,errR (Qa8 f c.ino c.name c.to c.name2)):=by rw [Qhu hk];rfl
 by_cases he:Qa8 f c.ino c.name c.to c.name2=0
 ·exact Qbq hd he
 ·rw [Qco hd he,Zic he];rfl
theorem Zh2 {f:Fsy} {c:Cal} (hk:c.kind=14):doF f c=(f,⟨dirE f c.ino,0,0,0,[],(dirN f c.ino).l.map Ent.name⟩):=by
 have hd:Qbw f c=(f,⟨dirE f c.ino,0,0,0,[],(dirN f c.ino).l.map Ent.name⟩):=by rw [Qht hk];rfl
 by_cases he:dirE f c.ino=0
 ·exact Qbq hd he
 ·rw [Qco hd he,show dirN f c.ino=nod0 from if_neg he];rfl
theorem sfs_do {f:Fsy} {c:Cal} (hk:c.kind=15):doF f c=(f,⟨0,(f.l.length:Int),(txtS f.l:Int),0,[],[]⟩):=by
 have hd:Qbw f c=(f,⟨0,(f.l.length:Int),(txtS f.l:Int),0,[],[]⟩):=by rw [Qhs hk];rfl
 exact Qbq hd rfl
theorem Zh9 {f:Fsy} {c:Cal} (hk:c.kind<1∨c.kind>15):doF f c=(f,errR 1):=dono (by rw [Qpf hk];rfl) (by decide)
theorem Qza (f:Fsy) (c:Cal) (okf:OkF f) (okc:OkCal c) (hp:Qal f) (hx:f.next<9223372036854775807) (T:TreeP f) (hf:midF f) (htx:c.text.length≤500000) (hk:c.kind<1∨c.kind>15):Qaj Tryz.prog 40 [.agg (fsyA f),.agg (calA c)] (.tup [.agg (fsyA (doF f c).1),.agg (repA (doF f c).2)]):=by
 have hl:=hp.1
 have hr:=Qad hp
 have hcn:=okc.name
 have hcn2:=okc.name2
 have hct:=okc.text
 exact Qac (F:=Tryz.f40) 400 (
 .new fun b1=>.new fun b2=>.new fun b3=>.new fun b4=>.run 2 [b2=b2] rt1<|
 .r 2<|.is 20 (show (c.kind==1)=false from (by simp;omega))<|.r 2<|.is 36 (show (c.kind==2)=false from (by simp;omega))<|.r 2<|.is 57 (show (c.kind==3)=false from (by simp;omega))<|.r 2<|.is 57 (show (c.kind==4)=false from (by simp;omega))<|.r 2<|.is 57 (show (c.kind==5)=false from (by simp;omega))<|.r 2<|.is 57 (show (c.kind==13)=false from (by simp;omega))<|.r 2<|.is 67 (show (c.kind==6)=false from (by simp;omega))<|.r 2<|.is 67 (show (c.kind==7)=false from (by simp;omega))<|.r 2<|.is 67 (show (c.kind==8)=false from (by simp;omega))<|.r 2<|.is 76 (show (c.kind==9)=false from (by simp;omega))<|.r 2<|.is 76 (show (c.kind==10)=false from (by simp;omega))<|.r 2<|.is 84 (show (c.kind==11)=false from (by simp;omega))<|.r 2<|.is 100 (show (c.kind==12)=false from (by simp;omega))<|.r 2<|.is 118 (show (c.kind==14)=false from (by simp;omega))<|.r 2<|.is 133 (show (c.kind==15)=false from (by simp;omega))<|.ord [0,1,2,3]<|.run 1 [b1=b1] rt1<|
 .call (Qbi 1)<|
 .run 2 [b3=b3,b4=b4] rt2<|
 .fin (x:=.tup [.agg (fsyA f),.agg [aI ((errR 1).e),aI ((errR 1).a),aI ((errR 1).b),aI ((errR 1).n),aS ((errR 1).text),.sl 1 false ((errR 1).names.map txA)]]) (r:=.tup [.agg (fsyA (doF f c).1),.agg (repA (doF f c).2)]) [b3=b3,b4=b4] rt2 (by
  rw [Zh9 hk]
  exact sR)) Tryz.func40 rfl (by kernel_rfl) (by kernel_rfl)
theorem Qy9 (f:Fsy) (c:Cal) (okf:OkF f) (okc:OkCal c) (hp:Qal f) (hx:f.next<9223372036854775807) (T:TreeP f) (hf:midF f) (htx:c.text.length≤500000) (hk:c.kind=1):Qaj Tryz.prog 40 [.agg (fsyA f),.agg (calA c)] (.tup [.agg (fsyA (doF f c).1),.agg (repA (doF f c).2)]):=by
 have hl:=hp.1
 have hr:=Qad hp
 have hcn:=okc.name
 have hcn2:=okc.name2
 have hct:=okc.text
 exact Qac (F:=Tryz.f40) 400 (
 .new fun b1=>.new fun b2=>.new fun b3=>.new fun b4=>.run 2 [b2=b2] rt1<|
 .r 2<|.is 20 (show (c.kind==1)=true from (by rw [hk];rfl))<|.run 5 [b1=b1,b2=b2,b2=b2] rt3<|
 .call (Qdq f c.ino c.name hp hcn)<|
 .r 3<|.new fun b5=>.run 2 [b5=b5] rt1<|
 let J1:Jn (Unit):=⟨fun j1=>⟨[(2,.ptr 2 b1 0),(4,.ptr 4 b3 0),(5,.ptr 5 b4 0)],[(2,.box b1 28 (fsyA f)),(4,.box b3 28 (fsyA f)),(5,.box b4 45 [aI (Qaz f c.ino c.name),aI ((lookN f c.ino c.name).ino),aI 0,aI 0,aS ([]),aN])]⟩,fun _=>True⟩
 .cut J1 (.pick [0,1,2]<|.run 3 [b1=b1] rt1<|
 .fork<|.alt (.run 1 [b5=b5] rt1<|
 .pick [4,5,6]<|.run 3 [b3=b3,b4=b4] rt2<|
 .join J1 () trivial ⟨[(2,.ptr 2 b1 0),(4,.ptr 4 b3 0),(5,.ptr 5 b4 0)],[(2,.box b1 28 (fsyA f)),(4,.box b3 28 (fsyA f)),(5,.box b4 45 [aI (Qaz f c.ino c.name),aI ((lookN f c.ino c.name).ino),aI 0,aI 0,aS ([]),aN])]⟩ sr3 ⟨⟨_,rfl,SubB.refl _⟩,⟨_,rfl,SubB.refl _⟩,⟨_,rfl,SubB.refl _⟩,trivial⟩)
 <| .run 1 [b3=b3] rt1<|
 .pick [3,4,6]<|.run 3 [b5=b5,b4=b4] rt2<|
 .join J1 () trivial ⟨[(2,.ptr 2 b1 0),(4,.ptr 4 b3 0),(5,.ptr 5 b4 0)],[(2,.box b1 28 (fsyA f)),(4,.box b3 28 (fsyA f)),(5,.box b4 45 [aI (Qaz f c.ino c.name),aI ((lookN f c.ino c.name).ino),aI 0,aI 0,aS ([]),aN])]⟩ sr3 ⟨⟨_,rfl,SubB.refl _⟩,⟨_,rfl,SubB.refl _⟩,⟨_,rfl,SubB.refl _⟩,trivial⟩)
 <| fun _ _=>.fin (x:=.tup [.agg (fsyA f),.agg [aI (Qaz f c.ino c.name),aI ((lookN f c.ino c.name).ino),aI 0,aI 0,aS ([]),aN]]) (r:=.tup [.agg (fsyA (doF f c).1),.agg (repA (doF f c).2)]) [b3=b3,b4=b4] rt2 (by
  rw [Zid hk]
  exact Sub.tups ⟨sR,Qaw _ _ _ _ _,trivial⟩)) Tryz.func40 rfl (by kernel_rfl) (by kernel_rfl)
theorem Qy8 (f:Fsy) (c:Cal) (okf:OkF f) (okc:OkCal c) (hp:Qal f) (hx:f.next<9223372036854775807) (T:TreeP f) (hf:midF f) (htx:c.text.length≤500000) (hk:c.kind=2):Qaj Tryz.prog 40 [.agg (fsyA f),.agg (calA c)] (.tup [.agg (fsyA (doF f c).1),.agg (repA (doF f c).2)]):=by
 have hl:=hp.1
 have hr:=Qad hp
 have hcn:=okc.name
 have hcn2:=okc.name2
 have hct:=okc.text
 exact Qac (F:=Tryz.f40) 400 (
 .new fun b1=>.new fun b2=>.new fun b3=>.new fun b4=>.run 2 [b2=b2] rt1<|
 .r 2<|.is 20 (show (c.kind==1)=false from (by rw [hk];rfl))<|.r 2<|.is 36 (show (c.kind==2)=true from (by rw [hk];rfl))<|.run 3 [b1=b1,b2=b2] rt2<|
 .call (Qbd f c.ino (by omega))<|
 .r 3<|.new fun b5=>.run 2 [b5=b5] rt1<|
 .r 2<|.br 46 (!(Qar f c.ino)) (fun q1=>have q1:=notT q1;have p1:=booF q1;.ord [0,1,2,3]<|.run 1 [b1=b1] rt1<|
 .call (Qbi 6)<|
 .run 2 [b3=b3,b4=b4] rt2<|
 .fin (x:=.tup [.agg (fsyA f),.agg [aI ((errR 6).e),aI ((errR 6).a),aI ((errR 6).b),aI ((errR 6).n),aS ((errR 6).text),.sl 1 false ((errR 6).names.map txA)]]) (r:=.tup [.agg (fsyA (doF f c).1),.agg (repA (doF f c).2)]) [b3=b3,b4=b4] rt2 (by
  rw [Zhl hk q1]
  exact sR))
 <| fun q1=>have q1:=notF q1;have p1:=booT q1;let J1:Jn (Unit):=⟨fun j1=>⟨[(2,.ptr 2 b1 0),(4,.ptr 4 b3 0),(5,.ptr 5 b4 0)],[(2,.box b1 28 (fsyA f)),(4,.box b3 28 (fsyA f)),(5,.box b4 45 [aI 0,aI ((Qaa f c.ino).kind),aI ((Qaa f c.ino).links),aI (Qcl (Qaa f c.ino)),aS ([]),aN])]⟩,fun _=>True⟩
 .cut J1 (.pick [0,1,3,5]<|.run 4 [b1=b1,b5=b5] rt2<|
 .fork<|.alt (.run 1 [b5=b5] rt1<|
 .fork<|.alt (.run 1 [b5=b5] rt1<|
 .pick [6,7,8,9]<|.call (Qfd (Qaa f c.ino))<|
 .run 3 [b3=b3,b4=b4] rt2<|
 .join J1 () trivial ⟨[(2,.ptr 2 b1 0),(4,.ptr 4 b3 0),(5,.ptr 5 b4 0)],[(2,.box b1 28 (fsyA f)),(4,.box b3 28 (fsyA f)),(5,.box b4 45 [aI 0,aI ((Qaa f c.ino).kind),aI ((Qaa f c.ino).links),aI (Qcl (Qaa f c.ino)),aS ([]),aN])]⟩ sr3 ⟨⟨_,rfl,SubB.refl _⟩,⟨_,rfl,SubB.refl _⟩,⟨_,rfl,SubB.refl _⟩,trivial⟩)
 <| .call (Qfd (Qaa f c.ino))<|
 .fork<|.alt (.run 1 [b5=b5] rt1<|
 .pick [7,8,9]<|.run 3 [b3=b3,b4=b4] rt2<|
 .join J1 () trivial ⟨[(2,.ptr 2 b1 0),(4,.ptr 4 b3 0),(5,.ptr 5 b4 0)],[(2,.box b1 28 (fsyA f)),(4,.box b3 28 (fsyA f)),(5,.box b4 45 [aI 0,aI ((Qaa f c.ino).kind),aI ((Qaa f c.ino).links),aI (Qcl (Qaa f c.ino)),aS ([]),aN])]⟩ sr3 ⟨⟨_,rfl,SubB.refl _⟩,⟨_,rfl,SubB.refl _⟩,⟨_,rfl,SubB.refl _⟩,trivial⟩)
 <| .run 1 [b3=b3] rt1<|
 .pick [4,7,9]<|.run 3 [b5=b5,b4=b4] rt2<|
 .join J1 () trivial ⟨[(2,.ptr 2 b1 0),(4,.ptr 4 b3 0),(5,.ptr 5 b4 0)],[(2,.box b1 28 (fsyA f)),(4,.box b3 28 (fsyA f)),(5,.box b4 45 [aI 0,aI ((Qaa f c.ino).kind),aI ((Qaa f c.ino).links),aI (Qcl (Qaa f c.ino)),aS ([]),aN])]⟩ sr3 ⟨⟨_,rfl,SubB.refl _⟩,⟨_,rfl,SubB.refl _⟩,⟨_,rfl,SubB.refl _⟩,trivial⟩)
 <| .alt (.run 1 [b5=b5] rt1<|
 .fork<|.alt (.run 1 [b5=b5] rt1<|
 .pick [6,7,8,9]<|.call (Qfd (Qaa f c.ino))<|
 .run 3 [b3=b3,b4=b4] rt2<|
 .join J1 () trivial ⟨[(2,.ptr 2 b1 0),(4,.ptr 4 b3 0),(5,.ptr 5 b4 0)],[(2,.box b1 28 (fsyA f)),(4,.box b3 28 (fsyA f)),(5,.box b4 45 [aI 0,aI ((Qaa f c.ino).kind),aI ((Qaa f c.ino).links),aI (Qcl (Qaa f c.ino)),aS ([]),aN])]⟩ sr3 ⟨⟨_,rfl,SubB.refl _⟩,⟨_,rfl,SubB.refl _⟩,⟨_,rfl,SubB.refl _⟩,trivial⟩)
 <| .call (Qfd (Qaa f c.ino))<|
 .fork<|.alt (.run 1 [b5=b5] rt1<|
 .pick [7,8,9]<|.run 3 [b3=b3,b4=b4] rt2<|
 .join J1 () trivial ⟨[(2,.ptr 2 b1 0),(4,.ptr 4 b3 0),(5,.ptr 5 b4 0)],[(2,.box b1 28 (fsyA f)),(4,.box b3 28 (fsyA f)),(5,.box b4 45 [aI 0,aI ((Qaa f c.ino).kind),aI ((Qaa f c.ino).links),aI (Qcl (Qaa f c.ino)),aS ([]),aN])]⟩ sr3 ⟨⟨_,rfl,SubB.refl _⟩,⟨_,rfl,SubB.refl _⟩,⟨_,rfl,SubB.refl _⟩,trivial⟩)
 <| .run 1 [b3=b3] rt1<|
 .pick [2,7,9]<|.run 3 [b5=b5,b4=b4] rt2<|
 .join J1 () trivial ⟨[(2,.ptr 2 b1 0),(4,.ptr 4 b3 0),(5,.ptr 5 b4 0)],[(2,.box b1 28 (fsyA f)),(4,.box b3 28 (fsyA f)),(5,.box b4 45 [aI 0,aI ((Qaa f c.ino).kind),aI ((Qaa f c.ino).links),aI (Qcl (Qaa f c.ino)),aS ([]),aN])]⟩ sr3 ⟨⟨_,rfl,SubB.refl _⟩,⟨_,rfl,SubB.refl _⟩,⟨_,rfl,SubB.refl _⟩,trivial⟩)
 <| .call (Qfd (Qaa f c.ino))<|
 .fork<|.alt (.run 1 [b5=b5] rt1<|
 .fork<|.alt (.run 1 [b5=b5] rt1<|
 .pick [7,8,9]<|.run 3 [b3=b3,b4=b4] rt2<|
 .join J1 () trivial ⟨[(2,.ptr 2 b1 0),(4,.ptr 4 b3 0),(5,.ptr 5 b4 0)],[(2,.box b1 28 (fsyA f)),(4,.box b3 28 (fsyA f)),(5,.box b4 45 [aI 0,aI ((Qaa f c.ino).kind),aI ((Qaa f c.ino).links),aI (Qcl (Qaa f c.ino)),aS ([]),aN])]⟩ sr3 ⟨⟨_,rfl,SubB.refl _⟩,⟨_,rfl,SubB.refl _⟩,⟨_,rfl,SubB.refl _⟩,trivial⟩)
 <| .run 1 [b3=b3] rt1<|
 .pick [4,7,9]<|.run 3 [b5=b5,b4=b4] rt2<|
 .join J1 () trivial ⟨[(2,.ptr 2 b1 0),(4,.ptr 4 b3 0),(5,.ptr 5 b4 0)],[(2,.box b1 28 (fsyA f)),(4,.box b3 28 (fsyA f)),(5,.box b4 45 [aI 0,aI ((Qaa f c.ino).kind),aI ((Qaa f c.ino).links),aI (Qcl (Qaa f c.ino)),aS ([]),aN])]⟩ sr3 ⟨⟨_,rfl,SubB.refl _⟩,⟨_,rfl,SubB.refl _⟩,⟨_,rfl,SubB.refl _⟩,trivial⟩)
 <| .alt (.run 1 [b5=b5] rt1<|
 .fork<|.alt (.run 1 [b5=b5] rt1<|
 .pick [7,8,9]<|.run 3 [b3=b3,b4=b4] rt2<|
 .join J1 () trivial ⟨[(2,.ptr 2 b1 0),(4,.ptr 4 b3 0),(5,.ptr 5 b4 0)],[(2,.box b1 28 (fsyA f)),(4,.box b3 28 (fsyA f)),(5,.box b4 45 [aI 0,aI ((Qaa f c.ino).kind),aI ((Qaa f c.ino).links),aI (Qcl (Qaa f c.ino)),aS ([]),aN])]⟩ sr3 ⟨⟨_,rfl,SubB.refl _⟩,⟨_,rfl,SubB.refl _⟩,⟨_,rfl,SubB.refl _⟩,trivial⟩)
 <| .run 1 [b3=b3] rt1<|
 .pick [2,7,9]<|.run 3 [b5=b5,b4=b4] rt2<|
 .join J1 () trivial ⟨[(2,.ptr 2 b1 0),(4,.ptr 4 b3 0),(5,.ptr 5 b4 0)],[(2,.box b1 28 (fsyA f)),(4,.box b3 28 (fsyA f)),(5,.box b4 45 [aI 0,aI ((Qaa f c.ino).kind),aI ((Qaa f c.ino).links),aI (Qcl (Qaa f c.ino)),aS ([]),aN])]⟩ sr3 ⟨⟨_,rfl,SubB.refl _⟩,⟨_,rfl,SubB.refl _⟩,⟨_,rfl,SubB.refl _⟩,trivial⟩)
 <| .run 1 [b3=b3] rt1<|
 .pick [2,4,7,9]<|.run 4 [b5=b5,b5=b5,b4=b4] rt3<|
 .join J1 () trivial ⟨[(2,.ptr 2 b1 0),(4,.ptr 4 b3 0),(5,.ptr 5 b4 0)],[(2,.box b1 28 (fsyA f)),(4,.box b3 28 (fsyA f)),(5,.box b4 45 [aI 0,aI ((Qaa f c.ino).kind),aI ((Qaa f c.ino).links),aI (Qcl (Qaa f c.ino)),aS ([]),aN])]⟩ sr3 ⟨⟨_,rfl,SubB.refl _⟩,⟨_,rfl,SubB.refl _⟩,⟨_,rfl,SubB.refl _⟩,trivial⟩)
 <| fun _ _=>.fin (x:=.tup [.agg (fsyA f),.agg [aI 0,aI ((Qaa f c.ino).kind),aI ((Qaa f c.ino).links),aI (Qcl (Qaa f c.ino)),aS ([]),aN]]) (r:=.tup [.agg (fsyA (doF f c).1),.agg (repA (doF f c).2)]) [b3=b3,b4=b4] rt2 (by
  rw [Zdb hk q1]
  exact Sub.tups ⟨sR,Qaw _ _ _ _ _,trivial⟩)) Tryz.func40 rfl (by kernel_rfl) (by kernel_rfl)
theorem Qy7 (f:Fsy) (c:Cal) (okf:OkF f) (okc:OkCal c) (hp:Qal f) (hx:f.next<9223372036854775807) (T:TreeP f) (hf:midF f) (htx:c.text.length≤500000) (hk:c.kind=3):Qaj Tryz.prog 40 [.agg (fsyA f),.agg (calA c)] (.tup [.agg (fsyA (doF f c).1),.agg (repA (doF f c).2)]):=by
 have hl:=hp.1
 have hr:=Qad hp
 have hcn:=okc.name
 have hcn2:=okc.name2
 have hct:=okc.text
 exact Qac (F:=Tryz.f40) 400 (
 .new fun b1=>.new fun b2=>.new fun b3=>.new fun b4=>.run 2 [b2=b2] rt1<|
 .r 2<|.is 20 (show (c.kind==1)=false from (by rw [hk];rfl))<|.r 2<|.is 36 (show (c.kind==2)=false from (by rw [hk];rfl))<|.r 2<|.is 57 (show (c.kind==3)=true from (by rw [hk];rfl))<|.run 2 [b1=b1,b2=b2] rt2<|
 .call (Qp6 f c okf okc hp htx hk)<|
 .run 4 [b3=b3,b4=b4] rt2<|
 .fin (x:=.tup [.agg [.sl 5 false ((doF f c).1.l.map nodA),aI ((doF f c).1.next)],.agg [aI ((doF f c).2.e),aI ((doF f c).2.a),aI ((doF f c).2.b),aI ((doF f c).2.n),aS ((doF f c).2.text),.sl 1 false ((doF f c).2.names.map txA)]]) (r:=.tup [.agg (fsyA (doF f c).1),.agg (repA (doF f c).2)]) [b3=b3,b4=b4] rt2 (by exact sR)) Tryz.func40 rfl (by kernel_rfl) (by kernel_rfl)
theorem Qy6 (f:Fsy) (c:Cal) (okf:OkF f) (okc:OkCal c) (hp:Qal f) (hx:f.next<9223372036854775807) (T:TreeP f) (hf:midF f) (htx:c.text.length≤500000) (hk:c.kind=4):Qaj Tryz.prog 40 [.agg (fsyA f),.agg (calA c)] (.tup [.agg (fsyA (doF f c).1),.agg (repA (doF f c).2)]):=by
 have hl:=hp.1
 have hr:=Qad hp
 have hcn:=okc.name
 have hcn2:=okc.name2
 have hct:=okc.text
 exact Qac (F:=Tryz.f40) 400 (
 .new fun b1=>.new fun b2=>.new fun b3=>.new fun b4=>.run 2 [b2=b2] rt1<|
 .r 2<|.is 20 (show (c.kind==1)=false from (by rw [hk];rfl))<|.r 2<|.is 36 (show (c.kind==2)=false from (by rw [hk];rfl))<|.r 2<|.is 57 (show (c.kind==3)=false from (by rw [hk];rfl))<|.r 2<|.is 57 (show (c.kind==4)=true from (by rw [hk];rfl))<|.run 2 [b1=b1,b2=b2] rt2<|
 .call (Qp5 f c okf okc hp htx hk)<|
 .run 4 [b3=b3,b4=b4] rt2<|
 .fin (x:=.tup [.agg [.sl 5 false ((doF f c).1.l.map nodA),aI ((doF f c).1.next)],.agg [aI ((doF f c).2.e),aI ((doF f c).2.a),aI ((doF f c).2.b),aI ((doF f c).2.n),aS ((doF f c).2.text),.sl 1 false ((doF f c).2.names.map txA)]]) (r:=.tup [.agg (fsyA (doF f c).1),.agg (repA (doF f c).2)]) [b3=b3,b4=b4] rt2 (by exact sR)) Tryz.func40 rfl (by kernel_rfl) (by kernel_rfl)
theorem Qy5 (f:Fsy) (c:Cal) (okf:OkF f) (okc:OkCal c) (hp:Qal f) (hx:f.next<9223372036854775807) (T:TreeP f) (hf:midF f) (htx:c.text.length≤500000) (hk:c.kind=5):Qaj Tryz.prog 40 [.agg (fsyA f),.agg (calA c)] (.tup [.agg (fsyA (doF f c).1),.agg (repA (doF f c).2)]):=by
 have hl:=hp.1
 have hr:=Qad hp
 have hcn:=okc.name
 have hcn2:=okc.name2
 have hct:=okc.text
 exact Qac (F:=Tryz.f40) 400 (
 .new fun b1=>.new fun b2=>.new fun b3=>.new fun b4=>.run 2 [b2=b2] rt1<|
 .r 2<|.is 20 (show (c.kind==1)=false from (by rw [hk];rfl))<|.r 2<|.is 36 (show (c.kind==2)=false from (by rw [hk];rfl))<|.r 2<|.is 57 (show (c.kind==3)=false from (by rw [hk];rfl))<|.r 2<|.is 57 (show (c.kind==4)=false from (by rw [hk];rfl))<|.r 2<|.is 57 (show (c.kind==5)=true from (by rw [hk];rfl))<|.run 2 [b1=b1,b2=b2] rt2<|
 .call (Qp4 f c okf okc hp htx hk)<|
 .run 4 [b3=b3,b4=b4] rt2<|
 .fin (x:=.tup [.agg [.sl 5 false ((doF f c).1.l.map nodA),aI ((doF f c).1.next)],.agg [aI ((doF f c).2.e),aI ((doF f c).2.a),aI ((doF f c).2.b),aI ((doF f c).2.n),aS ((doF f c).2.text),.sl 1 false ((doF f c).2.names.map txA)]]) (r:=.tup [.agg (fsyA (doF f c).1),.agg (repA (doF f c).2)]) [b3=b3,b4=b4] rt2 (by exact sR)) Tryz.func40 rfl (by kernel_rfl) (by kernel_rfl)
theorem Qy4 (f:Fsy) (c:Cal) (okf:OkF f) (okc:OkCal c) (hp:Qal f) (hx:f.next<9223372036854775807) (T:TreeP f) (hf:midF f) (htx:c.text.length≤500000) (hk:c.kind=6):Qaj Tryz.prog 40 [.agg (fsyA f),.agg (calA c)] (.tup [.agg (fsyA (doF f c).1),.agg (repA (doF f c).2)]):=by
 have hl:=hp.1
 have hr:=Qad hp
 have hcn:=okc.name
 have hcn2:=okc.name2
 have hct:=okc.text
 exact Qac (F:=Tryz.f40) 400 (
 .new fun b1=>.new fun b2=>.new fun b3=>.new fun b4=>.run 2 [b2=b2] rt1<|
 .r 2<|.is 20 (show (c.kind==1)=false from (by rw [hk];rfl))<|.r 2<|.is 36 (show (c.kind==2)=false from (by rw [hk];rfl))<|.r 2<|.is 57 (show (c.kind==3)=false from (by rw [hk];rfl))<|.r 2<|.is 57 (show (c.kind==4)=false from (by rw [hk];rfl))<|.r 2<|.is 57 (show (c.kind==5)=false from (by rw [hk];rfl))<|.r 2<|.is 57 (show (c.kind==13)=false from (by rw [hk];rfl))<|.r 2<|.is 67 (show (c.kind==6)=true from (by rw [hk];rfl))<|.run 2 [b1=b1,b2=b2] rt2<|
 .call (Qse f c okf okc hp hx hk)<|
 .run 4 [b3=b3,b4=b4] rt2<|
 .fin (x:=.tup [.agg [.sl 5 false ((doF f c).1.l.map nodA),aI ((doF f c).1.next)],.agg [aI ((doF f c).2.e),aI ((doF f c).2.a),aI ((doF f c).2.b),aI ((doF f c).2.n),aS ((doF f c).2.text),.sl 1 false ((doF f c).2.names.map txA)]]) (r:=.tup [.agg (fsyA (doF f c).1),.agg (repA (doF f c).2)]) [b3=b3,b4=b4] rt2 (by exact sR)) Tryz.func40 rfl (by kernel_rfl) (by kernel_rfl)
theorem Qy3 (f:Fsy) (c:Cal) (okf:OkF f) (okc:OkCal c) (hp:Qal f) (hx:f.next<9223372036854775807) (T:TreeP f) (hf:midF f) (htx:c.text.length≤500000) (hk:c.kind=7):Qaj Tryz.prog 40 [.agg (fsyA f),.agg (calA c)] (.tup [.agg (fsyA (doF f c).1),.agg (repA (doF f c).2)]):=by
 have hl:=hp.1
 have hr:=Qad hp
 have hcn:=okc.name
 have hcn2:=okc.name2
 have hct:=okc.text
 exact Qac (F:=Tryz.f40) 400 (
 .new fun b1=>.new fun b2=>.new fun b3=>.new fun b4=>.run 2 [b2=b2] rt1<|
 .r 2<|.is 20 (show (c.kind==1)=false from (by rw [hk];rfl))<|.r 2<|.is 36 (show (c.kind==2)=false from (by rw [hk];rfl))<|.r 2<|.is 57 (show (c.kind==3)=false from (by rw [hk];rfl))<|.r 2<|.is 57 (show (c.kind==4)=false from (by rw [hk];rfl))<|.r 2<|.is 57 (show (c.kind==5)=false from (by rw [hk];rfl))<|.r 2<|.is 57 (show (c.kind==13)=false from (by rw [hk];rfl))<|.r 2<|.is 67 (show (c.kind==6)=false from (by rw [hk];rfl))<|.r 2<|.is 67 (show (c.kind==7)=true from (by rw [hk];rfl))<|.run 2 [b1=b1,b2=b2] rt2<|
 .call (Qsd f c okf okc hp hx hk)<|
 .run 4 [b3=b3,b4=b4] rt2<|
 .fin (x:=.tup [.agg [.sl 5 false ((doF f c).1.l.map nodA),aI ((doF f c).1.next)],.agg [aI ((doF f c).2.e),aI ((doF f c).2.a),aI ((doF f c).2.b),aI ((doF f c).2.n),aS ((doF f c).2.text),.sl 1 false ((doF f c).2.names.map txA)]]) (r:=.tup [.agg (fsyA (doF f c).1),.agg (repA (doF f c).2)]) [b3=b3,b4=b4] rt2 (by exact sR)) Tryz.func40 rfl (by kernel_rfl) (by kernel_rfl)
theorem Qy2 (f:Fsy) (c:Cal) (okf:OkF f) (okc:OkCal c) (hp:Qal f) (hx:f.next<9223372036854775807) (T:TreeP f) (hf:midF f) (htx:c.text.length≤500000) (hk:c.kind=8):Qaj Tryz.prog 40 [.agg (fsyA f),.agg (calA c)] (.tup [.agg (fsyA (doF f c).1),.agg (repA (doF f c).2)]):=by
 have hl:=hp.1
 have hr:=Qad hp
 have hcn:=okc.name
 have hcn2:=okc.name2
 have hct:=okc.text
 exact Qac (F:=Tryz.f40) 400 (
 .new fun b1=>.new fun b2=>.new fun b3=>.new fun b4=>.run 2 [b2=b2] rt1<|
 .r 2<|.is 20 (show (c.kind==1)=false from (by rw [hk];rfl))<|.r 2<|.is 36 (show (c.kind==2)=false from (by rw [hk];rfl))<|.r 2<|.is 57 (show (c.kind==3)=false from (by rw [hk];rfl))<|.r 2<|.is 57 (show (c.kind==4)=false from (by rw [hk];rfl))<|.r 2<|.is 57 (show (c.kind==5)=false from (by rw [hk];rfl))<|.r 2<|.is 57 (show (c.kind==13)=false from (by rw [hk];rfl))<|.r 2<|.is 67 (show (c.kind==6)=false from (by rw [hk];rfl))<|.r 2<|.is 67 (show (c.kind==7)=false from (by rw [hk];rfl))<|.r 2<|.is 67 (show (c.kind==8)=true from (by rw [hk];rfl))<|.run 2 [b1=b1,b2=b2] rt2<|
 .call (Qsc f c okf okc hp hx hk)<|
 .run 4 [b3=b3,b4=b4] rt2<|
 .fin (x:=.tup [.agg [.sl 5 false ((doF f c).1.l.map nodA),aI ((doF f c).1.next)],.agg [aI ((doF f c).2.e),aI ((doF f c).2.a),aI ((doF f c).2.b),aI ((doF f c).2.n),aS ((doF f c).2.text),.sl 1 false ((doF f c).2.names.map txA)]]) (r:=.tup [.agg (fsyA (doF f c).1),.agg (repA (doF f c).2)]) [b3=b3,b4=b4] rt2 (by exact sR)) Tryz.func40 rfl (by kernel_rfl) (by kernel_rfl)
theorem Qy1 (f:Fsy) (c:Cal) (okf:OkF f) (okc:OkCal c) (hp:Qal f) (hx:f.next<9223372036854775807) (T:TreeP f) (hf:midF f) (htx:c.text.length≤500000) (hk:c.kind=9):Qaj Tryz.prog 40 [.agg (fsyA f),.agg (calA c)] (.tup [.agg (fsyA (doF f c).1),.agg (repA (doF f c).2)]):=by
 have hl:=hp.1
 have hr:=Qad hp
 have hcn:=okc.name
 have hcn2:=okc.name2
 have hct:=okc.text
 exact Qac (F:=Tryz.f40) 400 (
 .new fun b1=>.new fun b2=>.new fun b3=>.new fun b4=>.run 2 [b2=b2] rt1<|
 .r 2<|.is 20 (show (c.kind==1)=false from (by rw [hk];rfl))<|.r 2<|.is 36 (show (c.kind==2)=false from (by rw [hk];rfl))<|.r 2<|.is 57 (show (c.kind==3)=false from (by rw [hk];rfl))<|.r 2<|.is 57 (show (c.kind==4)=false from (by rw [hk];rfl))<|.r 2<|.is 57 (show (c.kind==5)=false from (by rw [hk];rfl))<|.r 2<|.is 57 (show (c.kind==13)=false from (by rw [hk];rfl))<|.r 2<|.is 67 (show (c.kind==6)=false from (by rw [hk];rfl))<|.r 2<|.is 67 (show (c.kind==7)=false from (by rw [hk];rfl))<|.r 2<|.is 67 (show (c.kind==8)=false from (by rw [hk];rfl))<|.r 2<|.is 76 (show (c.kind==9)=true from (by rw [hk];rfl))<|.run 2 [b1=b1,b2=b2] rt2<|
 .call (Qp7 f c okf okc hp hk)<|
 .run 4 [b3=b3,b4=b4] rt2<|
 .fin (x:=.tup [.agg [.sl 5 false ((doF f c).1.l.map nodA),aI ((doF f c).1.next)],.agg [aI ((doF f c).2.e),aI ((doF f c).2.a),aI ((doF f c).2.b),aI ((doF f c).2.n),aS ((doF f c).2.text),.sl 1 false ((doF f c).2.names.map txA)]]) (r:=.tup [.agg (fsyA (doF f c).1),.agg (repA (doF f c).2)]) [b3=b3,b4=b4] rt2 (by exact sR)) Tryz.func40 rfl (by kernel_rfl) (by kernel_rfl)
theorem Qwm (f:Fsy) (c:Cal) (okf:OkF f) (okc:OkCal c) (hp:Qal f) (hx:f.next<9223372036854775807) (T:TreeP f) (hf:midF f) (htx:c.text.length≤500000) (hk:c.kind=10):Qaj Tryz.prog 40 [.agg (fsyA f),.agg (calA c)] (.tup [.agg (fsyA (doF f c).1),.agg (repA (doF f c).2)]):=by
 have hl:=hp.1
 have hr:=Qad hp
 have hcn:=okc.name
 have hcn2:=okc.name2
 have hct:=okc.text
 exact Qac (F:=Tryz.f40) 400 (
 .new fun b1=>.new fun b2=>.new fun b3=>.new fun b4=>.run 2 [b2=b2] rt1<|
 .r 2<|.is 20 (show (c.kind==1)=false from (by rw [hk];rfl))<|.r 2<|.is 36 (show (c.kind==2)=false from (by rw [hk];rfl))<|.r 2<|.is 57 (show (c.kind==3)=false from (by rw [hk];rfl))<|.r 2<|.is 57 (show (c.kind==4)=false from (by rw [hk];rfl))<|.r 2<|.is 57 (show (c.kind==5)=false from (by rw [hk];rfl))<|.r 2<|.is 57 (show (c.kind==13)=false from (by rw [hk];rfl))<|.r 2<|.is 67 (show (c.kind==6)=false from (by rw [hk];rfl))<|.r 2<|.is 67 (show (c.kind==7)=false from (by rw [hk];rfl))<|.r 2<|.is 67 (show (c.kind==8)=false from (by rw [hk];rfl))<|.r 2<|.is 76 (show (c.kind==9)=false from (by rw [hk];rfl))<|.r 2<|.is 76 (show (c.kind==10)=true from (by rw [hk];rfl))<|.run 2 [b1=b1,b2=b2] rt2<|
 .call (Qof f c okf okc hp hk)<|
 .run 4 [b3=b3,b4=b4] rt2<|
 .fin (x:=.tup [.agg [.sl 5 false ((doF f c).1.l.map nodA),aI ((doF f c).1.next)],.agg [aI ((doF f c).2.e),aI ((doF f c).2.a),aI ((doF f c).2.b),aI ((doF f c).2.n),aS ((doF f c).2.text),.sl 1 false ((doF f c).2.names.map txA)]]) (r:=.tup [.agg (fsyA (doF f c).1),.agg (repA (doF f c).2)]) [b3=b3,b4=b4] rt2 (by exact sR)) Tryz.func40 rfl (by kernel_rfl) (by kernel_rfl)
theorem Qwl (f:Fsy) (c:Cal) (okf:OkF f) (okc:OkCal c) (hp:Qal f) (hx:f.next<9223372036854775807) (T:TreeP f) (hf:midF f) (htx:c.text.length≤500000) (hk:c.kind=11):Qaj Tryz.prog 40 [.agg (fsyA f),.agg (calA c)] (.tup [.agg (fsyA (doF f c).1),.agg (repA (doF f c).2)]):=by
 have hl:=hp.1
 have hr:=Qad hp
 have hcn:=okc.name
 have hcn2:=okc.name2
 have hct:=okc.text
 exact Qac (F:=Tryz.f40) 400 (
 .new fun b1=>.new fun b2=>.new fun b3=>.new fun b4=>.run 2 [b2=b2] rt1<|
 .r 2<|.is 20 (show (c.kind==1)=false from (by rw [hk];rfl))<|.r 2<|.is 36 (show (c.kind==2)=false from (by rw [hk];rfl))<|.r 2<|.is 57 (show (c.kind==3)=false from (by rw [hk];rfl))<|.r 2<|.is 57 (show (c.kind==4)=false from (by rw [hk];rfl))<|.r 2<|.is 57 (show (c.kind==5)=false from (by rw [hk];rfl))<|.r 2<|.is 57 (show (c.kind==13)=false from (by rw [hk];rfl))<|.r 2<|.is 67 (show (c.kind==6)=false from (by rw [hk];rfl))<|.r 2<|.is 67 (show (c.kind==7)=false from (by rw [hk];rfl))<|.r 2<|.is 67 (show (c.kind==8)=false from (by rw [hk];rfl))<|.r 2<|.is 76 (show (c.kind==9)=false from (by rw [hk];rfl))<|.r 2<|.is 76 (show (c.kind==10)=false from (by rw [hk];rfl))<|.r 2<|.is 84 (show (c.kind==11)=true from (by rw [hk];rfl))<|.run 7 [b1=b1,b2=b2,b2=b2,b2=b2] rt4<|
 .call (Qwd f c.ino c.name c.to okf hp hcn)<|
 .r 3<|.new fun b5=>.run 2 [b5=b5] rt1<|
 .ord [0,1,2,3,4]<|.run 2 [b5=b5] rt1<|
 .call (Qbi (Qa5 f c.ino c.name c.to))<|
 .run 2 [b3=b3,b4=b4] rt2<|
 .fin (x:=.tup [.agg [.sl 5 false ((Qc1 f c.ino c.name c.to).l.map nodA),aI ((Qc1 f c.ino c.name c.to).next)],.agg [aI ((errR (Qa5 f c.ino c.name c.to)).e),aI ((errR (Qa5 f c.ino c.name c.to)).a),aI ((errR (Qa5 f c.ino c.name c.to)).b),aI ((errR (Qa5 f c.ino c.name c.to)).n),aS ((errR (Qa5 f c.ino c.name c.to)).text),.sl 1 false ((errR (Qa5 f c.ino c.name c.to)).names.map txA)]]) (r:=.tup [.agg (fsyA (doF f c).1),.agg (repA (doF f c).2)]) [b3=b3,b4=b4] rt2 (by
  rw [lk_do hk]
  exact sR)) Tryz.func40 rfl (by kernel_rfl) (by kernel_rfl)
theorem Qwk (f:Fsy) (c:Cal) (okf:OkF f) (okc:OkCal c) (hp:Qal f) (hx:f.next<9223372036854775807) (T:TreeP f) (hf:midF f) (htx:c.text.length≤500000) (hk:c.kind=12):Qaj Tryz.prog 40 [.agg (fsyA f),.agg (calA c)] (.tup [.agg (fsyA (doF f c).1),.agg (repA (doF f c).2)]):=by
 have hl:=hp.1
 have hr:=Qad hp
 have hcn:=okc.name
 have hcn2:=okc.name2
 have hct:=okc.text
 exact Qac (F:=Tryz.f40) 400 (
 .new fun b1=>.new fun b2=>.new fun b3=>.new fun b4=>.run 2 [b2=b2] rt1<|
 .r 2<|.is 20 (show (c.kind==1)=false from (by rw [hk];rfl))<|.r 2<|.is 36 (show (c.kind==2)=false from (by rw [hk];rfl))<|.r 2<|.is 57 (show (c.kind==3)=false from (by rw [hk];rfl))<|.r 2<|.is 57 (show (c.kind==4)=false from (by rw [hk];rfl))<|.r 2<|.is 57 (show (c.kind==5)=false from (by rw [hk];rfl))<|.r 2<|.is 57 (show (c.kind==13)=false from (by rw [hk];rfl))<|.r 2<|.is 67 (show (c.kind==6)=false from (by rw [hk];rfl))<|.r 2<|.is 67 (show (c.kind==7)=false from (by rw [hk];rfl))<|.r 2<|.is 67 (show (c.kind==8)=false from (by rw [hk];rfl))<|.r 2<|.is 76 (show (c.kind==9)=false from (by rw [hk];rfl))<|.r 2<|.is 76 (show (c.kind==10)=false from (by rw [hk];rfl))<|.r 2<|.is 84 (show (c.kind==11)=false from (by rw [hk];rfl))<|.r 2<|.is 100 (show (c.kind==12)=true from (by rw [hk];rfl))<|.run 9 [b1=b1,b2=b2,b2=b2,b2=b2,b2=b2] rt5<|
 .call (Qwc f c.ino c.name c.to c.name2 okf T hp hf hcn hcn2)<|
 .r 3<|.new fun b5=>.run 2 [b5=b5] rt1<|
 .ord [0,1,2,3,4]<|.run 2 [b5=b5] rt1<|
 .call (Qbi (Qa8 f c.ino c.name c.to c.name2))<|
 .run 2 [b3=b3,b4=b4] rt2<|
 .fin (x:=.tup [.agg [.sl 5 false ((movF f c.ino c.name c.to c.name2).l.map nodA),aI ((movF f c.ino c.name c.to c.name2).next)],.agg [aI ((errR (Qa8 f c.ino c.name c.to c.name2)).e),aI ((errR (Qa8 f c.ino c.name c.to c.name2)).a),aI ((errR (Qa8 f c.ino c.name c.to c.name2)).b),aI ((errR (Qa8 f c.ino c.name c.to c.name2)).n),aS ((errR (Qa8 f c.ino c.name c.to c.name2)).text),.sl 1 false ((errR (Qa8 f c.ino c.name c.to c.name2)).names.map txA)]]) (r:=.tup [.agg (fsyA (doF f c).1),.agg (repA (doF f c).2)]) [b3=b3,b4=b4] rt2 (by
  rw [mv_do hk]
  exact sR)) Tryz.func40 rfl (by kernel_rfl) (by kernel_rfl)
theorem Qwj (f:Fsy) (c:Cal) (okf:OkF f) (okc:OkCal c) (hp:Qal f) (hx:f.next<9223372036854775807) (T:TreeP f) (hf:midF f) (htx:c.text.length≤500000) (hk:c.kind=13):Qaj Tryz.prog 40 [.agg (fsyA f),.agg (calA c)] (.tup [.agg (fsyA (doF f c).1),.agg (repA (doF f c).2)]):=by
 have hl:=hp.1
 have hr:=Qad hp
 have hcn:=okc.name
 have hcn2:=okc.name2
 have hct:=okc.text
 exact Qac (F:=Tryz.f40) 400 (
 .new fun b1=>.new fun b2=>.new fun b3=>.new fun b4=>.run 2 [b2=b2] rt1<|
 .r 2<|.is 20 (show (c.kind==1)=false from (by rw [hk];rfl))<|.r 2<|.is 36 (show (c.kind==2)=false from (by rw [hk];rfl))<|.r 2<|.is 57 (show (c.kind==3)=false from (by rw [hk];rfl))<|.r 2<|.is 57 (show (c.kind==4)=false from (by rw [hk];rfl))<|.r 2<|.is 57 (show (c.kind==5)=false from (by rw [hk];rfl))<|.r 2<|.is 57 (show (c.kind==13)=true from (by rw [hk];rfl))<|.run 2 [b1=b1,b2=b2] rt2<|
 .call (Qoe f c okf okc hp htx hk)<|
 .run 4 [b3=b3,b4=b4] rt2<|
 .fin (x:=.tup [.agg [.sl 5 false ((doF f c).1.l.map nodA),aI ((doF f c).1.next)],.agg [aI ((doF f c).2.e),aI ((doF f c).2.a),aI ((doF f c).2.b),aI ((doF f c).2.n),aS ((doF f c).2.text),.sl 1 false ((doF f c).2.names.map txA)]]) (r:=.tup [.agg (fsyA (doF f c).1),.agg (repA (doF f c).2)]) [b3=b3,b4=b4] rt2 (by exact sR)) Tryz.func40 rfl (by kernel_rfl) (by kernel_rfl)
theorem Qwi (f:Fsy) (c:Cal) (okf:OkF f) (okc:OkCal c) (hp:Qal f) (hx:f.next<9223372036854775807) (T:TreeP f) (hf:midF f) (htx:c.text.length≤500000) (hk:c.kind=14):Qaj Tryz.prog 40 [.agg (fsyA f),.agg (calA c)] (.tup [.agg (fsyA (doF f c).1),.agg (repA (doF f c).2)]):=by
 have hl:=hp.1
 have hr:=Qad hp
 have hcn:=okc.name
 have hcn2:=okc.name2
 have hct:=okc.text
 exact Qac (F:=Tryz.f40) 400 (
 .new fun b1=>.new fun b2=>.new fun b3=>.new fun b4=>.run 2 [b2=b2] rt1<|
 .r 2<|.is 20 (show (c.kind==1)=false from (by rw [hk];rfl))<|.r 2<|.is 36 (show (c.kind==2)=false from (by rw [hk];rfl))<|.r 2<|.is 57 (show (c.kind==3)=false from (by rw [hk];rfl))<|.r 2<|.is 57 (show (c.kind==4)=false from (by rw [hk];rfl))<|.r 2<|.is 57 (show (c.kind==5)=false from (by rw [hk];rfl))<|.r 2<|.is 57 (show (c.kind==13)=false from (by rw [hk];rfl))<|.r 2<|.is 67 (show (c.kind==6)=false from (by rw [hk];rfl))<|.r 2<|.is 67 (show (c.kind==7)=false from (by rw [hk];rfl))<|.r 2<|.is 67 (show (c.kind==8)=false from (by rw [hk];rfl))<|.r 2<|.is 76 (show (c.kind==9)=false from (by rw [hk];rfl))<|.r 2<|.is 76 (show (c.kind==10)=false from (by rw [hk];rfl))<|.r 2<|.is 84 (show (c.kind==11)=false from (by rw [hk];rfl))<|.r 2<|.is 100 (show (c.kind==12)=false from (by rw [hk];rfl))<|.r 2<|.is 118 (show (c.kind==14)=true from (by rw [hk];rfl))<|.run 3 [b1=b1,b2=b2] rt2<|
 .call (Qgg f c.ino hp)<|
 .r 3<|.new fun b5=>.run 2 [b5=b5] rt1<|
 .ord [0,1,2,3,4,5,6,7]<|.run 4 [b1=b1,b5=b5] rt2<|
 .call (Qsb (dirN f c.ino).l (by have:=(Qc2 hp c.ino).2;omega))<|
 .run 3 [b3=b3,b4=b4] rt2<|
 .fin (x:=.tup [.agg (fsyA f),.agg [aI (dirE f c.ino),aI 0,aI 0,aI 0,aS ([]),.sl 1 false (((dirN f c.ino).l.map Ent.name).map txA)]]) (r:=.tup [.agg (fsyA (doF f c).1),.agg (repA (doF f c).2)]) [b3=b3,b4=b4] rt2 (by
  rw [Zh2 hk]
  exact sR)) Tryz.func40 rfl (by kernel_rfl) (by kernel_rfl)
theorem Qwh (f:Fsy) (c:Cal) (okf:OkF f) (okc:OkCal c) (hp:Qal f) (hx:f.next<9223372036854775807) (T:TreeP f) (hf:midF f) (htx:c.text.length≤500000) (hk:c.kind=15):Qaj Tryz.prog 40 [.agg (fsyA f),.agg (calA c)] (.tup [.agg (fsyA (doF f c).1),.agg (repA (doF f c).2)]):=by
 have hl:=hp.1
 have hr:=Qad hp
 have hcn:=okc.name
 have hcn2:=okc.name2
 have hct:=okc.text
 exact Qac (F:=Tryz.f40) 400 (
 .new fun b1=>.new fun b2=>.new fun b3=>.new fun b4=>.run 2 [b2=b2] rt1<|
 .r 2<|.is 20 (show (c.kind==1)=false from (by rw [hk];rfl))<|.r 2<|.is 36 (show (c.kind==2)=false from (by rw [hk];rfl))<|.r 2<|.is 57 (show (c.kind==3)=false from (by rw [hk];rfl))<|.r 2<|.is 57 (show (c.kind==4)=false from (by rw [hk];rfl))<|.r 2<|.is 57 (show (c.kind==5)=false from (by rw [hk];rfl))<|.r 2<|.is 57 (show (c.kind==13)=false from (by rw [hk];rfl))<|.r 2<|.is 67 (show (c.kind==6)=false from (by rw [hk];rfl))<|.r 2<|.is 67 (show (c.kind==7)=false from (by rw [hk];rfl))<|.r 2<|.is 67 (show (c.kind==8)=false from (by rw [hk];rfl))<|.r 2<|.is 76 (show (c.kind==9)=false from (by rw [hk];rfl))<|.r 2<|.is 76 (show (c.kind==10)=false from (by rw [hk];rfl))<|.r 2<|.is 84 (show (c.kind==11)=false from (by rw [hk];rfl))<|.r 2<|.is 100 (show (c.kind==12)=false from (by rw [hk];rfl))<|.r 2<|.is 118 (show (c.kind==14)=false from (by rw [hk];rfl))<|.r 2<|.is 133 (show (c.kind==15)=true from (by rw [hk];rfl))<|.run 3 [b1=b1] rt1<|
 .val 137 (show (aI ((f.l.map nodA).length:Int):AV)=aI (f.l.length:Int) from by rw [List.length_map])<|.r 1<|.new fun b5=>.run 1 [b5=b5] rt1<|
 .r 1<|let L1:Lp (Nat):=⟨fun a1=>⟨[(2,.ptr 2 b1 0),(4,.ptr 4 b3 0),(5,.ptr 5 b4 0),(16,.ptr 16 b5 0),(17,aI (a1:Int))],[(2,.box b1 28 (fsyA f)),(4,.box b3 28 [aN,aI 0]),(5,.box b4 45 [aI 0,aI 0,aI 0,aI 0,aS ([]),aN]),(16,.box b5 45 [aI 0,aI (f.l.length:Int),aI (txtS (f.l.take a1):Int),aI 0,aS ([]),aN])]⟩,fun a1=>f.l.length-a1,fun a1=>a1≤f.l.length∧txtS (f.l.take a1)≤4096*a1⟩
 .loop L1 0 (show 0≤f.l.length∧txtS (f.l.take 0)≤4096*0 from ⟨Nat.zero_le _,Nat.le_refl _⟩) ⟨[(2,.ptr 2 b1 0),(4,.ptr 4 b3 0),(5,.ptr 5 b4 0),(16,.ptr 16 b5 0),(17,aI 0)],[(2,.box b1 28 (fsyA f)),(4,.box b3 28 [aN,aI 0]),(5,.box b4 45 [aI 0,aI 0,aI 0,aI 0,aS ([]),aN]),(16,.box b5 45 [aI 0,aI (f.l.length:Int),aI 0,aI 0,aS ([]),aN])]⟩ ⟨sR,sR,sR,sR,Sub.of_eq (congrArg aI (by first | omega | rfl)),trivial⟩ ⟨⟨_,rfl,SubB.refl _⟩,⟨_,rfl,SubB.refl _⟩,⟨_,rfl,SubB.refl _⟩,⟨_,rfl,SubB.of_eq rfl⟩,trivial⟩ fun a1 ha1=>
 (fun (k:Nat) (hH1:k≤f.l.length∧txtS (f.l.take k)≤4096*k)=>.run 4 [b1=b1] rt1<|
 .val 142 (show (aI ((f.l.map nodA).length:Int):AV)=aI (f.l.length:Int) from by rw [List.length_map])<|.r 1<|.br 143 (decide ((k:Int)<(f.l.length:Int))) (fun q1=>have p1:=decT q1;.ord [0,1,2,3,4,5,6,7,8,9,10,11]<|.run 5 [b5=b5,b1=b1] rt2<|
 .idxM f.l nodA k (m:=(k:Int)) rfl (by omega) fun x1 hx1=>
 have tlx1:=Qkh hp (List.mem_of_getElem? hx1);.run 6 [rng .i64 ((txtS (f.l.take k):Int)+((x1.text).length:Int)),b5=b5] ⟨Qas (by omega) (by omega),rfl,trivial⟩<|
 .run 3 [rng .i64 ((k:Int)+1)] ⟨Qas (by omega) (by omega),trivial⟩<|
 .back L1 k (k+1) (show (k+1)≤f.l.length∧txtS (f.l.take (k+1))≤4096*(k+1) from ⟨by omega,by rw [show txtS (f.l.take (k+1))=txtS (f.l.take k)+x1.text.length from by unfold txtS;rw [Qap hx1];simp];have:=Qkh hp (List.mem_of_getElem? hx1);omega⟩) (show f.l.length-(k+1)<f.l.length-k from (by omega)) ⟨[(2,.ptr 2 b1 0),(4,.ptr 4 b3 0),(5,.ptr 5 b4 0),(16,.ptr 16 b5 0),(17,aI ((k:Int)+1))],[(2,.box b1 28 (fsyA f)),(4,.box b3 28 [aN,aI 0]),(5,.box b4 45 [aI 0,aI 0,aI 0,aI 0,aS ([]),aN]),(16,.box b5 45 [aI 0,aI (f.l.length:Int),aI ((txtS (f.l.take k):Int)+((x1.text).length:Int)),aI 0,aS ([]),aN])]⟩ ⟨sR,sR,sR,sR,Sub.of_eq (congrArg aI (by first | omega | rfl)),trivial⟩ ⟨⟨_,rfl,SubB.refl _⟩,⟨_,rfl,SubB.refl _⟩,⟨_,rfl,SubB.refl _⟩,⟨_,rfl,SubB.of_eq (by rw [show txtS (f.l.take (k+1))=txtS (f.l.take k)+x1.text.length from by unfold txtS;rw [Qap hx1];simp];simp)⟩,trivial⟩)
 <| fun q1=>have p1:=decF q1;let J1:Jn (Unit):=⟨fun j1=>⟨[(2,.ptr 2 b1 0),(4,.ptr 4 b3 0),(5,.ptr 5 b4 0)],[(2,.box b1 28 (fsyA f)),(4,.box b3 28 (fsyA f)),(5,.box b4 45 [aI 0,aI (f.l.length:Int),aI (txtS (f.l.take k):Int),aI 0,aS ([]),aN])]⟩,fun _=>True⟩
 .cut J1 (.pick [0]<|.run 1 [b1=b1] rt1<|
 .fork<|.alt (.run 1 [b5=b5] rt1<|
 .pick [2,3]<|.run 2 [b3=b3,b4=b4] rt2<|
 .join J1 () trivial ⟨[(2,.ptr 2 b1 0),(4,.ptr 4 b3 0),(5,.ptr 5 b4 0)],[(2,.box b1 28 (fsyA f)),(4,.box b3 28 (fsyA f)),(5,.box b4 45 [aI 0,aI (f.l.length:Int),aI (txtS (f.l.take k):Int),aI 0,aS ([]),aN])]⟩ sr3 ⟨⟨_,rfl,SubB.refl _⟩,⟨_,rfl,SubB.refl _⟩,⟨_,rfl,SubB.refl _⟩,trivial⟩)
 <| .run 1 [b3=b3] rt1<|
 .pick [1,3]<|.run 2 [b5=b5,b4=b4] rt2<|
 .join J1 () trivial ⟨[(2,.ptr 2 b1 0),(4,.ptr 4 b3 0),(5,.ptr 5 b4 0)],[(2,.box b1 28 (fsyA f)),(4,.box b3 28 (fsyA f)),(5,.box b4 45 [aI 0,aI (f.l.length:Int),aI (txtS (f.l.take k):Int),aI 0,aS ([]),aN])]⟩ sr3 ⟨⟨_,rfl,SubB.refl _⟩,⟨_,rfl,SubB.refl _⟩,⟨_,rfl,SubB.refl _⟩,trivial⟩)
 <| fun _ _=>.fin (x:=.tup [.agg (fsyA f),.agg [aI 0,aI (f.l.length:Int),aI (txtS (f.l.take k):Int),aI 0,aS ([]),aN]]) (r:=.tup [.agg (fsyA (doF f c).1),.agg (repA (doF f c).2)]) [b3=b3,b4=b4] rt2 (by
  rw [sfs_do hk,show k=f.l.length from by omega,Qay (Nat.le_refl _)]
  exact Sub.tups ⟨sR,Qaw _ _ _ _ _,trivial⟩)) a1 ha1) Tryz.func40 rfl (by kernel_rfl) (by kernel_rfl)
theorem Zdv (f:Fsy) (c:Cal) (okf:OkF f) (okc:OkCal c) (hp:Qal f) (hx:f.next<9223372036854775807) (T:TreeP f) (hf:midF f) (htx:c.text.length≤500000):Qaj Tryz.prog 40 [.agg (fsyA f),.agg (calA c)] (.tup [.agg (fsyA (doF f c).1),.agg (repA (doF f c).2)]):=by
 rcases (show c.kind=1∨c.kind=2∨c.kind=3∨c.kind=4∨c.kind=5∨c.kind=6∨c.kind=7∨c.kind=8∨c.kind=9∨c.kind=10∨c.kind=11∨c.kind=12∨c.kind=13∨c.kind=14∨c.kind=15∨(c.kind<1∨c.kind>15) from by omega) with h | h | h | h | h | h | h | h | h | h | h | h | h | h | h | h
 ·exact Qy9 f c okf okc hp hx T hf htx h
 ·exact Qy8 f c okf okc hp hx T hf htx h
 ·exact Qy7 f c okf okc hp hx T hf htx h
 ·exact Qy6 f c okf okc hp hx T hf htx h
 ·exact Qy5 f c okf okc hp hx T hf htx h
 ·exact Qy4 f c okf okc hp hx T hf htx h
 ·exact Qy3 f c okf okc hp hx T hf htx h
 ·exact Qy2 f c okf okc hp hx T hf htx h
 ·exact Qy1 f c okf okc hp hx T hf htx h
 ·exact Qwm f c okf okc hp hx T hf htx h
 ·exact Qwl f c okf okc hp hx T hf htx h
 ·exact Qwk f c okf okc hp hx T hf htx h
 ·exact Qwj f c okf okc hp hx T hf htx h
 ·exact Qwi f c okf okc hp hx T hf htx h
 ·exact Qwh f c okf okc hp hx T hf htx h
 ·exact Qza f c okf okc hp hx T hf htx h
end Go.Proofs.YtahlldgocpabjaaGreat
