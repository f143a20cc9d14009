import Derived.Test.YtahlldgocpabjaaGreatMrgAI
import Derived.Test.YtahlldgocpabjaaGreatMrgJ
set_option maxRecDepth 100000
set_option maxHeartbeats 8000000
set_option linter.unusedVariables false
set_option linter.unusedSimpArgs false
namespace Go.Proofs.YtahlldgocpabjaaGreat
open Go Go.RowKit Copyhold Go.Proofs.Tryz
theorem ver_eq {x y:Ver} (h1:x.stamp=y.stamp) (h2:x.gone=y.gone) (h3:x.n=y.n):x=y:=by cases x;cases y;simp_all
theorem chn_eq {x y:Chn} (h1:x.ino=y.ino) (h2:x.l=y.l):x=y:=by cases x;cases y;simp_all
theorem cnt_eq {x y:Cnt} (h1:x.stamp=y.stamp) (h2:x.next=y.next):x=y:=by cases x;cases y;simp_all
theorem sto_eq {x y:Sto} (h1:x.l=y.l) (h2:x.nexts=y.nexts) (h3:x.stamp=y.stamp):x=y:=by cases x;cases y;simp_all
theorem Qo4 (s t:Sto) (oks:OkS s) (okt:OkS t):Qah prog 34 [.agg (stoA s),.agg (stoA t)] (aB (dP (s=t))):=by
 have hb1:=oks.2.1;have hb2:=oks.2.2.1;have hc1:=okt.2.1;have hc2:=okt.2.2.1;exact Qac func34 (let R:AV:=aB (dP (s=t));
 .new fun b1=>.new fun b2=>.r 1<|.u 6 [b1,b2]<|
 .bn 16 s.stamp t.stamp (fun p1=>.r 17<|.r 1<|.f R [] (aB false) (by exact sF (fun h=>by subst h;omega)))
 <| fun p1=>.u 3 [b1]<|
 .lm 19 s.l chnA<|.u 3 [b2]<|
 .lm 22 t.l chnA<|.r 3<|.bn 25 (s.l.length:Int) (t.l.length:Int) (fun p2=>.r 8<|.r 1<|.f R [] (aB false) (by exact sF (fun h=>by subst h;omega)))
 <| fun p2=>.u 3 [b1]<|
 .lm 28 s.nexts cntA<|.u 3 [b2]<|
 .lm 31 t.nexts cntA<|.r 2<|.bn 33 (s.nexts.length:Int) (t.nexts.length:Int) (fun p3=>.r 1<|.f R [] (aB false) (by exact sF (fun h=>by subst h;omega)))
 <| fun p3=>.r 1<|let L1:Lp (Nat):=⟨fun a1=>⟨[(2,.ptr 2 b1 0),(3,.ptr 3 b2 0),(5,aI (a1:Int))],[(2,.box b1 25 (stoA s)),(3,.box b2 25 (stoA t))]⟩,fun a1=>s.nexts.length-a1,fun a1=>a1≤s.nexts.length∧s.nexts.take a1=t.nexts.take a1⟩
 .lp L1 0 ⟨Nat.zero_le _,rfl⟩ [(5,aI 0)] [] ⟨sR,sR,sO,trivial⟩ bb2 fun a1 ha1=>
 (fun (k:Nat) (hH1:k≤s.nexts.length∧s.nexts.take k=t.nexts.take k)=>.u 4 [b1]<|
 .lm 37 s.nexts cntA<|.r 1<|.bd 38 ((k:Int)<(s.nexts.length:Int)) (fun p4=>.ord [0,1,2,3,4,5,6,7,8,9,10]<|.u 3 [b1]<|
 .idxM s.nexts cntA k (m:=(k:Int)) rfl (by omega) fun x1 hx1=>
 .u 4 [b2]<|
 .idxM t.nexts cntA k (m:=(k:Int)) rfl (by omega) fun x2 hx2=>
 .r 1<|.eqS<|.nbb 51 ((x1.stamp==x2.stamp)&&((x1.next==x2.next)&&(true))) (fun p5=>.r 1<|.f R [] (aB false) (by
  refine sF (fun h=>?_);rw [h,hx2] at hx1;obtain rfl:=Option.some.inj hx1;simp_all))
 <| fun p5=>.run 3 [rng .i64 ((k:Int)+1)] ⟨Qai (by omega) (by omega),trivial⟩<|
 .bk L1 k (k+1) ⟨by omega,by rw [Qam hx1,Qam hx2,hH1.2];first | (congr 2;done) | (congr 2;exact cnt_eq (by simp_all [Qaw,Qab]) (by simp_all [Qaw,Qab]))⟩ (show s.nexts.length-(k+1)<s.nexts.length-k from (by omega)) [(5,aI ((k:Int)+1))] [] ⟨sR,sR,sO,trivial⟩ bb2)
 <| fun p4=>.r 1<|let L2:Lp (Nat):=⟨fun a2=>⟨[(2,.ptr 2 b1 0),(3,.ptr 3 b2 0),(6,aI (a2:Int))],[(2,.box b1 25 (stoA s)),(3,.box b2 25 (stoA t))]⟩,fun a2=>s.l.length-a2,fun a2=>a2≤s.l.length∧s.l.take a2=t.l.take a2⟩
 .lp L2 0 ⟨Nat.zero_le _,rfl⟩ [(6,aI 0)] [] ⟨sR,sR,sO,trivial⟩ bb2 fun a2 ha2=>
 (fun (k:Nat) (hH2:k≤s.l.length∧s.l.take k=t.l.take k)=>.u 4 [b1]<|
 .lm 55 s.l chnA<|.r 1<|.bd 56 ((k:Int)<(s.l.length:Int)) (fun p6=>.u 3 [b1]<|
 .idxM s.l chnA k (m:=(k:Int)) rfl (by omega) fun x3 hx3=>
 have okx3:=oks.2.2.2.1 x3 (List.mem_of_getElem? hx3);have blx3:=okx3.2.1;.r 1<|.new fun b3=>.u 1 [b3]<|
 .u 3 [b2]<|
 .idxM t.l chnA k (m:=(k:Int)) rfl (by omega) fun x4 hx4=>
 have okx4:=okt.2.2.2.1 x4 (List.mem_of_getElem? hx4);have blx4:=okx4.2.1;.r 1<|.new fun b4=>.u 1 [b4]<|
 .u 6 [b3,b4]<|
 .bn 74 x3.ino x4.ino (fun p7=>.r 8<|.r 1<|.f R [] (aB false) (by
  refine sF (fun h=>?_);rw [h,hx4] at hx3;obtain rfl:=Option.some.inj hx3;simp_all))
 <| fun p7=>.u 3 [b3]<|
 .lm 77 x3.l verA<|.u 3 [b4]<|
 .lm 80 x4.l verA<|.r 2<|.bn 82 (x3.l.length:Int) (x4.l.length:Int) (fun p8=>.r 1<|.f R [] (aB false) (by
  refine sF (fun h=>?_);rw [h,hx4] at hx3;obtain rfl:=Option.some.inj hx3;simp_all))
 <| fun p8=>.r 1<|let L3:Lp (Nat):=⟨fun a3=>⟨[(2,.ptr 2 b1 0),(3,.ptr 3 b2 0),(6,aI (k:Int)),(7,.ptr 7 b3 0),(8,.ptr 8 b4 0),(9,aI (a3:Int))],[(2,.box b1 25 (stoA s)),(3,.box b2 25 (stoA t)),(7,.box b3 98 [aI x3.ino,.sl 7 false (x3.l.map verA)]),(8,.box b4 98 [aI x4.ino,.sl 7 false (x4.l.map verA)])]⟩,fun a3=>x3.l.length-a3,fun a3=>a3≤x3.l.length∧x3.l.take a3=x4.l.take a3⟩
 .lp L3 0 ⟨Nat.zero_le _,rfl⟩ [(9,aI 0)] [] ⟨sR,sR,sR,sR,sR,sO,trivial⟩ bb4 fun a3 ha3=>
 (fun (j:Nat) (hH3:j≤x3.l.length∧x3.l.take j=x4.l.take j)=>.u 4 [b3]<|
 .lm 86 x3.l verA<|.r 1<|.bd 87 ((j:Int)<(x3.l.length:Int)) (fun p9=>.ord [0,1,2,3,4,5,6,7,8,9,10,11,12,13]<|.u 3 [b3]<|
 .idxM x3.l verA j (m:=(j:Int)) rfl (by omega) fun x5 hx5=>
 have okx5:=okx3.2.2 x5 (List.mem_of_getElem? hx5);.u 5 [b4]<|
 .idxM x4.l verA j (m:=(j:Int)) rfl (by omega) fun x6 hx6=>
 have okx6:=okx4.2.2 x6 (List.mem_of_getElem? hx6);.r 2<|.call (Qea x5.n x6.n (okx5).2 (okx6).2)<|
 .r 1<|.ord [0,1,2,3,4,5,6,7,8,9,10,11,12,13,14,15,16,17,18,19,20,21,22,23,24,25,26,27,28,29,30,31]<|.r 3<|.nbb 105 (dP (x5.n=x6.n)) (fun p10=>.r 29<|.r 1<|.f R [] (aB false) (by
  refine sF (fun h=>?_);rw [h,hx4] at hx3;obtain rfl:=Option.some.inj hx3;rw [hx6] at hx5;obtain rfl:=Option.some.inj hx5;simp_all [Qaw,Qab]))
 <| fun p10=>.u 3 [b3]<|
 .idx j (m:=(j:Int)) (xs:=x3.l.map verA) (e:=verA x5) rfl (map_some hx5)<|
 .u 5 [b4]<|
 .idx j (m:=(j:Int)) (xs:=x4.l.map verA) (e:=verA x6) rfl (map_some hx6)<|
 .r 5<|.bn 120 x5.stamp x6.stamp (fun p11=>.r 14<|.r 1<|.f R [] (aB false) (by
  refine sF (fun h=>?_);rw [h,hx4] at hx3;obtain rfl:=Option.some.inj hx3;rw [hx6] at hx5;obtain rfl:=Option.some.inj hx5;simp_all [Qaw,Qab]))
 <| fun p11=>.u 3 [b3]<|
 .idx j (m:=(j:Int)) (xs:=x3.l.map verA) (e:=verA x5) rfl (map_some hx5)<|
 .u 5 [b4]<|
 .idx j (m:=(j:Int)) (xs:=x4.l.map verA) (e:=verA x6) rfl (map_some hx6)<|
 .r 4<|.nbe 134 x5.gone x6.gone (fun p12=>.r 1<|.f R [] (aB false) (by
  refine sF (fun h=>?_);rw [h,hx4] at hx3;obtain rfl:=Option.some.inj hx3;rw [hx6] at hx5;obtain rfl:=Option.some.inj hx5;simp_all [Qaw,Qab]))
 <| fun p12=>.run 3 [rng .i64 ((j:Int)+1)] ⟨Qai (by omega) (by omega),trivial⟩<|
 .bk L3 j (j+1) ⟨by omega,by rw [Qam hx5,Qam hx6,hH3.2];first | (congr 2;done) | (congr 2;exact ver_eq (by simp_all [Qaw,Qab]) (by simp_all [Qaw,Qab]) (by simp_all [Qaw,Qab]))⟩ (show x3.l.length-(j+1)<x3.l.length-j from (by omega)) [(9,aI ((j:Int)+1))] [] ⟨sR,sR,sR,sR,sR,sO,trivial⟩ bb4)
 <| fun p9=>.run 3 [rng .i64 ((k:Int)+1)] ⟨Qai (by omega) (by omega),trivial⟩<|
 .bk L2 k (k+1) ⟨by omega,by rw [Qam hx3,Qam hx4,hH2.2];congr 2;exact chn_eq (by omega) (by have h:=hH3.2;rw [Qat (by omega),Qat (by omega)] at h;exact h)⟩ (show s.l.length-(k+1)<s.l.length-k from (by omega)) [(6,aI ((k:Int)+1))] [] ⟨sR,sR,sO,trivial⟩ bb2) a3 ha3)
 <| fun p6=>.r 1<|.f R [] (aB true) (by
  refine sT (sto_eq ?_ ?_ (by omega))
  ·have h:=hH2.2;rw [Qat (by omega),Qat (by omega)] at h;exact h
  ·have h:=hH1.2;rw [Qat (by omega),Qat (by omega)] at h;exact h)) a2 ha2) a1 ha1)
def Zmy (s:Sto):Nat:=(s.l.map (fun c=>c.l.length)).sum
def wV (v:Ver):Nat:=v.n.l.length
def wC (c:Chn):Nat:=c.l.length+(c.l.map wV).sum
def few (s:Sto):Prop:=s.l.length+s.nexts.length+(s.l.map wC).sum≤200∧∀ c∈s.l,∀ v∈c.l,v.n.text.length≤4096
def Qr0 (s:Sto) (k n:Nat):Prop:=k≤s.l.length∧n≤s.l.length+s.nexts.length+(s.l.map wC).sum ∧
 ((n=s.l.length+s.nexts.length+((s.l.take k).map wC).sum∧∀ c∈s.l.take k,∀ v∈c.l,v.n.text.length≤4096)∨200<n)∧n≤100000000000000
def Qur (c:Chn) (n j m:Nat):Prop:=j≤c.l.length∧m≤100000000000000∧m=n+c.l.length+((c.l.take j).map wV).sum∧(∀ v∈c.l.take j,v.n.text.length≤4096)
theorem fewS0 (s:Sto) (h1:s.l.length≤8796093022207) (h2:s.nexts.length≤8796093022207):Qr0 s 0 (s.l.length+s.nexts.length):=
 ⟨Nat.zero_le _,by omega,.inl ⟨by simp,fun c h=>by simp at h⟩,by omega⟩
theorem fewSV0 (c:Chn) (n:Nat) (h1:n≤200) (h2:c.l.length≤8796093022207):Qur c n 0 (n+c.l.length):=⟨Nat.zero_le _,by omega,by simp,fun v h=>by simp at h⟩
theorem fewSV {c:Chn} {v:Ver} {n j m:Nat} (hv:c.l[j]?=some v) (h:Qur c n j m) (h0:j<c.l.length) (h1:m≤200) (h2:v.n.text.length≤4096) (h3:v.n.l.length≤8796093022207):Qur c n (j+1) (m+v.n.l.length):=by
 obtain ⟨_,_,e,ht⟩:=h;refine ⟨h0,by omega,by rw [Ql7 wV hv,e];simp only [wV];omega,fun u hu=>?_⟩;rcases Qhs hv hu with h | rfl
 ·exact ht u h
 ·exact h2
theorem Qyi {s:Sto} {c:Chn} {k n j m:Nat} (hc:s.l[k]?=some c) (h:Qr0 s k n) (h0:k<s.l.length) (hn:n≤200) (h':Qur c n j m) (h3:¬ (j:Int)<c.l.length∨¬ (m:Int)≤200):Qr0 s (k+1) m:=by
 obtain ⟨_,_,h,_⟩:=h;obtain ⟨hj,hm,e,ht⟩:=h';rcases h with ⟨h,htx⟩ | h
 ·have h5:=Ql7 wC hc;have h6:=Qe5 wC s.l (k+1);have h7:=Qe5 wV c.l j;have h8:wC c=c.l.length+(c.l.map wV).sum:=rfl;refine ⟨h0,by omega,?_,hm⟩;by_cases h9:m≤200
  ·have hj':c.l.length≤j:=by omega
   rw [Qat hj'] at e ht;refine .inl ⟨by omega,fun d hd=>?_⟩;rcases Qhs hc hd with h | rfl
   ·exact htx d h
   ·exact ht
  ·exact .inr (by omega)
 ·omega
theorem Zjk {s:Sto} {c:Chn} {v:Ver} {k j:Nat} (hc:s.l[k]?=some c) (hv:c.l[j]?=some v) (h:¬ v.n.text.length≤4096):¬ few s:=fun hf=>h (hf.2 c (List.mem_of_getElem? hc) v (List.mem_of_getElem? hv))
theorem Qyj {s:Sto} {k n:Nat} (h:Qr0 s k n) (h3:¬ (k:Int)<s.l.length∨¬ (n:Int)≤200):decide ((n:Int)≤200)=true↔few s:=by
 obtain ⟨hk,hle,h,_⟩:=h;rw [decide_eq_true_iff];refine ⟨fun hn=>?_,fun hf=>?_⟩
 ·have hk':s.l.length≤k:=by omega
  rcases h with ⟨h,ht⟩ | h
  ·rw [Qat hk'] at h ht;exact ⟨by omega,ht⟩
  ·omega
 ·have:=hf.1;omega
theorem Zfp (s:Sto) (oks:OkS s):Qah prog 47 [.agg (stoA s)] (aB (dP (few s))):=by
 have hs1:=oks.2.1;have hs2:=oks.2.2.1;exact Qac func47 (let R:AV:=aB (dP (few s));
 .new fun b1=>.r 1<|.u 3 [b1]<|
 .lm 8 s.l chnA<|.u 3 [b1]<|
 .lm 11 s.nexts cntA<|.run 2 [rng .i64 ((s.l.length:Int)+(s.nexts.length:Int))] ⟨Qai (by omega) (by omega),trivial⟩<|
 .r 1<|let L1:Lp (Nat × Nat):=⟨fun a1=>⟨[(1,.ptr 1 b1 0),(4,aI (a1.1:Int)),(3,aI (a1.2:Int))],[(1,.box b1 25 (stoA s))]⟩,fun a1=>s.l.length-a1.1,fun a1=>Qr0 s a1.1 a1.2⟩
 .lp L1 (0,s.l.length+s.nexts.length) (show Qr0 s 0 (s.l.length+s.nexts.length) from fewS0 s hs1 hs2) [(4,aI 0),(3,aI ((s.l.length:Int)+(s.nexts.length:Int)))] [] ⟨sR,sO,sO,trivial⟩ bb1 fun a1 ha1=>
 (fun (k:Nat) (n:Nat) (hH1:Qr0 s k n)=>.u 4 [b1]<|
 .lm 16 s.l chnA<|.r 2<|.bd 18 ((k:Int)<(s.l.length:Int)) (fun p1=>.r 3<|.bd 21 ((n:Int)≤200) (fun p2=>.u 4 [b1]<|
 .idxM s.l chnA k (m:=(k:Int)) rfl (by omega) fun x1 hx1=>
 have okx1:=oks.2.2.2.1 x1 (List.mem_of_getElem? hx1);have blx1:=okx1.2.1;.r 3<|.lm 31 x1.l verA<|.run 2 [rng .i64 ((n:Int)+(x1.l.length:Int))] ⟨Qai (by omega) (by omega),trivial⟩<|
 .r 1<|let L2:Lp (Nat × Nat):=⟨fun a2=>⟨[(1,.ptr 1 b1 0),(4,aI (k:Int)),(5,aI (a2.1:Int)),(3,aI (a2.2:Int))],[(1,.box b1 25 (stoA s))]⟩,fun a2=>x1.l.length-a2.1,fun a2=>Qur x1 n a2.1 a2.2⟩
 .lp L2 (0,(n+x1.l.length)) (show Qur x1 n 0 (n+x1.l.length) from (fewSV0 _ _ (by omega) (by omega))) [(5,aI 0),(3,aI ((n:Int)+(x1.l.length:Int)))] [] ⟨sR,sR,sO,sO,trivial⟩ bb1 fun a2 ha2=>
 (fun (j:Nat) (m:Nat) (hH2:Qur x1 n j m)=>.u 4 [b1]<|
 .idx k (m:=(k:Int)) (xs:=s.l.map chnA) (e:=chnA x1) rfl (map_some hx1)<|
 .r 3<|.lm 40 x1.l verA<|.r 2<|.bd 42 ((j:Int)<(x1.l.length:Int)) (fun p3=>.r 3<|.bd 45 ((m:Int)≤200) (fun p4=>.u 4 [b1]<|
 .idx k (m:=(k:Int)) (xs:=s.l.map chnA) (e:=chnA x1) rfl (map_some hx1)<|
 .r 3<|.idxM x1.l verA j (m:=(j:Int)) rfl (by omega) fun x2 hx2=>
 have okx2:=okx1.2.2 x2 (List.mem_of_getElem? hx2);have blx2:=okx2.2.2.2.2.2.1;.r 4<|.lm 60 x2.n.l entA<|.run 2 [rng .i64 ((m:Int)+(x2.n.l.length:Int))] ⟨Qai (by omega) (by omega),trivial⟩<|
 .u 3 [b1]<|
 .idx k (m:=(k:Int)) (xs:=s.l.map chnA) (e:=chnA x1) rfl (map_some hx1)<|
 .r 3<|.idx j (m:=(j:Int)) (xs:=x1.l.map verA) (e:=verA x2) rfl (map_some hx2)<|
 .r 5<|.bd 74 (((x2.n.text).length:Int)>4096) (fun p5=>.r 1<|.f R [] (aB false) (by exact sF (Zjk hx1 hx2 (by omega))))
 <| fun p5=>.run 3 [rng .i64 ((j:Int)+1)] ⟨Qai (by omega) (by omega),trivial⟩<|
 .bk L2 (j,m) ((j+1),(m+x2.n.l.length)) (show Qur x1 n (j+1) (m+x2.n.l.length) from (fewSV hx2 hH2 (by omega) (by omega) (by omega) (by omega))) (show x1.l.length-(j+1)<x1.l.length-j from (by omega)) [(5,aI ((j:Int)+1)),(3,aI ((m:Int)+(x2.n.l.length:Int)))] [] ⟨sR,sR,sO,sO,trivial⟩ bb1)
 <| fun p4=>.run 3 [rng .i64 ((k:Int)+1)] ⟨Qai (by omega) (by omega),trivial⟩<|
 .bk L1 (k,n) ((k+1),m) (show Qr0 s (k+1) m from (Qyi hx1 hH1 (by omega) (by omega) hH2 (by omega))) (show s.l.length-(k+1)<s.l.length-k from (by omega)) [(4,aI ((k:Int)+1))] [] ⟨sR,sO,sR,trivial⟩ bb1)
 <| fun p3=>.r 3<|.run 3 [rng .i64 ((k:Int)+1)] ⟨Qai (by omega) (by omega),trivial⟩<|
 .bk L1 (k,n) ((k+1),m) (show Qr0 s (k+1) m from (Qyi hx1 hH1 (by omega) (by omega) hH2 (by omega))) (show s.l.length-(k+1)<s.l.length-k from (by omega)) [(4,aI ((k:Int)+1))] [] ⟨sR,sO,sR,trivial⟩ bb1) a2.1 a2.2 ha2)
 <| fun p2=>.r 3<|.f R [] (aB (decide ((n:Int)≤200))) (by exact sE (Qyj hH1 (by omega))))
 <| fun p1=>.r 3<|.r 3<|.f R [] (aB (decide ((n:Int)≤200))) (by exact sE (Qyj hH1 (by omega)))) a1.1 a1.2 ha1)
def newS:Sto:=⟨[⟨1,[⟨1,false,Qi3⟩]⟩],[⟨1,2⟩],1⟩
theorem Qk7:OkS newS:=⟨⟨by decide,by decide⟩,by show (1:Nat)≤_;omega,by show (1:Nat)≤_;omega,fun c h=>by
  obtain rfl:=List.mem_singleton.1 h;exact ⟨⟨by decide,by decide⟩,by show (1:Nat)≤_;omega,fun v hv=>by obtain rfl:=List.mem_singleton.1 hv;exact ⟨⟨by decide,by decide⟩,Qxd⟩⟩,
 fun c h=>by obtain rfl:=List.mem_singleton.1 h;exact ⟨⟨by decide,by decide⟩,⟨by decide,by decide⟩⟩⟩
theorem Qku {α:Type} {Q:Nat→α→Prop} {x:α} (h:Q 0 x):AllQ Q [x]:=fun i e he=>by
 match i,he with
 | 0,he=>simp at he;subst he;exact h
 | i+1,he=>simp at he
theorem Zae:Qch newS:=by
 refine ⟨by decide,⟨by decide,Qku ⟨by decide,by decide,fun d h=>by omega⟩⟩,Qku (by show (1:Int)≤2;decide),Qku ⟨⟨by decide,⟨by decide,Qku ⟨by decide,by decide,fun d h=>by omega⟩⟩,Qku ⟨fun h=>(by cases h),fun _=>⟨?_,rfl⟩⟩⟩,fun d h=>by omega⟩⟩;exact ⟨by decide,by decide,by decide,.inl ⟨rfl,rfl,Qce⟩⟩
theorem Qwx {α:Type} {f:α→Int} {st:Int} {l:List α} {x:α} (h:atD f st l=some x):x∈l:=by
 unfold atD at h
 split at h
 ·cases h
 ·exact List.mem_of_getElem? h
theorem Zhc {st:Int} {c:Chn} {n:Nod} (ok:OkC c) (h:Qb8 st c=some n):OkN n:=by
 unfold Qb8 at h
 split at h
 ·rename_i v hv
  split at h
  ·cases h
  ·obtain rfl:=Option.some.inj h;exact (ok.2.2 v (Qwx hv)).2
 ·cases h
theorem Qp2 {s:Sto} (ok:OkS s) (st:Int):OkF (Qck s st):=by
 refine ⟨?_,?_,fun n hn=>?_⟩
 ·show I64 (Qj4 s st);unfold Qj4
  split
  ·rename_i c hc;exact (ok.2.2.2.2 c (Qwx hc)).2
  ·exact ⟨by decide,by decide⟩
 ·have:=List.length_filterMap_le (Qb8 st) s.l;have:=ok.2.1;show (s.l.filterMap (Qb8 st)).length≤_;omega
 ·obtain ⟨c,hc,hv⟩:=List.mem_filterMap.1 hn;exact Zhc (ok.2.2.2.1 c hc) hv
theorem Zhr (s:Sto) (st:Int):(Qby s st).length≤s.l.length+1:=by
 unfold Qby
 split
 ·have:=Qhu s st s.l.length;simp;omega
 ·simp
theorem Qyh {s:Sto} (h:few s):s.l.length≤200∧s.nexts.length≤200∧Zmy s≤200:=by
 have h1:=h.1;have h2:(s.l.map (fun c=>c.l.length)).sum≤(s.l.map wC).sum:=by
  clear h h1
  induction s.l with
  | nil=>simp
  | cons c r ih=>simp only [List.map_cons,List.sum_cons,wC];omega
 unfold Zmy;omega
theorem Zbn {st last:Int} {c:Chn} (hle:st≤last) (h:Qe9 st c=false):Qb8 st c=Qb8 last c:=by
 have h0:∀ v∈c.l,v.stamp≤st:=fun v hv=>by
  have:=List.any_eq_false.1 h v hv;simp at this;exact this
 have key:∀ b,st≤b→cutV Ver.stamp b c.l=c.l.length:=fun b hb=>by
  refine Qgn _ _ _ _ (Nat.le_refl _) (fun j x hj hx=>by have:=Qan hx;omega) ?_;cases hl:c.l with
  | nil=>exact .inl rfl
  | cons v r=>
   right;have hlt:(v :: r).length-1<(v :: r).length:=by simp
   refine ⟨(v :: r)[(v :: r).length-1],List.getElem?_eq_getElem hlt,?_⟩;have:=h0 _ (by rw [hl];exact List.getElem_mem hlt);omega
 unfold Qb8 atD;rw [key st (Int.le_refl _),key last hle]
theorem Qsa {s:Sto} (hp:Qch s) {c:Chn} (hc:c∈s.l) {st:Int} {n:Nod} (h:Qb8 st c=some n):n.ino=c.ino:=by
 obtain ⟨k,hk⟩:=List.getElem?_of_mem hc;have hch:=(hp.2.2.2.at hk).1;unfold Qb8 at h
 split at h
 ·rename_i v hv
  split at h
  ·cases h
  ·rename_i hg;obtain rfl:=Option.some.inj h;obtain ⟨j,hj⟩:=List.getElem?_of_mem (Qwx hv);exact ((hch.2.2 j v hj).2 (by simpa using hg)).2
 ·cases h
theorem Qo1 {s:Sto} (hp:Qch s):Qby s s.stamp=[]:=by
 have h1:∀ c∈s.l,Qe9 s.stamp c=false:=fun c hc=>by
  obtain ⟨k,hk⟩:=List.getElem?_of_mem hc;have hch:=(hp.2.2.2.at hk).1;refine List.any_eq_false.2 fun v hv=>?_;obtain ⟨j,hj⟩:=List.getElem?_of_mem hv;have:=(hch.2.1.2.at hj).2.1;simp;omega
 have h2:Qbl s s.stamp s.l.length=[]:=by
  unfold Qbl;rw [Qat (Nat.le_refl _),List.filter_eq_nil_iff.2 (fun c hc=>by simp [h1 c hc])];rfl
 have h3:Zah s s.stamp=false:=by
  refine List.any_eq_false.2 fun c hc=>?_;obtain ⟨j,hj⟩:=List.getElem?_of_mem hc;have:=(hp.2.1.2.at hj).2.1;simp;omega
 unfold Qby;rw [h2,h3];simp
theorem Ze3 {α:Type} (xs ys:List (List α)) (i:Nat) (z:List α) (hi:i≤xs.length):(((xs.take i++List.replicate (xs.length+ys.length-i) z).take i++ys++(xs.take i++List.replicate (xs.length+ys.length-i) z).drop (i+ys.length)).take (i+ys.length)++(xs.take xs.length).drop i++((xs.take i++List.replicate (xs.length+ys.length-i) z).take i++ys++(xs.take i++List.replicate (xs.length+ys.length-i) z).drop (i+ys.length)).drop (i+ys.length+((xs.take xs.length).drop i).length))=xs.take i++ys++xs.drop i:=by
 have h1:(xs.take i).length=i:=by rw [List.length_take];omega
 have e1:(xs.take i++List.replicate (xs.length+ys.length-i) z).take i=xs.take i:=List.take_left' h1;rw [e1,List.take_length];have h2:(xs.take i++ys).length=i+ys.length:=by rw [List.length_append,h1]
 rw [List.take_left' h2];have h3:((xs.take i++ys++(xs.take i++List.replicate (xs.length+ys.length-i) z).drop (i+ys.length))).length=xs.length+ys.length:=by
  rw [List.length_append,h2,List.length_drop,List.length_append,h1,List.length_replicate];omega
 have h4:(xs.take i++ys++(xs.take i++List.replicate (xs.length+ys.length-i) z).drop (i+ys.length)).drop (i+ys.length+(xs.drop i).length)=[]:=List.drop_eq_nil_of_le (by rw [h3,List.length_drop];omega);rw [h4,List.append_nil]
theorem Ze4 (xs ys:List (List AV)) (i:Nat) (tv:Bool) (hi:i≤xs.length) (h1:1≤ys.length) (hn:xs.length≤100000) (hm:ys.length≤100000) (hx:∀ l∈xs,l.length=7) (hy:∀ l∈ys,l.length=7):Qah prog 161 [.sl 7 true xs,aI (i:Int),.sl 7 false ys] (.sl 7 false (xs.take i++ys++xs.drop i)):=by
 exact Qac func161 (
 .r 1<|.r 2<|.slc 7 true xs (some (i:Int)) none none i xs.length true (.inr rfl) (.inl ⟨rfl,rfl⟩) (.inl ⟨rfl,fun _=>⟨rfl,rfl⟩⟩) (by omega) (by omega)<|
 .r 3<|.r 2<|.is 16 (show (((ys).length:Int)==0)=false from (beq_eq_false_iff_ne.2 (by omega)))<|.r 3<|.r 3<|.be 22 (i:Int) ((xs).length:Int) (fun p1=>.r 2<|.appNew 80 7 (x0:=.sl 7 true xs) xs ys (sR) (by omega) (by intro l hl;rcases List.mem_append.1 hl with h | h;exact hx l h;exact hy l h) (by omega) (by omega) fun V1=>
 .r 1<|.frz 25 [6] [] [V1=V1,(xs++ys).length=(xs++ys).length] ⟨rfl,(by first | rfl | (simp;done) | (simp;omega)),trivial⟩<|
 .f (.sl 7 false (xs.take i++ys++xs.drop i)) [] (.sl 7 false (xs++ys)) (by exact Sub.of_eq (by rw [show i=xs.length from by omega];simp)))
 <| fun p1=>.run 4 [rng .i64 (((xs).length:Int)+((ys).length:Int))] ⟨Qai (by omega) (by omega),trivial⟩<|
 .op (capO prog) (7,xs,some 30) (fun (_:Unit) σ=>σ.put (some 30) (aI (xs.length:Int))) (Qqa) fun _=>
 .r 1<|.is 31 (show (decide ((((xs).length:Int)+((ys).length:Int))>(xs.length:Int)))=true from (decide_eq_true (by omega)))<|.r 2<|.op (slcO prog) (.sl 7 true xs,none,some (i:Int),none,some 34) (fun (_:Unit) σ=>σ.put (some 34) (.pre 7 xs i)) (Qp7 i (by omega) (by omega)) fun _=>
 .run 5 [rng .i64 (((xs).length:Int)+((ys).length:Int)),rng .i64 ((((xs).length:Int)+((ys).length:Int))-(i:Int))] ⟨Qai (by omega) (by omega),Qai (by omega) (by omega),trivial⟩<|
 .op (zrR prog 100) (7,xs,i,(((xs).length:Int)+((ys).length:Int))-(i:Int),96,100,[aI 0,aB false,aI 0,aI 0,aI 0,aS ([]),aN],40) (fun (V:Value) σ=>(σ.put (some 40) (.rw 100 V (i+(xs.length+ys.length-i)))).setB 100 (.row V 100 7 (xs.take i++List.replicate (xs.length+ys.length-i) [aI 0,aB false,aI 0,aI 0,aI 0,aS ([]),aN]))) (Qu3 (xs.length+ys.length-i) 80 (by kernel_rfl) (by omega) (by omega) (by omega) (by omega) (by omega) (by omega)) fun V2=>
 .r 1<|.st (rowR 100) (V2,100,7,xs.take i++List.replicate (xs.length+ys.length-i) [aI 0,aB false,aI 0,aI 0,aI 0,aS ([]),aN]) (fun _ σ=>σ) (Qb5 100 (by simp only [List.length_append,List.length_take,List.length_drop,List.length_replicate];omega)) fun a1r=>
 .r 2<|.op (rsO prog) (100,V2,i+(xs.length+ys.length-i),7,(i:Int),some 43) (fun (_:Unit) σ=>σ.put (some 43) (.rs 100 V2 7 i)) (Qk4 i a1r.2.1 (by omega) (by simp only [List.length_append,List.length_take,List.length_drop,List.length_replicate];omega) a1r.2.2) fun _=>
 .r 1<|.op (cpR prog) (100,V2,7,i,V2,100,7,xs.take i++List.replicate (xs.length+ys.length-i) [aI 0,aB false,aI 0,aI 0,aI 0,aS ([]),aN],7,ys,7,some 45) (fun (_:Unit) σ=>(σ.put (some 45) (aI (ys.length:Int))).setB 100 (.row V2 100 7 ((xs.take i++List.replicate (xs.length+ys.length-i) [aI 0,aB false,aI 0,aI 0,aI 0,aS ([]),aN]).take i++ys++(xs.take i++List.replicate (xs.length+ys.length-i) [aI 0,aB false,aI 0,aI 0,aI 0,aS ([]),aN]).drop (i+ys.length)))) (Qig (by simp only [List.length_append,List.length_take,List.length_drop,List.length_replicate];omega)) fun _=>
 .st (rowR 100) (V2,100,7,(xs.take i++List.replicate (xs.length+ys.length-i) [aI 0,aB false,aI 0,aI 0,aI 0,aS ([]),aN]).take i++ys++(xs.take i++List.replicate (xs.length+ys.length-i) [aI 0,aB false,aI 0,aI 0,aI 0,aS ([]),aN]).drop (i+ys.length)) (fun _ σ=>σ) (Qb5 100 (by simp only [List.length_append,List.length_take,List.length_drop,List.length_replicate];omega)) fun a2r=>
 .ord [0,1,2,3,4,5,6,7,8]<|.run 4 [rng .i64 ((i:Int)+((ys).length:Int))] ⟨Qai (by omega) (by omega),trivial⟩<|
 .op (rsO prog) (100,V2,i+(xs.length+ys.length-i),7,(i:Int)+((ys).length:Int),some 50) (fun (_:Unit) σ=>σ.put (some 50) (.rs 100 V2 7 (i+ys.length))) (Qk4 (i+ys.length) a2r.2.1 (by omega) (by simp only [List.length_append,List.length_take,List.length_drop,List.length_replicate];omega) a2r.2.2) fun _=>
 .r 2<|.slc 7 true xs (some (i:Int)) none none i xs.length true (.inr rfl) (.inl ⟨rfl,rfl⟩) (.inl ⟨rfl,fun _=>⟨rfl,rfl⟩⟩) (by omega) (by omega)<|
 .op (cpR prog) (100,V2,7,(i+ys.length),V2,100,7,(xs.take i++List.replicate (xs.length+ys.length-i) [aI 0,aB false,aI 0,aI 0,aI 0,aS ([]),aN]).take i++ys++(xs.take i++List.replicate (xs.length+ys.length-i) [aI 0,aB false,aI 0,aI 0,aI 0,aS ([]),aN]).drop (i+ys.length),7,(xs.take xs.length).drop i,7,some 54) (fun (_:Unit) σ=>(σ.put (some 54) (aI (((xs.take xs.length).drop i).length:Int))).setB 100 (.row V2 100 7 (((xs.take i++List.replicate (xs.length+ys.length-i) [aI 0,aB false,aI 0,aI 0,aI 0,aS ([]),aN]).take i++ys++(xs.take i++List.replicate (xs.length+ys.length-i) [aI 0,aB false,aI 0,aI 0,aI 0,aS ([]),aN]).drop (i+ys.length)).take (i+ys.length)++((xs.take xs.length).drop i)++((xs.take i++List.replicate (xs.length+ys.length-i) [aI 0,aB false,aI 0,aI 0,aI 0,aS ([]),aN]).take i++ys++(xs.take i++List.replicate (xs.length+ys.length-i) [aI 0,aB false,aI 0,aI 0,aI 0,aS ([]),aN]).drop (i+ys.length)).drop ((i+ys.length)+((xs.take xs.length).drop i).length)))) (Qig (by simp only [List.length_append,List.length_take,List.length_drop,List.length_replicate];omega)) fun _=>
 .r 2<|.frz 100 [6] [] [V2=V2,i+(xs.length+ys.length-i)=(((xs.take i++List.replicate (xs.length+ys.length-i) [aI 0,aB false,aI 0,aI 0,aI 0,aS ([]),aN]).take i++ys++(xs.take i++List.replicate (xs.length+ys.length-i) [aI 0,aB false,aI 0,aI 0,aI 0,aS ([]),aN]).drop (i+ys.length)).take (i+ys.length)++((xs.take xs.length).drop i)++((xs.take i++List.replicate (xs.length+ys.length-i) [aI 0,aB false,aI 0,aI 0,aI 0,aS ([]),aN]).take i++ys++(xs.take i++List.replicate (xs.length+ys.length-i) [aI 0,aB false,aI 0,aI 0,aI 0,aS ([]),aN]).drop (i+ys.length)).drop ((i+ys.length)+((xs.take xs.length).drop i).length)).length] ⟨rfl,(by first | rfl | (simp;done) | (simp;omega)),trivial⟩<|
 .f (.sl 7 false (xs.take i++ys++xs.drop i)) [] (.sl 7 false (((xs.take i++List.replicate (xs.length+ys.length-i) [aI 0,aB false,aI 0,aI 0,aI 0,aS ([]),aN]).take i++ys++(xs.take i++List.replicate (xs.length+ys.length-i) [aI 0,aB false,aI 0,aI 0,aI 0,aS ([]),aN]).drop (i+ys.length)).take (i+ys.length)++((xs.take xs.length).drop i)++((xs.take i++List.replicate (xs.length+ys.length-i) [aI 0,aB false,aI 0,aI 0,aI 0,aS ([]),aN]).take i++ys++(xs.take i++List.replicate (xs.length+ys.length-i) [aI 0,aB false,aI 0,aI 0,aI 0,aS ([]),aN]).drop (i+ys.length)).drop ((i+ys.length)+((xs.take xs.length).drop i).length))) (by exact Sub.of_eq (congrArg (AV.sl 7 false) (Ze3 xs ys i _ (by omega)))))
theorem Ze5 (xs ys:List (List AV)) (i:Nat) (tv:Bool) (hi:i≤xs.length) (h1:1≤ys.length) (hn:xs.length≤100000) (hm:ys.length≤100000) (hx:∀ l∈xs,l.length=2) (hy:∀ l∈ys,l.length=2):Qah prog 162 [.sl 2 true xs,aI (i:Int),.sl 2 false ys] (.sl 2 false (xs.take i++ys++xs.drop i)):=by
 exact Qac func162 (
 .r 1<|.r 2<|.slc 2 true xs (some (i:Int)) none none i xs.length true (.inr rfl) (.inl ⟨rfl,rfl⟩) (.inl ⟨rfl,fun _=>⟨rfl,rfl⟩⟩) (by omega) (by omega)<|
 .r 3<|.r 2<|.is 16 (show (((ys).length:Int)==0)=false from (beq_eq_false_iff_ne.2 (by omega)))<|.r 3<|.r 3<|.be 22 (i:Int) ((xs).length:Int) (fun p1=>.r 2<|.appNew 16 2 (x0:=.sl 2 true xs) xs ys (sR) (by omega) (by intro l hl;rcases List.mem_append.1 hl with h | h;exact hx l h;exact hy l h) (by omega) (by omega) fun V1=>
 .r 1<|.frz 25 [6] [] [V1=V1,(xs++ys).length=(xs++ys).length] ⟨rfl,(by first | rfl | (simp;done) | (simp;omega)),trivial⟩<|
 .f (.sl 2 false (xs.take i++ys++xs.drop i)) [] (.sl 2 false (xs++ys)) (by exact Sub.of_eq (by rw [show i=xs.length from by omega];simp)))
 <| fun p1=>.run 4 [rng .i64 (((xs).length:Int)+((ys).length:Int))] ⟨Qai (by omega) (by omega),trivial⟩<|
 .op (capO prog) (2,xs,some 30) (fun (_:Unit) σ=>σ.put (some 30) (aI (xs.length:Int))) (Qqa) fun _=>
 .r 1<|.is 31 (show (decide ((((xs).length:Int)+((ys).length:Int))>(xs.length:Int)))=true from (decide_eq_true (by omega)))<|.r 2<|.op (slcO prog) (.sl 2 true xs,none,some (i:Int),none,some 34) (fun (_:Unit) σ=>σ.put (some 34) (.pre 2 xs i)) (Qp7 i (by omega) (by omega)) fun _=>
 .run 5 [rng .i64 (((xs).length:Int)+((ys).length:Int)),rng .i64 ((((xs).length:Int)+((ys).length:Int))-(i:Int))] ⟨Qai (by omega) (by omega),Qai (by omega) (by omega),trivial⟩<|
 .op (zrR prog 100) (2,xs,i,(((xs).length:Int)+((ys).length:Int))-(i:Int),23,95,[aI 0,aI 0],40) (fun (V:Value) σ=>(σ.put (some 40) (.rw 100 V (i+(xs.length+ys.length-i)))).setB 100 (.row V 95 2 (xs.take i++List.replicate (xs.length+ys.length-i) [aI 0,aI 0]))) (Qu3 (xs.length+ys.length-i) 16 (by kernel_rfl) (by omega) (by omega) (by omega) (by omega) (by omega) (by omega)) fun V2=>
 .r 1<|.st (rowR 100) (V2,95,2,xs.take i++List.replicate (xs.length+ys.length-i) [aI 0,aI 0]) (fun _ σ=>σ) (Qb5 100 (by simp only [List.length_append,List.length_take,List.length_drop,List.length_replicate];omega)) fun a1r=>
 .r 2<|.op (rsO prog) (100,V2,i+(xs.length+ys.length-i),2,(i:Int),some 43) (fun (_:Unit) σ=>σ.put (some 43) (.rs 100 V2 2 i)) (Qk4 i a1r.2.1 (by omega) (by simp only [List.length_append,List.length_take,List.length_drop,List.length_replicate];omega) a1r.2.2) fun _=>
 .r 1<|.op (cpR prog) (100,V2,2,i,V2,95,2,xs.take i++List.replicate (xs.length+ys.length-i) [aI 0,aI 0],2,ys,2,some 45) (fun (_:Unit) σ=>(σ.put (some 45) (aI (ys.length:Int))).setB 100 (.row V2 95 2 ((xs.take i++List.replicate (xs.length+ys.length-i) [aI 0,aI 0]).take i++ys++(xs.take i++List.replicate (xs.length+ys.length-i) [aI 0,aI 0]).drop (i+ys.length)))) (Qig (by simp only [List.length_append,List.length_take,List.length_drop,List.length_replicate];omega)) fun _=>
 .st (rowR 100) (V2,95,2,(xs.take i++List.replicate (xs.length+ys.length-i) [aI 0,aI 0]).take i++ys++(xs.take i++List.replicate (xs.length+ys.length-i) [aI 0,aI 0]).drop (i+ys.length)) (fun _ σ=>σ) (Qb5 100 (by simp only [List.length_append,List.length_take,List.length_drop,List.length_replicate];omega)) fun a2r=>
 .ord [0,1,2,3,4,5,6,7,8]<|.run 4 [rng .i64 ((i:Int)+((ys).length:Int))] ⟨Qai (by omega) (by omega),trivial⟩<|
 .op (rsO prog) (100,V2,i+(xs.length+ys.length-i),2,(i:Int)+((ys).length:Int),some 50) (fun (_:Unit) σ=>σ.put (some 50) (.rs 100 V2 2 (i+ys.length))) (Qk4 (i+ys.length) a2r.2.1 (by omega) (by simp only [List.length_append,List.length_take,List.length_drop,List.length_replicate];omega) a2r.2.2) fun _=>
 .r 2<|.slc 2 true xs (some (i:Int)) none none i xs.length true (.inr rfl) (.inl ⟨rfl,rfl⟩) (.inl ⟨rfl,fun _=>⟨rfl,rfl⟩⟩) (by omega) (by omega)<|
 .op (cpR prog) (100,V2,2,(i+ys.length),V2,95,2,(xs.take i++List.replicate (xs.length+ys.length-i) [aI 0,aI 0]).take i++ys++(xs.take i++List.replicate (xs.length+ys.length-i) [aI 0,aI 0]).drop (i+ys.length),2,(xs.take xs.length).drop i,2,some 54) (fun (_:Unit) σ=>(σ.put (some 54) (aI (((xs.take xs.length).drop i).length:Int))).setB 100 (.row V2 95 2 (((xs.take i++List.replicate (xs.length+ys.length-i) [aI 0,aI 0]).take i++ys++(xs.take i++List.replicate (xs.length+ys.length-i) [aI 0,aI 0]).drop (i+ys.length)).take (i+ys.length)++((xs.take xs.length).drop i)++((xs.take i++List.replicate (xs.length+ys.length-i) [aI 0,aI 0]).take i++ys++(xs.take i++List.replicate (xs.length+ys.length-i) [aI 0,aI 0]).drop (i+ys.length)).drop ((i+ys.length)+((xs.take xs.length).drop i).length)))) (Qig (by simp only [List.length_append,List.length_take,List.length_drop,List.length_replicate];omega)) fun _=>
 .r 2<|.frz 100 [6] [] [V2=V2,i+(xs.length+ys.length-i)=(((xs.take i++List.replicate (xs.length+ys.length-i) [aI 0,aI 0]).take i++ys++(xs.take i++List.replicate (xs.length+ys.length-i) [aI 0,aI 0]).drop (i+ys.length)).take (i+ys.length)++((xs.take xs.length).drop i)++((xs.take i++List.replicate (xs.length+ys.length-i) [aI 0,aI 0]).take i++ys++(xs.take i++List.replicate (xs.length+ys.length-i) [aI 0,aI 0]).drop (i+ys.length)).drop ((i+ys.length)+((xs.take xs.length).drop i).length)).length] ⟨rfl,(by first | rfl | (simp;done) | (simp;omega)),trivial⟩<|
 .f (.sl 2 false (xs.take i++ys++xs.drop i)) [] (.sl 2 false (((xs.take i++List.replicate (xs.length+ys.length-i) [aI 0,aI 0]).take i++ys++(xs.take i++List.replicate (xs.length+ys.length-i) [aI 0,aI 0]).drop (i+ys.length)).take (i+ys.length)++((xs.take xs.length).drop i)++((xs.take i++List.replicate (xs.length+ys.length-i) [aI 0,aI 0]).take i++ys++(xs.take i++List.replicate (xs.length+ys.length-i) [aI 0,aI 0]).drop (i+ys.length)).drop ((i+ys.length)+((xs.take xs.length).drop i).length))) (by exact Sub.of_eq (congrArg (AV.sl 2 false) (Ze3 xs ys i _ (by omega)))))
theorem Zi7 (xs ys:List (List AV)) (i:Nat) (tv:Bool) (hi:i≤xs.length) (h1:1≤ys.length) (hn:xs.length≤100000) (hm:ys.length≤100000) (hx:∀ l∈xs,l.length=2) (hy:∀ l∈ys,l.length=2):Qej prog 160 [.sl 2 true xs,aI (i:Int),.sl 2 false ys] 98 2 (xs.take i++ys++xs.drop i):=by
 exact Qez func160 (
 .r 1<|.r 2<|.slc 2 true xs (some (i:Int)) none none i xs.length true (.inr rfl) (.inl ⟨rfl,rfl⟩) (.inl ⟨rfl,fun _=>⟨rfl,rfl⟩⟩) (by omega) (by omega)<|
 .r 3<|.r 2<|.is 16 (show (((ys).length:Int)==0)=false from (beq_eq_false_iff_ne.2 (by omega)))<|.r 3<|.r 3<|.be 22 (i:Int) ((xs).length:Int) (fun p1=>.r 2<|.appNew 32 2 (x0:=.sl 2 true xs) xs ys (sR) (by omega) (by intro l hl;rcases List.mem_append.1 hl with h | h;exact hx l h;exact hy l h) (by omega) (by omega) fun V1=>
 .r 1<|.finRow (x:=xs++ys) (r:=xs.take i++ys++xs.drop i) [] trivial 25 98 2 ((xs++ys).length) V1 (by rw [show i=xs.length from by omega];simp))
 <| fun p1=>.run 4 [rng .i64 (((xs).length:Int)+((ys).length:Int))] ⟨Qai (by omega) (by omega),trivial⟩<|
 .op (capO prog) (2,xs,some 30) (fun (_:Unit) σ=>σ.put (some 30) (aI (xs.length:Int))) (Qqa) fun _=>
 .r 1<|.is 31 (show (decide ((((xs).length:Int)+((ys).length:Int))>(xs.length:Int)))=true from (decide_eq_true (by omega)))<|.r 2<|.op (slcO prog) (.sl 2 true xs,none,some (i:Int),none,some 34) (fun (_:Unit) σ=>σ.put (some 34) (.pre 2 xs i)) (Qp7 i (by omega) (by omega)) fun _=>
 .run 5 [rng .i64 (((xs).length:Int)+((ys).length:Int)),rng .i64 ((((xs).length:Int)+((ys).length:Int))-(i:Int))] ⟨Qai (by omega) (by omega),Qai (by omega) (by omega),trivial⟩<|
 .op (zrR prog 100) (2,xs,i,(((xs).length:Int)+((ys).length:Int))-(i:Int),22,98,[aI 0,aN],40) (fun (V:Value) σ=>(σ.put (some 40) (.rw 100 V (i+(xs.length+ys.length-i)))).setB 100 (.row V 98 2 (xs.take i++List.replicate (xs.length+ys.length-i) [aI 0,aN]))) (Qu3 (xs.length+ys.length-i) 32 (by kernel_rfl) (by omega) (by omega) (by omega) (by omega) (by omega) (by omega)) fun V2=>
 .r 1<|.st (rowR 100) (V2,98,2,xs.take i++List.replicate (xs.length+ys.length-i) [aI 0,aN]) (fun _ σ=>σ) (Qb5 100 (by simp only [List.length_append,List.length_take,List.length_drop,List.length_replicate];omega)) fun a1r=>
 .r 2<|.op (rsO prog) (100,V2,i+(xs.length+ys.length-i),2,(i:Int),some 43) (fun (_:Unit) σ=>σ.put (some 43) (.rs 100 V2 2 i)) (Qk4 i a1r.2.1 (by omega) (by simp only [List.length_append,List.length_take,List.length_drop,List.length_replicate];omega) a1r.2.2) fun _=>
 .r 1<|.op (cpR prog) (100,V2,2,i,V2,98,2,xs.take i++List.replicate (xs.length+ys.length-i) [aI 0,aN],2,ys,2,some 45) (fun (_:Unit) σ=>(σ.put (some 45) (aI (ys.length:Int))).setB 100 (.row V2 98 2 ((xs.take i++List.replicate (xs.length+ys.length-i) [aI 0,aN]).take i++ys++(xs.take i++List.replicate (xs.length+ys.length-i) [aI 0,aN]).drop (i+ys.length)))) (Qig (by simp only [List.length_append,List.length_take,List.length_drop,List.length_replicate];omega)) fun _=>
 .st (rowR 100) (V2,98,2,(xs.take i++List.replicate (xs.length+ys.length-i) [aI 0,aN]).take i++ys++(xs.take i++List.replicate (xs.length+ys.length-i) [aI 0,aN]).drop (i+ys.length)) (fun _ σ=>σ) (Qb5 100 (by simp only [List.length_append,List.length_take,List.length_drop,List.length_replicate];omega)) fun a2r=>
 .ord [0,1,2,3,4,5,6,7,8]<|.run 4 [rng .i64 ((i:Int)+((ys).length:Int))] ⟨Qai (by omega) (by omega),trivial⟩<|
 .op (rsO prog) (100,V2,i+(xs.length+ys.length-i),2,(i:Int)+((ys).length:Int),some 50) (fun (_:Unit) σ=>σ.put (some 50) (.rs 100 V2 2 (i+ys.length))) (Qk4 (i+ys.length) a2r.2.1 (by omega) (by simp only [List.length_append,List.length_take,List.length_drop,List.length_replicate];omega) a2r.2.2) fun _=>
 .r 2<|.slc 2 true xs (some (i:Int)) none none i xs.length true (.inr rfl) (.inl ⟨rfl,rfl⟩) (.inl ⟨rfl,fun _=>⟨rfl,rfl⟩⟩) (by omega) (by omega)<|
 .op (cpR prog) (100,V2,2,(i+ys.length),V2,98,2,(xs.take i++List.replicate (xs.length+ys.length-i) [aI 0,aN]).take i++ys++(xs.take i++List.replicate (xs.length+ys.length-i) [aI 0,aN]).drop (i+ys.length),2,(xs.take xs.length).drop i,2,some 54) (fun (_:Unit) σ=>(σ.put (some 54) (aI (((xs.take xs.length).drop i).length:Int))).setB 100 (.row V2 98 2 (((xs.take i++List.replicate (xs.length+ys.length-i) [aI 0,aN]).take i++ys++(xs.take i++List.replicate (xs.length+ys.length-i) [aI 0,aN]).drop (i+ys.length)).take (i+ys.length)++((xs.take xs.length).drop i)++((xs.take i++List.replicate (xs.length+ys.length-i) [aI 0,aN]).take i++ys++(xs.take i++List.replicate (xs.length+ys.length-i) [aI 0,aN]).drop (i+ys.length)).drop ((i+ys.length)+((xs.take xs.length).drop i).length)))) (Qig (by simp only [List.length_append,List.length_take,List.length_drop,List.length_replicate];omega)) fun _=>
 .r 2<|.finRow (x:=((xs.take i++List.replicate (xs.length+ys.length-i) [aI 0,aN]).take i++ys++(xs.take i++List.replicate (xs.length+ys.length-i) [aI 0,aN]).drop (i+ys.length)).take (i+ys.length)++((xs.take xs.length).drop i)++((xs.take i++List.replicate (xs.length+ys.length-i) [aI 0,aN]).take i++ys++(xs.take i++List.replicate (xs.length+ys.length-i) [aI 0,aN]).drop (i+ys.length)).drop ((i+ys.length)+((xs.take xs.length).drop i).length)) (r:=xs.take i++ys++xs.drop i) [] trivial 100 98 2 (i+(xs.length+ys.length-i)) V2 (by exact Ze3 xs ys i _ (by omega)))
end Go.Proofs.YtahlldgocpabjaaGreat
