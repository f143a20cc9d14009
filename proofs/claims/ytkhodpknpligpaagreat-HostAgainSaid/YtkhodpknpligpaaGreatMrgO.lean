import Derived.Test.YtkhodpknpligpaaGreatAl
import Derived.Test.YtkhodpknpligpaaGreatMrgN
import Derived.Test.YtkhodpknpligpaaGreatMrgM
set_option maxRecDepth 100000
set_option maxHeartbeats 8000000
set_option linter.unusedVariables false
set_option linter.unusedSimpArgs false
namespace Go.Proofs.YtkhodpknpligpaaGreat
open Go Go.RowKit Copyhold Go.Proofs.Tryz
open Copyhold.Name (Srt insE delE getE isAt)
def atF (f:Fsy) (i:Int):Option Nod:=f.l.find? (isNo i)
theorem at_B (f:Fsy) (i:Int):Qav f i=(atF f i).isSome:=Qxk f i
theorem at_N (f:Fsy) (i:Int):Qab f i=(atF f i).getD nod0:=rfl
theorem Qei {f:Fsy} {i:Int} {n:Nod} (h:atF f i=some n):n.ino=i:=by simpa [isNo] using List.find?_some h
theorem Qdh {f:Fsy} {i:Int} {n:Nod} (h:atF f i=some n):n∈f.l:=W1n h
theorem Zag {f:Fsy} {n:Nod} (hr:Qbm f.l) (h:n∈f.l):atF f n.ino=some n:=Qna hr h rfl
theorem Qke {f:Fsy} {i:Int} {n:Nod} (h:atF f i=some n):Qav f i=true∧Qab f i=n:=⟨by rw [at_B,h];rfl,by rw [at_N,h];rfl⟩
theorem Qvu {f:Fsy} {i:Int} (h:atF f i=none):Qav f i=false∧Qab f i=nod0:=⟨by rw [at_B,h];rfl,by rw [at_N,h];rfl⟩
theorem Qf7 {f:Fsy} {i:Int} (h:Qav f i=true):atF f i=some (Qab f i):=by
 rw [at_B] at h;cases hc:atF f i with
 | none=>rw [hc] at h;cases h
 | some n=>rw [at_N,hc];rfl
theorem Qg4 {f:Fsy} {i:Int} (h:Qav f i=false):atF f i=none:=by
 rw [at_B] at h;cases hc:atF f i with
 | none=>rfl
 | some n=>rw [hc] at h;cases h
theorem Zj5 {a b:Option Nod} {i:Int} (ha:∀ n,a=some n→n.ino=i) (h1:a.isSome=b.isSome) (h2:a.getD nod0=b.getD nod0):a=b:=by
 cases a<;>cases b<;>simp_all
theorem Qnr {f:Fsy} {n:Nod} {j:Int} (hr:Qbm f.l):atF (putF f n) j=if j=n.ino then some n else atF f j:=by
 by_cases hj:j=n.ino
 ·rw [W1x hj,hj];obtain ⟨h1,h2⟩:=Qqk (n:=n) hr;rw [Qf7 h1,h2]
 ·rw [W1w hj];obtain ⟨h1,h2⟩:=Qn2 (n:=n) hr hj;exact Zj5 (i:=j) (fun n=>Qei) (by rw [← at_B,← at_B,h1]) (by rw [← at_N,← at_N,h2])
theorem Qx5 {f:Fsy} {i j:Int} (hr:Qbm f.l):atF (outF f i) j=if j=i then none else atF f j:=by
 obtain ⟨h1,h2⟩:=Zik (i:=i) (j:=j) hr;by_cases hj:j=i
 ·rw [W1x hj];rw [W1x hj] at h1;exact Qg4 h1
 ·rw [W1w hj];rw [W1w hj] at h1 h2;exact Zj5 (i:=j) (fun n=>Qei) (by rw [← at_B,← at_B,h1]) (by rw [← at_N,← at_N,h2])
theorem Qlc:∀ {a b:List Nod},Qbm a→Qbm b→(∀ x,x∈a↔x∈b)→a=b
 | [],[],_,_,_=>rfl
 | [],y :: s,_,_,h=>absurd ((h y).2 (by simp)) (by simp)
 | x :: r,[],_,_,h=>absurd ((h x).1 (by simp)) (by simp)
 | x :: r,y :: s,ha,hb,h=>by
  obtain ⟨ha1,ha2⟩:=W1k.1 ha;obtain ⟨hb1,hb2⟩:=W1k.1 hb;have e:x=y:=by
   rcases W0y.1 ((h x).1 (by simp)) with e | e
   ·exact e
   ·rcases W0y.1 ((h y).2 (by simp)) with e2 | e2
    ·exact e2.symm
    ·have g1:y.ino<x.ino:=hb1 x e;have g2:x.ino<y.ino:=ha1 y e2;omega
  subst e;rw [Qlc ha2 hb2 fun z=>⟨fun hz=>?_,fun hz=>?_⟩]
  ·rcases W0y.1 ((h z).1 (by simp [hz])) with e | e
   ·subst e;have g:z.ino<z.ino:=ha1 z hz;omega
   ·exact e
  ·rcases W0y.1 ((h z).2 (by simp [hz])) with e | e
   ·subst e;have g:z.ino<z.ino:=hb1 z hz;omega
   ·exact e
theorem Quw {f g:Fsy} (hf:Qbm f.l) (hg:Qbm g.l) (h:∀ i,atF f i=atF g i) (hn:f.next=g.next):f=g:=by
 have e:f.l=g.l:=Qlc hf hg fun x=>⟨fun hx=>by
  have:=Zag hf hx;rw [h] at this;exact Qdh this,fun hx=>by
  have:=Zag hg hx;rw [← h] at this;exact Qdh this⟩
 cases f;cases g;simp_all
theorem Qbf {f:Fsy} (h:Qat f) {i:Int} {n:Nod} (hn:atF f i=some n):nodP n∧n.ino<f.next∧n.ino=i:=by
 have:=(Qbe.1 h).2.2.1 n (Qdh hn);exact ⟨this.1,this.2,Qei hn⟩
theorem Zhd {l:List Nod} {n:Nod} (h:thN l n.ino=true):(putN l n).length=l.length:=by
 have:=Qfg h;unfold putN;rw [W1x h];simp only [W0e,W0b,W0g,W0p];omega
theorem Qua {f:Fsy} {n:Nod} (hr:Qbm f.l) (h:Qav f n.ino=true):(putF f n).l.length=f.l.length:=Zhd (by rw [Zil hr] at h;exact h)
theorem Qlf {f:Fsy} {n:Nod} (h:n.ino<f.next):(putF f n).next=f.next:=by
 show (if n.ino+1>f.next then n.ino+1 else f.next)=f.next;rw [W1w (by omega)]
theorem Qmd {f:Fsy} {n:Nod} (h:n.ino=f.next):(putF f n).next=f.next+1:=by
 show (if n.ino+1>f.next then n.ino+1 else f.next)=_;rw [W1x (by omega),h]
theorem Qrt {f:Fsy} {n:Nod} (h:Qat f) (hn:nodP n) (hb:Qav f n.ino=true):Qat (putF f n):=by
 obtain ⟨h1,h2,h3,h4⟩:=Qbe.1 h;have hnx:f.next≤(putF f n).next∧n.ino+1≤(putF f n).next:=by
  show f.next≤(if n.ino+1>f.next then n.ino+1 else f.next)∧n.ino+1≤(if n.ino+1>f.next then n.ino+1 else f.next)
  split<;>omega
 refine Qbe.2 ⟨by rw [Qua h4 hb];exact h1,by omega,fun x hx=>?_,Qhk h4⟩;rcases Qun hx with rfl | hx
 ·exact ⟨hn,by omega⟩
 ·have:=h3 x hx;exact ⟨this.1,by omega⟩
theorem Zke {a b:List Ent} (h:lI a=lI b):a=b:=by rw [← lI_O a,← lI_O b,h]
theorem Zc9 (l:List Ent):(lI l).length=l.length:=by simp [lI]
noncomputable def delL (l:List Ent) (s:Txt):List Ent:=if isB l s=true then l.take (posI l s)++l.drop (posI l s+1) else l
def Qmt (l:List Ent) (s:Txt):Int:=if isB l s=true then 0 else 6
theorem Zda {l:List Ent} (h:Srt (lI l)) (s:Txt):lI (delL l s)=delE (lI l) s:=by
 unfold delL
 split
 ·rename_i hi;rw [← Name.take_del h hi];simp [lI,posI,W16,W2e]
 ·rename_i hi;exact (Name.del_none (by simpa [isB] using hi)).symm
theorem Qdg {l:List Ent} {s:Txt} {n:Int} (h:Qaj s=0) (hn:1≤n) (hi:isB l s=false) (hl:l.length<256):entE l s n=0:=by
 unfold entE;rw [W1w (by rw [h];decide),W1w (by omega),W1w (by rw [hi];decide),W1w (by omega)]
theorem Qsb {l:List Ent} {s:Txt} {n:Int} (h:Srt (lI l)) (he:entE l s n=0):lI (entL l s n)=insE (lI l) (s,n):=by
 unfold entL;rw [W1x he,← Name.take_ins h];simp [lI,posI,W16,W2e]
theorem Zet {l:List Ent} {s:Txt} {n:Int} (h:Srt (lI l)) (he:entE l s n=0) (hi:isB l s=false):delL (entL l s n) s=l:=by
 have hs:Srt (lI (entL l s n)):=by rw [Qsb h he];exact Name.srt_ins h hi
 apply Zke;rw [Zda hs,Qsb h he,Name.del_ins hi]
theorem Qqf {l:List Ent} {s t:Txt} {n:Int} (h:Srt (lI l)) (he:entE l s n=0) (hi:isB l s=false):getE (lI (entL l s n)) t=if t=s then some n else getE (lI l) t:=by
 rw [Qsb h he,Name.get_ins hi]
theorem get_del {l:List Ent} {s t:Txt} (h:Srt (lI l)):getE (lI (delL l s)) t=if t=s then none else getE (lI l) t:=by
 rw [Zda h,Name.get_del]
theorem Qgp (l:List Ent) (s:Txt):isB l s=(getE (lI l) s).isSome:=Name.get_some
theorem Qfy (l:List Ent) (s:Txt):getI l s=(getE (lI l) s).getD 0:=rfl
theorem Qhh {l:List Ent}:Name.rightE (lI l)=true↔rowP l:=by rw [Qwg,lI_O]
theorem Qqo {l:List Ent} {s:Txt} {n:Int} (h:rowP l) (hc:Qaj s=0) (hn:1≤n) (hi:isB l s=false) (hl:l.length<256):rowP (entL l s n):=by
 rw [← Qhh,Qsb (Qc4 h) (Qdg hc hn hi hl)];exact Name.right_ins (Qhh.2 h) (Qkb.2 (Qcj.1 hc)) hn hi (by rw [Zc9];exact hl)
theorem Zer {l:List Ent} {s:Txt} (h:rowP l):rowP (delL l s):=by
 have h2:=Qhh.2 h;rw [← Qhh,Zda (Qc4 h)];obtain ⟨h3,h4,h5⟩:=(Name.rightE_iff _).1 h2;exact (Name.rightE_iff _).2 ⟨W09 (W2g _ _) h3,fun x hx=>h4 x (W1l.1 hx).1,Name.srt_del h5 s⟩
theorem Qne {l:List Ent} {s:Txt} {n:Int}:(entL l s n).length≤l.length+1:=by
 unfold entL
 split
 ·simp only [W0e,W0b,W0g,W0p];omega
 ·omega
theorem Qu6 {l:List Ent} {s:Txt}:(delL l s).length≤l.length:=by
 unfold delL
 split
 ·simp only [W0e,W0g,W0p];omega
 ·omega
theorem Qx6 {f:Fsy} {i:Int} (h:dirE f i=0):∃ d,atF f i=some d∧d.kind=2∧dirN f i=d∧Qab f i=d∧Qav f i=true:=by
 unfold dirE at h
 split at h
 ·rename_i hb
  split at h
  ·rename_i hk;exact ⟨Qab f i,Qf7 hb,hk,(Zeq hb hk).2,rfl,hb⟩
  ·cases h
 ·cases h
theorem Qsv {f:Fsy} {i:Int} {d:Nod} (h:atF f i=some d) (hk:d.kind=2):dirE f i=0∧dirN f i=d:=by
 obtain ⟨h1,h2⟩:=Qke h;have:=Zeq h1 (by rw [h2];exact hk);rw [h2] at this;exact this
theorem Qdr {n:Nod} (h:nodP n) (hk:n.kind=2):n.text=[]∧rowP n.l:=by
 rcases h.2.2.2 with ⟨_,h1,h2⟩ | ⟨h1,_⟩
 ·exact ⟨h1,h2⟩
 ·omega
theorem Qnd {n:Nod} (h:nodP n) (hk:¬ n.kind=2):n.l=[]:=by
 rcases h.2.2.2 with ⟨h1,_⟩ | ⟨_,_,h1⟩
 ·exact absurd h1 hk
 ·exact h1
theorem Qw1 {f:Fsy} {i:Int} {s:Txt} (hp:Qat f):Qb8 f i s=0↔∃ d j n,atF f i=some d∧d.kind=2∧Qaj s=0∧getE (lI d.l) s=some j∧atF f j=some n:=by
 constructor
 ·intro h;unfold Qb8 at h;rw [Qss] at h
  split at h
  ·rename_i h1
   split at h
   ·rename_i h2;obtain ⟨d,g1,g2,g3,g4⟩:=Qx6 h1;cases hb:Qav f (Qh7 f i s) with
    | false=>rw [hb] at h;cases h
    | true=>
     have hl:=Qf7 hb;unfold Qh7 at hl;rw [g3,Qfy] at hl;cases hg:getE (lI d.l) s with
     | none=>rw [hg] at hl;rw [show (none:Option Int).getD 0=0 from rfl,Qg4 (Zkl hp)] at hl;cases hl
     | some j=>rw [hg] at hl;exact ⟨d,j,_,g1,g2,h2,hg,hl⟩
   ·exact absurd h (by assumption)
  ·exact absurd h (by assumption)
 ·rintro ⟨d,j,n,h1,h2,h3,h4,h5⟩;obtain ⟨g1,g2⟩:=Qsv h1 h2;unfold Qb8;rw [Qss,W1x g1,W1x h3];have:Qav f (Qh7 f i s)=true:=by unfold Qh7;rw [g2,Qfy,h4];exact (Qke h5).1
  rw [this];rfl
theorem Qj3 {f:Fsy} {i:Int} {s:Txt} {d n:Nod} {j:Int} (h1:atF f i=some d) (h2:d.kind=2) (h3:Qaj s=0) (h4:getE (lI d.l) s=some j) (h5:atF f j=some n):Qb8 f i s=0∧lookN f i s=n:=by
 obtain ⟨g1,g2⟩:=Qsv h1 h2;have hi:Qh7 f i s=j:=by unfold Qh7;rw [g2,Qfy,h4];rfl
 have he:Qb8 f i s=0:=by
  unfold Qb8;rw [Qss,W1x g1,W1x h3,hi,(Qke h5).1];rfl
 exact ⟨he,by rw [Qw0 he,hi,(Qke h5).2]⟩
theorem Qmq {f:Fsy} {i:Int} {s:Txt} {d:Nod} (hp:Qat f) (h1:atF f i=some d) (h2:d.kind=2) (h3:Qaj s=0) (h4:getE (lI d.l) s=none):Qb8 f i s=6:=by
 obtain ⟨g1,g2⟩:=Qsv h1 h2;have hi:Qh7 f i s=0:=by unfold Qh7;rw [g2,Qfy,h4];rfl
 unfold Qb8;rw [Qss,W1x g1,W1x h3,hi,Zkl hp];rfl
end Go.Proofs.YtkhodpknpligpaaGreat

namespace Go.Proofs.YtkhodpknpligpaaGreat
open Go Go.RowKit Copyhold Go.Proofs.Tryz
def namK (z:Int) (n:Nod):Nat:=if n.kind=2 then cntE z n else 0
def nam (f:Fsy) (z:Int):Nat:=(f.l.map (namK z)).sum
theorem Zfd:∀ {L:List (Int × Nat)} (y:Int),(∀ p∈L,1≤p.2)→∀ p∈cntI L y,1≤p.2
 | [],y,_,p,hp=>by obtain rfl:=W0z.1 hp;exact W0m _
 | q :: r,y,h,p,hp=>by
  unfold cntI at hp
  split at hp
  ·rcases W0y.1 hp with rfl | hp
   ·show 1≤q.2+1;omega
   ·exact h p (by simp [hp])
  ·rcases W0y.1 hp with rfl | hp
   ·exact h p (by simp)
   ·exact Zfd y (fun p hp=>h p (by simp [hp])) p hp
theorem Qxx:∀ {L:List (Int × Nat)} (y:Int),(L.map (·.1)).Nodup→((cntI L y).map (·.1)).Nodup∧∀ z,z∈(cntI L y).map (·.1)→z=y∨z∈L.map (·.1)
 | [],y,_=>⟨by simp [cntI],fun z hz=>.inl (by simpa [cntI] using hz)⟩
 | q :: r,y,h=>by
  unfold cntI
  split
  ·exact ⟨h,fun z hz=>.inr hz⟩
  ·rename_i hne;obtain ⟨h1,h2⟩:=List.nodup_cons.1 h;obtain ⟨g1,g2⟩:=Qxx y h2;refine ⟨List.nodup_cons.2 ⟨fun hm=>?_,g1⟩,fun z hz=>?_⟩
   ·rcases g2 _ hm with e | e
    ·exact hne e
    ·exact h1 e
   ·rcases W0y.1 hz with e | hz
    ·exact .inr (by simp [e])
    ·rcases g2 z hz with e | e
     ·exact .inl e
     ·exact .inr (by simp only [W1t];exact W11 _ e)
def Znl (L:List (Int × Nat)):Prop:=(∀ p∈L,1≤p.2)∧(L.map (·.1)).Nodup
theorem Znl.step {L:List (Int × Nat)} (h:Znl L) (y:Int):Znl (cntI L y):=⟨Zfd y h.1,(Qxx y h.2).1⟩
theorem Qly {α:Type} {g:α→Nat}:∀ {l:List α} {x:α},x∈l→g x≤(l.map g).sum
 | y :: r,x,h=>by
  have hs:((y :: r).map g).sum=g y+(r.map g).sum:=by simp
  rw [hs];rcases W0y.1 h with e | h
  ·rw [e];omega
  ·have:=Qly (g:=g) h;omega
theorem Za2 {α:Type} {g:α→Nat}:∀ {l:List α} {x y:α},x∈l→y∈l→x ≠ y→g x+g y≤(l.map g).sum
 | z :: r,x,y,hx,hy,hne=>by
  have hs:((z :: r).map g).sum=g z+(r.map g).sum:=by simp
  rw [hs];rcases W0y.1 hx with ex | hx<;>rcases W0y.1 hy with ey | hy
  ·exact absurd (ex.trans ey.symm) hne
  ·have:=Qly (g:=g) hy;rw [ex];omega
  ·have:=Qly (g:=g) hx;rw [ey];omega
  ·have:=Za2 (g:=g) hx hy hne;omega
theorem Qwa {α:Type} {g:α→Nat}:∀ {l:List α},1≤(l.map g).sum→∃ x∈l,1≤g x
 | z :: r,h=>by
  have hs:((z :: r).map g).sum=g z+(r.map g).sum:=by simp
  rw [hs] at h;by_cases hz:1≤g z
  ·exact ⟨z,by simp,hz⟩
  ·obtain ⟨x,hx,hg⟩:=Qwa (g:=g) (l:=r) (by omega);exact ⟨x,by simp [hx],hg⟩
theorem Qbs {f:Fsy} {i:Int} {d:Nod} (h:atF f i=some d) (hk:d.kind=2):Qa4 f i=d.l.map Ent.ino:=by
 have:=(Qke h).2;unfold Qa4;rw [this,W1x hk]
theorem Qd8 {f:Fsy} {i z:Int} (h:z∈Qa4 f i):∃ d,atF f i=some d∧d.kind=2∧∃ e∈d.l,e.ino=z:=by
 have h0:=h;unfold Qa4 at h
 split at h
 ·rename_i hk;have hb:Qav f i=true:=by
   cases hb:Qav f i with
   | true=>rfl
   | false=>exact absurd hk (Qst hb)
  obtain ⟨e,he,hz⟩:=W1i.1 h;exact ⟨_,Qf7 hb,hk,e,he,hz⟩
 ·cases h
theorem Qgo {f:Fsy} {i z:Int} {d:Nod} {e:Ent} (h:atF f i=some d) (hk:d.kind=2) (he:e∈d.l) (hz:e.ino=z):z∈Qa4 f i:=by
 rw [Qbs h hk];exact W1i.2 ⟨e,he,hz⟩
theorem Qi7 {z:Int} {d:Nod}:1≤namK z d↔d.kind=2∧∃ e∈d.l,e.ino=z:=by
 unfold namK cntE
 split
 ·rename_i hk;rw [show (1≤d.l.countP (isE z))=(0<d.l.countP (isE z)) from rfl,List.countP_pos_iff];simp [isE,hk]
 ·rename_i hk;simp [hk]
theorem Qp4 {f:Fsy} {z:Int} (hr:Qbm f.l):1≤nam f z↔∃ i,z∈Qa4 f i:=by
 constructor
 ·intro h;obtain ⟨d,hd,hg⟩:=Qwa h;obtain ⟨hk,e,he,hz⟩:=Qi7.1 hg;exact ⟨d.ino,Qgo (Zag hr hd) hk he hz⟩
 ·rintro ⟨i,h⟩;obtain ⟨d,hd,hk,e,he,hz⟩:=Qd8 h;exact W09 (Qi7.2 ⟨hk,e,he,hz⟩) (Qly (Qdh hd))
theorem Zcv {f:Fsy} {z i j:Int} (hi:z∈Qa4 f i) (hj:z∈Qa4 f j) (h1:nam f z=1):i=j:=by
 obtain ⟨d,hd,hk,e,he,hz⟩:=Qd8 hi;obtain ⟨d',hd',hk',e',he',hz'⟩:=Qd8 hj;by_cases hne:d=d'
 ·rw [← Qei hd,← Qei hd',hne]
 ·have:=Za2 (g:=namK z) (Qdh hd) (Qdh hd') hne;have:=Qi7.2 ⟨hk,e,he,hz⟩;have:=Qi7.2 ⟨hk',e',he',hz'⟩;unfold nam at h1;omega
structure TreeP (f:Fsy):Prop where
 rows:Qat f
 root:∃ n,atF f 1=some n∧n.kind=2∧n.links=0
 cnt:∀ i n,atF f i=some n→n.links=(nam f i:Int)
 kid:∀ i z,z∈Qa4 f i→(∃ n,atF f z=some n)∧¬ z=1
 pos:∀ i n,atF f i=some n→¬ i=1→1≤n.links
 dir:∀ i n,atF f i=some n→n.kind=2→¬ i=1→n.links=1∧Reach f 1 i
theorem Qhj {f:Fsy} {a b:Int} (h:Reach f a b):∃ q,(q=a∨Reach f a q)∧b∈Qa4 f q:=by
 induction h with
 | one h=>exact ⟨_,.inl rfl,h⟩
 | @more i y z h _ ih=>
  obtain ⟨q,hq,hk⟩:=ih;refine ⟨q,.inr ?_,hk⟩;rcases hq with rfl | hq
  ·exact .one h
  ·exact .more h hq
theorem Qfx {f:Fsy} {a b:Int} (h:Reach f a b):∃ y,y∈Qa4 f a:=by
 cases h with
 | one h=>exact ⟨_,h⟩
 | more h _=>exact ⟨_,h⟩
inductive RT (f:Fsy):Int→Prop where
 | base {z:Int}:z∈Qa4 f 1→RT f z
 | step {p z:Int}:RT f p→z∈Qa4 f p→RT f z
theorem rt_of {f:Fsy} {a b:Int} (h:Reach f a b):(a=1∨RT f a)→RT f b:=by
 induction h with
 | one h=>
  rintro (rfl | hr)
  ·exact .base h
  ·exact .step hr h
 | more h _ ih=>
  rintro (rfl | hr)
  ·exact ih (.inr (.base h))
  ·exact ih (.inr (.step hr h))
theorem TreeP.no1 {f:Fsy} (h:TreeP f) {i:Int}:¬ Reach f i 1:=fun hr=>by
 obtain ⟨q,_,hk⟩:=Qhj hr;exact (h.kid q 1 hk).2 rfl
theorem TreeP.reach {f:Fsy} (h:TreeP f) {i:Int} {n:Nod} (hn:atF f i=some n) (hi:¬ i=1):Reach f 1 i:=by
 by_cases hk:n.kind=2
 ·exact (h.dir i n hn hk hi).2
 ·have hp:=h.pos i n hn hi;rw [h.cnt i n hn] at hp;obtain ⟨q,hq⟩:=(Qp4 (Qah h.rows)).1 (show 1≤nam f i by omega);by_cases h1:q=1
  ·subst h1;exact .one hq
  ·obtain ⟨d,hd,hdk,_⟩:=Qd8 hq;exact (h.dir q d hd hdk h1).2.snoc hq
theorem TreeP.one {f:Fsy} (h:TreeP f) {i:Int} {n:Nod} (hn:atF f i=some n) (hk:n.kind=2) (hi:¬ i=1):nam f i=1:=by
 have h1:=(h.dir i n hn hk hi).1;rw [h.cnt i n hn] at h1;omega
theorem TreeP.acyc {f:Fsy} (h:TreeP f) {w:Int}:¬ Reach f w w:=by
 have key:∀ w,RT f w→¬ Reach f w w:=by
  intro w hw
  induction hw with
  | @base z hz=>
   intro hr;obtain ⟨q,hq,hk⟩:=Qhj hr;obtain ⟨y,hy⟩:=Qfx hr;obtain ⟨d,hd,hdk,_⟩:=Qd8 hy;have hz1:=(h.kid 1 z hz).2;have e:=Zcv hk hz (h.one hd hdk hz1);subst e;rcases hq with e | hq
   ·exact hz1 e.symm
   ·exact h.no1 hq
  | @step p z hp hz ih=>
   intro hr;obtain ⟨q,hq,hk⟩:=Qhj hr;obtain ⟨y,hy⟩:=Qfx hr;obtain ⟨d,hd,hdk,_⟩:=Qd8 hy;have hz1:=(h.kid p z hz).2;have e:=Zcv hk hz (h.one hd hdk hz1);subst e;rcases hq with e | hq
   ·rw [← e] at hr;exact ih hr
   ·exact ih (.more hz hq)
 intro hr;obtain ⟨q,_,hk⟩:=Qhj hr;obtain ⟨⟨n,hn⟩,h1⟩:=h.kid q w hk;exact key w (rt_of (h.reach hn h1) (.inl rfl)) hr
theorem Qsr {f:Fsy} {n:Nod} (h:f.l[0]?=some n) (hn:n.ino=1) (hr:Qbm f.l):atF f 1=some n:=by
 have:=Zag hr (W0h h)
 rwa [hn] at this
end Go.Proofs.YtkhodpknpligpaaGreat

namespace Go.Proofs.YtkhodpknpligpaaGreat
open Go Go.RowKit Copyhold Go.Proofs.Tryz
open Copyhold.Name (Srt insE delE getE isAt)
theorem Qpt {l:List Ent} {s:Txt} (h:Srt (lI l)) (hi:isB l s=true):posI l s<l.length:=by
 obtain ⟨x,hx,_⟩:=Name.get_pos h hi;have:=Qan hx;rw [Zc9] at this;exact this
theorem Zdz {l:List Ent} {s:Txt} {x:Ent} (h:Srt (lI l)) (hi:isB l s=true) (hx:l[posI l s]?=some x):getI l s=x.ino:=by
 obtain ⟨y,hy,_,hg⟩:=Name.get_pos h hi;rw [Qfy,hg];have:(lI l)[Name.pos (lI l) s]?=some ((x.name,x.ino):NEnt):=by
  unfold lI at hy ⊢;rw [W0v];have hx':l[Name.pos (lI l) s]?=some x:=hx;unfold lI at hx';rw [hx'];rfl
 rw [this] at hy;obtain rfl:=W0c hy;rfl
theorem Qzk (l:List Ent) (s:Txt) (hl:l.length≤256) (hr:Name.Srt (lI l)):Qag prog 328 [.sl 2 false (l.map entA),aS s] (.tup [.sl 2 false ((delL l s).map entA),aI (getI l s),aI (Qmt l s)]):=by
 exact Qac func328 (
 .r 3<|.r 2<|.call (Qmk l s (by omega) hr)<|
 .r 5<|.r 2<|.br 17 (!(isB l s)) (fun q1=>have q1:=notT q1;have p1:=booF q1;.r 4<|.f (.tup [.sl 2 false ((delL l s).map entA),aI (getI l s),aI (Qmt l s)]) [] (.tup [.sl 2 false (l.map entA),aI 0,aI 6]) (by
  have e:delL l s=l:=W1w (by rw [q1];decide);have e2:Qmt l s=6:=W1w (by rw [q1];decide);rw [e,e2,Zic q1];exact W2q ⟨by first | exact sR | exact W2p _ _ _,sR,sR,trivial⟩))
 <| fun q1=>have q1:=notF q1;have p1:=booT q1;have hlt:=Qpt hr q1;.r 2<|.lm 20 l entA<|.mk0 24 l.length (show (l.length:Int)=((l.length:Nat):Int) from by omega) (by have hq:=Qbx l s;simp<;>omega) (by have hq:=Qbx l s;simp<;>omega) fun V1=>
 .r 1<|.r 3<|.slc 2 false (l.map entA) none (some (posI l s:Int)) none 0 (posI l s) false (.inl ⟨rfl,rfl⟩) (.inr rfl) (.inl ⟨rfl,fun h=>by cases h⟩) (by have hq:=Qbx l s;first | omega | (rw [W0a];omega) | (simp<;>omega)) (by have hq:=Qbx l s;first | omega | (rw [W0a];omega) | (simp<;>omega))<|
 .app 24 V1 ([]:List (List AV)) (((l.map entA).take (posI l s)).drop 0) (by have hq:=Qbx l s;simp<;>omega) (by have hq:=Qbx l s;simp<;>omega) fun V2=>
 .r 1<|.pick [0,1,2,3,4,6,7,8,9]<|.run 4 [rng .i64 ((posI l s:Int)+1)] ⟨Qal,trivial⟩<|
 .slc 2 false (l.map entA) (some ((posI l s:Int)+1)) none none (posI l s+1) ((l.map entA).length) false (.inr (W1y some (by omega))) (.inl ⟨rfl,rfl⟩) (.inl ⟨rfl,fun h=>by cases h⟩) (by have hq:=Qbx l s;first | omega | (rw [W0a];omega) | (simp<;>omega)) (by have hq:=Qbx l s;first | omega | (rw [W0a];omega) | (simp<;>omega))<|
 .r 2<|.idxM l entA (posI l s) (m:=(posI l s:Int)) rfl (Qpt hr (by assumption)) fun x1 hx1=>
 .r 1<|.fork<|.alt (.app 24 V2 (([]:List (List AV))++(((l.map entA).take (posI l s)).drop 0)) (((l.map entA).take ((l.map entA).length)).drop (posI l s+1)) (by have hq:=Qbx l s;simp<;>omega) (by have hq:=Qbx l s;simp<;>omega) fun V3=>
 .pick [10,11,12,13]<|.r 4<|.frz 21 [4,5,6] [] [V3=V3,(([]:List (List AV))++(((l.map entA).take (posI l s)).drop 0)).length+(((l.map entA).take ((l.map entA).length)).drop (posI l s+1)).length=((([]:List (List AV))++(((l.map entA).take (posI l s)).drop 0))++(((l.map entA).take ((l.map entA).length)).drop (posI l s+1))).length] ⟨rfl,(by first | rfl | (simp;done) | (simp;omega)),trivial⟩<|
 .f (.tup [.sl 2 false ((delL l s).map entA),aI (getI l s),aI (Qmt l s)]) [] (.tup [.sl 2 false ((([]:List (List AV))++(((l.map entA).take (posI l s)).drop 0))++(((l.map entA).take ((l.map entA).length)).drop (posI l s+1))),aI x1.ino,aI 0]) (by
  have e:delL l s=l.take (posI l s)++l.drop (posI l s+1):=W1x q1;have e2:Qmt l s=0:=W1x q1;rw [e,e2,Zdz hr q1 hx1];exact W2q ⟨W2n (W1y (AV.sl 2 false) (by simp [entA,W16,W2e,Qap])),sR,sR,trivial⟩))
 <| .r 1<|.pick [5,11,12,13]<|.app 24 V2 (([]:List (List AV))++(((l.map entA).take (posI l s)).drop 0)) (((l.map entA).take ((l.map entA).length)).drop (posI l s+1)) (by have hq:=Qbx l s;simp<;>omega) (by have hq:=Qbx l s;simp<;>omega) fun V4=>
 .r 3<|.frz 21 [4,5,6] [] [V4=V4,(([]:List (List AV))++(((l.map entA).take (posI l s)).drop 0)).length+(((l.map entA).take ((l.map entA).length)).drop (posI l s+1)).length=((([]:List (List AV))++(((l.map entA).take (posI l s)).drop 0))++(((l.map entA).take ((l.map entA).length)).drop (posI l s+1))).length] ⟨rfl,(by first | rfl | (simp;done) | (simp;omega)),trivial⟩<|
 .f (.tup [.sl 2 false ((delL l s).map entA),aI (getI l s),aI (Qmt l s)]) [] (.tup [.sl 2 false ((([]:List (List AV))++(((l.map entA).take (posI l s)).drop 0))++(((l.map entA).take ((l.map entA).length)).drop (posI l s+1))),aI x1.ino,aI 0]) (by
  have e:delL l s=l.take (posI l s)++l.drop (posI l s+1):=W1x q1;have e2:Qmt l s=0:=W1x q1;rw [e,e2,Zdz hr q1 hx1];exact W2q ⟨W2n (W1y (AV.sl 2 false) (by simp [entA,W16,W2e,Qap])),sR,sR,trivial⟩))
noncomputable def leaveF (f:Fsy) (d:Int) (s:Txt):Fsy:=putF f (Qbj (Qab f d) (delL (Qab f d).l s))
noncomputable def Qkd (n:Nod):Nod:=⟨n.ino,n.kind,n.links-1,n.text,n.l⟩
noncomputable def Qb6 (f:Fsy) (d:Int) (s:Txt) (n:Nod):Fsy:=if n.links-1<1 then outF (leaveF f d s) n.ino else putF (leaveF f d s) (Qkd n)
theorem Qie (f:Fsy) (dir:Int) (s:Txt) (okf:OkF f) (hp:Qat f) (hs:s.length≤1000000):Qag prog 309 [.agg (fsyA f),aI dir,aS s] (.agg (fsyA (leaveF f dir s))):=by
 have hl:=hp.1;have hr:=Qah hp;exact Qac func309 (let R:AV:=.agg (fsyA (leaveF f dir s));
 .new fun b1=>.new fun b2=>.u 2 [b1]<|
 .call (Qce f dir (by omega) hr)<|
 .r 3<|.new fun b3=>.u 2 [b3]<|
 .u 3 [b3]<|
 .call (Qzk ((Qab f dir).l) s (Qlp hp dir).2 (Qlp hp dir).1)<|
 .u 6 [b3]<|
 .u 2 [b1,b3]<|
 .cs (args0:=[.agg (fsyA f),.agg [aI ((Qab f dir).ino),aI ((Qab f dir).kind),aI ((Qab f dir).links),aS ((Qab f dir).text),.sl 2 false ((delL ((Qab f dir).l) s).map entA)]]) (Qe5 f (Qbj (Qab f dir) (delL (Qab f dir).l s)) (Qdp okf hp dir) (by omega) hr) sr2<|
 .u 1 [b2]<|
 .fi R [b2])
theorem Qw5 (f:Fsy) (d:Int) (s:Txt):(leaveF f d s).l.length≤f.l.length+1:=Qme _ _
theorem Qot {f:Fsy} (h:Qat f) (d:Int) (s:Txt):Qbm (leaveF f d s).l:=Qhk (Qah h)
theorem Qtf (f:Fsy) (dir:Int) (s:Txt) (n:Nod) (okf:OkF f) (hp:Qat f) (hs:s.length≤1000000) (hn:I64 n.ino∧n.ino<9223372036854775807) (hk:0≤n.links∧n.links≤1000):Qag prog 308 [.agg (fsyA f),aI dir,aS s,.agg (nodA n)] (.agg (fsyA (Qb6 f dir s n))):=by
 have hl:=hp.1;have hr:=Qah hp;exact Qac func308 (
 .new fun b1=>.new fun b2=>.new fun b3=>.u 3 [b1]<|
 .call (Qie f dir s okf hp (by omega))<|
 .u 1 [b1]<|
 .run 5 [b2=b2,rng .i64 (n.links-1),b2=b2] ⟨rfl,Qal,rfl,trivial⟩<|
 .u 3 [b2]<|
 .bd 19 ((n.links-1)<1) (fun p1=>.u 3 [b1,b2]<|
 .call (Zhg (leaveF f dir s) n.ino (by have:=Qw5 f dir s;omega) (Qot hp dir s))<|
 .u 1 [b3]<|
 .f (.agg (fsyA (Qb6 f dir s n))) [b3] (.agg [.sl 5 false ((outF (leaveF f dir s) n.ino).l.map nodA),aI ((outF (leaveF f dir s) n.ino).next)]) (by
  have e:Qb6 f dir s n=_:=W1x (by omega);rw [e];exact sR))
 <| fun p1=>.u 2 [b1,b2]<|
 .cs (args0:=[.agg [.sl 5 false ((leaveF f dir s).l.map nodA),aI ((leaveF f dir s).next)],.agg [aI n.ino,aI n.kind,aI (n.links-1),aS n.text,.sl 2 false (n.l.map entA)]]) (Qe5 (leaveF f dir s) (Qkd n) hn (by have:=Qw5 f dir s;omega) (Qot hp dir s)) sr2<|
 .u 1 [b3]<|
 .f (.agg (fsyA (Qb6 f dir s n))) [b3] (.agg [.sl 5 false ((putF (leaveF f dir s) (Qkd n)).l.map nodA),aI ((putF (leaveF f dir s) (Qkd n)).next)]) (by
  have e:Qb6 f dir s n=_:=W1w (by omega);rw [e];exact sR))
end Go.Proofs.YtkhodpknpligpaaGreat

namespace Go.Proofs.YtkhodpknpligpaaGreat
open Go Go.RowKit Copyhold Go.Proofs.Tryz
noncomputable def Qee (f:Fsy) (d:Int) (s:Txt):Int:=Qar [Qb8 f d s,Qae (Qdi (lookN f d s)) 11]
noncomputable def Qkz (f:Fsy) (d:Int) (s:Txt):Fsy:=if Qee f d s=0 then Qb6 f d s (lookN f d s) else f
theorem Qd7 {f:Fsy} {d:Int} {s:Txt} (okf:OkF f) (hp:Qat f):OkN (lookN f d s)∧(lookN f d s).ino<9223372036854775807∧0≤(lookN f d s).links∧(lookN f d s).links≤1000∧(lookN f d s).l.length≤8796093022207:=by
 unfold lookN
 split
 ·have hb:=Qdp okf hp (Qh7 f d s);have hk:=Qf0 okf (Qh7 f d s);refine ⟨hk,hb.2,?_,?_,hk.2.2.2.2.1⟩
  ·by_cases h:Qav f (Qh7 f d s)=true
   ·exact ((Qbe.1 hp).2.2.1 _ (Qe8 h)).1.2.1
   ·rw [(Qvu (Qg4 (by simpa using h))).2];decide
  ·by_cases h:Qav f (Qh7 f d s)=true
   ·have:=((Qbe.1 hp).2.2.1 _ (Qe8 h)).1.2.2.1;omega
   ·rw [(Qvu (Qg4 (by simpa using h))).2];decide
 ·exact ⟨Qj1,by decide,by decide,by decide,by decide⟩
theorem Qyj (f:Fsy) (dir:Int) (s:Txt) (n:Nod) (okf:OkF f) (hp:Qat f) (hs:s.length≤1000000) (hn:I64 n.ino∧n.ino<9223372036854775807) (hk:0≤n.links∧n.links≤1000):Qag prog 324 [.dptr (fsyA f),.dptr [aI dir],.dptr [aS s],.dptr (nodA n)] (.agg (fsyA (Qb6 f dir s n))):=by
 exact Qac func324 (let R:AV:=.agg (fsyA (Qb6 f dir s n));
 .new fun b1=>.r 4<|.call (Qtf f dir s n okf hp hs hn hk)<|
 .u 1 [b1]<|
 .fi R [b1])
theorem Qrc (e:Int) (f:Fsy) (dir:Int) (s:Txt) (n:Nod) (okf:OkF f) (hp:Qat f) (hs:s.length≤1000000) (hn:I64 n.ino∧n.ino<9223372036854775807) (hk:0≤n.links∧n.links≤1000):Qag prog 302 [.agg (fsyA f),aI e,.clo 324 [.dptr (fsyA f),.dptr [aI dir],.dptr [aS s],.dptr (nodA n)]] (.tup [.agg (fsyA (if e=0 then Qb6 f dir s n else f)),aI e]):=by
 exact Qac func302 (
 .new fun b1=>.new fun b2=>.r 1<|.r 2<|.bn 9 e 0 (fun p1=>.u 4 [b1,b2]<|
 .f (.tup [.agg (fsyA (if e=0 then Qb6 f dir s n else f)),aI e]) [b2] (.tup [.agg (fsyA f),aI e]) (by
  rw [W1w (show ¬ e=0 from by omega)];exact sR))
 <| fun p1=>.r 1<|.call (Qyj f dir s n okf hp hs hn hk)<|
 .u 2 [b2]<|
 .f (.tup [.agg (fsyA (if e=0 then Qb6 f dir s n else f)),aI e]) [b2] (.tup [.agg [.sl 5 false ((Qb6 f dir s n).l.map nodA),aI ((Qb6 f dir s n).next)],aI 0]) (by
  rw [W1x (show e=0 from by omega),show e=0 from by omega];exact sR))
theorem Za1 (f:Fsy) (dir:Int) (s:Txt) (okf:OkF f) (hp:Qat f) (hs:s.length≤1000000):Qag prog 299 [.agg (fsyA f),aI dir,aS s] (.tup [.agg (fsyA (Qkz f dir s)),aI (Qee f dir s)]):=by
 have hl:=hp.1;have hr:=Qah hp;exact Qac func299 (let R:AV:=.tup [.agg (fsyA (Qkz f dir s)),aI (Qee f dir s)];
 .new fun b1=>.new fun b2=>.new fun b3=>.new fun b4=>.r 1<|.u 3 [b1,b2,b3]<|
 .call (Qjb f dir s hp hs)<|
 .r 3<|.new fun b5=>.u 2 [b5]<|
 .u 2 [b5]<|
 .call (Qm4 (lookN f dir s) (Qd7 okf hp).2.2.2.2)<|
 .call (Qbc (Qdi (lookN f dir s)) 11)<|
 .r 1<|.cs (args0:=[.sl 1 true ([[aI (Qb8 f dir s)],[aI (Qae (Qdi (lookN f dir s)) 11)]])]) (Qcg [(Qb8 f dir s),(Qae (Qdi (lookN f dir s)) 11)] (by simp)) ⟨Qoz (Qb8 f dir s) (Qae (Qdi (lookN f dir s)) 11),trivial⟩<|
 .r 1<|.frz 3 [3,4,5,6,7,8,9] [4,5,6,8] [b1=b1] rt1<|
 .frz 4 [3,4,5,6,7,8,9] [5,6,8] [b2=b2] rt1<|
 .frz 5 [3,4,5,6,7,8,9] [6,8] [b3=b3] rt1<|
 .frz 8 [3,4,5,6,7,8,9] [6] [b5=b5] rt1<|
 .r 3<|.cs (args0:=[.agg (fsyA f),aI (Qar [(Qb8 f dir s),(Qae (Qdi (lookN f dir s)) 11)]),.clo 324 [.dptr (fsyA f),.dptr [aI dir],.dptr [aS s],.dptr [aI ((lookN f dir s).ino),aI ((lookN f dir s).kind),aI ((lookN f dir s).links),aS ((lookN f dir s).text),.sl 2 false ((lookN f dir s).l.map entA)]]]) (Qrc (Qar [(Qb8 f dir s),(Qae (Qdi (lookN f dir s)) 11)]) f dir s (lookN f dir s) okf hp hs ⟨(Qd7 okf hp).1.1,(Qd7 okf hp).2.1⟩ ⟨(Qd7 okf hp).2.2.1,(Qd7 okf hp).2.2.2.1⟩) sr3<|
 .u 4 [b4]<|
 .fi R [b4])
theorem Qoy {t:Bool} (a b c d e g:Int):Sub (.sl 1 t [[aI a],[aI b],[aI c],[aI d],[aI e],[aI g]]) (.sl 1 false ([a,b,c,d,e,g].map intA)):=W2p _ _ _
theorem Qzu {t:Bool} (a b c d:Int):Sub (.sl 1 t [[aI a],[aI b],[aI c],[aI d]]) (.sl 1 false ([a,b,c,d].map intA)):=W2p _ _ _
noncomputable def Qqe (n:Nod):Nod:=⟨n.ino,n.kind,n.links+1,n.text,n.l⟩
noncomputable def Qdu (f:Fsy) (d:Int) (s:Txt) (i:Int) (n:Nod):Fsy:=putF (enterF f d s i) (Qqe n)
noncomputable def Qdy (f:Fsy) (d:Int) (s:Txt) (i:Int):Int:=Qar [dirE f d,Qae (!(Qav f i)) 6,Qae ((Qab f i).kind==2) 9,Qaj s,Qae (isB (dirN f d).l s) 7,Qae (decide (((dirN f d).l.length:Int)≥256)||decide ((Qab f i).links≥64)) 12]
noncomputable def Qm3 (f:Fsy) (d:Int) (s:Txt) (i:Int):Fsy:=if Qdy f d s i=0 then Qdu f d s i (Qab f i) else f
theorem Qfn {f:Fsy} (hp:Qat f) (i:Int):0≤(Qab f i).links∧(Qab f i).links≤64:=by
 by_cases h:Qav f i=true
 ·have:=((Qbe.1 hp).2.2.1 _ (Qe8 h)).1;exact ⟨this.2.1,this.2.2.1⟩
 ·rw [(Qvu (Qg4 (by simpa using h))).2];decide
theorem Qzr (f:Fsy) (dir:Int) (s:Txt) (i:Int) (n:Nod) (b:Nat) (okf:OkF f) (hp:Qat f) (hs:s.length≤1000000) (hi:I64 i) (hn:I64 n.ino∧n.ino<9223372036854775807) (hk:0≤n.links∧n.links≤1000):Qq4 prog 303 [.ptr 12 b 0,.dptr (fsyA f),.dptr [aI dir],.dptr [aS s],.dptr [aI i]] (.box b 85 (nodA n)) (.agg (fsyA (Qdu f dir s i n))):=by
 have hl:=hp.1;have hr:=Qah hp;exact Qi9 (q:=12) func303 (let R:AV:=.agg (fsyA (Qdu f dir s i n));
 .new fun b1=>.run 5 [b=b,rng .i64 (n.links+1),b=b] ⟨rfl,Qal,rfl,trivial⟩<|
 .ord [0,1,2,3,5,4,6,7]<|.run 5 [b=b] rt1<|
 .call (Qf2 f dir s i okf hp (by omega) hi)<|
 .cs (args0:=[.agg [.sl 5 false ((enterF f dir s i).l.map nodA),aI ((enterF f dir s i).next)],.agg [aI n.ino,aI n.kind,aI (n.links+1),aS n.text,.sl 2 false (n.l.map entA)]]) (Qe5 (enterF f dir s i) (Qqe n) hn (by have:=Qxn f dir s i;omega) (Qo1 hp dir s i)) sr2<|
 .u 1 [b1]<|
 .fi R [b1])
theorem Qkl (e:Int) (f:Fsy) (dir:Int) (s:Txt) (i:Int) (n:Nod) (b:Nat) (okf:OkF f) (hp:Qat f) (hs:s.length≤1000000) (hi:I64 i) (hn:I64 n.ino∧n.ino<9223372036854775807) (hk:0≤n.links∧n.links≤1000):Qq4 prog 302 [.agg (fsyA f),aI e,.clo 303 [.ptr 12 b 0,.dptr (fsyA f),.dptr [aI dir],.dptr [aS s],.dptr [aI i]]] (.box b 85 (nodA n)) (.tup [.agg (fsyA (if e=0 then Qdu f dir s i n else f)),aI e]):=by
 exact Qi9 (q:=12) func302 (
 .new fun b1=>.new fun b2=>.r 1<|.r 2<|.bn 9 e 0 (fun p1=>.u 4 [b1,b2]<|
 .f (.tup [.agg (fsyA (if e=0 then Qdu f dir s i n else f)),aI e]) [b2] (.tup [.agg (fsyA f),aI e]) (by
  rw [W1w (show ¬ e=0 from by omega)];exact sR))
 <| fun p1=>.lent 1<|.r 1<|.lop (lcR prog 12) ((303,[.ptr 12 b 0,.dptr (fsyA f),.dptr [aI dir],.dptr [aS s],.dptr [aI i]],some 13),.box b 85 (nodA n)) (fun (_:Unit) σ=>(σ.put (some 13) (.agg [.sl 5 false ((Qdu f dir s i n).l.map nodA),aI ((Qdu f dir s i n).next)])).setB 12 gone) (Qcs (args':=[.ptr 12 b 0,.dptr (fsyA f),.dptr [aI dir],.dptr [aS s],.dptr [aI i]]) sr5 (Qzr f dir s i n b okf hp hs hi hn hk)) fun _=>
 .u 2 [b2]<|
 .f (.tup [.agg (fsyA (if e=0 then Qdu f dir s i n else f)),aI e]) [b2] (.tup [.agg [.sl 5 false ((Qdu f dir s i n).l.map nodA),aI ((Qdu f dir s i n).next)],aI 0]) (by
  rw [W1x (show e=0 from by omega),show e=0 from by omega];exact sR))
theorem Zdy (f:Fsy) (dir:Int) (s:Txt) (i:Int) (okf:OkF f) (hp:Qat f) (hs:s.length≤1000000) (hi:I64 i):Qag prog 272 [.agg (fsyA f),aI dir,aS s,aI i] (.tup [.agg (fsyA (Qm3 f dir s i)),aI (Qdy f dir s i)]):=by
 have hl:=hp.1;have hr:=Qah hp;exact Qac func272 (
 .new fun b1=>.new fun b2=>.new fun b3=>.new fun b4=>.new fun b5=>.r 1<|.u 2 [b1,b2]<|
 .call (Qhr f dir hp)<|
 .r 3<|.new fun b6=>.u 2 [b6]<|
 .u 2 [b1,b4]<|
 .call (Qce f i (by omega) hr)<|
 .r 3<|.new fun b7=>.u 2 [b7]<|
 .u 3 [b6,b3]<|
 .call (Qfk ((dirN f dir).l) s (by have:=(Qef hp dir).2;omega) (Qef hp dir).1)<|
 .r 5<|.ord [0,1,2,4,5,6,8,10,12,13,14,15,3,7,9,11,16,17,18,19,20,21,22,23,24]<|.u 11 [b7,b3,b6]<|
 .lm 49 ((dirN f dir).l) entA<|.r 1<|.call (Qbc (!(Qav f i)) 6)<|
 .call (Qbc (((Qab f i).kind)==2) 9)<|
 .call (Qer s (by omega))<|
 .call (Qbc (isB ((dirN f dir).l) s) 7)<|
 .r 1<|.br 51 (decide ((((dirN f dir).l).length:Int)≥256)) (fun q1=>have p1:=decT q1;.r 4<|.call (Qbc true 12)<|
 .r 1<|.cs (args0:=[.sl 1 true ([[aI (dirE f dir)],[aI (Qae (!(Qav f i)) 6)],[aI (Qae (((Qab f i).kind)==2) 9)],[aI (Qaj s)],[aI (Qae (isB ((dirN f dir).l) s) 7)],[aI (Qae true 12)]])]) (Qcg [(dirE f dir),(Qae (!(Qav f i)) 6),(Qae (((Qab f i).kind)==2) 9),(Qaj s),(Qae (isB ((dirN f dir).l) s) 7),(Qae true 12)] (by simp)) ⟨Qoy (dirE f dir) (Qae (!(Qav f i)) 6) (Qae (((Qab f i).kind)==2) 9) (Qaj s) (Qae (isB ((dirN f dir).l) s) 7) (Qae true 12),trivial⟩<|
 .r 1<|.frz 4 [4,5,6,7,8,9,11,12,51,55] [5,6,7,8,12] [b1=b1] rt1<|
 .frz 5 [4,5,6,7,8,9,11,12,51,55] [6,7,8,12] [b2=b2] rt1<|
 .frz 6 [4,5,6,7,8,9,11,12,51,55] [7,8,12] [b3=b3] rt1<|
 .frz 7 [4,5,6,7,8,9,11,12,51,55] [8,12] [b4=b4] rt1<|
 .lent 3<|.r 3<|.lop (lcR prog 12) ((302,[.agg (fsyA f),aI (Qar [(dirE f dir),(Qae (!(Qav f i)) 6),(Qae (((Qab f i).kind)==2) 9),(Qaj s),(Qae (isB ((dirN f dir).l) s) 7),(Qae true 12)]),.clo 303 [.ptr 12 b7 0,.dptr (fsyA f),.dptr [aI dir],.dptr [aS s],.dptr [aI i]]],some 62),.box b7 85 [aI ((Qab f i).ino),aI ((Qab f i).kind),aI ((Qab f i).links),aS ((Qab f i).text),.sl 2 false ((Qab f i).l.map entA)]) (fun (_:Unit) σ=>(σ.put (some 62) (.tup [.agg [.sl 5 false ((if Qar [(dirE f dir),(Qae (!(Qav f i)) 6),(Qae (((Qab f i).kind)==2) 9),(Qaj s),(Qae (isB ((dirN f dir).l) s) 7),(Qae true 12)]=0 then Qdu f dir s i (Qab f i) else f).l.map nodA),aI ((if Qar [(dirE f dir),(Qae (!(Qav f i)) 6),(Qae (((Qab f i).kind)==2) 9),(Qaj s),(Qae (isB ((dirN f dir).l) s) 7),(Qae true 12)]=0 then Qdu f dir s i (Qab f i) else f).next)],aI (Qar [(dirE f dir),(Qae (!(Qav f i)) 6),(Qae (((Qab f i).kind)==2) 9),(Qaj s),(Qae (isB ((dirN f dir).l) s) 7),(Qae true 12)])])).setB 12 gone) (Qcs (args':=[.agg (fsyA f),aI (Qar [(dirE f dir),(Qae (!(Qav f i)) 6),(Qae (((Qab f i).kind)==2) 9),(Qaj s),(Qae (isB ((dirN f dir).l) s) 7),(Qae true 12)]),.clo 303 [.ptr 12 b7 0,.dptr (fsyA f),.dptr [aI dir],.dptr [aS s],.dptr [aI i]]]) sr3 (Qkl (Qar [(dirE f dir),(Qae (!(Qav f i)) 6),(Qae (((Qab f i).kind)==2) 9),(Qaj s),(Qae (isB ((dirN f dir).l) s) 7),(Qae true 12)]) f dir s i (Qab f i) b7 okf hp hs hi (Qdp okf hp i) (by have:=Qfn hp i;omega))) fun _=>
 .u 4 [b5]<|
 .f (.tup [.agg (fsyA (Qm3 f dir s i)),aI (Qdy f dir s i)]) [b5] (.tup [.agg [.sl 5 false ((if Qar [(dirE f dir),(Qae (!(Qav f i)) 6),(Qae (((Qab f i).kind)==2) 9),(Qaj s),(Qae (isB ((dirN f dir).l) s) 7),(Qae true 12)]=0 then Qdu f dir s i (Qab f i) else f).l.map nodA),aI ((if Qar [(dirE f dir),(Qae (!(Qav f i)) 6),(Qae (((Qab f i).kind)==2) 9),(Qaj s),(Qae (isB ((dirN f dir).l) s) 7),(Qae true 12)]=0 then Qdu f dir s i (Qab f i) else f).next)],aI (Qar [(dirE f dir),(Qae (!(Qav f i)) 6),(Qae (((Qab f i).kind)==2) 9),(Qaj s),(Qae (isB ((dirN f dir).l) s) 7),(Qae true 12)])]) (by
  have e:Qdy f dir s i=Qar [(dirE f dir),(Qae (!(Qav f i)) 6),(Qae (((Qab f i).kind)==2) 9),(Qaj s),(Qae (isB ((dirN f dir).l) s) 7),(Qae true 12)]:=by
   unfold Qdy;simp only [q1,W02,W0u,W0x,W0t]
  unfold Qm3;rw [e];exact sR))
 <| fun q1=>have p1:=decF q1;.u 4 [b7]<|
 .call (Qbc (decide (((Qab f i).links)≥64)) 12)<|
 .r 1<|.cs (args0:=[.sl 1 true ([[aI (dirE f dir)],[aI (Qae (!(Qav f i)) 6)],[aI (Qae (((Qab f i).kind)==2) 9)],[aI (Qaj s)],[aI (Qae (isB ((dirN f dir).l) s) 7)],[aI (Qae (decide (((Qab f i).links)≥64)) 12)]])]) (Qcg [(dirE f dir),(Qae (!(Qav f i)) 6),(Qae (((Qab f i).kind)==2) 9),(Qaj s),(Qae (isB ((dirN f dir).l) s) 7),(Qae (decide (((Qab f i).links)≥64)) 12)] (by simp)) ⟨Qoy (dirE f dir) (Qae (!(Qav f i)) 6) (Qae (((Qab f i).kind)==2) 9) (Qaj s) (Qae (isB ((dirN f dir).l) s) 7) (Qae (decide (((Qab f i).links)≥64)) 12),trivial⟩<|
 .r 1<|.frz 4 [4,5,6,7,8,9,11,12,51] [5,6,7,8,12] [b1=b1] rt1<|
 .frz 5 [4,5,6,7,8,9,11,12,51] [6,7,8,12] [b2=b2] rt1<|
 .frz 6 [4,5,6,7,8,9,11,12,51] [7,8,12] [b3=b3] rt1<|
 .frz 7 [4,5,6,7,8,9,11,12,51] [8,12] [b4=b4] rt1<|
 .lent 3<|.r 3<|.lop (lcR prog 12) ((302,[.agg (fsyA f),aI (Qar [(dirE f dir),(Qae (!(Qav f i)) 6),(Qae (((Qab f i).kind)==2) 9),(Qaj s),(Qae (isB ((dirN f dir).l) s) 7),(Qae (decide (((Qab f i).links)≥64)) 12)]),.clo 303 [.ptr 12 b7 0,.dptr (fsyA f),.dptr [aI dir],.dptr [aS s],.dptr [aI i]]],some 62),.box b7 85 [aI ((Qab f i).ino),aI ((Qab f i).kind),aI ((Qab f i).links),aS ((Qab f i).text),.sl 2 false ((Qab f i).l.map entA)]) (fun (_:Unit) σ=>(σ.put (some 62) (.tup [.agg [.sl 5 false ((if Qar [(dirE f dir),(Qae (!(Qav f i)) 6),(Qae (((Qab f i).kind)==2) 9),(Qaj s),(Qae (isB ((dirN f dir).l) s) 7),(Qae (decide (((Qab f i).links)≥64)) 12)]=0 then Qdu f dir s i (Qab f i) else f).l.map nodA),aI ((if Qar [(dirE f dir),(Qae (!(Qav f i)) 6),(Qae (((Qab f i).kind)==2) 9),(Qaj s),(Qae (isB ((dirN f dir).l) s) 7),(Qae (decide (((Qab f i).links)≥64)) 12)]=0 then Qdu f dir s i (Qab f i) else f).next)],aI (Qar [(dirE f dir),(Qae (!(Qav f i)) 6),(Qae (((Qab f i).kind)==2) 9),(Qaj s),(Qae (isB ((dirN f dir).l) s) 7),(Qae (decide (((Qab f i).links)≥64)) 12)])])).setB 12 gone) (Qcs (args':=[.agg (fsyA f),aI (Qar [(dirE f dir),(Qae (!(Qav f i)) 6),(Qae (((Qab f i).kind)==2) 9),(Qaj s),(Qae (isB ((dirN f dir).l) s) 7),(Qae (decide (((Qab f i).links)≥64)) 12)]),.clo 303 [.ptr 12 b7 0,.dptr (fsyA f),.dptr [aI dir],.dptr [aS s],.dptr [aI i]]]) sr3 (Qkl (Qar [(dirE f dir),(Qae (!(Qav f i)) 6),(Qae (((Qab f i).kind)==2) 9),(Qaj s),(Qae (isB ((dirN f dir).l) s) 7),(Qae (decide (((Qab f i).links)≥64)) 12)]) f dir s i (Qab f i) b7 okf hp hs hi (Qdp okf hp i) (by have:=Qfn hp i;omega))) fun _=>
 .u 4 [b5]<|
 .f (.tup [.agg (fsyA (Qm3 f dir s i)),aI (Qdy f dir s i)]) [b5] (.tup [.agg [.sl 5 false ((if Qar [(dirE f dir),(Qae (!(Qav f i)) 6),(Qae (((Qab f i).kind)==2) 9),(Qaj s),(Qae (isB ((dirN f dir).l) s) 7),(Qae (decide (((Qab f i).links)≥64)) 12)]=0 then Qdu f dir s i (Qab f i) else f).l.map nodA),aI ((if Qar [(dirE f dir),(Qae (!(Qav f i)) 6),(Qae (((Qab f i).kind)==2) 9),(Qaj s),(Qae (isB ((dirN f dir).l) s) 7),(Qae (decide (((Qab f i).links)≥64)) 12)]=0 then Qdu f dir s i (Qab f i) else f).next)],aI (Qar [(dirE f dir),(Qae (!(Qav f i)) 6),(Qae (((Qab f i).kind)==2) 9),(Qaj s),(Qae (isB ((dirN f dir).l) s) 7),(Qae (decide (((Qab f i).links)≥64)) 12)])]) (by
  have e:Qdy f dir s i=Qar [(dirE f dir),(Qae (!(Qav f i)) 6),(Qae (((Qab f i).kind)==2) 9),(Qaj s),(Qae (isB ((dirN f dir).l) s) 7),(Qae (decide (((Qab f i).links)≥64)) 12)]:=by
   unfold Qdy;simp only [q1,W02,W0u,W0x,W0t]
  unfold Qm3;rw [e];exact sR))
end Go.Proofs.YtkhodpknpligpaaGreat

namespace Go.Proofs.YtkhodpknpligpaaGreat
open Go Go.RowKit Copyhold Go.Proofs.Tryz
open Copyhold.Name (Srt insE delE getE isAt)
theorem first5 {a b c d e:Int}:Qar [a,b,c,d,e]=if a=0 then (if b=0 then (if c=0 then (if d=0 then e else d) else c) else b) else a:=by
 unfold Qar;by_cases h:a=0<;>by_cases h2:b=0<;>by_cases h3:c=0<;>by_cases h4:d=0<;>by_cases h5:e=0<;>simp [h,h2,h3,h4,h5]
theorem first6 {a b c d e g:Int}:Qar [a,b,c,d,e,g]=if a=0 then (if b=0 then (if c=0 then (if d=0 then (if e=0 then g else e) else d) else c) else b) else a:=by
 unfold Qar;by_cases h:a=0<;>by_cases h2:b=0<;>by_cases h3:c=0<;>by_cases h4:d=0<;>by_cases h5:e=0<;>by_cases h6:g=0<;>simp [h,h2,h3,h4,h5,h6]
theorem Qts {b:Bool} {e:Int} (he:¬ e=0):Qae b e=0↔b=false:=by
 unfold Qae;cases b<;>simp [he]
theorem Qxj {f:Fsy} {i:Int} {d:Nod} (h:atF f i=some d):Qab f i=d:=(Qke h).2
theorem Zam {d:Nod} {l:List Ent} (h:nodP d) (hk:d.kind=2) (hl:rowP l):nodP (Qbj d l):=⟨h.1,h.2.1,h.2.2.1,.inl ⟨hk,(Qdr h hk).1,hl⟩⟩
def setL (f:Fsy) (d:Nod) (l:List Ent):Fsy:=putF f (Qbj d l)
theorem Qew {f:Fsy} {i:Int} {d:Nod} {l:List Ent} (h:Qat f) (hd:atF f i=some d) (hk:d.kind=2) (hl:rowP l):Qat (setL f d l)∧(setL f d l).l.length=f.l.length∧(setL f d l).next=f.next∧∀ j,atF (setL f d l) j=if j=i then some (Qbj d l) else atF f j:=by
 obtain ⟨g1,g2,g3⟩:=Qbf h hd;have hb:Qav f (Qbj d l).ino=true:=by show Qav f d.ino=true;rw [g3];exact (Qke hd).1
 refine ⟨Qrt h (Zam g1 hk hl) hb,Qua (Qah h) hb,Qlf g2,fun j=>?_⟩;have:=Qnr (n:=Qbj d l) (j:=j) (Qah h);rw [show (Qbj d l).ino=i from g3] at this;exact this
theorem Qiz {f:Fsy} {n m:Nod} {i:Int} (h:Qat f) (hd:atF f i=some m) (hi:n.ino=i) (hn:nodP n):Qat (putF f n)∧(putF f n).l.length=f.l.length∧(putF f n).next=f.next∧∀ j,atF (putF f n) j=if j=i then some n else atF f j:=by
 obtain ⟨g1,g2,g3⟩:=Qbf h hd;have hb:Qav f n.ino=true:=by rw [hi];exact (Qke hd).1
 exact ⟨Qrt h hn hb,Qua (Qah h) hb,Qlf (by omega),fun j=>by rw [Qnr (Qah h),hi]⟩
structure AddsP (f:Fsy) (dir:Int) (s:Txt) (n:Nod) (d:Nod):Prop where
 dir:atF f dir=some d
 kind:d.kind=2
 check:Qaj s=0
 away:isB d.l s=false
 few:f.l.length<256
 fewd:d.l.length<256
 node:nodP (addN f n)
 nol:n.l=[]
theorem Qq1 {f:Fsy} {dir:Int} {s:Txt} {n:Nod} (h:Qbq f dir s n=0):∃ d,AddsP f dir s n d:=by
 unfold Qbq at h;rw [first5] at h
 split at h
 ·rename_i h1
  split at h
  ·rename_i h2
   split at h
   ·rename_i h3
    split at h
    ·rename_i h4;obtain ⟨d,g1,g2,g3,_,_⟩:=Qx6 h1;rw [g3] at h3 h4;rw [Qts (by decide)] at h h3 h4;simp only [Bool.or_eq_false_iff,decide_eq_false_iff_not,Bool.not_eq_false'] at h h4;refine ⟨d,g1,g2,h2,h3,by omega,by omega,Qaf.1 h.1,W0l (by omega)⟩
    ·exact absurd h (by assumption)
   ·exact absurd h (by assumption)
  ·exact absurd h (by assumption)
 ·exact absurd h (by assumption)
theorem Qdq {f:Fsy} {dir:Int} {s:Txt} {i:Int} {d:Nod} (h:atF f dir=some d):enterF f dir s i=setL f d (entL d.l s i):=by unfold enterF setL;rw [Qxj h]
theorem Qjc {f:Fsy} {dir:Int} {s:Txt} {d:Nod} (h:atF f dir=some d):leaveF f dir s=setL f d (delL d.l s):=by unfold leaveF setL;rw [Qxj h]
theorem Zk5 {f:Fsy} {dir:Int} {s:Txt} {d n:Nod} {j:Int} (h1:atF f dir=some d) (h2:d.kind=2) (h3:Qaj s=0) (h4:getE (lI d.l) s=some j) (h5:atF f j=some n) (hf:Qdi n=false) :
  Qee f dir s=0∧Qkz f dir s=Qb6 f dir s n:=by
 obtain ⟨g1,g2⟩:=Qj3 h1 h2 h3 h4 h5;have e:Qee f dir s=0:=by unfold Qee;rw [Zkk,W1x g1,g2,hf];rfl
 exact ⟨e,by unfold Qkz;rw [W1x e,g2]⟩
theorem Zft {f:Fsy} (h:Qat f):atF f f.next=none:=by
 cases hc:atF f f.next with
 | none=>rfl
 | some n=>have:=Qbf h hc;omega
theorem Qpa {f:Fsy} {dir:Int} {s:Txt} {n:Nod} (hp:Qat f) (he:Qbq f dir s n=0) :
  Qat (addF f dir s (addN f n))∧Qb8 (addF f dir s (addN f n)) dir s=0∧lookN (addF f dir s (addN f n)) dir s=Qbj (addN f n) []∧Qee (addF f dir s (addN f n)) dir s=0 ∧
   Qkz (addF f dir s (addN f n)) dir s=⟨f.l,f.next+1⟩∧Qat ⟨f.l,f.next+1⟩∧Qb8 ⟨f.l,f.next+1⟩ dir s=6:=by
 obtain ⟨d,A⟩:=Qq1 he;obtain ⟨g1,g2,g3⟩:=Qbf hp A.dir;have hr:=Qah hp;have hrow:=(Qdr g1 A.kind).2;have hnx:1≤f.next:=hp.2.1;have hn:=Zft hp;have hne:¬ dir=f.next:=fun e=>by rw [← e,A.dir] at hn;cases hn
 have he0:=Qdg (n:=f.next) A.check hnx A.away A.fewd;have hrow2:=Qqo (n:=f.next) hrow A.check hnx A.away A.fewd;obtain ⟨s1,s2,s3,s4⟩:=Qew hp A.dir A.kind hrow2;have hX:nodP (Qbj (addN f n) []):=by
  have:=A.node;have hl:Qbj (addN f n) []=addN f n:=by unfold Qbj addN;rw [A.nol]
  rw [hl];exact this
 have hXi:(Qbj (addN f n) []).ino=f.next:=rfl;have eA:addF f dir s (addN f n)=putF (setL f d (entL d.l s f.next)) (Qbj (addN f n) []):=by
  unfold addF;rw [show (addN f n).ino=f.next from rfl,Qdq A.dir]
 have r1:Qat (addF f dir s (addN f n)):=by rw [eA];exact Zhc s1 hX (by rw [s2];exact A.few)
 have fA:∀ j,atF (addF f dir s (addN f n)) j=if j=f.next then some (Qbj (addN f n) []) else if j=dir then some (Qbj d (entL d.l s f.next)) else atF f j:=fun j=>by
  rw [eA,Qnr (Qah s1),hXi,s4]
 have nA:(addF f dir s (addN f n)).next=f.next+1:=by rw [eA,Qmd (by rw [hXi,s3]),s3]
 have dA:atF (addF f dir s (addN f n)) dir=some (Qbj d (entL d.l s f.next)):=by rw [fA,W1w hne,W1x rfl]
 have xA:atF (addF f dir s (addN f n)) f.next=some (Qbj (addN f n) []):=by rw [fA,W1x rfl]
 have gA:getE (lI (Qbj d (entL d.l s f.next)).l) s=some f.next:=by
  show getE (lI (entL d.l s f.next)) s=_;rw [Qqf (Qc4 hrow) he0 A.away,W1x rfl]
 obtain ⟨l1,l2⟩:=Qj3 dA A.kind A.check gA xA;have hfull:Qdi (Qbj (addN f n) [])=false:=by unfold Qdi;simp [Qbj]
 obtain ⟨t1,t2⟩:=Zk5 dA A.kind A.check gA xA hfull;have eL:leaveF (addF f dir s (addN f n)) dir s=setL (addF f dir s (addN f n)) (Qbj d (entL d.l s f.next)) d.l:=by
  rw [Qjc dA];show setL _ _ (delL (entL d.l s f.next) s)=_;rw [Zet (Qc4 hrow) he0 A.away]
 obtain ⟨u1,u2,u3,u4⟩:=Qew r1 dA A.kind hrow;have rN:Qat ⟨f.l,f.next+1⟩:=by
  obtain ⟨h1,h2,h3,h4⟩:=Qbe.1 hp;exact Qbe.2 ⟨h1,by show 1≤f.next+1;omega,fun x hx=>⟨(h3 x hx).1,by have:=(h3 x hx).2;show x.ino<f.next+1;omega⟩,h4⟩
 have eT:Qkz (addF f dir s (addN f n)) dir s=⟨f.l,f.next+1⟩:=by
  rw [t2];unfold Qb6;rw [W1x (by show (1:Int)-1<1;omega),eL,hXi];refine Quw (Qwq (Qah u1)) hr (fun j=>?_) (by show (setL _ _ _).next=f.next+1;rw [u3,nA]);rw [Qx5 (Qah u1),u4,fA];show _=atF f j;by_cases hj:j=f.next
  ·rw [W1x hj,hj,hn]
  ·rw [W1w hj,W1w hj];by_cases hd:j=dir
   ·rw [W1x hd,hd,A.dir];rfl
   ·rw [W1w hd,W1w hd]
 refine ⟨r1,l1,l2,t1,eT,rN,?_⟩;refine Qmq (d:=d) rN A.dir A.kind A.check ?_;have:=A.away;rw [Qgp] at this;cases hg:getE (lI d.l) s with
 | none=>rfl
 | some j=>rw [hg] at this;cases this
theorem Zk0 {f:Fsy} {dir:Int} {s:Txt} {n:Nod} (okf:OkF f) (hp:Qat f) (okn:OkN n) (hs:s.length≤1000000) (he:Qbq f dir s n=0) (hx:f.next<4611686018427387904):OkF (addF f dir s (addN f n)):=by
 obtain ⟨d,A⟩:=Qq1 he;have h1:f.l.length≤256:=hp.1;have h2:=(Qbf hp A.dir).2;have okd:=okf.2.2 d (Qdh A.dir);have hnx:1≤f.next:=hp.2.1;have he0:=Qdg (n:=f.next) A.check hnx A.away A.fewd;have okl:OkN (Qbj d (entL d.l s f.next)):=by
  refine ⟨okd.1,okd.2.1,okd.2.2.1,okd.2.2.2.1,?_,fun e hm=>?_⟩
  ·have:=Qne (l:=d.l) (s:=s) (n:=f.next);have:=A.fewd;show (entL d.l s f.next).length≤_;omega
  ·have hm':e∈entL d.l s f.next:=hm;unfold entL at hm';rw [W1x he0] at hm';rcases W04.1 hm' with h | h
   ·exact okd.2.2.2.2.2 e (W13 h)
   ·rcases W0y.1 h with rfl | h
    ·exact ⟨by show s.length≤_;omega,okf.1⟩
    ·exact okd.2.2.2.2.2 e (W2d h)
 have hf:=okf.1;have hs1:=Qme f.l (Qbj d (entL d.l s f.next));unfold addF;rw [show (addN f n).ino=f.next from rfl,Qdq A.dir];refine Qoi (Qoi okf okl (by show d.ino<_;omega) (by omega)) ?_ (by show f.next<_;omega) (by show (putN f.l _).length≤_;omega);have:=Qv1 (n:=n) okf okn;exact ⟨this.1,this.2.1,this.2.2.1,this.2.2.2.1,by show (0:Nat)≤_;omega,fun e h=>by cases h⟩
end Go.Proofs.YtkhodpknpligpaaGreat
