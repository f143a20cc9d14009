import Derived.Test.YtkhodpknpligpaaGreatAl
import Derived.Test.YtkhodpknpligpaaGreatMrgD
import Derived.ArgAppend
import Derived.Laws.MakeOwn
set_option linter.unusedVariables false
namespace Copyhold
open Go Go.RowKit
def FzS (y:Bx) (x x':AV):Prop:=∀ (D:Nat→Prop) (w:World) (v:Value),(∀ b,D b→b<w.heap.size)→BoxR D w y→Ra D w x v→Ra (fun b=>D b∨y.blk=some b) w x' v
theorem Fz.refl (y:Bx) (x:AV):FzS y x x:=fun D w v _ _ h=>h.frame (fun b h=>.inl h) (W0m _) (fun _ _ _=>rfl)
theorem Fz.any (y:Bx) (x:AV):FzS y x .any:=fun D w v _ _ _=>.any v
theorem Fz.sub {y:Bx} {x x' x'':AV} (h:FzS y x x') (hs:Sub x' x''):FzS y x x'':=fun D w v hD hy hx=>hs _ _ _ (h D w v hD hy hx)
theorem Fz.ptr (id b T off:Nat) (cs:List AV):FzS (.box b T cs) (.ptr id b off) (.dptr (cs.drop off)):=fun D w v hD hy h=>by
 cases h;obtain ⟨vs,h1,h2,h3,h4⟩:=hy;refine .dptr _ b off (fun j=>vs.getD (off+j) undef) (.inr rfl) h1.lt (fun j x hx=>?_) (fun j x hx=>?_)
 ·rw [W07] at hx;have hj:off+j<vs.size:=by rw [h2];exact (W0i.1 hx).1
  have hv:vs[off+j]?=some vs[off+j]:=by simp [hj]
  rw [h1.cell];simp only [Array.getD_eq_getD_getElem?,hv,W2j];exact ⟨trivial,h3 _ _ hv⟩
 ·rw [W07] at hx;have hj:off+j<vs.size:=by rw [h2];exact (W0i.1 hx).1
  have hv:vs[off+j]?=some vs[off+j]:=by simp [hj]
  simp only [Array.getD_eq_getD_getElem?,hv,W2j];exact (h4 _ x _ hx hv).frame (fun b h=>.inl h) (W0m _) (fun _ _ _=>rfl)
theorem Qqj {k:Nat}:∀ {xs:List (List AV)},(∀ e∈xs,e.length=k)→∀ (i:Nat) (e:List AV) (j:Nat) (x:AV),xs[i]?=some e→e[j]?=some x→xs.flatten[i*k+j]?=some x
 | [],_,i,e,j,x,he,_=>by simp at he
 | a :: r,h,i,e,j,x,he,hx=>by
  rw [W1f];have ha:a.length=k:=h a (by simp);cases i with
  | zero=>
   simp at he;subst he;rw [Nat.zero_mul,Nat.zero_add,W0o (W0i.1 hx).1];exact hx
  | succ i=>
   have:=Qqj (fun e' he'=>h e' (W11 _ he')) i e j x (by simpa using he) hx;rw [W0n (by rw [W2f];omega),W2f];rw [show i*k+k+j-a.length=i*k+j from by omega];exact this
theorem Fz.row (id n e k:Nat) (V:Value) (xs:List (List AV)) (hn:n=xs.length):FzS (.row V e k xs) (.rw id V n) (.sl k false xs):=fun D w v hD hy h=>by
 obtain ⟨hk,us,hown,hus,hru⟩:=hy;cases h with
 | rw id n c A=>
  subst hn;rcases hown.2 with ⟨he,h0⟩ | ⟨g,cap,cur,he,hb,hgg,hnc,_,_,htake⟩
  ·have hx0:xs=[]:=W0l h0;subst hx0;simp only [Value.slice.injEq] at he;obtain ⟨rfl,_,rfl⟩:=he;exact .sl k false [] none 0 0 0 (fun _ _=>undef) (W0m _) (fun h=>by cases h) (fun h=>absurd h (by simp)) (fun i e h=>by simp at h) (fun i e j x h=>by simp at h) (fun i e j x h=>by simp at h)
  ·simp only [Value.slice.injEq] at he;obtain ⟨rfl,_,rfl⟩:=he;have hcell:∀ (j:Nat) (u:Value),us[j]?=some u→w.cell? ⟨g,j,none⟩=some u:=fun j u hu=>by
    have:=hown.cells (g:=g) rfl j u hu
    rwa [Qbb,Nat.zero_add] at this
   have hlen:us.length=xs.flatten.length:=by rw [hown.1,Qho hk]
   have key:∀ (i:Nat) (e:List AV) (j:Nat) (x:AV),xs[i]?=some e→e[j]?=some x→∃ u,us[i*k+j]?=some u∧xs.flatten[i*k+j]?=some x:=fun i e j x he hx=>by
    have hf:=Qqj hk i e j x he hx;have hl:i*k+j<us.length:=by rw [hlen];exact (W0i.1 hf).1
    exact ⟨us[i*k+j],W0d hl,hf⟩
   refine .sl k false xs (some ⟨g,0,none⟩) c g 0 (fun i j=>us.getD (i*k+j) undef) hnc (fun h=>by cases h) (fun _=>⟨rfl,.inr rfl,(W06.1 hgg).1⟩)
    (fun i e he=>hk e (W0h he)) (fun i e j x he hx=>?_) (fun i e j x he hx=>?_)
   ·obtain ⟨u,hu,_⟩:=key i e j x he hx;simp only [Nat.zero_add,List.getD,hu,W2j];exact ⟨hcell _ u hu,hus u (W0h hu)⟩
   ·obtain ⟨u,hu,hf⟩:=key i e j x he hx;simp only [List.getD,hu,W2j];exact (hru _ x u hf hu).frame (fun b h=>.inl h) (W0m _) (fun _ _ _=>rfl)
def Qq5 (y:Bx):List AV→List AV→Prop
 | [],[]=>True
 | a :: r,b :: q=>FzS y a b∧Qq5 y r q
 | _,_=>False
theorem Qq5.ok {y:Bx}:∀ {xs ys:List AV},Qq5 y xs ys→xs.length=ys.length∧∀ (j:Nat) (a b:AV),xs[j]?=some a→ys[j]?=some b→FzS y a b
 | [],[],_=>⟨rfl,fun j x y h=>by simp at h⟩
 | x :: xs,z :: ys,h=>by
  obtain ⟨h1,h2⟩:=h;obtain ⟨h3,h4⟩:=Qq5.ok h2;refine ⟨by simp [h3],fun j a b ha hb=>?_⟩;cases j with
  | zero=>simp at ha hb;subst ha hb;exact h1
  | succ j=>exact h4 j a b (by simpa using ha) (by simpa using hb)
 | [],_ :: _,h=>h.elim
 | _ :: _,[],h=>h.elim
theorem Fz.aggs {y:Bx} {cs ds:List AV} (h:Qq5 y cs ds):FzS y (.agg cs) (.agg ds):=fun D w v hD hy hv=>by
 obtain ⟨hl,hs⟩:=h.ok;cases hv with
 | agg cs vs h1 h2 h3=>
  refine .agg ds vs (by omega) h2 (fun j z v hz hv=>?_);have hj:j<cs.length:=by have:=(W0i.1 hz).1;omega
  exact hs j cs[j] z (W0d hj) hz D w v hD hy (h3 j cs[j] v (W0d hj) hv)
theorem Fz.clo {y:Bx} {f:FuncId} {cs ds:List AV} (h:Qq5 y cs ds):FzS y (.clo f cs) (.clo f ds):=fun D w v hD hy hv=>by
 obtain ⟨hl,hs⟩:=h.ok;cases hv with
 | clo f cs vs h1 h2=>
  refine .clo f ds vs (by omega) (fun j z v hz hv=>?_);have hj:j<cs.length:=by have:=(W0i.1 hz).1;omega
  exact hs j cs[j] z (W0d hj) hz D w v hD hy (h2 j cs[j] v (W0d hj) hv)
inductive FzB (y:Bx):Bx→Bx→Prop
 | refl (z:Bx):FzB y z z
 | box (b T:Nat) (cs ds:List AV):Qq5 y cs ds→FzB y (.box b T cs) (.box b T ds)
theorem FzB.blk {y z z':Bx} (h:FzB y z z'):z'.blk=z.blk:=by cases h<;>rfl
theorem FzB.rep {y z z':Bx} (h:FzB y z z') {D:Nat→Prop} {w:World} (hD:∀ b,D b→b<w.heap.size) (hy:BoxR D w y) (hz:BoxR D w z):BoxR (fun b=>D b∨y.blk=some b) w z':=by
 cases h with
 | refl=>exact hz.frame (fun b h=>.inl h) (W0m _) (fun _ _ _=>rfl) (fun _ _=>rfl)
 | box b T cs ds h=>
  obtain ⟨hl,hs⟩:=h.ok;obtain ⟨vs,h1,h2,h3,h4⟩:=hz;refine ⟨vs,h1,by omega,h3,fun j a v ha hv=>?_⟩;have hj:j<cs.length:=by have:=(W0i.1 ha).1;omega
  exact hs j cs[j] a (W0d hj) ha D w v hD hy (h4 j cs[j] v (W0d hj) hv)
def fzT (y:Bx) (s:LS):List (Nat × AV)→Prop
 | []=>True
 | (t,x) :: r=>FzS y (lget s.tm t) x∧fzT y s r
def fzBs (y:Bx) (id:Nat) (s:LS):List (Nat × Bx)→Prop
 | []=>True
 | (i,z') :: r=>(Nat.beq i id=false∧∃ z,bget s.bx i=some z∧FzB y z z')∧fzBs y id s r
theorem Zkh {y:Bx} {s:LS}:∀ {l:List (Nat × AV)},fzT y s l→∀ t,FzS y (lget s.tm t) (lget l t)
 | [],_,t=>Fz.any _ _
 | (k,x) :: r,h,t=>by
  simp only [lget];cases hb:Nat.beq k t with
  | false=>exact Zkh h.2 t
  | true=>
   obtain rfl:=W0q hb;exact h.1
theorem Qqh {y:Bx} {id:Nat} {s:LS}:∀ {l:List (Nat × Bx)},fzBs y id s l→∀ i z',bget l i=some z'→i ≠ id∧∃ z,bget s.bx i=some z∧FzB y z z'
 | [],_,i,z',h=>by cases h
 | (k,x) :: r,h,i,z',hz=>by
  simp only [bget] at hz;cases hb:Nat.beq k i with
  | false=>
   rw [hb] at hz;exact Qqh h.2 i z' hz
  | true=>
   rw [hb] at hz;obtain rfl:=W0q hb;obtain rfl:=W0c hz;exact ⟨fun e=>(by have:=h.1.1;rw [e,Nat.beq_refl] at this;cases this),h.1.2⟩
theorem Zaf {c:Cx} {P:Program} {Q:Exit→FS→Prop} {code:Code} {s:LS} (id:Nat) (y:Bx) (s':LS) (hb:bget s.bx id=some y) (h1:fzT y s s'.tm) (h2:fzBs y id s s'.bx) (h:AWp c P code Q s'.fs):AWp c P code Q s.fs:=by
 rintro a w ⟨hc,D,hR⟩;obtain ⟨g1,g2⟩:=hR.bx id y hb;refine h a w ⟨hc,fun b=>D b∨y.blk=some b,hR.defers,hR.size,hR.below,fun b hb=>?_,⟨fun b hb=>.inl (hR.old.1 b hb),fun b hb=>?_⟩,fun t v hv=>?_,fun i x hx=>?_,fun i j x z hx hz hij g hg=>?_⟩
 ·rcases hb with h | h
  ·exact hR.dlt b h
  ·exact g2.lt h
 ·rcases hb with h | h
  ·exact hR.old.2 b h
  ·exact .inr (g1 b h).1
 ·exact Zkh h1 t D w v hR.dlt g2 (hR.tm t v hv)
 ·obtain ⟨hne,z,hz,hf⟩:=Qqh h2 i x hx;obtain ⟨k1,k2⟩:=hR.bx i z hz;refine ⟨fun g hg=>⟨(k1 g (hf.blk ▸ hg)).1,fun hd=>?_⟩,hf.rep hR.dlt g2 k2⟩;rcases hd with h | h
  ·exact (k1 g (hf.blk ▸ hg)).2 h
  ·exact hR.apart id i y z hb hz (Ne.symm hne) g h (hf.blk ▸ hg)
 ·obtain ⟨hne,x',hx',hf⟩:=Qqh h2 i x hx;obtain ⟨hne2,z',hz',hf2⟩:=Qqh h2 j z hz;rw [hf2.blk];exact hR.apart i j x' z' hx' hz' hij g (hf.blk ▸ hg)
theorem Qlj {P:Program} {o:Oper} {s:LS} {d:Nat} {e:TypeId} {k:Nat} {xs:List (List AV)} (hd:o.dst=some d) (hk:∀ l∈xs,l.length=k)
  (h:∀ (D:Nat→Prop) (w:World) (ρ:Operand→Value),opsR D w s.fs ρ o→∃ V w' us,(execOp ρ o).run P w=.ok (.value V) w'∧w.grownBy w' none∧w'.ownsRow w.heap.size e k V xs.length us∧(∀ u∈us,u.oneCell'=true) ∧
   ∀ (j:Nat) (a:AV) (u:Value),xs.flatten[j]?=some a→us[j]?=some u→Ra D w a u) :
  Qjs P o s.fs (fun x nb=>∃ V,x=.rw d V xs.length∧nb=some (d,.row V e k xs)):=by
 intro D w a Q K hD hops hbx hcont;obtain ⟨V,w',us,h2,hg,hown,hus,hru⟩:=h D w a.eval hops;unfold Oper.wp;rw [h2,Oper.upon_value];have hb:Below w.heap.size w w':=⟨hg.os,hg.tape,hg.output,hg.size,fun k hk=>hg.block k hk (by simp)⟩
 have hown0:w'.ownsRow 0 e k V xs.length us:=by
  refine ⟨hown.1,?_⟩;rcases hown.2 with h' | ⟨g,cap,cur,rfl,hg,r⟩
  ·exact .inl h'
  ·exact .inr ⟨g,cap,cur,rfl,W0j _,r⟩
 obtain ⟨A,c,hV,_⟩:=(Sl.of_owns hown).shape;refine hcont _ w' _ _ D ⟨V,rfl,rfl⟩ hb (fun _ h=>h) (fun b h=>⟨W08 (hD b h) hb.size,.inl h⟩) (by rw [hV];exact .rw d _ c A) (fun id y hy=>?_);obtain ⟨rfl,rfl⟩:=by simpa using hy
 refine ⟨fun g hg'=>?_,hk,us,hown0,hus,fun j a u ha hu=>(hru j a u ha hu).frame (fun _ h=>h) hb.size (fun b hd hl=>hb.block b hl)⟩;have:=Qe7 hown g hg';exact ⟨this.1,fun hd=>by have:=hD _ hd;omega⟩
theorem Quf (w:World) (e:TypeId) (k:Nat):w.ownsRow w.heap.size e k (.slice none 0 0) 0 []:=⟨by simp,.inl ⟨rfl,rfl⟩⟩
theorem Qpi {P:Program} {ops:Array Oper} {K:FS→Prop} {rest:List Nat} {i:Nat} {s:LS} {t e:TypeId} {k bytes d:Nat} {tt:Bool} {x0:AV} {xs ys:List (List AV)} {f:Value→LS}
  (h:appO ops s i=some (t,x0,.sl k tt ys,some d)) (hx0:Sub x0 (.sl k true xs)) (hn:bget s.bx d=none) (h1:1≤ys.length) (hkx:∀ l∈xs++ys,l.length=k) (hE:Qhz P t e k bytes=true) (h63:xs.length+ys.length≤140737488355327) (hby:(xs.length+ys.length)*bytes≤140737488355328)
  (hf:∀ V',(s.put (some d) (.rw d V' (xs++ys).length)).setB d (.row V' e k (xs++ys))=f V') (kk:∀ V',SeqR P ops K rest (f V').fs):SeqR P ops K (i :: rest) s.fs:=by
 obtain ⟨o,c,x,y,hi,hg,hop,rfl,hx,hy,hd⟩:=Qvy h;have hdef:o.dst=some d:=hd.symm;refine ⟨o,hi,.inr ⟨hg,.inr (.inl ⟨by rw [hop];rfl,_,Qlj (e:=e) (k:=k) (xs:=xs++ys) hdef hkx (fun D w ρ hops=>?_),?_⟩)⟩⟩
 ·obtain ⟨z,hEl⟩:=Qji hE;have hvx:=Qa2 hops x (by simp [hop,Op.operands,Call.operands]);have hvy:=Qa2 hops y (by simp [hop,Op.operands,Call.operands]);rw [← hx] at hvx
  replace hvx:=hx0 _ _ _ hvx
  rw [← hy] at hvy;obtain ⟨us,hsl,hus,hru⟩:=Qhb hvy;obtain ⟨vs,hslx,hvs,hrv⟩:=Qhb hvx;have hlx:vs.length=xs.flatten.length:=by
   obtain ⟨A,c,_,_,hl,_⟩:=hslx;rw [hl,Qho (fun l hl=>hkx l (by simp [hl]))]
  have hmax:xs.length+ys.length≤maxLen:=by unfold maxLen;omega
  have main:∃ V w',(Builtin.append_ #[t,t] o.type #[ρ x,ρ y]).run P w=.ok V w'∧w.grownBy w' none∧w'.ownsRow w.heap.size e k V (xs.length+ys.length) (vs++us):=by
   generalize hvv:ρ x=v at hvx hslx;cases hvx with
   | sl k t' xs A c b off vs' g1 g2 g3 g4 g5 g6=>
    have hc:c=xs.length:=g2 rfl;subst hc;cases A with
    | none=>
     have h0:¬ 0<xs.length:=fun h=>by have:=(g3 h).1;cases this
     have hx0:xs=[]:=W0l (by omega);subst hx0;have hv0:vs=[]:=W0l (by simpa using hlx);subst hv0;obtain ⟨V',w',r1,r2,r3,r4⟩:=Qth hEl w w.heap.size o.type (.slice none 0 0) 0 [] (Quf w e k) (ρ y) ys.length us hsl hus (by simpa using hmax) (by simpa using hby) (W0m _);exact ⟨V',w',r1,r3,by simpa using r2⟩
    | some ad=>
     obtain ⟨A',c',hA,hc',hl',hcells⟩:=hslx;simp only [Value.slice.injEq] at hA;obtain ⟨rfl,_,rfl⟩:=hA;obtain ⟨Ay,cy,hAy,hcy,hly,hcelly⟩:=hsl;obtain ⟨by',offy,rfl,hbk,hcl⟩:=hcelly h1;obtain ⟨ht,hinf,hzs,hsz⟩:=hEl;obtain ⟨ii,hii,hiz,his,hib⟩:=Qgq hinf;obtain ⟨V',w',r1,r2,r3⟩:=run_append_arg_grows (P:=P) w t o.type e ii z k bytes ht hii hiz his hib hzs hsz ad xs.length xs.length vs hl' (fun j u hu=>by
      have h0:0<xs.length:=by
       rcases Nat.eq_zero_or_pos xs.length with h | h
       ·rw [h] at hl';have:=(W0i.1 hu).1;omega
       ·exact h
      obtain ⟨b',off',hab,_,hc2⟩:=hcells h0;obtain rfl:=W0c hab;rw [Qbb];exact hc2 j u hu) ⟨by',offy,none⟩ ys.length cy us hly (fun j u hu=>by rw [Qbb];exact hcl j u hu) (by omega) hmax hby
     rw [← hAy] at r1;exact ⟨V',w',r1,r3,r2⟩
  obtain ⟨V,w',m1,m2,m3⟩:=main;refine ⟨V,w',vs++us,by simp [execOp,hop,resolve,invoke,builtin,m1],m2,by simpa using m3,fun u hu=>?_,fun j a u ha hu=>?_⟩
  ·rcases W04.1 hu with h | h
   ·exact hvs u h
   ·exact hus u h
  ·rw [W19] at ha;by_cases hj:j<xs.flatten.length
   ·rw [W0o hj] at ha;rw [W0o (by omega)] at hu;exact hrv j a u ha hu
   ·rw [W0n (by omega)] at ha;rw [W0n (by omega),hlx] at hu;exact hru _ a u ha hu
 ·rintro z nb ⟨V',rfl,rfl⟩;refine ⟨fun id y hy=>?_,?_⟩
  ·obtain ⟨rfl,rfl⟩:=by simpa using hy
   exact hn
  ·have:=kk V';rw [← hf V',← LS.fs_setB,← LS.fs_put] at this;rw [hdef];exact this
def bndA (s:LS):Option Operand→Option (Option Int)
 | none=>some none
 | some y=>
  match s.ev y with
  | .val (.int .i64 n)=>some (some n)
  | _=>none
def slcO (P:Program) (ops:Array Oper) (s:LS) (i:Nat):Option (AV × Option Int × Option Int × Option Int × Option Tmp):=
 match opAt ops s i with
 | some o=>
  match o.op with
  | .slice t x lo hi mx=>
   match bndA s lo,bndA s hi,bndA s mx with
   | some l,some h,some m=>
    match s.ev x,P.underlying t with
    | .sl k tt xs,some (.slice e)=>
     match szP P e with
     | some k'=>bif Nat.beq k k' then some (.sl k tt xs,l,h,m,o.dst) else none
     | none=>none
    | .val (.string b),some .string=>some (.val (.string b),l,h,m,o.dst)
    | _,_=>none
   | _,_,_=>none
  | _=>none
 | none=>none
theorem Qf6 {D:Nat→Prop} {w:World} {s:LS} {ρ:Operand→Value} {o:Oper} (hops:opsR D w s.fs ρ o) {x:Option Operand} {n:Option Int} (h:bndA s x=some n) (hm:∀ y,x=some y→y∈o.op.operands):x.map ρ=n.map (fun z=>.int .i64 z):=by
 cases x with
 | none=>
  simp only [bndA,W0k] at h;subst h;rfl
 | some y=>
  simp only [bndA] at h
  split at h
  ·rename_i z hz;obtain rfl:=W0c h;have hv:=Qa2 hops y (hm y rfl);rw [hz] at hv;generalize hvv:ρ y=v at hv;cases hv;simp [hvv]
  ·cases h
end Copyhold

set_option linter.unusedSimpArgs false
namespace Copyhold
open Go Go.RowKit
def loOk (lo:Option Int) (a:Nat):Prop:=(lo=none∧a=0)∨lo=some (a:Int)
def hiOk (hi:Option Int) (b n:Nat):Prop:=(hi=none∧b=n)∨hi=some (b:Int)
def mxOk (mx hi:Option Int) (b:Nat) (t t':Bool) (n:Nat):Prop:=(mx=none∧(t'=true→t=true∧b=n))∨(mx=some (b:Int)∧hi.isSome=true)
theorem Qtx {P:Program} {ops:Array Oper} {s:LS} {i:Nat} {x:AV} {l h m:Option Int} {d:Option Tmp} (hh:slcO P ops s i=some (x,l,h,m,d)) :
  ∃ o t y lo hi mx,ops[i]?=some o∧gd ops s.fs o=some true∧o.op=.slice t y lo hi mx∧x=s.ev y∧bndA s lo=some l∧bndA s hi=some h∧bndA s mx=some m∧d=o.dst ∧
   ((∃ k tt xs e,x=.sl k tt xs∧P.underlying t=some (.slice e)∧szP P e=some k)∨∃ b,x=.val (.string b)∧P.underlying t=some .string):=by
 unfold slcO at hh
 split at hh
 ·rename_i o ho;obtain ⟨hi,hg⟩:=Qbl ho
  split at hh
  ·rename_i t y lo hi' mx hop
   split at hh
   ·rename_i l' h' m' h1 h2 h3
    split at hh
    ·rename_i k tt xs e hx hu
     split at hh
     ·rename_i k' hk';cases hb:Nat.beq k k' with
      | false=>rw [hb] at hh;cases hh
      | true=>
       rw [hb] at hh;obtain rfl:=W0q hb;simp only [cond_true,W0k,W0s] at hh;obtain ⟨rfl,rfl,rfl,rfl,rfl⟩:=hh;exact ⟨o,t,y,lo,hi',mx,hi,hg,hop,hx.symm,h1,h2,h3,rfl,.inl ⟨k,tt,xs,e,rfl,hu,hk'⟩⟩
     ·cases hh
    ·rename_i b hx hu;simp only [W0k,W0s] at hh;obtain ⟨rfl,rfl,rfl,rfl,rfl⟩:=hh;exact ⟨o,t,y,lo,hi',mx,hi,hg,hop,hx.symm,h1,h2,h3,rfl,.inr ⟨b,rfl,hu⟩⟩
    ·cases hh
   ·cases hh
  ·cases hh
 ·cases hh
def mxN (mx:Option Int) (c b:Nat):Nat:=if mx.isSome then b else c
theorem Qhc (P:Program) (w:World) (isS:Bool) (n c a b:Nat) (lo hi mx:Option Int) (hlo:loOk lo a) (hhi:hiOk hi b n) (hmx:mx=none∨(mx=some (b:Int)∧hi.isSome=true)) (hab:a≤b) (hbn:b≤n) (hnc:n≤c) :
  (Instr.sliceBounds isS n c (lo.map fun z=>.int .i64 z) (hi.map fun z=>.int .i64 z) (mx.map fun z=>.int .i64 z)).run P w=.ok (a,b,mxN mx c b) w:=by
 have e0:b≤c:=by omega
 have e1:(b:Int)≤(c:Int):=by omega
 have e2:(a:Int)≤(b:Int):=by omega
 have e3:(a:Int)≤(n:Int):=by omega
 rcases hlo with ⟨rfl,rfl⟩ | rfl<;>rcases hhi with ⟨rfl,rfl⟩ | rfl<;>rcases hmx with rfl | ⟨rfl,hs⟩<;>(try (cases hs;done)) <;>
  simp [Instr.sliceBounds,Instr.sliceBound,asIntOf,mxN,e0,e1,e2,e3,hab,hbn]
theorem Zlg {P:Program} {ops:Array Oper} {K:FS→Prop} {rest:List Nat} {i:Nat} {s s':LS} {k:Nat} {tt:Bool} {xs:List (List AV)} {l h m:Option Int} {d:Option Tmp} (a b:Nat) (t':Bool)
  (hh:slcO P ops s i=some (.sl k tt xs,l,h,m,d)) (hlo:loOk l a) (hhi:hiOk h b xs.length) (hmx:mxOk m h b tt t' xs.length) (hab:a≤b) (hbn:b≤xs.length)
  (hs:s.put d (.sl k t' ((xs.take b).drop a))=s') (kk:SeqR P ops K rest s'.fs):SeqR P ops K (i :: rest) s.fs:=by
 subst hs;obtain ⟨o,t,y,lo,hi,mx,hi2,hg,hop,hx,h1,h2,h3,rfl,hty⟩:=Qtx hh;refine ⟨o,hi2,.inr ⟨hg,.inl ⟨.sl k t' ((xs.take b).drop a),.inl fun D w ρ hops=>?_,by rw [LS.fs_put];exact kk⟩⟩⟩;have hv:=Qa2 hops y (by simp [hop,Op.operands]);rw [← hx] at hv;have m1:=Qf6 hops h1 (fun y e=>by simp [hop,Op.operands,e]);have m2:=Qf6 hops h2 (fun y e=>by simp [hop,Op.operands,e]);have m3:=Qf6 hops h3 (fun y e=>by simp [hop,Op.operands,e]);rcases hty with ⟨k',tt',xs',e,he,hu,hsz⟩ | ⟨bb,he,_⟩
 ·simp only [AV.sl.injEq] at he;obtain ⟨rfl,rfl,rfl⟩:=he;generalize hvv:ρ y=v at hv;cases hv with
  | sl k t xs A c bk off vs g1 g2 g3 g4 g5 g6=>
   have hb:=Qhc P w true xs.length c a b l h m hlo hhi (by rcases hmx with h | h;exact .inl h.1;exact .inr h) hab hbn g1;have hlen:((xs.take b).drop a).length=b-a:=by simp;omega
   obtain ⟨M,hM⟩:∃ M,M=mxN m c b:=⟨_,rfl⟩
   rw [← hM] at hb;have hMb:b≤M:=by
    rw [hM];unfold mxN
    split<;>omega
   refine ⟨.slice (if M=a then A else A.map (·.add (a*k))) (b-a) (M-a),?_,?_⟩
   ·simp [execOp,hop,hvv,Instr.sliceAt,Instr.slice,run_underlying hu,m1,m2,m3,hb,Qcy hsz]
   ·have key:=Ra.sl (D:=D) (w:=w) k t' ((xs.take b).drop a) (if M=a then A else A.map (·.add (a*k))) (M-a) bk (off+a*k) (fun i j=>vs (a+i) j) (by rw [hlen];omega) (fun ht=>by
      rw [hlen,hM];rcases hmx with ⟨rfl,hq⟩ | ⟨rfl,_⟩
      ·obtain ⟨q1,q2⟩:=hq ht;have:=g2 q1;simp [mxN];omega
      ·simp [mxN]) (fun h0=>by
      rw [hlen] at h0;obtain ⟨rfl,hD,hl⟩:=g3 (by omega);rw [W1w (by omega)];exact ⟨by simp [Qbb],hD,hl⟩) (fun i e he=>by
      rw [W07,W1b] at he
      split at he
      ·exact g4 _ e he
      ·cases he) (fun i e j x he hx=>by
      rw [W07,W1b] at he
      split at he
      ·have:=g5 _ e j x he hx;rw [show off+a*k+(i*k+j)=off+((a+i)*k+j) from by rw [Nat.add_mul];omega];exact this
      ·cases he) (fun i e j x he hx=>by
      rw [W07,W1b] at he
      split at he
      ·exact g6 _ e j x he hx
      ·cases he)
    rw [hlen] at key;exact key
 ·cases he
theorem Zgz {P:Program} {ops:Array Oper} {K:FS→Prop} {rest:List Nat} {i:Nat} {s s':LS} {tx:List UInt8} {l h:Option Int} {d:Option Tmp} (a b:Nat)
  (hh:slcO P ops s i=some (.val (.string ⟨⟨tx⟩⟩),l,h,none,d)) (hlo:loOk l a) (hhi:hiOk h b tx.length) (hab:a≤b) (hbn:b≤tx.length)
  (hs:s.put d (.val (.string ⟨⟨(tx.take b).drop a⟩⟩))=s') (kk:SeqR P ops K rest s'.fs):SeqR P ops K (i :: rest) s.fs:=by
 subst hs;obtain ⟨o,t,y,lo,hi,mx,hi2,hg,hop,hx,h1,h2,h3,rfl,hty⟩:=Qtx hh;refine ⟨o,hi2,.inr ⟨hg,.inl ⟨.val (.string ⟨⟨(tx.take b).drop a⟩⟩),.inl fun D w ρ hops=>?_,by rw [LS.fs_put];exact kk⟩⟩⟩;have hv:=Qa2 hops y (by simp [hop,Op.operands]);rw [← hx] at hv;have m1:=Qf6 hops h1 (fun y e=>by simp [hop,Op.operands,e]);have m2:=Qf6 hops h2 (fun y e=>by simp [hop,Op.operands,e]);have m3:=Qf6 hops h3 (fun y e=>by simp [hop,Op.operands,e]);rcases hty with ⟨k',tt',xs',e,he,hu,hsz⟩ | ⟨bb,he,hu⟩
 ·cases he
 ·generalize hvv:ρ y=v at hv;cases hv;have hb:=Qhc P w false tx.length tx.length a b l h none hlo hhi (.inl rfl) hab hbn (W0m _);have hsz:(⟨⟨tx⟩⟩:ByteArray).size=tx.length:=rfl;have hmx:mx.map ρ=none:=by rw [m3];rfl
  refine ⟨_,?_,.val _⟩;have hb':(Instr.sliceBounds false tx.length tx.length (lo.map ρ) (hi.map ρ) none).run P w=.ok (a,b,tx.length) w:=by
   rw [m1,m2];exact hb
  have hp:=Qza tx a b;simp [execOp,hop,hvv,Instr.sliceAt,Instr.slice,run_underlying hu,hmx,hsz,hb'];exact hp
theorem Zg1 {P:Program} {ops:Array Oper} {K:FS→Prop} {rest:List Nat} {i:Nat} {s s':LS} {o:Oper} {t:TypeId} {x n:Operand} {tx:List UInt8} {d:Option Tmp} (j:Nat) (c:UInt8) {m:Int}
  (ho:opAt ops s i=some o) (hop:o.op=.index t x n) (hu:P.underlying t=some .string) (hx:s.ev x=.val (.string ⟨⟨tx⟩⟩)) (hn:s.ev n=.val (.int .i64 m)) (hm:m=(j:Int)) (hc:tx[j]?=some c)
  (hs:s.put o.dst (.val (.int .u8 (c.toNat:Int)))=s') (kk:SeqR P ops K rest s'.fs):SeqR P ops K (i :: rest) s.fs:=by
 subst hs hm;obtain ⟨hi,hg⟩:=Qbl ho;refine ⟨o,hi,.inr ⟨hg,.inl ⟨_,.inl fun D w ρ hops=>?_,by rw [LS.fs_put];exact kk⟩⟩⟩;have hvx:=Qa2 hops x (by simp [hop,Op.operands]);have hvn:=Qa2 hops n (by simp [hop,Op.operands]);rw [hx] at hvx;rw [hn] at hvn;generalize hxv:ρ x=vx at hvx;generalize hnv:ρ n=vn at hvn;cases hvx;cases hvn;refine ⟨_,?_,.val _⟩;have hj:j<tx.length:=(W0i.1 hc).1;have hb:(⟨⟨tx⟩⟩:ByteArray)[j]?=some c:=by
  have hsz:j<(⟨⟨tx⟩⟩:ByteArray).size:=hj;rw [getElem?_pos (⟨⟨tx⟩⟩:ByteArray) j hsz];have:=(W0i.1 hc).2;rw [← this];rfl
 simp [execOp,hop,hxv,hnv,Instr.index,asIntOf,run_underlying hu,hb]
theorem Qnt {P:Program} {ops:Array Oper} {K:FS→Prop} {rest:List Nat} {i:Nat} {s s':LS} {t e:TypeId} {k bytes:Nat} {d:Option Tmp} {tt t0:Bool} {xs:List (List AV)}
  (h:appO ops s i=some (t,.sl k t0 xs,.sl k tt [],d)) (hE:Qhz P t e k bytes=true) (hs:s.put d (.sl k t0 xs)=s') (kk:SeqR P ops K rest s'.fs):SeqR P ops K (i :: rest) s.fs:=by
 subst hs;obtain ⟨o,c,x,y,hi,hg,hop,rfl,hx,hy,rfl⟩:=Qvy h;refine ⟨o,hi,.inr ⟨hg,.inr (.inl ⟨by rw [hop];rfl,fun z nb=>z=.sl k t0 xs∧nb=none,?_,?_⟩)⟩⟩
 ·intro D w a Q K' hD hops hbx hcont;obtain ⟨z,hEl⟩:=Qji hE;obtain ⟨ht,hinf,hzs,hsz⟩:=hEl;obtain ⟨ii,hii,hiz,his,hib⟩:=Qgq hinf;have hvx:=Qa2 hops x (by simp [hop,Op.operands,Call.operands]);have hvy:=Qa2 hops y (by simp [hop,Op.operands,Call.operands]);rw [← hx] at hvx;rw [← hy] at hvy;have hvx':=hvx;generalize hxv:a.eval x=vx at hvx hvx';generalize hyv:a.eval y=vy at hvy;cases hvx with
  | sl k t xs A c b off vs g1 g2 g3 g4 g5 g6=>
   cases hvy with
   | sl k t ys A' c' b' off' vs' q1 q2 q3 q4 q5 q6=>
    have hrun:(execOp a.eval o).run P w=.ok (.value (.slice A xs.length c)) w:=by
     have hl0:(loadCells ⟨0,0,none⟩ 0).run P w=.ok #[] w:=rfl;cases A'<;>cases A<;>simp [execOp,hop,resolve,invoke,builtin,hxv,hyv,Builtin.append_,run_underlying ht,Go.sizeOf,typeInfo,hii,Builtin.lenOf,Builtin.firstCells,g1,storeCells,loadCells,loadCellsFrom]
    unfold Oper.wp;rw [hrun,Oper.upon_value];exact hcont _ w _ none D ⟨rfl,rfl⟩ (Below.refl _ _) (fun _ h=>h) (fun b h=>⟨hD b h,.inl h⟩) hvx' (fun id y h=>by cases h)
 ·rintro z nb ⟨rfl,rfl⟩;refine ⟨fun id y h=>(by cases h),?_⟩;simp only [FS.addB];rw [LS.fs_put];exact kk
theorem Zg0 {P:Program} {ops:Array Oper} {K:FS→Prop} {rest:List Nat} {i:Nat} {s:LS} {o:Oper} {t e:TypeId} {l c:Operand} {k bytes d cap:Nat} {m:Int} {f:Value→LS}
  (ho:opAt ops s i=some o) (hop:o.op=.makeSlice t l c) (hl:s.ev l=.val (.int .i64 0)) (hc:s.ev c=.val (.int .i64 m)) (hm:m=(cap:Int)) (hd:o.dst=some d) (hn:bget s.bx d=none) (hE:Qhz P t e k bytes=true)
  (hby:bytes*cap≤140737488355328) (h63:cap≤140737488355327)
  (hf:∀ V',(s.put (some d) (.rw d V' 0)).setB d (.row V' e k [])=f V') (kk:∀ V',SeqR P ops K rest (f V').fs):SeqR P ops K (i :: rest) s.fs:=by
 subst hm;obtain ⟨hi,hg⟩:=Qbl ho;refine ⟨o,hi,.inr ⟨hg,.inr (.inl ⟨by rw [hop];rfl,_,Qlj (e:=e) (k:=k) (xs:=[]) hd (by simp) (fun D w ρ hops=>?_),?_⟩)⟩⟩
 ·obtain ⟨z,hEl⟩:=Qji hE;obtain ⟨ht,hinf,hzs,hsz⟩:=hEl;obtain ⟨ii,hii,hiz,his,hib⟩:=Qgq hinf;have hvl:=Qa2 hops l (by simp [hop,Op.operands]);have hvc:=Qa2 hops c (by simp [hop,Op.operands]);rw [hl] at hvl;rw [hc] at hvc;generalize hlv:ρ l=vl at hvl;generalize hcv:ρ c=vc at hvc;cases hvl;cases hvc;obtain ⟨w',h1,h2,h3⟩:=run_make_own (P:=P) w w.heap.size t e ii z k ht hii hiz his .i64 .i64 cap (by rw [hib];omega) (by unfold maxLen;omega) (W0m _);exact ⟨_,w',[],by simp [execOp,hop,hlv,hcv,h1],h3,h2,by simp,fun j a u ha=>by simp at ha⟩
 ·rintro z nb ⟨V',rfl,rfl⟩;refine ⟨fun id y hy=>?_,?_⟩
  ·obtain ⟨rfl,rfl⟩:=by simpa using hy
   exact hn
  ·have:=kk V';rw [← hf V',← LS.fs_setB,← LS.fs_put] at this;rw [hd];exact this
theorem Zbi {P:Program} {ops:Array Oper} {K:FS→Prop} {rest:List Nat} {i:Nat} {s:LS} {o:Oper} {t yt e:TypeId} {x y:Operand} {k d:Nat} {tt:Bool} {xs:List (List AV)} {f:Bool→LS}
  (ho:opAt ops s i=some o) (hop:o.op=.binOp .eql t x y yt) (hu:P.underlying t=some (.slice e)) (hx:s.ev x=.sl k tt xs) (hy:s.ev y=.val (.slice none 0 0)) (hd:o.dst=some d)
  (hf:∀ b,s.put (some d) (.val (.bool b))=f b) (kk:∀ b,(b=true→xs=[])→SeqR P ops K rest (f b).fs):SeqR P ops K (i :: rest) s.fs:=by
 obtain ⟨hi,hg⟩:=Qbl ho;refine ⟨o,hi,.inr ⟨hg,.inr (.inl ⟨by rw [hop];simp [isRd,hu],fun z nb=>(∃ b,z=.val (.bool b)∧(b=true→xs=[]))∧nb=none,?_,?_⟩)⟩⟩
 ·intro D w a Q K' hD hops hbx hcont;have hvx:=Qa2 hops x (by simp [hop,Op.operands]);have hvy:=Qa2 hops y (by simp [hop,Op.operands]);rw [hx] at hvx;rw [hy] at hvy;generalize hxv:a.eval x=vx at hvx;generalize hyv:a.eval y=vy at hvy;cases hvy;cases hvx with
  | sl k t' xs A c b off vs h1 h2 h3 h4 h5 h6=>
   have hq:∀ w:World,(Op.equal t (.slice A xs.length c) (.slice none 0 0)).run P w=.ok A.isNone w:=fun w=>by
    unfold Op.equal;rw [show Op.maxDepth=9999+1 from rfl,Op.equalIn];cases A<;>simp [run_underlying hu]
   have hrun:(execOp a.eval o).run P w=.ok (.value (.bool A.isNone)) w:=by
    simp [execOp,hop,hxv,hyv,eqGuard,binOp,hq]
   unfold Oper.wp;rw [hrun,Oper.upon_value];refine hcont _ w _ none D ⟨⟨A.isNone,rfl,fun hn=>?_⟩,rfl⟩ (Below.refl _ _) (fun _ h=>h) (fun b h=>⟨hD b h,.inl h⟩) (.val _) (fun id y h=>by cases h);cases A with
   | some a=>cases hn
   | none=>
    refine W0l ?_;rcases Nat.eq_zero_or_pos xs.length with h | h
    ·exact h
    ·exact absurd (h3 h).1 (by simp)
 ·rintro z nb ⟨⟨b,rfl,hb⟩,rfl⟩;refine ⟨fun id y h=>(by cases h),?_⟩;simp only [FS.addB];have:=kk b hb;rw [← hf b,← LS.fs_put] at this;rw [hd];exact this
def Qq2 (P:Program) (f:FuncId) (args:List AV) (e k:Nat) (xs:List (List AV)):Prop:=
 ∀ (D:Nat→Prop) (w:World) (vs:Array Value),(∀ b,D b→b<w.heap.size)→Qc8 D w args vs →
  Calls P f vs w (fun r w'=>∃ V us,r=.returned V∧Below w.heap.size w w'∧w'.ownsRow w.heap.size e k V xs.length us∧(∀ u∈us,u.oneCell'=true)∧∀ (j:Nat) (a:AV) (u:Value),xs.flatten[j]?=some a→us[j]?=some u→Ra D w' a u)
theorem Qty {P:Program} {ops:Array Oper} {K:FS→Prop} {rest:List Nat} {i:Nat} {s:LS} {f:FuncId} {args args':List AV} {d e k:Nat} {xs:List (List AV)} {g:Value→LS} (h:Qk5 ops s i=some (f,args,some d))
  (heg:∀ vs w,(callFunc f vs).run P w=.ok (.enter f vs) w) (hsub:Qc0 args args') (hkx:∀ l∈xs,l.length=k) (hsp:Qq2 P f args' e k xs) (hn:bget s.bx d=none)
  (hf:∀ V',(s.put (some d) (.rw d V' xs.length)).setB d (.row V' e k xs)=g V') (kk:∀ V',SeqR P ops K rest (g V').fs):SeqR P ops K (i :: rest) s.fs:=by
 unfold Qk5 at h
 split at h
 ·rename_i o ho;obtain ⟨hi,hg⟩:=Qbl ho
  split at h
  ·rename_i c hop
   split at h
   ·rename_i fo hc;have hrd:isRd P o.op=false:=by
     obtain ⟨callee,cargs,cts⟩:=c;simp only at hc;subst hc;rw [hop];rfl
    have core:o.dst=some d→(∀ (D:Nat→Prop) (w:World) (ρ:Operand→Value),opsR D w s.fs ρ o→∃ vs,(execOp ρ o).run P w=(callFunc f vs).run P w∧Qc8 D w args vs)→SeqR P ops K (i :: rest) s.fs:=by
     intro hd hrun;refine ⟨o,hi,.inr ⟨hg,.inr (.inl ⟨hrd,fun z nb=>∃ V,z=.rw d V xs.length∧nb=some (d,.row V e k xs),?_,?_⟩)⟩⟩
     ·intro D w a Q K' hD hops hbx hcont;obtain ⟨hl,hsa⟩:=hsub.ok;obtain ⟨vs,h1,h2⟩:=hrun D w a.eval hops;have hra:Qc8 D w args' vs:=by
       refine ⟨by rw [← hl];exact h2.1,fun j x v hx hv=>?_⟩;have hj:j<args.length:=by have:=(W0i.1 hx).1;omega
       exact hsa j args[j] x (W0d hj) hx D w v (h2.2 j args[j] v (W0d hj) hv)
      unfold Oper.wp;rw [h1,heg,Oper.upon_enter];refine (hsp D w _ hD hra).mono ?_;rintro r w' ⟨V,us,rfl,hb,hown,hus,hru⟩;have hown0:w'.ownsRow 0 e k V xs.length us:=by
       refine ⟨hown.1,?_⟩;rcases hown.2 with h' | ⟨g,cap,cur,rfl,hg,r⟩
       ·exact .inl h'
       ·exact .inr ⟨g,cap,cur,rfl,W0j _,r⟩
      obtain ⟨A,cc,hV,_⟩:=(Sl.of_owns hown).shape;refine hcont _ w' _ _ D ⟨V,rfl,rfl⟩ hb (fun _ h=>h) (fun b h=>⟨W08 (hD b h) hb.size,.inl h⟩) (by rw [hV];exact .rw d _ cc A) (fun id y hy=>?_);obtain ⟨rfl,rfl⟩:=by simpa using hy
      refine ⟨fun g hg'=>?_,hkx,us,hown0,hus,hru⟩;have:=Qe7 hown g hg';exact ⟨this.1,fun hd=>by have:=hD _ hd;omega⟩
     ·rintro z nb ⟨V',rfl,rfl⟩;refine ⟨fun id y hy=>?_,?_⟩
      ·obtain ⟨rfl,rfl⟩:=by simpa using hy
       exact hn
      ·have:=kk V';rw [← hf V',← LS.fs_setB,← LS.fs_put] at this;rw [hd];exact this
    split at h
    ·rename_i g' hfv;simp only [W0k,W0s] at h;obtain ⟨rfl,rfl,hd⟩:=h;refine core hd (fun D w ρ hops=>⟨c.args.map ρ,?_,Qkf hop hops⟩);have hvf:=Qa2 hops fo (by simp [hop,Op.operands,Call.operands,hc]);rw [hfv] at hvf;generalize hfv':ρ fo=vf at hvf;cases hvf;simp [execOp,hop,resolve,hc,hfv',Deferred.ofValue,invoke]
    ·rename_i g' caps hfv;simp only [W0k,W0s] at h;obtain ⟨rfl,rfl,hd⟩:=h;refine core hd (fun D w ρ hops=>?_);have hvf:=Qa2 hops fo (by simp [hop,Op.operands,Call.operands,hc]);rw [hfv] at hvf;generalize hfv':ρ fo=vf at hvf;cases hvf with
     | clo g caps vs h1 h2=>
      obtain ⟨a1,a2⟩:=Qkf hop hops;refine ⟨c.args.map ρ++vs,by simp [execOp,hop,resolve,hc,hfv',Deferred.ofValue,invoke],by simp;omega,fun j x v hx hv=>?_⟩;by_cases hj:j<(c.args.map ρ).size
      ·rw [W2b hj] at hv;rw [W0o (by omega)] at hx;exact a2 j x v hx hv
      ·rw [Array.getElem?_append_right (by omega)] at hv;rw [W0n (by omega),a1] at hx;exact h2 _ x v hx hv
    ·cases h
   ·cases h
  ·cases h
 ·cases h
theorem SubB.of_eq {y y':Bx} (h:y=y'):SubB y y':=h ▸ SubB.refl y
theorem Sub.sl2 {k:Nat} {t:Bool} {xs ys:List (List AV)} (hl:xs.length=ys.length) (hk:∀ (i:Nat) (e e':List AV),xs[i]?=some e→ys[i]?=some e'→Qc0 e e'):Sub (.sl k t xs) (.sl k t ys):=fun D w v h=>by
 cases h with
 | sl k t xs A c b off vs h1 h2 h3 h4 h5 h6=>
  rw [hl];have get:∀ (i:Nat) (e':List AV),ys[i]?=some e'→∃ e,xs[i]?=some e∧Qc0 e e':=fun i e' he=>by
   have hi:i<xs.length:=by have:=(W0i.1 he).1;omega
   exact ⟨xs[i],W0d hi,hk i _ e' (W0d hi) he⟩
  have gx:∀ (i:Nat) (e':List AV) (j:Nat) (y:AV),ys[i]?=some e'→e'[j]?=some y→∃ e x,xs[i]?=some e∧e[j]?=some x∧Sub x y:=fun i e' j y he hy=>by
   obtain ⟨e,h1,h2⟩:=get i e' he;obtain ⟨g1,g2⟩:=h2.ok;have hj:j<e.length:=by have:=(W0i.1 hy).1;omega
   exact ⟨e,e[j],h1,W0d hj,g2 j _ y (W0d hj) hy⟩
  refine .sl k t ys A c b off vs (by omega) (fun ht=>by rw [h2 ht,hl]) (fun h0=>h3 (by omega)) (fun i e' he=>?_) (fun i e' j y he hy=>?_) (fun i e' j y he hy=>?_)
  ·obtain ⟨e,g1,g2⟩:=get i e' he;rw [← g2.ok.1];exact h4 i e g1
  ·obtain ⟨e,x,g1,g2,g3⟩:=gx i e' j y he hy;exact h5 i e j x g1 g2
  ·obtain ⟨e,x,g1,g2,g3⟩:=gx i e' j y he hy;exact g3 D w _ (h6 i e j x g1 g2)
end Copyhold

namespace Copyhold
open Go Go.RowKit
def nilO (P:Program) (ops:Array Oper) (s:LS) (i:Nat):Option (Nat × Bool × List (List AV) × Nat):=
 match opAt ops s i with
 | some o=>
  match o.op,o.dst with
  | .binOp .eql t x y _,some d=>
   match P.underlying t,s.ev x,s.ev y with
   | some (.slice _),.sl k tt xs,.val (.slice none 0 0)=>some (k,tt,xs,d)
   | _,_,_=>none
  | _,_=>none
 | none=>none
theorem seqNil {P:Program} {ops:Array Oper} {K:FS→Prop} {rest:List Nat} {i:Nat} {s:LS} {k d:Nat} {tt:Bool} {xs:List (List AV)} {f:Bool→LS} (h:nilO P ops s i=some (k,tt,xs,d))
  (hf:∀ b,s.put (some d) (.val (.bool b))=f b) (kk:∀ b,(b=true→xs=[])→SeqR P ops K rest (f b).fs):SeqR P ops K (i :: rest) s.fs:=by
 unfold nilO at h
 split at h
 ·rename_i o ho
  split at h
  ·rename_i t x y yt d' hop hd
   split at h
   ·rename_i e k' tt' xs' hu hx hy;simp only [W0k,W0s] at h;obtain ⟨rfl,rfl,rfl,rfl⟩:=h;exact Zbi ho hop hu hx hy hd hf kk
   ·cases h
  ·cases h
 ·cases h
def mkO (ops:Array Oper) (s:LS) (i:Nat):Option (TypeId × Int × Nat):=
 match opAt ops s i with
 | some o=>
  match o.op,o.dst with
  | .makeSlice t l c,some d=>
   match s.ev l,s.ev c with
   | .val (.int .i64 0),.val (.int .i64 m)=>some (t,m,d)
   | _,_=>none
  | _,_=>none
 | none=>none
theorem Zli {P:Program} {ops:Array Oper} {K:FS→Prop} {rest:List Nat} {i:Nat} {s:LS} {t e:TypeId} {k bytes d cap:Nat} {m:Int} {f:Value→LS}
  (h:mkO ops s i=some (t,m,d)) (hm:m=(cap:Int)) (hn:bget s.bx d=none) (hE:Qhz P t e k bytes=true) (hby:bytes*cap≤140737488355328) (h63:cap≤140737488355327)
  (hf:∀ V',(s.put (some d) (.rw d V' 0)).setB d (.row V' e k [])=f V') (kk:∀ V',SeqR P ops K rest (f V').fs):SeqR P ops K (i :: rest) s.fs:=by
 unfold mkO at h
 split at h
 ·rename_i o ho
  split at h
  ·rename_i t' l c d' hop hd
   split at h
   ·rename_i m' hl hc;simp only [W0k,W0s] at h;obtain ⟨rfl,rfl,rfl⟩:=h;exact Zg0 ho hop hl hc hm hd hn hE hby h63 hf kk
   ·cases h
  ·cases h
 ·cases h
theorem Qa9 {α:Type} {ps:List (List α)} {k:Nat} {p:List α} (h:ps[k]?=some p):(ps.take (k+1)).flatten=(ps.take k).flatten++p:=by
 obtain ⟨hk,rfl⟩:=W0i.1 h;rw [W14 hk,W19];simp
theorem Qbd {α:Type} (ps:List (List α)) (k:Nat):(ps.take k).flatten.length≤ps.flatten.length:=by
 conv=>rhs;rw [← W1g k ps]
 rw [W19,W0e];omega
def litO (P:Program) (ops:Array Oper) (s:LS) (i:Nat):Option (TypeId × Nat × Nat):=
 match opAt ops s i with
 | some o=>
  match o.op,o.dst with
  | .buildSlice t n parts,some d=>
   match n,parts.toList,Qk4 P t with
   | 0,[],some e=>
    match szP P e with
    | some k=>some (e,k,d)
    | none=>none
   | _,_,_=>none
  | _,_=>none
 | none=>none
theorem Zll {P:Program} {ops:Array Oper} {K:FS→Prop} {rest:List Nat} {i:Nat} {s:LS} {e k d:Nat} {f:Value→LS}
  (h:litO P ops s i=some (e,k,d)) (hn:bget s.bx d=none) (hf:∀ V',(s.put (some d) (.rw d V' 0)).setB d (.row V' e k [])=f V') (kk:∀ V',SeqR P ops K rest (f V').fs):SeqR P ops K (i :: rest) s.fs:=by
 unfold litO at h
 split at h
 ·rename_i o ho;obtain ⟨hi,hg⟩:=Qbl ho
  split at h
  ·rename_i t n parts d' hop hd
   split at h
   ·rename_i e' hp he
    split at h
    ·rename_i k' hk;simp only [W0k,W0s] at h;obtain ⟨rfl,rfl,rfl⟩:=h;have hp':parts=#[]:=by have:=W1y List.toArray hp;simpa using this
     subst hp';refine ⟨o,hi,.inr ⟨hg,.inr (.inl ⟨by rw [hop];rfl,_,Qlj (e:=e') (k:=k') (xs:=[]) hd (by simp) (fun D w ρ hops=>?_),?_⟩)⟩⟩
     ·refine ⟨.slice (some ⟨w.heap.size,0,none⟩) 0 0,w.alloc (.cells #[] e'),[],?_,World.grownBy_alloc w _ none,⟨by simp,.inr ⟨w.heap.size,0,#[],rfl,W0m _,heap_alloc_new w _,W0m _,W0j _,by simp,by simp⟩⟩,by simp,fun j a u ha=>by simp at ha⟩;simp [execOp,hop,Instr.buildSlice,run_underlying (Qgv he),Qcy hk,show Array.range 0=#[] from rfl,Instr.fill,newRow]
     ·rintro z nb ⟨V',rfl,rfl⟩;refine ⟨fun id y hy=>?_,?_⟩
      ·obtain ⟨rfl,rfl⟩:=by simpa using hy
       exact hn
      ·have:=kk V';rw [← hf V',← LS.fs_setB,← LS.fs_put] at this;rw [hd];exact this
    ·cases h
   ·cases h
  ·cases h
 ·cases h
end Copyhold
namespace Copyhold
abbrev W2o:=@SubB.of_eq
end Copyhold
