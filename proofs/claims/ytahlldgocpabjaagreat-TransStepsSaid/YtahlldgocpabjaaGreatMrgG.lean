import Derived.Test.YtahlldgocpabjaaGreatMrgF
import Derived.Laws.MakeOwn
set_option linter.unusedVariables false
set_option linter.unusedSimpArgs false
namespace Copyhold
open Go Go.RowKit
def loOk (lo:Option Int) (a:Nat):Prop:=(lo=none∧a=0)∨lo=some (a:Int)
def hiOk (hi:Option Int) (b n:Nat):Prop:=(hi=none∧b=n)∨hi=some (b:Int)
def mxOk (mx hi:Option Int) (b:Nat) (t t':Bool) (n:Nat):Prop:=(mx=none∧(t'=true→t=true∧b=n))∨(mx=some (b:Int)∧hi.isSome=true)
theorem Qty {P:Program} {ops:Array Oper} {s:LS} {i:Nat} {x:AV} {l h m:Option Int} {d:Option Tmp} (hh:slcO P ops s i=some (x,l,h,m,d)) :
  ∃ o t y lo hi mx,ops[i]?=some o∧gd ops s.fs o=some true∧o.op=.slice t y lo hi mx∧x=s.ev y∧bndA s lo=some l∧bndA s hi=some h∧bndA s mx=some m∧d=o.dst ∧
   ((∃ k tt xs e,x=.sl k tt xs∧P.underlying t=some (.slice e)∧szP P e=some k)∨∃ b,x=.val (.string b)∧P.underlying t=some .string):=by
 unfold slcO at hh
 split at hh
 ·rename_i o ho;obtain ⟨hi,hg⟩:=Qbp ho
  split at hh
  ·rename_i t y lo hi' mx hop
   split at hh
   ·rename_i l' h' m' h1 h2 h3
    split at hh
    ·rename_i k tt xs e hx hu
     split at hh
     ·rename_i k' hk';cases hb:Nat.beq k k' with
      | false=>rw [hb] at hh;cases hh
      | true=>
       rw [hb] at hh;obtain rfl:=Nat.eq_of_beq_eq_true hb;simp only [cond_true,Option.some.injEq,Prod.mk.injEq] at hh;obtain ⟨rfl,rfl,rfl,rfl,rfl⟩:=hh;exact ⟨o,t,y,lo,hi',mx,hi,hg,hop,hx.symm,h1,h2,h3,rfl,.inl ⟨k,tt,xs,e,rfl,hu,hk'⟩⟩
     ·cases hh
    ·rename_i b hx hu;simp only [Option.some.injEq,Prod.mk.injEq] at hh;obtain ⟨rfl,rfl,rfl,rfl,rfl⟩:=hh;exact ⟨o,t,y,lo,hi',mx,hi,hg,hop,hx.symm,h1,h2,h3,rfl,.inr ⟨b,rfl,hu⟩⟩
    ·cases hh
   ·cases hh
  ·cases hh
 ·cases hh
def mxN (mx:Option Int) (c b:Nat):Nat:=if mx.isSome then b else c
theorem Qhg (P:Program) (w:World) (isS:Bool) (n c a b:Nat) (lo hi mx:Option Int) (hlo:loOk lo a) (hhi:hiOk hi b n) (hmx:mx=none∨(mx=some (b:Int)∧hi.isSome=true)) (hab:a≤b) (hbn:b≤n) (hnc:n≤c) :
  (Instr.sliceBounds isS n c (lo.map fun z=>.int .i64 z) (hi.map fun z=>.int .i64 z) (mx.map fun z=>.int .i64 z)).run P w=.ok (a,b,mxN mx c b) w:=by
 have e0:b≤c:=by omega
 have e1:(b:Int)≤(c:Int):=by omega
 have e2:(a:Int)≤(b:Int):=by omega
 have e3:(a:Int)≤(n:Int):=by omega
 rcases hlo with ⟨rfl,rfl⟩ | rfl<;>rcases hhi with ⟨rfl,rfl⟩ | rfl<;>rcases hmx with rfl | ⟨rfl,hs⟩<;>(try (cases hs;done)) <;>
  simp [Instr.sliceBounds,Instr.sliceBound,asIntOf,mxN,e0,e1,e2,e3,hab,hbn]
theorem Zkr {P:Program} {ops:Array Oper} {K:FS→Prop} {rest:List Nat} {i:Nat} {s s':LS} {k:Nat} {tt:Bool} {xs:List (List AV)} {l h m:Option Int} {d:Option Tmp} (a b:Nat) (t':Bool)
  (hh:slcO P ops s i=some (.sl k tt xs,l,h,m,d)) (hlo:loOk l a) (hhi:hiOk h b xs.length) (hmx:mxOk m h b tt t' xs.length) (hab:a≤b) (hbn:b≤xs.length)
  (hs:s.put d (.sl k t' ((xs.take b).drop a))=s') (kk:SeqR P ops K rest s'.fs):SeqR P ops K (i :: rest) s.fs:=by
 subst hs;obtain ⟨o,t,y,lo,hi,mx,hi2,hg,hop,hx,h1,h2,h3,rfl,hty⟩:=Qty hh;refine ⟨o,hi2,.inr ⟨hg,.inl ⟨.sl k t' ((xs.take b).drop a),.inl fun D w ρ hops=>?_,by rw [LS.fs_put];exact kk⟩⟩⟩;have hv:=Qa5 hops y (by simp [hop,Op.operands]);rw [← hx] at hv;have m1:=Qgb hops h1 (fun y e=>by simp [hop,Op.operands,e]);have m2:=Qgb hops h2 (fun y e=>by simp [hop,Op.operands,e]);have m3:=Qgb hops h3 (fun y e=>by simp [hop,Op.operands,e]);rcases hty with ⟨k',tt',xs',e,he,hu,hsz⟩ | ⟨bb,he,_⟩
 ·simp only [AV.sl.injEq] at he;obtain ⟨rfl,rfl,rfl⟩:=he;generalize hvv:ρ y=v at hv;cases hv with
  | sl k t xs A c bk off vs g1 g2 g3 g4 g5 g6=>
   have hb:=Qhg P w true xs.length c a b l h m hlo hhi (by rcases hmx with h | h;exact .inl h.1;exact .inr h) hab hbn g1;have hlen:((xs.take b).drop a).length=b-a:=by simp;omega
   obtain ⟨M,hM⟩:∃ M,M=mxN m c b:=⟨_,rfl⟩
   rw [← hM] at hb;have hMb:b≤M:=by
    rw [hM];unfold mxN
    split<;>omega
   refine ⟨.slice (if M=a then A else A.map (·.add (a*k))) (b-a) (M-a),?_,?_⟩
   ·simp [execOp,hop,hvv,Instr.sliceAt,Instr.slice,run_underlying hu,m1,m2,m3,hb,Qct hsz]
   ·have key:=Ra.sl (D:=D) (w:=w) k t' ((xs.take b).drop a) (if M=a then A else A.map (·.add (a*k))) (M-a) bk (off+a*k) (fun i j=>vs (a+i) j) (by rw [hlen];omega) (fun ht=>by
      rw [hlen,hM];rcases hmx with ⟨rfl,hq⟩ | ⟨rfl,_⟩
      ·obtain ⟨q1,q2⟩:=hq ht;have:=g2 q1;simp [mxN];omega
      ·simp [mxN]) (fun h0=>by
      rw [hlen] at h0;obtain ⟨rfl,hD,hl⟩:=g3 (by omega);rw [if_neg (by omega)];exact ⟨by simp [Qbj],hD,hl⟩) (fun i e he=>by
      rw [List.getElem?_drop,List.getElem?_take] at he
      split at he
      ·exact g4 _ e he
      ·cases he) (fun i e j x he hx=>by
      rw [List.getElem?_drop,List.getElem?_take] at he
      split at he
      ·have:=g5 _ e j x he hx;rw [show off+a*k+(i*k+j)=off+((a+i)*k+j) from by rw [Nat.add_mul];omega];exact this
      ·cases he) (fun i e j x he hx=>by
      rw [List.getElem?_drop,List.getElem?_take] at he
      split at he
      ·exact g6 _ e j x he hx
      ·cases he)
    rw [hlen] at key;exact key
 ·cases he
theorem Zfy {P:Program} {ops:Array Oper} {K:FS→Prop} {rest:List Nat} {i:Nat} {s s':LS} {tx:List UInt8} {l h:Option Int} {d:Option Tmp} (a b:Nat)
  (hh:slcO P ops s i=some (.val (.string ⟨⟨tx⟩⟩),l,h,none,d)) (hlo:loOk l a) (hhi:hiOk h b tx.length) (hab:a≤b) (hbn:b≤tx.length)
  (hs:s.put d (.val (.string ⟨⟨(tx.take b).drop a⟩⟩))=s') (kk:SeqR P ops K rest s'.fs):SeqR P ops K (i :: rest) s.fs:=by
 subst hs;obtain ⟨o,t,y,lo,hi,mx,hi2,hg,hop,hx,h1,h2,h3,rfl,hty⟩:=Qty hh;refine ⟨o,hi2,.inr ⟨hg,.inl ⟨.val (.string ⟨⟨(tx.take b).drop a⟩⟩),.inl fun D w ρ hops=>?_,by rw [LS.fs_put];exact kk⟩⟩⟩;have hv:=Qa5 hops y (by simp [hop,Op.operands]);rw [← hx] at hv;have m1:=Qgb hops h1 (fun y e=>by simp [hop,Op.operands,e]);have m2:=Qgb hops h2 (fun y e=>by simp [hop,Op.operands,e]);have m3:=Qgb hops h3 (fun y e=>by simp [hop,Op.operands,e]);rcases hty with ⟨k',tt',xs',e,he,hu,hsz⟩ | ⟨bb,he,hu⟩
 ·cases he
 ·generalize hvv:ρ y=v at hv;cases hv;have hb:=Qhg P w false tx.length tx.length a b l h none hlo hhi (.inl rfl) hab hbn (Nat.le_refl _);have hsz:(⟨⟨tx⟩⟩:ByteArray).size=tx.length:=rfl;have hmx:mx.map ρ=none:=by rw [m3];rfl
  refine ⟨_,?_,.val _⟩;have hb':(Instr.sliceBounds false tx.length tx.length (lo.map ρ) (hi.map ρ) none).run P w=.ok (a,b,tx.length) w:=by
   rw [m1,m2];exact hb
  have hp:=Qyt tx a b;simp [execOp,hop,hvv,Instr.sliceAt,Instr.slice,run_underlying hu,hmx,hsz,hb'];exact hp
theorem Zf0 {P:Program} {ops:Array Oper} {K:FS→Prop} {rest:List Nat} {i:Nat} {s s':LS} {o:Oper} {t:TypeId} {x n:Operand} {tx:List UInt8} {d:Option Tmp} (j:Nat) (c:UInt8) {m:Int}
  (ho:opAt ops s i=some o) (hop:o.op=.index t x n) (hu:P.underlying t=some .string) (hx:s.ev x=.val (.string ⟨⟨tx⟩⟩)) (hn:s.ev n=.val (.int .i64 m)) (hm:m=(j:Int)) (hc:tx[j]?=some c)
  (hs:s.put o.dst (.val (.int .u8 (c.toNat:Int)))=s') (kk:SeqR P ops K rest s'.fs):SeqR P ops K (i :: rest) s.fs:=by
 subst hs hm;obtain ⟨hi,hg⟩:=Qbp ho;refine ⟨o,hi,.inr ⟨hg,.inl ⟨_,.inl fun D w ρ hops=>?_,by rw [LS.fs_put];exact kk⟩⟩⟩;have hvx:=Qa5 hops x (by simp [hop,Op.operands]);have hvn:=Qa5 hops n (by simp [hop,Op.operands]);rw [hx] at hvx;rw [hn] at hvn;generalize hxv:ρ x=vx at hvx;generalize hnv:ρ n=vn at hvn;cases hvx;cases hvn;refine ⟨_,?_,.val _⟩;have hj:j<tx.length:=(List.getElem?_eq_some_iff.1 hc).1;have hb:(⟨⟨tx⟩⟩:ByteArray)[j]?=some c:=by
  have hsz:j<(⟨⟨tx⟩⟩:ByteArray).size:=hj;rw [getElem?_pos (⟨⟨tx⟩⟩:ByteArray) j hsz];have:=(List.getElem?_eq_some_iff.1 hc).2;rw [← this];rfl
 simp [execOp,hop,hxv,hnv,Instr.index,asIntOf,run_underlying hu,hb]
theorem Qnt {P:Program} {ops:Array Oper} {K:FS→Prop} {rest:List Nat} {i:Nat} {s s':LS} {t e:TypeId} {k bytes:Nat} {d:Option Tmp} {tt t0:Bool} {xs:List (List AV)}
  (h:appO ops s i=some (t,.sl k t0 xs,.sl k tt [],d)) (hE:Qg1 P t e k bytes=true) (hs:s.put d (.sl k t0 xs)=s') (kk:SeqR P ops K rest s'.fs):SeqR P ops K (i :: rest) s.fs:=by
 subst hs;obtain ⟨o,c,x,y,hi,hg,hop,rfl,hx,hy,rfl⟩:=Qvr h;refine ⟨o,hi,.inr ⟨hg,.inr (.inl ⟨by rw [hop];rfl,fun z nb=>z=.sl k t0 xs∧nb=none,?_,?_⟩)⟩⟩
 ·intro D w a Q K' hD hops hbx hcont;obtain ⟨z,hEl⟩:=Qhw hE;obtain ⟨ht,hinf,hzs,hsz⟩:=hEl;obtain ⟨ii,hii,hiz,his,hib⟩:=Qf5 hinf;have hvx:=Qa5 hops x (by simp [hop,Op.operands,Call.operands]);have hvy:=Qa5 hops y (by simp [hop,Op.operands,Call.operands]);rw [← hx] at hvx;rw [← hy] at hvy;have hvx':=hvx;generalize hxv:a.eval x=vx at hvx hvx';generalize hyv:a.eval y=vy at hvy;cases hvx with
  | sl k t xs A c b off vs g1 g2 g3 g4 g5 g6=>
   cases hvy with
   | sl k t ys A' c' b' off' vs' q1 q2 q3 q4 q5 q6=>
    have hrun:(execOp a.eval o).run P w=.ok (.value (.slice A xs.length c)) w:=by
     have hl0:(loadCells ⟨0,0,none⟩ 0).run P w=.ok #[] w:=rfl;cases A'<;>cases A<;>simp [execOp,hop,resolve,invoke,builtin,hxv,hyv,Builtin.append_,run_underlying ht,Go.sizeOf,typeInfo,hii,Builtin.lenOf,Builtin.firstCells,g1,storeCells,loadCells,loadCellsFrom]
    unfold Oper.wp;rw [hrun,Oper.upon_value];exact hcont _ w _ none D ⟨rfl,rfl⟩ (Below.refl _ _) (fun _ h=>h) (fun b h=>⟨hD b h,.inl h⟩) hvx' (fun id y h=>by cases h)
 ·rintro z nb ⟨rfl,rfl⟩;refine ⟨fun id y h=>(by cases h),?_⟩;simp only [FS.addB];rw [LS.fs_put];exact kk
theorem Zfz {P:Program} {ops:Array Oper} {K:FS→Prop} {rest:List Nat} {i:Nat} {s:LS} {o:Oper} {t e:TypeId} {l c:Operand} {k bytes d cap:Nat} {m:Int} {f:Value→LS}
  (ho:opAt ops s i=some o) (hop:o.op=.makeSlice t l c) (hl:s.ev l=.val (.int .i64 0)) (hc:s.ev c=.val (.int .i64 m)) (hm:m=(cap:Int)) (hd:o.dst=some d) (hn:bget s.bx d=none) (hE:Qg1 P t e k bytes=true)
  (hby:bytes*cap≤140737488355328) (h63:cap≤140737488355327)
  (hf:∀ V',(s.put (some d) (.rw d V' 0)).setB d (.row V' e k [])=f V') (kk:∀ V',SeqR P ops K rest (f V').fs):SeqR P ops K (i :: rest) s.fs:=by
 subst hm;obtain ⟨hi,hg⟩:=Qbp ho;refine ⟨o,hi,.inr ⟨hg,.inr (.inl ⟨by rw [hop];rfl,_,Qjf (e:=e) (k:=k) (xs:=[]) hd (by simp) (fun D w ρ hops=>?_),?_⟩)⟩⟩
 ·obtain ⟨z,hEl⟩:=Qhw hE;obtain ⟨ht,hinf,hzs,hsz⟩:=hEl;obtain ⟨ii,hii,hiz,his,hib⟩:=Qf5 hinf;have hvl:=Qa5 hops l (by simp [hop,Op.operands]);have hvc:=Qa5 hops c (by simp [hop,Op.operands]);rw [hl] at hvl;rw [hc] at hvc;generalize hlv:ρ l=vl at hvl;generalize hcv:ρ c=vc at hvc;cases hvl;cases hvc;obtain ⟨w',h1,h2,h3⟩:=run_make_own (P:=P) w w.heap.size t e ii z k ht hii hiz his .i64 .i64 cap (by rw [hib];omega) (by unfold maxLen;omega) (Nat.le_refl _);exact ⟨_,w',[],by simp [execOp,hop,hlv,hcv,h1],h3,h2,by simp,fun j a u ha=>by simp at ha⟩
 ·rintro z nb ⟨V',rfl,rfl⟩;refine ⟨fun id y hy=>?_,?_⟩
  ·obtain ⟨rfl,rfl⟩:=by simpa using hy
   exact hn
  ·have:=kk V';rw [← hf V',← LS.fs_setB,← LS.fs_put] at this;rw [hd];exact this
theorem Zan {P:Program} {ops:Array Oper} {K:FS→Prop} {rest:List Nat} {i:Nat} {s:LS} {o:Oper} {t yt e:TypeId} {x y:Operand} {k d:Nat} {tt:Bool} {xs:List (List AV)} {f:Bool→LS}
  (ho:opAt ops s i=some o) (hop:o.op=.binOp .eql t x y yt) (hu:P.underlying t=some (.slice e)) (hx:s.ev x=.sl k tt xs) (hy:s.ev y=.val (.slice none 0 0)) (hd:o.dst=some d)
  (hf:∀ b,s.put (some d) (.val (.bool b))=f b) (kk:∀ b,(b=true→xs=[])→SeqR P ops K rest (f b).fs):SeqR P ops K (i :: rest) s.fs:=by
 obtain ⟨hi,hg⟩:=Qbp ho;refine ⟨o,hi,.inr ⟨hg,.inr (.inl ⟨by rw [hop];simp [isRd,hu],fun z nb=>(∃ b,z=.val (.bool b)∧(b=true→xs=[]))∧nb=none,?_,?_⟩)⟩⟩
 ·intro D w a Q K' hD hops hbx hcont;have hvx:=Qa5 hops x (by simp [hop,Op.operands]);have hvy:=Qa5 hops y (by simp [hop,Op.operands]);rw [hx] at hvx;rw [hy] at hvy;generalize hxv:a.eval x=vx at hvx;generalize hyv:a.eval y=vy at hvy;cases hvy;cases hvx with
  | sl k t' xs A c b off vs h1 h2 h3 h4 h5 h6=>
   have hq:∀ w:World,(Op.equal t (.slice A xs.length c) (.slice none 0 0)).run P w=.ok A.isNone w:=fun w=>by
    unfold Op.equal;rw [show Op.maxDepth=9999+1 from rfl,Op.equalIn];cases A<;>simp [run_underlying hu]
   have hrun:(execOp a.eval o).run P w=.ok (.value (.bool A.isNone)) w:=by
    simp [execOp,hop,hxv,hyv,eqGuard,binOp,hq]
   unfold Oper.wp;rw [hrun,Oper.upon_value];refine hcont _ w _ none D ⟨⟨A.isNone,rfl,fun hn=>?_⟩,rfl⟩ (Below.refl _ _) (fun _ h=>h) (fun b h=>⟨hD b h,.inl h⟩) (.val _) (fun id y h=>by cases h);cases A with
   | some a=>cases hn
   | none=>
    refine List.eq_nil_of_length_eq_zero ?_;rcases Nat.eq_zero_or_pos xs.length with h | h
    ·exact h
    ·exact absurd (h3 h).1 (by simp)
 ·rintro z nb ⟨⟨b,rfl,hb⟩,rfl⟩;refine ⟨fun id y h=>(by cases h),?_⟩;simp only [FS.addB];have:=kk b hb;rw [← hf b,← LS.fs_put] at this;rw [hd];exact this
def Qq2 (P:Program) (f:FuncId) (args:List AV) (e k:Nat) (xs:List (List AV)):Prop:=
 ∀ (D:Nat→Prop) (w:World) (vs:Array Value),(∀ b,D b→b<w.heap.size)→Qc0 D w args vs →
  Calls P f vs w (fun r w'=>∃ V us,r=.returned V∧Below w.heap.size w w'∧w'.ownsRow w.heap.size e k V xs.length us∧(∀ u∈us,u.oneCell'=true)∧∀ (j:Nat) (a:AV) (u:Value),xs.flatten[j]?=some a→us[j]?=some u→Ra D w' a u)
theorem Qtz {P:Program} {ops:Array Oper} {K:FS→Prop} {rest:List Nat} {i:Nat} {s:LS} {f:FuncId} {args args':List AV} {d e k:Nat} {xs:List (List AV)} {g:Value→LS} (h:Qlc ops s i=some (f,args,some d))
  (heg:∀ vs w,(callFunc f vs).run P w=.ok (.enter f vs) w) (hsub:Qc2 args args') (hkx:∀ l∈xs,l.length=k) (hsp:Qq2 P f args' e k xs) (hn:bget s.bx d=none)
  (hf:∀ V',(s.put (some d) (.rw d V' xs.length)).setB d (.row V' e k xs)=g V') (kk:∀ V',SeqR P ops K rest (g V').fs):SeqR P ops K (i :: rest) s.fs:=by
 unfold Qlc at h
 split at h
 ·rename_i o ho;obtain ⟨hi,hg⟩:=Qbp ho
  split at h
  ·rename_i c hop
   split at h
   ·rename_i fo hc;have hrd:isRd P o.op=false:=by
     obtain ⟨callee,cargs,cts⟩:=c;simp only at hc;subst hc;rw [hop];rfl
    have core:o.dst=some d→(∀ (D:Nat→Prop) (w:World) (ρ:Operand→Value),opsR D w s.fs ρ o→∃ vs,(execOp ρ o).run P w=(callFunc f vs).run P w∧Qc0 D w args vs)→SeqR P ops K (i :: rest) s.fs:=by
     intro hd hrun;refine ⟨o,hi,.inr ⟨hg,.inr (.inl ⟨hrd,fun z nb=>∃ V,z=.rw d V xs.length∧nb=some (d,.row V e k xs),?_,?_⟩)⟩⟩
     ·intro D w a Q K' hD hops hbx hcont;obtain ⟨hl,hsa⟩:=hsub.ok;obtain ⟨vs,h1,h2⟩:=hrun D w a.eval hops;have hra:Qc0 D w args' vs:=by
       refine ⟨by rw [← hl];exact h2.1,fun j x v hx hv=>?_⟩;have hj:j<args.length:=by have:=(List.getElem?_eq_some_iff.1 hx).1;omega
       exact hsa j args[j] x (List.getElem?_eq_getElem hj) hx D w v (h2.2 j args[j] v (List.getElem?_eq_getElem hj) hv)
      unfold Oper.wp;rw [h1,heg,Oper.upon_enter];refine (hsp D w _ hD hra).mono ?_;rintro r w' ⟨V,us,rfl,hb,hown,hus,hru⟩;have hown0:w'.ownsRow 0 e k V xs.length us:=by
       refine ⟨hown.1,?_⟩;rcases hown.2 with h' | ⟨g,cap,cur,rfl,hg,r⟩
       ·exact .inl h'
       ·exact .inr ⟨g,cap,cur,rfl,Nat.zero_le _,r⟩
      obtain ⟨A,cc,hV,_⟩:=(Sl.of_owns hown).shape;refine hcont _ w' _ _ D ⟨V,rfl,rfl⟩ hb (fun _ h=>h) (fun b h=>⟨Nat.lt_of_lt_of_le (hD b h) hb.size,.inl h⟩) (by rw [hV];exact .rw d _ cc A) (fun id y hy=>?_);obtain ⟨rfl,rfl⟩:=by simpa using hy
      refine ⟨fun g hg'=>?_,hkx,us,hown0,hus,hru⟩;have:=Qe8 hown g hg';exact ⟨this.1,fun hd=>by have:=hD _ hd;omega⟩
     ·rintro z nb ⟨V',rfl,rfl⟩;refine ⟨fun id y hy=>?_,?_⟩
      ·obtain ⟨rfl,rfl⟩:=by simpa using hy
       exact hn
      ·have:=kk V';rw [← hf V',← LS.fs_setB,← LS.fs_put] at this;rw [hd];exact this
    split at h
    ·rename_i g' hfv;simp only [Option.some.injEq,Prod.mk.injEq] at h;obtain ⟨rfl,rfl,hd⟩:=h;refine core hd (fun D w ρ hops=>⟨c.args.map ρ,?_,Qks hop hops⟩);have hvf:=Qa5 hops fo (by simp [hop,Op.operands,Call.operands,hc]);rw [hfv] at hvf;generalize hfv':ρ fo=vf at hvf;cases hvf;simp [execOp,hop,resolve,hc,hfv',Deferred.ofValue,invoke]
    ·rename_i g' caps hfv;simp only [Option.some.injEq,Prod.mk.injEq] at h;obtain ⟨rfl,rfl,hd⟩:=h;refine core hd (fun D w ρ hops=>?_);have hvf:=Qa5 hops fo (by simp [hop,Op.operands,Call.operands,hc]);rw [hfv] at hvf;generalize hfv':ρ fo=vf at hvf;cases hvf with
     | clo g caps vs h1 h2=>
      obtain ⟨a1,a2⟩:=Qks hop hops;refine ⟨c.args.map ρ++vs,by simp [execOp,hop,resolve,hc,hfv',Deferred.ofValue,invoke],by simp;omega,fun j x v hx hv=>?_⟩;by_cases hj:j<(c.args.map ρ).size
      ·rw [Array.getElem?_append_left hj] at hv;rw [List.getElem?_append_left (by omega)] at hx;exact a2 j x v hx hv
      ·rw [Array.getElem?_append_right (by omega)] at hv;rw [List.getElem?_append_right (by omega),a1] at hx;exact h2 _ x v hx hv
    ·cases h
   ·cases h
  ·cases h
 ·cases h
theorem SubB.of_eq {y y':Bx} (h:y=y'):SubB y y':=h ▸ SubB.refl y
theorem Sub.sl2 {k:Nat} {t:Bool} {xs ys:List (List AV)} (hl:xs.length=ys.length) (hk:∀ (i:Nat) (e e':List AV),xs[i]?=some e→ys[i]?=some e'→Qc2 e e'):Sub (.sl k t xs) (.sl k t ys):=fun D w v h=>by
 cases h with
 | sl k t xs A c b off vs h1 h2 h3 h4 h5 h6=>
  rw [hl];have get:∀ (i:Nat) (e':List AV),ys[i]?=some e'→∃ e,xs[i]?=some e∧Qc2 e e':=fun i e' he=>by
   have hi:i<xs.length:=by have:=(List.getElem?_eq_some_iff.1 he).1;omega
   exact ⟨xs[i],List.getElem?_eq_getElem hi,hk i _ e' (List.getElem?_eq_getElem hi) he⟩
  have gx:∀ (i:Nat) (e':List AV) (j:Nat) (y:AV),ys[i]?=some e'→e'[j]?=some y→∃ e x,xs[i]?=some e∧e[j]?=some x∧Sub x y:=fun i e' j y he hy=>by
   obtain ⟨e,h1,h2⟩:=get i e' he;obtain ⟨g1,g2⟩:=h2.ok;have hj:j<e.length:=by have:=(List.getElem?_eq_some_iff.1 hy).1;omega
   exact ⟨e,e[j],h1,List.getElem?_eq_getElem hj,g2 j _ y (List.getElem?_eq_getElem hj) hy⟩
  refine .sl k t ys A c b off vs (by omega) (fun ht=>by rw [h2 ht,hl]) (fun h0=>h3 (by omega)) (fun i e' he=>?_) (fun i e' j y he hy=>?_) (fun i e' j y he hy=>?_)
  ·obtain ⟨e,g1,g2⟩:=get i e' he;rw [← g2.ok.1];exact h4 i e g1
  ·obtain ⟨e,x,g1,g2,g3⟩:=gx i e' j y he hy;exact h5 i e j x g1 g2
  ·obtain ⟨e,x,g1,g2,g3⟩:=gx i e' j y he hy;exact g3 D w _ (h6 i e j x g1 g2)
end Copyhold

namespace Copyhold
open Go Go.RowKit
def nilO (P:Program) (ops:Array Oper) (s:LS) (i:Nat):Option (Nat × Bool × List (List AV) × Nat):=
 match opAt ops s i with
 | some o=>
  match o.op,o.dst with
  | .binOp .eql t x y _,some d=>
   match P.underlying t,s.ev x,s.ev y with
   | some (.slice _),.sl k tt xs,.val (.slice none 0 0)=>some (k,tt,xs,d)
   | _,_,_=>none
  | _,_=>none
 | none=>none
theorem seqNil {P:Program} {ops:Array Oper} {K:FS→Prop} {rest:List Nat} {i:Nat} {s:LS} {k d:Nat} {tt:Bool} {xs:List (List AV)} {f:Bool→LS} (h:nilO P ops s i=some (k,tt,xs,d))
  (hf:∀ b,s.put (some d) (.val (.bool b))=f b) (kk:∀ b,(b=true→xs=[])→SeqR P ops K rest (f b).fs):SeqR P ops K (i :: rest) s.fs:=by
 unfold nilO at h
 split at h
 ·rename_i o ho
  split at h
  ·rename_i t x y yt d' hop hd
   split at h
   ·rename_i e k' tt' xs' hu hx hy;simp only [Option.some.injEq,Prod.mk.injEq] at h;obtain ⟨rfl,rfl,rfl,rfl⟩:=h;exact Zan ho hop hu hx hy hd hf kk
   ·cases h
  ·cases h
 ·cases h
def mkO (ops:Array Oper) (s:LS) (i:Nat):Option (TypeId × Int × Nat):=
 match opAt ops s i with
 | some o=>
  match o.op,o.dst with
  | .makeSlice t l c,some d=>
   match s.ev l,s.ev c with
   | .val (.int .i64 0),.val (.int .i64 m)=>some (t,m,d)
   | _,_=>none
  | _,_=>none
 | none=>none
theorem Zkt {P:Program} {ops:Array Oper} {K:FS→Prop} {rest:List Nat} {i:Nat} {s:LS} {t e:TypeId} {k bytes d cap:Nat} {m:Int} {f:Value→LS}
  (h:mkO ops s i=some (t,m,d)) (hm:m=(cap:Int)) (hn:bget s.bx d=none) (hE:Qg1 P t e k bytes=true) (hby:bytes*cap≤140737488355328) (h63:cap≤140737488355327)
  (hf:∀ V',(s.put (some d) (.rw d V' 0)).setB d (.row V' e k [])=f V') (kk:∀ V',SeqR P ops K rest (f V').fs):SeqR P ops K (i :: rest) s.fs:=by
 unfold mkO at h
 split at h
 ·rename_i o ho
  split at h
  ·rename_i t' l c d' hop hd
   split at h
   ·rename_i m' hl hc;simp only [Option.some.injEq,Prod.mk.injEq] at h;obtain ⟨rfl,rfl,rfl⟩:=h;exact Zfz ho hop hl hc hm hd hn hE hby h63 hf kk
   ·cases h
  ·cases h
 ·cases h
theorem Qc8 {α:Type} {ps:List (List α)} {k:Nat} {p:List α} (h:ps[k]?=some p):(ps.take (k+1)).flatten=(ps.take k).flatten++p:=by
 obtain ⟨hk,rfl⟩:=List.getElem?_eq_some_iff.1 h;rw [List.take_succ_eq_append_getElem hk,List.flatten_append];simp
theorem Qdb {α:Type} (ps:List (List α)) (k:Nat):(ps.take k).flatten.length≤ps.flatten.length:=by
 conv=>rhs;rw [← List.take_append_drop k ps]
 rw [List.flatten_append,List.length_append];omega
def litO (P:Program) (ops:Array Oper) (s:LS) (i:Nat):Option (TypeId × Nat × Nat):=
 match opAt ops s i with
 | some o=>
  match o.op,o.dst with
  | .buildSlice t n parts,some d=>
   match n,parts.toList,Qkn P t with
   | 0,[],some e=>
    match szP P e with
    | some k=>some (e,k,d)
    | none=>none
   | _,_,_=>none
  | _,_=>none
 | none=>none
theorem Zkw {P:Program} {ops:Array Oper} {K:FS→Prop} {rest:List Nat} {i:Nat} {s:LS} {e k d:Nat} {f:Value→LS}
  (h:litO P ops s i=some (e,k,d)) (hn:bget s.bx d=none) (hf:∀ V',(s.put (some d) (.rw d V' 0)).setB d (.row V' e k [])=f V') (kk:∀ V',SeqR P ops K rest (f V').fs):SeqR P ops K (i :: rest) s.fs:=by
 unfold litO at h
 split at h
 ·rename_i o ho;obtain ⟨hi,hg⟩:=Qbp ho
  split at h
  ·rename_i t n parts d' hop hd
   split at h
   ·rename_i e' hp he
    split at h
    ·rename_i k' hk;simp only [Option.some.injEq,Prod.mk.injEq] at h;obtain ⟨rfl,rfl,rfl⟩:=h;have hp':parts=#[]:=by have:=congrArg List.toArray hp;simpa using this
     subst hp';refine ⟨o,hi,.inr ⟨hg,.inr (.inl ⟨by rw [hop];rfl,_,Qjf (e:=e') (k:=k') (xs:=[]) hd (by simp) (fun D w ρ hops=>?_),?_⟩)⟩⟩
     ·refine ⟨.slice (some ⟨w.heap.size,0,none⟩) 0 0,w.alloc (.cells #[] e'),[],?_,World.grownBy_alloc w _ none,⟨by simp,.inr ⟨w.heap.size,0,#[],rfl,Nat.le_refl _,heap_alloc_new w _,Nat.le_refl _,Nat.zero_le _,by simp,by simp⟩⟩,by simp,fun j a u ha=>by simp at ha⟩;simp [execOp,hop,Instr.buildSlice,run_underlying (Qg0 he),Qct hk,show Array.range 0=#[] from rfl,Instr.fill,newRow]
     ·rintro z nb ⟨V',rfl,rfl⟩;refine ⟨fun id y hy=>?_,?_⟩
      ·obtain ⟨rfl,rfl⟩:=by simpa using hy
       exact hn
      ·have:=kk V';rw [← hf V',← LS.fs_setB,← LS.fs_put] at this;rw [hd];exact this
    ·cases h
   ·cases h
  ·cases h
 ·cases h
end Copyhold
