import Derived.Test.YtkhodpknpligpaaGreatAl
import Derived.Test.YtkhodpknpligpaaGreatMrgG
import Derived.Test.YtkhodpknpligpaaGreatMrgF
import Derived.MapKept
set_option linter.unusedVariables false
set_option linter.unusedSimpArgs false
namespace Go.Proofs.YtkhodpknpligpaaGreat
open Go Go.RowKit Copyhold
def cpR (P:Program) (ops:Array Oper) (s:LS) (i:Nat):Option (Nat × Value × Nat × Nat × Value × TypeId × Nat × List (List AV) × Nat × List (List AV) × Nat × Option Tmp):=
 match opAt ops s i with
 | some o=>
  match o.op with
  | .call c=>
   match c.callee,c.args.toList,c.argTypes.toList with
   | .builtin .copy,[x,y],[dT,sT]=>
    match s.ev x,s.ev y,Qk4 P dT with
    | .rs q V k lo,.sl k2 _ ys,some e'=>
     match szP P e',bget s.bx q with
     | some k3,some (.row V' e k' xs)=>some (q,V,k,lo,V',e,k',xs,k2,ys,k3,o.dst)
     | _,_=>none
    | _,_,_=>none
   | _,_,_=>none
  | _=>none
 | none=>none
theorem Zj1 {D:Nat→Prop} {w:World} {k:Nat} {t:Bool} {ys:List (List AV)} {v:Value} (h:Ra D w (.sl k t ys) v):∀ l∈ys,l.length=k:=fun l hl=>by
 cases h with
 | sl k t xs A c b off vs h1 h2 h3 h4 h5 h6=>
  obtain ⟨q,hq⟩:=W2l.1 hl;exact h4 q l hq
theorem Qjg {P:Program} {w:World} {k n c:Nat} {A:Option Addr} {us:List Value} (h:Sl w k (.slice A n c) n us):(Builtin.firstCells k n (.slice A n c)).run P w=.ok us.toArray w:=by
 obtain ⟨A',c',he,hc,hl,hh⟩:=h;simp only [Value.slice.injEq] at he;obtain ⟨rfl,_,rfl⟩:=he;cases A with
 | some a=>
  refine run_firstCells_some (w:=w) k n a n c us hl fun j v hv=>?_;by_cases h0:0<n
  ·obtain ⟨b,off,ha,hb,hcell⟩:=hh h0;obtain rfl:=W0c ha;rw [Qbb];exact hcell j v hv
  ·have:us=[]:=W0l (by rw [hl,show n=0 from by omega];simp);subst this;simp at hv
 | none=>
  have h0:¬ 0<n:=fun h0=>by obtain ⟨b,off,ha,_⟩:=hh h0;cases ha
  have:us=[]:=W0l (by rw [hl,show n=0 from by omega];simp);subst this;exact run_firstCells_none (w:=w) k n n c
theorem Qhe {P:Program} {q k lo:Nat} {V:Value} {e:TypeId} {xs ys:List (List AV)} {d:Option Tmp} (hl:lo+ys.length≤xs.length) :
  ∀ (ops:Array Oper) (i:Nat) (s:LS) (K:FS→Prop) (rest:List Nat),cpR P ops s i=some (q,V,k,lo,V,e,k,xs,k,ys,k,d)→(∀ a:Unit,SeqR P ops K rest ((s.put d (aI (ys.length:Int))).setB q (.row V e k (xs.take lo++ys++xs.drop (lo+ys.length)))).fs)→SeqR P ops K (i :: rest) s.fs:=by
 intro ops i s K rest h kk;unfold cpR at h
 split at h
 ·rename_i o ho;obtain ⟨hi,hg⟩:=Qbl ho
  split at h
  ·rename_i c hop
   split at h
   ·rename_i x y dT sT hc hca ht
    split at h
    ·rename_i q' V' k' lo' k2 tt ys' e' hx hy he'
     split at h
     ·rename_i k3 V2 e2 k4 xs' hk3 hb;simp only [W0k,W0s] at h;obtain ⟨rfl,rfl,rfl,rfl,rfl,rfl,rfl,rfl,rfl,rfl,rfl,rfl⟩:=h;obtain ⟨callee,args,cts⟩:=c;simp only at hc hca ht;subst hc;have ha':args=#[x,y]:=by have:=W1y List.toArray hca;simpa using this
      have ht':cts=#[dT,sT]:=by have:=W1y List.toArray ht;simpa using this
      subst ha' ht';refine ⟨o,hi,.inr ⟨hg,.inr (.inr ⟨by rw [hop];rfl,by rw [hop];rfl,q',fun z y'=>z=aI (ys'.length:Int)∧y'=.row V2 e2 k3 (xs'.take lo'++ys'++xs'.drop (lo'+ys'.length)),?_,?_⟩)⟩⟩
      ·refine Qtn.up ?_;intro D w ac Q K' hD hops hbx hnd hcont;have hvx:=Qa2 hops x (by simp [hop,Op.operands,Call.operands]);have hvy:=Qa2 hops y (by simp [hop,Op.operands,Call.operands]);rw [hx] at hvx;rw [hy] at hvy;generalize hxv:ac.eval x=vx at hvx;generalize hyv:ac.eval y=vy at hvy;have hbox:=hbx q' _ hb;have hk:=hbox.1;have hky:=Zj1 hvy;obtain ⟨us,hsl,hus,hru⟩:=Qhb hvy;obtain ⟨A,c,rfl,hcl,hul,hcells⟩:=id hsl;have hfc:=Qjg (P:=P) hsl;cases hvx with
       | rs id b n cap k lo hlo=>
        have hnD:¬ D b:=hnd _ b hb rfl;obtain ⟨_,us0,hown0,_⟩:=id hbox;have hn:n=xs'.length:=by
         rcases hown0.2 with ⟨hV,_⟩ | ⟨g,cap',cur,hV,_⟩
         ·cases hV
         ·simp only [Value.slice.injEq] at hV;exact hV.2.1
        have hmul:(lo'+ys'.length)*k3=lo'*k3+ys'.length*k3:=Nat.add_mul ..;have hfy:ys'.flatten.length=ys'.length*k3:=Qgu hky;have hmin:Nat.min ys'.length (n-lo')=ys'.length:=Nat.min_eq_left (by omega);obtain ⟨w',h1,h2,h3,h4⟩:=Zbp (P:=P) hbox hnD (cs:=ys'.flatten) (vs:=us) (xs':=xs'.take lo'++ys'++xs'.drop (lo'+ys'.length)) (lo'*k3) (by omega) hus hru (by rw [hfy,← hmul];exact W1d _ hl)
         (fun l hl'=>by
          rcases W04.1 hl' with h | h
          ·rcases W04.1 h with h | h
           ·exact hk l (W13 h)
           ·exact hky l h
          ·exact hk l (W2d h))
         (by simp only [W0e,W0g,W0p];omega)
         (by rw [W19,W19,Qjf _ hk,Qm8 _ hk,hmul,hfy])
        have hrun:(execOp ac.eval o).run P w=.ok (.value (goInt ys'.length)) w':=by
         simp [execOp,hop,resolve,invoke,builtin,hxv,hyv,Builtin.copy_,run_underlying (Qgv he'),Builtin.lenOf,Qcy hk3,hmin,hfc,h1]
        unfold Oper.wp;rw [hrun,Oper.upon_value];exact hcont _ w' _ _ _ ⟨rfl,rfl⟩ hb h3 (fun g hg _=>h4 g (fun e=>hg (by rw [e];rfl))) (fun g hg=>⟨.inl hg,hnd _ g hb hg⟩) h2 (.val _)
      ·rintro z y' ⟨rfl,rfl⟩;rw [LS.fs_put,LS.fs_setB];exact kk ()
     ·cases h
    ·cases h
   ·cases h
  ·cases h
 ·cases h
def zrR (P:Program) (q:Nat) (ops:Array Oper) (s:LS) (i:Nat):Option (Nat × List (List AV) × Nat × Int × TypeId × TypeId × List AV × Nat):=
 match opAt ops s i with
 | some o=>
  match o.op,o.dst with
  | .call c,some d=>
   match c.callee,c.args.toList,c.argTypes.toList with
   | .builtin .append,[x,n],[t,tn]=>
    match s.ev x,s.ev n,Qk4 P t,P.underlying tn,bget s.bx q with
    | .pre k xs i0,.val (.int .i64 m),some e,some (.int .i64),none=>
     match Qtq P e with
     | some z=>some (k,xs,i0,m,t,e,z,d)
     | none=>none
    | _,_,_,_,_=>none
   | _,_,_=>none
  | _,_=>none
 | none=>none
theorem Qt0 {P:Program} {q k i0 d:Nat} {xs:List (List AV)} {m:Int} {t e:TypeId} {z:List AV} (c bytes:Nat) (hE:Qhz P t e k bytes=true) (hm:m=(c:Int)) (h0:0<c) (hi0:i0≤xs.length) (hgt:xs.length<i0+c)
  (h63:i0+c≤140737488355327) (hby:(i0+c)*bytes≤140737488355328) :
  ∀ (ops:Array Oper) (i:Nat) (s:LS) (K:FS→Prop) (rest:List Nat),zrR P q ops s i=some (k,xs,i0,m,t,e,z,d)→(∀ V:Value,SeqR P ops K rest ((s.put (some d) (.rw q V (i0+c))).setB q (.row V e k (xs.take i0++List.replicate c z))).fs)→SeqR P ops K (i :: rest) s.fs:=by
 intro ops i s K rest h kk;subst hm;unfold zrR at h
 split at h
 ·rename_i o ho;obtain ⟨hi,hg⟩:=Qbl ho
  split at h
  ·rename_i cc d' hop hd
   split at h
   ·rename_i x n t' tn hc hca hct
    split at h
    ·rename_i k' xs' i0' m' e' hx hn hel htn hbn
     split at h
     ·rename_i z' hz;simp only [W0k,W0s] at h;obtain ⟨rfl,rfl,rfl,rfl,rfl,rfl,rfl,rfl⟩:=h;obtain ⟨callee,args,cts⟩:=cc;simp only at hc hca hct;subst hc;have ha':args=#[x,n]:=by have:=W1y List.toArray hca;simpa using this
      have ht':cts=#[t',tn]:=by have:=W1y List.toArray hct;simpa using this
      subst ha' ht';refine ⟨o,hi,.inr ⟨hg,.inr (.inl ⟨by rw [hop];rfl,fun y nb=>∃ V,y=.rw q V (i0'+c)∧nb=some (q,.row V e' k' (xs'.take i0'++List.replicate c z')),?_,?_⟩)⟩⟩
      ·intro D w ac Q K' hD hops hbx hcont;have hvx:=Qa2 hops x (by simp [hop,Op.operands,Call.operands]);have hvn:=Qa2 hops n (by simp [hop,Op.operands,Call.operands]);rw [hx] at hvx;rw [hn] at hvn;generalize hxv:ac.eval x=vx at hvx;generalize hnv:ac.eval n=vn at hvn;cases hvn;obtain ⟨zv,hEl⟩:=Qji hE;obtain ⟨ht,hinf,hzs,hsz⟩:=id hEl;obtain ⟨ti,hti,htz,hsize,hbytes⟩:=Qgq hinf;obtain ⟨it,z2,g1,g2,hrepz⟩:=Qin (D:=D) (w:=w) hz;rw [hti] at g1;obtain rfl:=W0c g1;rw [htz] at g2;obtain rfl:=W0c g2;cases hvx with
       | pre k xs i0 A cA hsl hle=>
        have hcA:cA=xs'.length:=by
         cases hsl with
         | sl k t xs A c b off vs h1 h2 h3 h4 h5 h6=>exact h2 rfl
        subst hcA;have hkx:=Zj1 hsl;obtain ⟨us,hS,hus,hru⟩:=Qhb hsl;have hul:us.length=xs'.length*k':=by obtain ⟨_,_,he,_,hl,_⟩:=id hS;exact hl
        have hpre:=hS.pre i0' hle;have hmul:i0'*k'≤xs'.length*k':=W1d _ hle;have hold:(Builtin.firstCells ti.size i0' (.slice A i0' xs'.length)).run P w.drew=.ok (us.take (i0'*k')).toArray w.drew:=by
         rw [hsize];exact Qjg (show Sl w.drew k' (.slice A i0' xs'.length) i0' (us.take (i0'*k')) from hpre)
        have hG:=grownCap_ge w (i0'+c) xs'.length e';have hG2:=grownCap_le_maxLen w (i0'+c) xs'.length e' (by unfold maxLen;omega);have hc48:c*ti.bytes≤281474976710656:=by
         rw [hbytes];have:=W1d bytes (show c≤i0'+c by omega);omega
        have hrun:=fun ty=>Lib.run_append_grow_zeros w t' tn ty e' ti zv .i64 .i64 ht htn hti htz A i0' xs'.length (us.take (i0'*k')) hold c h0 (by omega) hgt (by omega) hc48 (growslice_fits hgt (by rw [hbytes];exact hby));generalize hGG:grownCap w (i0'+c) xs'.length e'=G at hrun hG hG2;have hzc:∀ n,(Builtin.zeroCells zv.cells n).toList=(List.replicate n zv.cells.toList).flatten:=fun n=>Qpf zv.cells n (by omega);have hzl:∀ n,(Builtin.zeroCells zv.cells n).toList.length=n*k':=fun n=>by
         rw [hzc,Qgu (k:=k') (fun l hl=>by rw [List.eq_of_mem_replicate hl];simpa using hzs),W00]
        generalize hcells:(us.take (i0'*k')).toArray++Builtin.zeroCells zv.cells c++Builtin.zeroCells zv.cells (G-(i0'+c))=cells at hrun;have hcl:cells.toList=(us.take (i0'*k')++(List.replicate c zv.cells.toList).flatten)++(Builtin.zeroCells zv.cells (G-(i0'+c))).toList:=by
         rw [← hcells,Array.toList_append,Array.toList_append,hzc c]
        have hzcl:((List.replicate c zv.cells.toList).flatten).length=c*k':=by rw [← hzc];exact hzl c
        have hadd:(i0'+c)*k'=i0'*k'+c*k':=Nat.add_mul ..;have hlen1:(us.take (i0'*k')++(List.replicate c zv.cells.toList).flatten).length=(i0'+c)*k':=by
         rw [W0e,W0g,hzcl,hadd];omega
        have hsz2:cells.size=G*k':=by
         have e1:cells.size=cells.toList.length:=by simp
         rw [e1,hcl,W0e,hlen1,hzl,← Nat.add_mul];congr 1;omega
        have hb:Below w.heap.size w (w.drew.alloc (.cells cells e')):=(Qhv (Below.refl _ _) 1).alloc (W0m _) _;have hown:(w.drew.alloc (.cells cells e')).ownsRow 0 e' k' (.slice (some ⟨w.heap.size,0,none⟩) (i0'+c) G) (i0'+c) (us.take (i0'*k')++(List.replicate c zv.cells.toList).flatten):=by
         refine ⟨hlen1,.inr ⟨w.heap.size,G,cells,rfl,W0j _,heap_alloc_new w.drew _,hG,hG2,hsz2,?_⟩⟩;rw [hcl,← hlen1];exact List.take_left' rfl
        have hxl:(xs'.take i0'++List.replicate c z').length=i0'+c:=by rw [W0e,W0g,W00];omega
        have hzk:z'.length=k':=by have:=hrepz.1;rw [← hzs];omega
        unfold Oper.wp;have hex:(execOp ac.eval o).run P w=.ok (.value (.slice (some ⟨w.heap.size,0,none⟩) (i0'+c) G)) (w.drew.alloc (.cells cells e')):=by
         simp [execOp,hop,resolve,invoke,builtin,hxv,hnv,hrun]
        rw [hex,Oper.upon_value];refine hcont _ _ _ _ D ⟨_,rfl,rfl⟩ hb (fun _ h=>h) (fun b h=>⟨W08 (hD b h) hb.size,.inl h⟩) (.rw q _ G _) (fun id y hy=>?_);obtain ⟨rfl,rfl⟩:=by simpa using hy
        refine ⟨fun g hg'=>?_,⟨fun l hl=>?_,_,by rw [hxl];exact hown,fun u hu=>?_,?_⟩⟩
        ·have:w.heap.size=g:=by simpa [Bx.blk,Value.ownBlock] using hg'
         subst this;exact ⟨W0m _,fun hd=>by have:=hD _ hd;omega⟩
        ·rcases W04.1 hl with h | h
         ·exact hkx l (W13 h)
         ·rw [List.eq_of_mem_replicate h];exact hzk
        ·rcases W04.1 hu with h | h
         ·exact hus u (W13 h)
         ·obtain ⟨l,hl1,hl2⟩:=List.mem_flatten.1 h;rw [List.eq_of_mem_replicate hl1] at hl2;obtain ⟨p,hp⟩:=W2l.1 hl2;exact hrepz.2.1 p u (by simpa using hp)
        ·have hP:PW D w (xs'.take i0'++List.replicate c z').flatten (us.take (i0'*k')++(List.replicate c zv.cells.toList).flatten):=by
          rw [W19,Qjf _ hkx];refine PW.append (by rw [W0g,W0g,hul,Qgu hkx]) (PW.take hru _) fun j a u ha hu=>?_;exact (Qhi hrepz c).2.2 j a u ha (by simpa using hu)
         exact fun j a u ha hu=>(hP j a u ha hu).frame (fun _ h=>h) hb.size (fun b hd hl=>hb.block b hl)
      ·rintro y nb ⟨V',rfl,rfl⟩;refine ⟨fun id y hy=>?_,?_⟩
       ·obtain ⟨rfl,rfl⟩:=by simpa using hy
        exact hbn
       ·have:=kk V';rw [← LS.fs_setB,← LS.fs_put] at this;rw [hd];exact this
     ·cases h
    ·cases h
   ·cases h
  ·cases h
 ·cases h
def cvR (ops:Array Oper) (s:LS) (i:Nat):Option (TypeId × TypeId × Value × Option Tmp):=
 match opAt ops s i with
 | some o=>
  match o.op with
  | .convert a b y=>
   match s.ev y with
   | .val v=>some (a,b,v,o.dst)
   | _=>none
  | _=>none
 | none=>none
theorem Qt3 {P:Program} {a b:TypeId} {v u:Value} {d:Option Tmp} (hc:∀ w,(Go.convert a b v).run P w=.ok u w) :
  ∀ (ops:Array Oper) (i:Nat) (s:LS) (K:FS→Prop) (rest:List Nat),cvR ops s i=some (a,b,v,d)→(∀ _:Unit,SeqR P ops K rest (s.put d (.val u)).fs)→SeqR P ops K (i :: rest) s.fs:=by
 intro ops i s K rest h kk;unfold cvR at h
 split at h
 ·rename_i o ho;obtain ⟨hi,hg⟩:=Qbl ho
  split at h
  ·rename_i a' b' y hop
   split at h
   ·rename_i v' hy;simp only [W0k,W0s] at h;obtain ⟨rfl,rfl,rfl,rfl⟩:=h;refine ⟨o,hi,.inr ⟨hg,.inl ⟨.val u,.inl ?_,?_⟩⟩⟩
    ·intro D w ρ hops;have hv:=Qa2 hops y (by simp [hop,Op.operands]);rw [hy] at hv;have hvv:ρ y=v':=by
      generalize ρ y=z at hv;cases hv;rfl
     exact ⟨u,by simp [execOp,hop,hvv,hc w],.val _⟩
    ·rw [LS.fs_put];exact kk ()
   ·cases h
  ·cases h
 ·cases h
def mxR (ops:Array Oper) (s:LS) (i:Nat):Option (Int × Int × Option Tmp):=
 match opAt ops s i with
 | some o=>
  match o.op with
  | .call c=>
   match c.callee,c.args.toList with
   | .builtin .max,[x,y]=>
    match s.ev x,s.ev y with
    | .val (.int .i64 a),.val (.int .i64 b)=>some (a,b,o.dst)
    | _,_=>none
   | _,_=>none
  | _=>none
 | none=>none
theorem Qt1 {P:Program} {a b:Int} {d:Option Tmp} :
  ∀ (ops:Array Oper) (i:Nat) (s:LS) (K:FS→Prop) (rest:List Nat),mxR ops s i=some (a,b,d)→(∀ _:Unit,SeqR P ops K rest (s.put d (aI (if b>a then b else a))).fs)→SeqR P ops K (i :: rest) s.fs:=by
 intro ops i s K rest h kk;unfold mxR at h
 split at h
 ·rename_i o ho;obtain ⟨hi,hg⟩:=Qbl ho
  split at h
  ·rename_i c hop
   split at h
   ·rename_i x y hc ha
    split at h
    ·rename_i a' b' hx hy;simp only [W0k,W0s] at h;obtain ⟨rfl,rfl,rfl⟩:=h;refine ⟨o,hi,.inr ⟨hg,.inl ⟨_,.inl fun D w ρ hops=>?_,by rw [LS.fs_put];exact kk ()⟩⟩⟩;obtain ⟨callee,args,cts⟩:=c;simp only at hc ha;subst hc;have ha':args=#[x,y]:=by have:=W1y List.toArray ha;simpa using this
     subst ha';have hv:=Qa2 hops x (by simp [hop,Op.operands,Call.operands]);have hv2:=Qa2 hops y (by simp [hop,Op.operands,Call.operands]);rw [hx] at hv;rw [hy] at hv2;generalize hvv:ρ x=v at hv;generalize hvv2:ρ y=v2 at hv2;cases hv;cases hv2;exact ⟨.int .i64 (if b'>a' then b' else a'),by simp [execOp,hop,resolve,invoke,builtin,hvv,hvv2,Builtin.max_,Builtin.max2],.val _⟩
    ·cases h
   ·cases h
  ·cases h
 ·cases h
theorem Qqu {P:Program} {a b:TypeId} {k k':IntKind} {n:Int} (ha:P.underlying a=some (.int k)) (hb:P.underlying b=some (.int k')) (hw:rng k' n):∀ w,(Go.convert a b (.int k n)).run P w=.ok (.int k' n) w:=fun w=>by
 simp [Go.convert,run_underlying ha,run_underlying hb,Conv.intToInt,Qiw hw]
theorem rngu {z:Int} (h1:0≤z) (h2:z≤18446744073709551615):rng .u64 z:=⟨h1,h2⟩
theorem shrN {P:Program} {t:TypeId} {yk:IntKind} {a:Int} {b:Nat} (hb:b≤64) (D:Nat→Prop) (w:World) (xo yo:Operand) (u v:Value) (hu:Ra D w (.val (.int .u64 a)) u) (hv:Ra D w (.val (.int yk (b:Int))) v) :
  ∃ r,((do Go.eqGuard .shr t xo yo u v;Go.binOp .shr t u v):Sem Value).run P w=.ok r w∧Ra D w (.val (.int .u64 (a / 2 ^ b))) r:=by
 cases hu;cases hv;refine ⟨_,?_,.val _⟩;have h1:¬ (b:Int)<0:=by omega
 have h2:min ((b:Int)).toNat IntKind.u64.bits=b:=by show min ((b:Int)).toNat 64=b;omega
 simp [eqGuard,binOp,Op.shift,h1,h2]
theorem fdiv2 (n:Nat):(n:Int) / 2 ^ 1=((n / 2:Nat):Int):=by
 show (n:Int) / 2=_;omega
theorem Qgr {P:Program} {f:FuncId} {e k:Nat} {n:Nat} (h:∀ w,Calls P f #[.slice none 0 0,.int .i64 (n:Int)] w (Qpe w e k 0 [])):Qq2 P f [aN,aI (n:Int)] e k []:=by
 intro D w vs hD hv;obtain ⟨u,v,rfl,hu,hv2⟩:=hv.two;cases hu;cases hv2;refine (h w).mono ?_;rintro r w' ⟨V,rfl,hown,hb⟩;exact ⟨V,[],rfl,hb,hown,by simp,fun j a u ha=>by simp at ha⟩
theorem Zdb {P:Program} {kt:TypeId} (h:Qb9 P kt (.i 0)=true) (es:List (MK × AV)) (he:∀ p∈es,∃ z,p.1=.i z):(es.all fun p=>Qb9 P kt p.1)=true:=by
 rw [W1z];intro p hp;obtain ⟨z,hz⟩:=he p hp;rw [hz];exact h
def lkS (ok:Bool) (fd:Option (Nat × AV)) (zv:Value) (y:AV):Prop:=Sub (Qr9 ok (fdV fd zv) fd.isSome) y
theorem Zg3 {P:Program} {ops:Array Oper} {K:FS→Prop} {rest:List Nat} {i:Nat} {s:LS} {kt e:TypeId} {k:MK} {es:List (MK × AV)} {ok:Bool} {d:Option Tmp} (fd:Option (Nat × AV)) (zv:Value) (h:lkO P ops s i=some (kt,e,es,k,ok,d))
  (hk:(es.all fun p=>Qb9 P kt p.1)=true) (hk2:Qb9 P kt k=true) (hz:(P.info? e).bind (·.zero)=some zv) (hn:Qdb k es 0=fd)
  {y:AV} (hy:lkS ok fd zv y) (kk:SeqR P ops K rest (s.put d y).fs):SeqR P ops K (i :: rest) s.fs:=by
 unfold lkO at h
 split at h
 ·rename_i o ho;obtain ⟨hi,hg⟩:=Qbl ho
  split at h
  ·rename_i t m ko ok' hop
   split at h
   ·rename_i kt' e' es1 kk' hu hm hko;simp only [W0k,W0s] at h;obtain ⟨rfl,rfl,rfl,rfl,rfl,rfl⟩:=h;refine ⟨o,hi,.inr ⟨hg,.inr (.inl ⟨by rw [hop];rfl,fun z nb=>z=y∧nb=none,?_,?_⟩)⟩⟩
    ·intro D w a Q K' hD hops hbx hcont;have hvm:=Qa2 hops m (by simp [hop,Op.operands]);have hvk:=Qa2 hops ko (by simp [hop,Op.operands]);rw [hm] at hvm;rw [Qmz hko] at hvk;generalize hmv:a.eval m=vm at hvm;generalize hkv:a.eval ko=vk at hvk;cases hvk;cases hvm with
     | mp es r es' clock g1 g2 g3 g4' g5 g6=>
      obtain ⟨g4,gB⟩:=g4';obtain ⟨dd,hd'⟩:=Qmy hk2;have e1:(getObj r).run P w=.ok (.map es' clock) w:=by simp [getObj,Sem.run,g3]
      obtain ⟨f1,f2⟩:=Qep hd' hk2 es1 es'.toList 0 (by simpa using g4) (fun p hp=>W1z.1 hk p hp) (fun j p e hp he=>g5 j p e hp (by simpa using he));have main:∃ v,(execOp a.eval o).run P w=.ok (.value v) w∧Ra D w (Qr9 ok' (fdV fd zv) fd.isSome) v:=by
       cases fd with
       | none=>
        have hfind:=f1 hn;obtain ⟨inf,hi1,hi2⟩:∃ inf,P.info? e'=some inf∧inf.zero=some zv:=by
         cases hinf:P.info? e' with
         | none=>rw [hinf] at hz;cases hz
         | some inf=>rw [hinf] at hz;exact ⟨inf,rfl,hz⟩
        cases ok' with
        | true=>
         refine ⟨.tuple #[zv,.bool false],by simp [execOp,hop,hmv,hkv,Instr.lookup,run_underlying hu,e1,Qbh _ hk2,Instr.findKey,run_underlying hd',hfind,zeroValue,typeInfo,hi1,hi2],.tup _ _ rfl (fun j x v hx hv=>?_)⟩
         match j,hx,hv with
         | 0,hx,hv=>simp at hx hv;subst hx hv;exact .val _
         | 1,hx,hv=>simp at hx hv;subst hx hv;exact .val _
         | j+2,hx,_=>simp at hx
        | false=>
         exact ⟨zv,by simp [execOp,hop,hmv,hkv,Instr.lookup,run_underlying hu,e1,Qbh _ hk2,Instr.findKey,run_underlying hd',hfind,zeroValue,typeInfo,hi1,hi2],.val _⟩
       | some p=>
        obtain ⟨j,x⟩:=p;obtain ⟨en,q,q1,q2,q3,hfind⟩:=f2 j x hn;have hre:=g6 q _ en q2 (by simpa using q1);cases ok' with
        | true=>
         refine ⟨.tuple #[en.val,.bool true],by simp [execOp,hop,hmv,hkv,Instr.lookup,run_underlying hu,e1,Qbh _ hk2,Instr.findKey,run_underlying hd',hfind],.tup _ _ rfl (fun j x v hx hv=>?_)⟩
         match j,hx,hv with
         | 0,hx,hv=>simp at hx hv;subst hx hv;exact hre
         | 1,hx,hv=>simp at hx hv;subst hx hv;exact .val _
         | j+2,hx,_=>simp at hx
        | false=>
         exact ⟨en.val,by simp [execOp,hop,hmv,hkv,Instr.lookup,run_underlying hu,e1,Qbh _ hk2,Instr.findKey,run_underlying hd',hfind],hre⟩
      obtain ⟨v,m1,m2⟩:=main;unfold Oper.wp;rw [m1,Oper.upon_value];exact hcont _ w _ none D ⟨rfl,rfl⟩ (Below.refl _ _) (fun _ h=>h) (fun b h=>⟨hD b h,.inl h⟩) (hy D w v m2) (fun id y h=>by cases h)
    ·rintro z nb ⟨rfl,rfl⟩;refine ⟨fun id y h=>(by cases h),?_⟩;simp only [FS.addB];rw [LS.fs_put];exact kk
   ·cases h
  ·cases h
 ·cases h
def lkB (P:Program) (ops:Array Oper) (s:LS) (i:Nat):Option (TypeId × TypeId × Nat × Nat × MK × Bool × Option Tmp):=
 match opAt ops s i with
 | some o=>
  match o.op with
  | .lookup t m k ok=>
   match P.underlying t,s.ev m,keyA (s.ev k) with
   | some (.map kt e),.mref id r,some kk=>some (kt,e,id,r,kk,ok,o.dst)
   | _,_,_=>none
  | _=>none
 | none=>none
theorem Zg4 {P:Program} {ops:Array Oper} {K:FS→Prop} {rest:List Nat} {i:Nat} {s:LS} {kt e:TypeId} {k:MK} {es:List (MK × AV)} {ok:Bool} {d:Option Tmp} (fd:Option (Nat × AV)) (zv:Value) {id r r':Nat} (h:lkB P ops s i=some (kt,e,id,r,k,ok,d)) (hbx0:bget s.bx id=some (.mp r' es)) (hr0:r'=r)
  (hk:(es.all fun p=>Qb9 P kt p.1)=true) (hk2:Qb9 P kt k=true) (hz:(P.info? e).bind (·.zero)=some zv) (hn:Qdb k es 0=fd)
  {y:AV} (hy:lkS ok fd zv y) (kk:SeqR P ops K rest (s.put d y).fs):SeqR P ops K (i :: rest) s.fs:=by
 unfold lkB at h
 split at h
 ·rename_i o ho;obtain ⟨hi,hg⟩:=Qbl ho
  split at h
  ·rename_i t m ko ok' hop
   split at h
   ·rename_i kt' e' id1 r1 kk' hu hm hko;simp only [W0k,W0s] at h;obtain ⟨rfl,rfl,rfl,rfl,rfl,rfl,rfl⟩:=h;subst hr0;refine ⟨o,hi,.inr ⟨hg,.inr (.inl ⟨by rw [hop];rfl,fun z nb=>z=y∧nb=none,?_,?_⟩)⟩⟩
    ·intro D w a Q K' hD hops hbx hcont;have hvm:=Qa2 hops m (by simp [hop,Op.operands]);have hvk:=Qa2 hops ko (by simp [hop,Op.operands]);rw [hm] at hvm;rw [Qmz hko] at hvk;generalize hmv:a.eval m=vm at hvm;generalize hkv:a.eval ko=vk at hvk;cases hvk;cases hvm
     ·obtain ⟨es',clock,g3,⟨g4,gB⟩,g5,g6⟩:=hbx id1 _ hbx0;obtain ⟨dd,hd'⟩:=Qmy hk2;have e1:(getObj r').run P w=.ok (.map es' clock) w:=by simp [getObj,Sem.run,g3]
      obtain ⟨f1,f2⟩:=Qep hd' hk2 es es'.toList 0 (by simpa using g4) (fun p hp=>W1z.1 hk p hp) (fun j p e hp he=>g5 j p e hp (by simpa using he));have main:∃ v,(execOp a.eval o).run P w=.ok (.value v) w∧Ra D w (Qr9 ok' (fdV fd zv) fd.isSome) v:=by
       cases fd with
       | none=>
        have hfind:=f1 hn;obtain ⟨inf,hi1,hi2⟩:∃ inf,P.info? e'=some inf∧inf.zero=some zv:=by
         cases hinf:P.info? e' with
         | none=>rw [hinf] at hz;cases hz
         | some inf=>rw [hinf] at hz;exact ⟨inf,rfl,hz⟩
        cases ok' with
        | true=>
         refine ⟨.tuple #[zv,.bool false],by simp [execOp,hop,hmv,hkv,Instr.lookup,run_underlying hu,e1,Qbh _ hk2,Instr.findKey,run_underlying hd',hfind,zeroValue,typeInfo,hi1,hi2],.tup _ _ rfl (fun j x v hx hv=>?_)⟩
         match j,hx,hv with
         | 0,hx,hv=>simp at hx hv;subst hx hv;exact .val _
         | 1,hx,hv=>simp at hx hv;subst hx hv;exact .val _
         | j+2,hx,_=>simp at hx
        | false=>
         exact ⟨zv,by simp [execOp,hop,hmv,hkv,Instr.lookup,run_underlying hu,e1,Qbh _ hk2,Instr.findKey,run_underlying hd',hfind,zeroValue,typeInfo,hi1,hi2],.val _⟩
       | some p=>
        obtain ⟨j,x⟩:=p;obtain ⟨en,q,q1,q2,q3,hfind⟩:=f2 j x hn;have hre:=g6 q _ en q2 (by simpa using q1);cases ok' with
        | true=>
         refine ⟨.tuple #[en.val,.bool true],by simp [execOp,hop,hmv,hkv,Instr.lookup,run_underlying hu,e1,Qbh _ hk2,Instr.findKey,run_underlying hd',hfind],.tup _ _ rfl (fun j x v hx hv=>?_)⟩
         match j,hx,hv with
         | 0,hx,hv=>simp at hx hv;subst hx hv;exact hre
         | 1,hx,hv=>simp at hx hv;subst hx hv;exact .val _
         | j+2,hx,_=>simp at hx
        | false=>
         exact ⟨en.val,by simp [execOp,hop,hmv,hkv,Instr.lookup,run_underlying hu,e1,Qbh _ hk2,Instr.findKey,run_underlying hd',hfind],hre⟩
      obtain ⟨v,m1,m2⟩:=main;unfold Oper.wp;rw [m1,Oper.upon_value];exact hcont _ w _ none D ⟨rfl,rfl⟩ (Below.refl _ _) (fun _ h=>h) (fun b h=>⟨hD b h,.inl h⟩) (hy D w v m2) (fun id y h=>by cases h)
    ·rintro z nb ⟨rfl,rfl⟩;refine ⟨fun id y h=>(by cases h),?_⟩;simp only [FS.addB];rw [LS.fs_put];exact kk
   ·cases h
  ·cases h
 ·cases h
def lkRO (P:Program) (ops:Array Oper) (s:LS) (i:Nat):Option ((TypeId × Option Value) × List (MK × AV) × MK × Bool × Option Tmp):=
 match lkO P ops s i with
 | some (kt,e,es,k,ok,d)=>some ((kt,(P.info? e).bind (·.zero)),es,k,ok,d)
 | none=>none
def lkRB (P:Program) (ops:Array Oper) (s:LS) (i:Nat):Option ((TypeId × Option Value) × (Nat × Nat × Nat × List (MK × AV)) × MK × Bool × Option Tmp):=
 match lkB P ops s i with
 | some (kt,e,id,r,k,ok,d)=>
  (match bget s.bx id with
  | some (.mp r' es)=>some ((kt,(P.info? e).bind (·.zero)),(id,r,r',es),k,ok,d)
  | _=>none)
 | none=>none
theorem Qyv {P:Program} {kt:TypeId} {zv:Value} {es:List (MK × AV)} {k:MK} {ok:Bool} {d:Option Tmp} (fd:Option (Nat × AV)) {y:AV}
  (hk:(es.all fun p=>Qb9 P kt p.1)=true) (hk2:Qb9 P kt k=true) (hn:Qdb k es 0=fd) (hy:lkS ok fd zv y) :
  ∀ (ops:Array Oper) (i:Nat) (s:LS) (K:FS→Prop) (rest:List Nat),lkRO P ops s i=some ((kt,some zv),es,k,ok,d)→(∀ a:Unit,SeqR P ops K rest (s.put d y).fs)→SeqR P ops K (i :: rest) s.fs:=by
 intro ops i s K rest h kk;unfold lkRO at h
 split at h
 ·rename_i kt' e es' k' ok' d' ho;simp only [W0k,W0s] at h;obtain ⟨⟨rfl,hz⟩,rfl,rfl,rfl,rfl⟩:=h;exact Zg3 fd zv ho hk hk2 hz hn hy (kk ())
 ·cases h
theorem Qyw {P:Program} {kt:TypeId} {zv:Value} {id r:Nat} {es:List (MK × AV)} {k:MK} {ok:Bool} {d:Option Tmp} (fd:Option (Nat × AV)) {y:AV}
  (hk:(es.all fun p=>Qb9 P kt p.1)=true) (hk2:Qb9 P kt k=true) (hn:Qdb k es 0=fd) (hy:lkS ok fd zv y) :
  ∀ (ops:Array Oper) (i:Nat) (s:LS) (K:FS→Prop) (rest:List Nat),lkRB P ops s i=some ((kt,some zv),(id,r,r,es),k,ok,d)→(∀ a:Unit,SeqR P ops K rest (s.put d y).fs)→SeqR P ops K (i :: rest) s.fs:=by
 intro ops i s K rest h kk;unfold lkRB at h
 split at h
 ·rename_i kt' e id' r' k' ok' d' ho
  split at h
  ·rename_i r2 es' hb;simp only [W0k,W0s] at h;obtain ⟨⟨rfl,hz⟩,⟨rfl,rfl,rfl,rfl⟩,rfl,rfl,rfl⟩:=h;exact Zg4 fd zv ho hb rfl hk hk2 hz hn hy (kk ())
  ·cases h
 ·cases h
def insR (P:Program) (ops:Array Oper) (s:LS) (i:Nat):Option (TypeId × (Nat × Nat × Nat × List (MK × AV)) × MK × AV):=
 match insO P ops s i with
 | some (kt,id,r,k,x,none)=>
  (match bget s.bx id with
  | some (.mp r' es)=>some (kt,(id,r,r',es),k,x)
  | _=>none)
 | _=>none
theorem Zbm {P:Program} {kt:TypeId} {id r:Nat} {es es2:List (MK × AV)} {k:MK} {x:AV}
  (hk:(es.all fun p=>Qb9 P kt p.1)=true) (hk2:Qb9 P kt k=true) (hn:Qdb k es 0=none) (he:es++[(k,x)]=es2) :
  ∀ (ops:Array Oper) (i:Nat) (s:LS) (K:FS→Prop) (rest:List Nat),insR P ops s i=some (kt,(id,r,r,es),k,x)→(∀ a:Unit,SeqR P ops K rest (s.setB id (.mp r es2)).fs)→SeqR P ops K (i :: rest) s.fs:=by
 subst he;intro ops i s K rest h kk;unfold insR at h
 split at h
 ·rename_i kt' id' r' k' x' ho
  split at h
  ·rename_i r2 es' hb;simp only [W0k,W0s] at h;obtain ⟨rfl,⟨rfl,rfl,rfl,rfl⟩,rfl,rfl⟩:=h;exact Zj2 ho hb rfl hk hk2 hn rfl (kk ())
  ·cases h
 ·cases h
theorem Qvp {es:Array MapEntry} {clock:Nat} (h:Born es clock) (i:Nat) (f:MapEntry→MapEntry) (hf:∀ e,(f e).born=e.born):Born (es.modify i f) clock:=by
 have hm:(es.modify i f).toList.map (·.born)=es.toList.map (·.born):=by
  apply List.ext_getElem?;intro j;simp only [W0v,W17,Array.getElem?_modify];by_cases hij:i=j
  ·subst hij;cases he:es[i]? with
   | none=>simp
   | some e=>simp [hf e]
  ·simp [hij]
 refine ⟨fun x hx=>?_,by rw [hm];exact h.2⟩;have:x.born∈(es.modify i f).toList.map (·.born):=List.mem_map_of_mem hx;rw [hm] at this;obtain ⟨y,hy,he⟩:=W1i.1 this;rw [← he];exact h.1 y hy
theorem seqUpd {P:Program} {ops:Array Oper} {K:FS→Prop} {rest:List Nat} {i:Nat} {s s':LS} {kt:TypeId} {id r r':Nat} {k:MK} {x:AV} {es:List (MK × AV)} (h:insO P ops s i=some (kt,id,r,k,x,none))
  (hb:bget s.bx id=some (.mp r' es)) (hr:r'=r) (hk:(es.all fun p=>Qb9 P kt p.1)=true) (hk2:Qb9 P kt k=true) {j0:Nat} {x0:AV} (hn:Qdb k es 0=some (j0,x0))
  (hf:s.setB id (.mp r' (es.set j0 (k,x)))=s') (kk:SeqR P ops K rest s'.fs):SeqR P ops K (i :: rest) s.fs:=by
 subst hr hf;have core:∀ (o:Oper) (t:TypeId) (m ko xo:Operand),opAt ops s i=some o→(o.op=.insert t m ko xo∨o.op=.mapUpdate t m ko xo)→(∃ e,P.underlying t=some (.map kt e))→s.ev m=.mref id r'→keyA (s.ev ko)=some k→s.ev xo=x→o.dst=none→SeqR P ops K (i :: rest) s.fs:=by
  intro o t m ko xo ho hop hu hm hko hx hd;obtain ⟨hi,hg⟩:=Qbl ho;have hmo:m∈o.op.operands∧ko∈o.op.operands∧xo∈o.op.operands:=by
   rcases hop with h | h<;>simp [h,Op.operands]
  refine ⟨o,hi,.inr ⟨hg,.inr (.inr ⟨by rcases hop with h | h<;>(rw [h];rfl),by rcases hop with h | h<;>(rw [h];rfl),id,fun z y'=>z=.any∧y'=.mp r' (es.set j0 (k,x)),?_,?_⟩)⟩⟩
  ·refine Qtn.up ?_;intro D w a Q K' hD hops hbx hnd hcont;have hvm:=Qa2 hops m hmo.1;have hvk:=Qa2 hops ko hmo.2.1;have hvx:=Qa2 hops xo hmo.2.2;rw [hm] at hvm;rw [Qmz hko] at hvk;rw [hx] at hvx;generalize hmv:a.eval m=vm at hvm;generalize hkv:a.eval ko=vk at hvk;generalize hxv:a.eval xo=vx at hvx;cases hvm;cases hvk;obtain ⟨es',clock,g1,⟨g2,gB⟩,g3,g4⟩:=hbx id _ hb;obtain ⟨d,hd'⟩:=Qmy hk2;obtain ⟨e,hu⟩:=hu;obtain ⟨en,q0,q1,q2,q3,hfind⟩:=(Qep hd' hk2 es es'.toList 0 (by simpa using g2) (fun p hp=>W1z.1 hk p hp) (fun j p e hp he=>g3 j p e hp (by simpa using he))).2 j0 x0 hn;have hq:q0=j0:=by omega
   subst hq;have hen:es'[q0]?=some en:=by simpa using q1
   have hkey:en.key=k.val:=g3 q0 _ en q2 hen;have hstay:(Instr.keyThatStays k.val k.val).run P w=.ok k.val w:=by
    cases k<;>simp [Instr.keyThatStays,MK.val,Instr.sameBits,Qnn]
   have hrun:(Instr.mapUpdate t (.map (some r')) k.val vx).run P w=.ok () { w with heap:=w.heap.setIfInBounds r' (.map (es'.modify q0 fun e=>{ e with key:=k.val,val:=vx }) clock) }:=by
    have e1:(getObj r').run P w=.ok (.map es' clock) w:=by simp [getObj,Sem.run,g1]
    have e2:∀ o',(setObj r' o').run P w=.ok () { w with heap:=w.heap.setIfInBounds r' o' }:=fun o'=>by simp [setObj,Sem.run,g1]
    simp [Instr.mapUpdate,run_underlying hu,e1,Qbh false hk2,Instr.findKey,run_underlying hd',hfind,e2,hen,hkey,hstay]
   have hexec:(execOp a.eval o).run P w=.ok .skip { w with heap:=w.heap.setIfInBounds r' (.map (es'.modify q0 fun e=>{ e with key:=k.val,val:=vx }) clock) }:=by
    rcases hop with h | h<;>simp [execOp,h,hmv,hkv,hxv,hrun]
   unfold Oper.wp;rw [hexec,Oper.upon_skip];have hlt:r'<w.heap.size:=(W06.1 g1).1;have hother:∀ q,q ≠ r'→(w.heap.setIfInBounds r' (.map (es'.modify q0 fun e=>{ e with key:=k.val,val:=vx }) clock))[q]?=w.heap[q]?:=fun q hq=>Array.getElem?_setIfInBounds_ne (Ne.symm hq);have hfr:∀ b u,Ra D w b u→Ra D { w with heap:=w.heap.setIfInBounds r' (.map (es'.modify q0 fun e=>{ e with key:=k.val,val:=vx }) clock) } b u:=fun b u hu=>
    hu.frame (fun _ h=>h) (by simp) (fun b hdb hl=>hother b (fun e=>hnd _ r' hb rfl (e ▸ hdb)))
   refine hcont undef _ .any _ _ ⟨rfl,rfl⟩ hb ⟨rfl,rfl,rfl,by simp,fun q hq=>by omega⟩ (fun q hq _=>hother q (fun e=>hq (by rw [e];rfl))) (fun g hg=>⟨.inl hg,hnd _ g hb hg⟩)
    ⟨(es'.modify q0 fun e=>{ e with key:=k.val,val:=vx }),clock,by simp [hlt],⟨by simp [g2],Qvp gB _ _ fun e=>rfl⟩,fun j p e hp he=>?_,fun j p e hp he=>?_⟩ (.any _)
   ·rw [Array.getElem?_modify] at he;rw [List.getElem?_set] at hp;by_cases hj:q0=j
    ·subst hj;rw [W1x rfl,hen] at he;simp only [Option.map_some,W0k] at he;have hl:=Qan q2;rw [W1x rfl,W1x hl] at hp;obtain rfl:=W0c hp;subst he;rfl
    ·rw [W1w hj] at he hp;exact g3 j p e hp he
   ·rw [Array.getElem?_modify] at he;rw [List.getElem?_set] at hp;by_cases hj:q0=j
    ·subst hj;rw [W1x rfl,hen] at he;simp only [Option.map_some,W0k] at he;have hl:=Qan q2;rw [W1x rfl,W1x hl] at hp;obtain rfl:=W0c hp;subst he;exact hfr _ _ hvx
    ·rw [W1w hj] at he hp;exact hfr _ _ (g4 j p e hp he)
  ·rintro z y' ⟨rfl,rfl⟩;rw [hd];have:=kk;rw [← LS.fs_setB] at this;exact this
 unfold insO at h
 split at h
 ·rename_i o ho
  split at h
  ·rename_i t m ko xo hop
   split at h
   ·rename_i kt' e id' r kk' hu hm hko;simp only [W0k,W0s] at h;obtain ⟨rfl,rfl,rfl,rfl,hx,hd⟩:=h;exact core o t m ko xo ho (.inl hop) ⟨e,hu⟩ hm hko hx hd
   ·cases h
  ·rename_i t m ko xo hop
   split at h
   ·rename_i kt' e id' r kk' hu hm hko;simp only [W0k,W0s] at h;obtain ⟨rfl,rfl,rfl,rfl,hx,hd⟩:=h;exact core o t m ko xo ho (.inr hop) ⟨e,hu⟩ hm hko hx hd
   ·cases h
  ·cases h
 ·cases h
theorem Zbk {P:Program} {kt:TypeId} {id r:Nat} {es es2:List (MK × AV)} {k:MK} {x:AV} {j0:Nat} {x0:AV}
  (hk:(es.all fun p=>Qb9 P kt p.1)=true) (hk2:Qb9 P kt k=true) (hn:Qdb k es 0=some (j0,x0)) (he:es.set j0 (k,x)=es2) :
  ∀ (ops:Array Oper) (i:Nat) (s:LS) (K:FS→Prop) (rest:List Nat),insR P ops s i=some (kt,(id,r,r,es),k,x)→(∀ a:Unit,SeqR P ops K rest (s.setB id (.mp r es2)).fs)→SeqR P ops K (i :: rest) s.fs:=by
 subst he;intro ops i s K rest h kk;unfold insR at h
 split at h
 ·rename_i kt' id' r' k' x' ho
  split at h
  ·rename_i r2 es' hb;simp only [W0k,W0s] at h;obtain ⟨rfl,⟨rfl,rfl,rfl,rfl⟩,rfl,rfl⟩:=h;exact seqUpd ho hb rfl hk hk2 hn rfl (kk ())
  ·cases h
 ·cases h
def mpR (id:Nat) (s:LS):Option (Nat × List (MK × AV)):=
 match bget s.bx id with
 | some (.mp r es)=>some (r,es)
 | _=>none
theorem Qt2 {P:Program} {id r:Nat} {es es':List (MK × AV)} (he:es=es'):∀ (c:Cx) (Q:Exit→FS→Prop) (code:Code) (s:LS),mpR id s=some (r,es)→(∀ a:Unit,AWp c P code Q (s.setB id (.mp r es')).fs)→AWp c P code Q s.fs:=by
 subst he;intro c Q code s h kk;unfold mpR at h
 split at h
 ·rename_i r' es' hb;simp only [W0k,W0s] at h;obtain ⟨rfl,rfl⟩:=h;have:=kk ();rw [← LS.fs_setB] at this;have e:s.fs.setB id (some (.mp r' es'))=s.fs:=by
   show FS.mk _ _=FS.mk _ _;congr 1;funext i;show (if i=id then some (Bx.mp r' es') else s.fs.bx i)=s.fs.bx i
   split
   ·rename_i hi;subst hi;exact hb.symm
   ·rfl
  rw [e] at this;exact this
 ·cases h
end Go.Proofs.YtkhodpknpligpaaGreat
