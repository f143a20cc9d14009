import Derived.Test.YtahlldgocpabjaaGreatMrgI
import Derived.Test.YtahlldgocpabjaaGreatAbsBr
import Derived.Test.YtahlldgocpabjaaGreatVc
import Derived.Test.YtahlldgocpabjaaGreatChecked
set_option linter.unusedVariables false
set_option linter.unusedSimpArgs false
namespace Go.Proofs.YtahlldgocpabjaaGreat
open Go Go.RowKit Copyhold
def cpR (P:Program) (ops:Array Oper) (s:LS) (i:Nat):Option (Nat × Value × Nat × Nat × Value × TypeId × Nat × List (List AV) × Nat × List (List AV) × Nat × Option Tmp):=
 match opAt ops s i with
 | some o=>
  match o.op with
  | .call c=>
   match c.callee,c.args.toList,c.argTypes.toList with
   | .builtin .copy,[x,y],[dT,sT]=>
    match s.ev x,s.ev y,Qkn P dT with
    | .rs q V k lo,.sl k2 _ ys,some e'=>
     match szP P e',bget s.bx q with
     | some k3,some (.row V' e k' xs)=>some (q,V,k,lo,V',e,k',xs,k2,ys,k3,o.dst)
     | _,_=>none
    | _,_,_=>none
   | _,_,_=>none
  | _=>none
 | none=>none
theorem Zjd {D:Nat→Prop} {w:World} {k:Nat} {t:Bool} {ys:List (List AV)} {v:Value} (h:Ra D w (.sl k t ys) v):∀ l∈ys,l.length=k:=fun l hl=>by
 cases h with
 | sl k t xs A c b off vs h1 h2 h3 h4 h5 h6=>
  obtain ⟨q,hq⟩:=List.mem_iff_getElem?.1 hl;exact h4 q l hq
theorem Qjr {P:Program} {w:World} {k n c:Nat} {A:Option Addr} {us:List Value} (h:Sl w k (.slice A n c) n us):(Builtin.firstCells k n (.slice A n c)).run P w=.ok us.toArray w:=by
 obtain ⟨A',c',he,hc,hl,hh⟩:=h;simp only [Value.slice.injEq] at he;obtain ⟨rfl,_,rfl⟩:=he;cases A with
 | some a=>
  refine run_firstCells_some (w:=w) k n a n c us hl fun j v hv=>?_;by_cases h0:0<n
  ·obtain ⟨b,off,ha,hb,hcell⟩:=hh h0;obtain rfl:=Option.some.inj ha;rw [Qbj];exact hcell j v hv
  ·have:us=[]:=List.eq_nil_of_length_eq_zero (by rw [hl,show n=0 from by omega];simp);subst this;simp at hv
 | none=>
  have h0:¬ 0<n:=fun h0=>by obtain ⟨b,off,ha,_⟩:=hh h0;cases ha
  have:us=[]:=List.eq_nil_of_length_eq_zero (by rw [hl,show n=0 from by omega];simp);subst this;exact run_firstCells_none (w:=w) k n n c
theorem Qhi {P:Program} {q k lo:Nat} {V:Value} {e:TypeId} {xs ys:List (List AV)} {d:Option Tmp} (hl:lo+ys.length≤xs.length) :
  ∀ (ops:Array Oper) (i:Nat) (s:LS) (K:FS→Prop) (rest:List Nat),cpR P ops s i=some (q,V,k,lo,V,e,k,xs,k,ys,k,d)→(∀ a:Unit,SeqR P ops K rest ((s.put d (aI (ys.length:Int))).setB q (.row V e k (xs.take lo++ys++xs.drop (lo+ys.length)))).fs)→SeqR P ops K (i :: rest) s.fs:=by
 intro ops i s K rest h kk;unfold cpR at h
 split at h
 ·rename_i o ho;obtain ⟨hi,hg⟩:=Qbp ho
  split at h
  ·rename_i c hop
   split at h
   ·rename_i x y dT sT hc hca ht
    split at h
    ·rename_i q' V' k' lo' k2 tt ys' e' hx hy he'
     split at h
     ·rename_i k3 V2 e2 k4 xs' hk3 hb;simp only [Option.some.injEq,Prod.mk.injEq] at h;obtain ⟨rfl,rfl,rfl,rfl,rfl,rfl,rfl,rfl,rfl,rfl,rfl,rfl⟩:=h;obtain ⟨callee,args,cts⟩:=c;simp only at hc hca ht;subst hc;have ha':args=#[x,y]:=by have:=congrArg List.toArray hca;simpa using this
      have ht':cts=#[dT,sT]:=by have:=congrArg List.toArray ht;simpa using this
      subst ha' ht';refine ⟨o,hi,.inr ⟨hg,.inr (.inr ⟨by rw [hop];rfl,by rw [hop];rfl,q',fun z y'=>z=aI (ys'.length:Int)∧y'=.row V2 e2 k3 (xs'.take lo'++ys'++xs'.drop (lo'+ys'.length)),?_,?_⟩)⟩⟩
      ·refine Qtm.up ?_;intro D w ac Q K' hD hops hbx hnd hcont;have hvx:=Qa5 hops x (by simp [hop,Op.operands,Call.operands]);have hvy:=Qa5 hops y (by simp [hop,Op.operands,Call.operands]);rw [hx] at hvx;rw [hy] at hvy;generalize hxv:ac.eval x=vx at hvx;generalize hyv:ac.eval y=vy at hvy;have hbox:=hbx q' _ hb;have hk:=hbox.1;have hky:=Zjd hvy;obtain ⟨us,hsl,hus,hru⟩:=Qhf hvy;obtain ⟨A,c,rfl,hcl,hul,hcells⟩:=id hsl;have hfc:=Qjr (P:=P) hsl;cases hvx with
       | rs id b n cap k lo hlo=>
        have hnD:¬ D b:=hnd _ b hb rfl;obtain ⟨_,us0,hown0,_⟩:=id hbox;have hn:n=xs'.length:=by
         rcases hown0.2 with ⟨hV,_⟩ | ⟨g,cap',cur,hV,_⟩
         ·cases hV
         ·simp only [Value.slice.injEq] at hV;exact hV.2.1
        have hmul:(lo'+ys'.length)*k3=lo'*k3+ys'.length*k3:=Nat.add_mul ..;have hfy:ys'.flatten.length=ys'.length*k3:=Qfw hky;have hmin:Nat.min ys'.length (n-lo')=ys'.length:=Nat.min_eq_left (by omega);obtain ⟨w',h1,h2,h3,h4⟩:=Zax (P:=P) hbox hnD (cs:=ys'.flatten) (vs:=us) (xs':=xs'.take lo'++ys'++xs'.drop (lo'+ys'.length)) (lo'*k3) (by omega) hus hru (by rw [hfy,← hmul];exact Nat.mul_le_mul_right _ hl)
         (fun l hl'=>by
          rcases List.mem_append.1 hl' with h | h
          ·rcases List.mem_append.1 h with h | h
           ·exact hk l (List.mem_of_mem_take h)
           ·exact hky l h
          ·exact hk l (List.mem_of_mem_drop h))
         (by simp only [List.length_append,List.length_take,List.length_drop];omega)
         (by rw [List.flatten_append,List.flatten_append,Qjp _ hk,Qm8 _ hk,hmul,hfy])
        have hrun:(execOp ac.eval o).run P w=.ok (.value (goInt ys'.length)) w':=by
         simp [execOp,hop,resolve,invoke,builtin,hxv,hyv,Builtin.copy_,run_underlying (Qg0 he'),Builtin.lenOf,Qct hk3,hmin,hfc,h1]
        unfold Oper.wp;rw [hrun,Oper.upon_value];exact hcont _ w' _ _ _ ⟨rfl,rfl⟩ hb h3 (fun g hg _=>h4 g (fun e=>hg (by rw [e];rfl))) (fun g hg=>⟨.inl hg,hnd _ g hb hg⟩) h2 (.val _)
      ·rintro z y' ⟨rfl,rfl⟩;rw [LS.fs_put,LS.fs_setB];exact kk ()
     ·cases h
    ·cases h
   ·cases h
  ·cases h
 ·cases h
def zrR (P:Program) (q:Nat) (ops:Array Oper) (s:LS) (i:Nat):Option (Nat × List (List AV) × Nat × Int × TypeId × TypeId × List AV × Nat):=
 match opAt ops s i with
 | some o=>
  match o.op,o.dst with
  | .call c,some d=>
   match c.callee,c.args.toList,c.argTypes.toList with
   | .builtin .append,[x,n],[t,tn]=>
    match s.ev x,s.ev n,Qkn P t,P.underlying tn,bget s.bx q with
    | .pre k xs i0,.val (.int .i64 m),some e,some (.int .i64),none=>
     match Qq9 P e with
     | some z=>some (k,xs,i0,m,t,e,z,d)
     | none=>none
    | _,_,_,_,_=>none
   | _,_,_=>none
  | _,_=>none
 | none=>none
theorem Qt1 {P:Program} {q k i0 d:Nat} {xs:List (List AV)} {m:Int} {t e:TypeId} {z:List AV} (c bytes:Nat) (hE:Qg1 P t e k bytes=true) (hm:m=(c:Int)) (h0:0<c) (hi0:i0≤xs.length) (hgt:xs.length<i0+c)
  (h63:i0+c≤140737488355327) (hby:(i0+c)*bytes≤140737488355328) :
  ∀ (ops:Array Oper) (i:Nat) (s:LS) (K:FS→Prop) (rest:List Nat),zrR P q ops s i=some (k,xs,i0,m,t,e,z,d)→(∀ V:Value,SeqR P ops K rest ((s.put (some d) (.rw q V (i0+c))).setB q (.row V e k (xs.take i0++List.replicate c z))).fs)→SeqR P ops K (i :: rest) s.fs:=by
 intro ops i s K rest h kk;subst hm;unfold zrR at h
 split at h
 ·rename_i o ho;obtain ⟨hi,hg⟩:=Qbp ho
  split at h
  ·rename_i cc d' hop hd
   split at h
   ·rename_i x n t' tn hc hca hct
    split at h
    ·rename_i k' xs' i0' m' e' hx hn hel htn hbn
     split at h
     ·rename_i z' hz;simp only [Option.some.injEq,Prod.mk.injEq] at h;obtain ⟨rfl,rfl,rfl,rfl,rfl,rfl,rfl,rfl⟩:=h;obtain ⟨callee,args,cts⟩:=cc;simp only at hc hca hct;subst hc;have ha':args=#[x,n]:=by have:=congrArg List.toArray hca;simpa using this
      have ht':cts=#[t',tn]:=by have:=congrArg List.toArray hct;simpa using this
      subst ha' ht';refine ⟨o,hi,.inr ⟨hg,.inr (.inl ⟨by rw [hop];rfl,fun y nb=>∃ V,y=.rw q V (i0'+c)∧nb=some (q,.row V e' k' (xs'.take i0'++List.replicate c z')),?_,?_⟩)⟩⟩
      ·intro D w ac Q K' hD hops hbx hcont;have hvx:=Qa5 hops x (by simp [hop,Op.operands,Call.operands]);have hvn:=Qa5 hops n (by simp [hop,Op.operands,Call.operands]);rw [hx] at hvx;rw [hn] at hvn;generalize hxv:ac.eval x=vx at hvx;generalize hnv:ac.eval n=vn at hvn;cases hvn;obtain ⟨zv,hEl⟩:=Qhw hE;obtain ⟨ht,hinf,hzs,hsz⟩:=id hEl;obtain ⟨ti,hti,htz,hsize,hbytes⟩:=Qf5 hinf;obtain ⟨it,z2,g1,g2,hrepz⟩:=Qfx (D:=D) (w:=w) hz;rw [hti] at g1;obtain rfl:=Option.some.inj g1;rw [htz] at g2;obtain rfl:=Option.some.inj g2;cases hvx with
       | pre k xs i0 A cA hsl hle=>
        have hcA:cA=xs'.length:=by
         cases hsl with
         | sl k t xs A c b off vs h1 h2 h3 h4 h5 h6=>exact h2 rfl
        subst hcA;have hkx:=Zjd hsl;obtain ⟨us,hS,hus,hru⟩:=Qhf hsl;have hul:us.length=xs'.length*k':=by obtain ⟨_,_,he,_,hl,_⟩:=id hS;exact hl
        have hpre:=hS.pre i0' hle;have hmul:i0'*k'≤xs'.length*k':=Nat.mul_le_mul_right _ hle;have hold:(Builtin.firstCells ti.size i0' (.slice A i0' xs'.length)).run P w.drew=.ok (us.take (i0'*k')).toArray w.drew:=by
         rw [hsize];exact Qjr (show Sl w.drew k' (.slice A i0' xs'.length) i0' (us.take (i0'*k')) from hpre)
        have hG:=grownCap_ge w (i0'+c) xs'.length e';have hG2:=grownCap_le_maxLen w (i0'+c) xs'.length e' (by unfold maxLen;omega);have hc48:c*ti.bytes≤281474976710656:=by
         rw [hbytes];have:=Nat.mul_le_mul_right bytes (show c≤i0'+c by omega);omega
        have hrun:=fun ty=>Lib.run_append_grow_zeros w t' tn ty e' ti zv .i64 .i64 ht htn hti htz A i0' xs'.length (us.take (i0'*k')) hold c h0 (by omega) hgt (by omega) hc48 (growslice_fits hgt (by rw [hbytes];exact hby));generalize hGG:grownCap w (i0'+c) xs'.length e'=G at hrun hG hG2;have hzc:∀ n,(Builtin.zeroCells zv.cells n).toList=(List.replicate n zv.cells.toList).flatten:=fun n=>Qld zv.cells n (by omega);have hzl:∀ n,(Builtin.zeroCells zv.cells n).toList.length=n*k':=fun n=>by
         rw [hzc,Qfw (k:=k') (fun l hl=>by rw [List.eq_of_mem_replicate hl];simpa using hzs),List.length_replicate]
        generalize hcells:(us.take (i0'*k')).toArray++Builtin.zeroCells zv.cells c++Builtin.zeroCells zv.cells (G-(i0'+c))=cells at hrun;have hcl:cells.toList=(us.take (i0'*k')++(List.replicate c zv.cells.toList).flatten)++(Builtin.zeroCells zv.cells (G-(i0'+c))).toList:=by
         rw [← hcells,Array.toList_append,Array.toList_append,hzc c]
        have hzcl:((List.replicate c zv.cells.toList).flatten).length=c*k':=by rw [← hzc];exact hzl c
        have hadd:(i0'+c)*k'=i0'*k'+c*k':=Nat.add_mul ..;have hlen1:(us.take (i0'*k')++(List.replicate c zv.cells.toList).flatten).length=(i0'+c)*k':=by
         rw [List.length_append,List.length_take,hzcl,hadd];omega
        have hsz2:cells.size=G*k':=by
         have e1:cells.size=cells.toList.length:=by simp
         rw [e1,hcl,List.length_append,hlen1,hzl,← Nat.add_mul];congr 1;omega
        have hb:Below w.heap.size w (w.drew.alloc (.cells cells e')):=(Qh0 (Below.refl _ _) 1).alloc (Nat.le_refl _) _;have hown:(w.drew.alloc (.cells cells e')).ownsRow 0 e' k' (.slice (some ⟨w.heap.size,0,none⟩) (i0'+c) G) (i0'+c) (us.take (i0'*k')++(List.replicate c zv.cells.toList).flatten):=by
         refine ⟨hlen1,.inr ⟨w.heap.size,G,cells,rfl,Nat.zero_le _,heap_alloc_new w.drew _,hG,hG2,hsz2,?_⟩⟩;rw [hcl,← hlen1];exact List.take_left' rfl
        have hxl:(xs'.take i0'++List.replicate c z').length=i0'+c:=by rw [List.length_append,List.length_take,List.length_replicate];omega
        have hzk:z'.length=k':=by have:=hrepz.1;rw [← hzs];omega
        unfold Oper.wp;have hex:(execOp ac.eval o).run P w=.ok (.value (.slice (some ⟨w.heap.size,0,none⟩) (i0'+c) G)) (w.drew.alloc (.cells cells e')):=by
         simp [execOp,hop,resolve,invoke,builtin,hxv,hnv,hrun]
        rw [hex,Oper.upon_value];refine hcont _ _ _ _ D ⟨_,rfl,rfl⟩ hb (fun _ h=>h) (fun b h=>⟨Nat.lt_of_lt_of_le (hD b h) hb.size,.inl h⟩) (.rw q _ G _) (fun id y hy=>?_);obtain ⟨rfl,rfl⟩:=by simpa using hy
        refine ⟨fun g hg'=>?_,⟨fun l hl=>?_,_,by rw [hxl];exact hown,fun u hu=>?_,?_⟩⟩
        ·have:w.heap.size=g:=by simpa [Bx.blk,Value.ownBlock] using hg'
         subst this;exact ⟨Nat.le_refl _,fun hd=>by have:=hD _ hd;omega⟩
        ·rcases List.mem_append.1 hl with h | h
         ·exact hkx l (List.mem_of_mem_take h)
         ·rw [List.eq_of_mem_replicate h];exact hzk
        ·rcases List.mem_append.1 hu with h | h
         ·exact hus u (List.mem_of_mem_take h)
         ·obtain ⟨l,hl1,hl2⟩:=List.mem_flatten.1 h;rw [List.eq_of_mem_replicate hl1] at hl2;obtain ⟨p,hp⟩:=List.mem_iff_getElem?.1 hl2;exact hrepz.2.1 p u (by simpa using hp)
        ·have hP:PW D w (xs'.take i0'++List.replicate c z').flatten (us.take (i0'*k')++(List.replicate c zv.cells.toList).flatten):=by
          rw [List.flatten_append,Qjp _ hkx];refine PW.append (by rw [List.length_take,List.length_take,hul,Qfw hkx]) (PW.take hru _) fun j a u ha hu=>?_;exact (Qfq hrepz c).2.2 j a u ha (by simpa using hu)
         exact fun j a u ha hu=>(hP j a u ha hu).frame (fun _ h=>h) hb.size (fun b hd hl=>hb.block b hl)
      ·rintro y nb ⟨V',rfl,rfl⟩;refine ⟨fun id y hy=>?_,?_⟩
       ·obtain ⟨rfl,rfl⟩:=by simpa using hy
        exact hbn
       ·have:=kk V';rw [← LS.fs_setB,← LS.fs_put] at this;rw [hd];exact this
     ·cases h
    ·cases h
   ·cases h
  ·cases h
 ·cases h
def cvR (ops:Array Oper) (s:LS) (i:Nat):Option (TypeId × TypeId × Value × Option Tmp):=
 match opAt ops s i with
 | some o=>
  match o.op with
  | .convert a b y=>
   match s.ev y with
   | .val v=>some (a,b,v,o.dst)
   | _=>none
  | _=>none
 | none=>none
theorem Qt3 {P:Program} {a b:TypeId} {v u:Value} {d:Option Tmp} (hc:∀ w,(Go.convert a b v).run P w=.ok u w) :
  ∀ (ops:Array Oper) (i:Nat) (s:LS) (K:FS→Prop) (rest:List Nat),cvR ops s i=some (a,b,v,d)→(∀ _:Unit,SeqR P ops K rest (s.put d (.val u)).fs)→SeqR P ops K (i :: rest) s.fs:=by
 intro ops i s K rest h kk;unfold cvR at h
 split at h
 ·rename_i o ho;obtain ⟨hi,hg⟩:=Qbp ho
  split at h
  ·rename_i a' b' y hop
   split at h
   ·rename_i v' hy;simp only [Option.some.injEq,Prod.mk.injEq] at h;obtain ⟨rfl,rfl,rfl,rfl⟩:=h;refine ⟨o,hi,.inr ⟨hg,.inl ⟨.val u,.inl ?_,?_⟩⟩⟩
    ·intro D w ρ hops;have hv:=Qa5 hops y (by simp [hop,Op.operands]);rw [hy] at hv;have hvv:ρ y=v':=by
      generalize ρ y=z at hv;cases hv;rfl
     exact ⟨u,by simp [execOp,hop,hvv,hc w],.val _⟩
    ·rw [LS.fs_put];exact kk ()
   ·cases h
  ·cases h
 ·cases h
def mxR (ops:Array Oper) (s:LS) (i:Nat):Option (Int × Int × Option Tmp):=
 match opAt ops s i with
 | some o=>
  match o.op with
  | .call c=>
   match c.callee,c.args.toList with
   | .builtin .max,[x,y]=>
    match s.ev x,s.ev y with
    | .val (.int .i64 a),.val (.int .i64 b)=>some (a,b,o.dst)
    | _,_=>none
   | _,_=>none
  | _=>none
 | none=>none
theorem Zat {P:Program} {a b:Int} {d:Option Tmp} :
  ∀ (ops:Array Oper) (i:Nat) (s:LS) (K:FS→Prop) (rest:List Nat),mxR ops s i=some (a,b,d)→(∀ _:Unit,SeqR P ops K rest (s.put d (aI (if b>a then b else a))).fs)→SeqR P ops K (i :: rest) s.fs:=by
 intro ops i s K rest h kk;unfold mxR at h
 split at h
 ·rename_i o ho;obtain ⟨hi,hg⟩:=Qbp ho
  split at h
  ·rename_i c hop
   split at h
   ·rename_i x y hc ha
    split at h
    ·rename_i a' b' hx hy;simp only [Option.some.injEq,Prod.mk.injEq] at h;obtain ⟨rfl,rfl,rfl⟩:=h;refine ⟨o,hi,.inr ⟨hg,.inl ⟨_,.inl fun D w ρ hops=>?_,by rw [LS.fs_put];exact kk ()⟩⟩⟩;obtain ⟨callee,args,cts⟩:=c;simp only at hc ha;subst hc;have ha':args=#[x,y]:=by have:=congrArg List.toArray ha;simpa using this
     subst ha';have hv:=Qa5 hops x (by simp [hop,Op.operands,Call.operands]);have hv2:=Qa5 hops y (by simp [hop,Op.operands,Call.operands]);rw [hx] at hv;rw [hy] at hv2;generalize hvv:ρ x=v at hv;generalize hvv2:ρ y=v2 at hv2;cases hv;cases hv2;exact ⟨.int .i64 (if b'>a' then b' else a'),by simp [execOp,hop,resolve,invoke,builtin,hvv,hvv2,Builtin.max_,Builtin.max2],.val _⟩
    ·cases h
   ·cases h
  ·cases h
 ·cases h
theorem Qqw {P:Program} {a b:TypeId} {k k':IntKind} {n:Int} (ha:P.underlying a=some (.int k)) (hb:P.underlying b=some (.int k')) (hw:rng k' n):∀ w,(Go.convert a b (.int k n)).run P w=.ok (.int k' n) w:=fun w=>by
 simp [Go.convert,run_underlying ha,run_underlying hb,Conv.intToInt,Qi3 hw]
theorem rngu {z:Int} (h1:0≤z) (h2:z≤18446744073709551615):rng .u64 z:=⟨h1,h2⟩
theorem shrN {P:Program} {t:TypeId} {yk:IntKind} {a:Int} {b:Nat} (hb:b≤64) (D:Nat→Prop) (w:World) (xo yo:Operand) (u v:Value) (hu:Ra D w (.val (.int .u64 a)) u) (hv:Ra D w (.val (.int yk (b:Int))) v) :
  ∃ r,((do Go.eqGuard .shr t xo yo u v;Go.binOp .shr t u v):Sem Value).run P w=.ok r w∧Ra D w (.val (.int .u64 (a / 2 ^ b))) r:=by
 cases hu;cases hv;refine ⟨_,?_,.val _⟩;have h1:¬ (b:Int)<0:=by omega
 have h2:min ((b:Int)).toNat IntKind.u64.bits=b:=by show min ((b:Int)).toNat 64=b;omega
 simp [eqGuard,binOp,Op.shift,h1,h2]
theorem fdiv2 (n:Nat):(n:Int) / 2 ^ 1=((n / 2:Nat):Int):=by
 show (n:Int) / 2=_;omega
theorem Qsg {P:Program} {f:FuncId} {e k:Nat} {n:Nat} (h:∀ w,Calls P f #[.slice none 0 0,.int .i64 (n:Int)] w (Zfc w e k 0 [])):Qq2 P f [aN,aI (n:Int)] e k []:=by
 intro D w vs hD hv;obtain ⟨u,v,rfl,hu,hv2⟩:=hv.two;cases hu;cases hv2;refine (h w).mono ?_;rintro r w' ⟨V,rfl,hown,hb⟩;exact ⟨V,[],rfl,hb,hown,by simp,fun j a u ha=>by simp at ha⟩
end Go.Proofs.YtahlldgocpabjaaGreat

namespace Go.Proofs.YtahlldgocpabjaaGreat
open Go Go.RowKit Copyhold
noncomputable def dP (p:Prop):Bool:=@decide p (Classical.propDecidable p)
theorem Qas {p:Prop}:dP p=true↔p:=by unfold dP;simp
theorem Qab {p:Prop}:dP p=false↔¬ p:=by unfold dP;simp
theorem dPt {p:Prop} (h:p):true=dP p:=(Qas.2 h).symm
theorem dPf {p:Prop} (h:¬ p):false=dP p:=(Qab.2 h).symm
theorem dPe {b:Bool} {p:Prop} (h:b=true↔p):b=dP p:=by
 cases b with
 | true=>exact dPt (h.1 rfl)
 | false=>exact dPf fun hp=>by cases h.2 hp
theorem sT {p:Prop} (h:p):Sub (aB true) (aB (dP p)):=Sub.of_eq (congrArg aB (dPt h))
theorem sF {p:Prop} (h:¬ p):Sub (aB false) (aB (dP p)):=Sub.of_eq (congrArg aB (dPf h))
theorem sE {b:Bool} {p:Prop} (h:b=true↔p):Sub (aB b) (aB (dP p)):=Sub.of_eq (congrArg aB (dPe h))
section
variable {α β:Type}
theorem Qlf (f:α→Nat) {l:List α} {k:Nat} {x:α} (h:l[k]?=some x):((l.take (k+1)).map f).sum=((l.take k).map f).sum+f x:=by
 rw [List.take_add_one,h];simp
theorem Qeq (f:α→Nat) (l:List α) (k:Nat):((l.take k).map f).sum≤(l.map f).sum:=by
 have h:(l.map f).sum=((l.take k).map f).sum+((l.drop k).map f).sum:=by
  rw [← List.sum_append,← List.map_append,List.take_append_drop]
 omega
theorem Qgw {l:List α} {k:Nat} {x y:α} (h:l[k]?=some x) (hy:y∈l.take (k+1)):y∈l.take k∨y=x:=by
 rw [List.take_add_one,h] at hy;simpa using hy
theorem Qav {l:List α} {k:Nat} (h:l.length≤k):l.take k=l:=List.take_of_length_le h
theorem Qak {l:List α} {k:Nat} {x:α} (h:l[k]?=some x):l.take (k+1)=l.take k++[x]:=by
 rw [List.take_add_one,h];rfl
theorem Qan {l:List α} {k:Nat} {x:α} (h:l[k]?=some x):k<l.length:=(List.getElem?_eq_some_iff.1 h).1
def Qa1 (Q:Nat→α→Prop) (l:List α) (k:Nat):Prop:=∀ i e,i<k→l[i]?=some e→Q i e
def AllQ (Q:Nat→α→Prop) (l:List α):Prop:=∀ i e,l[i]?=some e→Q i e
theorem Qa1.zero (Q:Nat→α→Prop) (l:List α):Qa1 Q l 0:=fun i e h=>by omega
theorem Qa1.step {Q:Nat→α→Prop} {l:List α} {k:Nat} {x:α} (h:Qa1 Q l k) (hx:l[k]?=some x) (q:Q k x):Qa1 Q l (k+1):=fun i e hi he=>by
 by_cases hk:i=k
 ·subst hk;rw [hx] at he;obtain rfl:=Option.some.inj he;exact q
 ·exact h i e (by omega) he
theorem Qa1.full {Q:Nat→α→Prop} {l:List α} {k:Nat} (h:Qa1 Q l k) (hk:l.length≤k):AllQ Q l:=fun i e he=>h i e (by have:=Qan he;omega) he
theorem AllQ.at {Q:Nat→α→Prop} {l:List α} (h:AllQ Q l) {k:Nat} {x:α} (hx:l[k]?=some x):Q k x:=h k x hx
theorem AllQ.to {Q:Nat→α→Prop} {l:List α} (h:AllQ Q l) (k:Nat):Qa1 Q l k:=fun i e _ he=>h i e he
end
abbrev Txt:=List UInt8
structure Ent where
 name:Txt
 ino:Int
 deriving DecidableEq
structure Nod where
 ino:Int
 kind:Int
 links:Int
 text:Txt
 l:List Ent
 deriving DecidableEq
structure Ver where
 stamp:Int
 gone:Bool
 n:Nod
 deriving DecidableEq
structure Chn where
 ino:Int
 l:List Ver
 deriving DecidableEq
structure Cnt where
 stamp:Int
 next:Int
 deriving DecidableEq
structure Sto where
 l:List Chn
 nexts:List Cnt
 stamp:Int
 deriving DecidableEq
structure Fsy where
 l:List Nod
 next:Int
 deriving DecidableEq
def txA (t:Txt):List AV:=[aS t]
def intA (n:Int):List AV:=[aI n]
def entA (e:Ent):List AV:=[aS e.name,aI e.ino]
def nodA (n:Nod):List AV:=[aI n.ino,aI n.kind,aI n.links,aS n.text,.sl 2 false (n.l.map entA)]
def verA (v:Ver):List AV:=[aI v.stamp,aB v.gone,aI v.n.ino,aI v.n.kind,aI v.n.links,aS v.n.text,.sl 2 false (v.n.l.map entA)]
def chnA (c:Chn):List AV:=[aI c.ino,.sl 7 false (c.l.map verA)]
def cntA (c:Cnt):List AV:=[aI c.stamp,aI c.next]
def stoA (s:Sto):List AV:=[.sl 2 false (s.l.map chnA),.sl 2 false (s.nexts.map cntA),aI s.stamp]
def fsyA (f:Fsy):List AV:=[.sl 5 false (f.l.map nodA),aI f.next]
def I64 (n:Int):Prop:=-9223372036854775808≤n∧n≤9223372036854775807
def OkE (e:Ent):Prop:=e.name.length≤140737488351232∧I64 e.ino
def OkN (n:Nod):Prop:=I64 n.ino∧I64 n.kind∧I64 n.links∧n.text.length≤140737488351232∧n.l.length≤8796093022207∧∀ e∈n.l,OkE e
def OkV (v:Ver):Prop:=I64 v.stamp∧OkN v.n
def OkC (c:Chn):Prop:=I64 c.ino∧c.l.length≤8796093022207∧∀ v∈c.l,OkV v
def OkK (c:Cnt):Prop:=I64 c.stamp∧I64 c.next
def OkS (s:Sto):Prop:=I64 s.stamp∧s.l.length≤8796093022207∧s.nexts.length≤8796093022207∧(∀ c∈s.l,OkC c)∧∀ c∈s.nexts,OkK c
def OkF (f:Fsy):Prop:=I64 f.next∧f.l.length≤8796093022207∧∀ n∈f.l,OkN n
end Go.Proofs.YtahlldgocpabjaaGreat
