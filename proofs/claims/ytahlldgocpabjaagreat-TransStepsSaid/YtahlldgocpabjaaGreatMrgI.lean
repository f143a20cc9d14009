import Derived.Test.YtahlldgocpabjaaGreatVc
import Derived.Lib.AppendZerosOnto
import Derived.Test.YtahlldgocpabjaaGreatMrgB
set_option linter.unusedVariables false
set_option linter.unusedSimpArgs false
namespace Go.Proofs.YtahlldgocpabjaaGreat
open Go Go.RowKit Copyhold
def rowR (q:Nat) (s:LS):Option (Value × TypeId × Nat × List (List AV)):=
 match bget s.bx q with
 | some (.row V e k xs)=>some (V,e,k,xs)
 | _=>none
theorem Za0 {q:Nat} {s:LS} {V:Value} {e:TypeId} {k:Nat} {xs:List (List AV)} (h:rowR q s=some (V,e,k,xs)):bget s.bx q=some (.row V e k xs):=by
 unfold rowR at h
 split at h
 ·rename_i V' e' k' xs' hb;simp only [Option.some.injEq,Prod.mk.injEq] at h;obtain ⟨rfl,rfl,rfl,rfl⟩:=h;exact hb
 ·cases h
theorem Qbx {P:Program} {V:Value} {e:TypeId} {k:Nat} {xs:List (List AV)} (q:Nat) (h0:0<xs.length) :
  ∀ (c:Cx) (Q:Exit→FS→Prop) (code:Code) (s:LS),rowR q s=some (V,e,k,xs)→(∀ a:{ p:Nat × Nat // V=.slice (some ⟨p.1,0,none⟩) xs.length p.2∧xs.length≤p.2 },AWp c P code Q s.fs)→AWp c P code Q s.fs:=by
 intro c Q code s h kk a w hr;obtain ⟨hc,D,hR⟩:=id hr;obtain ⟨hk,us,hown,_⟩:=(hR.bx q _ (Za0 h)).2;rcases hown.2 with ⟨_,h0'⟩ | ⟨g,cap,cur,he,_,_,hnc,_⟩
 ·omega
 ·exact kk ⟨(g,cap),he,hnc⟩ a w hr
def ixR (P:Program) (ops:Array Oper) (s:LS) (i:Nat):Option (Nat × Value × Nat × Nat × Int × Option Tmp):=
 match opAt ops s i with
 | some o=>
  match o.op with
  | .indexAddr t x n=>
   match Qkn P t,s.ev x,s.ev n with
   | some e,.rw q V m0,.val (.int .i64 m)=>
    match szP P e with
    | some k=>some (q,V,m0,k,m,o.dst)
    | none=>none
   | _,_,_=>none
  | _=>none
 | none=>none
theorem Qe4 {P:Program} {q b n cap m0 k:Nat} {V:Value} {m:Int} {d:Option Tmp} (j:Nat) (hV:V=.slice (some ⟨b,0,none⟩) n cap) (hm:m=(j:Int)) (hj:j<n) :
  ∀ (ops:Array Oper) (i:Nat) (s:LS) (K:FS→Prop) (rest:List Nat),ixR P ops s i=some (q,V,m0,k,m,d)→(∀ a:Unit,SeqR P ops K rest (s.put d (.ep q V k j 0)).fs)→SeqR P ops K (i :: rest) s.fs:=by
 intro ops i s K rest h kk;unfold ixR at h
 split at h
 ·rename_i o ho;obtain ⟨hi,hg⟩:=Qbp ho
  split at h
  ·rename_i t x n' hop
   split at h
   ·rename_i e q' V' m0' m' hel hx hn
    split at h
    ·rename_i k' hk';simp only [Option.some.injEq,Prod.mk.injEq] at h;obtain ⟨rfl,rfl,rfl,rfl,rfl,rfl⟩:=h;subst hV hm;refine ⟨o,hi,.inr ⟨hg,.inl ⟨_,.inl fun D w ρ hops=>?_,by rw [LS.fs_put];exact kk ()⟩⟩⟩;have hvx:=Qa5 hops x (by simp [hop,Op.operands]);have hvn:=Qa5 hops n' (by simp [hop,Op.operands]);rw [hx] at hvx;rw [hn] at hvn;generalize hxv:ρ x=vx at hvx;generalize hnv:ρ n'=vn at hvn;cases hvn;cases hvx;refine ⟨.pointer (some ⟨b,j*k'+0,none⟩),?_,.ep ..⟩;have h0:(0:Int)≤j∧(j:Int)<n:=by omega
     simp [execOp,hop,hxv,hnv,Instr.indexAt,asIntOf,run_underlying (Qg0 hel),Qct hk',h0,hj,Qbj]
    ·cases h
   ·cases h
  ·cases h
 ·cases h
def fdR (P:Program) (ops:Array Oper) (s:LS) (i:Nat):Option (Nat × Value × Nat × Nat × Nat × Nat × Option Tmp):=
 match opAt ops s i with
 | some o=>
  match o.op with
  | .fieldAddr st x f=>
   match fldP P st f,s.ev x with
   | some (fo,_),.ep q V k j off=>some (q,V,k,j,off,fo,o.dst)
   | _,_=>none
  | _=>none
 | none=>none
theorem Qhh {P:Program} {q k j off fo:Nat} {V:Value} {d:Option Tmp} :
  ∀ (ops:Array Oper) (i:Nat) (s:LS) (K:FS→Prop) (rest:List Nat),fdR P ops s i=some (q,V,k,j,off,fo,d)→(∀ a:Unit,SeqR P ops K rest (s.put d (.ep q V k j (off+fo))).fs)→SeqR P ops K (i :: rest) s.fs:=by
 intro ops i s K rest h kk;unfold fdR at h
 split at h
 ·rename_i o ho;obtain ⟨hi,hg⟩:=Qbp ho
  split at h
  ·rename_i st y f hop
   split at h
   ·rename_i fo' ty q' V' k' j' off' hf hy;simp only [Option.some.injEq,Prod.mk.injEq] at h;obtain ⟨rfl,rfl,rfl,rfl,rfl,rfl,rfl⟩:=h;refine ⟨o,hi,.inr ⟨hg,.inl ⟨_,.inl fun D w ρ hops=>?_,by rw [LS.fs_put];exact kk ()⟩⟩⟩;have hv:=Qa5 hops y (by simp [hop,Op.operands]);rw [hy] at hv;unfold fldP at hf
    split at hf
    ·rename_i fs hu
     split at hf
     ·rename_i fd hfd
      split at hf
      ·rename_i n hn;have hoff:fd.offset=fo':=(Prod.mk.inj (Option.some.inj hf)).1;subst hoff;have hrun:∀ b o,(Instr.fieldAt st (.pointer (some ⟨b,o,none⟩)) f).run P w=.ok (.pointer (some ⟨b,o+fd.offset,none⟩)) w:=fun b o=>by
        simp [Instr.fieldAt,run_underlying hu,hfd,Instr.sureAddr,fieldPlace,Qct hn,Qbj]
       generalize hvv:ρ y=v at hv;cases hv;refine ⟨_,?_,.ep _ _ _ _ _ _ _⟩;simp [execOp,hop,hvv,hrun,Nat.add_assoc]
      ·cases hf
     ·cases hf
    ·cases hf
   ·cases h
  ·cases h
 ·cases h
theorem Zay {D:Nat→Prop} {w:World} {b n cap:Nat} {e:TypeId} {k:Nat} {xs:List (List AV)} (h:BoxR D w (.row (.slice (some ⟨b,0,none⟩) n cap) e k xs)) {j:Nat} {cs:List AV} (he:xs[j]?=some cs):Qfm D w b (j*k) cs:=by
 obtain ⟨hk,us,hown,hus,hru⟩:=h;intro p x hx;have hf:=Qqj hk j cs p x he hx;have hl:j*k+p<us.length:=by rw [hown.1,← Qhr hk];exact (List.getElem?_eq_some_iff.1 hf).1
 have hu:=List.getElem?_eq_getElem hl;rcases hown.2 with ⟨hV,_⟩ | ⟨g,cap',cur,hV,_⟩
 ·cases hV
 ·have hb:=hown.cells (g:=b) rfl _ _ hu;rw [Qbj,Nat.zero_add] at hb;exact ⟨_,hb,hus _ (List.mem_of_getElem? hu),hru _ x _ hf hu⟩
def ldR (P:Program) (ops:Array Oper) (s:LS) (i:Nat):Option (Value × Nat × Nat × Nat × Value × Nat × List (List AV) × TypeId × Option Tmp):=
 match opAt ops s i with
 | some o=>
  match o.op with
  | .load t a=>
   match s.ev a with
   | .ep q V k j off=>
    match bget s.bx q with
    | some (.row V' e k' xs)=>some (V,k,j,off,V',k',xs,t,o.dst)
    | _=>none
   | _=>none
  | _=>none
 | none=>none
theorem Qpm {P:Program} {k j off:Nat} {V:Value} {xs:List (List AV)} {t:TypeId} {d:Option Tmp} (ec:List AV) {x:AV} (he:xs[j]?=some ec) (hx:Qny P t (ec.drop off)=some x) :
  ∀ (ops:Array Oper) (i:Nat) (s:LS) (K:FS→Prop) (rest:List Nat),ldR P ops s i=some (V,k,j,off,V,k,xs,t,d)→(∀ a:Unit,SeqR P ops K rest (s.put d x).fs)→SeqR P ops K (i :: rest) s.fs:=by
 intro ops i s K rest h kk;unfold ldR at h
 split at h
 ·rename_i o ho;obtain ⟨hi,hg⟩:=Qbp ho
  split at h
  ·rename_i t' a hop
   split at h
   ·rename_i q V' k' j' off' ha
    split at h
    ·rename_i V2 e k2 xs' hb;simp only [Option.some.injEq,Prod.mk.injEq] at h;obtain ⟨rfl,rfl,rfl,rfl,rfl,rfl,rfl,rfl,rfl⟩:=h;refine ⟨o,hi,.inr ⟨hg,.inl ⟨x,.inr ⟨by rw [hop];rfl,fun D w ρ hops hbx=>?_⟩,by rw [LS.fs_put];exact kk ()⟩⟩⟩;have hv:=Qa5 hops a (by simp [hop,Op.operands]);rw [ha] at hv;generalize hvv:ρ a=v at hv;have hbq:=hbx q _ hb;cases hv with
     | ep id b n cap k i off=>
      have hc:=(Zay hbq he).drop off';obtain ⟨v,h1,h2⟩:=Qmr (P:=P) hc hx;exact ⟨v,by simp [execOp,hop,hvv,Instr.loadAt,Instr.sureAddr,h1],h2⟩
    ·cases h
   ·cases h
  ·cases h
 ·cases h
theorem Qjz {P:Program} {ops:Array Oper} {s:LS} {i:Nat} {f:FuncId} {args:List AV} {d:Option Tmp} (h:Qlc ops s i=some (f,args,d)) :
  ∃ o,ops[i]?=some o∧gd ops s.fs o=some true∧isRd P o.op=false∧o.dst=d∧∀ (D:Nat→Prop) (w:World) (ρ:Operand→Value),opsR D w s.fs ρ o→∃ vs,(execOp ρ o).run P w=(callFunc f vs).run P w∧Qc0 D w args vs:=by
 unfold Qlc at h
 split at h
 ·rename_i o ho;obtain ⟨hi,hg⟩:=Qbp ho
  split at h
  ·rename_i c hop
   split at h
   ·rename_i fo hc;have hrd:isRd P o.op=false:=by
     obtain ⟨callee,cargs,cts⟩:=c;simp only at hc;subst hc;rw [hop];rfl
    split at h
    ·rename_i g' hfv;simp only [Option.some.injEq,Prod.mk.injEq] at h;obtain ⟨rfl,rfl,hd⟩:=h;refine ⟨o,hi,hg,hrd,hd,fun D w ρ hops=>⟨c.args.map ρ,?_,Qks hop hops⟩⟩;have hvf:=Qa5 hops fo (by simp [hop,Op.operands,Call.operands,hc]);rw [hfv] at hvf;generalize hfv':ρ fo=vf at hvf;cases hvf;simp [execOp,hop,resolve,hc,hfv',Deferred.ofValue,invoke]
    ·rename_i g' caps hfv;simp only [Option.some.injEq,Prod.mk.injEq] at h;obtain ⟨rfl,rfl,hd⟩:=h;refine ⟨o,hi,hg,hrd,hd,fun D w ρ hops=>?_⟩;have hvf:=Qa5 hops fo (by simp [hop,Op.operands,Call.operands,hc]);rw [hfv] at hvf;generalize hfv':ρ fo=vf at hvf;cases hvf with
     | clo g caps vs h1 h2=>
      obtain ⟨a1,a2⟩:=Qks hop hops;refine ⟨c.args.map ρ++vs,by simp [execOp,hop,resolve,hc,hfv',Deferred.ofValue,invoke],by simp;omega,fun j x v hx hv=>?_⟩;by_cases hj:j<(c.args.map ρ).size
      ·rw [Array.getElem?_append_left hj] at hv;rw [List.getElem?_append_left (by omega)] at hx;exact a2 j x v hx hv
      ·rw [Array.getElem?_append_right (by omega)] at hv;rw [List.getElem?_append_right (by omega),a1] at hx;exact h2 _ x v hx hv
    ·cases h
   ·cases h
  ·cases h
 ·cases h
def Qwd:AV→Bool
 | .val _=>true
 | .tup l=>l.all fun x=>match x with | .val _=>true | _=>false
 | _=>false
theorem Zgl {D D':Nat→Prop} {w w':World} {x:AV} {v:Value} (hp:Qwd x=true) (h:Ra D w x v):Ra D' w' x v:=by
 cases h with
 | val v=>exact .val v
 | tup l vs h1 h2=>
  refine .tup l vs h1 fun j x v hx hv=>?_;simp only [Qwd,List.all_eq_true] at hp;have h3:=hp x (List.mem_of_getElem? hx);have h4:=h2 j x v hx hv;cases h4 with
  | val v=>exact .val v
  | _=>simp at h3
 | _=>simp [Qwd] at hp
def cbR (P:Program) (q:Nat) (ops:Array Oper) (s:LS) (i:Nat):Option ((FuncId × List AV × Option Tmp) × (Value × TypeId × Nat × List (List AV))):=
 match Qlc ops s i,rowR q s with
 | some (f,args,d),some r=>bif entB P f then some ((f,args,d),r) else none
 | _,_=>none
theorem Qpn {P:Program} {q:Nat} {f:FuncId} {args args':List AV} {d:Option Tmp} {V:Value} {e:TypeId} {k:Nat} {xs:List (List AV)} {r:AV} (hs:Qq5 (.row V e k xs) args args') (hsp:Qaf P f args' r) (hp:Qwd r=true) :
  ∀ (ops:Array Oper) (i:Nat) (s:LS) (K:FS→Prop) (rest:List Nat),cbR P q ops s i=some ((f,args,d),(V,e,k,xs))→(∀ a:Unit,SeqR P ops K rest (s.put d r).fs)→SeqR P ops K (i :: rest) s.fs:=by
 intro ops i s K rest h kk;unfold cbR at h
 split at h
 ·rename_i f' args0 d' r' hc hr;cases he:entB P f' with
  | false=>rw [he] at h;cases h
  | true=>
   rw [he] at h;simp only [cond_true,Option.some.injEq,Prod.mk.injEq] at h;obtain ⟨⟨rfl,rfl,rfl⟩,rfl⟩:=h;obtain ⟨o,hi,hg,hrd,hd,hrun⟩:=Qjz (P:=P) hc;have hb:=Za0 hr;refine ⟨o,hi,.inr ⟨hg,.inr (.inl ⟨hrd,fun x nb=>x=r∧nb=none,?_,?_⟩)⟩⟩
   ·intro D w a Q K' hD hops hbx hcont;obtain ⟨hl,hsa⟩:=hs.ok;obtain ⟨vs,h1,h2⟩:=hrun D w a.eval hops;have hbq:=hbx q _ hb;have hra:Qc0 (fun b=>D b∨(Bx.row V e k xs).blk=some b) w args' vs:=by
     refine ⟨by rw [← hl];exact h2.1,fun j x v hx hv=>?_⟩;have hj:j<args0.length:=by have:=(List.getElem?_eq_some_iff.1 hx).1;omega
     exact hsa j args0[j] x (List.getElem?_eq_getElem hj) hx D w v hD hbq (h2.2 j args0[j] v (List.getElem?_eq_getElem hj) hv)
    unfold Oper.wp;rw [h1,Qil he,Oper.upon_enter];refine (hsp _ w _ (fun b hb'=>hb'.elim (hD b) (fun e=>hbq.lt e)) hra).mono ?_;rintro e' w' ⟨v,D',rfl,g1,g2,g3,g4⟩;exact hcont v w' r none D ⟨rfl,rfl⟩ g1 (fun _ h=>h) (fun b hb'=>⟨Nat.lt_of_lt_of_le (hD b hb') g1.size,.inl hb'⟩) (Zgl hp g4) (fun id y h=>by cases h)
   ·rintro x nb ⟨rfl,rfl⟩;refine ⟨fun id y h=>(by cases h),?_⟩;simp only [FS.addB];rw [LS.fs_put,hd];exact kk ()
 ·cases h
def crR (P:Program) (q:Nat) (ops:Array Oper) (s:LS) (i:Nat):Option (FuncId × List AV × Nat):=
 match Qlc ops s i,bget s.bx q with
 | some (f,args,some d),none=>bif entB P f then some (f,args,d) else none
 | _,_=>none
theorem Qgm {P:Program} {q:Nat} {f:FuncId} {args args':List AV} {d e k:Nat} {xs:List (List AV)} (hs:Qc2 args args') (hsp:Qd2 P f args' e k xs) :
  ∀ (ops:Array Oper) (i:Nat) (s:LS) (K:FS→Prop) (rest:List Nat),crR P q ops s i=some (f,args,d)→(∀ V:Value,SeqR P ops K rest ((s.put (some d) (.rw q V xs.length)).setB q (.row V e k xs)).fs)→SeqR P ops K (i :: rest) s.fs:=by
 intro ops i s K rest h kk;unfold crR at h
 split at h
 ·rename_i f' args0 d' hc hn;cases he:entB P f' with
  | false=>rw [he] at h;cases h
  | true=>
   rw [he] at h;simp only [cond_true,Option.some.injEq,Prod.mk.injEq] at h;obtain ⟨rfl,rfl,rfl⟩:=h;obtain ⟨o,hi,hg,hrd,hd,hrun⟩:=Qjz (P:=P) hc;refine ⟨o,hi,.inr ⟨hg,.inr (.inl ⟨hrd,fun z nb=>∃ V,z=.rw q V xs.length∧nb=some (q,.row V e k xs),?_,?_⟩)⟩⟩
   ·intro D w a Q K' hD hops hbx hcont;obtain ⟨hl,hsa⟩:=hs.ok;obtain ⟨vs,h1,h2⟩:=hrun D w a.eval hops;have hra:Qc0 D w args' vs:=by
     refine ⟨by rw [← hl];exact h2.1,fun j x v hx hv=>?_⟩;have hj:j<args0.length:=by have:=(List.getElem?_eq_some_iff.1 hx).1;omega
     exact hsa j args0[j] x (List.getElem?_eq_getElem hj) hx D w v (h2.2 j args0[j] v (List.getElem?_eq_getElem hj) hv)
    unfold Oper.wp;rw [h1,Qil he,Oper.upon_enter];refine (hsp D w _ hD hra).mono ?_;rintro r w' ⟨V,us,D',rfl,hb,hD1,hD2,hown,hnot,hkx,hus,hru⟩;have hown0:w'.ownsRow 0 e k V xs.length us:=by
     refine ⟨hown.1,?_⟩;rcases hown.2 with h' | ⟨g,cap,cur,rfl,hg,r⟩
     ·exact .inl h'
     ·exact .inr ⟨g,cap,cur,rfl,Nat.zero_le _,r⟩
    obtain ⟨A,cc,hV,_⟩:=(Sl.of_owns hown).shape;refine hcont _ w' _ _ D' ⟨V,rfl,rfl⟩ hb hD1 hD2 (by rw [hV];exact .rw q _ cc A) (fun id y hy=>?_);obtain ⟨rfl,rfl⟩:=by simpa using hy
    exact ⟨fun g hg'=>⟨(Qe8 hown g hg').1,hnot g hg'⟩,hkx,us,hown0,hus,hru⟩
   ·rintro z nb ⟨V',rfl,rfl⟩;refine ⟨fun id y hy=>?_,?_⟩
    ·obtain ⟨rfl,rfl⟩:=by simpa using hy
     exact hn
    ·have:=kk V';rw [← LS.fs_setB,← LS.fs_put] at this;rw [hd];exact this
 ·cases h
theorem Qpl {P:Program} {k:Nat} {xs:List (List AV)} {m:Int} {d:Option Tmp} (n:Nat) (hm:m=(n:Int)) (hn:n≤xs.length) :
  ∀ (ops:Array Oper) (i:Nat) (s:LS) (K:FS→Prop) (rest:List Nat),slcO P ops s i=some (.sl k true xs,none,some m,none,d)→(∀ a:Unit,SeqR P ops K rest (s.put d (.pre k xs n)).fs)→SeqR P ops K (i :: rest) s.fs:=by
 intro ops i s K rest h kk;subst hm;obtain ⟨o,t,y,lo,hi,mx,hi2,hg,hop,hx,h1,h2,h3,rfl,hty⟩:=Qty h;refine ⟨o,hi2,.inr ⟨hg,.inl ⟨.pre k xs n,.inl fun D w ρ hops=>?_,by rw [LS.fs_put];exact kk ()⟩⟩⟩;have hv:=Qa5 hops y (by simp [hop,Op.operands]);rw [← hx] at hv;have m1:=Qgb hops h1 (fun y e=>by simp [hop,Op.operands,e]);have m2:=Qgb hops h2 (fun y e=>by simp [hop,Op.operands,e]);have m3:=Qgb hops h3 (fun y e=>by simp [hop,Op.operands,e]);rcases hty with ⟨k',tt',xs',e,he,hu,hsz⟩ | ⟨bb,he,_⟩
 ·simp only [AV.sl.injEq] at he;obtain ⟨rfl,rfl,rfl⟩:=he;generalize hvv:ρ y=v at hv;obtain ⟨A,c,rfl,hc⟩:∃ A c,v=.slice A xs.length c∧xs.length≤c:=by
   cases hv with
   | sl k t xs A c bk off vs g1 g2 g3 g4 g5 g6=>exact ⟨A,c,rfl,g1⟩
  have hb:=Qhg P w true xs.length c 0 n none (some (n:Int)) none (.inl ⟨rfl,rfl⟩) (.inr rfl) (.inl rfl) (by omega) hn hc;simp only [Option.map_some,Option.map_none] at hb;refine ⟨.slice A n c,?_,.pre k xs n A c hv hn⟩;have hA:(if c=0 then A else A.map (·.add 0))=A:=by
   split
   ·rfl
   ·cases A
    ·rfl
    ·simp [Ze9]
  simp [execOp,hop,hvv,Instr.sliceAt,Instr.slice,run_underlying hu,m1,m2,m3,hb,Qct hsz,mxN,hA]
 ·cases he
def capO (P:Program) (ops:Array Oper) (s:LS) (i:Nat):Option (Nat × List (List AV) × Option Tmp):=
 match opAt ops s i with
 | some o=>
  match o.op with
  | .call c=>
   match c.callee,c.args.toList,c.argTypes.toList with
   | .builtin .cap,[x],[t]=>
    match s.ev x,P.underlying t with
    | .sl k true xs,some (.slice e)=>some (k,xs,o.dst)
    | _,_=>none
   | _,_,_=>none
  | _=>none
 | none=>none
theorem Qpo {P:Program} {k:Nat} {xs:List (List AV)} {d:Option Tmp} :
  ∀ (ops:Array Oper) (i:Nat) (s:LS) (K:FS→Prop) (rest:List Nat),capO P ops s i=some (k,xs,d)→(∀ a:Unit,SeqR P ops K rest (s.put d (aI (xs.length:Int))).fs)→SeqR P ops K (i :: rest) s.fs:=by
 intro ops i s K rest h kk;unfold capO at h
 split at h
 ·rename_i o ho;obtain ⟨hi,hg⟩:=Qbp ho
  split at h
  ·rename_i c hop
   split at h
   ·rename_i x t hc ha ht
    split at h
    ·rename_i k' xs' e hx hu;simp only [Option.some.injEq,Prod.mk.injEq] at h;obtain ⟨rfl,rfl,rfl⟩:=h;refine ⟨o,hi,.inr ⟨hg,.inl ⟨_,.inl fun D w ρ hops=>?_,by rw [LS.fs_put];exact kk ()⟩⟩⟩;obtain ⟨callee,args,cts⟩:=c;simp only at hc ha ht;subst hc;have ha':args=#[x]:=by have:=congrArg List.toArray ha;simpa using this
     have ht':cts=#[t]:=by have:=congrArg List.toArray ht;simpa using this
     subst ha' ht';have hv:=Qa5 hops x (by simp [hop,Op.operands,Call.operands]);rw [hx] at hv;generalize hvv:ρ x=v at hv;cases hv with
     | sl k t xs A c b off vs g1 g2 g3 g4 g5 g6=>
      have hc:=g2 rfl;subst hc;exact ⟨goInt xs'.length,by simp [execOp,hop,resolve,invoke,builtin,hvv,Builtin.cap_,run_underlying hu],.val _⟩
    ·cases h
   ·cases h
  ·cases h
 ·cases h
def rsO (P:Program) (ops:Array Oper) (s:LS) (i:Nat):Option (Nat × Value × Nat × Nat × Int × Option Tmp):=
 match opAt ops s i with
 | some o=>
  match o.op with
  | .slice t x (some lo) none none=>
   match s.ev x,s.ev lo,P.underlying t with
   | .rw q V m0,.val (.int .i64 m),some (.slice e)=>
    match szP P e with
    | some k=>some (q,V,m0,k,m,o.dst)
    | none=>none
   | _,_,_=>none
  | _=>none
 | none=>none
theorem Qkb {P:Program} {q b n cap m0 k:Nat} {V:Value} {m:Int} {d:Option Tmp} (lo:Nat) (hV:V=.slice (some ⟨b,0,none⟩) n cap) (hm:m=(lo:Int)) (hlo:lo<n) (hnc:n≤cap) :
  ∀ (ops:Array Oper) (i:Nat) (s:LS) (K:FS→Prop) (rest:List Nat),rsO P ops s i=some (q,V,m0,k,m,d)→(∀ a:Unit,SeqR P ops K rest (s.put d (.rs q V k lo)).fs)→SeqR P ops K (i :: rest) s.fs:=by
 intro ops i s K rest h kk;unfold rsO at h
 split at h
 ·rename_i o ho;obtain ⟨hi,hg⟩:=Qbp ho
  split at h
  ·rename_i t x l hop
   split at h
   ·rename_i q' V' m0' m' e hx hl hu
    split at h
    ·rename_i k' hk;simp only [Option.some.injEq,Prod.mk.injEq] at h;obtain ⟨rfl,rfl,rfl,rfl,rfl,rfl⟩:=h;subst hV hm;refine ⟨o,hi,.inr ⟨hg,.inl ⟨_,.inl fun D w ρ hops=>?_,by rw [LS.fs_put];exact kk ()⟩⟩⟩;have hvx:=Qa5 hops x (by simp [hop,Op.operands]);have hvl:=Qa5 hops l (by simp [hop,Op.operands]);rw [hx] at hvx;rw [hl] at hvl;generalize hxv:ρ x=vx at hvx;generalize hlv:ρ l=vl at hvl;cases hvl;cases hvx;have hb:=Qhg P w true n cap lo n (some (lo:Int)) none none (.inr rfl) (.inl ⟨rfl,rfl⟩) (.inl rfl) (by omega) (Nat.le_refl _) hnc;simp only [Option.map_some,Option.map_none] at hb;refine ⟨.slice (some ⟨b,lo*k',none⟩) (n-lo) (cap-lo),?_,.rs _ _ _ _ _ _ hlo⟩;have hne:¬ cap=lo:=by omega
     simp [execOp,hop,hxv,hlv,Instr.sliceAt,Instr.slice,run_underlying hu,hb,Qct hk,mxN,hne,Qbj]
    ·cases h
   ·cases h
  ·cases h
 ·cases h
end Go.Proofs.YtahlldgocpabjaaGreat

namespace Copyhold
open Go Go.RowKit
abbrev Zi9:=Value × Nat × List Value
def Cats (w:World) (k:Nat) (v:Value) (ss:List Zi9):Prop:=
 Sl w 1 v ss.length (ss.map (·.1))∧∀ s∈ss,Sl w k s.1 s.2.1 s.2.2∧∀ u∈s.2.2,u.oneCell'=true
theorem Cats.below {w w':World} {k:Nat} {v:Value} {ss:List Zi9} (h:Cats w k v ss) (hb:Below w.heap.size w w'):Cats w' k v ss:=
 ⟨h.1.below hb,fun s hs=>⟨(h.2 s hs).1.below hb,(h.2 s hs).2⟩⟩
structure SlIs (w:World) (k:Nat) (A:Option Addr) (n c:Nat) (p:Zi9):Prop where
 n_is:p.2.1=n
 sl:Sl w k (.slice A n c) n p.2.2
theorem Cats.at {w:World} {k:Nat} {A:Option Addr} {c:Nat} {ss:List Zi9} (h:Cats w k (.slice A ss.length c) ss) (i:Nat) (hi:i<ss.length) :
  ∃ b off A' n' c',A=some ⟨b,off,none⟩∧b<w.heap.size∧w.cell? ⟨b,off+i,none⟩=some (.slice A' n' c')∧SlIs w k A' n' c' ss[i]∧∀ u∈ss[i].2.2,u.oneCell'=true:=by
 obtain ⟨h1,h2⟩:=h;obtain ⟨b,off,rfl,hb,_,_,hcell⟩:=h1.at (by omega);obtain ⟨g1,g2⟩:=h2 ss[i] (List.getElem_mem _);obtain ⟨A',c',e,_,_⟩:=g1.shape;refine ⟨b,off,A',ss[i].2.1,c',rfl,hb,?_,⟨rfl,by rw [← e];exact g1⟩,g2⟩;rw [← e];exact hcell i _ (by rw [List.getElem?_map,List.getElem?_eq_getElem hi];rfl)
def Zfc (w:World) (t:TypeId) (k n:Nat) (xs:List Value) (e:Ending) (w':World):Prop:=∃ v,e=.returned v∧w'.ownsRow w.heap.size t k v n xs∧Below w.heap.size w w'
theorem Qez {P:Program} {w:World} {ops:Array Oper} {rest:List Oper} {o:Oper} {a:Act} {Q:Exit→Act→World→Prop} (hgd:o.guard=none) (s x:Operand) (t t2:TypeId)
  (ho:o.op=.call { callee:=.builtin .append,args:=#[s,x],argTypes:=#[t,t2] }) (v v2 v':Value) (w':World) (hs:a.eval s=v) (hx:a.eval x=v2)
  (hrun:(Builtin.append_ #[t,t2] o.type #[v,v2]).run P w=.ok v' w') (h:wpList P ops Q rest (a.put o.dst v') w'):wpList P ops Q (o :: rest) a w:=
 wpList_plain hgd fun K hK=>by
  unfold Oper.wp;simp [execOp,ho,resolve,invoke,builtin,hs,hx,hrun,Result.andThen];exact hK _ _ h
theorem Qq8 {P:Program} {t tn e:TypeId} {z:Value} {size bytes:Nat} (E:Elem P t e z size bytes) (htn:P.underlying tn=some (.int .i64)) (n:Nat) (h0:0<n) (hn:n*bytes≤140737488355328) (hn2:n≤1000000000) (w:World) :
  ∃ G w',(∀ ty,(Builtin.append_ #[t,tn] ty #[.slice none 0 0,.int .i64 (n:Int)]).run P w=.ok (.slice (some ⟨w.heap.size,0,none⟩) n G) w')∧n≤G∧G≤9223372036854775807∧w'.ownsRow w.heap.size e size (.slice (some ⟨w.heap.size,0,none⟩) 0 G) 0 []∧Below w.heap.size w w':=by
 obtain ⟨ht,hinf,hzs,hsz⟩:=E;obtain ⟨i,hi,hz,hsize,hby⟩:=Qf5 hinf;have hold:(Builtin.firstCells i.size 0 (.slice none 0 0)).run P w.drew=.ok ([]:List Value).toArray w.drew:=run_firstCells_none w.drew i.size 0 0 0;have hG:=grownCap_ge w (0+n) 0 e;have hG2:=grownCap_le_maxLen w (0+n) 0 e (by unfold maxLen;omega);have hrun:∀ ty,_:=fun ty=>Lib.run_append_grow_zeros w t tn ty e i z .i64 .i64 ht htn hi hz none 0 0 [] hold n (by omega) (by omega) (by omega) (by omega) (by rw [hby];omega) (growslice_fits (by omega) (by rw [hby,Nat.zero_add];omega));refine ⟨grownCap w (0+n) 0 e,w.drew.alloc (.cells (([]:List Value).toArray++Builtin.zeroCells z.cells n++Builtin.zeroCells z.cells (grownCap w (0+n) 0 e-(0+n))) e),?_,by omega,by unfold maxLen at hG2;omega,?_,?_⟩
 ·intro ty;have:=hrun ty;rw [show Value.slice (some ⟨w.heap.size,0,none⟩) (0+n) (grownCap w (0+n) 0 e)=Value.slice (some ⟨w.heap.size,0,none⟩) n (grownCap w (0+n) 0 e) from by rw [Nat.zero_add]] at this;exact this
 ·refine World.ownsRow_made w.drew _ _ (Nat.le_refl _) hG2 ?_;have hzc:∀ m,(Builtin.zeroCells z.cells m).size=m*size:=fun m=>by simp [Builtin.zeroCells,hzs]
  simp only [Array.size_append,hzc,List.size_toArray,List.length_nil];rw [Nat.zero_add,← Nat.add_mul];congr 1;omega
 ·exact (Qh0 (Below.refl _ _) 1).alloc (Nat.le_refl _) _
end Copyhold

namespace Go.Proofs.YtahlldgocpabjaaGreat
open Go Go.RowKit Copyhold
def PW (D:Nat→Prop) (w:World) (ws:List AV) (us:List Value):Prop:=∀ (j:Nat) (a:AV) (u:Value),ws[j]?=some a→us[j]?=some u→Ra D w a u
theorem PW.append {D:Nat→Prop} {w:World} {ws bs:List AV} {us vs:List Value} (hl:ws.length=us.length) (h:PW D w ws us) (k:PW D w bs vs):PW D w (ws++bs) (us++vs):=fun j a u ha hu=>by
 by_cases hj:j<ws.length
 ·rw [List.getElem?_append_left hj] at ha;rw [List.getElem?_append_left (by omega)] at hu;exact h j a u ha hu
 ·rw [List.getElem?_append_right (by omega)] at ha;rw [List.getElem?_append_right (by omega),← hl] at hu;exact k _ a u ha hu
theorem PW.take {D:Nat→Prop} {w:World} {ws:List AV} {us:List Value} (h:PW D w ws us) (n:Nat):PW D w (ws.take n) (us.take n):=fun j a u ha hu=>by
 rw [List.getElem?_take] at ha hu
 split at ha
 ·rename_i hj;rw [if_pos hj] at hu;exact h j a u ha hu
 ·cases ha
theorem PW.drop {D:Nat→Prop} {w:World} {ws:List AV} {us:List Value} (h:PW D w ws us) (n:Nat):PW D w (ws.drop n) (us.drop n):=fun j a u ha hu=>by
 rw [List.getElem?_drop] at ha hu;exact h _ a u ha hu
theorem Zfo {α:Type} (L vs:List α) (a N:Nat) (h:a+vs.length≤N) (hN:N≤L.length):(L.take a++vs++L.drop (a+vs.length)).take N=(L.take N).take a++vs++(L.take N).drop (a+vs.length):=by
 have e1:(L.take N).take a=L.take a:=by rw [List.take_take,Nat.min_eq_left (by omega)]
 rw [e1,List.take_append,List.take_of_length_le (by simp;omega)];congr 1;rw [List.drop_take];congr 1;simp;omega
theorem Zax {P:Program} {D:Nat→Prop} {w:World} {b n cap:Nat} {e:TypeId} {k:Nat} {xs xs':List (List AV)} (h:BoxR D w (.row (.slice (some ⟨b,0,none⟩) n cap) e k xs)) (hnD:¬ D b) {cs:List AV} {vs:List Value} (p:Nat)
  (hl:cs.length=vs.length) (h1:∀ u∈vs,u.oneCell'=true) (hv:PW D w cs vs) (hp:p+cs.length≤xs.length*k) (hk':∀ l∈xs',l.length=k) (hn':xs'.length=xs.length)
  (hf:xs'.flatten=xs.flatten.take p++cs++xs.flatten.drop (p+cs.length)) :
  ∃ w',(storeCells ⟨b,p,none⟩ vs).run P w=.ok () w'∧BoxR D w' (.row (.slice (some ⟨b,0,none⟩) n cap) e k xs')∧Below 0 w w'∧(∀ g,g ≠ b→w'.heap[g]?=w.heap[g]?):=by
 obtain ⟨hk,us,hown,hus,hru⟩:=h;rcases hown.2 with ⟨hV,_⟩ | ⟨g,cap',cur,hV,hb,hgg,hnc,hmx,hsz,htake⟩
 ·cases hV
 ·simp only [Value.slice.injEq,Option.some.injEq,Addr.mk.injEq] at hV;obtain ⟨⟨rfl,_⟩,rfl,rfl⟩:=hV;have hle:xs.length*k≤cap*k:=Nat.mul_le_mul_right _ hnc;have hst:=run_storeCells_at P b p e vs 0 cur w hgg (by omega) h1;simp only [Nat.add_zero] at hst;have hlen:us.length=xs.flatten.length:=by rw [hown.1,Qhr hk]
  have hfl:xs.flatten.length=xs.length*k:=Qhr hk;have hheap:=setRow_heap w b cur (cur.toList.take p++vs++cur.toList.drop (p+vs.length)).toArray e (0,0) hgg;have hoth:∀ g,g ≠ b→(w.setRow b (cur.toList.take p++vs++cur.toList.drop (p+vs.length)).toArray).heap[g]?=w.heap[g]?:=fun g hg=>setRow_other _ _ _ _ hg;have hsize:(w.setRow b (cur.toList.take p++vs++cur.toList.drop (p+vs.length)).toArray).heap.size=w.heap.size:=by simp
  generalize hw':w.setRow b (cur.toList.take p++vs++cur.toList.drop (p+vs.length)).toArray=w' at hst hheap hoth hsize;have hos:Below 0 w w':=⟨by rw [← hw'];rfl,by rw [← hw'];rfl,by rw [← hw'];rfl,by omega,fun k hk=>by omega⟩
  have hfr:∀ a u,Ra D w a u→Ra D w' a u:=fun a u hu=>hu.frame (fun _ h=>h) (by omega) (fun g hd hl=>hoth g (fun e=>hnD (e ▸ hd)));refine ⟨w',hst,⟨hk',us.take p++vs++us.drop (p+vs.length),?_,fun u hu=>?_,?_⟩,hos,hoth⟩
  ·refine ⟨by rw [hn'];simp only [List.length_append,List.length_take,List.length_drop,Array.length_toList,List.size_toArray];omega,.inr ⟨b,cap,_,by rw [hn'],Nat.zero_le _,hheap,by rw [hn'];exact hnc,hmx,by simp only [List.length_append,List.length_take,List.length_drop,Array.length_toList,List.size_toArray];omega,?_⟩⟩;rw [hn',List.toList_toArray,Zfo _ _ _ _ (by omega) (by simp only [Array.length_toList];omega),htake]
  ·rcases List.mem_append.1 hu with hu | hu
   ·rcases List.mem_append.1 hu with hu | hu
    ·exact hus u (List.mem_of_mem_take hu)
    ·exact h1 u hu
   ·exact hus u (List.mem_of_mem_drop hu)
  ·have hP:PW D w xs'.flatten (us.take p++vs++us.drop (p+vs.length)):=by
    rw [hf,← hl];exact PW.append (by simp only [List.length_append,List.length_take,List.length_drop,Array.length_toList,List.size_toArray];omega) (PW.append (by simp only [List.length_append,List.length_take,List.length_drop,Array.length_toList,List.size_toArray];omega) (PW.take hru p) hv) (PW.drop hru _)
   exact fun j a u ha hu=>hfr a u (hP j a u ha hu)
theorem Qjp {α:Type} {k:Nat}:∀ {xs:List (List α)} (n:Nat),(∀ l∈xs,l.length=k)→(xs.take n).flatten=xs.flatten.take (n*k)
 | [],n,_=>by simp
 | x :: r,0,_=>by simp
 | x :: r,n+1,h=>by
  have hx:=h x (List.mem_cons_self ..);have ih:=Qjp (xs:=r) n fun l hl=>h l (List.mem_cons_of_mem _ hl);have e:(n+1)*k=x.length+n*k:=by rw [Nat.add_mul,hx];omega
  rw [List.take_succ_cons,List.flatten_cons,List.flatten_cons,ih,e,List.take_length_add_append]
theorem Qm8 {α:Type} {k:Nat}:∀ {xs:List (List α)} (n:Nat),(∀ l∈xs,l.length=k)→(xs.drop n).flatten=xs.flatten.drop (n*k)
 | [],n,_=>by simp
 | x :: r,0,_=>by simp
 | x :: r,n+1,h=>by
  have hx:=h x (List.mem_cons_self ..);have ih:=Qm8 (xs:=r) n fun l hl=>h l (List.mem_cons_of_mem _ hl);have e:(n+1)*k=x.length+n*k:=by rw [Nat.add_mul,hx];omega
  rw [List.drop_succ_cons,List.flatten_cons,ih,e,List.drop_length_add_append]
theorem Qfw {α:Type} {k:Nat}:∀ {xs:List (List α)},(∀ l∈xs,l.length=k)→xs.flatten.length=xs.length*k
 | [],_=>by simp
 | x :: r,h=>by
  rw [List.flatten_cons,List.length_append,Qfw fun l hl=>h l (List.mem_cons_of_mem _ hl),h x (List.mem_cons_self ..),List.length_cons,Nat.add_mul];omega
theorem Zhs {α:Type} {k j off:Nat} {xs:List (List α)} {ec cs:List α} (h:∀ l∈xs,l.length=k) (he:xs[j]?=some ec) (hf:off+cs.length≤ec.length) :
  (xs.set j (ec.take off++cs++ec.drop (off+cs.length))).flatten=xs.flatten.take (j*k+off)++cs++xs.flatten.drop (j*k+off+cs.length):=by
 obtain ⟨hj,rfl⟩:=List.getElem?_eq_some_iff.1 he;have hx:xs[j].length=k:=h _ (List.getElem_mem hj);have h1:=Qjp j h;have h2:=Qm8 (j+1) h;have e0:xs=xs.take j++xs[j] :: xs.drop (j+1):=by rw [← List.drop_eq_getElem_cons hj,List.take_append_drop]
 have hl1:(xs.take j).flatten.length=j*k:=by
  have hle:j*k≤xs.length*k:=Nat.mul_le_mul_right _ (by omega);have:=Qfw h;rw [h1,List.length_take];omega
 have e1:xs.flatten=(xs.take j).flatten++(xs[j]++(xs.drop (j+1)).flatten):=by
  conv=>lhs;rw [e0]
  rw [List.flatten_append,List.flatten_cons]
 rw [List.set_eq_take_append_cons_drop,if_pos hj,List.flatten_append,List.flatten_cons,e1];generalize (xs.take j).flatten=A at *;generalize (xs.drop (j+1)).flatten=B at *;generalize xs[j]=ec at *;rw [← hl1,List.take_length_add_append,Nat.add_assoc,List.drop_length_add_append,List.take_append_of_le_length (by omega),List.drop_append_of_le_length (by omega)];simp only [List.append_assoc]
theorem Zko {α:Type} {k j off:Nat} {xs:List (List α)} {ec cs:List α} (h:∀ l∈xs,l.length=k) (he:xs[j]?=some ec) (hf:off+cs.length≤ec.length):∀ l∈xs.set j (ec.take off++cs++ec.drop (off+cs.length)),l.length=k:=fun l hl=>by
 rcases List.mem_or_eq_of_mem_set hl with hl | rfl
 ·exact h l hl
 ·have:=h ec (List.mem_of_getElem? he);simp;omega
def stR (P:Program) (ops:Array Oper) (s:LS) (i:Nat):Option (Nat × Value × Nat × Nat × Nat × Value × TypeId × Nat × List (List AV) × List AV × Option Tmp):=
 match opAt ops s i with
 | some o=>
  match o.op with
  | .store t a x=>
   match s.ev a,Qdr (s.ev x),szP P t with
   | .ep q V k j off,some cs,some n=>
    match bget s.bx q with
    | some (.row V' e k' xs)=>bif Nat.beq cs.length n then some (q,V,k,j,off,V',e,k',xs,cs,o.dst) else none
    | _=>none
   | _,_,_=>none
  | _=>none
 | none=>none
theorem Qi2 {P:Program} {q k j off:Nat} {V:Value} {e:TypeId} {xs:List (List AV)} {cs:List AV} {d:Option Tmp} (ec:List AV) (he:xs[j]?=some ec) (hf:off+cs.length≤ec.length) :
  ∀ (ops:Array Oper) (i:Nat) (s:LS) (K:FS→Prop) (rest:List Nat),stR P ops s i=some (q,V,k,j,off,V,e,k,xs,cs,d)→(∀ a:Unit,SeqR P ops K rest ((s.put d .any).setB q (.row V e k (xs.set j (ec.take off++cs++ec.drop (off+cs.length))))).fs)→SeqR P ops K (i :: rest) s.fs:=by
 intro ops i s K rest h kk;unfold stR at h
 split at h
 ·rename_i o ho;obtain ⟨hi,hg⟩:=Qbp ho
  split at h
  ·rename_i t a x hop
   split at h
   ·rename_i q' V' k' j' off' cs' n ha hx hn
    split at h
    ·rename_i V2 e2 k2 xs' hb;cases hbq:Nat.beq cs'.length n with
     | false=>rw [hbq] at h;cases h
     | true=>
      rw [hbq] at h;simp only [cond_true,Option.some.injEq,Prod.mk.injEq] at h;obtain ⟨rfl,rfl,rfl,rfl,rfl,rfl,rfl,rfl,rfl,rfl,rfl⟩:=h;have hcn:=Nat.eq_of_beq_eq_true hbq;refine ⟨o,hi,.inr ⟨hg,.inr (.inr ⟨by rw [hop];rfl,by rw [hop];rfl,q',fun z y'=>z=.any∧y'=.row V2 e2 k2 (xs'.set j' (ec.take off'++cs'++ec.drop (off'+cs'.length))),?_,?_⟩)⟩⟩
      ·refine Qtm.up ?_;intro D w ac Q K' hD hops hbx hnd hcont;have hva:=Qa5 hops a (by simp [hop,Op.operands]);have hvx:=Qa5 hops x (by simp [hop,Op.operands]);rw [ha] at hva;generalize hav:ac.eval a=va at hva;generalize hxv:ac.eval x=vx at hvx;have hrep:=Qjx hx hvx;have hbox:=hbx q' _ hb;have hk:=hbox.1;have hecl:ec.length=k2:=hk ec (List.mem_of_getElem? he);cases hva with
       | ep id b n0 cap k i off=>
        have hnD:¬ D b:=hnd _ b hb rfl;have hjl:j'<xs'.length:=(List.getElem?_eq_some_iff.1 he).1;have hjk:j'*k2+k2≤xs'.length*k2:=by have:=Nat.mul_le_mul_right k2 (show j'+1≤xs'.length from hjl);rw [Nat.add_mul] at this;omega
        obtain ⟨w',h1,h2,h3,h4⟩:=Zax (P:=P) hbox hnD (cs:=cs') (vs:=vx.cells.toList) (j'*k2+off') (by simpa using hrep.1.symm) (fun u hu=>by
         obtain ⟨p,hp⟩:=List.mem_iff_getElem?.1 hu;exact hrep.2.1 p u (by simpa using hp)) (fun p a u ha hu=>hrep.2.2 p a u ha (by simpa using hu)) (by omega) (Zko hk he hf) (by simp) (Zhs hk he hf)
        have hrun:(execOp ac.eval o).run P w=.ok .skip w':=by
         simp [execOp,hop,hav,hxv,Instr.storeAt,Instr.sureAddr,storeVar,Qct hn,hrep.1,hcn,h1]
        unfold Oper.wp;rw [hrun,Oper.upon_skip];exact hcont undef w' .any _ _ ⟨rfl,rfl⟩ hb h3 (fun g hg _=>h4 g (fun e=>hg (by rw [e];rfl))) (fun g hg=>⟨.inl hg,hnd _ g hb hg⟩) h2 (.any _)
      ·rintro z y' ⟨rfl,rfl⟩;rw [LS.fs_put,LS.fs_setB];exact kk ()
    ·cases h
   ·cases h
  ·cases h
 ·cases h
end Go.Proofs.YtahlldgocpabjaaGreat
