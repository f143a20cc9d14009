import Derived.Test.YtkhodpknpligpaaGreatAl
import Derived.Test.YtkhodpknpligpaaGreatMrgC
set_option linter.unusedVariables false
namespace Copyhold
open Go Go.RowKit
def Qc7 (k:Nat) (cs:List AV) (n:Nat):List (List AV):=(List.range n).map fun i=>(cs.drop (i*k)).take k
def stO (P:Program) (s:LS) (o:Oper):Option (List Prop × LS):=
 match o.op with
 | .store t a x=>
  match s.ev a,Qds (s.ev x),szP P t with
  | .ptr id b off,some cs,some n=>
   match bget s.bx id with
   | some (.box b' T ds)=>bif Nat.beq cs.length n&&Nat.ble (off+n) ds.length then some ([b'=b],(s.put o.dst .any).setB id (.box b' T (ds.take off++cs++ds.drop (off+cs.length)))) else none
   | _=>none
  | _,_,_=>none
 | .buildSlice t n parts=>
  match Qk4 P t with
  | some e=>
   match szP P e,Qtq P e,Qhu (parts.toList.map fun p=>(p.1,s.ev p.2)) with
   | some k,some z,some qs=>
    bif Nat.beq z.length k&&(Nat.ble 1 k&&Nat.ble (n*k) 16777216) then
     match Qn4 ((List.range n).map fun j=>(j*k,k)) (List.flatten (List.replicate n z)) qs with
     | some cs=>some ([],s.put o.dst (.sl k true (Qc7 k cs n)))
     | none=>none
    else none
   | _,_,_=>none
  | none=>none
 | _=>none
def stp (P:Program) (ops:Array Oper) (s:LS) (i:Nat):Option (List Prop × LS):=
 match ops[i]? with
 | some o=>
  match gd ops s.fs o with
  | some false=>some ([],s.put o.dst (.val undef))
  | some true=>
   match evO P s o.op with
   | some (ps,x)=>some (ps,s.put o.dst x)
   | none=>stO P s o
  | none=>none
 | none=>none
def runD (P:Program) (ops:Array Oper):List Nat→LS→Option (List Prop × LS)
 | [],s=>some ([],s)
 | i :: r,s=>
  match stp P ops s i with
  | some (ps,s')=>
   match runD P ops r s' with
   | some (qs,s'')=>some (ps++qs,s'')
   | none=>none
  | none=>none
theorem Qgv {P:Program} {t e:TypeId} (h:Qk4 P t=some e):P.underlying t=some (.slice e):=by
 unfold Qk4 at h
 split at h
 ·rename_i e' hu;rw [hu,W0c h]
 ·cases h
theorem Qpf (z:Array Value) (n:Nat) (hz:0<z.size):((Array.range (n*z.size)).map (fun x=>z[x % z.size]!)).toList=(List.replicate n z.toList).flatten:=by
 induction n with
 | zero=>simp
 | succ n ih=>
  rw [List.replicate_succ',W19];rw [← ih];apply List.ext_getElem?;intro j;by_cases hj:j<n*z.size
  ·rw [W0o (by simpa using hj)];have:j<(n+1)*z.size:=by rw [W2f];omega
   simp [hj,this]
  ·have hlen:(((Array.range (n*z.size)).map (fun x=>z[x % z.size]!)).toList).length=n*z.size:=by simp
   rw [W0n (by omega),hlen];by_cases hj2:j<(n+1)*z.size
   ·have hm:j % z.size=j-n*z.size:=by
     have e:j=(j-n*z.size)+z.size*n:=by rw [Nat.mul_comm z.size n];omega
     have hlt:j-n*z.size<z.size:=by rw [W2f] at hj2;omega
     conv=>lhs;rw [e]
     rw [Nat.add_mul_mod_self_left,Nat.mod_eq_of_lt hlt]
    have hlt:j-n*z.size<z.size:=by rw [W2f] at hj2;omega
    simp [hj2,hm,hlt]
   ·have h1:¬ j-n*z.size<z.size:=by rw [W2f] at hj2;omega
    simp [hj2];omega
theorem Qhi {D:Nat→Prop} {w:World} {z:List AV} {zv:Array Value} (h:RepC D w z zv):∀ n,RepC D w (List.replicate n z).flatten (List.replicate n zv.toList).flatten.toArray
 | 0=>⟨by simp,fun j u hu=>by simp at hu,fun j a u ha=>by simp at ha⟩
 | n+1=>by
  obtain ⟨h1,h2,h3⟩:=Qhi h n;have hl:z.length=zv.toList.length:=by simpa using h.1.symm
  have h1':(List.replicate n z).flatten.length=(List.replicate n zv.toList).flatten.length:=by simpa using h1.symm
  simp only [List.replicate_succ,W1f];refine ⟨by simp [h.1],fun j u hu=>?_,fun j a u ha hu=>?_⟩
  ·rw [List.getElem?_toArray] at hu;by_cases hj:j<zv.toList.length
   ·rw [W0o hj] at hu;exact h.2.1 j u (by simpa using hu)
   ·rw [W0n (by omega)] at hu;exact h2 _ u (by rw [List.getElem?_toArray];exact hu)
  ·rw [List.getElem?_toArray] at hu;by_cases hj:j<zv.toList.length
   ·rw [W0o hj] at hu;rw [W0o (by omega)] at ha;exact h.2.2 j a u ha (by simpa using hu)
   ·rw [W0n (by omega)] at hu;rw [W0n (by omega),hl] at ha;exact h3 _ a u ha (by rw [List.getElem?_toArray];exact hu)
theorem sl_new {D:Nat→Prop} {w w':World} {T:TypeId} {k n:Nat} {cs:List AV} {vs:Array Value} (hB:TBox w' w.heap.size T vs) (hb:Below w.heap.size w w') (h:RepC D w cs vs) (hD:∀ b,D b→b<w.heap.size) (hl:cs.length=n*k) :
  Ra (fun b=>D b∨b=w.heap.size) w' (.sl k true (Qc7 k cs n)) (.slice (some ⟨w.heap.size,0,none⟩) n n):=by
 have hlen:(Qc7 k cs n).length=n:=by simp [Qc7]
 have hget:∀ (i:Nat) (e:List AV),(Qc7 k cs n)[i]?=some e→i<n∧e=(cs.drop (i*k)).take k:=fun i e he=>by
  have hi:i<n:=by have:=(W0i.1 he).1;omega
  simp [Qc7,hi] at he;exact ⟨hi,he.symm⟩
 have hin:∀ i j,i<n→j<k→i*k+j<n*k:=fun i j hi hj=>by
  have:(i+1)*k≤n*k:=W1d k hi;rw [W2f] at this;omega
 have hcell:∀ (i:Nat) (e:List AV) (j:Nat) (x:AV),(Qc7 k cs n)[i]?=some e→e[j]?=some x→i<n∧j<k∧cs[i*k+j]?=some x:=fun i e j x he hx=>by
  obtain ⟨hi,rfl⟩:=hget i e he;rw [W1b] at hx
  split at hx
  ·rename_i hj;rw [W07] at hx;exact ⟨hi,hj,hx⟩
  ·cases hx
 have key:=Ra.sl (D:=fun b=>D b∨b=w.heap.size) (w:=w') k true (Qc7 k cs n) (some ⟨w.heap.size,0,none⟩) (Qc7 k cs n).length w.heap.size 0 (fun i j=>vs.getD (i*k+j) undef)
  (W0m _) (fun _=>rfl) (fun _=>⟨rfl,.inr rfl,hB.lt⟩) (fun i e he=>by
   obtain ⟨hi,rfl⟩:=hget i e he;rw [W0g,W0p,hl];have:(i+1)*k≤n*k:=W1d k hi;rw [W2f] at this;omega)
  (fun i e j x he hx=>by
   obtain ⟨hi,hj,hc⟩:=hcell i e j x he hx;have hlt:i*k+j<vs.size:=by rw [h.1,hl];exact hin i j hi hj
   have hv:vs[i*k+j]?=some vs[i*k+j]:=by simp [hlt]
   rw [Nat.zero_add,hB.cell];simp only [Array.getD_eq_getD_getElem?,hv,W2j];exact ⟨trivial,h.2.1 _ _ hv⟩)
  (fun i e j x he hx=>by
   obtain ⟨hi,hj,hc⟩:=hcell i e j x he hx;have hlt:i*k+j<vs.size:=by rw [h.1,hl];exact hin i j hi hj
   have hv:vs[i*k+j]?=some vs[i*k+j]:=by simp [hlt]
   simp only [Array.getD_eq_getD_getElem?,hv,W2j];exact (h.2.2 _ x _ hc hv).frame (fun b h=>.inl h) hb.size (fun b hd hlt=>hb.block b hlt))
 rw [hlen] at key;exact key
theorem Qg6 {pl:List (Nat × Nat)}:∀ (qs:List (Nat × List AV)) (cs cs':List AV),Qn4 pl cs qs=some cs'→cs'.length=cs.length
 | [],cs,cs',h=>by
  simp only [Qn4,W0k] at h;rw [h]
 | (i,xs) :: qs,cs,cs',h=>by
  simp only [Qn4] at h
  split at h
  ·rename_i off sz hp;cases hb:(Nat.beq xs.length sz&&Nat.ble (off+sz) cs.length) with
   | false=>rw [hb] at h;cases h
   | true=>
    rw [hb] at h;simp only [W0r] at hb;have h1:xs.length=sz:=W0q hb.1;have h2:off+sz≤cs.length:=W05 hb.2;rw [Qg6 qs _ cs' h];simp;omega
  ·cases h
theorem Qa2 {D:Nat→Prop} {w:World} {s:LS} {ρ:Operand→Value} {o:Oper} (ho:opsR D w s.fs ρ o) (y:Operand) (hy:y∈o.op.operands):Ra D w (s.ev y) (ρ y):=by
 have:=ho y hy
 rwa [LS.fs_ev] at this
theorem stO_ok {P:Program} {ops:Array Oper} {i:Nat} {s s':LS} {o:Oper} {ps:List Prop} {K:FS→Prop} (hi:ops[i]?=some o) (hg:gd ops s.fs o=some true) (h:stO P s o=some (ps,s')) (hp:allP ps) (hk:K s'.fs):Qf9 P ops i s.fs K:=by
 refine ⟨o,hi,.inr ⟨hg,.inr ?_⟩⟩;obtain ⟨dst,op,type,pos,after,guard⟩:=o;cases op<;>simp only [stO] at h<;>(try (cases h;done))
 case store t a x=>
  right;refine ⟨rfl,rfl,?_⟩
  split at h
  ·rename_i id b off cs n ha hx hn
   split at h
   ·rename_i b' T ds hy;cases hb:(Nat.beq cs.length n&&Nat.ble (off+n) ds.length) with
    | false=>rw [hb] at h;cases h
    | true=>
     rw [hb] at h;simp only [W0r] at hb;have h1:cs.length=n:=W0q hb.1;have h2:off+n≤ds.length:=W05 hb.2;subst h1;simp only [cond_true,W0k,W0s] at h;obtain ⟨rfl,rfl⟩:=h;have hb:b'=b:=hp.1;subst hb;refine ⟨id,fun x y'=>x=.any∧y'=.box b' T (ds.take off++cs++ds.drop (off+cs.length)),?_,?_⟩
     ·refine Qtn.up ?_;intro D w ac Q K' hD hops hbx hnd hcont;have hva:=Qa2 hops a (by simp [Op.operands]);have hvx:=Qa2 hops x (by simp [Op.operands]);rw [ha] at hva;generalize hav:ac.eval a=va at hva;cases hva;generalize hxv:ac.eval x=vx at hvx;have hrep:=Qjm hx hvx;obtain ⟨vs,g1,g2,g3,g4⟩:=hbx id _ hy;have hrow:w.heap[b']?=some (.cells vs T (0,0)):=g1;have hst:=run_storeCells_at P b' off T vx.cells.toList 0 vs w hrow (by simp [hrep.1,g2];omega) (fun v hv=>by
       obtain ⟨j,hj⟩:=W2l.1 hv;exact hrep.2.1 j v (by simpa using hj))
      simp only [Nat.add_zero] at hst;unfold Oper.wp;have hrun:(execOp ac.eval ⟨dst,.store t a x,type,pos,after,guard⟩).run P w=.ok .skip (w.setRow b' (vs.toList.take off++vx.cells.toList++vs.toList.drop (off+vx.cells.toList.length)).toArray):=by
       obtain ⟨W1,hW1⟩:∃ W1,W1=w.setRow b' (vs.toList.take off++vx.cells.toList++vs.toList.drop (off+vx.cells.toList.length)).toArray:=⟨_,rfl⟩
       rw [← hW1] at hst ⊢;simp [execOp,hav,hxv,Instr.storeAt,Instr.sureAddr,storeVar,Qcy hn,hrep.1,hst]
      rw [hrun,Oper.upon_skip];have hbox:=setRow_heap w b' vs (vs.toList.take off++vx.cells.toList++vs.toList.drop (off+vx.cells.toList.length)).toArray T (0,0) hrow;have hlv:vx.cells.toList.length=cs.length:=by simpa using hrep.1
      have hfr:∀ a u,Ra D w a u→Ra D (w.setRow b' (vs.toList.take off++vx.cells.toList++vs.toList.drop (off+vx.cells.toList.length)).toArray) a u:=fun a u hu=>
       hu.frame (fun _ h=>h) (by simp) (fun b hd hl=>setRow_other _ _ _ _ (fun e=>hnd _ b' hy rfl (e ▸ hd)))
      refine hcont undef _ .any _ _ ⟨rfl,rfl⟩ hy ⟨rfl,rfl,rfl,by simp,fun k hk=>by omega⟩ (fun k hk _=>setRow_other _ _ _ _ (fun e=>hk (by rw [e];rfl))) (fun g hg=>⟨.inl hg,hnd _ g hy hg⟩) ⟨_,hbox,?_,?_,?_⟩ (.any _)
      ·simp [hlv,g2]
      ·intro j v hv;rw [List.getElem?_toArray,W1u] at hv;by_cases hj:j<(vs.toList.take off).length
       ·rw [W0o hj,W1b] at hv
        split at hv
        ·exact g3 j v (by simpa using hv)
        ·cases hv
       ·rw [W0n (by omega)] at hv;by_cases hj2:j-(vs.toList.take off).length<vx.cells.toList.length
        ·rw [W0o hj2] at hv;exact hrep.2.1 _ v (by simpa using hv)
        ·rw [W0n (by omega),W07] at hv;exact g3 _ v (by simpa using hv)
      ·intro j u v hu hv;refine hfr u v ?_;have hlo:(vs.toList.take off).length=off:=by rw [W0g,Array.length_toList,g2];omega
       have hlo2:(ds.take off).length=off:=by rw [W0g];omega
       rw [List.getElem?_toArray,W1u] at hv
       skip
       rw [W1u] at hu;by_cases hj:j<off
       ·rw [W0o (by omega),W1b,W1x hj] at hv;rw [W0o (by omega),W1b,W1x hj] at hu;exact g4 j u v hu (by simpa using hv)
       ·rw [W0n (by omega),hlo] at hv;rw [W0n (by omega),hlo2] at hu;by_cases hj2:j-off<cs.length
        ·rw [W0o (by omega)] at hv;rw [W0o (by omega)] at hu;exact hrep.2.2 _ u v hu (by simpa using hv)
        ·rw [W0n (by omega),W07,hlv] at hv;rw [W0n (by omega),W07] at hu;exact g4 _ u v hu (by simpa using hv)
     ·rintro z y' ⟨rfl,rfl⟩;rw [LS.fs_put,LS.fs_setB];exact hk
   ·cases h
  ·cases h
 case buildSlice t n parts=>
  left;refine ⟨rfl,?_⟩
  split at h
  ·rename_i e he
   split at h
   ·rename_i k z qs hks hz hqs;cases hb:(Nat.beq z.length k&&(Nat.ble 1 k&&Nat.ble (n*k) 16777216)) with
    | false=>rw [hb] at h;cases h
    | true=>
     rw [hb] at h;simp only [W0r] at hb;have h1:z.length=k:=W0q hb.1;have h2:1≤k:=W05 hb.2.1;have h3:n*k≤16777216:=W05 hb.2.2;simp only [cond_true] at h
     split at h
     ·rename_i cs hcs;obtain ⟨rfl,rfl⟩:=by simpa using h
      refine ⟨fun x nb=>x=.sl k true (Qc7 k cs n)∧nb=none,?_,?_⟩
      ·intro D w ac Q K' hD hops hbx hcont;obtain ⟨it,zv,hi2,hzv,hrep⟩:=Qin (D:=D) (w:=w) hz;have hzs:zv.cells.size=k:=by rw [hrep.1,h1]
       obtain ⟨g1,g2⟩:=Qf5 (D:=D) (w:=w) _ qs (parts.map fun (i,x)=>(i,ac.eval x)).toList hqs (by simp) (fun j p v hp hv=>by
        simp only [W0v,W17] at hp;simp only [W17,Array.getElem?_map] at hv;cases hq:parts[j]? with
        | none=>rw [hq] at hp;cases hp
        | some q=>
         rw [hq] at hp hv;obtain rfl:=W0c hp;obtain rfl:=W0c hv;refine ⟨rfl,Qa2 hops q.2 ?_⟩;simp only [Op.operands,List.mem_toArray,W1i,Array.mem_toList_iff];exact ⟨q,W2a hq,rfl⟩)
       have hz0:=Qhi hrep n;obtain ⟨vs',f1,f2⟩:=Qql (D:=D) (w:=w) (pf:=fun i=>some (i*k,k)) (fun i p hp=>by
        simp only [W0v] at hp;cases hr:(List.range n)[i]? with
        | none=>rw [hr] at hp;cases hp
        | some m=>
         rw [hr] at hp;obtain rfl:=W0c hp;obtain ⟨h1,h2⟩:=W0i.1 hr;simp at h2;rw [h2]) qs _ _ _ cs hz0 g1 g2 hcs
       have hlen:cs.length=n*k:=by
        rw [Qg6 qs _ cs hcs];simp [h1]
       have hrun:(execOp ac.eval ⟨dst,.buildSlice t n parts,type,pos,after,guard⟩).run P w=.ok (.value (.slice (some ⟨w.heap.size,0,none⟩) n n)) (w.alloc (.cells vs' e)):=by
        have hn:¬ (n*k>2 ^ 24):=by omega
        by_cases h0:n*k=0
        ·have hn0:n=0:=by
          rcases Nat.mul_eq_zero.1 h0 with h | h
          ·exact h
          ·omega
         subst hn0;simp at f1;simp [execOp,Instr.buildSlice,run_underlying (Qgv he),Qcy hks,show Array.range 0=#[] from rfl,f1,newRow]
        ·have f1':Instr.fill (fun i=>some (i*k,k)) ((Array.range (n*k)).map (fun x=>zv.cells[x % zv.cells.size]!)) (parts.map fun (i,x)=>(i,ac.eval x)).toList=some vs':=by
          rw [← f1];congr 1;have:=Qpf zv.cells n (by omega);rw [← this];simp only [hzs]
         simp [execOp,Instr.buildSlice,run_underlying (Qgv he),Qcy hks,hn,h0,zeroValue,typeInfo,hi2,hzv];simp at f1'
         try simp [f1',newRow]
       unfold Oper.wp;rw [hrun,Oper.upon_value];have hbb:Below w.heap.size w (w.alloc (.cells vs' e)):=(Below.refl _ _).alloc (W0m _) _;have hsz:(w.alloc (.cells vs' e)).heap.size=w.heap.size+1:=by simp
       refine hcont _ _ _ _ _ ⟨rfl,rfl⟩ hbb (fun b h=>.inl h) (fun b h=>?_) (sl_new (TBox.new w e vs') hbb f2 hD hlen) (fun id y h=>by cases h);rcases h with h | h
       ·exact ⟨by have:=hD b h;omega,.inl h⟩
       ·exact ⟨by omega,.inr (by omega)⟩
      ·rintro x nb ⟨rfl,rfl⟩;refine ⟨fun id y h=>(by cases h),?_⟩;simp only [FS.addB];rw [LS.fs_put];exact hk
     ·cases h
   ·cases h
  ·cases h
theorem stp_ok {P:Program} {ops:Array Oper} {i:Nat} {s s':LS} {ps:List Prop} {K:FS→Prop} (h:stp P ops s i=some (ps,s')) (hp:allP ps) (hk:K s'.fs):Qf9 P ops i s.fs K:=by
 unfold stp at h
 split at h
 ·rename_i o ho
  split at h
  ·rename_i hg;obtain ⟨rfl,rfl⟩:=by simpa using h
   exact ⟨o,ho,.inl ⟨hg,by rw [LS.fs_put];exact hk⟩⟩
  ·rename_i hg
   split at h
   ·rename_i ps' x hx;obtain ⟨rfl,rfl⟩:=by simpa using h
    exact ⟨o,ho,.inr ⟨hg,.inl ⟨x,evO_ok hx hp,by rw [LS.fs_put];exact hk⟩⟩⟩
   ·exact stO_ok ho hg h hp hk
  ·cases h
 ·cases h
theorem Zbh {P:Program} {ops:Array Oper} {K:FS→Prop} {r:List Nat}:∀ (is:List Nat) {s s':LS} {ps:List Prop},runD P ops is s=some (ps,s')→allP ps→SeqR P ops K r s'.fs→SeqR P ops K (is++r) s.fs
 | [],s,s',ps,h,hp,hk=>by
  obtain ⟨rfl,rfl⟩:=by simpa [runD] using h
  exact hk
 | i :: is,s,s',ps,h,hp,hk=>by
  simp only [runD] at h
  split at h
  ·rename_i ps1 s1 h1
   split at h
   ·rename_i qs s2 h2;obtain ⟨rfl,rfl⟩:=by simpa using h
    obtain ⟨p1,p2⟩:=Qcz hp;exact stp_ok h1 p1 (Zbh is h2 p2 hk)
   ·cases h
  ·cases h
end Copyhold

namespace Copyhold
open Go Go.RowKit
def opAt (ops:Array Oper) (s:LS) (i:Nat):Option Oper:=
 match ops[i]? with
 | some o=>
  match gd ops s.fs o with
  | some true=>some o
  | _=>none
 | none=>none
theorem Qbl {ops:Array Oper} {s:LS} {i:Nat} {o:Oper} (h:opAt ops s i=some o):ops[i]?=some o∧gd ops s.fs o=some true:=by
 unfold opAt at h
 split at h
 ·rename_i o' ho
  split at h
  ·rename_i hg;obtain rfl:=W0c h;exact ⟨ho,hg⟩
  ·cases h
 ·cases h
def newO (P:Program) (ops:Array Oper) (s:LS) (i:Nat):Option (Nat→LS):=
 match opAt ops s i with
 | some o=>
  match o.dst,o.op with
  | some d,.alloc e=>
   match Qtq P e,bget s.bx d with
   | some cs,none=>some fun b=>(s.put (some d) (.ptr d b 0)).setB d (.box b e cs)
   | _,_=>none
  | some d,.box e x=>
   match Qds (s.ev x),bget s.bx d with
   | some cs,none=>some fun b=>(s.put (some d) (.ptr d b 0)).setB d (.box b e cs)
   | _,_=>none
  | _,_=>none
 | none=>none
theorem Zji {D:Nat→Prop} {w:World} {e:TypeId} {cs:List AV} {vs:Array Value} (h:RepC D w cs vs):BoxR D (w.alloc (.cells vs e)) (.box w.heap.size e cs):=
 ⟨vs,TBox.new w e vs,h.1,h.2.1,fun j a v ha hv=>(h.2.2 j a v ha hv).frame (fun _ h=>h) (by simp) (fun b hd hl=>Below.heap_alloc w _ b hl)⟩
theorem Qwx {P:Program} {o:Oper} {s:LS} {d:Nat} {e:TypeId} {cs:List AV} (hd:o.dst=some d)
  (h:∀ (D:Nat→Prop) (w:World) (ρ:Operand→Value),opsR D w s.fs ρ o→∃ vs,RepC D w cs vs∧(execOp ρ o).run P w=.ok (.value (.pointer (some ⟨w.heap.size,0,none⟩))) (w.alloc (.cells vs e))) :
  Qjs P o s.fs (fun x nb=>∃ b,x=.ptr d b 0∧nb=some (d,.box b e cs)):=by
 intro D w a Q K hD hops hbx hcont;obtain ⟨vs,h1,h2⟩:=h D w a.eval hops;unfold Oper.wp;rw [h2,Oper.upon_value];have hb:Below w.heap.size w (w.alloc (.cells vs e)):=(Below.refl _ _).alloc (W0m _) _;refine hcont _ _ _ _ D ⟨w.heap.size,rfl,rfl⟩ hb (fun _ h=>h) (fun b h=>⟨W08 (hD b h) hb.size,.inl h⟩) (.ptr _ _ _) (fun id y hy=>?_);obtain ⟨rfl,rfl⟩:=by simpa using hy
 refine ⟨fun g hg=>?_,Zji h1⟩;obtain rfl:=W0c hg;exact ⟨W0m _,fun hd=>by have:=hD _ hd;omega⟩
theorem Zlh {P:Program} {ops:Array Oper} {K:FS→Prop} {r:List Nat} {i:Nat} {s:LS} {f:Nat→LS} (h:newO P ops s i=some f) (k:∀ b,SeqR P ops K r (f b).fs):SeqR P ops K (i :: r) s.fs:=by
 unfold newO at h
 split at h
 ·rename_i o ho;obtain ⟨hi,hg⟩:=Qbl ho;refine ⟨o,hi,.inr ⟨hg,.inr (.inl ?_)⟩⟩
  split at h
  ·rename_i d e hd hop
   split at h
   ·rename_i cs hz hn;obtain rfl:=W0c h;refine ⟨by rw [hop];rfl,_,Qwx (e:=e) (cs:=cs) hd (fun D w ρ hops=>?_),?_⟩
    ·obtain ⟨it,z,h1,h2,h3⟩:=Qin (D:=D) (w:=w) hz;exact ⟨z.cells,h3,by simp [execOp,hop,Instr.alloc,zeroValue,typeInfo,h1,h2,newVar,newRow]⟩
    ·rintro x nb ⟨b,rfl,rfl⟩;refine ⟨fun id y hy=>?_,?_⟩
     ·obtain ⟨rfl,rfl⟩:=by simpa using hy
      exact hn
     ·have:=k b;rw [← LS.fs_setB,← LS.fs_put] at this;rw [hd];exact this
   ·cases h
  ·rename_i d e x hd hop
   split at h
   ·rename_i cs hz hn;obtain rfl:=W0c h;refine ⟨by rw [hop];rfl,_,Qwx (e:=e) (cs:=cs) hd (fun D w ρ hops=>?_),?_⟩
    ·have hv:=Qa2 hops x (by simp [hop,Op.operands]);exact ⟨_,Qjm hz hv,by simp [execOp,hop,Instr.box,newVar,newRow]⟩
    ·rintro y nb ⟨b,rfl,rfl⟩;refine ⟨fun id y hy=>?_,?_⟩
     ·obtain ⟨rfl,rfl⟩:=by simpa using hy
      exact hn
     ·have:=k b;rw [← LS.fs_setB,← LS.fs_put] at this;rw [hd];exact this
   ·cases h
  ·cases h
 ·cases h
def Qc0:List AV→List AV→Prop
 | [],[]=>True
 | x :: xs,y :: ys=>Sub x y∧Qc0 xs ys
 | _,_=>False
theorem Qc0.ok:∀ {xs ys:List AV},Qc0 xs ys→xs.length=ys.length∧∀ (j:Nat) (x y:AV),xs[j]?=some x→ys[j]?=some y→Sub x y
 | [],[],_=>⟨rfl,fun j x y h=>by simp at h⟩
 | x :: xs,y :: ys,h=>by
  obtain ⟨h1,h2⟩:=h;obtain ⟨h3,h4⟩:=Qc0.ok h2;refine ⟨by simp [h3],fun j a b ha hb=>?_⟩;cases j with
  | zero=>simp at ha hb;subst ha hb;exact h1
  | succ j=>exact h4 j a b (by simpa using ha) (by simpa using hb)
 | [],_ :: _,h=>h.elim
 | _ :: _,[],h=>h.elim
def Qk5 (ops:Array Oper) (s:LS) (i:Nat):Option (FuncId × List AV × Option Tmp):=
 match opAt ops s i with
 | some o=>
  match o.op with
  | .call c=>
   match c.callee with
   | .value f=>
    match s.ev f with
    | .val (.func (.func g) ⟨[]⟩ ⟨[]⟩)=>some (g,c.args.toList.map s.ev,o.dst)
    | .clo g caps=>some (g,c.args.toList.map s.ev++caps,o.dst)
    | _=>none
   | _=>none
  | _=>none
 | none=>none
theorem Qs6 {P:Program} {s:LS} {o:Oper} {c:Call} {fo:Operand} {g:FuncId} {args args':List AV} {r:AV} (hop:o.op=.call c) (hc:c.callee=.value fo)
  (heg:∀ vs w,(callFunc g vs).run P w=.ok (.enter g vs) w) (hsub:Qc0 args args') (hsp:Qag P g args' r)
  (hrun:∀ (D:Nat→Prop) (w:World) (ρ:Operand→Value),opsR D w s.fs ρ o→∃ vs,(execOp ρ o).run P w=(callFunc g vs).run P w∧Qc8 D w args vs) :
  Qjs P o s.fs (fun x nb=>x=r∧nb=none):=by
 intro D w a Q K' hD hops hbx hcont;obtain ⟨hl,hsa⟩:=hsub.ok;obtain ⟨vs,h1,h2⟩:=hrun D w a.eval hops;have hra:Qc8 D w args' vs:=by
  refine ⟨by rw [← hl];exact h2.1,fun j x v hx hv=>?_⟩;have hj:j<args.length:=by have:=(W0i.1 hx).1;omega
  exact hsa j args[j] x (W0d hj) hx D w v (h2.2 j args[j] v (W0d hj) hv)
 unfold Oper.wp;rw [h1,heg,Oper.upon_enter];refine (hsp D w _ hD hra).mono ?_;rintro e w' ⟨v,D',rfl,h1,h2,h3,h4⟩;exact hcont v w' r none D' ⟨rfl,rfl⟩ h1 h2 h3 h4 (fun id y h=>by cases h)
theorem Qkf {D:Nat→Prop} {w:World} {s:LS} {ρ:Operand→Value} {o:Oper} {c:Call} (hop:o.op=.call c) (hops:opsR D w s.fs ρ o):Qc8 D w (c.args.toList.map s.ev) (c.args.map ρ):=by
 refine ⟨by simp,fun j x v hx hv=>?_⟩;simp only [Array.getElem?_map] at hv;cases hq:c.args[j]? with
 | none=>rw [hq] at hv;cases hv
 | some y=>
  rw [hq] at hv;obtain rfl:=W0c hv;simp only [W0v,W17,hq,Option.map_some] at hx;obtain rfl:=W0c hx;refine Qa2 hops y ?_;have:=W2a hq;simp [hop,Op.operands,Call.operands,this]
theorem Qwf {P:Program} {ops:Array Oper} {K:FS→Prop} {rest:List Nat} {i:Nat} {s s':LS} {f:FuncId} {args args':List AV} {d:Option Tmp} {r:AV} (h:Qk5 ops s i=some (f,args,d))
  (heg:∀ vs w,(callFunc f vs).run P w=.ok (.enter f vs) w) (hsub:Qc0 args args') (hsp:Qag P f args' r) (hs:s.put d r=s') (k:SeqR P ops K rest s'.fs):SeqR P ops K (i :: rest) s.fs:=by
 subst hs;unfold Qk5 at h
 split at h
 ·rename_i o ho;obtain ⟨hi,hg⟩:=Qbl ho
  split at h
  ·rename_i c hop
   split at h
   ·rename_i fo hc;have hrd:isRd P o.op=false:=by
     obtain ⟨callee,cargs,cts⟩:=c;simp only at hc;subst hc;rw [hop];rfl
    split at h
    ·rename_i g hf;simp only [W0k,W0s] at h;obtain ⟨rfl,rfl,rfl⟩:=h;refine ⟨o,hi,.inr ⟨hg,.inr (.inl ⟨hrd,_,Qs6 hop hc heg hsub hsp (fun D w ρ hops=>⟨c.args.map ρ,?_,Qkf hop hops⟩),?_⟩)⟩⟩
     ·have hvf:=Qa2 hops fo (by simp [hop,Op.operands,Call.operands,hc]);rw [hf] at hvf;generalize hfv:ρ fo=vf at hvf;cases hvf;simp [execOp,hop,resolve,hc,hfv,Deferred.ofValue,invoke]
     ·rintro x nb ⟨rfl,rfl⟩;refine ⟨fun id y h=>(by cases h),?_⟩;simp only [FS.addB];rw [LS.fs_put];exact k
    ·rename_i g caps hf;simp only [W0k,W0s] at h;obtain ⟨rfl,rfl,rfl⟩:=h;have hmono:∀ (D:Nat→Prop) (w:World) (ρ:Operand→Value),opsR D w s.fs ρ o→∃ vs,(execOp ρ o).run P w=(callFunc g vs).run P w∧Qc8 D w (c.args.toList.map s.ev++caps) vs:=fun D w ρ hops=>by
      have hvf:=Qa2 hops fo (by simp [hop,Op.operands,Call.operands,hc]);rw [hf] at hvf;generalize hfv:ρ fo=vf at hvf;cases hvf with
      | clo g caps vs h1 h2=>
       obtain ⟨a1,a2⟩:=Qkf hop hops;refine ⟨c.args.map ρ++vs,by simp [execOp,hop,resolve,hc,hfv,Deferred.ofValue,invoke],by simp;omega,fun j x v hx hv=>?_⟩;by_cases hj:j<(c.args.map ρ).size
       ·rw [W2b hj] at hv;rw [W0o (by omega)] at hx;exact a2 j x v hx hv
       ·rw [Array.getElem?_append_right (by omega)] at hv;rw [W0n (by omega),a1] at hx;exact h2 _ x v hx hv
     refine ⟨o,hi,.inr ⟨hg,.inr (.inl ⟨hrd,_,Qs6 hop hc heg hsub hsp hmono,?_⟩)⟩⟩;rintro x nb ⟨rfl,rfl⟩;refine ⟨fun id y h=>(by cases h),?_⟩;simp only [FS.addB];rw [LS.fs_put];exact k
    ·cases h
   ·cases h
  ·cases h
 ·cases h
def idxO (P:Program) (ops:Array Oper) (s:LS) (i:Nat):Option (List (List AV) × Int × Option Tmp):=
 match opAt ops s i with
 | some o=>
  match o.op with
  | .indexAddr t x n=>
   match Qk4 P t,s.ev x,s.ev n with
   | some e,.sl k _ xs,.val (.int .i64 m)=>
    match szP P e with
    | some k'=>bif Nat.beq k k' then some (xs,m,o.dst) else none
    | none=>none
   | _,_,_=>none
  | _=>none
 | none=>none
theorem Zbj {P:Program} {ops:Array Oper} {K:FS→Prop} {rest:List Nat} {i:Nat} {s s':LS} {xs:List (List AV)} {m:Int} {d:Option Tmp} {e:List AV} (j:Nat) (h:idxO P ops s i=some (xs,m,d))
  (hm:m=(j:Int)) (he:xs[j]?=some e) (hs:s.put d (.dptr e)=s') (k:SeqR P ops K rest s'.fs):SeqR P ops K (i :: rest) s.fs:=by
 subst hs;unfold idxO at h
 split at h
 ·rename_i o ho;obtain ⟨hi,hg⟩:=Qbl ho
  split at h
  ·rename_i t x n hop
   split at h
   ·rename_i el kk tt xs' m' hel hx hn
    split at h
    ·rename_i k' hk';cases hb:Nat.beq kk k' with
     | false=>rw [hb] at h;cases h
     | true=>
      rw [hb] at h;obtain ⟨rfl,rfl,rfl⟩:=by simpa using h
      obtain rfl:=W0q hb;subst hm;refine ⟨o,hi,.inr ⟨hg,.inl ⟨.dptr e,.inl fun D w ρ hops=>?_,by rw [LS.fs_put];exact k⟩⟩⟩;have hvx:=Qa2 hops x (by simp [hop,Op.operands]);have hvn:=Qa2 hops n (by simp [hop,Op.operands]);rw [hx] at hvx;rw [hn] at hvn;generalize hxv:ρ x=vx at hvx;generalize hnv:ρ n=vn at hvn;cases hvn;cases hvx with
      | sl k t xs A c b off vs h1 h2 h3 h4 h5 h6=>
       have hj:j<xs'.length:=(W0i.1 he).1;obtain ⟨rfl,hDb,hb⟩:=h3 (by omega);refine ⟨.pointer (some ⟨b,off+j*kk,none⟩),?_,.dptr e b _ (fun q=>vs j q) hDb hb (fun q y hy=>?_) (fun q y hy=>h6 j e q y he hy)⟩
       ·have h0:(0:Int)≤j∧(j:Int)<xs'.length:=by omega
        simp [execOp,hop,hxv,hnv,Instr.indexAt,asIntOf,run_underlying (Qgv hel),Qcy hk',h0,hj,Qbb]
       ·have:=h5 j e q y he hy;rw [Nat.add_assoc];exact this
    ·cases h
   ·cases h
  ·cases h
 ·cases h
def leT (s:LS):List (Nat × AV)→Prop
 | []=>True
 | (t,x) :: r=>Sub (lget s.tm t) x∧leT s r
def leB (s:LS):List (Nat × Bx)→Prop
 | []=>True
 | (id,y) :: r=>(∃ z,bget s.bx id=some z∧SubB z y)∧leB s r
theorem Zka {s:LS}:∀ {l:List (Nat × AV)},leT s l→∀ t,Sub (lget s.tm t) (lget l t)
 | [],_,t=>Sub.any _
 | (k,x) :: r,h,t=>by
  simp only [lget];cases hb:Nat.beq k t with
  | false=>exact Zka h.2 t
  | true=>
   obtain rfl:=W0q hb;exact h.1
theorem Zkc {s:LS}:∀ {l:List (Nat × Bx)},leB s l→∀ id y,bget l id=some y→∃ z,bget s.bx id=some z∧SubB z y
 | [],_,id,y,h=>by cases h
 | (k,x) :: r,h,id,y,hy=>by
  simp only [bget] at hy;cases hb:Nat.beq k id with
  | false=>
   rw [hb] at hy;exact Zkc h.2 id y hy
  | true=>
   rw [hb] at hy;obtain rfl:=W0q hb;obtain rfl:=W0c hy;exact h.1
theorem LS.le {s s':LS} (h1:leT s s'.tm) (h2:leB s s'.bx):s.fs.le' s'.fs:=⟨Zka h1,Zkc h2⟩
def Fin (P:Program) (F:Func) (r:AV) (e:Exit) (s:FS):Prop:=(e=.normal∨e=.ret)∧Qv5 P F r s
theorem Qyn {P:Program} {f:FuncId} {F:Func} {code:Code} {args:List AV} {r:AV} (s:LS) (hf:P.funcs[f]?=some F) (hb:F.body=some code) (hsz:(decide (args.length≤F.ntmps))=true)
  (hn:(F.results.toList.all fun rv=>decide ((match rv with | .tmp t=>t | .cell t _=>t)<F.ntmps))=true) (hs:s.bx=[]) (ht:∀ t,lget s.tm t=args.getD t .any)
  (h:∀ c:Cx,c.n=F.ntmps→AWp c P code (Fin P F r) s.fs):Qag P f args r:=by
 refine Zla hf hb (of_decide_eq_true hsz) hn fun c hc=>?_;have e:s.fs=⟨fun t=>args.getD t .any,fun _=>none⟩:=by
  unfold LS.fs;rw [hs];simp only [FS.mk.injEq];exact ⟨funext ht,funext fun _=>rfl⟩
 rw [← e];exact h c hc
theorem Zky {c:Cx} {P:Program} {Q:Exit→FS→Prop} {s:LS} {x y:Code} {t:Nat} {b:Bool} (v:Bool) (hn:t<c.n) (hs:lget s.tm t=.val (.bool b)) (hb:b=v) (h:AWp c P (if v then x else y) Q s.fs):AWp c P (.cond (.tmp t) x y) Q s.fs:=
 Zjq (b:=v) (fun t' e=>by cases e;exact hn) (by show lget s.tm t=_;rw [hs,hb]) h
theorem Qph {P:Program} {ops:Array Oper} {K:FS→Prop} {r:List Nat} {s s':LS} (t:Nat) {b v:Bool} (hb:b=v) (hs:lget s.tm t=.val (.bool b)) (he:s.put (some t) (.val (.bool v))=s') (k:SeqR P ops K r s'.fs):SeqR P ops K r s.fs:=by
 subst he hb;have:(s.put (some t) (.val (.bool b))).fs=s.fs:=by
  rw [← LS.fs_put];simp only [FS.put,LS.fs,FS.mk.injEq,and_true];funext u
  split
  ·rename_i e;rw [e,hs]
  ·rfl
 rw [← this];exact k
theorem Zlf {P:Program} {ops:Array Oper} {K:FS→Prop} {r:List Nat} {s s':LS} (t:Nat) {x y:AV} (h:x=y) (hs:lget s.tm t=x) (he:s.put (some t) y=s') (k:SeqR P ops K r s'.fs):SeqR P ops K r s.fs:=by
 subst he h;have:(s.put (some t) x).fs=s.fs:=by
  rw [← LS.fs_put];simp only [FS.put,LS.fs,FS.mk.injEq,and_true];funext u
  split
  ·rename_i e;rw [e,hs]
  ·rfl
 rw [← this];exact k
theorem Qqx {c:Cx} {P:Program} {Q:Exit→FS→Prop} {code:Code} {s s':LS} (t:Nat) {b v:Bool} (hb:b=v) (hs:lget s.tm t=.val (.bool b)) (he:s.put (some t) (.val (.bool v))=s') (k:AWp c P code Q s'.fs):AWp c P code Q s.fs:=by
 subst he hb;have:(s.put (some t) (.val (.bool b))).fs=s.fs:=by
  rw [← LS.fs_put];simp only [FS.put,LS.fs,FS.mk.injEq,and_true];funext u
  split
  ·rename_i e;rw [e,hs]
  ·rfl
 rw [← this];exact k
theorem Sub.of_eq {x y:AV} (h:x=y):Sub x y:=h ▸ Sub.refl x
theorem Qal {z:Int} (h1:-9223372036854775808≤z:=by omega) (h2:z≤9223372036854775807:=by omega):rng .i64 z:=⟨h1,h2⟩
theorem Sub.aggs {cs ds:List AV} (h:Qc0 cs ds):Sub (.agg cs) (.agg ds):=Sub.agg h.ok.1 h.ok.2
theorem Sub.tups {cs ds:List AV} (h:Qc0 cs ds):Sub (.tup cs) (.tup ds):=fun D w v hv=>by
 obtain ⟨hl,hs⟩:=h.ok;cases hv with
 | tup cs vs h1 h2=>
  refine .tup ds vs (by omega) (fun j y v hy hv=>?_);have hj:j<cs.length:=by have:=(W0i.1 hy).1;omega
  exact hs j cs[j] y (W0d hj) hy D w v (h2 j cs[j] v (W0d hj) hv)
theorem Zad {c:Cx} {P:Program} {Q:Exit→FS→Prop} {x:Code} {s:FS} {α:Type} (st:α→LS) (μ:α→Nat) (H:α→Prop) (a0:α) (h0:s.le' (st a0).fs) (hH:H a0)
  (round:∀ a,H a→AWp c P x (Qyi (fun s'=>∃ b,H b∧μ b<μ a∧s'.le' (st b).fs) Q) (st a).fs):AWp c P (.loop x) Q s:=by
 refine Zjn (fun n s=>∃ a,H a∧μ a=n∧s.le' (st a).fs) (n0:=μ a0) ⟨a0,hH,rfl,h0⟩ fun n s ⟨a,ha,hn,hle⟩=>?_;refine AWp.weaken hle ((round a ha).mono fun e s' q=>?_);cases e with
 | normal=>
  obtain ⟨b,hb,hm,hl⟩:=q;exact ⟨μ b,by omega,b,hb,rfl,hl⟩
 | _=>exact q
theorem SubB.boxs {b:Nat} {T:TypeId} {cs ds:List AV} (h:Qc0 cs ds):SubB (.box b T cs) (.box b T ds):=.box b T cs ds h.ok.1 h.ok.2
theorem Qdk {α:Type} {l:List α} {k:Nat} (h:k<l.length):∃ x,l[k]?=some x:=⟨_,W0d h⟩
theorem map_some {α β:Type} {f:α→β} {l:List α} {k:Nat} {x:α} (h:l[k]?=some x):(l.map f)[k]?=some (f x):=by rw [W0v,h];rfl
abbrev aI (z:Int):AV:=.val (.int .i64 z)
abbrev aS (l:List UInt8):AV:=.val (.string ⟨⟨l⟩⟩)
abbrev aB (b:Bool):AV:=.val (.bool b)
abbrev aN:AV:=.val (.slice none 0 0)
end Copyhold

namespace Copyhold
open Go Go.RowKit
theorem Sub.rwnil (id:Nat):Sub (.val (.slice none 0 0)) (.rw id (.slice none 0 0) 0):=fun D w v h=>by
 cases h;exact .rw id 0 0 none
theorem Qpb {c:Cx} {P:Program} {Q:Exit→FS→Prop} {code:Code} {s s':LS} (id:Nat) (e:TypeId) (k:Nat) (hn:bget s.bx id=none) (hs:s.setB id (.row (.slice none 0 0) e k [])=s') (h:AWp c P code Q s'.fs):AWp c P code Q s.fs:=by
 subst hs;rintro a w ⟨hc,D,hR⟩;refine h a w ⟨hc,D,hR.defers,hR.size,hR.below,hR.dlt,hR.old,hR.tm,fun i x hx=>?_,fun i j x y hx hy hij g hg=>?_⟩
 ·rw [← LS.fs_setB] at hx;simp only [FS.setB] at hx
  split at hx
  ·obtain rfl:=W0c hx;exact ⟨fun g hg=>(by cases hg),(by simp),[],⟨(by simp),.inl ⟨rfl,rfl⟩⟩,(by simp),fun j a u ha=>(by simp at ha)⟩
  ·exact hR.bx i x hx
 ·rw [← LS.fs_setB] at hx hy;simp only [FS.setB] at hx hy
  split at hx
  ·obtain rfl:=W0c hx;cases hg
  ·split at hy
   ·obtain rfl:=W0c hy;intro h;cases h
   ·exact hR.apart i j x y hx hy hij g hg
def Qhz (P:Program) (t e:TypeId) (k bytes:Nat):Bool:=
 match P.underlying t,P.info? e with
 | some (.slice e'),some i=>
  match i.zero with
  | some z=>Nat.beq e' e&&(Nat.beq i.size k&&(Nat.beq i.bytes bytes&&(Nat.beq z.cells.size k&&Nat.ble 1 k)))
  | none=>false
 | _,_=>false
theorem Qji {P:Program} {t e:TypeId} {k bytes:Nat} (h:Qhz P t e k bytes=true):∃ z,Elem P t e z k bytes:=by
 unfold Qhz at h
 split at h
 ·rename_i e' i hu hi
  split at h
  ·rename_i z hz;simp only [W0r] at h;obtain ⟨h1,h2,h3,h4,h5⟩:=h;have h1:=W0q h1;have h2:=W0q h2;have h3:=W0q h3;have h4:=W0q h4;have h5:=W05 h5;subst h1;exact ⟨z,hu,by simp [hi,hz,h2,h3],h4,by omega⟩
  ·cases h
 ·cases h
theorem Qhb {D:Nat→Prop} {w:World} {k:Nat} {t:Bool} {ys:List (List AV)} {v:Value} (h:Ra D w (.sl k t ys) v) :
  ∃ us:List Value,Sl w k v ys.length us∧(∀ u∈us,u.oneCell'=true)∧∀ (j:Nat) (a:AV) (u:Value),ys.flatten[j]?=some a→us[j]?=some u→Ra D w a u:=by
 cases h with
 | sl k t xs A c b off vs h1 h2 h3 h4 h5 h6=>
  have hlen:∀ (xs:List (List AV)),(∀ e∈xs,e.length=k)→xs.flatten.length=xs.length*k:=fun xs=>by
   induction xs with
   | nil=>simp
   | cons e r ih=>
    intro h;simp only [W1f,W0e,W0b,ih (fun e he=>h e (by simp [he])),h e (by simp)];rw [W2f];omega
  have hk:∀ e∈ys,e.length=k:=fun e he=>by
   obtain ⟨i,hi⟩:=W2l.1 he;exact h4 i e hi
  have hget:∀ (xs:List (List AV)),(∀ e∈xs,e.length=k)→∀ j a,xs.flatten[j]?=some a→∃ i q e,j=i*k+q∧q<k∧xs[i]?=some e∧e[q]?=some a:=fun xs=>by
   induction xs with
   | nil=>intro _ j a h;simp at h
   | cons e r ih=>
    intro h j a ha;have he:e.length=k:=h e (by simp);rw [W1f] at ha;by_cases hj:j<e.length
    ·rw [W0o hj] at ha;exact ⟨0,j,e,by simp,by omega,rfl,ha⟩
    ·rw [W0n (by omega)] at ha;obtain ⟨i,q,e',h1,h2,h3,h4⟩:=ih (fun e he=>h e (by simp [he])) _ _ ha;exact ⟨i+1,q,e',by rw [W2f];omega,h2,by simpa using h3,h4⟩
  have hdiv:∀ i q,q<k→(i*k+q) / k=i∧(i*k+q) % k=q:=fun i q hq=>by
   have h0:0<k:=by omega
   constructor
   ·rw [Nat.mul_comm,Nat.mul_add_div h0,Nat.div_eq_of_lt hq];omega
   ·rw [Nat.mul_comm,Nat.mul_add_mod,Nat.mod_eq_of_lt hq]
  refine ⟨(List.range (ys.length*k)).map fun j=>vs (j / k) (j % k),⟨A,c,rfl,h1,by simp,fun h0=>?_⟩,fun u hu=>?_,fun j a u ha hu=>?_⟩
  ·obtain ⟨rfl,hD,hb⟩:=h3 h0;refine ⟨b,off,rfl,hb,fun j x hx=>?_⟩;have hj:j<ys.length*k:=by have:=(W0i.1 hx).1;simpa using this
   simp [hj] at hx;have hf:j<ys.flatten.length:=by rw [hlen ys hk];exact hj
   obtain ⟨i,q,e,e1,e2,e3,e4⟩:=hget ys hk j ys.flatten[j] (W0d hf);have:=(h5 i e q _ e3 e4).1;rw [← e1] at this;rw [this];have hd:=hdiv i q e2;rw [← e1] at hd;rw [← hx,hd.1,hd.2]
  ·simp only [W1i,List.mem_range] at hu;obtain ⟨j,hj,rfl⟩:=hu;have hf:j<ys.flatten.length:=by rw [hlen ys hk];exact hj
   obtain ⟨i,q,e,e1,e2,e3,e4⟩:=hget ys hk j ys.flatten[j] (W0d hf);have hd:=hdiv i q e2;rw [← e1] at hd;rw [hd.1,hd.2];exact (h5 i e q _ e3 e4).2
  ·have hj:j<ys.length*k:=by have:=(W0i.1 hu).1;simpa using this
   simp [hj] at hu;obtain ⟨i,q,e,e1,e2,e3,e4⟩:=hget ys hk j a ha;have hd:=hdiv i q e2;rw [← e1] at hd;rw [← hu,hd.1,hd.2];exact h6 i e q a e3 e4
theorem Qho {k:Nat} {xs:List (List AV)} (h:∀ e∈xs,e.length=k):xs.flatten.length=xs.length*k:=by
 induction xs with
 | nil=>simp
 | cons e r ih=>
  simp only [W1f,W0e,W0b,ih (fun e he=>h e (by simp [he])),h e (by simp)];rw [W2f];omega
def appO (ops:Array Oper) (s:LS) (i:Nat):Option (TypeId × AV × AV × Option Tmp):=
 match opAt ops s i with
 | some o=>
  match o.op with
  | .call c=>
   match c.callee,c.args.toList,c.argTypes.toList with
   | .builtin .append,[x,y],[t,t']=>bif Nat.beq t t' then some (t,s.ev x,s.ev y,o.dst) else none
   | _,_,_=>none
  | _=>none
 | none=>none
theorem Qvy {ops:Array Oper} {s:LS} {i:Nat} {t:TypeId} {a b:AV} {d:Option Tmp} (h:appO ops s i=some (t,a,b,d)) :
  ∃ o c x y,ops[i]?=some o∧gd ops s.fs o=some true∧o.op=.call c∧c={ callee:=.builtin .append,args:=#[x,y],argTypes:=#[t,t] }∧a=s.ev x∧b=s.ev y∧d=o.dst:=by
 unfold appO at h
 split at h
 ·rename_i o ho;obtain ⟨hi,hg⟩:=Qbl ho
  split at h
  ·rename_i c hop
   split at h
   ·rename_i x y t1 t2 hc ha ht;cases hb:Nat.beq t1 t2 with
    | false=>rw [hb] at h;cases h
    | true=>
     rw [hb] at h;simp only [cond_true,W0k,W0s] at h;obtain ⟨rfl,rfl,rfl,rfl⟩:=h;obtain rfl:=W0q hb;refine ⟨o,c,x,y,hi,hg,hop,?_,rfl,rfl,rfl⟩;obtain ⟨callee,args,cts⟩:=c;simp only at hc ha ht;subst hc;have ha':args=#[x,y]:=by have:=W1y List.toArray ha;simpa using this
     have ht':cts=#[t1,t1]:=by have:=W1y List.toArray ht;simpa using this
     rw [ha',ht']
   ·cases h
  ·cases h
 ·cases h
theorem Qys {P:Program} {ops:Array Oper} {K:FS→Prop} {rest:List Nat} {i:Nat} {s:LS} {t e:TypeId} {id k n bytes d:Nat} {V:Value} {tt:Bool} {xs ys:List (List AV)} {f:Value→LS}
  (h:appO ops s i=some (t,.rw id V n,.sl k tt ys,some d)) (hb:bget s.bx id=some (.row V e k xs)) (hE:Qhz P t e k bytes=true) (h63:xs.length+ys.length≤140737488355327) (hby:(xs.length+ys.length)*bytes≤140737488355328)
  (hf:∀ V',(s.put (some d) (.rw id V' (xs.length+ys.length))).setB id (.row V' e k (xs++ys))=f V') (kk:∀ V',SeqR P ops K rest (f V').fs):SeqR P ops K (i :: rest) s.fs:=by
 obtain ⟨o,c,x,y,hi,hg,hop,rfl,hx,hy,hd⟩:=Qvy h;have hdef:o.dst=some d:=hd.symm;refine ⟨o,hi,.inr ⟨hg,.inr (.inr ⟨by rw [hop];rfl,by rw [hop];rfl,id,fun z y'=>∃ V',z=.rw id V' (xs.length+ys.length)∧y'=.row V' e k (xs++ys),?_,?_⟩)⟩⟩
 ·refine Qtn.up ?_;intro D w a Q K' hD hops hbx hnd hcont;obtain ⟨z,hEl⟩:=Qji hE;have hvx:=Qa2 hops x (by simp [hop,Op.operands,Call.operands]);have hvy:=Qa2 hops y (by simp [hop,Op.operands,Call.operands]);rw [← hx] at hvx;rw [← hy] at hvy;obtain ⟨us,hsl,hus,hru⟩:=Qhb hvy;obtain ⟨hkx,vs,hown,hvs,hrv⟩:=hbx id _ hb;have hVeq:a.eval x=V:=by
   generalize a.eval x=v at hvx;cases hvx;rfl
  have hmax:xs.length+ys.length≤maxLen:=by unfold maxLen;omega
  obtain ⟨V',w',hrun,hown',hgr,hblk⟩:=Qth hEl w 0 o.type V xs.length vs hown (a.eval y) ys.length us hsl hus hmax hby (W0j _);have hexec:(execOp a.eval o).run P w=.ok (.value V') w':=by
   simp [execOp,hop,resolve,invoke,builtin,hVeq,hrun]
  unfold Oper.wp;rw [hexec,Oper.upon_value];have hshape:∃ A c,V'=.slice A (xs.length+ys.length) c:=by
   obtain ⟨A,c,h1,_⟩:=(Sl.of_owns hown').shape;exact ⟨A,c,h1⟩
  obtain ⟨A,cc,rfl⟩:=hshape;have hkD:∀ b,D b→b<w.heap.size→w'.heap[b]?=w.heap[b]?:=fun b hdb hl=>hgr.block b hl (fun e=>hnd _ b hb e.symm hdb);refine hcont _ w' _ _ _ ⟨_,rfl,rfl⟩ hb ⟨hgr.os,hgr.tape,hgr.output,hgr.size,fun k hk=>by omega⟩ (fun q hq hl=>hgr.block q hl (fun e=>hq e.symm)) (fun g hg'=>?_) ?_ (.rw id _ cc A)
  ·rcases hblk with e1 | e1
   ·refine ⟨.inl (by rw [← hg'];exact e1.symm),?_⟩;exact hnd _ g hb (by rw [← hg'];exact e1.symm)
   ·have hgs:g=w.heap.size:=by
     have:(Bx.row (.slice A (xs.length+ys.length) cc) e k (xs++ys)).blk=some w.heap.size:=e1;rw [hg'] at this;exact W0c this
    exact ⟨.inr (by omega),fun hdg=>by have:=hD g hdg;omega⟩
  ·refine ⟨fun l hl=>?_,vs++us,by simpa using hown',fun u hu=>?_,fun j a' u ha' hu=>?_⟩
   ·rcases W04.1 hl with h | h
    ·exact hkx l h
    ·cases hvy':(a.eval y)
     all_goals (rw [hvy'] at hvy)
     all_goals (try (cases hvy;done))
     cases hvy with
     | sl k t xs A c b off vs h1 h2 h3 h4 h5 h6=>
      obtain ⟨q,hq⟩:=W2l.1 h;exact h4 q l hq
   ·rcases W04.1 hu with h | h
    ·exact hvs u h
    ·exact hus u h
   ·have hlv:vs.length=xs.flatten.length:=by rw [hown.1,Qho hkx]
    rw [W19] at ha';by_cases hj:j<xs.flatten.length
    ·rw [W0o hj] at ha';rw [W0o (by omega)] at hu;exact (hrv j a' u ha' hu).frame (fun _ h=>h) hgr.size hkD
    ·rw [W0n (by omega)] at ha';rw [W0n (by omega),hlv] at hu;exact (hru _ a' u ha' hu).frame (fun _ h=>h) hgr.size hkD
 ·rintro z y' ⟨V',rfl,rfl⟩;have:=kk V';rw [← hf V',← LS.fs_setB,← LS.fs_put] at this;rw [hdef];exact this
end Copyhold
namespace Copyhold
abbrev W2n:=@Sub.of_eq
end Copyhold
namespace Copyhold
abbrev W2q:=@Sub.tups
end Copyhold
namespace Copyhold
abbrev W2r:=@Sub.aggs
end Copyhold
namespace Copyhold
abbrev W2s:=@SubB.boxs
end Copyhold
