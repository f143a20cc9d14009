import Derived.Test.YtkhodpknpligpaaGreatAl
import Derived.Test.YtkhodpknpligpaaGreatMrgB
import Derived.Test.YtkhodpknpligpaaGreatMrgA
set_option linter.unusedVariables false
namespace Copyhold
open Go Go.RowKit
structure LS where
 tm:List (Nat × AV)
 bx:List (Nat × Bx)
def lget:List (Nat × AV)→Nat→AV
 | [],_=>.any
 | (k,x) :: r,t=>bif Nat.beq k t then x else lget r t
def bget:List (Nat × Bx)→Nat→Option Bx
 | [],_=>none
 | (k,x) :: r,t=>bif Nat.beq k t then some x else bget r t
def lput:List (Nat × AV)→Nat→AV→List (Nat × AV)
 | [],t,x=>[(t,x)]
 | (k,y) :: r,t,x=>bif Nat.beq k t then (k,x) :: r else (k,y) :: lput r t x
def bput:List (Nat × Bx)→Nat→Bx→List (Nat × Bx)
 | [],t,x=>[(t,x)]
 | (k,y) :: r,t,x=>bif Nat.beq k t then (k,x) :: r else (k,y) :: bput r t x
def LS.fs (s:LS):FS:=⟨lget s.tm,bget s.bx⟩
def LS.put (s:LS) (d:Option Tmp) (x:AV):LS:=
 match d with
 | some d=>{ s with tm:=lput s.tm d x }
 | none=>s
def LS.setB (s:LS) (id:Nat) (y:Bx):LS:={ s with bx:=bput s.bx id y }
def LS.ev (s:LS):Operand→AV
 | .tmp t=>lget s.tm t
 | .const v=>.val v
 | .global g=>.val (.pointer (some ⟨g,0,none⟩))
 | .func f=>.val (.func (.func f) #[] #[])
theorem nbeq {a b:Nat} (h:a ≠ b):Nat.beq a b=false:=by
 cases hb:Nat.beq a b
 ·rfl
 ·exact absurd (W0q hb) h
theorem LS.fs_ev (s:LS) (y:Operand):s.fs.ev y=s.ev y:=by cases y<;>rfl
theorem Zc5 (l:List (Nat × AV)) (t:Nat) (x:AV) (u:Nat):lget (lput l t x) u=if u=t then x else lget l u:=by
 induction l with
 | nil=>
  simp only [lput,lget];by_cases h:u=t
  ·simp [h]
  ·have:Nat.beq t u=false:=nbeq fun e=>h e.symm;simp [h,this]
 | cons p r ih=>
  obtain ⟨k,y⟩:=p;simp only [lput];by_cases hk:k=t
  ·subst hk;simp only [Nat.beq_refl,cond_true,lget];by_cases h:u=k
   ·simp [h]
   ·have:Nat.beq k u=false:=nbeq fun e=>h e.symm;simp [h,this]
  ·have:Nat.beq k t=false:=nbeq hk;simp only [this,cond_false,lget,ih];by_cases hu:k=u
   ·subst hu;simp [hk]
   ·have:Nat.beq k u=false:=nbeq hu;simp [this]
theorem Qtb (l:List (Nat × Bx)) (t:Nat) (x:Bx) (u:Nat):bget (bput l t x) u=if u=t then some x else bget l u:=by
 induction l with
 | nil=>
  simp only [bput,bget];by_cases h:u=t
  ·simp [h]
  ·have:Nat.beq t u=false:=nbeq fun e=>h e.symm;simp [h,this]
 | cons p r ih=>
  obtain ⟨k,y⟩:=p;simp only [bput];by_cases hk:k=t
  ·subst hk;simp only [Nat.beq_refl,cond_true,bget];by_cases h:u=k
   ·simp [h]
   ·have:Nat.beq k u=false:=nbeq fun e=>h e.symm;simp [h,this]
  ·have:Nat.beq k t=false:=nbeq hk;simp only [this,cond_false,bget,ih];by_cases hu:k=u
   ·subst hu;simp [hk]
   ·have:Nat.beq k u=false:=nbeq hu;simp [this]
theorem LS.fs_put (s:LS) (d:Option Tmp) (x:AV):s.fs.put d x=(s.put d x).fs:=by
 cases d with
 | none=>rfl
 | some d=>
  simp only [LS.fs,FS.put,LS.put,FS.mk.injEq,and_true];funext t;rw [Zc5]
theorem LS.fs_setB (s:LS) (id:Nat) (y:Bx):s.fs.setB id (some y)=(s.setB id y).fs:=by
 simp only [LS.fs,FS.setB,LS.setB,FS.mk.injEq,true_and];funext t;rw [Qtb]
def Zdi (P:Program) (t:TypeId):Option Bool:=
 match P.underlying t with
 | some (.struct _) | some (.array _ _)=>some true
 | some _=>some false
 | none=>none
def szP (P:Program) (t:TypeId):Option Nat:=
 match P.info? t with
 | some i=>some i.size
 | none=>none
def fldP (P:Program) (st:TypeId) (f:Nat):Option (Nat × TypeId):=
 match P.underlying st with
 | some (.struct fs)=>
  match fs[f]? with
  | some fd=>
   match szP P fd.type with
   | some (_+1)=>some (fd.offset,fd.type)
   | _=>none
  | none=>none
 | _=>none
def Qk4 (P:Program) (t:TypeId):Option TypeId:=
 match P.underlying t with
 | some (.slice e)=>some e
 | _=>none
theorem Qhn {P:Program} {t:TypeId} {b:Bool} (h:Zdi P t=some b) (w:World):(isAgg t).run P w=.ok b w:=by
 unfold Zdi at h
 split at h
 ·rename_i fs hu;obtain rfl:=W0c h;simp [isAgg,run_underlying hu]
 ·rename_i n e hu;obtain rfl:=W0c h;simp [isAgg,run_underlying hu]
 ·rename_i d hns hna hu;obtain rfl:=W0c h;simp only [isAgg,Sem.run_bind,run_underlying hu,Result.andThen_ok];cases d<;>first | rfl | (exact (hns _ rfl).elim) | (exact (hna _ rfl).elim) | (exact (hns _ _ rfl).elim) | (exact (hna _ _ rfl).elim)
 ·cases h
theorem Qcy {P:Program} {t:TypeId} {n:Nat} (h:szP P t=some n) (w:World):(Go.sizeOf t).run P w=.ok n w:=by
 unfold szP at h
 split at h
 ·rename_i i hi;obtain rfl:=W0c h;simp [Go.sizeOf,typeInfo,hi]
 ·cases h
def Qds:AV→Option (List AV)
 | .agg cs=>some cs
 | .val (.agg vs)=>bif vs.toList.all (·.oneCell') then some (vs.toList.map .val) else none
 | .val v=>bif v.oneCell' then some [.val v] else none
 | .any | .tup _=>none
 | x=>some [x]
theorem Qjm {D:Nat→Prop} {w:World} {x:AV} {cs:List AV} {v:Value} (h:Qds x=some cs) (hv:Ra D w x v) :
  v.cells.size=cs.length∧(∀ (j:Nat) (u:Value),v.cells[j]?=some u→u.oneCell'=true)∧∀ (j:Nat) (a:AV) (u:Value),cs[j]?=some a→v.cells[j]?=some u→Ra D w a u:=by
 have one:∀ (u:Value) (a:AV),u.oneCell'=true→u.cells=#[u]→Ra D w a u→u.cells.size=[a].length∧(∀ (j:Nat) (z:Value),u.cells[j]?=some z→z.oneCell'=true)∧∀ (j:Nat) (b:AV) (z:Value),[a][j]?=some b→u.cells[j]?=some z→Ra D w b z:=by
  intro u a h1 h2 h3;rw [h2];refine ⟨rfl,fun j z hz=>?_,fun j b z hb hz=>?_⟩
  ·cases j with
   | zero=>simp at hz;subst hz;exact h1
   | succ j=>simp at hz
  ·cases j with
   | zero=>simp at hz hb;subst hz hb;exact h3
   | succ j=>simp at hz
 cases hv with
 | agg cs' vs h1 h2 h3=>
  simp only [Qds,W0k] at h;subst h;exact ⟨h1.symm,h2,h3⟩
 | val v=>
  cases v with
  | agg vs=>
   simp only [Qds] at h;cases ha:vs.toList.all (·.oneCell') with
   | false=>rw [ha] at h;cases h
   | true=>
    rw [ha] at h;obtain rfl:=W0c h;refine ⟨by simp [Value.cells],fun j u hu=>?_,fun j a u ha hu=>?_⟩
    ·exact W1z.1 ha u (by have:=W2a hu;simpa [Value.cells] using this)
    ·simp only [W0v,W17] at ha;simp only [Value.cells] at hu;rw [hu] at ha;obtain rfl:=W0c ha;exact .val u
  | tuple vs=>simp [Qds,Value.oneCell'] at h
  | _=>
   simp only [Qds,Value.oneCell',cond_true,W0k] at h;subst h;exact one _ _ rfl rfl (.val _)
 | any v=>cases h
 | tup l vs h1 h2=>cases h
 | sl k t xs A c b off vs h1 h2 h3 h4 h5 h6=>
  simp only [Qds,W0k] at h;subst h;exact one _ _ rfl rfl (.sl k t xs A c b off vs h1 h2 h3 h4 h5 h6)
 | dptr cs' b off vs h1 h2 h3 h4=>
  simp only [Qds,W0k] at h;subst h;exact one _ _ rfl rfl (.dptr cs' b off vs h1 h2 h3 h4)
 | ptr id b off=>
  simp only [Qds,W0k] at h;subst h;exact one _ _ rfl rfl (.ptr id b off)
 | rw id n c A=>
  simp only [Qds,W0k] at h;subst h;exact one _ _ rfl rfl (.rw id n c A)
 | clo f caps vs h1 h2=>
  simp only [Qds,W0k] at h;subst h;exact one _ _ rfl rfl (.clo f caps vs h1 h2)
 | mp es r es' clock h1 h2 h3 h4 h5 h6=>
  simp only [Qds,W0k] at h;subst h;exact one _ _ rfl rfl (.mp es r es' clock h1 h2 h3 h4 h5 h6)
 | mref id r=>
  simp only [Qds,W0k] at h;subst h;exact one _ _ rfl rfl (.mref id r)
 | ep id b n cap k i off=>
  simp only [Qds,W0k] at h;subst h;exact one _ _ rfl rfl (.ep id b n cap k i off)
 | pre k xs i A c h1 h2=>
  simp only [Qds,W0k] at h;subst h;exact one _ _ rfl rfl (.pre k xs i A c h1 h2)
 | rs id b n cap k lo h1=>
  simp only [Qds,W0k] at h;subst h;exact one _ _ rfl rfl (.rs id b n cap k lo h1)
def Qny (P:Program) (t:TypeId) (cs:List AV):Option AV:=
 match Zdi P t with
 | some true=>
  match szP P t with
  | some n=>bif Nat.ble n cs.length then some (.agg (cs.take n)) else none
  | none=>none
 | some false=>cs.head?
 | none=>none
def Qfc (D:Nat→Prop) (w:World) (b off:Nat) (cs:List AV):Prop:=∀ (j:Nat) (x:AV),cs[j]?=some x→∃ v,w.cell? ⟨b,off+j,none⟩=some v∧v.oneCell'=true∧Ra D w x v
theorem Qfc.drop {D:Nat→Prop} {w:World} {b off:Nat} {cs:List AV} (h:Qfc D w b off cs) (k:Nat):Qfc D w b (off+k) (cs.drop k):=fun j x hx=>by
 rw [W07] at hx;obtain ⟨v,h1,h2,h3⟩:=h (k+j) x hx;exact ⟨v,by rw [Nat.add_assoc];exact h1,h2,h3⟩
theorem Qfc.values {D:Nat→Prop} {w:World} {b off:Nat}:∀ {cs:List AV},Qfc D w b off cs→∃ vs:List Value,vs.length=cs.length∧(∀ (j:Nat) (v:Value),vs[j]?=some v→w.cell? ⟨b,off+j,none⟩=some v∧v.oneCell'=true)∧∀ (j:Nat) (x:AV) (v:Value),cs[j]?=some x→vs[j]?=some v→Ra D w x v
 | [],_=>⟨[],rfl,fun j v h=>by simp at h,fun j x v h=>by simp at h⟩
 | x :: cs,h=>by
  obtain ⟨v,h1,h2,h3⟩:=h 0 x rfl;obtain ⟨vs,g1,g2,g3⟩:=Qfc.values (cs:=cs) (off:=off+1) (fun j y hy=>by
   obtain ⟨u,a1,a2,a3⟩:=h (j+1) y (by simpa using hy);exact ⟨u,by rw [show off+1+j=off+(j+1) from by omega];exact a1,a2,a3⟩)
  refine ⟨v :: vs,by simp [g1],fun j u hu=>?_,fun j y u hy hu=>?_⟩
  ·cases j with
   | zero=>simp at hu;subst hu;exact ⟨h1,h2⟩
   | succ j=>
    have:=g2 j u (by simpa using hu);rw [show off+1+j=off+(j+1) from by omega] at this;exact this
  ·cases j with
   | zero=>simp at hu hy;subst hu hy;exact h3
   | succ j=>exact g3 j y u (by simpa using hy) (by simpa using hu)
theorem Qmr {D:Nat→Prop} {P:Program} {w:World} {t:TypeId} {b off:Nat} {cs:List AV} {x:AV} (h:Qfc D w b off cs) (hx:Qny P t cs=some x):∃ v,(loadVar t ⟨b,off,none⟩).run P w=.ok v w∧Ra D w x v:=by
 unfold Qny at hx
 split at hx
 ·rename_i ha
  split at hx
  ·rename_i n hn;cases hb:Nat.ble n cs.length with
   | false=>rw [hb] at hx;cases hx
   | true=>
    rw [hb] at hx;obtain rfl:=W0c hx;have hle:=W05 hb;obtain ⟨vs,h1,h2,h3⟩:=h.values;have hl:=run_loadCells_list (P:=P) (w:=w) ⟨b,off,none⟩ (vs.take n) (fun j v hv=>by
     rw [Qbb];rw [W1b] at hv
     split at hv
     ·exact (h2 j v hv).1
     ·cases hv)
    have hlen:(vs.take n).length=n:=by rw [W0g];omega
    rw [hlen] at hl;refine ⟨.agg (vs.take n).toArray,?_,.agg _ _ (by simp;omega) (fun j v hv=>?_) (fun j x v hx hv=>?_)⟩
    ·simp [loadVar,Qhn ha,Qcy hn,hl]
    ·rw [List.getElem?_toArray,W1b] at hv
     split at hv
     ·exact (h2 j v hv).2
     ·cases hv
    ·rw [List.getElem?_toArray,W1b] at hv;rw [W1b] at hx
     split at hv
     ·rename_i hj;rw [W1x hj] at hx;exact h3 j x v hx hv
     ·cases hv
  ·cases hx
 ·rename_i ha;rw [List.head?_eq_getElem?] at hx;obtain ⟨v,h1,h2,h3⟩:=h 0 x hx;exact ⟨v,by simpa [loadVar,Qhn ha] using (show (load ⟨b,off,none⟩).run P w=.ok v w from by
   rw [Nat.add_zero] at h1;simp [h1]),h3⟩
 ·cases hx
theorem BoxR.cells {D:Nat→Prop} {w:World} {b:Nat} {T:TypeId} {cs:List AV} (h:BoxR D w (.box b T cs)):Qfc D w b 0 cs:=fun j x hx=>by
 obtain ⟨vs,h1,h2,h3,h4⟩:=h;have hj:j<vs.size:=by have:=(W0i.1 hx).1;omega
 exact ⟨vs[j],by rw [Nat.zero_add,h1.cell];simp [hj],h3 j vs[j] (by simp [hj]),h4 j x vs[j] hx (by simp [hj])⟩
def rng:IntKind→Int→Prop
 | .i64,n=>-9223372036854775808≤n∧n≤9223372036854775807
 | .u64,n=>0≤n∧n≤18446744073709551615
 | .i32,n=>-2147483648≤n∧n≤2147483647
 | .u32,n=>0≤n∧n≤4294967295
 | .i16,n=>-32768≤n∧n≤32767
 | .u16,n=>0≤n∧n≤65535
 | .i8,n=>-128≤n∧n≤127
 | .u8,n=>0≤n∧n≤255
theorem Qiw {k:IntKind} {n:Int} (h:rng k n):k.wrap n=n:=by
 cases k<;>simp only [rng] at h<;>simp only [IntKind.wrap,IntKind.bits,IntKind.signed,Bool.false_and,Bool.true_and,W2m,ge_iff_le,Bool.false_eq_true,if_false]<;>(try split)<;>omega
def binA (P:Program) (op:BinOp) (t:TypeId) (x y:AV):Option (List Prop × AV):=
 match op,x,y with
 | .add,.val (.int .i64 a),.val (.int .i64 b)=>some ([rng .i64 (a+b)],.val (.int .i64 (a+b)))
 | .sub,.val (.int .i64 a),.val (.int .i64 b)=>some ([rng .i64 (a-b)],.val (.int .i64 (a-b)))
 | .mul,.val (.int .i64 a),.val (.int .i64 b)=>some ([rng .i64 (a*b)],.val (.int .i64 (a*b)))
 | .eql,.val (.int .i64 a),.val (.int .i64 b)=>some ([],.val (.bool (a==b)))
 | .neq,.val (.int .i64 a),.val (.int .i64 b)=>some ([],.val (.bool (a != b)))
 | .lss,.val (.int .i64 a),.val (.int .i64 b)=>some ([],.val (.bool (decide (a<b))))
 | .leq,.val (.int .i64 a),.val (.int .i64 b)=>some ([],.val (.bool (decide (a≤b))))
 | .gtr,.val (.int .i64 a),.val (.int .i64 b)=>some ([],.val (.bool (decide (a>b))))
 | .geq,.val (.int .i64 a),.val (.int .i64 b)=>some ([],.val (.bool (decide (a≥b))))
 | .eql,.val (.string ⟨⟨a⟩⟩),.val (.string ⟨⟨b⟩⟩)=>some ([],.val (.bool (a==b)))
 | .neq,.val (.string ⟨⟨a⟩⟩),.val (.string ⟨⟨b⟩⟩)=>some ([],.val (.bool (!(a==b))))
 | .lss,.val (.string ⟨⟨a⟩⟩),.val (.string ⟨⟨b⟩⟩)=>some ([],.val (.bool (Op.bytesLess a b)))
 | .add,.val (.string ⟨⟨a⟩⟩),.val (.string ⟨⟨b⟩⟩)=>some ([a.length+b.length≤9223372036854775807],.val (.string ⟨⟨a++b⟩⟩))
 | .eql,.val (.bool a),.val (.bool b)=>match P.underlying t with
  | some .bool=>some ([],.val (.bool (a==b)))
  | _=>none
 | .neq,.val (.bool a),.val (.bool b)=>match P.underlying t with
  | some .bool=>some ([],.val (.bool (!(a==b))))
  | _=>none
 | _,_,_=>none
theorem Qh0 {P:Program} {w:World} {t:TypeId} (a b:Bool) (h:P.underlying t=some .bool):(Op.equal t (.bool a) (.bool b)).run P w=.ok (a==b) w:=by
 unfold Op.equal;rw [show Op.maxDepth=9999+1 from rfl,Op.equalIn];simp [run_underlying h]
theorem Znf {P:Program} {op:BinOp} {t:TypeId} {x y:AV} {ps:List Prop} {z:AV} (h:binA P op t x y=some (ps,z)) (hp:allP ps) {D:Nat→Prop} {w:World} {u v:Value} (hu:Ra D w x u) (hv:Ra D w y v) (xo yo:Operand) :
  ∃ r,((do Go.eqGuard op t xo yo u v;Go.binOp op t u v):Sem Value).run P w=.ok r w∧Ra D w z r:=by
 unfold binA at h
 split at h<;>(try cases h)<;>cases hu<;>cases hv
 ·exact ⟨_,by simp [eqGuard,binOp,Op.intArith,Qiw hp.1],.val _⟩
 ·exact ⟨_,by simp [eqGuard,binOp,Op.intArith,Qiw hp.1],.val _⟩
 ·exact ⟨_,by simp [eqGuard,binOp,Op.intArith,Qiw hp.1],.val _⟩
 ·exact ⟨_,by simp [eqGuard,binOp,Op.intCmp],.val _⟩
 ·exact ⟨_,by simp [eqGuard,binOp,Op.intCmp],.val _⟩
 ·exact ⟨_,by simp [eqGuard,binOp,Op.intCmp],.val _⟩
 ·exact ⟨_,by simp [eqGuard,binOp,Op.intCmp],.val _⟩
 ·exact ⟨_,by simp [eqGuard,binOp,Op.intCmp],.val _⟩
 ·exact ⟨_,by simp [eqGuard,binOp,Op.intCmp],.val _⟩
 ·exact ⟨_,by simp [eqGuard,binOp,Op.stringOp],.val _⟩
 ·exact ⟨_,by simp [eqGuard,binOp,Op.stringOp],.val _⟩
 ·exact ⟨_,by simp [eqGuard,binOp,Op.stringOp],.val _⟩
 ·rename_i a b;exact ⟨_,by
   have:¬ (9223372036854775807<((a.length:Int)+b.length)):=by have:=hp.1;omega
   simp [eqGuard,binOp,Op.stringOp,IntKind.max,IntKind.bits,IntKind.signed,ByteArray.size,this]
   first | rfl | exact cat a b,.val _⟩
 ·split at h
  ·rename_i ht;cases h;exact ⟨_,by simp [eqGuard,binOp,Qh0 _ _ ht],.val _⟩
  ·cases h
 ·split at h
  ·rename_i ht;cases h;exact ⟨_,by simp [eqGuard,binOp,Qh0 _ _ ht],.val _⟩
  ·cases h
end Copyhold

namespace Copyhold
open Go Go.RowKit
def RepC (D:Nat→Prop) (w:World) (cs:List AV) (vs:Array Value):Prop:=
 vs.size=cs.length∧(∀ (j:Nat) (u:Value),vs[j]?=some u→u.oneCell'=true)∧∀ (j:Nat) (a:AV) (u:Value),cs[j]?=some a→vs[j]?=some u→Ra D w a u
theorem Qxf (off:Nat):∀ (l:List Value) (k:Nat) (cells:Array Value),off+k+l.length≤cells.size →
  ((l.zipIdx k).foldl (fun (cs:Array Value) (p:Value × Nat)=>cs.setIfInBounds (off+p.2) p.1) cells).size=cells.size ∧
  ∀ j,((l.zipIdx k).foldl (fun (cs:Array Value) (p:Value × Nat)=>cs.setIfInBounds (off+p.2) p.1) cells)[j]?=if off+k≤j∧j<off+k+l.length then l[j-(off+k)]? else cells[j]?
 | [],k,cells,_=>⟨rfl,fun j=>by
   have:¬ (off+k≤j∧j<off+k+([]:List Value).length):=by simp
   rw [W1w this];rfl⟩
 | v :: l,k,cells,h=>by
  simp only [W0b] at h;obtain ⟨h1,h2⟩:=Qxf off l (k+1) (cells.setIfInBounds (off+k) v) (by simp;omega);simp only [List.zipIdx_cons,List.foldl_cons];refine ⟨by rw [h1];simp,fun j=>?_⟩;rw [h2 j];by_cases hj:off+(k+1)≤j∧j<off+(k+1)+l.length
  ·rw [W1x hj,W1x (by simp only [W0b];omega)];rw [show j-(off+k)=(j-(off+(k+1)))+1 from by omega];simp
  ·rw [W1w hj];by_cases hk:j=off+k
   ·subst hk;have hlt:off+k<cells.size:=by omega
    rw [W1x (by simp only [W0b];omega)];simp [hlt]
   ·rw [W1w (by simp only [W0b];omega)];rw [Array.getElem?_setIfInBounds_ne (by omega)]
theorem RepC.put {D:Nat→Prop} {w:World} {cs xs:List AV} {vs us:Array Value} (h:RepC D w cs vs) (hx:RepC D w xs us) (off:Nat) (hf:off+xs.length≤cs.length) :
  RepC D w (cs.take off++xs++cs.drop (off+xs.length)) (us.zipIdx.foldl (fun (cs:Array Value) (p:Value × Nat)=>cs.setIfInBounds (off+p.2) p.1) vs):=by
 have e:us.zipIdx.foldl (fun (cs:Array Value) (p:Value × Nat)=>cs.setIfInBounds (off+p.2) p.1) vs=(us.toList.zipIdx 0).foldl (fun (cs:Array Value) (p:Value × Nat)=>cs.setIfInBounds (off+p.2) p.1) vs:=by
  rw [← Array.foldl_toList];simp
 rw [e];have hl:us.toList.length=xs.length:=by simp [hx.1]
 obtain ⟨h1,h2⟩:=Qxf off us.toList 0 vs (by rw [hl,h.1];omega);refine ⟨by rw [h1,h.1];simp;omega,fun j u hu=>?_,fun j a u ha hu=>?_⟩
 ·rw [h2 j] at hu
  split at hu
  ·exact hx.2.1 (j-(off+0)) u (by simpa using hu)
  ·exact h.2.1 j u hu
 ·rw [h2 j,hl] at hu;have hlo:(cs.take off).length=off:=by rw [W0g];omega
  split at hu
  ·rename_i hj;refine hx.2.2 (j-off) a u ?_ (by simpa using hu);rw [W1u,W0n (by omega),hlo,W0o (by omega)] at ha;exact ha
  ·rename_i hj;refine h.2.2 j a u ?_ hu;by_cases hlt:j<off
   ·rw [W1u,W0o (by omega),W1b,W1x hlt] at ha;exact ha
   ·rw [W1u,W0n (by omega),hlo,W0n (by omega),W07] at ha;rw [show off+xs.length+(j-off-xs.length)=j from by omega] at ha;exact ha
def Qn4 (pl:List (Nat × Nat)):List AV→List (Nat × List AV)→Option (List AV)
 | cs,[]=>some cs
 | cs,(i,xs) :: r=>
  match pl[i]? with
  | some (off,sz)=>bif Nat.beq xs.length sz&&Nat.ble (off+sz) cs.length then Qn4 pl (cs.take off++xs++cs.drop (off+sz)) r else none
  | none=>none
theorem Qql {D:Nat→Prop} {w:World} {pl:List (Nat × Nat)} {pf:Nat→Option (Nat × Nat)} (hpf:∀ i p,pl[i]?=some p→pf i=some p) :
  ∀ (qs:List (Nat × List AV)) (ps:List (Nat × Value)) (cs:List AV) (vs:Array Value) (cs':List AV),RepC D w cs vs→qs.length=ps.length →
   (∀ (j:Nat) (q:Nat × List AV) (p:Nat × Value),qs[j]?=some q→ps[j]?=some p→q.1=p.1∧RepC D w q.2 p.2.cells)→Qn4 pl cs qs=some cs'→∃ vs',Instr.fill pf vs ps=some vs'∧RepC D w cs' vs'
 | [],[],cs,vs,cs',h,_,_,hf=>by
  simp only [Qn4,W0k] at hf;subst hf;exact ⟨vs,rfl,h⟩
 | (i,xs) :: qs,(i',v) :: ps,cs,vs,cs',h,hl,hq,hf=>by
  obtain ⟨e,hx⟩:=hq 0 _ _ rfl rfl;simp only at e hx;subst e;simp only [Qn4] at hf
  split at hf
  ·rename_i off sz hp;cases hb:(Nat.beq xs.length sz&&Nat.ble (off+sz) cs.length) with
   | false=>rw [hb] at hf;cases hf
   | true=>
    rw [hb] at hf;simp only [W0r] at hb;have h1:xs.length=sz:=W0q hb.1;have h2:off+sz≤cs.length:=W05 hb.2;subst h1;obtain ⟨vs',g1,g2⟩:=Qql hpf qs ps _ _ cs' (h.put hx off h2) (by simpa using hl) (fun j q p hq' hp'=>hq (j+1) q p (by simpa using hq') (by simpa using hp')) hf;refine ⟨vs',?_,g2⟩;simp only [Instr.fill,hpf i _ hp];have:¬ ((v.cells.size ≠ xs.length||off+v.cells.size>vs.size)=true):=by
     simp [hx.1,h.1];omega
    rw [W1w this];exact g1
  ·cases hf
def Zb0 (P:Program) (t:TypeId):Option (List (Nat × Nat)):=
 match P.underlying t with
 | some (.struct fields)=>fields.toList.mapM fun f=>(P.info? f.type).map fun i=>(f.offset,i.size)
 | some (.array n e)=>
  match P.info? e with
  | some i=>some ((List.range n).map fun j=>(j*i.size,i.size))
  | none=>none
 | _=>none
def Qtq (P:Program) (t:TypeId):Option (List AV):=
 match P.info? t with
 | some it=>
  match it.zero with
  | some z=>bif z.cells.toList.all (·.oneCell') then some (z.cells.toList.map .val) else none
  | none=>none
 | none=>none
def Qhu:List (Nat × AV)→Option (List (Nat × List AV))
 | []=>some []
 | (i,x) :: r=>
  match Qds x,Qhu r with
  | some cs,some qs=>some ((i,cs) :: qs)
  | _,_=>none
def Zfk (P:Program) (t:TypeId) (parts:List (Nat × AV)):Option AV:=
 match Qtq P t,Zb0 P t,Qhu parts with
 | some z,some pl,some qs=>
  match Qn4 pl z qs with
  | some cs=>some (.agg cs)
  | none=>none
 | _,_,_=>none
theorem Qin {D:Nat→Prop} {P:Program} {w:World} {t:TypeId} {cs:List AV} (h:Qtq P t=some cs):∃ it z,P.info? t=some it∧it.zero=some z∧RepC D w cs z.cells:=by
 unfold Qtq at h
 split at h
 ·rename_i it hi
  split at h
  ·rename_i z hz;cases hb:z.cells.toList.all (·.oneCell') with
   | false=>rw [hb] at h;cases h
   | true=>
    rw [hb] at h;obtain rfl:=W0c h;refine ⟨it,z,hi,hz,by simp,fun j u hu=>?_,fun j a u ha hu=>?_⟩
    ·exact W1z.1 hb u (by have:=W2a hu;simpa using this)
    ·simp only [W0v,W17,hu] at ha;obtain rfl:=W0c ha;exact .val u
  ·cases h
 ·cases h
theorem Qf5 {D:Nat→Prop} {w:World}:∀ (parts:List (Nat × AV)) (qs:List (Nat × List AV)) (vs:List (Nat × Value)),Qhu parts=some qs→parts.length=vs.length →
  (∀ (j:Nat) (p:Nat × AV) (v:Nat × Value),parts[j]?=some p→vs[j]?=some v→p.1=v.1∧Ra D w p.2 v.2)→qs.length=vs.length∧∀ (j:Nat) (q:Nat × List AV) (p:Nat × Value),qs[j]?=some q→vs[j]?=some p→q.1=p.1∧RepC D w q.2 p.2.cells
 | [],qs,[],h,_,_=>by
  obtain rfl:=W0c h;exact ⟨rfl,fun j q p hq=>by simp at hq⟩
 | (i,x) :: parts,qs,(i',v) :: vs,h,hl,hr=>by
  simp only [Qhu] at h
  split at h
  ·rename_i cs qs' hc hq';obtain rfl:=W0c h;obtain ⟨h1,h2⟩:=Qf5 parts qs' vs hq' (by simpa using hl) (fun j p v hp hv=>hr (j+1) p v (by simpa using hp) (by simpa using hv));refine ⟨by simp [h1],fun j q p hq hp=>?_⟩;cases j with
   | zero=>
    simp at hq hp;subst hq hp;obtain ⟨e1,e2⟩:=hr 0 _ _ rfl rfl;exact ⟨e1,Qjm hc e2⟩
   | succ j=>exact h2 j q p (by simpa using hq) (by simpa using hp)
  ·cases h
theorem Zfj {D:Nat→Prop} {P:Program} {w:World} {t:TypeId} {parts:List (Nat × AV)} {x:AV} (h:Zfk P t parts=some x) {vs:Array (Nat × Value)} (hl:parts.length=vs.size)
  (hr:∀ (j:Nat) (p:Nat × AV) (v:Nat × Value),parts[j]?=some p→vs[j]?=some v→p.1=v.1∧Ra D w p.2 v.2):∃ v,(Instr.build t vs).run P w=.ok v w∧Ra D w x v:=by
 unfold Zfk at h
 split at h
 ·rename_i z pl qs hz hpl hqs
  split at h
  ·rename_i cs hcs;obtain rfl:=W0c h;obtain ⟨it,zv,hi,hzv,hrep⟩:=Qin (D:=D) (w:=w) hz;obtain ⟨g1,g2⟩:=Qf5 (D:=D) (w:=w) parts qs vs.toList hqs (by simpa using hl) (fun j p v hp hv=>hr j p v hp (by simpa using hv));have fin:∀ pf:Nat→Option (Nat × Nat),(∀ i p,pl[i]?=some p→pf i=some p)→(∀ cells,Instr.fill pf zv.cells vs.toList=some cells→P.built t vs.toList=some cells)→∃ v,(Instr.build t vs).run P w=.ok v w∧Ra D w (.agg cs) v:=by
    intro pf hpf hb;obtain ⟨vs',f1,f2⟩:=Qql (D:=D) (w:=w) hpf qs vs.toList z zv.cells cs hrep g1 g2 hcs;exact ⟨.agg vs',run_build w t vs vs' (hb vs' f1),.agg cs vs' f2.1.symm f2.2.1 (fun j x v hx hv=>f2.2.2 j x v hx hv)⟩
   unfold Zb0 at hpl
   split at hpl
   ·rename_i fields hu;refine fin (fun i=>pl.toArray[i]?) (fun i p hp=>by simpa using hp) (fun cells hc=>?_);simp only [Program.built,hi,hu,hzv,hpl];exact hc
   ·rename_i n e hu
    split at hpl
    ·rename_i ie hie;obtain rfl:=W0c hpl;refine fin (fun i=>some (i*ie.size,ie.size)) (fun i p hp=>?_) (fun cells hc=>?_)
     ·simp only [W0v] at hp;cases hr:(List.range n)[i]? with
      | none=>rw [hr] at hp;cases hp
      | some k=>
       rw [hr] at hp;obtain rfl:=W0c hp;have:=W0i.1 hr;obtain ⟨h1,h2⟩:=this;simp at h2;rw [h2]
     ·simp only [Program.built,hi,hu,hzv,hie];exact hc
    ·cases hpl
   ·cases hpl
  ·cases h
 ·cases h
end Copyhold

namespace Copyhold
open Go Go.RowKit
theorem Qpv {D:Nat→Prop} {P:Program} {w:World} {t:TypeId} {cs:List AV} {vs:Array Value} {off:Nat} {x:AV} (h:RepC D w cs vs) (hx:Qny P t (cs.drop off)=some x):∃ v,(part t vs off).run P w=.ok v w∧Ra D w x v:=by
 unfold Qny at hx
 split at hx
 ·rename_i ha
  split at hx
  ·rename_i n hn;cases hb:Nat.ble n (cs.drop off).length with
   | false=>rw [hb] at hx;cases hx
   | true=>
    rw [hb] at hx;obtain rfl:=W0c hx;have hle:=W05 hb;rw [W0p] at hle;refine ⟨.agg (vs.extract off (off+n)),by simp [part,Qhn ha,Qcy hn],.agg _ _ ?_ (fun j v hv=>?_) (fun j x v hx hv=>?_)⟩
    ·have:=h.1;simp;omega
    ·rw [Array.getElem?_extract] at hv
     split at hv
     ·exact h.2.1 _ v hv
     ·cases hv
    ·rw [Array.getElem?_extract] at hv;rw [W1b] at hx
     split at hv
     ·split at hx
      ·rw [W07] at hx;exact h.2.2 _ x v hx hv
      ·cases hx
     ·cases hv
  ·cases hx
 ·rename_i ha;rw [List.head?_eq_getElem?,W07,Nat.add_zero] at hx;have hj:off<vs.size:=by have:=(W0i.1 hx).1;have:=h.1;omega
  exact ⟨vs[off],by simp [part,Qhn ha,hj],h.2.2 off x vs[off] hx (by simp [hj])⟩
 ·cases hx
def lenA:AV→TypeDesc→Option AV
 | .sl _ _ xs,.slice _=>some (.val (.int .i64 xs.length))
 | .rw _ _ n,.slice _=>some (.val (.int .i64 n))
 | .val (.slice _ n _),.slice _=>some (.val (.int .i64 n))
 | .val (.string ⟨⟨l⟩⟩),.string=>some (.val (.int .i64 l.length))
 | _,_=>none
def evO (P:Program) (s:LS):Op→Option (List Prop × AV)
 | .move x=>some ([],s.ev x)
 | .assign x=>some ([],s.ev x)
 | .pick c a b=>
  match s.ev c with
  | .val (.bool true)=>some ([],s.ev a)
  | .val (.bool false)=>some ([],s.ev b)
  | _=>none
 | .load t a=>
  match s.ev a with
  | .ptr id b off=>
   match bget s.bx id with
   | some (.box b' _ cs)=>
    match Qny P t (cs.drop off) with
    | some x=>some ([b'=b],x)
    | none=>none
   | _=>none
  | .dptr cs=>
   match Qny P t cs with
   | some x=>some ([],x)
   | none=>none
  | _=>none
 | .fieldAddr st x f=>
  match fldP P st f with
  | some (off,_)=>
   match s.ev x with
   | .ptr id b o=>some ([],.ptr id b (o+off))
   | .dptr cs=>some ([],.dptr (cs.drop off))
   | _=>none
  | none=>none
 | .field st x f=>
  match fldP P st f with
  | some (off,ty)=>
   match s.ev x with
   | .agg cs=>
    match Qny P ty (cs.drop off) with
    | some x=>some ([],x)
    | none=>none
   | _=>none
  | none=>none
 | .extract x i=>
  match s.ev x with
  | .tup l=>
   match l[i]? with
   | some x=>some ([],x)
   | none=>none
  | _=>none
 | .binOp op t x y _=>binA P op t (s.ev x) (s.ev y)
 | .unOp .not _ x=>
  match s.ev x with
  | .val (.bool b)=>some ([],.val (.bool (!b)))
  | _=>none
 | .convert src dst x=>
  match P.underlying src,P.underlying dst,s.ev x with
  | some _,some (.int k),.val (.int _ n)=>some ([rng k n],.val (.int k n))
  | some _,some .string,.val (.string t)=>some ([],.val (.string t))
  | _,_,_=>none
 | .build t parts=>
  match Zfk P t (parts.toList.map fun p=>(p.1,s.ev p.2)) with
  | some x=>some ([],x)
  | none=>none
 | .nilCheck x=>
  match s.ev x with
  | .ptr id b o=>some ([],.ptr id b o)
  | .dptr cs=>some ([],.dptr cs)
  | .val (.func (.func f) a b)=>some ([],.val (.func (.func f) a b))
  | .clo f caps=>some ([],.clo f caps)
  | _=>none
 | .makeFunc fn first caps=>
  match fn,first.toList with
  | .func f,[]=>some ([],.clo f (caps.toList.map s.ev))
  | _,_=>none
 | .call c=>
  match c.callee,c.args.toList,c.argTypes.toList with
  | .builtin .len,[x],[t]=>
   match P.underlying t with
   | some d=>
    match lenA (s.ev x) d with
    | some r=>some ([],r)
    | none=>none
   | none=>none
  | _,_,_=>none
 | _=>none
theorem Zmf {D:Nat→Prop} {P:Program} {w:World} {x r:AV} {d:TypeDesc} {t ty:TypeId} {v:Value} (h:lenA x d=some r) (hu:P.underlying t=some d) (hv:Ra D w x v):∃ u,(Builtin.len_ #[t] ty #[v]).run P w=.ok u w∧Ra D w r u:=by
 unfold lenA at h
 split at h
 ·obtain rfl:=W0c h;cases hv;exact ⟨_,by simp [Builtin.len_,run_underlying hu,goInt],.val _⟩
 ·obtain rfl:=W0c h;cases hv;exact ⟨_,by simp [Builtin.len_,run_underlying hu,goInt],.val _⟩
 ·obtain rfl:=W0c h;cases hv;exact ⟨_,by simp [Builtin.len_,run_underlying hu,goInt],.val _⟩
 ·obtain rfl:=W0c h;cases hv;exact ⟨_,by
   simp [Builtin.len_,run_underlying hu,goInt];rfl,.val _⟩
 ·cases h
theorem evO_ok {P:Program} {s:LS} {o:Oper} {ps:List Prop} {x:AV} (h:evO P s o.op=some (ps,x)) (hp:allP ps):Qkx P o s.fs x∨(isLd o.op=true∧Qjr P o s.fs x):=by
 obtain ⟨dst,op,type,pos,after,guard⟩:=o;simp only at h;have arg:∀ {D:Nat→Prop} {w:World} {ρ:Operand→Value} {o:Oper},opsR D w s.fs ρ o→∀ y,y∈o.op.operands→Ra D w (s.ev y) (ρ y):=fun ho y hy=>by
  have:=ho y hy
  rwa [LS.fs_ev] at this
 cases op<;>simp only [evO] at h<;>(try (cases h;done))
 case move y=>
  obtain ⟨rfl,rfl⟩:=by simpa using h
  exact .inl fun D w ρ ho=>⟨_,rfl,arg ho y (by simp [Op.operands])⟩
 case assign y=>
  obtain ⟨rfl,rfl⟩:=by simpa using h
  exact .inl fun D w ρ ho=>⟨_,rfl,arg ho y (by simp [Op.operands])⟩
 case pick c a b=>
  split at h
  ·rename_i hc;obtain ⟨rfl,rfl⟩:=by simpa using h
   refine .inl fun D w ρ ho=>⟨ρ a,?_,arg ho a (by simp [Op.operands])⟩
   have hv:=arg ho c (by simp [Op.operands]);rw [hc] at hv;generalize hvv:ρ c=v at hv;cases hv;simp [execOp,hvv,asBool]
  ·rename_i hc;obtain ⟨rfl,rfl⟩:=by simpa using h
   refine .inl fun D w ρ ho=>⟨ρ b,?_,arg ho b (by simp [Op.operands])⟩
   have hv:=arg ho c (by simp [Op.operands]);rw [hc] at hv;generalize hvv:ρ c=v at hv;cases hv;simp [execOp,hvv,asBool]
  ·cases h
 case load t a=>
  refine .inr ⟨rfl,fun D w ρ ho hbx=>?_⟩;have hv:=arg ho a (by simp [Op.operands])
  split at h
  ·rename_i id b off ha;rw [ha] at hv;generalize hvv:ρ a=v at hv;cases hv
   split at h
   ·rename_i b' T cs hy
    split at h
    ·rename_i z hz;obtain ⟨rfl,rfl⟩:=by simpa using h
     have hb:b'=b:=hp.1;subst hb;have hc:=(BoxR.cells (hbx id _ hy)).drop off;rw [Nat.zero_add] at hc;obtain ⟨v,h1,h2⟩:=Qmr (P:=P) hc hz;exact ⟨v,by simp [execOp,hvv,Instr.loadAt,Instr.sureAddr,h1],h2⟩
    ·cases h
   ·cases h
  ·rename_i cs ha;rw [ha] at hv;generalize hvv:ρ a=v at hv
   split at h
   ·rename_i z hz;obtain ⟨rfl,rfl⟩:=by simpa using h
    cases hv with
    | dptr cs b off vs h1 h2 h3 h4=>
     have hc:Qfc D w b off cs:=fun j x hx=>⟨vs j,(h3 j x hx).1,(h3 j x hx).2,h4 j x hx⟩
     obtain ⟨v,g1,g2⟩:=Qmr (P:=P) hc hz;exact ⟨v,by simp [execOp,hvv,Instr.loadAt,Instr.sureAddr,g1],g2⟩
   ·cases h
  ·cases h
 case fieldAddr st y f=>
  refine .inl fun D w ρ ho=>?_;have hv:=arg ho y (by simp [Op.operands])
  split at h
  ·rename_i off ty hf;unfold fldP at hf
   split at hf
   ·rename_i fs hu
    split at hf
    ·rename_i fd hfd
     split at hf
     ·rename_i n hn;have hoff:fd.offset=off:=by
       have:=W0c hf;exact (Prod.mk.inj this).1
      subst hoff;have hrun:∀ b o,(Instr.fieldAt st (.pointer (some ⟨b,o,none⟩)) f).run P w=.ok (.pointer (some ⟨b,o+fd.offset,none⟩)) w:=fun b o=>by
       simp [Instr.fieldAt,run_underlying hu,hfd,Instr.sureAddr,fieldPlace,Qcy hn,Qbb]
      split at h
      ·rename_i id b o hy;obtain ⟨rfl,rfl⟩:=by simpa using h
       rw [hy] at hv;generalize hvv:ρ y=v at hv;cases hv;exact ⟨_,by simp [execOp,hvv,hrun],.ptr id b _⟩
      ·rename_i cs hy;obtain ⟨rfl,rfl⟩:=by simpa using h
       rw [hy] at hv;generalize hvv:ρ y=v at hv;cases hv with
       | dptr cs b o vs h1 h2 h3 h4=>
        refine ⟨.pointer (some ⟨b,o+fd.offset,none⟩),by simp [execOp,hvv,hrun],.dptr _ b (o+fd.offset) (fun j=>vs (fd.offset+j)) h1 h2 (fun j x hx=>?_) (fun j x hx=>?_)⟩
        ·rw [W07] at hx;rw [Nat.add_assoc];exact h3 _ x hx
        ·rw [W07] at hx;exact h4 _ x hx
      ·cases h
     ·cases hf
    ·cases hf
   ·cases hf
  ·cases h
 case field st y f=>
  refine .inl fun D w ρ ho=>?_;have hv:=arg ho y (by simp [Op.operands])
  split at h
  ·rename_i off ty hf;unfold fldP at hf
   split at hf
   ·rename_i fs hu
    split at hf
    ·rename_i fd hfd
     split at hf
     ·rename_i n hn;have hoff:=Prod.mk.inj (W0c hf);obtain ⟨e1,e2⟩:=hoff;subst e1 e2
      split at h
      ·rename_i cs hy
       split at h
       ·rename_i z hz;obtain ⟨rfl,rfl⟩:=by simpa using h
        rw [hy] at hv;generalize hvv:ρ y=v at hv;cases hv with
        | agg cs vs h1 h2 h3=>
         obtain ⟨v,g1,g2⟩:=Qpv (P:=P) (D:=D) (w:=w) ⟨h1.symm,h2,h3⟩ hz;exact ⟨v,by simp [execOp,hvv,Instr.field,run_underlying hu,hfd,asAgg,g1],g2⟩
       ·cases h
      ·cases h
     ·cases hf
    ·cases hf
   ·cases hf
  ·cases h
 case extract y i=>
  refine .inl fun D w ρ ho=>?_;have hv:=arg ho y (by simp [Op.operands])
  split at h
  ·rename_i l hy
   split at h
   ·rename_i z hz;obtain ⟨rfl,rfl⟩:=by simpa using h
    rw [hy] at hv;generalize hvv:ρ y=v at hv;cases hv with
    | tup l vs h1 h2=>
     have hi:i<vs.size:=by have:=(W0i.1 hz).1;omega
     exact ⟨vs[i],by simp [execOp,hvv,Instr.extract,hi],h2 i z vs[i] hz (by simp [hi])⟩
   ·cases h
  ·cases h
 case binOp op t y z yt=>
  refine .inl fun D w ρ ho=>?_;obtain ⟨r,h1,h2⟩:=Znf h hp (arg ho y (by simp [Op.operands])) (arg ho z (by simp [Op.operands])) y z;refine ⟨r,?_,h2⟩;simp only [execOp,Sem.run_bind] at h1 ⊢;simp [h1]
 case unOp op t y=>
  refine .inl fun D w ρ ho=>?_;have hv:=arg ho y (by simp [Op.operands]);cases op<;>simp only at h<;>(try (cases h;done))
  split at h
  ·rename_i b hy;obtain ⟨rfl,rfl⟩:=by simpa using h
   rw [hy] at hv;generalize hvv:ρ y=v at hv;cases hv;exact ⟨_,by simp [execOp,hvv,Op.unary],.val _⟩
  ·cases h
 case convert src dst y=>
  refine .inl fun D w ρ ho=>?_;have hv:=arg ho y (by simp [Op.operands])
  split at h
  ·rename_i d k k' n hs hd hy;obtain ⟨rfl,rfl⟩:=by simpa using h
   rw [hy] at hv;generalize hvv:ρ y=v at hv;cases hv;exact ⟨_,by simp [execOp,hvv,Go.convert,run_underlying hs,run_underlying hd,Conv.intToInt,Qiw hp.1],.val _⟩
  ·rename_i d t hs hd hy;obtain ⟨rfl,rfl⟩:=by simpa using h
   rw [hy] at hv;generalize hvv:ρ y=v at hv;cases hv;exact ⟨_,by simp [execOp,hvv,Go.convert,run_underlying hs,run_underlying hd],.val _⟩
  ·cases h
 case build t parts=>
  refine .inl fun D w ρ ho=>?_
  split at h
  ·rename_i z hz;obtain ⟨rfl,rfl⟩:=by simpa using h
   obtain ⟨v,h1,h2⟩:=Zfj (D:=D) (w:=w) hz (vs:=parts.map fun (i,x)=>(i,ρ x)) (by simp) (fun j p v hp hv=>by
    simp only [W0v,W17] at hp;simp only [Array.getElem?_map] at hv;cases hq:parts[j]? with
    | none=>rw [hq] at hp;cases hp
    | some q=>
     rw [hq] at hp hv;obtain rfl:=W0c hp;obtain rfl:=W0c hv;refine ⟨rfl,arg ho q.2 ?_⟩;simp only [Op.operands,List.mem_toArray,W1i,Array.mem_toList_iff];exact ⟨q,W2a hq,rfl⟩)
   exact ⟨v,by simp [execOp,h1],h2⟩
  ·cases h
 case nilCheck y=>
  refine .inl fun D w ρ ho=>?_;have hv:=arg ho y (by simp [Op.operands])
  split at h
  ·rename_i id b o hy;obtain ⟨rfl,rfl⟩:=by simpa using h
   rw [hy] at hv;generalize hvv:ρ y=v at hv;cases hv;exact ⟨_,by simp [execOp,hvv],.ptr id b o⟩
  ·rename_i cs hy;obtain ⟨rfl,rfl⟩:=by simpa using h
   rw [hy] at hv;generalize hvv:ρ y=v at hv;cases hv with
   | dptr cs b off vs h1 h2 h3 h4=>exact ⟨_,by simp [execOp,hvv],.dptr cs b off vs h1 h2 h3 h4⟩
  ·rename_i f a b hy;obtain ⟨rfl,rfl⟩:=by simpa using h
   rw [hy] at hv;generalize hvv:ρ y=v at hv;cases hv;exact ⟨_,by simp [execOp,hvv],.val _⟩
  ·rename_i f caps hy;obtain ⟨rfl,rfl⟩:=by simpa using h
   rw [hy] at hv;generalize hvv:ρ y=v at hv;cases hv with
   | clo f caps vs h1 h2=>exact ⟨_,by simp [execOp,hvv],.clo f caps vs h1 h2⟩
  ·cases h
 case makeFunc fn first caps=>
  refine .inl fun D w ρ ho=>?_
  split at h
  ·rename_i f hf;obtain ⟨rfl,rfl⟩:=by simpa using h
   have hf':first=#[]:=by have:=W1y List.toArray hf;simpa using this
   subst hf';refine ⟨_,by simp [execOp,Instr.makeFunc],.clo f _ (caps.map ρ) (by simp) (fun j x v hx hv=>?_)⟩;simp only [Array.getElem?_map] at hv;cases hq:caps[j]? with
   | none=>rw [hq] at hv;cases hv
   | some y=>
    rw [hq] at hv;obtain rfl:=W0c hv;simp only [W0v,W17,hq,Option.map_some] at hx;obtain rfl:=W0c hx;refine arg ho y ?_;have:=W2a hq;simp [Op.operands,this]
  ·cases h
 case call c=>
  refine .inl fun D w ρ ho=>?_
  split at h
  ·rename_i y t hc ha ht
   split at h
   ·rename_i d hd
    split at h
    ·rename_i r hr;obtain ⟨rfl,rfl⟩:=by simpa using h
     obtain ⟨callee,args,argTypes⟩:=c;simp only at hc ha ht;subst hc;have ha':args=#[y]:=by have:=W1y List.toArray ha;simpa using this
     have ht':argTypes=#[t]:=by have:=W1y List.toArray ht;simpa using this
     subst ha' ht';obtain ⟨u,h1,h2⟩:=Zmf (ty:=type) hr hd (arg ho y (by simp [Op.operands,Call.operands]));exact ⟨u,by simp [execOp,resolve,invoke,builtin,h1],h2⟩
    ·cases h
   ·cases h
  ·cases h
end Copyhold

namespace Copyhold
open Go Go.RowKit
theorem TBox.setRow {w:World} {B:Nat} {T:TypeId} {cur:Array Value} (h:TBox w B T cur) (cs:Array Value):TBox (w.setRow B cs) B T cs:=setRow_heap w B cur cs T (0,0) h
end Copyhold
