import PyProof.Rows.All
import Wide.All
import OpenK.AllK
import Wide.FinOn
import Lean
import PyProof.EqAt
import PyProof.EqKinds
import PyProof.TupleCall
import PyProof.NeKinds
import PyProof.ListMulRoad
import PyProof.AttrMissHeap
import KE.KDictOf
import KE.KRevIter
import PyProof.ListRange
import KE.KSortTup
import KE.KMinKey
import PyProof.MinMaxWalk
import PyProof.Rows.CallKwBuiltin
import PyProof.Rows.SetFrom
import PyProof.Rows.SeqMore
import PySem.Challenge.RW_turnweave_k48_refused_windings
set_option Elab.async false
set_option compiler.extract_closed false
set_option linter.all false
set_option maxRecDepth 100000
set_option maxHeartbeats 4000000
section
namespace L2
open PySem PySem.Spec PyProof.Rows
noncomputable abbrev Key:=Sum Int Str
noncomputable def zqB:Key→Value→Bool
 | .inl k,v=>Value.isInt k v
 | .inr x,v=>Value.isStrOf x v
noncomputable def zte (w:World):Key→Int
 | .inl k=>hashInt k
 | .inr x=>hashStr w x
theorem zaK:∀{k:Key}{v:Value},zqB k v=true→(∃i t,k=Sum.inl i∧v=Value.int i t)∨(∃x t,k=Sum.inr x∧v=Value.str x t)
 | .inl i,v,h=>by
  obtain⟨t,e⟩:=Value.isInt_shape (k:=i) (v:=v) h;exact .inl ⟨i,t,rfl,e⟩
 | .inr x,v,h=>by
  obtain⟨t,e⟩:=Value.isStrOf_shape (x:=x) (v:=v) h;exact .inr ⟨x,t,rfl,e⟩
theorem zqE (a b:Int):decide ((Sum.inl a:Key)=Sum.inl b)=(a == b):=by
 by_cases e:a=b
 ·subst e;simp
 ·have h:¬(Sum.inl a:Key)=Sum.inl b:=fun q=>e (Sum.inl.inj q);rw [decide_eq_false h];exact(beq_eq_false_iff_ne.mpr e).symm
theorem zpX (a b:Str):decide ((Sum.inr a:Key)=Sum.inr b)=decide (a=b):=by
 by_cases e:a=b
 ·subst e;simp
 ·have h:¬(Sum.inr a:Key)=Sum.inr b:=fun q=>e (Sum.inr.inj q);rw [decide_eq_false h,decide_eq_false e]
theorem zqK (a:Int) (b:Str):decide ((Sum.inl a:Key)=Sum.inr b)=false:=decide_eq_false (fun q=>nomatch q)
theorem zqb (a:Str) (b:Int):decide ((Sum.inr a:Key)=Sum.inl b)=false:=decide_eq_false (fun q=>nomatch q)
noncomputable def zhd (prog:Program) (w:World):PySem.KeyKind prog w Key where
  is:=zqB
  hash:=zte w
  inj:=fun v a b ha hb=>by
    rcases zaK ha with⟨i,t,rfl,rfl⟩ |⟨x,t,rfl,rfl⟩
    · rcases zaK hb with⟨j,u,rfl,e⟩ |⟨y,u,rfl,e⟩
      · injection e with e1 _;rw [e1]
      · exact nomatch e
    · rcases zaK hb with⟨j,u,rfl,e⟩ |⟨y,u,rfl,e⟩
      · exact nomatch e
      · injection e with e1 _;rw [e1]
  byValue:=fun k v h=>by
    rcases zaK h with⟨i,t,rfl,rfl⟩ |⟨x,t,rfl,rfl⟩<;>rfl
  pyHash:=fun hv h=>by
    rcases zaK hv with⟨i,t,rfl,rfl⟩ |⟨x,t,rfl,rfl⟩
    · exact wpAny_pyHash_int h
    · exact wpAny_pyHash_str h
  eqBool:=fun hu hv h=>by
    rcases zaK hu with⟨i,t,rfl,rfl⟩ |⟨x,t,rfl,rfl⟩
    · rcases zaK hv with⟨j,u,rfl,rfl⟩ |⟨y,u,rfl,rfl⟩
      · rw [zqE]at h;exact wpAny_eqBool_int h
      · rw [zqK]at h;exact SeqAt.EqAt.int_str i t y u _ _ _ _ h
    · rcases zaK hv with⟨j,u,rfl,rfl⟩ |⟨y,u,rfl,rfl⟩
      · rw [zqb]at h;exact SeqAt.EqAt.str_int x t j u _ _ _ _ h
      · rw [zpX]at h;exact wpAny_eqBool_str h
  «strs» :=fun k x t v h=>by
    rcases zaK h with⟨i,u,rfl,e⟩ |⟨y,u,rfl,e⟩
    · exact nomatch e
    · injection e with e1 _;subst e1;cases v<;>rfl
inductive V where
  |non |bl (b:Bool) |int (i:Int) |str (x:Str) |byt (b:Array UInt8) |flt (b:UInt64) |ref (a:Addr) |ty (n:String)
  deriving DecidableEq
noncomputable def RelV:V→Value→Prop
 | .non,u=>u=Value.none
 | .bl b,u=>u=Value.bool b
 | .int i,u=>∃t,u=Value.int i t
 | .str x,u=>∃t,u=Value.str x t
 | .byt b,u=>∃t,u=Value.bytes b t
 | .flt b,u=>∃t,u=Value.float b t
 | .ref a,u=>u=Value.ref a
 | .ty n,u=>u=Value.type n
noncomputable abbrev Vals:List V→List Value→Prop:=Paired RelV
theorem Vals.length{xs:List V}{us:List Value}(r:Vals xs us):xs.length=us.length:=Paired.length r
theorem Vals.get:∀{xs:List V}{us:List Value}{i:Nat}{x:V},Vals xs us→xs[i]? =some x→ ∃u,us[i]? =some u∧RelV x u
 |_,_,_,_, .nil,e=>by simp at e
 |_,_,0,_, .cons r _,e=>by simp at e;subst e;exact⟨_,rfl,r⟩
 |_,_,i+1,x, .cons _ t,e=>by
  obtain⟨u,h1,h2⟩:=Vals.get (i:=i) (x:=x) t (by simpa using e);exact⟨u,by simpa using h1,h2⟩
theorem Vals.append:∀{xs ys:List V}{us ws:List Value},Vals xs us→Vals ys ws→Vals (xs++ys) (us++ws)
 |_,_,_,_, .nil,s=>s
 |_,_,_,_, .cons r t,s=> .cons r (Vals.append t s)
theorem Vals.take:∀{xs:List V}{us:List Value}(n:Nat),Vals xs us→Vals (xs.take n) (us.take n)
 |_,_,0,_=> .nil
 |_,_,_+1, .nil=> .nil
 |_,_,n+1, .cons r t=> .cons r (Vals.take n t)
theorem Vals.drop:∀{xs:List V}{us:List Value}(n:Nat),Vals xs us→Vals (xs.drop n) (us.drop n)
 |_,_,0,r=>r
 |_,_,_+1, .nil=> .nil
 |_,_,n+1, .cons _ t=>Vals.drop n t
noncomputable def RelO:Option V→Option Value→Prop
 |some v,some u=>RelV v u
 |none,none=>True
 |_,_=>False
noncomputable def KV {κ:Type}:List (κ×V)→List (κ×Value)→Prop:=Paired fun(p:κ×V) (q:κ×Value)=>p.1=q.1∧RelV p.2 q.2
noncomputable def kV:Key→V
 | .inl i=> .int i
 | .inr x=> .str x
inductive HO where
    |lst (xs:List V)
    |tup (xs:List V)
    |dK (kvs:List (Key×V)) |dT (kvs:List (List Key×V))
    |set (S:Int→Bool) (n:Nat)
    |ins (C dx:Addr) (fs:List (Str×V))
    |own (x:Addr)
    |xd (fs:List (Str×V))
    |met (f x:Addr)
    |rng (lo hi:Int)
    |frz (o:Obj) (u:HO)
    |tbl (ps:Array Value)
    |ext (φ:Heap→Prop)
noncomputable abbrev Hp:=Addr→Option HO
noncomputable def upd (H:Hp) (a:Addr) (o:HO):Hp:=fun b=>if b=a then some o else H b
theorem zaq{H:Hp}{a:Addr}{o:HO}:upd H a o a=some o:=by unfold upd;rw [if_pos rfl]
theorem zap{H:Hp}{a b:Addr}{o:HO}(h:b≠a):upd H a o b=H b:=by unfold upd;rw [if_neg h]
theorem zkx{H:Hp}{a b:Addr}{o u:HO}(h:H a=some o) (h':H b=some u) (d:o≠u):a≠b:=by
 intro e;subst e;rw [h]at h';exact d (Option.some.inj h')
theorem zan{H:Hp}{a b:Addr}{o:HO}(h:H a=some o) (h':H b=none):a≠b:=by
 intro e;subst e;rw [h]at h';cases h'
section
variable (P:Program) (w:World)
noncomputable def ObjOk (H:Hp) (h:Heap) (a:Addr):HO→Prop
 | .lst xs=>xs.length≤sizeLine∧ ∃(its:List Value) (n:Nat),Vals xs its∧h.get? a=some { cls:= .type "list",data:= .seq its.toArray n }
 | .tup xs=>xs.length≤sizeLine∧ ∃its:List Value,Vals xs its∧IsTup h a its.toArray
 | .dK kvs=>kvs.length≤sizeLine∧(a == sysModules)=false∧ ∃vs,KV kvs vs∧h.DictOf (zhd P w) a vs
 | .dT kvs=>kvs.length≤sizeLine∧(a == sysModules)=false∧ ∃xs:List (List Key×Addr×Value),
   Paired (fun(p:List Key×V) (q:List Key×Addr×Value)=>p.1=q.1∧H q.2.1=some (.tup (p.1.map kV))∧RelV p.2 q.2.2) kvs xs∧
   ∃o es ep,h.get? a=some o∧o.ExactDict∧o.data= .dict es ep∧es.toList=xs.map (entryOfKey (tupleKind (zhd P w)))∧(xs.map (·.1)).Nodup
 | .set S n=>h.SetOf (intKind P w) a S n
 | .ins C dx fs=>H dx=some (.own a)∧fs.length≤1000∧dx≠a∧h.get? a=some (PySem.W.instObj C dx)∧
   ∃mA,h.Ns1 dx mA∧(∀f,RelO (fs.lookup f) (mA f))∧PySem.Within mA (fs.map (·.1))
 | .own _=>∃o,h.get? a=some o
 | .xd fs=>∃mA,h.Ns1 a mA∧ ∀f,RelO (fs.lookup f) (mA f)
 | .rng lo hi=>∃t u v,h.get? a=some { cls:= .type "range",data:= .fields #[.int lo t, .int hi u, .int 1 v] }
 | .frz o u=>h.get? a=some o∧ObjOk H h a u
 | .tbl ps=>h.get? a=some { cls:= .none,data:= .fields ps }
 | .met f x=>h.get? a=some (PySem.W.methodObj (.ref f) (.ref x))
 | .ext φ=>φ h∧(∃o,h.get? a=some o)∧ ∀h1 h2:Heap,φ h1→(∀o,h1.get? a=some o→h2.get? a=some o)→φ h2
noncomputable def HOk (H:Hp) (h:Heap):Prop:=∀a o,H a=some o→ObjOk P w H h a o
end
section
variable {P:Program}{w:World}{H H':Hp}{h h':Heap}{a:Addr}{o:HO}
theorem ObjOk.lt (x:ObjOk P w H h a o):a<h.objs.size:=by
 cases o with
 |lst xs=>obtain⟨_,_,_,_,e⟩:=x;exact Heap.lt_size e
 |tup xs=>obtain⟨_,_,_,p⟩:=x;exact p.lt
 |dK kvs=>obtain⟨_,_,_,_,o,_,_,e,_⟩:=x;exact Heap.lt_size e
 |dT kvs=>obtain⟨_,_,_,_,o,_,_,e,_⟩:=x;exact Heap.lt_size e
 |set S n=>obtain⟨o,_,_,_,e,_⟩:=x;exact Heap.lt_size e
 |ins C dx fs=>obtain⟨_,_,_,e,_⟩:=x;exact Heap.lt_size e
 |own y=>obtain⟨_,e⟩:=x;exact Heap.lt_size e
 |xd fs=>obtain⟨_,⟨_,_,_,e,_⟩,_⟩:=x;exact Heap.lt_size e
 |rng lo hi=>obtain⟨_,_,_,e⟩:=x;exact Heap.lt_size e
 |frz ob u=>obtain⟨e,_⟩:=x;exact Heap.lt_size e
 |tbl ps=>exact Heap.lt_size (show h.get? a=some _ from x)
 |met f y=>exact Heap.lt_size (show h.get? a=some _ from x)
 |ext φ=>obtain⟨_,⟨_,e⟩,_⟩:=x;exact Heap.lt_size e
theorem Paired.mapP{α β:Type}{F G:α→β→Prop}:∀{l₁:List α}{l₂:List β},Paired F l₁ l₂→(∀a b,F a b→G a b)→Paired G l₁ l₂
 |_,_, .nil,_=> .nil
 |_,_, .cons r t,f=> .cons (f _ _ r) (Paired.mapP t f)
theorem ObjOk.stay (x:ObjOk P w H h a o) (k:∀b u,(b=a∨H b=some (.own a))→h.get? b=some u→h'.get? b=some u)
  (ho:∀b,H b=some (.own a)→H' b=some (.own a)) (ht:∀b xs,H b=some (.tup xs)→H' b=some (.tup xs)):ObjOk P w H' h' a o:=by
 induction o with
 |lst xs=>obtain⟨z,its,n,r,e⟩:=x;exact⟨z,its,n,r,k _ _ (.inl rfl) e⟩
 |tup xs=>obtain⟨z,its,r,ob,e,c⟩:=x;exact⟨z,its,r,ob,k _ _ (.inl rfl) e,c⟩
 |dK kvs=>obtain⟨z,y,vs,r,ob,es,ep,e,c⟩:=x;exact⟨z,y,vs,r,ob,es,ep,k _ _ (.inl rfl) e,c⟩
 |dT kvs=>
  obtain⟨z,y,xs,r,ob,es,ep,e,c⟩:=x;exact⟨z,y,xs,Paired.mapP r fun p q z=>⟨z.1,ht _ _ z.2.1,z.2.2⟩,ob,es,ep,k _ _ (.inl rfl) e,c⟩
 |set S n=>obtain⟨ob,es,ep,t,e,c⟩:=x;exact⟨ob,es,ep,t,k _ _ (.inl rfl) e,c⟩
 |ins C dx fs=>
  obtain⟨d,z,ne,e,mA,⟨od,es,ep,e2,c⟩,r⟩:=x;exact⟨ho _ d,z,ne,k _ _ (.inl rfl) e,mA,⟨od,es,ep,k _ _ (.inr d) e2,c⟩,r⟩
 |own y=>obtain⟨ob,e⟩:=x;exact⟨ob,k _ _ (.inl rfl) e⟩
 |xd fs=>obtain⟨mA,⟨od,es,ep,e,c⟩,r⟩:=x;exact⟨mA,⟨od,es,ep,k _ _ (.inl rfl) e,c⟩,r⟩
 |rng lo hi=>obtain⟨t,u,v,e⟩:=x;exact⟨t,u,v,k _ _ (.inl rfl) e⟩
 |frz ob u ih=>obtain⟨e,q⟩:=x;exact⟨k _ _ (.inl rfl) e,ih q⟩
 |tbl ps=>
  have e:h.get? a=some { cls:= .none,data:= .fields ps }:=x;show h'.get? a=some { cls:= .none,data:= .fields ps };exact k a _ (.inl rfl) e
 |met f y=>
  have e:h.get? a=some (PySem.W.methodObj (.ref f) (.ref y)):=x;show h'.get? a=some (PySem.W.methodObj (.ref f) (.ref y));exact k a _ (.inl rfl) e
 |ext φ=>obtain⟨p,⟨o,e⟩,st⟩:=x;exact⟨st _ _ p fun o q=>k _ _ (.inl rfl) q,⟨o,k _ _ (.inl rfl) e⟩,st⟩
theorem HOk.lt (x:HOk P w H h) (e:H a=some o):a<h.objs.size:=(x a o e).lt
theorem HOk.fresh (x:HOk P w H h) (e:h.objs.size≤a):H a=none:=by
 cases q:H a with
 |none=>rfl
 |some u=>exact absurd (Nat.lt_of_lt_of_le (x.lt q) e) (Nat.lt_irrefl _)
theorem HOk.kept (x:HOk P w H h) (k:∀b u,h.get? b=some u→h'.get? b=some u):HOk P w H h':=fun a o e=>
 (x a o e).stay (fun b u _ q=>k b u q) (fun _ q=>q) fun _ _ q=>q
theorem HOk.laid (x:HOk P w H h) (k:∀b u,h.get? b=some u→h'.get? b=some u) (hp:h.objs.size≤a) (new:ObjOk P w (upd H a o) h' a o):HOk P w (upd H a o) h':=fun b u e=>by
 have hn:=x.fresh hp;by_cases hb:b=a
 ·subst hb;rw [zaq]at e;cases e;exact new
 ·rw [zap hb]at e;exact(x b u e).stay (fun c v _ q=>k c v q) (fun c q=>by rw [zap (zan q hn)];exact q) fun c xs q=>by rw [zap (zan q hn)];exact q
end
noncomputable def Rd (H:Hp) (a:Addr) (u:HO):Prop:=H a=some u∨ ∃o,H a=some (.frz o u)
theorem Rd.ok{P:Program}{w:World}{H:Hp}{h:Heap}{a:Addr}{u:HO}(r:Rd H a u) (x:HOk P w H h):ObjOk P w H h a u:=by
 rcases r with r |⟨o,r⟩
 ·exact x a u r
 ·obtain⟨_,q⟩:=x a _ r;exact q
noncomputable def Mut:Option HO→Prop
 |some (.lst _)=>True
 |some (.dK _)=>True
 |some (.dT _)=>True
 |some (.set _ _)=>True
 |some (.ins _ _ _)=>True
 |some (.ext _)=>True
 |_=>False
section
variable {P:Program}{w:World}{H:Hp}{h h':Heap}{x e:Addr}{o':HO}
theorem HOk.write (ok:HOk P w H h) (mu:Mut (H x)) (he:e=x∨H e=some (.own x)) (k:∀b u,b≠e→h.get? b=some u→h'.get? b=some u) (heo:∃u,h'.get? e=some u)
  (new:ObjOk P w (upd H x o') h' x o'):HOk P w (upd H x o') h':=fun b u q=>by
 have nown:∀c y,H c=some (.own y)→c≠x:=fun c y r z=>by subst z;rw [r]at mu;exact mu
 have ntup:∀c xs,H c=some (.tup xs)→c≠x:=fun c xs r z=>by subst z;rw [r]at mu;exact mu
 by_cases hb:b=x
 ·subst hb;rw [zaq]at q;cases q;exact new
 ·rw [zap hb]at q;by_cases hbe:b=e
  ·have q':H b=some (.own x):=by
    rcases he with z |z
    ·exact absurd (hbe.trans z) hb
    ·rw [hbe];exact z
   rw [q]at q';cases q';obtain⟨v,hv⟩:=heo;exact⟨v,by rw [hbe];exact hv⟩
  ·refine(ok b u q).stay (fun c v hc r=>k c v ?_ r) (fun c r=>by rw [zap (nown c b r)];exact r) fun c xs r=>by rw [zap (ntup c xs r)];exact r
   rcases hc with rfl |hc
   ·exact hbe
   ·rintro rfl;rcases he with z |z
    ·exact nown c b hc z
    ·rw [hc]at z;cases z;exact hb rfl
end
structure Un (fs ex:List Addr) (H H':Hp) (h h':Heap):Prop where
  keep:∀b o,h.get? b=some o→H b=none→b∉fs→b∉ex→h'.get? b=some o
  slot:∀b o,h.get? b=some o→H b=none→b∈fs→b∉ex→ ∃sl,h'.get? b=some { o with slots:=sl }
  free:∀b o,h.get? b=some o→H b=none→b∉ex→H' b=none
  there:∀b o,h.get? b=some o→b∉ex→ ∃o',h'.get? b=some o'
  tups:∀b xs,H b=some (.tup xs)→H' b=some (.tup xs)
  frzs:∀b o u,H b=some (.frz o u)→H' b=some (.frz o u)
  tbls:∀b ps,H b=some (.tbl ps)→ ∃more,H' b=some (.tbl (ps++more))
section
variable {fs ex:List Addr}{H H1 H2:Hp}{h h1 h2 h':Heap}{a x e:Addr}{o:HO}
theorem Un.any (u:Un fs ex H H1 h h1) {b:Addr}{ob:Obj}(q:h.get? b=some ob) (n:H b=none) (hx:b∉ex):∃sl,h1.get? b=some { ob with slots:=sl }:=by
 by_cases hb:b∈fs
 ·exact u.slot b ob q n hb hx
 ·exact⟨ob.slots,u.keep b ob q n hb hx⟩
theorem Un.trans (a:Un fs ex H H1 h h1) (b:Un fs ex H1 H2 h1 h2):Un fs ex H H2 h h2 where
  keep:=fun c ob q n hc hx=>b.keep c ob (a.keep c ob q n hc hx) (a.free c ob q n hx) hc hx
  slot:=fun c ob q n hc hx=>by
    obtain⟨sl,e1⟩:=a.slot c ob q n hc hx;obtain⟨sl',e2⟩:=b.slot c _ e1 (a.free c ob q n hx) hc hx;exact⟨sl',e2⟩
  free:=fun c ob q n hx=>by
    obtain⟨o',e1⟩:=a.there c ob q hx;exact b.free c o' e1 (a.free c ob q n hx) hx
  there:=fun c ob q hx=>by
    obtain⟨o',e1⟩:=a.there c ob q hx;exact b.there c o' e1 hx
  tups:=fun c xs q=>b.tups c xs (a.tups c xs q)
  frzs:=fun c ob xs q=>b.frzs c ob xs (a.frzs c ob xs q)
  tbls:=fun c ps q=>by
    obtain⟨m1,e1⟩:=a.tbls c ps q;obtain⟨m2,e2⟩:=b.tbls c _ e1;exact⟨m1++m2,by rw [e2,Array.append_assoc]⟩
theorem Un.kept (k:∀b u,h.get? b=some u→h'.get? b=some u):Un fs ex H H h h':=
 ⟨fun b ob q _ _ _=>k b ob q,fun b ob q _ _ _=>⟨ob.slots,k b ob q⟩,fun _ _ _ n _=>n,fun b ob q _=>⟨ob,k b ob q⟩,fun _ _ q=>q,fun _ _ _ q=>q,fun _ ps q=>⟨#[],by rw [q];simp⟩⟩
theorem Un.refl:Un fs ex H H h h:=Un.kept fun _ _ q=>q
theorem Un.laid (k:∀b u,h.get? b=some u→h'.get? b=some u) (hp:h.objs.size≤a) (hn:H a=none):Un fs ex H (upd H a o) h h' where
  keep:=fun b u q _ _ _=>k b u q
  slot:=fun b u q _ _ _=>⟨u.slots,k b u q⟩
  free:=fun b u q n _=>by rw [zap (Nat.ne_of_lt (Nat.lt_of_lt_of_le (Heap.lt_size q) hp))];exact n
  there:=fun b u q _=>⟨u,k b u q⟩
  tups:=fun b xs q=>by rw [zap (zan q hn)];exact q
  frzs:=fun b u xs q=>by rw [zap (zan q hn)];exact q
  tbls:=fun b ps q=>⟨#[],by rw [zap (zan q hn),q];simp⟩
theorem Un.write (mu:Mut (H x)) (he:e=x∨H e=some (.own x)) (k:∀b u,b≠e→h.get? b=some u→h'.get? b=some u) (heo:∃u,h'.get? e=some u):Un fs ex H (upd H x o) h h':=by
 have hx:∀b,H b=none→b≠x:=fun b n z=>by subst z;rw [n]at mu;exact mu
 have hb:∀b,H b=none→b≠e:=fun b n z=>by
  subst z;rcases he with r |r
  ·exact hx b n r
  ·rw [n]at r;cases r
 have hm:∀b u,H b=some u→ ¬Mut (some u)→b≠x:=fun b u q nm z=>by subst z;rw [q]at mu;exact nm mu
 refine⟨fun b u q n _ _=>k b u (hb b n) q,fun b u q n _ _=>⟨u.slots,k b u (hb b n) q⟩,fun b u q n _=>by rw [zap (hx b n)];exact n,fun b u q _=>?_,
  fun b xs q=>by rw [zap (hm b _ q fun z=>z)];exact q,fun b u xs q=>by rw [zap (hm b _ q fun z=>z)];exact q,fun b ps q=>⟨#[],by rw [zap (hm b _ q fun z=>z),q];simp⟩⟩
 by_cases hbe:b=e
 ·subst hbe;exact heo
 ·exact⟨u,k b u hbe q⟩
end
noncomputable def trk (h:Heap) (H:Hp):List Addr:=(List.range h.objs.size).filter fun a=>(H a).isSome
noncomputable def zkL (h:Heap) (H:Hp):Heap:=PySem.W.hideAll h (trk h H)
theorem ziy (h:Heap) (H:Hp):(zkL h H).objs.size=h.objs.size:=PySem.W.hideAll_size _ _
theorem zll{h:Heap}{H:Hp}{b:Addr}{o:Obj}(e:h.get? b=some o) (n:H b=none):(zkL h H).get? b=some o:=
 PySem.W.hideAll_get _ e fun hm=>by
  have q:(H b).isSome=true:=(List.mem_filter.mp hm).2;rw [n]at q;simp at q
theorem znl{h:Heap}{H:Hp}{b:Addr}{o:Obj}(e:(zkL h H).get? b=some o):h.get? b=some o∧H b=none:=by
 have e':h.get? b=some o:=PySem.W.of_hideAll (trk h H) e;refine⟨e',?_⟩;cases q:H b with
 |none=>rfl
 |some x=>
  have hm:b∈trk h H:=List.mem_filter.mpr ⟨List.mem_range.mpr (Heap.lt_size e'),by simp [q]⟩
  have z:(zkL h H).get? b=none:=PySem.W.hideAll_none (trk h H) hm;rw [z]at e;cases e
noncomputable def zmR (g h:Heap) (L:Addr):List (Addr×Obj):=(List.range h.objs.size).filterMap fun a=>if a=L∨(g.get? a).isSome=true then none else(h.get? a).map fun o=>(a,o)
noncomputable def rest (g h:Heap) (L d:Addr):List (Addr×Obj):=(zmR g h L).filter fun p=>decide (p.1≠d)
structure Mod (K:PySem.W.Frag) (mg:Str→Option Value) (base:Heap):Prop where
  kin:K.In base
  glob:base.Ns mainGlobals mg
  blt:∃mb,base.Ns builtinsNs mb∧ ∀x:Str,x≠ "__name__" →mb x=bootBuiltins x
  nolimit:base.NoLimit
structure Cx where
  prog:Program
  w:World
  K:PySem.W.Frag
  mg:Str→Option Value
  base:Heap
  A:Around
  N:List Str
  s₀:Shared
  H₀:Hp
  env:Env
  outer:List Env
  stack:List Env
  ex:List Addr
  fn:Str→Bool
  calm:Bool
  pn:List (Addr×Obj)
  xe:Value→Shared→Prop
noncomputable def frs (l:List Env):List Addr:=l.filterMap (·.frame)
noncomputable abbrev Cx.fs (X:Cx):List Addr:=frs X.outer
noncomputable def Vis (sc:Scope) (x:Str):Prop:=sc.names.lookup x=some .local∨sc.names.lookup x=some .cell∨sc.names.lookup x=some .free
noncomputable def Loc (sc:Scope) (x:Str):Prop:=sc.names.lookup x=some .local∨sc.names.lookup x=some .cell
noncomputable def zta (env:Env) (h:Heap) (m:Str→Option Value) (x:Str) (u:Value):Prop:=
 (env.kindOf x=some .local∧m x=some u)∨((env.kindOf x=some .cell∨env.kindOf x=some .free)∧ ∃c,env.cells.lookup x=some c∧h.IsCell c (some u))
structure Cx.Ok (X:Cx):Prop where
  mod:Mod X.K X.mg X.base
  kind:X.env.scope.kind= .function
  glob:X.env.globals=mainGlobals
  blt:X.env.builtins=builtinsNs
  above:X.s₀.heap.objs.size≤X.env.locals
  inj:∀x y c,X.env.cells.lookup x=some c→X.env.cells.lookup y=some c→x=y
  has:∀x,(X.env.kindOf x=some .cell∨X.env.kindOf x=some .free)→ ∃c,X.env.cells.lookup x=some c
  cab:∀x c,X.fn x=true→X.env.cells.lookup x=some c→X.s₀.heap.objs.size≤c
  hd:X.calm=true→X.A.handled=none
  frames:X.A.frames=some X.stack
  stk:X.stack=X.outer∨(X.stack=X.env::X.outer∧X.env.frame=some X.env.locals)
  exf:∀b∈X.ex,b≠X.env.locals∧ ∀x c,X.env.cells.lookup x=some c→c≠b
  bs:∀b o,X.base.get? b=some o→X.s₀.heap.get? b=some o∧X.H₀ b=none
  bsz:X.base.objs.size≤X.s₀.heap.objs.size
  noex:∀b o,X.base.get? b=some o→b∉X.ex
  exfs:∀b∈X.ex,b∉X.fs
  funs:X.s₀.heap.FunFrames X.base X.outer
  frf:∀b∈X.fs,X.H₀ b=none
structure Inv (X:Cx) (pins:List (Addr×Obj)) (σ:List (Option V)) (H:Hp) (s:Shared):Prop where
  ok:X.Ok
  os:s.os=X.s₀.os
  bare:AllBare s.gens
  base:Un X.fs X.ex X.H₀ H X.s₀.heap s.heap
  loc:∃m,s.heap.Ns X.env.locals m∧ ∀(i:Nat) (x:Str) (v:V),X.N[i]? =some x→σ[i]? =some (some v)→Vis X.env.scope x→ ∃u,RelV v u∧zta X.env s.heap m x u
  cell:∀x c,X.env.cells.lookup x=some c→ ∃v,s.heap.IsCell c v
  free:H X.env.locals=none
  freeC:∀x c,X.env.cells.lookup x=some c→H c=none
  pin:∀p∈X.pn++pins,s.heap.get? p.1=some p.2∧H p.1=none∧p.1≠X.env.locals∧p.1∉X.fs∧ ∀v,p.2.data≠ .cell v
  hok:HOk X.prog X.w H s.heap
  len:σ.length=X.N.length
section
variable {X:Cx}{pins:List (Addr×Obj)}{σ:List (Option V)}{H H':Hp}{s:Shared}{h':Heap}
theorem Cx.Ok.nofr (ok:X.Ok) {b:Addr}{o:Obj}(e:X.base.get? b=some o):b∉X.fs:=fun hb=>by
 have:=(ok.funs.mem hb).1;rw [e]at this;cases this
theorem Inv.bs (I:Inv X pins σ H s):∀b o,X.base.get? b=some o→s.heap.get? b=some o∧H b=none:=fun b o e=>
 ⟨I.base.keep b o (I.ok.bs b o e).1 (I.ok.bs b o e).2 (I.ok.nofr e) (I.ok.noex b o e),I.base.free b o (I.ok.bs b o e).1 (I.ok.bs b o e).2 (I.ok.noex b o e)⟩
theorem Inv.bk (I:Inv X pins σ H s):∀b o,X.base.get? b=some o→s.heap.get? b=some o:=fun b o e=>(I.bs b o e).1
theorem Inv.mod (I:Inv X pins σ H s):Mod X.K X.mg X.base:=I.ok.mod
theorem Inv.kIn (I:Inv X pins σ H s):X.K.In s.heap:=I.ok.mod.kin.keeps I.bk
theorem Inv.lt (I:Inv X pins σ H s):X.env.locals<s.heap.objs.size:=let ⟨_,hn,_⟩:=I.loc;hn.lt
theorem Inv.sz (I:Inv X pins σ H s):X.s₀.heap.objs.size≤s.heap.objs.size:=Nat.le_trans I.ok.above (Nat.le_of_lt I.lt)
theorem Inv.nofs (I:Inv X pins σ H s) {a:Addr}(h:s.heap.objs.size≤a):a∉X.fs:=fun hb=>by
 obtain⟨_,o,ho,_⟩:=I.ok.funs.mem hb;exact absurd (Nat.lt_of_lt_of_le (Heap.lt_size ho) (Nat.le_trans I.sz h)) (Nat.lt_irrefl _)
theorem Inv.cne (I:Inv X pins σ H s):∀x c,X.env.cells.lookup x=some c→c≠X.env.locals:=fun x c e z=>by
 obtain⟨v,o,ho,hd⟩:=I.cell x c e;obtain⟨m,⟨o',es,ep,ho',hd',_⟩,_⟩:=I.loc;rw [z,ho']at ho;cases ho;rw [hd']at hd;cases hd
theorem Inv.funs (I:Inv X pins σ H s):s.heap.FunFrames X.base X.outer:=by
 have all:∀(l:List Env),(∀b∈frs l,b∈X.fs)→X.s₀.heap.FunFrames X.base l→s.heap.FunFrames X.base l:=by
  intro l
  induction l with
  |nil=>intro _ _;trivial
  |cons env r ih=>
   intro hs hl;obtain⟨hk,⟨L,o,hf,hn,ho,hd⟩,hr⟩:=hl;have hL:L∈X.fs:=hs L (by unfold frs;rw [List.filterMap_cons,hf];exact List.mem_cons_self);obtain⟨sl,e⟩:=I.base.slot L o ho (I.ok.frf L hL) hL fun z=>I.ok.exfs L z hL;exact⟨hk,⟨L,_,hf,hn,e,hd⟩,ih (fun b hb=>hs b (by unfold frs;rw [List.filterMap_cons,hf];exact List.mem_cons_of_mem _ hb)) hr⟩
 exact all X.outer (fun _ hb=>hb) I.ok.funs
theorem Inv.stack (I:Inv X pins σ H s):s.heap.FunFrames X.base X.stack:=by
 rcases I.ok.stk with e |⟨e,hf⟩
 ·rw [e];exact I.funs
 ·rw [e];obtain⟨m,hn,_⟩:=I.loc;refine .cons (by rw [I.ok.kind];decide) hf hn ?_ I.funs;exact Heap.get?_none_of_le (Nat.le_trans I.ok.bsz I.ok.above)
theorem Inv.stkSub (I:Inv X pins σ H s):∀b∈frs X.stack,b∈X.env.locals::X.fs:=fun b hb=>by
 rcases I.ok.stk with e |⟨e,hf⟩
 ·rw [e]at hb;exact List.mem_cons_of_mem _ hb
 ·rw [e]at hb;unfold frs at hb;rw [List.filterMap_cons,hf]at hb;exact hb
theorem Inv.stkFree (I:Inv X pins σ H s):∀b∈frs X.stack,H b=none:=fun b hb=>by
 rcases List.mem_cons.mp (I.stkSub b hb) with e |hb
 ·rw [e];exact I.free
 ·obtain⟨_,o,ho,_⟩:=I.ok.funs.mem hb;exact I.base.free b o ho (I.ok.frf b hb) fun z=>I.ok.exfs b z hb
theorem Inv.step{g':Array GenState}{t':Nat}{d':Drawn}{ch:List Addr}(I:Inv X pins σ H s)
  (hch:∀b∈ch,(b∈X.ex∨X.s₀.heap.objs.size≤b)∧b≠X.env.locals∧(∀x c,X.env.cells.lookup x=some c→c≠b)∧ ∀p∈X.pn++pins,p.1≠b)
  (keep:∀b o,b≠X.env.locals→b∉X.fs→b∉ch→s.heap.get? b=some o→H b=none→h'.get? b=some o)
  (slot:∀b o,b≠X.env.locals→b∈X.fs→b∉ch→s.heap.get? b=some o→H b=none→ ∃sl,h'.get? b=some { o with slots:=sl }) (free:∀b o,b∉ch→s.heap.get? b=some o→H b=none→H' b=none)
  (there:∀b o,b∉ch→s.heap.get? b=some o→ ∃o',h'.get? b=some o')
  (tups:∀b xs,H b=some (.tup xs)→H' b=some (.tup xs)) (frzs:∀b o u,H b=some (.frz o u)→H' b=some (.frz o u)) (tbls:∀b ps,H b=some (.tbl ps)→ ∃more,H' b=some (.tbl (ps++more)))
  (ns:∀m,s.heap.Ns X.env.locals m→h'.Ns X.env.locals m) (hok:HOk X.prog X.w H' h') (hg:AllBare g') :
  Inv X pins σ H' { s with heap:=h',gens:=g',drawn:=d',toks:=t' }:=by
 have neL:∀b o,X.s₀.heap.get? b=some o→b≠X.env.locals:=fun b o e=>Nat.ne_of_lt (Nat.lt_of_lt_of_le (Heap.lt_size e) I.ok.above);have neC:∀b o,X.s₀.heap.get? b=some o→b∉X.ex→b∉ch:=fun b o e hx hb=>by
  rcases(hch b hb).1 with z |z
  ·exact hx z
  ·exact absurd (Nat.lt_of_lt_of_le (Heap.lt_size e) z) (Nat.lt_irrefl _)
 have cellK:∀x c,X.env.cells.lookup x=some c→ ∀v,s.heap.IsCell c v→h'.IsCell c v:=fun x c e v ⟨o,ho,hd⟩=>by
  have nch:c∉ch:=fun z=>(hch c z).2.2.1 x c e rfl;by_cases hc:c∈X.fs
  ·obtain⟨sl,q⟩:=slot c o (I.cne x c e) hc nch ho (I.freeC x c e);exact⟨_,q,hd⟩
  ·exact⟨o,keep c o (I.cne x c e) hc nch ho (I.freeC x c e),hd⟩
 refine⟨I.ok,I.os,hg,⟨fun b o e n hb hx=>?_,fun b o e n hb hx=>?_,fun b o e n hx=>?_,fun b o e hx=>?_,fun b xs e=>tups b xs (I.base.tups b xs e),fun b o xs e=>frzs b o xs (I.base.frzs b o xs e),fun b ps e=>?_⟩,?_,fun x c e=>?_,?_,fun x c e=>?_,fun p hp=>?_,hok,I.len⟩
 ·exact keep b o (neL b o e) hb (neC b o e hx) (I.base.keep b o e n hb hx) (I.base.free b o e n hx)
 ·obtain⟨sl,e1⟩:=I.base.slot b o e n hb hx;obtain⟨sl',e2⟩:=slot b _ (neL b o e) hb (neC b o e hx) e1 (I.base.free b o e n hx);exact⟨sl',e2⟩
 ·obtain⟨o',e1⟩:=I.base.there b o e hx;exact free b o' (neC b o e hx) e1 (I.base.free b o e n hx)
 ·obtain⟨o',e1⟩:=I.base.there b o e hx;exact there b o' (neC b o e hx) e1
 ·obtain⟨m1,e1⟩:=I.base.tbls b ps e;obtain⟨m2,e2⟩:=tbls b _ e1;exact⟨m1++m2,by rw [e2,Array.append_assoc]⟩
 ·obtain⟨m,hn,hl⟩:=I.loc;refine⟨m,ns m hn,fun i x v e1 e2 e3=>?_⟩;obtain⟨u,r,l⟩:=hl i x v e1 e2 e3;refine⟨u,r,?_⟩;rcases l with l |⟨k,c,e,z⟩
  ·exact .inl l
  ·exact .inr ⟨k,c,e,cellK x c e _ z⟩
 ·obtain⟨v,z⟩:=I.cell x c e;exact⟨v,cellK x c e v z⟩
 ·obtain⟨m,⟨o,_,_,ho,_⟩,_⟩:=I.loc;exact free _ o (fun z=>(hch _ z).2.1 rfl) ho I.free
 ·obtain⟨v,o,ho,hd⟩:=I.cell x c e;exact free c o (fun z=>(hch c z).2.2.1 x c e rfl) ho (I.freeC x c e)
 ·obtain⟨e,n,ne,nf,d⟩:=I.pin p hp;have nch:p.1∉ch:=fun z=>(hch p.1 z).2.2.2 p hp rfl;exact⟨keep p.1 p.2 ne nf nch e n,free p.1 p.2 nch e n,ne,nf,d⟩
theorem Inv.un{t':Nat}(I:Inv X pins σ H s) (u:Un X.fs [] H H' s.heap h') (hok:HOk X.prog X.w H' h'):Inv X pins σ H' { s with heap:=h',toks:=t' }:=by
 obtain⟨m,⟨o,es,ep,ho,r⟩,_⟩:=id I.loc;obtain⟨sl,hL⟩:=u.any ho I.free (by simp);exact I.step (g':=s.gens) (d':=s.drawn) (ch:=[]) (fun _ z=>nomatch z) (fun b o _ hb _ e n=>u.keep b o e n hb (by simp)) (fun b o _ hb _ e n=>u.slot b o e n hb (by simp)) (fun b o _ e n=>u.free b o e n (by simp)) (fun b o _ e=>u.there b o e (by simp)) u.tups u.frzs u.tbls (fun m' hm=>by
  obtain⟨o',es',ep',ho',r'⟩:=hm;rw [ho]at ho';cases ho';exact⟨_,es',ep',hL,r'⟩) hok I.bare
theorem Inv.call{g':Array GenState}{t':Nat}{d':Drawn}{ch:List Addr}(I:Inv X pins σ H s) (u:Un (frs X.stack) ch H H' s.heap h') (hok:HOk X.prog X.w H' h') (hg:AllBare g')
  (hch:∀b∈ch,(b∈X.ex∨X.s₀.heap.objs.size≤b)∧b≠X.env.locals∧(∀x c,X.env.cells.lookup x=some c→c≠b)∧ ∀p∈X.pn++pins,p.1≠b) :
  Inv X pins σ H' { s with heap:=h',gens:=g',drawn:=d',toks:=t' }:=by
 obtain⟨m,⟨o,es,ep,ho,r⟩,_⟩:=id I.loc;obtain⟨sl,hL⟩:=u.any ho I.free fun z=>(hch _ z).2.1 rfl;exact I.step (ch:=ch) hch (fun b o hL hb hc e n=>u.keep b o e n (fun z=>(List.mem_cons.mp (I.stkSub b z)).elim hL hb) hc) (fun b o _ _ hc e n=>u.any e n hc) (fun b o hc e n=>u.free b o e n hc) (fun b o hc e=>u.there b o e hc) u.tups u.frzs u.tbls (fun m' hm=>by
  obtain⟨o',es',ep',ho',r'⟩:=hm;rw [ho]at ho';cases ho';exact⟨_,es',ep',hL,r'⟩) hok hg
theorem Inv.turned{t':Nat}{it:Addr}(I:Inv X pins σ H s) (k:∀b o,b≠it→s.heap.get? b=some o→h'.get? b=some o) (hn:H it=none) (hL:it≠X.env.locals)
  (h1:it∈X.ex∨X.s₀.heap.objs.size≤it) (h2:∀x c,X.env.cells.lookup x=some c→c≠it) (h3:∀p∈X.pn++pins,p.1≠it):Inv X pins σ H { s with heap:=h',toks:=t' }:=by
 have nit:∀b u,H b=some u→b≠it:=fun b u e z=>by rw [z,hn]at e;cases e
 refine I.step (g':=s.gens) (d':=s.drawn) (ch:=[it]) (fun b hb=>?_) (fun b o _ _ hc e _=>k b o (fun z=>hc (by simp [z])) e) (fun b o _ _ hc e _=>⟨o.slots,k b o (fun z=>hc (by simp [z])) e⟩) (fun _ _ _ _ n=>n)
  (fun b o hc e=>⟨o,k b o (fun z=>hc (by simp [z])) e⟩) (fun _ _ e=>e) (fun _ _ _ e=>e) (fun b ps e=>⟨#[],by rw [e];simp⟩) (fun m hm=>?_) (fun b u e=>?_) I.bare
 ·have e:b=it:=by simpa using hb
  subst e;exact⟨h1,hL,h2,h3⟩
 ·obtain⟨o,es,ep,ho,r⟩:=hm;exact⟨o,es,ep,k _ o (Ne.symm hL) ho,r⟩
 ·refine(I.hok b u e).stay (fun c v hc q=>k c v ?_ q) (fun _ q=>q) fun _ _ q=>q;rcases hc with z |z
  ·rw [z];exact nit b u e
  ·exact nit c _ z
theorem Inv.tok (I:Inv X pins σ H s) (t:Nat):Inv X pins σ H { s with toks:=t }:=I.un (h':=s.heap) (t':=t) Un.refl I.hok
theorem Inv.kept{t':Nat}(I:Inv X pins σ H s) (k:∀b u,s.heap.get? b=some u→h'.get? b=some u):Inv X pins σ H { s with heap:=h',toks:=t' }:=I.un (Un.kept k) (I.hok.kept k)
theorem Inv.laid{a:Addr}{o:HO}{t':Nat}(I:Inv X pins σ H s) (k:∀b u,s.heap.get? b=some u→h'.get? b=some u) (hp:s.heap.objs.size≤a) (new:ObjOk X.prog X.w (upd H a o) h' a o) :
  Inv X pins σ (upd H a o) { s with heap:=h',toks:=t' }:=I.un (Un.laid k hp (I.hok.fresh hp)) (I.hok.laid k hp new)
theorem Inv.write{x e:Addr}{o:HO}{t':Nat}(I:Inv X pins σ H s) (mu:Mut (H x)) (he:e=x∨H e=some (.own x)) (k:∀b u,b≠e→s.heap.get? b=some u→h'.get? b=some u) (heo:∃u,h'.get? e=some u)
  (new:ObjOk X.prog X.w (upd H x o) h' x o):Inv X pins σ (upd H x o) { s with heap:=h',toks:=t' }:=I.un (Un.write mu he k heo) (I.hok.write mu he k heo new)
theorem Inv.pins_of{pins':List (Addr×Obj)}(I:Inv X pins σ H s) (h:∀p∈pins',s.heap.get? p.1=some p.2∧H p.1=none∧p.1≠X.env.locals∧p.1∉X.fs∧ ∀v,p.2.data≠ .cell v):Inv X pins' σ H s:=
 ⟨I.ok,I.os,I.bare,I.base,I.loc,I.cell,I.free,I.freeC,fun p hp=>(List.mem_append.mp hp).elim (fun z=>I.pin p (List.mem_append_left _ z)) (h p),I.hok,I.len⟩
theorem zfe{N:List Str}(hN:N.Nodup) {i j:Nat}{x:Str}(a:N[i]? =some x) (b:N[j]? =some x):i=j:=by
 obtain⟨h1,e1⟩:=List.getElem?_eq_some_iff.mp a;obtain⟨h2,e2⟩:=List.getElem?_eq_some_iff.mp b;exact(List.getElem_inj hN).mp (e1.trans e2.symm)
theorem zfQ{M:Model}{A:Around}{E:Value→Shared→Prop}{i:Nat}{x:Str}{v:V}{u:Value}{Q:Unit→Shared→Prop}(I:Inv X pins σ H s) (hN:X.N.Nodup) (hi:X.N[i]? =some x) (hx:Loc X.env.scope x) (r:RelV v u)
  (h:∀s',Inv X pins (σ.set i (some v)) H s'→(∃a,Heap.SameBut a s.heap s'.heap∧(a=X.env.locals∨X.env.cells.lookup x=some a))→Q () s') (hf:X.fn x=true∨X.env.scope.names.lookup x=some .local:=by first |exact .inl rfl |exact .inr rfl |assumption):wpAny M A (storeName X.env x u) Q E s:=by
 obtain⟨m,hn,hl⟩:=id I.loc;have hcls:(X.env.scope.kind == .class || (X.env.scope.kind == .module&&X.env.locals != X.env.globals))=false:=by rw [I.ok.kind];rfl
 have hiσ:i<σ.length:=by rw [I.len];exact(List.getElem?_eq_some_iff.mp hi).1
 have cne:=I.cne;have tracked:∀{a:Addr}{h':Heap},(∃o,s.heap.get? a=some o∧H a=none)→Heap.SameBut a s.heap h'→HOk X.prog X.w H h':=fun {a h'} ha hs b ob e=>by
  obtain⟨_,_,hfree⟩:=ha;refine(I.hok b ob e).stay (fun c w' hc q=>(hs.2 c ?_).trans q) (fun _ q=>q) fun _ _ q=>q;rintro rfl;rcases hc with rfl |hc
  ·rw [hfree]at e;cases e
  ·rw [hfree]at hc;cases hc
 rcases hx with hk |hk
 ·refine wpAny_storeName_local hk hn (fun h' hn' hs=>?_) hcls;obtain⟨oL,_,_,hoL,_⟩:=id hn;refine h _ ⟨I.ok,I.os,I.bare,⟨fun b o e n hb hx=>?_,fun b o e n hb hx=>?_,I.base.free,fun b o e hx=>?_,I.base.tups,I.base.frzs,I.base.tbls⟩,⟨_,hn',fun j y v' e1 e2 e3=>?_⟩,fun y c e=>?_,I.free,I.freeC,fun p hp=>?_,tracked ⟨oL,hoL,I.free⟩ hs,by simpa using I.len⟩ ⟨_,hs, .inl rfl⟩
  ·exact(hs.2 b (Nat.ne_of_lt (Nat.lt_of_lt_of_le (Heap.lt_size e) I.ok.above))).trans (I.base.keep b o e n hb hx)
  ·obtain⟨sl,e1⟩:=I.base.slot b o e n hb hx;exact⟨sl,(hs.2 b (Nat.ne_of_lt (Nat.lt_of_lt_of_le (Heap.lt_size e) I.ok.above))).trans e1⟩
  ·obtain⟨o',e1⟩:=I.base.there b o e hx;exact⟨o',(hs.2 b (Nat.ne_of_lt (Nat.lt_of_lt_of_le (Heap.lt_size e) I.ok.above))).trans e1⟩
  ·by_cases hj:j=i
   ·subst hj;rw [hi]at e1;cases e1;rw [List.getElem?_set_self hiσ]at e2;cases e2;exact⟨u,r, .inl ⟨hk,by simp⟩⟩
   ·rw [List.getElem?_set_ne (Ne.symm hj)]at e2;obtain⟨u',r',q⟩:=hl j y v' e1 e2 e3;refine⟨u',r',?_⟩;rcases q with⟨k,e⟩ |⟨k,c,e,z⟩
    ·refine .inl ⟨k,?_⟩;have:y≠x:=fun e=>hj (zfe hN e1 (e▸hi));simp [this,e]
    ·exact .inr ⟨k,c,e,z.sameBut hs (cne y c e)⟩
  ·obtain⟨w',z⟩:=I.cell y c e;exact⟨w',z.sameBut hs (cne y c e)⟩
  ·obtain⟨e,n,ne,nf,d⟩:=I.pin p hp;exact⟨(hs.2 p.1 ne).trans e,n,ne,nf,d⟩
 ·have hfn:X.fn x=true:=by
   rcases hf with z |z
   ·exact z
   ·rw [z]at hk;cases hk
  obtain⟨c,hc⟩:=I.ok.has x (.inl hk);obtain⟨w',z⟩:=I.cell x c hc;refine wpAny_storeName_cell I.ok.kind hk hc z (fun h' hc' hs=>?_);obtain⟨oc,hoc,hocd⟩:=id z;refine h { s with heap:=h' } ⟨I.ok,I.os,I.bare,⟨fun b o e n hb hx=>?_,fun b o e n hb hx=>?_,I.base.free,fun b o e hx=>?_,I.base.tups,I.base.frzs,I.base.tbls⟩,⟨m,hn.sameBut hs (Ne.symm (cne x c hc)),fun j y v' e1 e2 e3=>?_⟩,fun y c' e=>?_,I.free,I.freeC,fun p hp=>?_,tracked ⟨oc,hoc,I.freeC x c hc⟩ hs,by simpa using I.len⟩ ⟨c,hs, .inr hc⟩
  ·exact(hs.2 b (Nat.ne_of_lt (Nat.lt_of_lt_of_le (Heap.lt_size e) (I.ok.cab x c hfn hc)))).trans (I.base.keep b o e n hb hx)
  ·obtain⟨sl,e1⟩:=I.base.slot b o e n hb hx;exact⟨sl,(hs.2 b (Nat.ne_of_lt (Nat.lt_of_lt_of_le (Heap.lt_size e) (I.ok.cab x c hfn hc)))).trans e1⟩
  ·obtain⟨o',e1⟩:=I.base.there b o e hx;exact⟨o',(hs.2 b (Nat.ne_of_lt (Nat.lt_of_lt_of_le (Heap.lt_size e) (I.ok.cab x c hfn hc)))).trans e1⟩
  ·by_cases hj:j=i
   ·subst hj;rw [hi]at e1;cases e1;rw [List.getElem?_set_self hiσ]at e2;cases e2;exact⟨u,r, .inr ⟨.inl hk,c,hc,hc'⟩⟩
   ·rw [List.getElem?_set_ne (Ne.symm hj)]at e2;obtain⟨u',r',q⟩:=hl j y v' e1 e2 e3;refine⟨u',r',?_⟩;rcases q with q |⟨k,c',e,z'⟩
    ·exact .inl q
    ·refine .inr ⟨k,c',e,z'.sameBut hs ?_⟩;rintro rfl;exact hj (zfe hN e1 (I.ok.inj _ _ _ e hc▸hi))
  ·by_cases hcc:c'=c
   ·subst hcc;exact⟨_,hc'⟩
   ·obtain⟨w2,z2⟩:=I.cell y c' e;exact⟨w2,z2.sameBut hs hcc⟩
  ·obtain⟨e,n,ne,nf,d⟩:=I.pin p hp;refine⟨(hs.2 p.1 ?_).trans e,n,ne,nf,d⟩;intro q;rw [q,hoc]at e;have q':oc=p.2:=Option.some.inj e;exact d w' (by rw [←q'];exact hocd)
theorem zdJ{M:Model}{A:Around}{E:Value→Shared→Prop}{i:Nat}{x:Str}{v:V}{u:Value}{Q:Unit→Shared→Prop}(I:Inv X pins σ H s) (hN:X.N.Nodup) (hi:X.N[i]? =some x) (hx:Loc X.env.scope x) (r:RelV v u)
  (h:∀s',Inv X pins (σ.set i (some v)) H s'→Q () s') (hf:X.fn x=true∨X.env.scope.names.lookup x=some .local:=by first |exact .inl rfl |exact .inr rfl |assumption):wpAny M A (storeName X.env x u) Q E s:=
 zfQ I hN hi hx r (fun s' I' _=>h s' I') hf
theorem Inv.call'{s':Shared}{ch:List Addr}(I:Inv X pins σ H s) (ho:s'.os=s.os) (u:Un (frs X.stack) ch H H' s.heap s'.heap) (hok:HOk X.prog X.w H' s'.heap) (hg:AllBare s'.gens)
  (hch:∀b∈ch,(b∈X.ex∨X.s₀.heap.objs.size≤b)∧b≠X.env.locals∧(∀x c,X.env.cells.lookup x=some c→c≠b)∧ ∀p∈X.pn++pins,p.1≠b):Inv X pins σ H' s':=by
 obtain⟨h',g',d',t',o'⟩:=s';have e:o'=s.os:=ho;subst e;exact I.call (g':=g') (t':=t') (d':=d') u hok hg hch
end
noncomputable abbrev XK:=Value→Option Addr→Hp→Prop
noncomputable abbrev St:=List (Option V)
noncomputable abbrev VK:=V→Hp→Prop
noncomputable abbrev TE:=St→Hp→VK→Prop
noncomputable abbrev TT:=St→Hp→(Bool→Hp→Prop)→Prop
noncomputable abbrev TA:=St→Hp→(List V→Hp→Prop)→Prop
structure Ends where
  nx:St→Hp→Prop
  rt:VK
  bk:St→Hp→Prop:=fun _ _=>False
  ct:St→Hp→Prop:=fun _ _=>False
noncomputable abbrev TS:=Ends→St→Hp→Prop
noncomputable def EP (X:Cx) (pins:List (Addr×Obj)) (σ:St) (Q:VK) (u:Value) (s':Shared):Prop:=∃v H',Inv X pins σ H' s'∧RelV v u∧Q v H'
noncomputable def TP (X:Cx) (pins:List (Addr×Obj)) (σ:St) (Q:Bool→Hp→Prop) (b:Bool) (s':Shared):Prop:=∃H',Inv X pins σ H' s'∧Q b H'
noncomputable def AP (X:Cx) (pins:List (Addr×Obj)) (σ:St) (Q:List V→Hp→Prop) (us:List Value) (s':Shared):Prop:=∃vs H',Inv X pins σ H' s'∧Vals vs us∧Q vs H'
noncomputable def SP (X:Cx) (pins:List (Addr×Obj)) (D:Ends) (f:Flow) (s':Shared):Prop:=
 match f with
 | .next=>∃σ' H',Inv X pins σ' H' s'∧D.nx σ' H'
 | .brk=>∃σ' H',Inv X pins σ' H' s'∧D.bk σ' H'
 | .cont=>∃σ' H',Inv X pins σ' H' s'∧D.ct σ' H'
 | .ret u=>∃v σ' H',Inv X pins σ' H' s'∧RelV v u∧D.rt v H'
noncomputable def PE (X:Cx) (e:Expr) (t:TE):Prop:=
 ∀(pins:List (Addr×Obj)) (s:Shared) (σ:St) (H:Hp) (Q:VK),Inv X pins σ H s→t σ H Q→wpAny (model X.prog X.w) X.A (eval e X.env) (EP X pins σ Q) X.xe s
noncomputable def PT (X:Cx) (e:Expr) (t:TT):Prop:=
 ∀(pins:List (Addr×Obj)) (s:Shared) (σ:St) (H:Hp) (Q:Bool→Hp→Prop),Inv X pins σ H s→t σ H Q→wpAny (model X.prog X.w) X.A (isTrue e X.env (eval e X.env)) (TP X pins σ Q) X.xe s
noncomputable def PW (X:Cx) (e:Expr) (t:TT):Prop:=
 ∀(whole:Sem Value) (pins:List (Addr×Obj)) (s:Shared) (σ:St) (H:Hp) (Q:Bool→Hp→Prop),Inv X pins σ H s→t σ H Q→wpAny (model X.prog X.w) X.A (isTrue e X.env whole) (TP X pins σ Q) X.xe s
theorem PW.pt{X:Cx}{e:Expr}{t:TT}(h:PW X e t):PT X e t:=h _
noncomputable def PA (X:Cx) (es:List Expr) (t:TA):Prop:=
 ∀(pos:Pos) (pins:List (Addr×Obj)) (s:Shared) (σ:St) (H:Hp) (Q:List V→Hp→Prop),Inv X pins σ H s→t σ H Q→wpAny (model X.prog X.w) X.A (spliced (backTo pos (starEach es X.env))) (AP X pins σ Q) X.xe s
noncomputable def PS (X:Cx) (st:Stmt) (t:TS):Prop:=
 ∀(pins:List (Addr×Obj)) (s:Shared) (σ:St) (H:Hp) (D:Ends),Inv X pins σ H s→t D σ H→wpAny (model X.prog X.w) X.A (exec st X.env) (SP X pins D) X.xe s
noncomputable def PSs (X:Cx) (st:List Stmt) (t:TS):Prop:=
 ∀(pins:List (Addr×Obj)) (s:Shared) (σ:St) (H:Hp) (D:Ends),Inv X pins σ H s→t D σ H→wpAny (model X.prog X.w) X.A (execs st X.env) (SP X pins D) X.xe s
theorem thn{α:Type}{t:Sem α}{Q Q':α→Shared→Prop}{M:Model}{A:Around}{E:Value→Shared→Prop}{s:Shared}(h:wpAny M A t Q E s) (hQ:∀a s,Q a s→Q' a s):wpAny M A t Q' E s:=wpAny_mono h hQ fun _ _ x=>x
section
variable {X:Cx}
noncomputable def ztw (i:Nat):TE:=fun σ H Q=>∃v,σ[i]? =some (some v)∧Q v H
noncomputable def tC (v:V):TE:=fun _ H Q=>Q v H
theorem ziU{i:Nat}{x:Str}{pos:Pos}(hN:X.N[i]? =some x) (hv:Vis X.env.scope x) (hd:(x == ("__debug__" :Str))=false:=by decide) (hcd:(x == ("__classdict__" :Str))=false:=by decide):PE X (.Name x pos) (ztw i):=by
 intro pins s σ H Q I h;obtain⟨v,e,h⟩:=h;obtain⟨m,hn,hl⟩:=I.loc;obtain⟨u,r,l⟩:=hl i x v hN e hv;have fin:EP X pins σ Q u s:=⟨v,H,I,r,h⟩;rcases l with⟨hk,hm⟩ |⟨hk,c,hc,hcell⟩
 ·exact wpAny_Name (wpAny_loadName_local I.ok.kind hk hn hm fin) hd
 ·rcases hk with hk |hk
  ·exact wpAny_Name (wpAny_loadName_cell I.ok.kind hk hc hcell fin) hd
  ·exact wpAny_Name (wpAny_loadName_free I.ok.kind hk hc hcell fin hcd) hd
theorem zoO{i j pos}:PE X (.Constant (.int i) j pos) (tC (.int i)):=fun _ _ _ H _ I h=>wpAny_Constant_int ⟨.int i,H,I.tok _,⟨_,rfl⟩,h⟩
theorem zrF{b j pos}:PE X (.Constant (.bool b) j pos) (tC (.bl b)):=fun _ _ _ H _ I h=>Constant_bool ⟨.bl b,H,I,rfl,h⟩
theorem zoJ{j pos}:PE X (.Constant .none j pos) (tC .non):=fun _ _ _ H _ I h=>Constant_none ⟨.non,H,I,rfl,h⟩
theorem zqC{x j pos}:PE X (.Constant (.str x) j pos) (tC (.str x)):=fun _ _ _ H _ I h=>Calls.Constant_str ⟨.str x,H,I.tok _,⟨_,rfl⟩,h⟩
noncomputable def Gl (X:Cx) (x:Str):Prop:=X.env.kindOf x=some .globalImplicit
theorem zel{E:Value→Shared→Prop}{pins:List (Addr×Obj)}{s:Shared}{σ:St}{H:Hp}{x:Str}{u:Value}{pos:Pos}{Q:Value→Shared→Prop}(I:Inv X pins σ H s) (hg:Gl X x) (hm:X.mg x=some u) (h:Q u s)
  (hd:(x == ("__debug__" :Str))=false:=by decide):wpAny (model X.prog X.w) X.A (eval (.Name x pos) X.env) Q E s:=
 Calls.Name_function_global I.ok.kind hg (Calls.loadGlobal_global (by rw [I.ok.glob];exact I.mod.glob.keeps I.bk) hm h) hd
theorem zgc{E:Value→Shared→Prop}{pins:List (Addr×Obj)}{s:Shared}{σ:St}{H:Hp}{x:Str}{u:Value}{pos:Pos}{Q:Value→Shared→Prop}(I:Inv X pins σ H s) (hg:Gl X x) (hm:X.mg x=none) (hv:bootBuiltins x=some u) (h:Q u s)
  (hn:x≠ "__name__" :=by decide) (hd:(x == ("__debug__" :Str))=false:=by decide):wpAny (model X.prog X.w) X.A (eval (.Name x pos) X.env) Q E s:=by
 obtain⟨mb,h1,h2⟩:=I.mod.blt;exact Calls.Name_function_global I.ok.kind hg (Calls.loadGlobal_builtin (by rw [I.ok.glob];exact I.mod.glob.keeps I.bk) hm (by rw [I.ok.blt];exact h1.keeps I.bk) ((h2 x hn).trans hv) h) hd
theorem zjf{x:Str}{v:V}{u:Value}{pos:Pos}(hg:Gl X x) (hm:X.mg x=some u) (r:RelV v u) (hd:(x == ("__debug__" :Str))=false:=by decide):PE X (.Name x pos) (tC v):=
 fun _ _ _ H _ I h=>zel I hg hm ⟨v,H,I,r,h⟩ hd
theorem zjY{x:Str}{v:V}{u:Value}{pos:Pos}(hg:Gl X x) (hm:X.mg x=none) (hv:bootBuiltins x=some u) (r:RelV v u) (hn:x≠ "__name__" :=by decide) (hd:(x == ("__debug__" :Str))=false:=by decide):PE X (.Name x pos) (tC v):=
 fun _ _ _ H _ I h=>zgc I hg hm hv ⟨v,H,I,r,h⟩ hn hd
variable {a b:Expr}{ta tb:TE}{pos:Pos}
variable {tA tB':TT}{rest:List Expr}
noncomputable def ztk (t u:TT):TT:=fun σ H Q=>t σ H fun c H1=>if c=true then u σ H1 Q else Q false H1
noncomputable def tOr (t u:TT):TT:=fun σ H Q=>t σ H fun c H1=>if c=true then Q true H1 else u σ H1 Q
noncomputable def ztr (t:TT):TT:=fun σ H Q=>t σ H fun c H1=>Q (!c) H1
theorem znw (ha:PT X a tA):PW X (.BoolOp .And [a] pos) tA:=by
 intro wh pins s σ H Q I h;refine isTrue_and (thn (ha pins s σ H Q I h) fun c s1 e=>?_);cases c with
 |true=>exact isTrue_and_nil e
 |false=>exact e
theorem zpr (ha:PT X a tA):PW X (.BoolOp .Or [a] pos) tA:=by
 intro wh pins s σ H Q I h;refine isTrue_or (thn (ha pins s σ H Q I h) fun c s1 e=>?_);cases c with
 |false=>exact isTrue_or_nil e
 |true=>exact e
theorem zos (ha:PT X a tA) (hb:PW X (.BoolOp .And (b::rest) pos) tB'):PW X (.BoolOp .And (a::b::rest) pos) (ztk tA tB'):=by
 intro wh pins s σ H Q I h;refine isTrue_and (thn (ha pins s σ H _ I h) fun c s1 ⟨H1,I1,q1⟩=>?_);cases c with
 |true=>exact hb wh pins s1 σ H1 Q I1 q1
 |false=>exact⟨H1,I1,q1⟩
theorem zrB (ha:PT X a tA) (hb:PW X (.BoolOp .Or (b::rest) pos) tB'):PW X (.BoolOp .Or (a::b::rest) pos) (tOr tA tB'):=by
 intro wh pins s σ H Q I h;refine isTrue_or (thn (ha pins s σ H _ I h) fun c s1 ⟨H1,I1,q1⟩=>?_);cases c with
 |true=>exact⟨H1,I1,q1⟩
 |false=>exact hb wh pins s1 σ H1 Q I1 q1
theorem zpg (ha:PT X a tA):PT X (.UnaryOp .Not a pos) (ztr tA):=by
 intro pins s σ H Q I h;exact isTrue_not (ha pins s σ H (fun c H1=>Q (!c) H1) I h)
noncomputable def zrh (ta tb:TE):TE:=fun σ H Q=>ta σ H fun x H1=>∃c,x= .bl c∧if c=true then tb σ H1 Q else Q (.bl false) H1
noncomputable def zrI (ta:TE):TE:=fun σ H Q=>ta σ H fun x H1=>∃c,x= .bl c∧Q (.bl (!c)) H1
theorem zqj{op}{t:TE}(h:PE X a t):PE X (.BoolOp op [a] pos) t:=fun pins s σ H Q I hw=>BoolOp_one (h pins s σ H Q I hw)
theorem zpZ (ha:PE X a ta) (hb:PE X (.BoolOp .And (b::rest) pos) tb):PE X (.BoolOp .And (a::b::rest) pos) (zrh ta tb):=by
 intro pins s σ H Q I h;refine BoolOp_and (thn (ha pins s σ H _ I h) fun v s1 ⟨x,H1,I1,r1,q1⟩=>?_);obtain⟨c,rfl,q1⟩:=q1;cases r1;refine wpAny_truthy_bool ?_;cases c with
 |true=>exact hb pins s1 σ H1 Q I1 q1
 |false=>exact⟨.bl false,H1,I1,rfl,q1⟩
theorem zoq (ha:PE X a ta):PE X (.UnaryOp .Not a pos) (zrI ta):=by
 intro pins s σ H Q I h;refine UnaryOp_ (thn (ha pins s σ H _ I h) fun v s1 ⟨x,H1,I1,r1,q1⟩=>?_);obtain⟨c,rfl,q1⟩:=q1;cases r1;exact not_of (wpAny_truthy_bool ⟨.bl (!c),H1,I1,rfl,q1⟩)
noncomputable def tIf (t:TT) (ta tb:TE):TE:=fun σ H Q=>t σ H fun c H1=>if c=true then ta σ H1 Q else tb σ H1 Q
theorem zkt{c:Expr}(hc:PT X c tA) (ha:PE X a ta) (hb:PE X b tb):PE X (.IfExp c a b pos) (tIf tA ta tb):=by
 intro pins s σ H Q I h;refine wpAny_IfExp (thn (hc pins s σ H _ I h) fun d s1 ⟨H1,I1,q1⟩=>?_);cases d with
 |true=>exact ha pins s1 σ H1 Q I1 q1
 |false=>exact hb pins s1 σ H1 Q I1 q1
end
noncomputable def SqL (K:PySem.W.Frag) (H:Hp) (a:Addr) (xs:List V):Prop:=
 Rd H a (.lst xs)∨
  ∃(o:Obj) (its:Array Value) (n:Nat),K.lookup a=some o∧o.cls= .type "list" ∧o.dict=none∧o.data= .seq its n∧its.size≤sizeLine∧Vals xs its.toList
noncomputable def SqT (K:PySem.W.Frag) (H:Hp) (a:Addr) (xs:List V):Prop:=
 Rd H a (.tup xs)∨
  ∃(o:Obj) (its:Array Value) (n:Nat),K.lookup a=some o∧o.cls= .type "tuple" ∧o.data= .seq its n∧its.size≤sizeLine∧Vals xs its.toList
noncomputable def ztg:Value→Option V
 | .none=>some .non
 | .bool b=>some (.bl b)
 | .int i _=>some (.int i)
 | .str x _=>some (.str x)
 | .bytes b _=>some (.byt b)
 | .float b _=>some (.flt b)
 | .ref a=>some (.ref a)
 | .type n=>some (.ty n)
 |_=>none
theorem RelV.abs{x:V}{u:Value}(r:RelV x u):ztg u=some x:=by
 cases x with
 |non=>cases r;rfl
 |bl _=>cases r;rfl
 |int _=>obtain⟨t,rfl⟩:=r;rfl
 |str _=>obtain⟨t,rfl⟩:=r;rfl
 |byt _=>obtain⟨t,rfl⟩:=r;rfl
 |flt _=>obtain⟨t,rfl⟩:=r;rfl
 |ref _=>cases r;rfl
 |ty _=>cases r;rfl
theorem RelV.inj{x y:V}{u:Value}(r:RelV x u) (q:RelV y u):x=y:=Option.some.inj (r.abs.symm.trans q.abs)
theorem Vals.inj:∀{xs ys:List V}{us:List Value},Vals xs us→Vals ys us→xs=ys
 |_,_,_, .nil, .nil=>rfl
 |_,_,_, .cons r t, .cons r' t'=>by rw [r.inj r',Vals.inj t t']
section
variable {X:Cx}{pins:List (Addr×Obj)}{σ:St}{H:Hp}{s:Shared}{a:Addr}{xs ys:List V}
theorem SqL.of{K:PySem.W.Frag}(h:H a=some (.lst xs)):SqL K H a xs:= .inl (.inl h)
theorem SqT.of{K:PySem.W.Frag}(h:H a=some (.tup xs)):SqT K H a xs:= .inl (.inl h)
theorem Inv.list (I:Inv X pins σ H s) (h:SqL X.K H a xs):∃its:List Value,Vals xs its∧PlainL s.heap a its.toArray∧xs.length≤sizeLine:=by
 rcases h with h |⟨o,its,n,hk,hc,hd,hs,hz,r⟩
 ·obtain⟨z,its,n,r,e⟩:=h.ok I.hok;exact⟨its,r,⟨_,n,e,rfl,rfl,rfl⟩,z⟩
 ·refine⟨its.toList,r,⟨o,n,I.kIn a o hk,hc,hd,by simpa using hs⟩,?_⟩
  have e:=r.length;simp only[Array.length_toList]at e;omega
theorem Inv.tuple (I:Inv X pins σ H s) (h:SqT X.K H a xs):∃its:List Value,Vals xs its∧IsTup s.heap a its.toArray∧xs.length≤sizeLine:=by
 rcases h with h |⟨o,its,n,hk,hc,hs,hz,r⟩
 ·obtain⟨z,its,r,p⟩:=h.ok I.hok;exact⟨its,r,p,z⟩
 ·refine⟨its.toList,r,⟨o,I.kIn a o hk,hc,n,by simpa using hs⟩,?_⟩
  have e:=r.length;simp only[Array.length_toList]at e;omega
theorem Inv.list_inj (I:Inv X pins σ H s) (h:SqL X.K H a xs) (h':SqL X.K H a ys):xs=ys:=by
 obtain⟨its,r,⟨o,n,e,_,_,d⟩,_⟩:=I.list h;obtain⟨its',r',⟨o',n',e',_,_,d'⟩,_⟩:=I.list h';rw [e]at e';cases e';rw [d]at d';injection d' with d1 _;have:its=its':=by simpa using congrArg Array.toList d1
 subst this;exact r.inj r'
theorem Inv.tuple_inj (I:Inv X pins σ H s) (h:SqT X.K H a xs) (h':SqT X.K H a ys):xs=ys:=by
 obtain⟨its,r,⟨o,e,_,n,d⟩,_⟩:=I.tuple h;obtain⟨its',r',⟨o',e',_,n',d'⟩,_⟩:=I.tuple h';rw [e]at e';cases e';rw [d]at d';injection d' with d1 _;have:its=its':=by simpa using congrArg Array.toList d1
 subst this;exact r.inj r'
end
noncomputable abbrev Cx.wish (X:Cx) (E:Value→Shared→Prop):Cx:={ X with xe:=E }
noncomputable abbrev Cx.nox (X:Cx):Cx:=X.wish fun _ _=>False
theorem Cx.Ok.wish{X:Cx}(ok:X.Ok) (E:Value→Shared→Prop):(X.wish E).Ok:=
 ⟨ok.mod,ok.kind,ok.glob,ok.blt,ok.above,ok.inj,ok.has,ok.cab,ok.hd,ok.frames,ok.stk,ok.exf,ok.bs,ok.bsz,ok.noex,ok.exfs,ok.funs,ok.frf⟩
theorem Cx.Ok.unwish{X:Cx}{E:Value→Shared→Prop}(ok:(X.wish E).Ok):X.Ok:=
 ⟨ok.mod,ok.kind,ok.glob,ok.blt,ok.above,ok.inj,ok.has,ok.cab,ok.hd,ok.frames,ok.stk,ok.exf,ok.bs,ok.bsz,ok.noex,ok.exfs,ok.funs,ok.frf⟩
section
variable {X:Cx}{pins:List (Addr×Obj)}{σ:St}{H:Hp}{s:Shared}{E:Value→Shared→Prop}
theorem Inv.wish (I:Inv X pins σ H s) (E:Value→Shared→Prop):Inv (X.wish E) pins σ H s:=⟨I.ok.wish E,I.os,I.bare,I.base,I.loc,I.cell,I.free,I.freeC,I.pin,I.hok,I.len⟩
theorem Inv.unwish (I:Inv (X.wish E) pins σ H s):Inv X pins σ H s:=⟨I.ok.unwish,I.os,I.bare,I.base,I.loc,I.cell,I.free,I.freeC,I.pin,I.hok,I.len⟩
theorem SP.unwish{D:Ends}{f:Flow}{s':Shared}(h:SP (X.wish E) pins D f s'):SP X pins D f s':=by
 cases f with
 |next=>obtain⟨σ',H',I,q⟩:=h;exact⟨σ',H',I.unwish,q⟩
 |brk=>obtain⟨σ',H',I,q⟩:=h;exact⟨σ',H',I.unwish,q⟩
 |cont=>obtain⟨σ',H',I,q⟩:=h;exact⟨σ',H',I.unwish,q⟩
 |ret u=>obtain⟨v,σ',H',I,r,q⟩:=h;exact⟨v,σ',H',I.unwish,r,q⟩
theorem PE.nox{e:Expr}{t:TE}(h:PE X.nox e t):PE X e t:=fun pins s σ H Q I hw=>
 wpAny_mono (h pins s σ H Q (I.wish _) hw) (fun _ _ ⟨v,H',I',r,q⟩=>⟨v,H',I'.unwish,r,q⟩) fun _ _ z=>False.elim z
end
section
variable {X:Cx}{st:Stmt}{rest:List Stmt}{t u:TS}{e:Expr}{te:TE}{pos:Pos}
noncomputable def zri:TS:=fun D σ H=>D.nx σ H
noncomputable def zts (t u:TS):TS:=fun D σ H=>t { D with nx:=u D } σ H
theorem pss_nil:PSs X [] zri:=fun _ _ σ H _ I h=>wpAny_execs_nil ⟨σ,H,I,h⟩
theorem zlR (h1:PS X st t) (h2:PSs X rest u):PSs X (st::rest) (zts t u):=by
 intro pins s σ H D I h;refine wpAny_execs_cons (thn (h1 pins s σ H { D with nx:=u D } I h) fun f s1 q=>?_);cases f with
 |next=>
  obtain⟨σ',H',I',q⟩:=q;exact h2 pins s1 σ' H' D I' q
 |ret v=>exact q
 |brk=>exact q
 |cont=>exact q
theorem zkr (h1:PS X st t):PSs X [st] t:=by
 intro pins s σ H D I h;refine wpAny_execs_cons (thn (h1 pins s σ H D I h) fun f s1 q=>?_);cases f with
 |next=>exact wpAny_execs_nil q
 |ret v=>exact q
 |brk=>exact q
 |cont=>exact q
theorem Inv.quiet{pins:List (Addr×Obj)}{σ:St}{H:Hp}{s:Shared}(I:Inv X pins σ H s):interactive X.env=false:=by simp [interactive,I.ok.kind]
noncomputable def zru (te:TE):TS:=fun D σ H=>te σ H fun _ H1=>D.nx σ H1
theorem zjI (he:PE X e te) (hs:swapsWith e none pos.line X.env=pure false:=by rfl):PS X (.Expr e pos) (zru te):=by
 intro pins s σ H D I h;exact wpAny_Expr_any (thn (he pins s σ H _ I h) fun v s1 ⟨x,H1,I1,r1,q1⟩=>⟨σ,H1,I1,q1⟩) I.quiet hs
noncomputable def ztB (te:TE):TS:=fun D σ H=>te σ H D.rt
theorem zqM (he:PE X e te):PS X (.Return (some e) pos) (ztB te):=by
 intro pins s σ H D I h;exact wpAny_Return_some (thn (he pins s σ H _ I h) fun v s1 ⟨x,H1,I1,r1,q1⟩=>⟨x,σ,H1,I1,r1,q1⟩)
noncomputable def zsX (c:TT) (t u:TS):TS:=fun D σ H=>c σ H fun b H1=>if b=true then t D σ H1 else u D σ H1
theorem zrA{c:Expr}{a b:List Stmt}{tc:TT}(hc:PT X c tc) (ha:PSs X a t) (hb:PSs X b u):PS X (.If c a b pos) (zsX tc t u):=by
 intro pins s σ H D I h;refine wpAny_If (thn (hc pins s σ H _ I h) fun d s1 ⟨H1,I1,q1⟩=>?_);cases d with
 |true=>exact ha pins s1 σ H1 D I1 q1
 |false=>exact hb pins s1 σ H1 D I1 q1
end
noncomputable abbrev TG:=V→St→Hp→(St→Hp→Prop)→Prop
noncomputable abbrev TGs:=List V→St→Hp→(St→Hp→Prop)→Prop
noncomputable def PG (X:Cx) (target:Expr) (t:TG):Prop:=
 ∀(pins:List (Addr×Obj)) (s:Shared) (σ:St) (H:Hp) (v:V) (u:Value) (Q:St→Hp→Prop),Inv X pins σ H s→RelV v u→t v σ H Q→
  wpAny (model X.prog X.w) X.A (assign target X.env u) (fun _ s'=>∃σ' H',Inv X pins σ' H' s'∧Q σ' H') X.xe s
noncomputable def PGs (X:Cx) (ts:List Expr) (t:TGs):Prop:=
 ∀(pins:List (Addr×Obj)) (s:Shared) (σ:St) (H:Hp) (vs:List V) (us:List Value) (Q:St→Hp→Prop),Inv X pins σ H s→Vals vs us→t vs σ H Q→
  wpAny (model X.prog X.w) X.A (assignInOrder ((assignEach ts X.env).map (·.2)) us) (fun _ s'=>∃σ' H',Inv X pins σ' H' s'∧Q σ' H') X.xe s
noncomputable abbrev TIp:=V→V→Hp→VK→Prop
noncomputable def PIp (X:Cx) (op:Operator) (t:TIp):Prop:=
 ∀(pins:List (Addr×Obj)) (s:Shared) (σ:St) (H:Hp) (x y:V) (v u:Value) (Q:VK),Inv X pins σ H s→RelV x v→RelV y u→t x y H Q→
  wpAny (model X.prog X.w) X.A (inplaceOp op v u) (EP X pins σ Q) X.xe s
section
variable {X:Cx}{pos:Pos}
noncomputable def znN (i:Nat):TG:=fun v σ H Q=>Q (σ.set i (some v)) H
theorem znr{i:Nat}{x:Str}(hN:X.N.Nodup) (hi:X.N[i]? =some x) (hx:Loc X.env.scope x) (hf:X.fn x=true∨X.env.scope.names.lookup x=some .local:=by first |exact .inl rfl |exact .inr rfl |assumption):PG X (.Name x pos) (znN i):=by
 intro pins s σ H v u Q I r h;exact wpAny_assign_Name (zdJ I hN hi hx r (fun s' I'=>⟨_,H,I',h⟩) hf)
noncomputable def zsS:TGs:=fun vs σ H Q=>vs=[]∧Q σ H
noncomputable def zqX (t:TG) (u:TGs):TGs:=fun vs σ H Q=>∃v r,vs=v::r∧t v σ H fun σ' H'=>u r σ' H' Q
theorem znd:PGs X [] zsS:=by
 intro pins s σ H vs us Q I r h;obtain⟨e,h⟩:=h;subst e;cases r;exact assignInOrder_nil ⟨σ,H,I,h⟩
theorem zlK{e:Expr}{es:List Expr}{t:TG}{u:TGs}(h1:PG X e t) (h2:PGs X es u)
  (hs:(assignEach (e::es) X.env).map (·.2)=assign e X.env::(assignEach es X.env).map (·.2):=by rfl):PGs X (e::es) (zqX t u):=by
 intro pins s σ H vs us Q I r h;obtain⟨v,vr,e1,h⟩:=h;subst e1;cases r with
 |cons r rr=>
  rw [hs];refine assignInOrder_cons (thn (h1 pins s σ H _ _ _ I r h) fun _ s1 ⟨σ1,H1,I1,q1⟩=>?_);exact h2 pins s1 σ1 H1 _ _ Q I1 rr q1
noncomputable def zsZ (K:PySem.W.Frag) (n:Nat) (t:TGs):TG:=fun v σ H Q=>∃a xs,v= .ref a∧SqT K H a xs∧xs.length=n∧t xs σ H Q
theorem zpT{es:List Expr}{k:Nat}{t:TGs}{n:Nat}(hc:X.calm=true) (h:PGs X es t)
  (hn:(assignEach es X.env).length=n:=by rfl) (hst:(assignEach es X.env).findIdx? (·.1)=none:=by rfl):PG X (.Tuple es k pos) (zsZ X.K n t):=by
 intro pins s σ H v u Q I r hw;obtain⟨a,xs,e1,hq,hl,hw⟩:=hw;subst e1;cases r;obtain⟨its,rv,ht,hz⟩:=I.tuple hq;refine assign_Tuple_tuple (I.ok.hd hc) ht (by simp [hn,←hl,rv.length]) hst fun h' hx=>?_;have I1:Inv X pins σ H { s with heap:=h' }:=I.kept (t':=s.toks) fun b o e=>hx b o (Nat.ne_of_lt (Heap.lt_size e)) e;exact h pins _ σ H xs _ Q I1 (by simpa using rv) hw
noncomputable def zsF (te:TE) (g:TG):TS:=fun D σ H=>te σ H fun x H1=>g x σ H1 D.nx
theorem zoW{i:Nat}{x:Str}{e:Expr}{te:TE}{pos':Pos}(hN:X.N.Nodup) (hi:X.N[i]? =some x) (hx:Loc X.env.scope x) (he:PE X e te) (hs:swapsWith e (some (.Name x pos')) pos.line X.env=pure false:=by rfl) (hf:X.fn x=true∨X.env.scope.names.lookup x=some .local:=by first |exact .inl rfl |exact .inr rfl |assumption) :
  PS X (.Assign [.Name x pos'] e pos) (zsF te (znN i)):=by
 intro pins s σ H D I h;refine wpAny_Assign_Name (thn (he pins s σ H _ I h) fun v s1 ⟨y,H1,I1,r1,q1⟩=>?_) hs;exact zdJ I1 hN hi hx r1 (fun s2 I2=>⟨_,H1,I2,q1⟩) hf
noncomputable def ztA (i:Nat) (te:TE) (ti:TIp):TS:=fun D σ H=>∃x,σ[i]? =some (some x)∧te σ H fun y H1=>ti x y H1 fun z H2=>D.nx (σ.set i (some z)) H2
theorem zpP{i:Nat}{x:Str}{e:Expr}{te:TE}{op:Operator}{ti:TIp}{pos':Pos}(hN:X.N.Nodup) (hi:X.N[i]? =some x) (hx:Loc X.env.scope x) (he:PE X e te) (ho:PIp X op ti) (hf:X.fn x=true∨X.env.scope.names.lookup x=some .local:=by first |exact .inl rfl |exact .inr rfl |assumption) :
  PS X (.AugAssign (.Name x pos') op e pos) (ztA i te ti):=by
 intro pins s σ H D I h;obtain⟨v,e1,h⟩:=h;obtain⟨m,hn,hl⟩:=I.loc;have vis:Vis X.env.scope x:=by rcases hx with k |k;exact .inl k;exact .inr (.inl k)
 obtain⟨u,r,l⟩:=hl i x v hi e1 vis;refine wpAny_AugAssign_Name ?_;have go:wpAny (model X.prog X.w) X.A (eval e X.env) (fun w s₂=>wpAny (model X.prog X.w) X.A (inplaceOp op u w) (fun r s₃=>wpAny (model X.prog X.w) X.A (storeName X.env x r) (fun _=>SP X pins D .next) X.xe s₃) X.xe s₂) X.xe s:=by
  refine thn (he pins s σ H _ I h) fun w s1 ⟨y,H1,I1,r1,q1⟩=>?_;refine thn (ho pins s1 σ H1 v y u w _ I1 r r1 q1) fun z s2 ⟨zv,H2,I2,r2,q2⟩=>?_;exact zdJ I2 hN hi hx r2 (fun s3 I3=>⟨_,H2,I3,q2⟩) hf
 rcases l with⟨hk,hm⟩ |⟨hk,c,hc,hcell⟩
 ·exact wpAny_loadName_local I.ok.kind hk hn hm go
 ·rcases hk with hk |hk
  ·exact wpAny_loadName_cell I.ok.kind hk hc hcell go
  ·rcases hx with k |k
   ·have:X.env.scope.names.lookup x=some .free:=hk;rw [k]at this;cases this
   ·have:X.env.scope.names.lookup x=some .free:=hk;rw [k]at this;cases this
noncomputable def ipI (f:Int→Int→Int):TIp:=fun x y H Q=>∃i j,x= .int i∧y= .int j∧Q (.int (f i j)) H
theorem zqw:PIp X .Add (ipI fun i j=>i+j):=by
 intro pins s σ H x y v u Q I r1 r2 h;obtain⟨i,j,e1,e2,q⟩:=h;subst e1;subst e2;obtain⟨t,rfl⟩:=r1;obtain⟨t',rfl⟩:=r2;exact iadd_int ⟨.int _,H,I.tok _,⟨_,rfl⟩,q⟩
end
section
variable {X:Cx}{pos:Pos}
noncomputable def zqg (c:TT) (tb:TS):TS:=fun D σ H=>∃W:Nat→St→Hp→Prop,(∃m,W m σ H)∧ ∀m σ H,W m σ H→
 c σ H fun b H1=>if b=true then ∃N:St→Hp→Prop,(∀σ' H',N σ' H'→ ∃m',m'<m∧W m' σ' H')∧tb { D with nx:=N,ct:=N,bk:=D.nx } σ H1 else D.nx σ H1
theorem zkT{c:Expr}{body:List Stmt}{tc:TT}{tb:TS}(hp:PassesOwn (model X.prog X.w) X.A X.env X.xe) (hc:PT X c tc) (hb:PSs X body tb):PS X (.While c body [] pos) (zqg tc tb):=by
 intro pins s σ H D I h;obtain⟨W,⟨m0,w0⟩,turn⟩:=h;refine wpAny_While (codeAny_whileLoop (fun n s'=>∃σ' H',Inv X pins σ' H' s'∧W n σ' H') ?_ m0 ⟨σ,H,I,w0⟩);rintro n s1 ⟨σ1,H1,I1,w1⟩;refine wpAny_passesOwn hp (thn (hc pins s1 σ1 H1 _ I1 (turn n σ1 H1 w1)) fun b s2 ⟨H2,I2,q2⟩=>?_);cases b with
 |true=>
  obtain⟨N,hN,q2⟩:=q2;rw [if_pos rfl];refine wpAny_passesOwn hp (thn (hb pins s2 σ1 H2 _ I2 q2) fun f s3 q3=>?_);cases f with
  |next=>
   obtain⟨σ3,H3,I3,n3⟩:=q3;obtain⟨m',hm,w3⟩:=hN σ3 H3 n3;exact⟨m',hm,σ3,H3,I3,w3⟩
  |cont=>
   obtain⟨σ3,H3,I3,n3⟩:=q3;obtain⟨m',hm,w3⟩:=hN σ3 H3 n3;exact⟨m',hm,σ3,H3,I3,w3⟩
  |brk=>exact q3
  |ret v=>exact q3
 |false=>
  rw [if_neg Bool.false_ne_true];exact wpAny_execs_nil ⟨σ1,H2,I2,q2⟩
end
structure It where
  go:Nat→Hp→Prop
  yld:Nat→Hp→V→Hp→Prop
  stop:Nat→Hp→Prop
noncomputable def zfu (X:Cx) (pins:List (Addr×Obj)) (H:Hp) (b:Addr):Prop:=
 H b=none∧b≠X.env.locals∧b∉X.fs∧(b∈X.ex∨X.s₀.heap.objs.size≤b)∧(∀x c,X.env.cells.lookup x=some c→c≠b)∧ ∀p∈X.pn++pins,p.1≠b
theorem Inv.fpOk{X:Cx}{pins:List (Addr×Obj)}{σ:St}{H H':Hp}{s:Shared}{b:Addr}(I:Inv X pins σ H s) (hb:s.heap.objs.size≤b) (hn:H' b=none):zfu X pins H' b:=by
 refine⟨hn,Nat.ne_of_gt (Nat.lt_of_lt_of_le I.lt hb),I.nofs hb, .inr (Nat.le_trans I.sz hb),fun x c e z=>?_,fun p hp z=>?_⟩
 ·obtain⟨v,q⟩:=I.cell x c e;exact absurd (Nat.lt_of_lt_of_le q.lt (by rw [z];exact hb)) (Nat.lt_irrefl _)
 ·exact absurd (Nat.lt_of_lt_of_le (Heap.lt_size (I.pin p hp).1) (by rw [z];exact hb)) (Nat.lt_irrefl _)
structure Turn (P:Program) (w:World) (K:PySem.W.Frag) (tg:Expr) (J:It) (fp:List Addr) (it:Addr) (tn:Nat→Heap→Prop):Prop where
  mem:it∈fp
  obj:∀i h,tn i h→ ∀b∈fp,∃o,h.get? b=some o∧ ∀v,o.data≠ .cell v
  keep:∀i h h',tn i h→(∀b∈fp,∀o,h.get? b=some o→h'.get? b=some o)→tn i h'
  item:∀(X:Cx),X.prog=P→X.w=w→X.K=K→X.calm=true→ ∀(i:Nat) (pins:List (Addr×Obj)) (s:Shared) (σ:St) (H:Hp) (E:Value→Shared→Prop),Inv X pins σ H s→(∀b∈fp,zfu X pins H b)→tn i s.heap→J.go i H→
    wpAny (model P w) X.A (pyNext (.ref it)) (fun r s1=>∃u,r=some u∧
      wpAny (model P w) X.A (letOwnedTupleGo tg (.ref it) u) (fun _ s2=>∃x H',Inv X pins σ H' s2∧RelV x u∧J.yld i H x H'∧tn (i+1) s2.heap∧ ∀b∈fp,H' b=none) E s1) E s
  done:∀(X:Cx),X.prog=P→X.w=w→X.K=K→X.calm=true→ ∀(i:Nat) (pins:List (Addr×Obj)) (s:Shared) (σ:St) (H:Hp) (E:Value→Shared→Prop),Inv X pins σ H s→(∀b∈fp,zfu X pins H b)→tn i s.heap→J.stop i H→
    wpAny (model P w) X.A (pyNext (.ref it)) (fun r s1=>r=none∧Inv X pins σ H s1) E s
  self:∀(A:Around) (i:Nat) (s:Shared) (Q:Value→Shared→Prop) (E:Value→Shared→Prop),tn i s.heap→Q (.ref it) s→wpAny (model P w) A (pyIter (.ref it)) Q E s
noncomputable abbrev TI:=St→Hp→(It→Hp→Prop)→Prop
noncomputable def PIE (X:Cx) (pins:List (Addr×Obj)) (σ:St) (tg:Expr) (R:It→Hp→Prop) (itv:Value) (s2:Shared):Prop:=
 ∃(it:Addr) (fp:List Addr) (tn:Nat→Heap→Prop) (J:It) (H':Hp),itv= .ref it∧Inv X pins σ H' s2∧Turn X.prog X.w X.K tg J fp it tn∧tn 0 s2.heap∧(∀b∈fp,zfu X pins H' b)∧R J H'
noncomputable def PI (X:Cx) (tg iter:Expr) (wi:TI):Prop:=
 ∀(pins:List (Addr×Obj)) (s:Shared) (σ:St) (H:Hp) (R:It→Hp→Prop),Inv X pins σ H s→wi σ H R→
  wpAny (model X.prog X.w) X.A (eval iter X.env) (fun v s1=>wpAny (model X.prog X.w) X.A (pyIter v) (PIE X pins σ tg R) X.xe s1) X.xe s
theorem zkG{M:Model}{A:Around}{E:Value→Shared→Prop}{s:Shared}{tg:Expr}{it:Addr}{u:Value}{o:Obj}{n:String}{vs:Array Value}{Q:Unit→Shared→Prop}(ho:s.heap.get? it=some o) (hc:o.cls= .type n) (hd:o.data= .fields vs)
    (hn: ["enumerate", "zip", "dict_itemiterator", "dict_reverseitemiterator", "odict_iterator", "itertools.zip_longest", "itertools.pairwise"].contains n=false) (hQ:Q () s):wpAny M A (letOwnedTupleGo tg (.ref it) u) Q E s:=by
  unfold letOwnedTupleGo;cases tg<;>first
    |exact wpAny_pure hQ
    | (cases u<;>first
        |exact wpAny_pure hQ
        | (refine wpAny_bind (wpAny_load ho ?_)
           rw [hc,hd];show wpAny M A (if(["enumerate", "zip", "dict_itemiterator", "dict_reverseitemiterator", "odict_iterator", "itertools.zip_longest", "itertools.pairwise"].contains n&&vs[0]? == some (rawInt _))=true then _ else _) Q E s;rw [if_neg (by intro h;rw [hn,Bool.false_and]at h;cases h)];exact wpAny_pure hQ))
noncomputable def Itl (K:PySem.W.Frag) (a:Addr):It:=
 ⟨fun i H=>∃xs x,SqL K H a xs∧xs[i]? =some x,fun i H x H'=>H'=H∧ ∀xs,SqL K H a xs→xs[i]? =some x,fun i H=>∃xs,SqL K H a xs∧xs.length≤i⟩
noncomputable def Itt (K:PySem.W.Frag) (a:Addr):It:=
 ⟨fun i H=>∃xs x,SqT K H a xs∧xs[i]? =some x,fun i H x H'=>H'=H∧ ∀xs,SqT K H a xs→xs[i]? =some x,fun i H=>∃xs,SqT K H a xs∧xs.length≤i⟩
noncomputable def Itr (lo:Int) (n:Nat):It:=⟨fun i _=>i<n,fun i H x H'=>H'=H∧x= .int (lo+i),fun i _=>n≤i⟩
theorem zjx{P:Program}{w:World}{K:PySem.W.Frag}{tg:Expr}(a it:Addr):Turn P w K tg (Itl K a) [it] it (fun i h=>h.IsListIter it a i) where
  mem:=by simp
  obj:=fun i h st b hb=>by
    have e:b=it:=by simpa using hb
    subst e;obtain⟨o,e,c,d⟩:=st;exact⟨o,e,fun v z=>by rw [d]at z;cases z⟩
  keep:=fun i h h' st k=>st.at fun o e=>k it (by simp) o e
  item:=by
    intro X hP hw hK hc i pins s σ H E I hf st hg;subst hP hw hK;obtain⟨xs,x,hq,hx⟩:=hg;obtain⟨its,rv,p,hz⟩:=I.list hq;obtain⟨u,hu,ru⟩:=rv.get hx;obtain⟨f0,f1,f2,f3,f4,f5⟩:=hf it (by simp);refine wpAny_pyNext_list_item st p.isList (x:=u) (by simpa using hu) fun h' st' sb=>?_;have I1:Inv X pins σ H { s with heap:=h' }:=I.turned (t':=s.toks) (fun b o hb e=>(sb.2 b hb).trans e) f0 f1 f3 f4 f5;obtain⟨o,e,c,d⟩:=id st';exact⟨u,rfl,zkG (s:={ s with heap:=h' }) e c d (by decide) ⟨x,H,I1,ru,⟨rfl,fun ys hy=>by rw [I.list_inj hy hq];exact hx⟩,st',fun b hb=>(hf b hb).1⟩⟩
  done:=by
    intro X hP hw hK hc i pins s σ H E I hf st hg;subst hP hw hK;obtain⟨xs,hq,hx⟩:=hg;obtain⟨its,rv,p,hz⟩:=I.list hq;obtain⟨f0,f1,f2,f3,f4,f5⟩:=hf it (by simp);have hl:=rv.length;exact wpAny_pyNext_list_end (I.ok.hd hc) st p.isList (by simp;omega) fun h' eb=>⟨rfl,I.turned (t':=s.toks) (fun b o hb e=>eb b o hb e) f0 f1 f3 f4 f5⟩
  self:=fun _ _ _ _ _ st h=>wpAny_pyIter_listiter st h
theorem zhY{P:Program}{w:World}{K:PySem.W.Frag}{tg:Expr}(a it:Addr):Turn P w K tg (Itt K a) [it] it (fun i h=>h.IsTupleIter it a i) where
  mem:=by simp
  obj:=fun i h st b hb=>by
    have e:b=it:=by simpa using hb
    subst e;obtain⟨o,e,c,d⟩:=st;exact⟨o,e,fun v z=>by rw [d]at z;cases z⟩
  keep:=fun i h h' st k=>st.at fun o e=>k it (by simp) o e
  item:=by
    intro X hP hw hK hc i pins s σ H E I hf st hg;subst hP hw hK;obtain⟨xs,x,hq,hx⟩:=hg;obtain⟨its,rv,p,hz⟩:=I.tuple hq;obtain⟨u,hu,ru⟩:=rv.get hx;obtain⟨f0,f1,f2,f3,f4,f5⟩:=hf it (by simp);refine wpAny_pyNext_tuple_item st (show s.heap.IsTuple a its.toArray from p) (x:=u) (by simpa using hu) fun h' st' sb=>?_;have I1:Inv X pins σ H { s with heap:=h' }:=I.turned (t':=s.toks) (fun b o hb e=>(sb.2 b hb).trans e) f0 f1 f3 f4 f5;obtain⟨o,e,c,d⟩:=id st';exact⟨u,rfl,zkG (s:={ s with heap:=h' }) e c d (by decide) ⟨x,H,I1,ru,⟨rfl,fun ys hy=>by rw [I.tuple_inj hy hq];exact hx⟩,st',fun b hb=>(hf b hb).1⟩⟩
  done:=by
    intro X hP hw hK hc i pins s σ H E I hf st hg;subst hP hw hK;obtain⟨xs,hq,hx⟩:=hg;obtain⟨its,rv,p,hz⟩:=I.tuple hq;obtain⟨f0,f1,f2,f3,f4,f5⟩:=hf it (by simp);have hl:=rv.length;exact wpAny_pyNext_tuple_end (I.ok.hd hc) st (show s.heap.IsTuple a its.toArray from p) (by simp;omega) fun h' eb=>⟨rfl,I.turned (t':=s.toks) (fun b o hb e=>eb b o hb e) f0 f1 f3 f4 f5⟩
  self:=fun _ _ _ _ _ st h=>wpAny_pyIter_tupleiter st h
theorem zio{P:Program}{w:World}{K:PySem.W.Frag}{tg:Expr}(it:Addr) (lo:Int) (n:Nat):Turn P w K tg (Itr lo n) [it] it (fun i h=>IsRangeIter h it (lo+(i:Nat)*1) ((n:Int) - (i:Nat)) 1) where
  mem:=by simp
  obj:=fun i h st b hb=>by
    have e:b=it:=by simpa using hb
    subst e;exact⟨_,st,fun v z=>by
      have z':Data.fields _=Data.cell v:=z;cases z'⟩
  keep:=fun i h h' st k=>k it (by simp) _ st
  item:=by
    intro X hP hw hK hc i pins s σ H E I hf st hg;subst hP hw hK;obtain⟨f0,f1,f2,f3,f4,f5⟩:=hf it (by simp);have W:=Walks.range (prog:=X.prog) (w:=X.w) (I.ok.hd hc) it lo 1 n;refine W.item i s _ _ hg st fun v h' tk hv st' kk=>?_;obtain⟨t,rfl⟩:=hv;have I1:Inv X pins σ H { s with heap:=h',toks:=tk }:=I.turned (fun b o hb e=>kk b o (by simpa using hb) e) f0 f1 f3 f4 f5;refine⟨_,rfl,zkG (s:={ s with heap:=h',toks:=tk }) (n:= "range_iterator") st' rfl rfl (by decide) ⟨.int (lo+i),H,I1,⟨t,?_⟩,⟨rfl,rfl⟩,st',fun b hb=>(hf b hb).1⟩⟩;rw [Int.mul_one]
  done:=by
    intro X hP hw hK hc i pins s σ H E I hf st hg;subst hP hw hK;obtain⟨f0,f1,f2,f3,f4,f5⟩:=hf it (by simp);exact wpAny_pyNext_range_end (I.ok.hd hc) st (by have:n≤i:=hg;omega) fun h' eb=>⟨rfl,I.turned (t':=s.toks) (fun b o hb e=>eb b o hb e) f0 f1 f3 f4 f5⟩
  self:=fun _ _ _ _ _ st h=>wpAny_pyIter_rangeiter st h
section
variable {X:Cx}{tg:Expr}
theorem zlU{pins:List (Addr×Obj)}{σ:St}{H:Hp}{s:Shared}{R:It→Hp→Prop}{E:Value→Shared→Prop}{lo hi:Int}{t u v:Tok}{tk:Nat}(I:Inv X pins σ H s) (h1: -(2 ^ 62)≤lo) (h2:lo<2 ^ 62) (h3: -(2 ^ 62)≤hi) (h4:hi<2 ^ 62)
  (q:R (Itr lo (hi - lo).toNat) H):wpAny (model X.prog X.w) X.A (pyIter (.ref s.heap.objs.size)) (PIE X pins σ tg R) E { s with heap:=s.heap.push { cls:= .type "range",data:= .fields #[.int lo t, .int hi u, .int 1 v] },toks:=tk }:=by
 refine wpAny_pyIter_range (IsRange.new ..) (small_one h1 h2 h3 h4) ?_;have I1:Inv X pins σ H { s with heap:=s.heap.push { cls:= .type "range",data:= .fields #[.int lo t, .int hi u, .int 1 v] },toks:=tk }:=I.kept fun b o e=>Heap.get?_push_of_some _ e;refine⟨(s.heap.push { cls:= .type "range",data:= .fields #[.int lo t, .int hi u, .int 1 v] }).objs.size,[(s.heap.push { cls:= .type "range",data:= .fields #[.int lo t, .int hi u, .int 1 v] }).objs.size],_,_,H,rfl,
  I1.kept (t':=tk) fun b o e=>Heap.get?_push_of_some _ e,zio _ lo (hi - lo).toNat,?_,fun b hb=>?_,q⟩
 ·have e1:lo+((0:Nat):Int)*1=lo:=by simp
  have e2:(((hi - lo).toNat:Nat):Int) - ((0:Nat):Int)=Builtin.Range.rangeSize lo hi 1:=by rw [rangeSize_one];split<;>omega
  show IsRangeIter _ _ (lo+((0:Nat):Int)*1) ((((hi - lo).toNat:Nat):Int) - ((0:Nat):Int)) 1;rw [e1,e2];exact Heap.get?_push_size _ rfl
 ·have e:b=(s.heap.push { cls:= .type "range",data:= .fields #[.int lo t, .int hi u, .int 1 v] }).objs.size:=by simpa using hb
  subst e;exact I1.fpOk (Nat.le_refl _) (I1.hok.fresh (Nat.le_refl _))
noncomputable def zsl (ta:TA):TI:=fun σ H R=>ta σ H fun vs H1=>∃j:Int,vs=[.int j]∧ -(2 ^ 62)≤j∧j<2 ^ 62∧R (Itr 0 j.toNat) H1
theorem ziw{a:Expr}{ta:TA}{p pos:Pos}(hg:Gl X "range") (hm:X.mg "range" =none) (ha:PA X [a] ta) (hs:starEach [a] X.env=[(false,eval a X.env)]:=by rfl):PI X tg (.Call (.Name "range" p) [a] [] pos) (zsl ta):=by
 intro pins s σ H R I h;refine Call_ (zgc I hg hm boot_range (PyProof.Rows.callWith_type1 (thn (ha pos pins s σ H _ I h) fun us s1 ⟨vs,H1,I1,r1,q1⟩=>?_) hs rfl));obtain⟨j,e,q1,q2,q⟩:=q1;subst e;cases r1 with
 |cons r rr=>
  cases rr;obtain⟨t,rfl⟩:=r;exact call_range_1 (zlU I1 (by omega) (by omega) q1 q2 (by simpa using q))
noncomputable def ztb (wi:TI) (g:TG) (tb:TS):TS:=fun D σ H=>wi σ H fun J H1=>∃W:Nat→Nat→St→Hp→Prop,(∃m,W 0 m σ H1)∧ ∀i m σ H,W i m σ H→
 (J.stop i H∧D.nx σ H)∨(J.go i H∧ ∃N:St→Hp→Prop,(∀σ' H',N σ' H'→ ∃m',m'<m∧W (i+1) m' σ' H')∧ ∀x H',J.yld i H x H'→g x σ H' fun σ2 H2=>tb { D with nx:=N,ct:=N,bk:=D.nx } σ2 H2)
noncomputable def zgs (fp:List Addr) (h:Heap):List (Addr×Obj):=fp.filterMap fun b=>(h.get? b).map fun o=>(b,o)
theorem zcz{fp:List Addr}{h:Heap}{b:Addr}{o:Obj}(hb:b∈fp) (e:h.get? b=some o):(b,o)∈zgs fp h:=List.mem_filterMap.mpr ⟨b,hb,by rw [e];rfl⟩
theorem zjQ{fp:List Addr}{h:Heap}{p:Addr×Obj}(hp:p∈zgs fp h):p.1∈fp∧h.get? p.1=some p.2:=by
 obtain⟨b,hb,e⟩:=List.mem_filterMap.mp hp;cases q:h.get? b with
 |none=>rw [q]at e;cases e
 |some o=>
  rw [q]at e;have e':(b,o)=p:=Option.some.inj e;subst e';exact⟨hb,q⟩
theorem Inv.pinned{pins:List (Addr×Obj)}{σ:St}{H:Hp}{s:Shared}{fp:List Addr}(I:Inv X pins σ H s) (hf:∀b∈fp,zfu X pins H b) (ho:∀b∈fp,∃o,s.heap.get? b=some o∧ ∀v,o.data≠ .cell v):Inv X (pins++zgs fp s.heap) σ H s:=
 I.pins_of fun p hp=>(List.mem_append.mp hp).elim (fun z=>I.pin p (List.mem_append_right _ z)) fun z=>by
  obtain⟨hb,e⟩:=zjQ z;obtain⟨f0,f1,f2,_⟩:=hf p.1 hb;obtain⟨o,e',d⟩:=ho p.1 hb;rw [e]at e';cases e';exact⟨e,f0,f1,f2,d⟩
theorem Inv.unpinned{pins pl:List (Addr×Obj)}{σ:St}{H:Hp}{s:Shared}(I:Inv X (pins++pl) σ H s):Inv X pins σ H s:=I.pins_of fun p hp=>I.pin p (List.mem_append_right _ (List.mem_append_left _ hp))
theorem zqf{iter:Expr}{body:List Stmt}{wi:TI}{g:TG}{tb:TS}{pos:Pos}(hp:PassesOwn (model X.prog X.w) X.A X.env X.xe) (hc:X.calm=true) (hi:PI X tg iter wi) (hg:PG X tg g) (hb:PSs X body tb)
  (hs:∀x,foldedSetIterable iter X.env x=pure x:=by intro _;rfl):PS X (.For tg iter body [] pos) (ztb wi g tb):=by
 intro pins s σ H D I h;refine wpAny_For (thn (hi pins s σ H _ I h) fun v s1 h1=>thn h1 fun itv s2 h2=>?_) hs;obtain⟨it,fp,tn,J,H2,e,I2,T,st2,f2,W,⟨m0,w0⟩,turn⟩:=h2;subst e;have stat:∀{H':Hp},(∀b∈fp,H' b=none)→ ∀b∈fp,zfu X pins H' b:=fun hn b hb=>⟨hn b hb,(f2 b hb).2⟩;refine codeAny_forLoop_any (fun n s'=>∃i σ' H',Inv X pins σ' H' s'∧tn i s'.heap∧(∀b∈fp,H' b=none)∧W i n σ' H') ?_ m0 ⟨0,σ,H2,I2,st2,fun b hb=>(f2 b hb).1,w0⟩;rintro n s3 ⟨i,σ3,H3,I3,st3,fr3,w3⟩;rcases turn i n σ3 H3 w3 with⟨stop,qn⟩ |⟨go,N,hN,step⟩
 ·refine wpAny_passesOwn hp (thn (T.done X rfl rfl rfl hc i pins s3 σ3 H3 X.xe I3 (stat fr3) st3 stop) fun r s4 ⟨hr,I4⟩=>?_);subst hr;exact wpAny_execs_nil ⟨σ3,H3,I4,qn⟩
 ·refine wpAny_passesOwn hp (thn (T.item X rfl rfl rfl hc i pins s3 σ3 H3 X.xe I3 (stat fr3) st3 go) fun r s4 ⟨u,hr,h4⟩=>?_);subst hr;refine wpAny_passesOwn hp (thn h4 fun _ s5 ⟨x,H5,I5,r5,y5,st5,fr5⟩=>?_);have I5':=I5.pinned (stat fr5) (T.obj _ _ st5);refine wpAny_passesOwn hp (thn (hg _ s5 σ3 H5 x u _ I5' r5 (step x H5 y5)) fun _ s6 ⟨σ6,H6,I6,q6⟩=>?_);refine wpAny_passesOwn hp (thn (hb _ s6 σ6 H6 _ I6 q6) fun f s7 q7=>?_);have again:∀{σ7:St}{H7:Hp},Inv X (pins++zgs fp s5.heap) σ7 H7 s7→N σ7 H7→ ∃m,m<n∧ ∃i σ' H',Inv X pins σ' H' s7∧tn i s7.heap∧(∀b∈fp,H' b=none)∧W i m σ' H':=fun {σ7 H7} I7 n7=>by
   obtain⟨m',hm,w7⟩:=hN σ7 H7 n7;refine⟨m',hm,i+1,σ7,H7,I7.unpinned,T.keep _ _ _ st5 fun b hb o e=>(I7.pin (b,o) (List.mem_append_right _ (List.mem_append_right _ (zcz hb e)))).1,fun b hb=>?_,w7⟩;obtain⟨o,e,d⟩:=T.obj _ _ st5 b hb;exact(I7.pin (b,o) (List.mem_append_right _ (List.mem_append_right _ (zcz hb e)))).2.1
  cases f with
  |next=>obtain⟨σ7,H7,I7,n7⟩:=q7;exact again I7 n7
  |cont=>obtain⟨σ7,H7,I7,n7⟩:=q7;exact again I7 n7
  |brk=>obtain⟨σ7,H7,I7,q7⟩:=q7;exact⟨σ7,H7,I7.unpinned,q7⟩
  |ret v=>obtain⟨x7,σ7,H7,I7,r7,q7⟩:=q7;exact⟨x7,σ7,H7,I7.unpinned,r7,q7⟩
end
noncomputable abbrev R2:=V→V→Hp→VK→Prop
noncomputable def OpR (X:Cx) (f:Value→Value→Sem Value) (r:R2):Prop:=
 ∀(pins:List (Addr×Obj)) (s:Shared) (σ:St) (H:Hp) (x y:V) (v u:Value) (Q:VK),Inv X pins σ H s→RelV x v→RelV y u→r x y H Q→
  wpAny (model X.prog X.w) X.A (f v u) (EP X pins σ Q) X.xe s
noncomputable def UnR (X:Cx) (f:Value→Sem Value) (r:V→Hp→VK→Prop):Prop:=
 ∀(pins:List (Addr×Obj)) (s:Shared) (σ:St) (H:Hp) (x:V) (v:Value) (Q:VK),Inv X pins σ H s→RelV x v→r x H Q→
  wpAny (model X.prog X.w) X.A (f v) (EP X pins σ Q) X.xe s
noncomputable def CallR (X:Cx) (f:Value) (r:List V→Hp→VK→Prop):Prop:=
 ∀(pins:List (Addr×Obj)) (s:Shared) (σ:St) (H:Hp) (xs:List V) (us:List Value) (Q:VK),Inv X pins σ H s→Vals xs us→r xs H Q→
  wpAny (model X.prog X.w) X.A (call f us) (EP X pins σ Q) X.xe s
noncomputable def ztn (X:Cx) (r:V→Hp→(Bool→Hp→Prop)→Prop):Prop:=
 ∀(pins:List (Addr×Obj)) (s:Shared) (σ:St) (H:Hp) (x:V) (v:Value) (Q:Bool→Hp→Prop),Inv X pins σ H s→RelV x v→r x H Q→
  wpAny (model X.prog X.w) X.A (truthy v) (TP X pins σ Q) X.xe s
noncomputable def tOp (r:R2) (ta tb:TE):TE:=fun σ H Q=>ta σ H fun x H1=>tb σ H1 fun y H2=>r x y H2 Q
noncomputable def tUn (r:V→Hp→VK→Prop) (ta:TE):TE:=fun σ H Q=>ta σ H fun x H1=>r x H1 Q
noncomputable def rI (C:Int→Int→Prop) (g:Int→Int→V):R2:=fun x y H Q=>∃i j,x= .int i∧y= .int j∧C i j∧Q (g i j) H
noncomputable def rI0 (g:Int→Int→V):R2:=fun x y H Q=>∃i j,x= .int i∧y= .int j∧Q (g i j) H
noncomputable def rU (g:Int→V):V→Hp→VK→Prop:=fun x H Q=>∃i,x= .int i∧Q (g i) H
section
variable {X:Cx}{a b:Expr}{ta tb:TE}{pos:Pos}
theorem zrK (ha:PE X a ta) (hb:PE X b tb) {pins:List (Addr×Obj)}{s:Shared}{σ:St}{H:Hp}{R:V→V→Hp→Prop}(I:Inv X pins σ H s)
  (h:ta σ H fun x H1=>tb σ H1 fun y H2=>R x y H2) {Q:Value→Shared→Prop}{f:Value→Value→Sem Value}
  (hf:∀v u s2 x y H2,Inv X pins σ H2 s2→RelV x v→RelV y u→R x y H2→wpAny (model X.prog X.w) X.A (f v u) Q X.xe s2) :
  wpAny (model X.prog X.w) X.A (eval a X.env) (fun v s₁=>wpAny (model X.prog X.w) X.A (eval b X.env) (fun u s₂=>wpAny (model X.prog X.w) X.A (f v u) Q X.xe s₂) X.xe s₁) X.xe s:=by
 refine thn (ha pins s σ H _ I h) fun v s1 ⟨x,H1,I1,r1,q1⟩=>?_;refine thn (hb pins s1 σ H1 _ I1 q1) fun u s2 ⟨y,H2,I2,r2,q2⟩=>?_;exact hf v u s2 x y H2 I2 r1 r2 q2
theorem zkE{op:Operator}{r:R2}(ho:OpR X (binaryOp op) r) (ha:PE X a ta) (hb:PE X b tb):PE X (.BinOp a op b pos) (tOp r ta tb):=by
 intro pins s σ H Q I h;exact wpAny_BinOp (zrK ha hb I h fun v u s2 x y H2 I2 rx ry q=>ho pins s2 σ H2 x y v u Q I2 rx ry q)
theorem zrT{op:UnaryOp}{r:V→Hp→VK→Prop}(ho:UnR X (unaryOp op) r) (ha:PE X a ta):PE X (.UnaryOp op a pos) (tUn r ta):=by
 intro pins s σ H Q I h;exact UnaryOp_ (thn (ha pins s σ H _ I h) fun v s1 ⟨x,H1,I1,r1,q1⟩=>ho pins s1 σ H1 x v Q I1 r1 q1)
theorem opI{f:Value→Value→Sem Value}{C:Int→Int→Prop}{g:Int→Int→Int}
  (rule:∀(i j:Int) (t u:Tok) (s:Shared) (Q:Value→Shared→Prop) (E:Value→Shared→Prop),C i j→Q (.int (g i j) s.toks) { s with toks:=s.toks+1 }→wpAny (model X.prog X.w) X.A (f (.int i t) (.int j u)) Q E s) :
  OpR X f (rI C fun i j=> .int (g i j)):=by
 intro pins s σ H x y v u Q I rx ry h;obtain⟨i,j,rfl,rfl,hc,q⟩:=h;obtain⟨t,rfl⟩:=rx;obtain⟨t',rfl⟩:=ry;exact rule i j t t' s _ _ hc ⟨.int (g i j),H,I.tok _,⟨_,rfl⟩,q⟩
theorem ztK{f:Value→Value→Sem Value}{g:Int→Int→Int}
  (rule:∀(i j:Int) (t u:Tok) (s:Shared) (Q:Value→Shared→Prop) (E:Value→Shared→Prop),Q (.int (g i j) s.toks) { s with toks:=s.toks+1 }→wpAny (model X.prog X.w) X.A (f (.int i t) (.int j u)) Q E s) :
  OpR X f (rI0 fun i j=> .int (g i j)):=by
 intro pins s σ H x y v u Q I rx ry h;obtain⟨i,j,rfl,rfl,q⟩:=h;obtain⟨t,rfl⟩:=rx;obtain⟨t',rfl⟩:=ry;exact rule i j t t' s _ _ ⟨.int (g i j),H,I.tok _,⟨_,rfl⟩,q⟩
theorem zsO{f:Value→Value→Sem Value}{g:Int→Int→Bool}
  (rule:∀(i j:Int) (t u:Tok) (s:Shared) (Q:Value→Shared→Prop) (E:Value→Shared→Prop),Q (.bool (g i j)) s→wpAny (model X.prog X.w) X.A (f (.int i t) (.int j u)) Q E s) :
  OpR X f (rI0 fun i j=> .bl (g i j)):=by
 intro pins s σ H x y v u Q I rx ry h;obtain⟨i,j,rfl,rfl,q⟩:=h;obtain⟨t,rfl⟩:=rx;obtain⟨t',rfl⟩:=ry;exact rule i j t t' s _ _ ⟨.bl (g i j),H,I,rfl,q⟩
noncomputable def zkH (i j:Int):Prop:=0<j∧j<1073741824
noncomputable def zrv (i j:Int):Prop:=0≤j∧j≤1000000∧i.natAbs<2 ^ 64
noncomputable def CMul (i j:Int):Prop:=(-(2 ^ 64)<i∧i<2 ^ 64)∨(-(2 ^ 64)<j∧j<2 ^ 64)
theorem CMul.ok{i j:Int}(h:CMul i j):IntMulOk i j:=by
 rcases h with⟨h1,h2⟩ |⟨h1,h2⟩
 ·exact .of_left (intBits_le_64 h1 h2)
 ·exact .of_right (intBits_le_64 h1 h2)
theorem op_add:OpR X (binaryOp .Add) (rI0 fun i j=> .int (i+j)):=ztK fun _ _ _ _ _ _ _ q=>add_int q
theorem zpN:OpR X (binaryOp .Mult) (rI CMul fun i j=> .int (i*j)):=opI fun _ _ _ _ _ _ _ hc q=>mul_int q hc.ok
theorem zmX:OpR X (binaryOp .FloorDiv) (rI zkH fun i j=> .int (i / j)):=opI fun i j _ _ _ _ _ hc q=>by
 have h1:(0:Int)<j:=hc.1;have h2:j<1073741824:=hc.2;exact floordiv_int (by omega) (by rw [Int.fdiv_eq_ediv_of_nonneg i (by omega)];exact q) (.inl (PyProof.noPylong_small (by omega)))
theorem zpS:OpR X (binaryOp .Mod) (rI (fun _ j=>0<j) fun i j=> .int (i % j)):=opI fun i j _ _ _ _ _ hc q=>by
 have h1:(0:Int)<j:=hc;exact mod_int' (by omega) (by rw [Int.fmod_eq_emod_of_nonneg i (by omega)];exact q)
theorem zqJ:OpR X (binaryOp .Pow) (rI zrv fun i j=> .int (i ^ j.toNat)):=opI fun _ _ _ _ _ _ _ hc q=>pow_int_small hc.1 hc.2.1 hc.2.2 q
theorem unI{f:Value→Sem Value}{g:Int→Int}
  (rule:∀(i:Int) (t:Tok) (s:Shared) (Q:Value→Shared→Prop) (E:Value→Shared→Prop),Q (.int (g i) s.toks) { s with toks:=s.toks+1 }→wpAny (model X.prog X.w) X.A (f (.int i t)) Q E s) :
  UnR X f (rU fun i=> .int (g i)):=by
 intro pins s σ H x v Q I rx h;obtain⟨i,rfl,q⟩:=h;obtain⟨t,rfl⟩:=rx;exact rule i t s _ _ ⟨.int (g i),H,I.tok _,⟨_,rfl⟩,q⟩
theorem zpU:UnR X (unaryOp .USub) (rU fun i=> .int (-i)):=unI fun _ _ _ _ _ q=>neg_int q
end
section
variable {X:Cx}{a b c:Expr}{ta tb:TE}{pos:Pos}
theorem zmv{pins:List (Addr×Obj)}{σ:St}{H:Hp}{s:Shared}{Q:VK}{k k':Bool}(I:Inv X pins σ H s) (q:Q (.bl k) H) (e:k=k'):EP X pins σ Q (.bool k') s:=by
 subst e;exact⟨.bl k,H,I,rfl,q⟩
theorem zql:OpR X (compareOp .Lt) (rI0 fun i j=> .bl (decide (i<j))):=zsO fun _ _ _ _ _ _ _ q=>lt_int q
theorem zpu:OpR X (compareOp .Gt) (rI0 fun i j=> .bl (decide (j<i))):=zsO fun _ _ _ _ _ _ _ q=>gt_int q
theorem op_isN:OpR X (compareOp .Is) (fun x y H Q=>y= .non∧Q (.bl (decide (x= .non))) H):=by
 intro pins s σ H x y v u Q I rx ry h;obtain⟨rfl,q⟩:=h;cases ry;refine is_none_gen (zmv I q ?_);cases x<;>first
  | (cases rx;rfl)
  | (obtain⟨t,rfl⟩:=rx;rfl)
theorem op_notN:OpR X (compareOp .IsNot) (fun x y H Q=>y= .non∧Q (.bl (!decide (x= .non))) H):=by
 intro pins s σ H x y v u Q I rx ry h;obtain⟨rfl,q⟩:=h;cases ry;refine isnot_none_gen (zmv I q ?_);cases x<;>first
  | (cases rx;rfl)
  | (obtain⟨t,rfl⟩:=rx;rfl)
theorem OpR.or{f:Value→Value→Sem Value}{r r':R2}(h:OpR X f r) (h':OpR X f r'):OpR X f (fun x y H Q=>r x y H Q∨r' x y H Q):=by
 intro pins s σ H x y v u Q I rx ry q;rcases q with q |q
 ·exact h pins s σ H x y v u Q I rx ry q
 ·exact h' pins s σ H x y v u Q I rx ry q
theorem nomark (b:Expr) {op:CmpOp}(h:op≠ .In:=by decide) (h2:op≠ .NotIn:=by decide):behindInMarks op b=false:=by
 have e1:(op == CmpOp.In)=false:=by cases op<;>first |rfl |exact absurd rfl h
 have e2:(op == CmpOp.NotIn)=false:=by cases op<;>first |rfl |exact absurd rfl h2
 cases b<;>simp [behindInMarks,e1,e2]
theorem znL{op:CmpOp}{r:R2}(ho:OpR X (compareOp op) r) (ha:PE X a ta) (hb:PE X b tb) (hm:behindInMarks op b=false):PE X (.Compare a [op] [b] pos) (tOp r ta tb):=by
 intro pins s σ H Q I h;exact wpAny_Compare1 (zrK ha hb I h fun v u s2 x y H2 I2 rx ry q=>ho pins s2 σ H2 x y v u Q I2 rx ry q) hm
noncomputable def zsz (t:TE):TT:=fun σ H Q=>t σ H fun x H'=>∃k,x= .bl k∧Q k H'
theorem zmN{op:CmpOp}{r:R2}(ho:OpR X (compareOp op) r) (ha:PE X a ta) (hb:PE X b tb) (hm:behindInMarks op b=false):PT X (.Compare a [op] [b] pos) (zsz (tOp r ta tb)):=by
 intro pins s σ H Q I h;refine wpAny_isTrue_Compare1 (thn (ha pins s σ H _ I h) fun v s1 ⟨x,H1,I1,r1,q1⟩=>thn (hb pins s1 σ H1 _ I1 q1) fun u s2 ⟨y,H2,I2,r2,q2⟩=>
  thn (ho pins s2 σ H2 x y v u _ I2 r1 r2 q2) fun c s3 ⟨z,H3,I3,r3,k,e,q3⟩=>?_) hm
 subst e;cases r3;exact wpAny_truthy_bool ⟨H3,I3,q3⟩
noncomputable def zrz (K:PySem.W.Frag) (x:V) (H:Hp) (k:Bool):Prop:=
 match x with
 | .non=>k=false
 | .bl b=>k=b
 | .int i=>k=(i != 0)
 | .str y=>y.length≤sizeLine∧k=((y.length:Int) != 0)
 | .byt y=>y.size≤sizeLine∧k=((y.size:Int) != 0)
 | .ref p=>(∃xs,SqL K H p xs∧k= !xs.isEmpty)∨(∃xs,SqT K H p xs∧k= !xs.isEmpty)∨ ∃kvs,H p=some (.dK kvs)∧k= !kvs.isEmpty
 |_=>False
theorem zih{κ:Type}{kvs:List (κ×V)}{vs:List (κ×Value)}(r:KV kvs vs):(!vs.isEmpty)= !kvs.isEmpty:=by
 cases r<;>rfl
theorem zeR{xs:List V}{its:List Value}(r:Vals xs its):(!its.toArray.isEmpty)= !xs.isEmpty:=by
 cases r<;>simp
theorem zeK:(sizeLine:Nat)<2 ^ 63:=by rw [sizeLine_eq];decide
theorem zpR:ztn X (fun x H Q=>∃k,zrz X.K x H k∧Q k H):=by
 intro pins s σ H x v Q I rx h;obtain⟨k,e,q⟩:=h;have hl:=zeK;have hs:sizeLine=16777216:=sizeLine_eq;cases x with
 |non=>
  cases rx;have e':k=false:=e;subst e';exact truthy_none ⟨H,I,q⟩
 |bl b=>
  cases rx;have e':k=b:=e;subst e';exact wpAny_truthy_bool ⟨H,I,q⟩
 |int i=>
  obtain⟨t,rfl⟩:=rx;have e':k=(i != 0):=e;subst e';exact PySem.P.truthy_int ⟨H,I,q⟩
 |str y=>
  obtain⟨t,rfl⟩:=rx;obtain⟨hy,e'⟩:y.length≤sizeLine∧k=((y.length:Int) != 0):=e;subst e';exact PySem.P.truthy_str (by omega) ⟨H,I.tok _,q⟩
 |byt y=>
  obtain⟨t,rfl⟩:=rx;obtain⟨hy,e'⟩:y.size≤sizeLine∧k=((y.size:Int) != 0):=e;subst e';exact PySem.W.truthy_bytes (by omega) ⟨H,I.tok _,q⟩
 |ref p=>
  cases rx;have e':(∃xs,SqL X.K H p xs∧k= !xs.isEmpty)∨(∃xs,SqT X.K H p xs∧k= !xs.isEmpty)∨ ∃kvs,H p=some (.dK kvs)∧k= !kvs.isEmpty:=e;rcases e' with⟨xs,hx,e'⟩ |⟨xs,hx,e'⟩ |⟨kvs,hx,e'⟩
  ·subst e';obtain⟨its,r,pl,hz⟩:=I.list hx;have hlen:=r.length;exact wpAny_truthy_list pl.isList (by simp only[List.size_toArray];omega) ⟨H,I.tok _,by rw [zeR r];exact q⟩
  ·subst e';obtain⟨its,r,pl,hz⟩:=I.tuple hx;have hlen:=r.length;exact truthy_tuple pl (by simp only[List.size_toArray];omega) ⟨H,I.tok _,by rw [zeR r];exact q⟩
  ·subst e';obtain⟨hz,hS,vs,r,m⟩:kvs.length≤sizeLine∧(p == sysModules)=false∧ ∃vs,KV kvs vs∧s.heap.DictOf (zhd X.prog X.w) p vs:=I.hok p _ hx;have hlen:kvs.length=vs.length:=Paired.length r;exact wpAny_truthy_dict hS m (by omega) ⟨H,I.tok _,by rw [zih r];exact q⟩
 |_=>exact(show False from e).elim
theorem zkY (ha:PE X a ta) (he:∀whole,isTrue a X.env whole=(do let v ←whole;standAt a.pos;holding [v] (truthy v))) :
  PT X a (fun σ H Q=>ta σ H fun x H'=>∃k,zrz X.K x H' k∧Q k H'):=by
 intro pins s σ H Q I h;exact isTrue_plain (thn (ha pins s σ H _ I h) fun v s1 ⟨x,H1,I1,r1,q1⟩=>zpR pins s1 σ H1 x v Q I1 r1 q1) (he _)
theorem op_add_str:OpR X (binaryOp .Add) (fun x y H Q=>∃i j,x= .str i∧y= .str j∧i.length+j.length≤sizeLine∧Q (.str (i++j)) H):=by
 intro pins s σ H x y v u Q I rx ry h;obtain⟨i,j,rfl,rfl,hz,q⟩:=h;obtain⟨t,rfl⟩:=rx;obtain⟨t',rfl⟩:=ry;exact add_str (fun t' tk=>⟨.str (i++j),H,I.tok _,⟨_,rfl⟩,q⟩) hz
theorem zib{x:V}{us:List Value}(r:Vals [x] us):∃u,us=[u]∧RelV x u:=by
 cases r with
 |cons r1 r2=>cases r2;exact⟨_,rfl,r1⟩
theorem zsm{x y:V}{us:List Value}(r:Vals [x,y] us):∃u w',us=[u,w']∧RelV x u∧RelV y w':=by
 cases r with
 |cons r1 r2=>
  cases r2 with
  |cons r3 r4=>cases r4;exact⟨_,_,rfl,r1,r3⟩
theorem zjX:CallR X (.type "int") (fun xs H Q=>(∃i,xs=[.int i]∧Q (.int i) H)∨ ∃k,xs=[.bl k]∧Q (.int (if k then 1 else 0)) H):=by
 intro pins s σ H xs us Q I r h;rcases h with⟨i,rfl,q⟩ |⟨k,rfl,q⟩
 ·obtain⟨u,rfl,t,rfl⟩:=zib r;exact call_int_int ⟨.int i,H,I,⟨_,rfl⟩,q⟩
 ·obtain⟨u,rfl,r1⟩:=zib r;cases r1;exact call_int_bool ⟨.int (if k then 1 else 0),H,I.tok _,⟨_,rfl⟩,q⟩
end
structure ObjM (h:Heap) (x dx C:Addr) (mA:Str→Option Value):Prop where
  obj:h.get? x=some (PySem.W.instObj C dx)
  ns:h.Ns1 dx mA
  ne:dx≠x
theorem zjU{h:Heap}{dx:Addr}{mA:Str→Option Value}(n:h.Ns1 dx mA):∃od,h.get? dx=some od∧ ∀name,PySem.W.lookIn name od=some (mA name):=by
 obtain⟨o,es,ep,ho,hd,hk,_,hm⟩:=n;refine⟨o,ho,fun name=>?_⟩;have e:=hm name;unfold nsFind findBy at e;rw [←Array.find?_toList]at e;unfold PySem.W.lookIn;rw [hd];dsimp only;split
 ·rename_i y q;rw [q]at e;exact congrArg some e
 ·rename_i q;rw [q]at e;have a:es.toList.any (·.refKey)=false:=by
   rw [List.any_eq_false];intro y hy;obtain⟨z,t,hkey⟩:=hk y (Array.mem_toList_iff.mp hy);simp [DictEntry.refKey,hkey]
  have a':¬es.toList.any (·.refKey)=true:=by rw [a];exact Bool.false_ne_true
  rw [if_neg a'];exact congrArg some e
theorem ObjM.look{h:Heap}{x dx C:Addr}{mA:Str→Option Value}(I:ObjM h x dx C mA):∃od,PySem.W.InstAt h x (PySem.W.instObj C dx) C (some od)∧ ∀name,PySem.W.lookIn name od=some (mA name):=
 let ⟨od,ho,hl⟩:=zjU I.ns
 ⟨od,⟨I.obj,rfl,rfl,ho⟩,hl⟩
section
variable {P:Program}{w:World}{H:Hp}{h:Heap}{a C dx:Addr}{fs:List (Str×V)}
theorem zmH (hok:HOk P w H h) (e:H a=some (.ins C dx fs)):∃mA,ObjM h a dx C mA∧(∀f,RelO (fs.lookup f) (mA f))∧PySem.Within mA (fs.map (·.1))∧fs.length≤1000∧H dx=some (.own a):=by
 obtain⟨d,z,ne,ob,mA,n,r,q⟩:=(show ObjOk P w H h a (.ins C dx fs) from hok a _ e);exact⟨mA,⟨ob,n,ne⟩,r,q,z,d⟩
end
structure Cls (K:PySem.W.Frag) (C:Addr):Prop where
  pg:PySem.W.plainGet K C Str.empty=true
  hd:PySem.W.hasDictIn K C=true
  po:PySem.W.plainOver K C=true
  sa:PySem.W.findIn K (.ref C) "__setattr__" =some (some (.builtin "object.__setattr__"))
theorem Cls.get{K:PySem.W.Frag}{C:Addr}(c:Cls K C) (f:Str):PySem.W.plainGet K C f=true:=c.pg
section
variable {X:Cx}{pins:List (Addr×Obj)}{σ:St}{H:Hp}{s:Shared}{A:Around}{E:Value→Shared→Prop}{Q:Value→Shared→Prop}{c:Value}{b:Bool}
inductive TyOf (K:PySem.W.Frag) (H:Hp):V→Value→Prop where
  |non:TyOf K H .non (.type "NoneType")
  |bl (x:Bool):TyOf K H (.bl x) (.type "bool")
  |int (i:Int):TyOf K H (.int i) (.type "int")
  |str (x:Str):TyOf K H (.str x) (.type "str")
  |flt (x:UInt64):TyOf K H (.flt x) (.type "float")
  |lst {a:Addr}{xs:List V}(e:H a=some (.lst xs)):TyOf K H (.ref a) (.type "list")
  |frz {a:Addr}{o:Obj}{xs:List V}(e:H a=some (.frz o (.lst xs))):TyOf K H (.ref a) (.type "list")
  |tup {a:Addr}{xs:List V}(e:H a=some (.tup xs)):TyOf K H (.ref a) (.type "tuple")
  |dK {a:Addr}{kvs:List (Key×V)}(e:H a=some (.dK kvs)):TyOf K H (.ref a) (.type "dict")
  |dT {a:Addr}{kvs:List (List Key×V)}(e:H a=some (.dT kvs)):TyOf K H (.ref a) (.type "dict")
  |ins {a C dx:Addr}{fs:List (Str×V)}(e:H a=some (.ins C dx fs)) (cl:Cls K C) (ha:PySem.W.findIn K (.ref C) "__class__" =some (some (.builtin "object.__class__")))
      (hn:PySem.W.specialIn K (.builtin "object.__class__") "__get__" =some (some (.builtin "getset_descriptor.__get__"))) (htk:PySem.W.takesIn K (.builtin "object.__class__")=some true)
      (hm:PySem.W.mroIn K C (.type "object")=some true):TyOf K H (.ref a) (.ref C)
theorem zjK{x:V}{u t:Value}(I:Inv X pins σ H s) (rx:RelV x u) (ty:TyOf X.K H x t) (e:PySem.W.kitOne X.K t c=some b) (h:∀tk,Q (.bool b) { s with toks:=tk }) :
  wpAny (model X.prog X.w) A (call (.builtin "isinstance") [u,c]) Q E s:=by
 cases ty with
 |non=>cases(show u=Value.none from rx);exact PySem.W.kia_one PySem.W.kitx_none I.kIn True.intro e (fun z=>nomatch z) h
 |bl y=>cases(show u=Value.bool y from rx);exact PySem.W.kia_one PySem.W.kitx_bool I.kIn True.intro e (fun z=>nomatch z) h
 |int i=>obtain⟨t,q⟩:=(show ∃t,u=Value.int i t from rx);cases q;exact PySem.W.kia_one PySem.W.kitx_int I.kIn True.intro e (fun z=>nomatch z) h
 |str y=>obtain⟨t,q⟩:=(show ∃t,u=Value.str y t from rx);cases q;exact PySem.W.kia_one PySem.W.kitx_str I.kIn True.intro e (fun z=>nomatch z) h
 |flt y=>obtain⟨t,q⟩:=(show ∃t,u=Value.float y t from rx);cases q;exact PySem.W.kia_one PySem.W.kitx_float I.kIn True.intro e (fun z=>nomatch z) h
 | @lst a xs ea=>
  cases(show u=Value.ref a from rx);obtain⟨_,_,n,_,h1⟩:=(show ObjOk X.prog X.w H s.heap a (.lst xs) from I.hok a _ ea);exact PySem.W.kia_one PySem.W.kitx_list I.kIn ⟨_,h1,rfl⟩ e (fun z=>nomatch z) h
 | @frz a ob xs ea=>
  cases(show u=Value.ref a from rx);obtain⟨_,_,_,n,_,h1⟩:=(show ObjOk X.prog X.w H s.heap a (.frz ob (.lst xs)) from I.hok a _ ea);exact PySem.W.kia_one PySem.W.kitx_list I.kIn ⟨_,h1,rfl⟩ e (fun z=>nomatch z) h
 | @tup a xs ea=>
  cases(show u=Value.ref a from rx);obtain⟨_,_,_,p⟩:=(show ObjOk X.prog X.w H s.heap a (.tup xs) from I.hok a _ ea);obtain⟨o,h1,h2,_⟩:=p;exact PySem.W.kia_one PySem.W.kitx_tuple I.kIn ⟨o,h1,h2⟩ e (fun z=>nomatch z) h
 | @dK a kvs ea=>
  cases(show u=Value.ref a from rx);obtain⟨_,_,vs,_,p⟩:=(show ObjOk X.prog X.w H s.heap a (.dK kvs) from I.hok a _ ea);obtain⟨o,es,ep,h1,h2,_⟩:=p;exact PySem.W.kia_one PySem.W.kitx_dict I.kIn ⟨o,h1,h2.1⟩ e (fun z=>nomatch z) h
 | @dT a kvs ea=>
  cases(show u=Value.ref a from rx);obtain⟨_,_,xs,_,o,es,ep,h1,h2,_⟩:=(show ObjOk X.prog X.w H s.heap a (.dT kvs) from I.hok a _ ea);exact PySem.W.kia_one PySem.W.kitx_dict I.kIn ⟨o,h1,h2.1⟩ e (fun z=>nomatch z) h
 | @ins a C dx fs ea cl ha hn htk hm=>
  cases(show u=Value.ref a from rx);obtain⟨mA,O,_⟩:=zmH I.hok ea;obtain⟨od,J,_⟩:=O.look;exact PySem.W.kia_one (PySem.W.kitx_own (cl.get _) cl.hd ha hn htk hm) I.kIn J e (fun z=>nomatch z) h
end
structure Room (k:Nat) (A:Around):Prop where
  hd:A.handled=none
  dp:A.depth+3*k+5<recursionLimit
  un:A.units+16*k+200<cLine
theorem Room.deeper{k:Nat}{A:Around}(r:Room (k+1) A) (env:Env):Room k (A.deeper env):=
 ⟨r.hd,by have:=r.dp;show A.depth+1+3*k+5<_;omega,by have:=r.un;show A.units+3+16*k+200<_;omega⟩
theorem Room.depth{k:Nat}{A:Around}(r:Room k A):A.depth<recursionLimit:=by have:=r.dp;omega
theorem Room.units{k:Nat}{A:Around}(r:Room k A):A.units+64<cLine:=by have:=r.un;omega
noncomputable def ztE:TA:=fun _ H Q=>Q [] H
noncomputable def zsg (ta:TE) (tr:TA):TA:=fun σ H Q=>ta σ H fun x H1=>tr σ H1 fun xs H2=>Q (x::xs) H2
section
variable {X:Cx}{e:Expr}{es:List Expr}{te:TE}{t:TA}{pos:Pos}
theorem pa_nil:PA X [] ztE:=fun _ _ _ _ H Q I h=>Calls.spliced_nil ⟨[],H,I, .nil,h⟩
theorem zbs (ha:PE X e te) (hr:PA X es t) (hs:starEach (e::es) X.env=(false,eval e X.env)::starEach es X.env:=by rfl):PA X (e::es) (zsg te t):=by
 intro pos pins s σ H Q I h;rw [hs];show wpAny _ _ (spliced ((false,eval e X.env)::backTo pos (starEach es X.env))) _ _ s;refine Calls.spliced_cons (thn (ha pins s σ H _ I h) fun u s1 ⟨x,H1,I1,r1,q1⟩=>?_);exact thn (hr pos pins s1 σ H1 _ I1 q1) fun us s2 ⟨xs,H2,I2,r2,q2⟩=>⟨x::xs,H2,I2, .cons r1 r2,q2⟩
noncomputable def ztp (t:TA):TE:=fun σ H Q=>t σ H fun xs H1=>xs.length≤sizeLine∧ ∀p,H1 p=none→Q (.ref p) (upd H1 p (.tup xs))
noncomputable def ztC (t:TA):TE:=fun σ H Q=>t σ H fun xs H1=>xs.length≤sizeLine∧ ∀p,H1 p=none→Q (.ref p) (upd H1 p (.lst xs))
theorem zpq{x1}(h:PA X es t):PE X (.Tuple es x1 pos) (ztp t):=by
 intro pins s σ H Q I hq;refine wpAny_Tuple_spliced (thn (h pos pins s σ H _ I hq) fun us s1 ⟨xs,H1,I1,r,z,q⟩=>⟨by rw [←r.length];exact z,?_⟩);have hf:H1 s1.heap.objs.size=none:=I1.hok.fresh (Nat.le_refl _);refine⟨.ref s1.heap.objs.size,upd H1 s1.heap.objs.size (.tup xs),I1.laid (t':=s1.toks) (fun b u e=>Heap.get?_push_of_some _ e) (Nat.le_refl _) ?_,rfl,q _ hf⟩;exact⟨z,us,r,⟨_,Heap.get?_push_size _ rfl,rfl,_,rfl⟩⟩
theorem zov (h:PA X es t):PE X (.List es pos) (ztC t):=by
 intro pins s σ H Q I hq;refine wpAny_List_spliced (thn (h pos pins s σ H _ I hq) fun us s1 ⟨xs,H1,I1,r,z,q⟩=>⟨by rw [←r.length];exact z,?_⟩);have hf:H1 s1.heap.objs.size=none:=I1.hok.fresh (Nat.le_refl _);refine⟨.ref s1.heap.objs.size,upd H1 s1.heap.objs.size (.lst xs),I1.laid (t':=s1.toks) (fun b u e=>Heap.get?_push_of_some _ e) (Nat.le_refl _) ?_,rfl,q _ hf⟩;exact⟨z,us,0,r,Heap.get?_push_size _ rfl⟩
end
noncomputable abbrev Sp:=List V→Hp→VK→XK→Prop
noncomputable abbrev CXT:=List Env→Hp→Shared→XK→Value→Shared→Prop
structure Env0 (P:Program) (w:World) (K:PySem.W.Frag) (mg:Str→Option Value) (base:Heap) (A:Around) (outer:List Env) (s:Shared) (H:Hp):Prop where
  frames:A.frames=some outer
  mod:Mod K mg base
  bs:∀b o,base.get? b=some o→s.heap.get? b=some o∧H b=none
  bsz:base.objs.size≤s.heap.objs.size
  funs:s.heap.FunFrames base outer
  frf:∀b∈frs outer,H b=none
  hok:HOk P w H s.heap
  bare:AllBare s.gens
noncomputable def CE (outer:List Env) (P:Program) (w:World) (H:Hp) (s:Shared) (Q:VK) (u:Value) (s':Shared):Prop:=
 ∃v H',s'.os=s.os∧AllBare s'.gens∧Un (frs outer) [] H H' s.heap s'.heap∧HOk P w H' s'.heap∧RelV v u∧Q v H'
noncomputable def CR (CX:CXT) (outer:List Env) (P:Program) (w:World) (H:Hp) (s:Shared) (Q:VK) (E:XK) (r:Result) (s':Shared):Prop:=
 match r with
 | .ok (.ret u)=>CE outer P w H s Q u s'
 | .ok _=>False
 | .error e=>CX outer H s E e s'
structure FnOk (P:Program) (w:World) (K:PySem.W.Frag) (mg:Str→Option Value) (base:Heap) (CX:CXT) (k:Nat) (f:Addr) (fd:FuncData) (ps:List Str) (sp:Sp):Prop where
  len:∀vs H Q E,sp vs H Q E→vs.length=ps.length
  run:∀(A:Around) (outer:List Env) (s:Shared) (H:Hp) (args:Args) (us:List Value) (vs:List V) (Q:VK) (E:XK),Room k A→Env0 P w K mg base A outer s H→BindsTo s fd args (ps.zip us)→Vals vs us→sp vs H Q E→
    codeAny (model P w) A (.call (.ref f) args) (CR CX outer P w H s Q E) s
section
variable {X:Cx}{pins:List (Addr×Obj)}{σ:St}{H:Hp}{s:Shared}
theorem Inv.env0 (I:Inv X pins σ H s):Env0 X.prog X.w X.K X.mg X.base X.A X.stack s H:=
 ⟨I.ok.frames,I.ok.mod,I.bs,Nat.le_trans I.ok.bsz I.sz,I.stack,I.stkFree,I.hok,I.bare⟩
end
noncomputable def Binds (K:PySem.W.Frag) (fd:FuncData) (ps:List Str) (ds:List Value):Prop:=
 ∀(s:Shared) (us:List Value),K.In s.heap→(us++ds).length=ps.length→BindsTo s fd ⟨us,[]⟩ (ps.zip (us++ds))
theorem Binds.all{K:PySem.W.Frag}{fd:FuncData}{ps:List Str}(h:∀us:List Value,us.length=ps.length→bindArgs fd ⟨us,[]⟩=pure (ps.zip us)):Binds K fd ps []:=fun s us _ hl=>by
 rw [List.append_nil]at hl⊢;exact .of_eq (h us hl)
structure FnScope (N P:List Str) (sc:Scope):Prop where
  kind:sc.kind= .function
  co:sc.isCoroutine=false
  gen:sc.isGenerator=false
  nd:N.Nodup
  pre:N.take P.length=P
  par:∀x∈P,sc.names.lookup x=some .local∨sc.names.lookup x=some .cell
  nofree:∀y∈sc.names,y.2≠ .free
theorem zfw{kindOf:Str→Option NameKind}{x:Str}:∀{binds:List (Str×Value)}{m:Str→Option Value},(∀v,(x,v)∉binds)→bindL kindOf binds m x=m x
 | [],_,_=>rfl
 | (n,v)::r,m,h=>by
  unfold bindL;rw [zfw fun w hw=>h w (List.mem_cons_of_mem _ hw)];split
  ·have:x≠n:=by rintro rfl;exact h v List.mem_cons_self
   simp [this]
  ·rfl
theorem zfX{kindOf:Str→Option NameKind}{x:Str}:∀{binds:List (Str×Value)}{m:Str→Option Value},(∀v,(x,v)∉binds)→bindC kindOf binds m x=m x
 | [],_,_=>rfl
 | (n,v)::r,m,h=>by
  unfold bindC;rw [zfX fun w hw=>h w (List.mem_cons_of_mem _ hw)];split
  ·rfl
  ·have:x≠n:=by rintro rfl;exact h v List.mem_cons_self
   simp [this]
theorem zgu{kindOf:Str→Option NameKind}{x:Str}{v:Value}:∀{P:List Str}{vs:List Value}{i:Nat}{m:Str→Option Value},P.Nodup→P[i]? =some x→vs[i]? =some v→kindOf x=some .local→
  bindL kindOf (P.zip vs) m x=some v
 | [],_,_,_,_,h,_,_=>by simp at h
 |_::_,[],_,_,_,_,h,_=>by simp at h
 |p::P,w::vs,0,m,nd,h1,h2,hk=>by
  simp at h1 h2;subst h1;subst h2;show bindL kindOf ((p,w)::P.zip vs) m p=_;unfold bindL;rw [zfw fun v hv=>(List.nodup_cons.mp nd).1 (List.of_mem_zip hv).1,if_pos hk];simp
 |p::P,w::vs,i+1,m,nd,h1,h2,hk=>by
  show bindL kindOf ((p,w)::P.zip vs) m x=_;unfold bindL;exact zgu (i:=i) (List.nodup_cons.mp nd).2 (by simpa using h1) (by simpa using h2) hk
theorem zfH{kindOf:Str→Option NameKind}{x:Str}{v:Value}:∀{P:List Str}{vs:List Value}{i:Nat}{m:Str→Option Value},P.Nodup→P[i]? =some x→vs[i]? =some v→kindOf x≠some .local→
  bindC kindOf (P.zip vs) m x=some v
 | [],_,_,_,_,h,_,_=>by simp at h
 |_::_,[],_,_,_,_,h,_=>by simp at h
 |p::P,w::vs,0,m,nd,h1,h2,hk=>by
  simp at h1 h2;subst h1;subst h2;show bindC kindOf ((p,w)::P.zip vs) m p=_;unfold bindC;rw [zfX fun v hv=>(List.nodup_cons.mp nd).1 (List.of_mem_zip hv).1,if_neg hk];simp
 |p::P,w::vs,i+1,m,nd,h1,h2,hk=>by
  show bindC kindOf ((p,w)::P.zip vs) m x=_;unfold bindC;exact zfH (i:=i) (List.nodup_cons.mp nd).2 (by simpa using h1) (by simpa using h2) hk
noncomputable def start (N:List Str) (vs:List V):St:=vs.map some++List.replicate (N.length - vs.length) none
noncomputable def znU (CX:CXT) (P:Program) (w:World) (K:PySem.W.Frag) (mg:Str→Option Value) (base:Heap) (N:List Str) (qual:Str) (scope:Scope) (f:Addr) (cd:Value) (A:Around) (outer:List Env) (s:Shared) (H:Hp) (E:XK):Cx where
  prog:=P
  w:=w
  K:=K
  mg:=mg
  base:=base
  A:=A.deeper (envOfC qual scope s.heap.objs.size f cd)
  N:=N
  s₀:=s
  H₀:=H
  env:=envOfC qual scope s.heap.objs.size f cd
  outer:=outer
  stack:=envOfC qual scope s.heap.objs.size f cd::outer
  ex:=[]
  calm:=true
  fn:=fun _=>true
  pn:=[]
  xe:=fun e s'=>wpAny (model P w) (A.deeper (envOfC qual scope s.heap.objs.size f cd)) (leaving (envOfC qual scope s.heap.objs.size f cd) e) (fun _ s''=>CX outer H s E e s'') (fun e' s''=>CX outer H s E e' s'') s'
theorem zht{sc:Scope}{n:Nat}{x:Str}(h:sc.names.lookup x=some .cell):∃c,(cellsFrom n sc.names []).lookup x=some c:=by
 have q:=PySem.W.cellsFrom_some sc.names n [] (.inl h);exact Option.isSome_iff_exists.mp q
theorem zkh{CX:CXT}{P:Program}{w:World}{K:PySem.W.Frag}{mg:Str→Option Value}{base:Heap}{N ps:List Str}{qual:Str}{scope:Scope}{f:Addr}{cd:Value}{A:Around}{outer:List Env}{s s1:Shared}{H:Hp}{E:XK}{us:List Value}{vs:List V}
  (S:FnScope N ps scope) (hd:A.handled=none) (e0:Env0 P w K mg base A outer s H) (hl:vs.length=ps.length) (r:Vals vs us)
  (x:InCallC s s.heap.objs.size (bindL (envOfC qual scope s.heap.objs.size f cd).kindOf (ps.zip us) fun _=>none) (cellsFrom (s.heap.objs.size+1) scope.names []) (bindC (envOfC qual scope s.heap.objs.size f cd).kindOf (ps.zip us) fun _=>none) s1) :
  Inv (znU CX P w K mg base N qual scope f cd A outer s H E) [] (start N vs) H s1:=by
 have hpl:ps.length≤N.length:=by have:=congrArg List.length S.pre;rw [List.length_take]at this;omega
 obtain⟨h1,tk,rfl,hk⟩:=x.done;have noA:∀b:Addr,b∉(znU CX P w K mg base N qual scope f cd A outer s H E).ex:=fun b z=>absurd (show b∈([]:List Addr) from z) (by simp);refine⟨⟨e0.mod,S.kind,rfl,rfl,Nat.le_refl _,fun y z c h1 h2=>?_,fun y hy=>?_,fun y c _ h=>?_,fun _=>hd,Around.frames_deeper e0.frames, .inr ⟨rfl,rfl⟩,fun b z=>absurd z (noA b),e0.bs,e0.bsz,fun b _ _=>noA b,fun b z=>absurd z (noA b),e0.funs,e0.frf⟩,
  rfl,e0.bare,Un.kept hk,⟨_,x.toInCall.ns,fun i y v h1 h2 h3=>?_⟩,fun y c h=>⟨_,x.cell y c h⟩,e0.hok.fresh (Nat.le_refl _),fun y c h=>?_,fun p hp=>absurd (show p∈([]:List (Addr×Obj)) from hp) (by simp),e0.hok.kept hk,?_⟩
 ·exact name_of_addr x.apart (PySem.mem_of_lookup h1) (PySem.mem_of_lookup h2)
 ·have hy:scope.names.lookup y=some .cell∨scope.names.lookup y=some .free:=hy;rcases hy with hy |hy
  ·exact zht hy
  ·exact absurd rfl (S.nofree _ (PySem.mem_of_lookup hy))
 ·exact Nat.le_of_lt (x.above y c (PySem.mem_of_lookup h))
 ·have hi:i<vs.length:=by
   unfold start at h2;by_cases hi:i<vs.length
   ·exact hi
   ·rw [List.getElem?_append_right (by simpa using hi)]at h2;rw [List.getElem?_replicate]at h2;split at h2<;>cases h2
  have ha:vs[i]? =some v:=by
   unfold start at h2;rw [List.getElem?_append_left (by simpa using hi),List.getElem?_map]at h2;cases e:vs[i]? with
   |none=>rw [e]at h2;cases h2
   |some a=>rw [e]at h2;cases h2;rfl
  obtain⟨u,hu,rv⟩:=r.get ha;have hp:ps[i]? =some y:=by
   rw [←S.pre,List.getElem?_take_of_lt (by omega)];exact h1
  have ndP:ps.Nodup:=by rw [←S.pre];exact S.nd.sublist (List.take_sublist _ _)
  refine⟨u,rv,?_⟩;rcases S.par y (List.mem_of_getElem? hp) with k |k
  ·exact .inl ⟨k,zgu ndP hp hu k⟩
  ·obtain⟨c,e⟩:=zht (n:=s.heap.objs.size+1) k;refine .inr ⟨.inl k,c,e,?_⟩;have q:=x.cell y c e;rw [zfH ndP hp hu (by show scope.names.lookup y≠_;rw [k];decide)]at q;exact q
 ·exact e0.hok.fresh (Nat.le_of_lt (x.above y c (PySem.mem_of_lookup h)))
 ·unfold start;show _=N.length;rw [List.length_append,List.length_map,List.length_replicate];omega
theorem zqV{CX:CXT}{P:Program}{w:World}{K:PySem.W.Frag}{mg:Str→Option Value}{base:Heap}{k:Nat}{f:Addr}{name qual:Str}{params:Arguments}{body:List Stmt}{scope:Scope}{dV kV doc pm cdv ct oc:Value}{an od:Option Addr}
  {osl:Array (Option Value)}{N ps:List Str}{sp:Sp}(lk:K.lookup f=some ⟨oc,od, .func (PySem.W.fnOf name qual params body scope dV kV doc pm an cdv ct),osl⟩) (hcd:PySem.W.codeIn K cdv qual=true) (S:FnScope N ps scope)
  (len:∀vs H Q E,sp vs H Q E→vs.length=ps.length)
  (hbody:∀(A:Around) (outer:List Env) (s:Shared) (H:Hp) (vs:List V) (Q:VK) (E:XK),Room k (A.deeper (envOfC qual scope s.heap.objs.size f cdv))→sp vs H Q E→
   ∃t,PSs (znU CX P w K mg base N qual scope f cdv A outer s H E) body t∧t { nx:=fun _ H'=>Q .non H',rt:=Q } (start N vs) H) :
  FnOk P w K mg base CX (k+1) f (PySem.W.fnOf name qual params body scope dV kV doc pm an cdv ct) ps sp:=by
 refine⟨len,fun A outer s H args us vs Q E hr e0 hb r hsp=>?_⟩;have hl:=len _ _ _ _ hsp;have KX:K.In s.heap:=e0.mod.kin.keeps fun b o e=>(e0.bs b o e).1;have lim:s.heap.NoLimit:=e0.mod.nolimit.keeps fun b o e=>(e0.bs b o e).1;have hkind:∀y∈ps.zip us,scope.names.lookup y.1=some .local∨(scope.names.lookup y.1=some .cell∧((cellsFrom (s.heap.objs.size+1) scope.names []).lookup y.1).isSome=true):=fun⟨n,v⟩ hy=>by
  rcases S.par n (List.of_mem_zip hy).1 with q |q
  ·exact .inl q
  ·exact .inr ⟨q,PySem.W.cellsFrom_some _ _ _ (.inl q)⟩
 refine codeAny_call_function hr.depth (KX _ _ lk) rfl S.co S.gen rfl (PySem.W.codeRec_of KX hcd) (hb _ _ _ _ ?_);refine wpAny_newFunctionEnv_cells S.kind hkind fun env he s1 x=>?_;subst he;refine⟨lim.keeps x.toInCall.keep,codeAny_func ?_⟩;obtain⟨t,ht,hq⟩:=hbody A outer s H vs Q E (hr.deeper _) hsp;have I:Inv (znU CX P w K mg base N qual scope f cdv A outer s H E) [] (start N vs) H s1:=zkh S hr.hd e0 hl r x;refine wpAny_mono (ht [] s1 (start N vs) H _ I hq) (fun fl s' hs=>?_) fun e s' hs=>hs;have fin:∀{σ':St}{H':Hp}{v:V}{u:Value},Inv (znU CX P w K mg base N qual scope f cdv A outer s H E) [] σ' H' s'→RelV v u→Q v H'→CE outer P w H s Q u s':=
  fun {σ' H' v u} J rv q=>⟨v,H',J.os,J.bare,J.base,J.hok,rv,q⟩
 cases fl with
 |ret u=>
  obtain⟨v,σ',H',J,rv,q⟩:=hs;exact fin J rv q
 |next=>
  obtain⟨σ',H',J,q⟩:=hs;exact fin (v:=V.non) (u:=Value.none) J rfl q
 |brk=>
  obtain⟨_,_,_,q⟩:=hs;exact False.elim q
 |cont=>
  obtain⟨_,_,_,q⟩:=hs;exact False.elim q
section
variable {X:Cx}{x:Str}{p pos:Pos}{e:Expr}{es:List Expr}{t:TA}{id T:String}{r:List V→Hp→VK→Prop}
noncomputable def tCB (r:List V→Hp→VK→Prop) (t:TA):TE:=fun σ H Q=>t σ H fun vs H1=>r vs H1 Q
theorem zdW (hc:CallR X (.builtin id) r) (hg:Gl X x) (hm:X.mg x=none) (hv:bootBuiltins x=some (.builtin id)) (ha:PA X (e::es) t) (hn:x≠ "__name__" :=by decide) (hdb:(x == ("__debug__" :Str))=false:=by decide)
  (he:starEach (e::es) X.env=(false,eval e X.env)::starEach es X.env:=by rfl) (hpl:(backTo pos (starEach es X.env)).any (·.1)=false:=by rfl):PE X (.Call (.Name x p) (e::es) [] pos) (tCB r t):=by
 intro pins s σ H Q I h;refine wpAny_Call_Name_kw (zgc I hg hm hv ?_ hn hdb);exact PyProof.Rows.callWith_builtin1 (thn (ha pos pins s σ H _ I h) fun us s1 ⟨vs,H1,I1,r1,q1⟩=>hc pins s1 σ H1 vs us Q I1 r1 q1) he hpl
theorem zef (hc:CallR X (.type T) r) (hg:Gl X x) (hm:X.mg x=none) (hv:bootBuiltins x=some (.type T)) (ha:PA X (e::es) t) (hn:x≠ "__name__" :=by decide) (hdb:(x == ("__debug__" :Str))=false:=by decide)
  (he:starEach (e::es) X.env=(false,eval e X.env)::starEach es X.env:=by rfl) (hpl:(backTo pos (starEach es X.env)).any (·.1)=false:=by rfl):PE X (.Call (.Name x p) (e::es) [] pos) (tCB r t):=by
 intro pins s σ H Q I h;refine wpAny_Call_Name_kw (zgc I hg hm hv ?_ hn hdb);exact PyProof.Rows.callWith_type1 (thn (ha pos pins s σ H _ I h) fun us s1 ⟨vs,H1,I1,r1,q1⟩=>hc pins s1 σ H1 vs us Q I1 r1 q1) he hpl
end
end L2
namespace HT
open PySem PyProof.Rows
section
variable {prog:Program}{w:World}{A:Around}{E:Value→Shared→Prop}{s:Shared}
theorem cat_tup{t b:Addr}{vs ws:List Value}{Q:Value→Shared→Prop}(ht:IsTup s.heap t vs.toArray) (hb:IsTup s.heap b ws.toArray) (hv:vs≠ [])
  (h1:ws=[]→Q (.ref t) s) (h2:ws≠ []→Q (.ref s.heap.objs.size) { s with heap:=s.heap.push { cls:= .type "tuple",data:= .seq (vs++ws).toArray } })
  (hsz:vs.length+ws.length≤sizeLine):wpAny (model prog w) A (binaryOp .Add (.ref t) (.ref b)) Q E s:=by
 obtain⟨⟨cls,dd,data,sl⟩,ho,hc,n,hd⟩:=id ht;obtain⟨⟨cls2,dd2,data2,sl2⟩,ho2,hc2,n2,hd2⟩:=id hb;simp only at hc hd hc2 hd2;subst hc hd hc2 hd2;have e:vs.toArray++ws.toArray=(vs++ws).toArray:=by simp
 by_cases hw:ws=[]
 ·exact concat_meets ⟨_,ho,rfl⟩ ⟨_,ho2,rfl⟩ noFill_tuple_add seq_tuple_add PySem.F.slot_tuple_add PySem.F.entry_tuple_add (PySem.F.args_tuple_add_2 _ _)
   (tuple_addW1 t b vs.toArray ws.toArray n n2 dd dd2 sl sl2 (by simpa using hv) (by simp [hw])) ⟨ho,ho2,h1 hw⟩
 ·refine concat_meets ⟨_,ho,rfl⟩ ⟨_,ho2,rfl⟩ noFill_tuple_add seq_tuple_add PySem.F.slot_tuple_add PySem.F.entry_tuple_add (PySem.F.args_tuple_add_2 _ _)
   (tuple_addW2 t b vs.toArray ws.toArray n n2 dd dd2 sl sl2 (by simpa using hv) (by simpa using hw) (by rw [List.size_toArray,List.size_toArray];exact hsz)) ⟨ho,ho2,?_⟩
  rw [e];exact h2 hw
noncomputable def sIx (n d:Nat):Option Int→Nat
 |none=>d
 |some v=>if v<0 then(v+(n:Int)).toNat else min v.toNat n
theorem sIx_none (n d:Nat):sIx n d none=d:=rfl
theorem sIx_nat (n d k:Nat):sIx n d (some (k:Int))=min k n:=by
 show(if(k:Int)<0 then((k:Int)+(n:Int)).toNat else min (k:Int).toNat n)=min k n;rw [if_neg (by omega),Int.toNat_natCast]
theorem sIx_le (n d:Nat) (hd:d≤n) (o:Option Int):sIx n d o≤n:=by
 cases o with
 |none=>exact hd
 |some v=>
  show(if v<0 then(v+(n:Int)).toNat else min v.toNat n)≤n;by_cases hv:v<0
  ·rw [if_pos hv];omega
  ·rw [if_neg hv];exact Nat.min_le_right _ _
theorem ziR (v:Int) (n d:Nat):(if v<0 then max (v+(n:Int)) 0 else min v (n:Int))=((sIx n d (some v):Nat):Int):=by
 show(if v<0 then max (v+(n:Int)) 0 else min v (n:Int))=(((if v<0 then(v+(n:Int)).toNat else min v.toNat n):Nat):Int);by_cases hv:v<0
 ·simp only[if_pos hv];omega
 ·simp only[if_neg hv];omega
theorem zid (lo hi:Option Int) (n:Nat):Builtin.Slice.sliceAdjust lo hi 1 (n:Int)=(((sIx n 0 lo:Nat):Int),((sIx n n hi:Nat):Int)):=by
 have h1:¬((1:Int)<0):=by omega
 unfold Builtin.Slice.sliceAdjust;simp only[h1,if_false];refine Prod.ext ?_ ?_
 ·cases lo with
  |none=>rfl
  |some v=>exact ziR v n 0
 ·cases hi with
  |none=>rfl
  |some v=>exact ziR v n n
theorem ziq (i j:Nat):Builtin.Slice.slicePlaces (i:Int) (j:Int) 1=j - i:=by
 unfold Builtin.Slice.slicePlaces;have h1:(1:Int) > 0:=by omega
 simp only[h1,if_true,Int.ediv_one];split<;>omega
theorem zeF{v:Value}{o:Option Int}{Q:Option Int→Shared→Prop}(p:IsPart v o) (h:Q o s):wpAny (model prog w) A (Builtin.Slice.slicePartIndex v) Q E s:=by
 cases p with
 |none=>exact slicePart_none h
 |int i t=>exact slicePart_int h
theorem sliceApplied_gen{sl:Addr}{vl vu:Value}{lo hi:Option Int}{n:Nat}{Q:Int×Int×Nat→Shared→Prop}(hs:s.heap.IsSliceOf sl vl vu .none) (pl:IsPart vl lo) (pu:IsPart vu hi)
  (h:Q (((sIx n 0 lo:Nat):Int),1,sIx n n hi - sIx n 0 lo) s):wpAny (model prog w) A (Builtin.Slice.sliceApplied (.ref sl) (pure (n:Int))) Q E s:=by
 obtain⟨os,hos,hcs,hds⟩:=id hs;unfold Builtin.Slice.sliceApplied Builtin.Slice.sliceFields;refine wpAny_bind (wpAny_bind (wpAny_field hos hds (x:=vl) rfl (wpAny_bind (wpAny_field hos hds (x:=vu) rfl (wpAny_bind (wpAny_field hos hds (x:= .none) rfl (wpAny_pure ?_)))))));refine wpAny_bind (slicePart_none ?_);show wpAny _ _ (if((1:Int) == 0)=true then _ else _) _ _ s;rw [if_neg (by decide)];refine wpAny_bind (zeF pl (wpAny_bind (zeF pu (wpAny_bind (wpAny_pure ?_)))));show wpAny _ _ (match Builtin.Slice.sliceAdjust lo hi 1 (n:Int) with | (lo,hi)=>pure (lo,(1:Int),Builtin.Slice.slicePlaces lo hi 1)) _ _ s;rw [zid lo hi n];show wpAny _ _ (pure (((sIx n 0 lo:Nat):Int),(1:Int),Builtin.Slice.slicePlaces ((sIx n 0 lo:Nat):Int) ((sIx n n hi:Nat):Int) 1)) _ _ s;rw [ziq];exact wpAny_pure h
theorem zkX (xs:Array Value) (i k:Nat):((List.range k).filterMap fun(m:Nat)=>xs[((i:Int)+(m:Int)*1).toNat]?).toArray=((xs.toList.drop i).take k).toArray:=by
 have e:(fun(m:Nat)=>xs[((i:Int)+(m:Int)*1).toNat]?)=fun m=>xs[i+m]? :=by
  funext m;have:((i:Int)+(m:Int)*1).toNat=i+m:=by omega
  rw [this]
 rw [e];have:=pick_run xs i k;rw [List.filterMap_map]at this;have e2:((fun x=>xs[x]?)∘fun x=>i+x)=fun m=>xs[i+m]? :=rfl;rw [e2]at this;rw [this]
theorem getItem_tuple_cut{t sl:Addr}{items:Array Value}{vl vu:Value}{lo hi:Option Int}{Q:Value→Shared→Prop}(ht:IsTup s.heap t items) (hs:s.heap.IsSliceOf sl vl vu .none) (pl:IsPart vl lo) (pu:IsPart vu hi)
  (hw:¬(sIx items.size 0 lo=0∧sIx items.size items.size hi=items.size))
  (h:Q (.ref s.heap.objs.size) { s with heap:=s.heap.push { cls:= .type "tuple",data:= .seq ((items.toList.drop (sIx items.size 0 lo)).take (sIx items.size items.size hi - sIx items.size 0 lo)).toArray } })
  (hsz:items.size≤sizeLine):wpAny (model prog w) A (getItem (.ref t) (.ref sl)) Q E s:=by
 have htake:sizeOk (.seq ((items.toList.drop (sIx items.size 0 lo)).take (sIx items.size items.size hi - sIx items.size 0 lo)).toArray):=by
  show((items.toList.drop (sIx items.size 0 lo)).take (sIx items.size items.size hi - sIx items.size 0 lo)).toArray.size≤sizeLine;rw [List.size_toArray,List.length_take,List.length_drop,Array.length_toList];omega
 have hj:sIx items.size items.size hi≤items.size:=sIx_le _ _ (Nat.le_refl _) hi;obtain⟨os,hos,hcs,hds⟩:=id hs;have hTs:s.TypeIs (.ref sl) "slice" :=⟨os,hos,hcs⟩;unfold getItem
 try with_reducible refine wpAny_holding ?_
 first |refine wpAny_bind (wpAny_pure ?_) |skip
 refine wpAny_bind (wpAny_sequenceKey ht.typeIs (by decide) ?_);refine wpAny_bind (wpAny_callSpecial?_slot (name:=Str.ofString "__getitem__") ht.typeIs PyProof.Rows.slot_tuple_getitem
  (wpAny_call_entry PyProof.Rows.slot_tuple_getitem ht.typeIs entry_tuple_getitem ?_ (args_tuple_getitem _ _)))
 show wpAny _ _ (Builtin.Tuple.tupleItemsOf (.ref t) >>= _) _ _ s;refine wpAny_bind (tupleItemsOf_ ht ?_);refine wpAny_bind (wpAny_typeOf hTs ?_);rw [if_pos (by decide)];refine wpAny_bind (sliceApplied_gen hs pl pu ?_);have hno:¬((((sIx items.size 0 lo:Nat):Int) == 0&&(1:Int) == 1&&(sIx items.size items.size hi - sIx items.size 0 lo) == items.size)=true):=by
  intro q;rw [Bool.and_eq_true,Bool.and_eq_true]at q;have q1:((sIx items.size 0 lo:Nat):Int)=0:=eq_of_beq q.1.1;have q2:sIx items.size items.size hi - sIx items.size 0 lo=items.size:=eq_of_beq q.2;exact hw ⟨by omega,by omega⟩
 show wpAny _ _ (if(((sIx items.size 0 lo:Nat):Int) == 0&&(1:Int) == 1&&(sIx items.size items.size hi - sIx items.size 0 lo) == items.size)=true then _ else _) _ _ s;rw [if_neg hno,zkX]
 first
  |exact wpAny_bind (m:=Builtin.Tuple.tupleExact _) (wpAny_newObj_type (wpAny_pure ⟨_,rfl,wpAny_pure h⟩) htake)
  |exact wpAny_bind (m:=Builtin.Tuple.tupleExact _) (wpAny_newObj_type (wpAny_bind (wpAny_pure (wpAny_pure ⟨_,rfl,wpAny_pure h⟩))) htake)
  |exact wpAny_bind (wpAny_bind (m:=Builtin.Tuple.tupleExact _) (wpAny_newObj_type (wpAny_pure (wpAny_pure ⟨_,rfl,wpAny_pure h⟩)) htake))
  |exact wpAny_bind (wpAny_bind (m:=Builtin.Tuple.tupleExact _) (wpAny_newObj_type (wpAny_pure ⟨_,rfl,wpAny_pure h⟩) htake))
end
end HT
namespace L2
open PySem PySem.Spec PyProof.Rows
noncomputable abbrev TO:=St→Hp→(Option Int→Hp→Prop)→Prop
noncomputable def PO (X:Cx) (e:Option Expr) (t:TO):Prop:=
 ∀(pins:List (Addr×Obj)) (s:Shared) (σ:St) (H:Hp) (Q:Option Int→Hp→Prop),Inv X pins σ H s→t σ H Q→
  wpAny (model X.prog X.w) X.A (evalPart e X.env) (fun u s'=>∃o H',Inv X pins σ H' s'∧IsPart u o∧Q o H') X.xe s
noncomputable def zoi:TO:=fun _ H Q=>Q none H
noncomputable def zrr (t:TE):TO:=fun σ H Q=>t σ H fun x H1=>∃i,x= .int i∧Q (some i) H1
section
variable {X:Cx}{e:Expr}{te:TE}{lo hi:Option Expr}{tl th:TO}{pos p2:Pos}
theorem po_none:PO X none zoi:=by
 intro pins s σ H Q I h;rw [evalPart_none];exact wpAny_pure ⟨none,H,I, .none,h⟩
theorem znG (h:PE X e te):PO X (some e) (zrr te):=by
 intro pins s σ H Q I hw;rw [evalPart_some];refine thn (h pins s σ H _ I hw) fun u s1 ⟨x,H1,I1,r1,q1⟩=>?_;obtain⟨i,rfl,q⟩:=q1;obtain⟨t,rfl⟩:=r1;exact⟨some i,H1,I1, .int i t,q⟩
noncomputable def SlR (X:Cx) (r:V→Option Int→Option Int→Hp→VK→Prop):Prop:=
 ∀(pins:List (Addr×Obj)) (s:Shared) (σ:St) (H:Hp) (x:V) (v vl vu:Value) (lo hi:Option Int) (sl:Addr) (Q:VK),Inv X pins σ H s→RelV x v→s.heap.IsSliceOf sl vl vu .none→IsPart vl lo→IsPart vu hi→r x lo hi H Q→
  ∃T id,typeLookup (.type T) "__getitem__" =pure (some (.builtin id))∧s.TypeIs v T∧wpAny (model X.prog X.w) X.A (getItem v (.ref sl)) (EP X pins σ Q) X.xe s
theorem SlR.or{r r':V→Option Int→Option Int→Hp→VK→Prop}(h:SlR X r) (h':SlR X r'):SlR X (fun x lo hi H Q=>r x lo hi H Q∨r' x lo hi H Q):=by
 intro pins s σ H x v vl vu lo hi sl Q I rx hs pl pu q;rcases q with q |q
 ·exact h pins s σ H x v vl vu lo hi sl Q I rx hs pl pu q
 ·exact h' pins s σ H x v vl vu lo hi sl Q I rx hs pl pu q
noncomputable def tSl (r:V→Option Int→Option Int→Hp→VK→Prop) (te:TE) (tl th:TO):TE:=fun σ H Q=>te σ H fun x H1=>tl σ H1 fun l H2=>th σ H2 fun u H3=>r x l u H3 Q
theorem zhI{r:V→Option Int→Option Int→Hp→VK→Prop}(hr:SlR X r) (he:PE X e te) (hl:PO X lo tl) (hu:PO X hi th):PE X (.Subscript e (.Slice lo hi none p2) pos) (tSl r te tl th):=by
 intro pins s σ H Q I h;refine Subscript_ (thn (he pins s σ H _ I h) fun v s1 ⟨x,H1,I1,r1,q1⟩=>?_);refine wpAny_Slice (thn (hl pins s1 σ H1 _ I1 q1) fun vl s2 ⟨l,H2,I2,pl,q2⟩=>thn (hu pins s2 σ H2 _ I2 q2) fun vu s3 ⟨u,H3,I3,pu,q3⟩=>?_);rw [evalPart_none];refine wpAny_pure ?_;have I4:Inv X pins σ H3 { s3 with heap:=s3.heap.push { cls:= .type "slice",data:= .fields #[vl,vu, .none] } }:=I3.kept (t':=s3.toks) fun b ob q=>Heap.get?_push_of_some _ q;obtain⟨T,id,hT,ht,hg⟩:=hr pins { s3 with heap:=s3.heap.push { cls:= .type "slice",data:= .fields #[vl,vu, .none] } } σ H3 x v vl vu l u s3.heap.objs.size Q I4 r1 (Heap.IsSliceOf.new ..) pl pu q3;show wpAny (model X.prog X.w) X.A (subscriptTail e (.Slice lo hi none p2) v (.ref s3.heap.objs.size)) (EP X pins σ Q) X.xe { s3 with heap:=s3.heap.push { cls:= .type "slice",data:= .fields #[vl,vu, .none] } };exact tail_any (ops:=[.ref s3.heap.objs.size,v]) ht hT hg (by with_unfolding_all rfl)
noncomputable def ziD (xs:List V) (lo hi:Option Int):List V:=(xs.drop (HT.sIx xs.length 0 lo)).take (HT.sIx xs.length xs.length hi - HT.sIx xs.length 0 lo)
theorem zeo (xs:List V) (lo hi:Option Int):(ziD xs lo hi).length≤xs.length:=by
 unfold ziD;rw [List.length_take,List.length_drop];omega
noncomputable def ztz (K:PySem.W.Frag):V→Option Int→Option Int→Hp→VK→Prop:=fun x lo hi H Q=>∃a xs,x= .ref a∧SqT K H a xs∧
 ¬(HT.sIx xs.length 0 lo=0∧HT.sIx xs.length xs.length hi=xs.length)∧ ∀p,H p=none→Q (.ref p) (upd H p (.tup (ziD xs lo hi)))
theorem zoz:SlR X (ztz X.K):=by
 intro pins s σ H x v vl vu lo hi sl Q I rx hs pl pu h;obtain⟨a,xs,rfl,hx,hw,q⟩:=h;cases rx;obtain⟨its,r,ht,hz⟩:=I.tuple hx;have hlen:its.toArray.size=xs.length:=by rw [List.size_toArray];exact r.length.symm
 refine⟨"tuple",_,PyProof.Rows.slot_tuple_getitem.lookup,ht.typeIs,?_⟩;refine HT.getItem_tuple_cut ht hs pl pu (by rw [hlen];exact hw) ?_ (by rw [hlen];exact hz);rw [hlen];refine⟨.ref s.heap.objs.size,_,I.laid (t':=s.toks) (o:= .tup (ziD xs lo hi)) (fun b ob q=>Heap.get?_push_of_some _ q) (Nat.le_refl _) ?_,rfl,q _ (I.hok.fresh (Nat.le_refl _))⟩;exact⟨Nat.le_trans (zeo xs lo hi) hz,_,(r.drop (HT.sIx xs.length 0 lo)).take (HT.sIx xs.length xs.length hi - HT.sIx xs.length 0 lo),IsTup.new _ _⟩
noncomputable def znh (K:PySem.W.Frag):R2:=fun x y H Q=>∃a b xs ys,x= .ref a∧y= .ref b∧SqT K H a xs∧SqT K H b ys∧xs≠ []∧xs.length+ys.length≤sizeLine∧
 (ys=[]→Q (.ref a) H)∧(ys≠ []→ ∀p,H p=none→Q (.ref p) (upd H p (.tup (xs++ys))))
theorem Vals.nil_iff{xs:List V}{us:List Value}(r:Vals xs us):us=[]↔xs=[]:=by
 cases r with
 |nil=>simp
 |cons _ _=>simp
theorem op_catT:OpR X (binaryOp .Add) (znh X.K):=by
 intro pins s σ H x y v u Q I rx ry h;obtain⟨a,b,xs,ys,rfl,rfl,ha,hb,hx,hz,q1,q2⟩:=h;cases rx;cases ry;obtain⟨its,r1,p1,_⟩:=I.tuple ha;obtain⟨its2,r2,p2,_⟩:=I.tuple hb;refine HT.cat_tup p1 p2 (fun z=>hx (r1.nil_iff.mp z)) (fun z=>⟨.ref a,H,I,rfl,q1 (r2.nil_iff.mp z)⟩) (fun z=>?_) (by rw [←r1.length,←r2.length];exact hz);refine⟨.ref s.heap.objs.size,_,I.laid (t':=s.toks) (o:= .tup (xs++ys)) (fun b ob q=>Heap.get?_push_of_some _ q) (Nat.le_refl _) ?_,rfl,q2 (fun w=>z (r2.nil_iff.mpr w)) _ (I.hok.fresh (Nat.le_refl _))⟩;exact⟨by rw [List.length_append];exact hz,_,r1.append r2,IsTup.new _ _⟩
end
noncomputable def ixN (n:Nat) (i:Int):Option Nat:=if 0≤i then(if i<n then some i.toNat else none) else if -(n:Int)≤i then some (i+n).toNat else none
noncomputable def atI {α:Type}(xs:List α) (i:Int):Option α:=(ixN xs.length i).bind fun j=>xs[j]?
theorem znu{n:Nat}{i:Int}{j:Nat}(h:ixN n i=some j):seqIndex? i n=some j∧j<n∧ -(n:Int)≤i∧i<n:=by
 unfold ixN at h;by_cases h0:0≤i
 ·rw [if_pos h0]at h;by_cases h1:i<n
  ·rw [if_pos h1]at h;have e:i.toNat=j:=Option.some.inj h;exact⟨by rw [seqIndex_of h0 h1,e],by omega,by omega,h1⟩
  ·rw [if_neg h1]at h;cases h
 ·rw [if_neg h0]at h;by_cases h1: -(n:Int)≤i
  ·rw [if_pos h1]at h;have e:(i+n).toNat=j:=Option.some.inj h;exact⟨by rw [seqIndex_neg (by omega) h1,e],by omega,h1,by omega⟩
  ·rw [if_neg h1]at h;cases h
theorem zhe{α:Type}{xs:List α}{i:Int}{v:α}(h:atI xs i=some v):∃j,seqIndex? i xs.length=some j∧xs[j]? =some v∧j<xs.length∧ -(xs.length:Int)≤i∧i<xs.length:=by
 unfold atI at h;cases e:ixN xs.length i with
 |none=>rw [e]at h;cases h
 |some j=>
  rw [e]at h;obtain⟨h1,h2,h3,h4⟩:=znu e;exact⟨j,h1,h,h2,h3,h4⟩
noncomputable def zhb (b:Expr):Prop:=∀o i,subscripted b false o i=operate [o,i] (getItem o i)
noncomputable def IxR (X:Cx) (r:R2):Prop:=
 ∀(value slice:Expr) (pins:List (Addr×Obj)) (s:Shared) (σ:St) (H:Hp) (x y:V) (v u:Value) (Q:VK),Inv X pins σ H s→RelV x v→RelV y u→r x y H Q→
  subscripted slice false v u=operate [v,u] (getItem v u)→wpAny (model X.prog X.w) X.A (subscriptTail value slice v u) (EP X pins σ Q) X.xe s
noncomputable def MtR (X:Cx) (id:String) (r:V→List V→Hp→VK→Prop):Prop:=
 ∀(pins:List (Addr×Obj)) (s:Shared) (σ:St) (H:Hp) (x:V) (xs:List V) (v:Value) (us:List Value) (Q:VK),Inv X pins σ H s→RelV x v→Vals xs us→r x xs H Q→
  wpAny (model X.prog X.w) X.A (call (.builtin id) (v::us)) (EP X pins σ Q) X.xe s
section
variable {X:Cx}{a b:Expr}{ta tb:TE}{pos:Pos}
theorem IxR.or{r r':R2}(h:IxR X r) (h':IxR X r'):IxR X (fun x y H Q=>r x y H Q∨r' x y H Q):=by
 intro value slice pins s σ H x y v u Q I rx ry q hs;rcases q with q |q
 ·exact h value slice pins s σ H x y v u Q I rx ry q hs
 ·exact h' value slice pins s σ H x y v u Q I rx ry q hs
theorem MtR.or{id:String}{r r':V→List V→Hp→VK→Prop}(h:MtR X id r) (h':MtR X id r'):MtR X id (fun x xs H Q=>r x xs H Q∨r' x xs H Q):=by
 intro pins s σ H x xs v us Q I rx rs q;rcases q with q |q
 ·exact h pins s σ H x xs v us Q I rx rs q
 ·exact h' pins s σ H x xs v us Q I rx rs q
theorem zqs{r:R2}(hr:IxR X r) (ha:PE X a ta) (hb:PE X b tb) (hs:zhb b):PE X (.Subscript a b pos) (tOp r ta tb):=by
 intro pins s σ H Q I h;exact Subscript_ (zrK ha hb I h fun v u s2 x y H2 I2 rx ry q=>hr a b pins s2 σ H2 x y v u Q I2 rx ry q (hs _ _))
noncomputable def zsB (K:PySem.W.Frag):R2:=fun x y H Q=>∃p xs i v,x= .ref p∧y= .int i∧SqL K H p xs∧atI xs i=some v∧Q v H
noncomputable def zsN (K:PySem.W.Frag):R2:=fun x y H Q=>∃p xs i v,x= .ref p∧y= .int i∧SqT K H p xs∧atI xs i=some v∧Q v H
noncomputable def zsH:R2:=fun x y H Q=>∃z i c,x= .str z∧y= .int i∧z.length≤sizeLine∧atI z.cps.toList i=some c∧Q (.str ⟨#[c]⟩) H
theorem ix_list:IxR X (zsB X.K):=by
 intro value slice pins s σ H x y v u Q I rx ry h hs;obtain⟨p,xs,i,z,rfl,rfl,hq,he,q⟩:=h;cases rx;obtain⟨t,rfl⟩:=ry;obtain⟨its,r,pl,hz⟩:=I.list hq;obtain⟨j,h1,h2,h3,h4,h5⟩:=zhe he;obtain⟨w,ew,rw'⟩:=r.get h2;have hl:=r.length;have hn:=zeK;have fin:EP X pins σ Q w s:=⟨z,H,I,rw',q⟩;by_cases h0:0≤i
 ·have hj:i.toNat=j:=by
   rw [seqIndex_of h0 h5]at h1;exact Option.some.inj h1
  exact item_listR pl.isList h0 (by omega) (by rw [hj];simpa using ew) fin hs
 ·have hj:(i+(its.toArray.size:Int)).toNat=j:=by
   rw [seqIndex_neg (by omega) h4]at h1;rw [List.size_toArray,←hl];exact Option.some.inj h1
  exact subscriptTail_builtinR (x:=w) pl.isList.typeIs slot_list_getitem.lookup
   (wpAny_getItem_list_neg (Q:=fun r s'=>r=w∧EP X pins σ Q r s') pl.isList (by omega) (by rw [List.size_toArray]<;>omega) (by omega) (by rw [hj];simpa using ew) ⟨rfl,fin⟩) hs
theorem ix_tup:IxR X (zsN X.K):=by
 intro value slice pins s σ H x y v u Q I rx ry h hs;obtain⟨p,xs,i,z,rfl,rfl,hq,he,q⟩:=h;cases rx;obtain⟨t,rfl⟩:=ry;obtain⟨its,r,pl,hz⟩:=I.tuple hq;obtain⟨j,h1,h2,h3,h4,h5⟩:=zhe he;obtain⟨w,ew,rw'⟩:=r.get h2;have hl:=r.length;have hn:=zeK;have fin:EP X pins σ Q w s:=⟨z,H,I,rw',q⟩;exact subscriptTail_builtinR (x:=w) pl.typeIs slot_tuple_getitem.lookup
  (getItem_tuple (j:=j) (Q:=fun r s'=>r=w∧EP X pins σ Q r s') pl (by omega) (by omega) (by rw [List.size_toArray,←hl];exact h1) (by simpa using ew) ⟨rfl,fin⟩) hs
theorem zoX:IxR X zsH:=by
 intro value slice pins s σ H x y v u Q I rx ry h hs;obtain⟨z,i,c,rfl,rfl,hz,he,q⟩:=h;obtain⟨t,rfl⟩:=rx;obtain⟨t',rfl⟩:=ry;obtain⟨j,h1,h2,h3,h4,h5⟩:=zhe he;have hl:z.cps.toList.length=z.length:=by simp [Str.length]
 rw [hl]at h1 h4 h5;have hn:=zeK;exact tail_any (typeIs_str s z t) slot_str_getitem.lookup (getItem_str (c:=c) (by
  have e1:decide (i< -(2 ^ 63:Int))=false:=decide_eq_false (by omega);have e2:decide (i≥2 ^ 63)=false:=decide_eq_false (by omega);rw [e1,e2,Bool.or_false]) (by rw [h1];simpa using h2) ⟨.str ⟨#[c]⟩,H,I.tok _,⟨_,rfl⟩,q⟩) hs
noncomputable def rIx (K:PySem.W.Frag):R2:=fun x y H Q=>zsB K x y H Q∨zsN K x y H Q∨zsH x y H Q
theorem zmg:IxR X (rIx X.K):=ix_list.or (ix_tup.or zoX)
theorem zgh (lo hi:Option Int) (n:Nat):(sliceBounds lo hi none n).1=((HT.sIx n 0 lo:Nat):Int)∧(sliceBounds lo hi none n).2.1=((HT.sIx n n hi:Nat):Int)∧(sliceBounds lo hi none n).2.2=1:=by
 refine⟨?_,?_,rfl⟩
 ·cases lo with
  |none=>simp [sliceBounds,HT.sIx]
  |some i=>
   simp only[sliceBounds,HT.sIx,Option.getD_none,show(1:Int) > 0 by decide,if_true]
   by_cases h:i<0
   ·simp only[h,if_true]<;>omega
   ·simp only[h,if_false]<;>omega
 ·cases hi with
  |none=>simp [sliceBounds,HT.sIx]
  |some i=>
   simp only[sliceBounds,HT.sIx,Option.getD_none,show(1:Int) > 0 by decide,if_true]
   by_cases h:i<0
   ·simp only[h,if_true]<;>omega
   ·simp only[h,if_false]<;>omega
theorem zfo (its:List Value) (lo hi:Option Int):slicePick its.toArray lo hi none=((its.drop (HT.sIx its.length 0 lo)).take (HT.sIx its.length its.length hi - HT.sIx its.length 0 lo)).toArray:=by
 obtain⟨h1,h2,h3⟩:=zgh lo hi its.toArray.size;unfold slicePick;rw [h1,h2,h3];simp only[sliceRange_one,pick_run,List.size_toArray]<;>rfl
noncomputable def ztq (K:PySem.W.Frag):V→Option Int→Option Int→Hp→VK→Prop:=fun x lo hi H Q=>∃a xs,x= .ref a∧SqL K H a xs∧ ∀p,H p=none→Q (.ref p) (upd H p (.lst (ziD xs lo hi)))
theorem zjV:SlR X (ztq X.K):=by
 intro pins s σ H x v vl vu lo hi sl Q I rx hs pl pu h;obtain⟨a,xs,rfl,hx,q⟩:=h;cases rx;obtain⟨its,r,ht,hz⟩:=I.list hx;have hlen:=r.length;refine⟨"list",_,slot_list_getitem.lookup,ht.isList.typeIs,?_⟩;refine wpAny_getItem_list_slice ht.isList hs pl pu .none (by simp) ?_ (by rw [List.size_toArray]<;>omega);rw [zfo,←hlen];refine⟨.ref s.heap.objs.size,_,I.laid (t':=s.toks) (o:= .lst (ziD xs lo hi)) (fun b ob q=>Heap.get?_push_of_some _ q) (Nat.le_refl _) ?_,rfl,q _ (I.hok.fresh (Nat.le_refl _))⟩;exact⟨Nat.le_trans (zeo xs lo hi) hz,_,0,(r.drop (HT.sIx xs.length 0 lo)).take (HT.sIx xs.length xs.length hi - HT.sIx xs.length 0 lo),Heap.get?_push_size _ rfl⟩
theorem call_len_seq:CallR X (.builtin "len") (fun xs H Q=>∃p ys,xs=[.ref p]∧(SqL X.K H p ys∨SqT X.K H p ys)∧Q (.int ys.length) H):=by
 intro pins s σ H xs us Q I r h;obtain⟨p,ys,rfl,hq,q⟩:=h;obtain⟨u,rfl,rx⟩:=zib r;cases rx;have hn:=zeK;rcases hq with hq |hq
 ·obtain⟨its,r',pl,hz⟩:=I.list hq;have hlen:=r'.length;exact Calls.call_len_list pl.isList (by simp only[List.size_toArray]<;>omega) ⟨.int ys.length,H,I.tok _,⟨s.toks+1,by rw [List.size_toArray,hlen]⟩,q⟩
 ·obtain⟨its,r',pl,hz⟩:=I.tuple hq;have hlen:=r'.length;exact len_tuple pl (by simp only[List.size_toArray]<;>omega) ⟨.int ys.length,H,I.tok _,⟨s.toks+1,by rw [List.size_toArray,hlen]⟩,q⟩
theorem zgg:CallR X (.builtin "len") (fun xs H Q=>∃z,xs=[.str z]∧z.length≤sizeLine∧Q (.int z.length) H):=by
 intro pins s σ H xs us Q I r h;obtain⟨z,rfl,hz,q⟩:=h;obtain⟨u,rfl,t,rfl⟩:=zib r;have hn:=zeK;exact len_str (by omega) ⟨.int z.length,H,I.tok _,⟨_,rfl⟩,q⟩
theorem CallR.or{f:Value}{r r':List V→Hp→VK→Prop}(h:CallR X f r) (h':CallR X f r'):CallR X f (fun xs H Q=>r xs H Q∨r' xs H Q):=by
 intro pins s σ H xs us Q I rs q;rcases q with q |q
 ·exact h pins s σ H xs us Q I rs q
 ·exact h' pins s σ H xs us Q I rs q
theorem zfY:CallR X (.type "list") (fun xs H Q=>∃p ys,xs=[.ref p]∧(SqL X.K H p ys∨SqT X.K H p ys)∧ ∀l,H l=none→Q (.ref l) (upd H l (.lst ys))):=by
 intro pins s σ H xs us Q I r h;obtain⟨p,ys,rfl,hq,q⟩:=h;obtain⟨u,rfl,rx⟩:=zib r;cases rx;have fin:∀(its:List Value),Vals ys its→ys.length≤sizeLine→ ∀(h':Heap) (c':Nat),(∀b o',s.heap.get? b=some o'→h'.get? b=some o')→
   h'.get? s.heap.objs.size=some { cls:= .type "list",dict:=none,data:= .seq its.toArray c',slots:= #[] }→EP X pins σ Q (.ref s.heap.objs.size) { s with heap:=h' }:=fun its r' hz h' c' kp e=>
  ⟨.ref s.heap.objs.size,_,I.laid (t':=s.toks) kp (Nat.le_refl _) (show ObjOk X.prog X.w _ h' _ (.lst ys) from⟨hz,its,c',r',e⟩),rfl,q _ (I.hok.fresh (Nat.le_refl _))⟩
 rcases hq with hq |hq
 ·obtain⟨its,r',pl,hz⟩:=I.list hq;have hlen:=r'.length;obtain⟨o,ho,hc,n,hd⟩:=pl.isList;exact call_list_seq p (.inl rfl) ho hc hd (fun h' c' kp e=>fin its r' hz h' c' kp e) (by simp only[List.size_toArray]<;>omega)
 ·obtain⟨its,r',pl,hz⟩:=I.tuple hq;have hlen:=r'.length;obtain⟨o,ho,hc,n,hd⟩:=pl;exact call_list_seq p (.inr rfl) ho hc hd (fun h' c' kp e=>fin its r' hz h' c' kp e) (by simp only[List.size_toArray]<;>omega)
theorem zdm:CallR X (.type "tuple") (fun xs H Q=>∃p ys,xs=[.ref p]∧((SqL X.K H p ys∧ ∀l,H l=none→Q (.ref l) (upd H l (.tup ys)))∨(SqT X.K H p ys∧Q (.ref p) H))):=by
 intro pins s σ H xs us Q I r h;obtain⟨p,ys,rfl,h⟩:=h;obtain⟨u,rfl,rx⟩:=zib r;cases rx;rcases h with⟨hq,q⟩ |⟨hq,q⟩
 ·obtain⟨its,r',pl,hz⟩:=I.list hq;have hlen:=r'.length;refine call_tuple_list pl.isList (fun h' kp=>?_) (by simp only[List.size_toArray]<;>omega);have I1:Inv X pins σ H { s with heap:=h' }:=I.kept (t':=s.toks) kp;have I2:Inv X pins σ (upd H h'.objs.size (.tup ys)) { s with heap:=h'.push { cls:= .type "tuple",data:= .seq its.toArray } }:=
   I1.laid (t':=s.toks) (fun b o e=>Heap.get?_push_of_some _ e) (Nat.le_refl _) (show ObjOk X.prog X.w _ _ _ (.tup ys) from⟨hz,its,r',IsTup.new _ _⟩)
  exact⟨.ref h'.objs.size,_,I2,rfl,q _ (I1.hok.fresh (Nat.le_refl _))⟩
 ·obtain⟨its,r',pl,hz⟩:=I.tuple hq;exact call_tuple_same pl ⟨.ref p,H,I,rfl,q⟩
noncomputable def tyV (K:PySem.W.Frag) (T:String) (x:V) (H:Hp):Prop:=match x with
 | .str _=>T= "str"
 | .int _=>T= "int"
 | .ref p=>(T= "list" ∧ ∃xs,SqL K H p xs)∨(T= "tuple" ∧ ∃o,K.lookup p=some o∧o.cls= .type "tuple" ∧o.dict=none)∨
   (T= "dict" ∧((∃kvs,H p=some (.dK kvs))∨ ∃kvs,H p=some (.dT kvs)))∨(T= "set" ∧ ∃S n,H p=some (.set S n))
 |_=>False
theorem zlW{pins:List (Addr×Obj)}{σ:St}{H:Hp}{s:Shared}{T:String}{x:V}{v:Value}(I:Inv X pins σ H s) (r:RelV x v) (ty:tyV X.K T x H) :
  s.TypeIs v T∧ ∀a,v= .ref a→ ∃ob,s.heap.get? a=some ob∧ob.dict=none:=by
 cases x with
 |str z=>
  obtain⟨t,rfl⟩:=r;cases(show T= "str" from ty);exact⟨typeIs_str s z t,fun _ e=>nomatch e⟩
 |int i=>
  obtain⟨t,rfl⟩:=r;cases(show T= "int" from ty);exact⟨typeIs_int s i t,fun _ e=>nomatch e⟩
 |ref p=>
  cases r;rcases ty with⟨rfl,xs,hq⟩ |⟨rfl,o,hk,hc,hd⟩ |⟨rfl,hk⟩ |⟨rfl,S,n,hk⟩
  ·obtain⟨its,_,pl,_⟩:=I.list hq;refine⟨pl.isList.typeIs,fun a e=>?_⟩;cases e;obtain⟨o,n,e,c,hd,_⟩:=pl;exact⟨o,e,hd⟩
  ·refine⟨⟨o,I.kIn p o hk,hc⟩,fun a e=>?_⟩;cases e;exact⟨o,I.kIn _ o hk,hd⟩
  ·have z:∃o,s.heap.get? p=some o∧o.ExactDict:=by
    rcases hk with⟨kvs,hk⟩ |⟨kvs,hk⟩
    ·obtain⟨_,_,_,_,o,_,_,e,ex,_⟩:=I.hok p _ hk;exact⟨o,e,ex⟩
    ·obtain⟨_,_,_,_,o,_,_,e,ex,_⟩:=I.hok p _ hk;exact⟨o,e,ex⟩
   obtain⟨o,e,ex⟩:=z;refine⟨⟨o,e,ex.1⟩,fun a e2=>?_⟩;cases e2;exact⟨o,e,ex.2.1⟩
  ·obtain⟨o,_,_,_,e,ex,_⟩:=I.hok p _ hk;refine⟨⟨o,e,ex.1⟩,fun a e2=>?_⟩;cases e2;exact⟨o,e,ex.2.1⟩
 |_=>exact False.elim ty
noncomputable def zty (K:PySem.W.Frag) (T:String) (r:V→List V→Hp→VK→Prop) (to:TE):TE:=fun σ H Q=>to σ H fun x H1=>tyV K T x H1∧r x [] H1 Q
noncomputable def tBM (K:PySem.W.Frag) (T:String) (r:V→List V→Hp→VK→Prop) (to:TE) (t:TA):TE:=fun σ H Q=>to σ H fun x H1=>tyV K T x H1∧t σ H1 fun xs H2=>r x xs H2 Q
variable {o e:Expr}{es:List Expr}{to:TE}{t:TA}{name:Str}{apos cpos:Pos}{T id:String}{r:V→List V→Hp→VK→Prop}
theorem zpt (pa:PlainAttrs T) (slot:Slot T name id) (hty:typeOf (.builtin id)=pure (.type "method_descriptor")) (hm:MtR X id r) (ho:PE X o to)
  (hbase:attributeBase o name X.env (eval o X.env)=eval o X.env:=by rfl) (hline:(apos.endLine == cpos.line)=true:=by rfl):PE X (.Call (.Attribute o name apos) [] [] cpos) (zty X.K T r to):=by
 intro pins s σ H Q I h;refine wpAny_Call_method0_late hbase hline (thn (ho pins s σ H _ I h) fun v s1 ⟨x,H1,I1,r1,ty,q1⟩=>?_);obtain⟨h1,h2⟩:=zlW I1 r1 ty;exact⟨T,id,pa,slot,hty,h1,h2,Calls.callWith_builtin rfl (PySem.evalArgs_none (hm pins s1 σ H1 x [] v [] Q I1 r1 .nil q1))⟩
theorem zoH (pa:PlainAttrs T) (slot:Slot T name id) (hty:typeOf (.builtin id)=pure (.type "method_descriptor")) (hm:MtR X id r) (ho:PE X o to) (ha:PA X (e::es) t)
  (hbase:attributeBase o name X.env (eval o X.env)=eval o X.env:=by rfl)
  (hfew:((backTo cpos (starEach (e::es) X.env)).all (fun x=> !x.1)&&(backToKw cpos (keywordEach [] X.env)).all (fun x=>x.1.isSome)
   &&decide ((e::es).length+([]:List Keyword).length+(if([]:List Keyword).isEmpty then 0 else 1)<30))=true:=by rfl)
  (hline:(apos.endLine == cpos.line)=true:=by rfl) (hs:starEach (e::es) X.env=(false,eval e X.env)::starEach es X.env:=by rfl) (hplain:(backTo cpos (starEach es X.env)).any (·.1)=false:=by rfl) :
  PE X (.Call (.Attribute o name apos) (e::es) [] cpos) (tBM X.K T r to t):=by
 intro pins s σ H Q I h;refine wpAny_Call_method_late hbase hfew hline rfl (thn (ho pins s σ H _ I h) fun v s1 ⟨x,H1,I1,r1,ty,q1⟩=>?_);obtain⟨h1,h2⟩:=zlW I1 r1 ty;refine⟨T,id,pa,slot,hty,h1,h2,?_⟩;have hA:=ha cpos pins s1 σ H1 _ I1 q1;rw [hs]at hA⊢;refine Calls.callWith_builtin (by show(false || (backTo cpos (starEach es X.env)).any (·.1))=false;rw [hplain]<;>rfl) (Calls.evalArgs_plain ?_)
 exact thn hA fun us s2 ⟨vs,H2,I2,r2,q2⟩=>hm pins s2 σ H2 x vs v us Q I2 r1 r2 q2
end
noncomputable def MtM (X:Cx) (id:String) (r:V→List V→Hp→VK→Prop):Prop:=
 ∀(pins:List (Addr×Obj)) (s:Shared) (σ:St) (H:Hp) (x:V) (xs:List V) (v:Value) (us:List Value) (Q:VK),Inv X pins σ H s→RelV x v→Vals xs us→r x xs H Q→
  wpAny (model X.prog X.w) X.A (call (.builtin id) (v::us)) (EP X pins σ Q) X.xe s
theorem Vals.one:∀{x:V}{us:List Value},Vals [x] us→ ∃u,us=[u]∧RelV x u
 |_,_, .cons r .nil=>⟨_,rfl,r⟩
theorem Vals.rep{xs:List V}{us:List Value}(h:Vals xs us):∀k:Nat,Vals (List.replicate k xs).flatten (List.replicate k us).flatten
 |0=> .nil
 |k+1=>by
  rw [List.replicate_succ,List.replicate_succ,List.flatten_cons,List.flatten_cons];exact Vals.append h (Vals.rep h k)
theorem zfN (its:List Value):∀(k:Nat) (acc:List Value),
  List.foldl (fun x1 x2=>x1++x2) acc.toArray (List.replicate k its.toArray)=(acc++(List.replicate k its).flatten).toArray
 |0,acc=>by simp
 |k+1,acc=>by
  have e:acc.toArray++its.toArray=(acc++its).toArray:=by simp
  have e2:(acc++its)++(List.replicate k its).flatten=acc++(List.replicate (k+1) its).flatten:=by
   rw [List.replicate_succ,List.flatten_cons,List.append_assoc]
  rw [←e2,←zfN its k (acc++its),←e,List.replicate_succ,List.foldl_cons]
section
variable {X:Cx}{pins:List (Addr×Obj)}{σ:St}{H:Hp}{s:Shared}{l:Addr}{xs ys:List V}
theorem Inv.lset{its its':List Value}{n:Nat}{f:Array Value→Array Value}{t':Nat}(I:Inv X pins σ H s) (hH:H l=some (.lst xs))
  (e:s.heap.get? l=some { cls:= .type "list",data:= .seq its.toArray n }) (hf:f its.toArray=its'.toArray) (hv:Vals ys its') (hz:ys.length≤sizeLine) :
  Inv X pins σ (upd H l (.lst ys)) { s with heap:=s.heap.update l (Obj.mapSeq f),toks:=t' }:=by
 have q:=PySem.IsL.update e f;rw [hf]at q;refine I.write (x:=l) (e:=l) (by rw [hH];exact trivial) (.inl rfl) (fun b' u hb hu=>(Heap.get?_update_other s.heap (Obj.mapSeq f) (Ne.symm hb)).trans hu) ⟨_,q⟩ ?_;exact⟨hz,its',_,hv,q⟩
theorem Inv.lnew{its:List Value}{t':Nat}(I:Inv X pins σ H s) (hv:Vals ys its) (hz:ys.length≤sizeLine) :
  Inv X pins σ (upd H s.heap.objs.size (.lst ys)) { s with heap:=s.heap.push { cls:= .type "list",data:= .seq its.toArray },toks:=t' }:=
 I.laid (fun _ _ q=>Heap.get?_push_of_some _ q) (Nat.le_refl _) ⟨hz,its,0,hv,Heap.get?_push_size _ rfl⟩
theorem Inv.fresh (I:Inv X pins σ H s):H s.heap.objs.size=none:=I.hok.fresh (Nat.le_refl _)
theorem Inv.lstM (I:Inv X pins σ H s) (hH:H l=some (.lst xs)):xs.length≤sizeLine∧ ∃(its:List Value) (n:Nat),Vals xs its∧xs.length=its.length∧s.heap.get? l=some { cls:= .type "list",data:= .seq its.toArray n }:=by
 obtain⟨z,its,n,r,e⟩:=I.hok l _ hH;exact⟨z,its,n,r,r.length,e⟩
theorem zhJ{n:Nat}(h:n≤sizeLine):Builtin.List.listTooLong n=false:=by
 unfold Builtin.List.listTooLong;exact decide_eq_false (by omega)
end
section
variable {X:Cx}
noncomputable def ziu:V→List V→Hp→VK→Prop:=fun x vs H Q=>∃l xs y,x= .ref l∧vs=[y]∧H l=some (.lst xs)∧xs.length<sizeLine∧Q .non (upd H l (.lst (xs++[y])))
theorem zgo:MtM X "list.append" ziu:=by
 intro pins s σ H x vs v us Q I rx rv h;obtain⟨l,xs,y,rfl,rfl,hH,hz,q⟩:=h;cases rx;obtain⟨u,rfl,ru⟩:=rv.one;obtain⟨z,its,n,r,hl,e⟩:=I.lstM hH;refine call_meets F.slot_list_append ⟨_,e,rfl⟩ F.entry_list_append (F.args_list_append_2 _ _) (PySem.list_append l its.toArray n u (by rw [List.size_toArray];omega)) ⟨e,?_⟩;refine⟨.non,_,I.lset (its':=its++[u]) hH e (by simp) (r.append (.cons ru .nil)) ?_,rfl,q⟩;rw [List.length_append,List.length_singleton];omega
noncomputable def ziT:V→List V→Hp→VK→Prop:=fun x vs H Q=>∃l b xs zs,x= .ref l∧vs=[.ref b]∧H l=some (.lst xs)∧H b=some (.lst zs)∧xs.length+zs.length≤sizeLine∧Q .non (upd H l (.lst (xs++zs)))
theorem zkd:MtM X "list.extend" ziT:=by
 intro pins s σ H x vs v us Q I rx rv h;obtain⟨l,b,xs,zs,rfl,rfl,hH,hB,hz,q⟩:=h;cases rx;obtain⟨u,rfl,ru⟩:=rv.one;cases ru;obtain⟨z,its,n,r,hl,e⟩:=I.lstM hH;obtain⟨z2,its2,n2,r2,hl2,e2⟩:=I.lstM hB;have hsz:its.toArray.size+its2.toArray.size≤sizeLine:=by rw [List.size_toArray,List.size_toArray];omega
 have hlong:¬(!its.toArray.isEmpty&&Builtin.List.listTooLong (its.toArray.size+its2.toArray.size))=true:=by
  rw [zhJ hsz,Bool.and_false];exact Bool.false_ne_true
 refine call_meets F.slot_list_extend ⟨_,e,rfl⟩ F.entry_list_extend (F.args_list_extend_2 _ _)
  (AutoSeq1.list_extend_list_list_0 l its.toArray n b its2.toArray n2 hlong (by rw [List.size_toArray];omega) (by omega)) ⟨e,e2,?_⟩
 refine⟨.non,_,I.lset (its':=its++its2) hH e (by simp) (r.append r2) ?_,rfl,q⟩;rw [List.length_append];omega
noncomputable def zss:R2:=fun x y H Q=>∃l b xs zs,x= .ref l∧y= .ref b∧H l=some (.lst xs)∧H b=some (.lst zs)∧xs.length+zs.length≤sizeLine∧ ∀p,H p=none→Q (.ref p) (upd H p (.lst (xs++zs)))
theorem zhz:OpR X (binaryOp .Add) zss:=by
 intro pins s σ H x y v u Q I rx ry h;obtain⟨l,b,xs,zs,rfl,rfl,hH,hB,hz,q⟩:=h;cases rx;cases ry;obtain⟨z,its,n,r,hl,e⟩:=I.lstM hH;obtain⟨z2,its2,n2,r2,hl2,e2⟩:=I.lstM hB;refine PySem.P.add_list e e2 ?_ (by rw [List.size_toArray,List.size_toArray];omega);have ea:its.toArray++its2.toArray=(its++its2).toArray:=by simp
 rw [ea];exact⟨.ref _,_,I.lnew (t':=s.toks) (r.append r2) (by rw [List.length_append];omega),rfl,q _ I.fresh⟩
theorem znc{α:Type}(xs:List α) (k:Nat):(List.replicate k xs).flatten.length=k*xs.length:=by
 induction k with
 |zero=>simp
 |succ k ih=>rw [List.replicate_succ,List.flatten_cons,List.length_append,ih,Nat.succ_mul,Nat.add_comm]
end
end L2
namespace Att
open PySem PySem.W PySem.Calls PyProof.Rows
theorem zee{P:Params}{h:Heap}:∀(ns:List Int) (vs:List Value),WellAll P h vs (ns.map WData.int)→IntsAre vs ns:=by
 intro ns
 induction ns with
 |nil=>
  intro vs w;rw [List.map_nil]at w;cases w;exact .nil
 |cons n ns ih=>
  intro vs w;rw [List.map_cons]at w;cases w with
  |cons a b=>
   cases a;exact .cons _ _ (ih _ b)
theorem ziz{l:OpenLaw}{n:Nat}(hn:l.most=some n) {P:Params}{h:Heap}{args:List WData}{vals:List Value}
  (hpre:l.row.toRowW.claim.pre args=true) (hwl:WellAll P h vals args) :
  ∃a vs ns,vals=[Value.ref a]∧args=[WData.list (ns.map WData.int)]∧h.get? a=some { cls:= .type "list",data:= .seq vs.toArray }∧IntsAre vs ns∧ns.length≤n:=by
 have hsh:WShape.hasAll [] args [.list .int]=true:=(pre_splitW hpre).1;have hc:l.pre.holds [] { args:=args }=true:=(pre_splitW hpre).2;obtain⟨d,r,rfl,h1,h2⟩:=hasAllW_cons hsh;obtain rfl:=hasAllW_nil h2;obtain⟨xs,rfl,h3⟩:=hasW_list h1;obtain⟨ns,rfl⟩:=items_int h3;have hlen:ns.length≤n:=by
  unfold OpenLaw.pre at hc;have h4:(WTm.not (.lt (.lit (.int (n:Int))) (.len (.arg 0)))).holds [] { args:=[.list (ns.map .int)] }=true:=by
   have h4:=(holds_andW hc).1;rw [hn]at h4;exact h4
  have h5:=condW_of h4 (w_not (w_lt w_lit (w_len_list (w_arg rfl))));rw [List.length_map]at h5;refine Nat.le_of_not_lt fun q=>?_;have q':(n:Int)<((ns.length:Nat):Int):=by omega
  first
   | (rw [decide_eq_true q']at h5;exact absurd h5 (by decide))
   | (simp at h5;omega)
 cases hwl with
 |cons w1 w2=>
  cases w2;cases w1 with
  |list ho hall=>exact⟨_,_,ns,rfl,rfl,ho,zee ns _ hall,hlen⟩
theorem zka (l:OpenLaw) (args:List WData):l.row.toRowW.claim.post args (.bool true) args=true:=
 postW_of (r:=l.row.toRowW) (X:=(true == true))
  (show WShape.has [] (.bool true) .bool=true by first |rfl |decide |simp [WShape.has,WShape.arms,WShape.armsAll])
  (show(WTm.eq .res (.lit (.bool true))).value [] { args:=args,res:=some (.bool true),after:=args }=some (.bool (true == true)) from w_eq_bool (w_res rfl) w_lit) rfl
theorem attach_call{l:OpenLaw}{n:Nat}{q:Program}{loose:List Str}{XP:(Str→Option Value)→Heap→Prop}{YP:World→Heap→Prop}{d:DefRec}
  (hn:l.most=some n) (hdf:d.params.defaults=[])
  (call:∀(w:World) (s₀ s₁:Shared) (mg mb:Str→Option Value) (fa:Addr) (o:Obj) (pm cd doc:Value) (a:Addr) (vs:List Value) (ns:List Int),
   Ground q loose [] XP w s₀ mg mb s₁.heap→YP w s₁.heap→
   s₁.heap.get? fa=some o→o.data= .func (docDef d.name d.params d.body d.scope pm cd doc)→s₁.heap.CodeRec cd d.name→mg d.name=some (.ref fa)→
   s₁.heap.get? a=some { cls:= .type "list",data:= .seq vs.toArray }→IntsAre vs ns→ns.length≤n→s₁.gens= #[]→
   codeAny (model l.prog w) callerA (.call (.ref fa) ⟨[.ref a],[]⟩) (fun r s'=>r= .ok (.ret (.bool true))∧OldK s₁.heap s'.heap∧s'.os=s₁.os∧AllBare s'.gens) s₁) :
  WalkO q loose XP YP l.row.toRowW d [] (fun f vs=>PySem.call f vs):=by
 intro w s₀ s₁ mg mb G Y fa o pm cd doc dV kV ho hd hcd hD hmg hg args vals as hpre hlay hrd hwl hlo;obtain rfl:dV= .none:=Dflts.none hD hdf;obtain rfl:kV= .none:=Dflts.noKw hD;obtain⟨a,vs,ns,rfl,rfl,hobj,hints,hlen⟩:=ziz hn hpre hwl;refine enter_call (codeAny_mono (call w s₀ s₁ mg mb fa o pm cd doc a vs ns G Y ho (fd_plain hd) hcd hmg hobj hints hlen hg) fun r s' hq=>?_);obtain⟨rfl,h2,h3,h4⟩:=hq;exact⟨.inl ⟨.bool true, .bool true,[],rfl,fun _=>rfl, .bool true,zka l _,fun _=>⟨List.Pairwise.nil,fun _ hm=>(nomatch hm)⟩⟩,h2,h3,h4⟩
end Att
namespace L2
open PySem PySem.Spec PyProof.Rows
theorem zfI:∀{vs:List Value}{ns:List Int},IntsAre vs ns→Vals (ns.map V.int) vs
 |_,_, .nil=> .nil
 |_,_, .cons n t h=> .cons ⟨t,rfl⟩ (zfI h)
noncomputable def zqU (H:Hp):Prop:=∀b,H b=none∨ ∃o xs,H b=some (.frz o (.lst xs))
theorem zlQ{P:Program}{w:World}{K:PySem.W.Frag}{mg mb:Str→Option Value}{CX:CXT}{k:Nat}{fa a:Addr}{fd:FuncData}{x:Str}{sp:Sp}{s₁:Shared}{vs:List Value}{ns:List Int}
  (KX:K.In s₁.heap) (hns:s₁.heap.Ns mainGlobals mg) (hb:s₁.heap.Ns builtinsNs mb) (hbb:∀x:Str,x≠ "__name__" →mb x=bootBuiltins x) (hlim:s₁.heap.NoLimit) (hg:s₁.gens= #[])
  (ha:s₁.heap.get? a=some { cls:= .type "list",data:= .seq vs.toArray }) (hi:IntsAre vs ns) (hl:ns.length≤sizeLine) (hr:Room k callerA)
  (F:∀base:Heap,K.In base→base.Ns mainGlobals mg→FnOk P w K mg base CX k fa fd [x] sp) (hbind:∀(s:Shared) (u:Value),BindsTo s fd ⟨[u],[]⟩ [(x,u)])
  (hsp:∀H:Hp,zqU H→SqL K H a (ns.map V.int)→sp [.ref a] H (fun v _=>v= .bl true) fun _ _ _=>False)
  (hCX:∀H e s',CX [] H s₁ (fun _ _ _=>False) e s'→False) :
  codeAny (model P w) callerA (.call (.ref fa) ⟨[.ref a],[]⟩) (fun r s'=>r= .ok (.ret (.bool true))∧OldK s₁.heap s'.heap∧s'.os=s₁.os∧AllBare s'.gens) s₁:=by
 have rv:=zfI hi;have lenV:=hi.length;have core:∀H:Hp,zqU H→SqL K H a (ns.map V.int)→HOk P w H s₁.heap→(∀b,H b≠none→b=a)→(H a≠none→K.lookup a=none)→
   codeAny (model P w) callerA (.call (.ref fa) ⟨[.ref a],[]⟩) (fun r s'=>r= .ok (.ret (.bool true))∧OldK s₁.heap s'.heap∧s'.os=s₁.os∧AllBare s'.gens) s₁:=by
  intro H hO hS hok hA hK;have base_of:∀{b:Addr}{o:Obj},s₁.heap.get? b=some o→H b=none→(zkL s₁.heap H).get? b=some o:=fun e n=>zll e n;have noA:∀{b:Addr}{o:Obj}{es:Array DictEntry}{ep:Nat},s₁.heap.get? b=some o→o.data= .dict es ep→H b=none:=fun {b o es ep} e d=>by
   cases q:H b with
   |none=>rfl
   |some u=>
    have e':b=a:=hA b (by rw [q];simp);subst e';rw [ha]at e;cases e;have d':Data.seq vs.toArray _=Data.dict es ep:=d;cases d'
  have nsK:∀{b:Addr}{m:Str→Option Value},s₁.heap.Ns b m→(zkL s₁.heap H).Ns b m:=fun {b m} ⟨o,es,ep,e,d,r⟩=>⟨o,es,ep,base_of e (noA e d),d,r⟩;have hKb:K.In (zkL s₁.heap H):=fun b o e=>base_of (KX b o e) (by
   cases q:H b with
   |none=>rfl
   |some u=>
    have e':b=a:=hA b (by rw [q];simp);subst e';rw [hK (by rw [q];simp)]at e;cases e)
  have hM:Mod K mg (zkL s₁.heap H):=⟨hKb,nsK hns,⟨mb,nsK hb,hbb⟩,let ⟨mc,h1,h2⟩:=hlim;⟨mc,nsK h1,h2⟩⟩;have e0:Env0 P w K mg (zkL s₁.heap H) callerA [] s₁ H:=⟨rfl,hM,fun b o e=>znl e,Nat.le_of_eq (ziy _ _),trivial,fun b hb=>absurd (show b∈([]:List Addr) from hb) (by simp),hok, .of_eq hg⟩;refine codeAny_mono ((F _ hKb (nsK hns)).run callerA [] s₁ H ⟨[.ref a],[]⟩ [.ref a] [.ref a] _ _ hr e0 (hbind s₁ (.ref a)) (.cons rfl .nil) (hsp H hO hS)) fun r s' h=>?_;cases r with
  |error e=>exact(hCX H e s' h).elim
  |ok fl=>
   cases fl with
   |next=>exact False.elim h
   |brk=>exact False.elim h
   |cont=>exact False.elim h
   |ret u=>
    obtain⟨v,H',os,bare,un,hok',r',q⟩:=h;have q':v= .bl true:=q;subst q';obtain rfl:u=Value.bool true:=r';refine⟨rfl,OldK.of_keep fun b o e=>?_,os,bare⟩;cases q:H b with
    |none=>exact un.keep b o e q (by intro z;exact absurd (show b∈([]:List Addr) from z) (by simp)) (by simp)
    |some u=>
     rcases hO b with z |⟨ob,xs,z⟩
     ·rw [q]at z;cases z
     ·have z2:=un.frzs b ob _ z;obtain⟨e1,_⟩:=hok b _ z;obtain⟨e2,_⟩:=hok' b _ z2;rw [e]at e1;cases e1;exact e2
 cases hk:K.lookup a with
 |some o=>
  have e:=KX a o hk;rw [ha]at e;cases e;refine core (fun _=>none) (fun _=> .inl rfl) (.inr ⟨_,vs.toArray,_,hk,rfl,rfl,rfl,by rw [List.size_toArray,lenV];exact hl,by simpa using rv⟩) (fun b u z=>by have z':(none:Option HO)=some u:=z;cases z') (fun b z=>absurd rfl z) fun z=>absurd rfl z
 |none=>
  refine core (fun b=>if b=a then some (.frz { cls:= .type "list",data:= .seq vs.toArray } (.lst (ns.map V.int))) else none) (fun b=>?_) (.inl (.inr ⟨{ cls:= .type "list",data:= .seq vs.toArray },if_pos rfl⟩)) (fun b u z=>?_) (fun b z=>?_) fun _=>hk
  ·by_cases hb:b=a
   ·exact .inr ⟨_,_,if_pos hb⟩
   ·exact .inl (if_neg hb)
  ·by_cases hb:b=a
   ·have z':=(if_pos hb).symm.trans z;cases z';subst hb;exact⟨ha,by rw [List.length_map];exact hl,vs,_,rv,ha⟩
   ·have z':=(if_neg hb).symm.trans z;cases z'
  ·by_cases hb:b=a
   ·exact hb
   ·exact absurd (if_neg hb) z
theorem zne{l:PySem.W.OpenLaw}{n k:Nat}{q:Program}{loose:List Str}{XP:(Str→Option Value)→Heap→Prop}{YP:World→Heap→Prop}{d:DefRec}{K:Params→PySem.W.Frag}{CX:World→CXT}{sp:World→Sp}{x:Str}
  (hn:l.most=some n) (hn2:n≤sizeLine) (hdf:d.params.defaults=[]) (hr:Room k callerA)
  (hY:∀(w:World) (h:Heap),YP w h→(K w.params).In h)
  (F:∀(w:World) (mg:Str→Option Value) (fa:Addr) (h:Heap),(K w.params).In h→h.Ns mainGlobals mg→mg d.name=some (.ref fa)→
   ∃fd:FuncData,(∀(s:Shared) (u:Value),BindsTo s fd ⟨[u],[]⟩ [(x,u)])∧
    ∀base:Heap,(K w.params).In base→base.Ns mainGlobals mg→FnOk l.prog w (K w.params) mg base (CX w) k fa fd [x] (sp w))
  (hsp:∀(w:World) (H:Hp) (a:Addr) (ns:List Int),ns.length≤n→zqU H→SqL (K w.params) H a (ns.map V.int)→sp w [.ref a] H (fun v _=>v= .bl true) fun _ _ _=>False)
  (hCX:∀(w:World) (H:Hp) (s:Shared) (e:Value) (s':Shared),CX w [] H s (fun _ _ _=>False) e s'→False) :
  PySem.W.WalkO q loose XP YP l.row.toRowW d [] (fun f vs=>PySem.call f vs):=by
 refine Att.attach_call hn hdf fun w s₀ s₁ mg mb fa o pm cd doc a vs ns G Y ho hd hcd hmg hobj hints hlen hg=>?_;have KX:=hY w _ Y;obtain⟨fd,hb,hF⟩:=F w mg fa _ KX G.T.g hmg;exact zlQ KX G.T.g G.T.b G.T.builtins G.T.nolimit hg hobj hints (Nat.le_trans hlen hn2) hr hF hb (fun H hO hS=>hsp w H a ns hlen hO hS) fun H e s'=>hCX w H s₁ e s'
noncomputable def zdY (s:Stmt):Arguments:=match s with
 | .FunctionDef _ a _ _ _ _ _ _ _ _=>a
 |_=>{ posonlyargs:=[],args:=[],vararg:=none,kwonlyargs:=[],kw_defaults:=[],kwarg:=none,defaults:=[] }
noncomputable def zdz (s:Stmt):List Stmt:=match s with
 | .FunctionDef _ _ b _ _ _ _ _ _ _=>b
 |_=>[]
noncomputable def zao (s:Stmt):Scope:=match s with
 | .FunctionDef _ _ _ _ _ _ sc _ _ _=>sc
 |_=>{ kind:= .function,names:=[],isGenerator:=false,isCoroutine:=false }
structure Fun (K:PySem.W.Frag) (x qual:Str) (st:Stmt) (f:Addr) (fd:FuncData):Prop where
  ex:∃(oc:Value) (od:Option Addr) (kV doc pm:Value) (an:Option Addr) (cdv ct:Value) (osl:Array (Option Value)),
    fd=PySem.W.fnOf x qual (zdY st) (zdz st) (zao st) .none kV doc pm an cdv ct∧K.lookup f=some ⟨oc,od, .func fd,osl⟩∧PySem.W.codeIn K cdv qual=true
  kp:PySem.W.keepIn K (.ref f)=true
section
variable {K:PySem.W.Frag}
theorem Fun.binds{x qual:Str}{st:Stmt}{f:Addr}{fd:FuncData}{ps:List Str}(F:Fun K x qual st f fd)
  (h:∀(kV doc pm:Value) (an:Option Addr) (cdv ct:Value) (us:List Value),us.length=ps.length→bindArgs (PySem.W.fnOf x qual (zdY st) (zdz st) (zao st) .none kV doc pm an cdv ct) ⟨us,[]⟩=pure (ps.zip us)):Binds K fd ps []:=by
 obtain⟨oc,od,kV,doc,pm,an,cdv,ct,osl,rfl,lk,hcd⟩:=F.ex;exact .all (h kV doc pm an cdv ct)
theorem zoY{x qual:Str}{st:Stmt}{f:Addr}{oc:Value}{od an:Option Addr}{osl:Array (Option Value)}{kV doc pm cdv ct:Value}(l:K.lookup f=some ⟨oc,od, .func (PySem.W.fnOf x qual (zdY st) (zdz st) (zao st) .none kV doc pm an cdv ct),osl⟩)
  (c:PySem.W.codeIn K cdv qual=true) (k:PySem.W.keepIn K (.ref f)=true):Fun K x qual st f (PySem.W.fnOf x qual (zdY st) (zdz st) (zao st) .none kV doc pm an cdv ct):=⟨⟨oc,od,kV,doc,pm,an,cdv,ct,osl,rfl,l,c⟩,k⟩
end
theorem ztD{A B:Prop}(h:B):if false=true then A else B:=by
 rw [if_neg Bool.false_ne_true];exact h
theorem ztF{A B:Prop}(h:A):if true=true then A else B:=by
 rw [if_pos rfl];exact h
noncomputable def Same (H H':Hp):Prop:=∀b o,H b=some o→H' b=some o
theorem Same.trans{H H1 H2:Hp}(a:Same H H1) (b:Same H1 H2):Same H H2:=fun c o h=>b c o (a c o h)
section
variable {κ:Type} [DecidableEq κ]
theorem RelO.getD{o:Option V}{u:Option Value}{d:V}{d':Value}(r:RelO o u) (rd:RelV d d'):RelV (o.getD d) (u.getD d'):=by
 cases o with
 |none=>cases u with
  |none=>exact rd
  |some _=>exact(show False from r).elim
 |some _=>cases u with
  |none=>exact(show False from r).elim
  |some _=>exact r
theorem KV.length{kvs:List (κ×V)}{vs:List (κ×Value)}(r:KV kvs vs):kvs.length=vs.length:=Paired.length r
end
structure M1 (X:Cx) (o:Expr) (m:Str) (apos:Pos) (e:Expr) (cpos:Pos):Prop where
  base:attributeBase o m X.env (eval o X.env)=eval o X.env
  few:((backTo cpos (starEach [e] X.env)).all (fun x=> !x.1)&&(backToKw cpos (keywordEach [] X.env)).all (fun x=>x.1.isSome)
    &&decide (([e]:List Expr).length+([]:List Keyword).length+(if([]:List Keyword).isEmpty then 0 else 1)<30))=true
  line:(apos.endLine == cpos.line)=true
  trees:backTo cpos (starEach [e] X.env)=[(false,eval e X.env)]
structure M2 (X:Cx) (o:Expr) (m:Str) (apos:Pos) (e f:Expr) (cpos:Pos):Prop where
  base:attributeBase o m X.env (eval o X.env)=eval o X.env
  few:((backTo cpos (starEach [e,f] X.env)).all (fun x=> !x.1)&&(backToKw cpos (keywordEach [] X.env)).all (fun x=>x.1.isSome)
    &&decide (([e,f]:List Expr).length+([]:List Keyword).length+(if([]:List Keyword).isEmpty then 0 else 1)<30))=true
  line:(apos.endLine == cpos.line)=true
  trees:backTo cpos (starEach [e,f] X.env)=[(false,eval e X.env),(false,eval f X.env)]
end L2
namespace Att
open PySem PySem.W PySem.Calls PyProof.Rows
end Att
namespace L2
open PySem PySem.Spec PyProof.Rows
section
variable {prog:Program}{w:World}{A:Around}{R:Result→Shared→Prop}{s:Shared}
theorem zgn{elt target iter:Expr}{ifs:List Expr}{scope:Scope}{pos:Pos}{it acc:Value}{env:Env}(I:Nat→Shared→Prop)
  (turn:∀n s,I n s→wpAny (model prog w) A (pyNext it) (fun r s₁=>match r with
   |none=>R (.ok .next) s₁
   |some v=>wpAny (model prog w) A (letOwnedTupleGo target it v) (fun _ s₀=>wpAny (model prog w) A (assign target env v) (fun _ s₂=>
     wpAny (model prog w) A (forIn ifs true fun c r=>if r=true then do let ok ←isTrue c env (eval c env);pure (ForInStep.yield ok) else pure (ForInStep.yield r)) (fun ok s₃=>
      if ok=true then wpAny (model prog w) A (eval elt env) (fun x s₄=>
       wpAny (model prog w) A (call (.builtin "list.append") [acc,x]) (fun _ s₅=>∃m,m<n∧I m s₅) (fun _ _=>False) s₄) (fun _ _=>False) s₃
      else ∃m,m<n∧I m s₃) (fun _ _=>False) s₂) (fun _ _=>False) s₀) (fun _ _=>False) s₁) (fun _ _=>False) s)
  (n:Nat) (h:I n s) :
  codeAny (model prog w) A (.compLoop (.ListComp elt [⟨target,iter,ifs,0⟩] scope pos) 0 it acc env) R s:=by
 refine codeAny_loop rfl I (fun n s hI=>?_) n h;show wpAny _ A ((compTurn (.ListComp elt [⟨target,iter,ifs,0⟩] scope pos) 0 it acc env).onRaise (fun x=>do noteFrame x env;theTreesLotGoes x)) _ _ s;refine wpAny_noted ?_;rw [compTurn_list];refine wpAny_bind (wpAny_standAt (wpAny_bind (wpAny_mono (turn n s hI) (fun r s₁ h₁=>?_) fun _ _ h'=>h'.elim)));cases r with
 |none=>exact wpAny_pure h₁
 |some v=>
  refine wpAny_bind (wpAny_mono h₁ (fun _ s₀ h₀=>?_) fun _ _ h'=>h'.elim);refine wpAny_bind (wpAny_mono h₀ (fun _ s₂ h₂=>wpAny_bind (wpAny_mono h₂ (fun ok s₃ h₃=>?_) fun _ _ h'=>h'.elim)) fun _ _ h'=>h'.elim);cases ok with
  |false=>exact wpAny_pure ⟨rfl,h₃⟩
  |true=>
   exact wpAny_bind (wpAny_bind (wpAny_mono h₃ (fun x s₄ h₄=>wpAny_bind (wpAny_mono h₄ (fun _ s₅ h₅=>wpAny_pure (wpAny_pure ⟨rfl,h₅⟩)) fun _ _ h'=>h'.elim)) fun _ _ h'=>h'.elim))
end
noncomputable def zez (cells:List (Str×Addr)):List (Str×NameKind)→List (Str×Addr)→List (Str×Addr)
 | [],acc=>acc
 | (n,k)::r,acc=>if(k == NameKind.free)=true then zez cells r ((n,(cells.lookup n).getD 0)::acc) else zez cells r acc
theorem zil{scope:Scope}{env:Env}(h:∀y∈scope.names,y.2= .free→ ∃c,env.cells.lookup y.1=some c) :
  closureFor scope env=pure (zez env.cells scope.names []):=by
 have go:∀(l:List (Str×NameKind)) (acc:List (Str×Addr)),(∀y∈l,y.2= .free→ ∃c,env.cells.lookup y.1=some c)→
   (forIn l acc fun(x:Str×NameKind) (cs:List (Str×Addr))=>(if(x.2 == NameKind.free)=true then(do let a ←cellOf env x.1;pure (ForInStep.yield ((x.1,a)::cs))) else pure (ForInStep.yield cs):Sem (ForInStep (List (Str×Addr)))))=(pure (zez env.cells l acc):Sem (List (Str×Addr))):=by
  intro l
  induction l with
  |nil=>intro acc _;rfl
  |cons x l ih=>
   intro acc hl;obtain⟨n,k⟩:=x;have hr:=fun y hy=>hl y (List.mem_cons_of_mem _ hy);rw [List.forIn_cons];by_cases hk:k= .free
   ·subst hk;obtain⟨c,hc⟩:=hl (n, .free) List.mem_cons_self rfl;have hc':env.cells.lookup n=some c:=hc;have e:cellOf env n=pure c:=by unfold cellOf;rw [hc']
    have e2:zez env.cells ((n,NameKind.free)::l) acc=zez env.cells l ((n,c)::acc):=by
     show(if(NameKind.free == NameKind.free)=true then zez env.cells l ((n,(env.cells.lookup n).getD 0)::acc) else zez env.cells l acc)=_;rw [if_pos (by rfl),hc'];rfl
    dsimp only;rw [if_pos (by rfl),e,pure_bind,pure_bind,e2];exact ih _ hr
   ·have hb:¬(k == NameKind.free)=true:=by simpa using hk
    have e2:zez env.cells ((n,k)::l) acc=zez env.cells l acc:=by
     show(if(k == NameKind.free)=true then zez env.cells l ((n,(env.cells.lookup n).getD 0)::acc) else zez env.cells l acc)=_;rw [if_neg hb]
    dsimp only;rw [if_neg hb,pure_bind,e2];exact ih _ hr
 have q:=go scope.names [] h;unfold closureFor
 first
  |exact(bind_pure _).trans q
  | (simp only[bind_pure];exact q)
  | (simp only[pure_bind,bind_assoc,bind_pure];exact q)
theorem zfa{cells:List (Str×Addr)}{x:Str}{c:Addr}:∀(l:List (Str×NameKind)) (acc:List (Str×Addr)),(∀y∈l,y.2= .free→ ∃c,cells.lookup y.1=some c)→
  (zez cells l acc).lookup x=some c→acc.lookup x=some c∨cells.lookup x=some c
 | [],acc,_,h=> .inl h
 | (n,k)::r,acc,hl,h=>by
  have hr:=fun y hy=>hl y (List.mem_cons_of_mem (n,k) hy);by_cases hk:k= .free
  ·subst hk;have h':(zez cells r ((n,(cells.lookup n).getD 0)::acc)).lookup x=some c:=h;rcases zfa r _ hr h' with q |q
   ·rw [List.lookup_cons]at q;cases e:x == n with
    |true=>
     rw [e]at q;obtain⟨d,hd⟩:=hl (n, .free) List.mem_cons_self rfl;have hd':cells.lookup n=some d:=hd;have e1:x=n:=eq_of_beq e;rw [hd']at q;have q':d=c:=Option.some.inj q;exact .inr (by rw [e1,hd',q'])
    |false=>
     rw [e]at q;exact .inl q
   ·exact .inr q
  ·have hb:¬(k == NameKind.free)=true:=by simpa using hk
   have h':(if(k == NameKind.free)=true then zez cells r ((n,(cells.lookup n).getD 0)::acc) else zez cells r acc).lookup x=some c:=h;rw [if_neg hb]at h';exact zfa r acc hr h'
theorem zdR{cells:List (Str×Addr)}{x:Str}:∀(l:List (Str×NameKind)) (acc:List (Str×Addr)),((x,NameKind.free)∈l∨ ∃c,acc.lookup x=some c)→ ∃c,(zez cells l acc).lookup x=some c
 | [],acc,h=>by
  rcases h with h |h
  ·cases h
  ·exact h
 | (n,k)::r,acc,h=>by
  by_cases hk:k= .free
  ·subst hk;refine zdR r ((n,(cells.lookup n).getD 0)::acc) ?_;cases e:x == n with
   |true=>exact .inr ⟨_,by rw [List.lookup_cons,e]⟩
   |false=>
    rcases h with h |⟨c,h⟩
    ·rcases List.mem_cons.mp h with q |q
     ·have:x=n:=congrArg Prod.fst q;rw [this]at e;simp at e
     ·exact .inl q
    ·exact .inr ⟨c,by rw [List.lookup_cons,e];exact h⟩
  ·have hb:¬(k == NameKind.free)=true:=by simpa using hk
   show ∃c,(if(k == NameKind.free)=true then zez cells r ((n,(cells.lookup n).getD 0)::acc) else zez cells r acc).lookup x=some c;rw [if_neg hb];refine zdR r acc ?_;rcases h with h |h
   ·rcases List.mem_cons.mp h with q |q
    ·exact absurd (congrArg Prod.snd q).symm hk
    ·exact .inl q
   ·exact .inr h
theorem zbH{env:Env}{x:Str}{k:NameKind}:∀{names:List (Str×NameKind)},(∀y∈names,y.2≠ .cell)→
  (names.map fun(n,k)=>if(k == NameKind.free&&env.scope.kind == .function&&env.kindOf n == some .cell) then(n,NameKind.cell) else(n,k)).lookup x=some k→(k= .cell∨k= .free)→(x,NameKind.free)∈names
 | [],_,h,_=>by simp at h
 | (n,j)::r,hc,h,hk=>by
  have h':List.lookup x ((if(j == NameKind.free&&env.scope.kind == .function&&env.kindOf n == some .cell)=true then(n,NameKind.cell) else(n,j)) ::
   (r.map fun(n,k)=>if(k == NameKind.free&&env.scope.kind == .function&&env.kindOf n == some .cell) then(n,NameKind.cell) else(n,k)))=some k:=h
  have hr:=fun y hy=>hc y (List.mem_cons_of_mem (n,j) hy);have hj:j≠ .cell:=hc (n,j) List.mem_cons_self;cases e:x == n with
  |true=>
   have e1:x=n:=eq_of_beq e;subst e1;by_cases c:(j == NameKind.free&&env.scope.kind == .function&&env.kindOf x == some .cell)=true
   ·have c1:(j == NameKind.free)=true:=by
     cases q:(j == NameKind.free) with
     |true=>rfl
     |false=>rw [q]at c;simp at c
    have c2:j= .free:=by simpa using c1
    rw [c2];exact List.mem_cons_self
   ·rw [if_neg c]at h';simp only[List.lookup_cons,beq_self_eq_true]at h';have h2:j=k:=Option.some.inj h';rcases hk with z |z
    ·exact absurd (h2.trans z) hj
    ·rw [h2,z];exact List.mem_cons_self
  |false=>
   by_cases c:(j == NameKind.free&&env.scope.kind == .function&&env.kindOf n == some .cell)=true
   ·rw [if_pos c]at h';simp only[List.lookup_cons,e]at h';exact List.mem_cons_of_mem _ (zbH hr h' hk)
   ·rw [if_neg c]at h';simp only[List.lookup_cons,e]at h';exact List.mem_cons_of_mem _ (zbH hr h' hk)
theorem zcu{env:Env}{x:Str}:∀{names:List (Str×NameKind)},names.lookup x=some .free→
  (names.map fun(n,k)=>if(k == NameKind.free&&env.scope.kind == .function&&env.kindOf n == some .cell) then(n,NameKind.cell) else(n,k)).lookup x=some .cell∨
  (names.map fun(n,k)=>if(k == NameKind.free&&env.scope.kind == .function&&env.kindOf n == some .cell) then(n,NameKind.cell) else(n,k)).lookup x=some .free
 | [],h=>by simp at h
 | (n,j)::r,h=>by
  show List.lookup x ((if(j == NameKind.free&&env.scope.kind == .function&&env.kindOf n == some .cell)=true then(n,NameKind.cell) else(n,j)) ::
   (r.map fun(n,k)=>if(k == NameKind.free&&env.scope.kind == .function&&env.kindOf n == some .cell) then(n,NameKind.cell) else(n,k)))=_∨
   List.lookup x ((if(j == NameKind.free&&env.scope.kind == .function&&env.kindOf n == some .cell)=true then(n,NameKind.cell) else(n,j)) ::
   (r.map fun(n,k)=>if(k == NameKind.free&&env.scope.kind == .function&&env.kindOf n == some .cell) then(n,NameKind.cell) else(n,k)))=_
  cases e:x == n with
  |true=>
   simp only[List.lookup_cons,e]at h;have h2:j= .free:=Option.some.inj h;subst h2;by_cases c:(NameKind.free == NameKind.free&&env.scope.kind == .function&&env.kindOf n == some .cell)=true
   ·rw [if_pos c];simp only[List.lookup_cons,e];exact .inl trivial
   ·rw [if_neg c];simp only[List.lookup_cons,e];exact .inr trivial
  |false=>
   simp only[List.lookup_cons,e]at h;by_cases c:(j == NameKind.free&&env.scope.kind == .function&&env.kindOf n == some .cell)=true
   ·rw [if_pos c];simp only[List.lookup_cons,e];exact zcu h
   ·rw [if_neg c];simp only[List.lookup_cons,e];exact zcu h
noncomputable def zaO (X:Cx) (scope:Scope) (N:List Str) (s:Shared) (H:Hp) (fp:List Addr) (pins:List (Addr×Obj)):Cx:=
 { X with N:=N,s₀:=s,H₀:=H,env:=compEnvC scope (zez X.env.cells scope.names []) s.heap.objs.size X.env,outer:=X.stack,stack:=X.stack,ex:=fp,fn:=fun _=>false,pn:=X.pn++pins,xe:=fun _ _=>False }
structure CompSc (X:Cx) (scope:Scope) (N:List Str) (k:Nat) (fr:List Nat):Prop where
  kind:scope.kind= .function
  nd:N.Nodup
  len:N.length=k+fr.length
  cell:(scope.names.all fun y=>y.2 != NameKind.cell)=true
  loc:(scope.names.all fun y=>y.2 != NameKind.local || scope.names.lookup y.1 == some NameKind.local)=true
  free:(scope.names.all fun y=>y.2 != NameKind.free || X.env.kindOf y.1 == some NameKind.cell || X.env.kindOf y.1 == some NameKind.free)=true
  frs:((N.drop k).all fun x=>scope.names.lookup x == some NameKind.free)=true
  pl:N.drop k=fr.map fun j=>X.N.getD j Str.empty
  plen:(fr.all fun j=>decide (j<X.N.length))=true
noncomputable def zeb (σ:St) (fr:List Nat):St:=fr.map fun j=>(σ[j]?).join
noncomputable def zhM (σ:St) (k:Nat) (fr:List Nat):St:=List.replicate k none++zeb σ fr
section
variable {X:Cx}{scope:Scope}{N:List Str}{k:Nat}{fr:List Nat}
theorem CompSc.cell' (S:CompSc X scope N k fr):∀y∈scope.names,y.2≠ .cell:=fun y hy=>by
 have q:=List.all_eq_true.mp S.cell y hy;simpa using q
theorem CompSc.loc' (S:CompSc X scope N k fr):∀y∈scope.names,y.2= .local→scope.names.lookup y.1=some .local:=fun y hy e=>by
 have q:=List.all_eq_true.mp S.loc y hy;rw [e]at q;simpa using q
theorem CompSc.kinds (S:CompSc X scope N k fr):∀y∈scope.names,y.2= .free→X.env.kindOf y.1=some .cell∨X.env.kindOf y.1=some .free:=fun y hy e=>by
 have q:=List.all_eq_true.mp S.free y hy;rw [e]at q;simpa using q
theorem CompSc.hasCell (S:CompSc X scope N k fr) (ok:X.Ok):∀y∈scope.names,y.2= .free→ ∃c,X.env.cells.lookup y.1=some c:=fun y hy e=>ok.has y.1 (S.kinds y hy e)
theorem CompSc.sub (S:CompSc X scope N k fr) (ok:X.Ok) {x:Str}{c:Addr}(h:(zez X.env.cells scope.names []).lookup x=some c):X.env.cells.lookup x=some c:=by
 rcases zfa scope.names [] (S.hasCell ok) h with q |q
 ·simp at q
 ·exact q
end
section
variable {X:Cx}{pins:List (Addr×Obj)}{σ:St}{H:Hp}{s:Shared}{scope:Scope}{N:List Str}{k:Nat}{fr:List Nat}{fp:List Addr}
theorem zmG (I:Inv X pins σ H s) (S:CompSc X scope N k fr) (hfp:∀b∈fp,zfu X pins H b) (hob:∀b∈fp,∃o,s.heap.get? b=some o):(zaO X scope N s H fp pins).Ok where
  mod:=I.ok.mod
  kind:=S.kind
  glob:=I.ok.glob
  blt:=I.ok.blt
  above:=Nat.le_refl _
  inj:=fun x y c h1 h2=>I.ok.inj x y c (S.sub I.ok h1) (S.sub I.ok h2)
  has:=fun x hx=>zdR scope.names [] (.inl (by
    rcases hx with hx |hx
    · exact zbH S.cell' hx (.inl rfl)
    · exact zbH S.cell' hx (.inr rfl)))
  cab:=fun x c h _=>absurd h (by show ¬(false=true);decide)
  hd:=I.ok.hd
  frames:=I.ok.frames
  stk:= .inl rfl
  exf:=fun b hb=>⟨by
    obtain⟨o,e⟩:=hob b hb;exact Nat.ne_of_lt (Heap.lt_size e),fun x c h=>(hfp b hb).2.2.2.2.1 x c (S.sub I.ok h)⟩
  bs:=I.bs
  bsz:=Nat.le_trans I.ok.bsz I.sz
  noex:=fun b o e hb=>by
    rcases(hfp b hb).2.2.2.1 with z |z
    · exact I.ok.noex b o e z
    · exact absurd (Nat.lt_of_lt_of_le (Heap.lt_size (I.ok.bs b o e).1) z) (Nat.lt_irrefl _)
  exfs:=fun b hb z=>by
    rcases List.mem_cons.mp (I.stkSub b z) with q |q
    · exact(hfp b hb).2.1 q
    · exact(hfp b hb).2.2.1 q
  funs:=I.stack
  frf:=I.stkFree
theorem zmV (I:Inv X pins σ H s) (S:CompSc X scope N k fr) {H':Hp}{b:Addr}(hb:b∈fp) (hf:zfu X pins H b) (hob:∃o,s.heap.get? b=some o) (hn:H' b=none):zfu (zaO X scope N s H fp pins) [] H' b:=by
 refine⟨hn,?_,fun z=>?_, .inl hb,fun x c h=>hf.2.2.2.2.1 x c (S.sub I.ok h),fun p hp=>?_⟩
 ·obtain⟨o,e⟩:=hob;exact Nat.ne_of_lt (Heap.lt_size e)
 ·rcases List.mem_cons.mp (I.stkSub b z) with q |q
  ·exact hf.2.1 q
  ·exact hf.2.2.1 q
 ·rcases List.mem_append.mp hp with z |z
  ·exact hf.2.2.2.2.2 p z
  ·cases z
theorem zif{j:Nat}{v:V}(h:(zeb σ fr)[j]? =some (some v)):∃i,fr[j]? =some i∧σ[i]? =some (some v):=by
 unfold zeb at h;rw [List.getElem?_map]at h;cases e:fr[j]? with
 |none=>rw [e]at h;cases h
 |some i=>
  rw [e]at h;have h':(σ[i]?).join=some v:=Option.some.inj h;refine⟨i,rfl,?_⟩;cases q:σ[i]? with
  |none=>rw [q]at h';cases h'
  |some o=>
   rw [q]at h';have h2:o=some v:=h';rw [h2]
theorem zkN (I:Inv X pins σ H s) (S:CompSc X scope N k fr) (hfp:∀b∈fp,zfu X pins H b) (hob:∀b∈fp,∃o,s.heap.get? b=some o) {h1:Heap}{tk:Nat}{m:Str→Option Value}
    (hns:h1.Ns s.heap.objs.size m) (hk:∀b o,s.heap.get? b=some o→h1.get? b=some o):Inv (zaO X scope N s H fp pins) [] (zhM σ k fr) H { s with heap:=h1,toks:=tk } where
  ok:=zmG I S hfp hob
  os:=rfl
  bare:=I.bare
  base:=Un.kept hk
  loc:=⟨m,hns,fun i x v e1 e2 e3=>by
    have e2':(List.replicate k (none:Option V)++zeb σ fr)[i]? =some (some v):=e2;have hi:k≤i:=by
      refine Nat.le_of_not_lt fun z=>?_;rw [List.getElem?_append_left (by simpa using z),List.getElem?_replicate]at e2';split at e2'<;>cases e2'
    rw [List.getElem?_append_right (by simpa using hi),List.length_replicate]at e2';obtain⟨j,f1,f2⟩:=zif e2';have e1':N[i]? =some x:=e1;have d1:(N.drop k)[i - k]? =some x:=by
      rw [List.getElem?_drop];have:k+(i - k)=i:=by omega
      rw [this];exact e1'
    have d2:=d1;rw [S.pl,List.getElem?_map,f1]at d2;have d3:X.N.getD j Str.empty=x:=Option.some.inj d2;have jl:j<X.N.length:=of_decide_eq_true (List.all_eq_true.mp S.plen j (List.mem_of_getElem? f1));have d4:X.N[j]? =some x:=by
      rw [List.getD_eq_getElem?_getD,List.getElem?_eq_getElem jl]at d3;rw [List.getElem?_eq_getElem jl];exact congrArg some d3
    have fk:scope.names.lookup x=some .free:=by
      have q:=List.all_eq_true.mp S.frs x (List.mem_of_getElem? d1);simpa using q
    have hmem:(x,NameKind.free)∈scope.names:=PySem.mem_of_lookup fk;have kd:=S.kinds _ hmem rfl;have vis:Vis X.env.scope x:=by
      rcases kd with z |z
      · exact .inr (.inl z)
      · exact .inr (.inr z)
    obtain⟨m0,_,hl⟩:=I.loc;obtain⟨u,ru,lk⟩:=hl j x v d4 f2 vis;refine⟨u,ru, .inr ⟨zcu fk,?_⟩⟩;have kd':X.env.kindOf x=some .cell∨X.env.kindOf x=some .free:=kd;rcases lk with⟨z,_⟩ |⟨_,c,hc,hcell⟩
    · rcases kd' with q |q<;>(rw [z]at q;cases q)
    · obtain⟨c',hc'⟩:=zdR (cells:=X.env.cells) scope.names [] (.inl hmem);have e:=S.sub I.ok hc';rw [hc]at e;cases e;exact⟨c,hc',hcell.keeps hk⟩⟩
  cell:=fun x c h=>by
    obtain⟨v,z⟩:=I.cell x c (S.sub I.ok h);exact⟨v,z.keeps hk⟩
  free:=I.hok.fresh (Nat.le_refl _)
  freeC:=fun x c h=>I.freeC x c (S.sub I.ok h)
  pin:=fun p hp=>by
    have hp':p∈X.pn++pins:=by
      rcases List.mem_append.mp hp with z |z
      · exact z
      · cases z
    obtain⟨e,n,ne,nf,d⟩:=I.pin p hp';refine⟨hk _ _ e,n,Nat.ne_of_lt (Heap.lt_size e),fun z=>?_,d⟩;rcases List.mem_cons.mp (I.stkSub p.1 z) with q |q
    · exact ne q
    · exact nf q
  hok:=I.hok.kept hk
  len:=by
    show(List.replicate k (none:Option V)++zeb σ fr).length=N.length;rw [List.length_append,List.length_replicate,S.len];unfold zeb;rw [List.length_map]
theorem zfG{σ':St}{H':Hp}{s':Shared}{h':Heap}(I:Inv X pins σ H s) (hfp:∀b∈fp,zfu X pins H b) (J:Inv (zaO X scope N s H fp pins) [] σ' H' s') (sb:Heap.SameBut s.heap.objs.size s'.heap h'):Inv X pins σ H' { s' with heap:=h' }:=by
 have neC:∀b o,s.heap.get? b=some o→b≠s.heap.objs.size:=fun b o e=>Nat.ne_of_lt (Heap.lt_size e);have frC:H' s.heap.objs.size=none:=J.free;refine Inv.call' (s':={ s' with heap:=h' }) (ch:=fp) I J.os ⟨fun b o e n hf hx=>?_,fun b o e n hf hx=>?_,fun b o e n hx=>J.base.free b o e n hx,fun b o e hx=>?_,J.base.tups,J.base.frzs,J.base.tbls⟩ (fun b o e=>?_) J.bare fun b hb=>⟨(hfp b hb).2.2.2.1,(hfp b hb).2.1,(hfp b hb).2.2.2.2.1,(hfp b hb).2.2.2.2.2⟩
 ·exact(sb.2 b (neC b o e)).trans (J.base.keep b o e n hf hx)
 ·obtain⟨sl,q⟩:=J.base.slot b o e n hf hx;exact⟨sl,(sb.2 b (neC b o e)).trans q⟩
 ·obtain⟨o',q⟩:=J.base.there b o e hx;exact⟨o',(sb.2 b (neC b o e)).trans q⟩
 ·refine(J.hok b o e).stay (fun c v hc q=>(sb.2 c ?_).trans q) (fun _ q=>q) fun _ _ q=>q;rintro rfl;rcases hc with rfl |hc
  ·rw [frC]at e;cases e
  ·rw [frC]at hc;cases hc
end
noncomputable def PTs (X:Cx) (ifs:List Expr) (t:TT):Prop:=
 ∀(pins:List (Addr×Obj)) (s:Shared) (σ:St) (H:Hp) (Q:Bool→Hp→Prop),Inv X pins σ H s→t σ H Q→
  wpAny (model X.prog X.w) X.A (forIn ifs true fun c r=>if r=true then do let ok ←isTrue c X.env (eval c X.env);pure (ForInStep.yield ok) else pure (ForInStep.yield r)) (TP X pins σ Q) X.xe s
noncomputable def ztt:TT:=fun _ H Q=>Q true H
theorem znO{X:Cx}:PTs X [] ztt:=fun _ _ _ H _ I h=>wpAny_tests_nil ⟨H,I,h⟩
noncomputable def zrW (X:Cx) (scope:Scope) (N:List Str) (tg:Expr) (ifs:List Expr) (elt:Expr) (l:Addr) (x:V) (σ:St) (H:Hp) (M:St→Hp→Prop):Prop:=
 ∀(s₀:Shared) (H₀:Hp) (fp:List Addr) (pn:List (Addr×Obj)),∃(g:TG) (tt:TT) (te:TE),PG (zaO X scope N s₀ H₀ fp pn) tg g∧PTs (zaO X scope N s₀ H₀ fp pn) ifs tt∧PE (zaO X scope N s₀ H₀ fp pn) elt te∧
  g x σ H fun σ2 H2=>tt σ2 H2 fun b H3=>if b=true then te σ2 H3 fun y H4=>∃ys,H4 l=some (.lst ys)∧ys.length<sizeLine∧M σ2 (upd H4 l (.lst (ys++[y]))) else M σ2 H3
noncomputable def znK (X:Cx) (scope:Scope) (N:List Str) (k:Nat) (fr:List Nat) (tg:Expr) (ifs:List Expr) (elt:Expr) (σ:St) (Q:VK) (J:It) (H1:Hp):Prop:=∀l,H1 l=none→
 ∃W:Nat→Nat→St→Hp→Prop,(∃m,W 0 m (zhM σ k fr) (upd H1 l (.lst [])))∧ ∀i m σ' H',W i m σ' H'→
  (J.stop i H'∧Q (.ref l) H')∨(J.go i H'∧ ∃M:St→Hp→Prop,(∀σ'' H'',M σ'' H''→ ∃m',m'<m∧W (i+1) m' σ'' H'')∧ ∀x H2,J.yld i H' x H2→zrW X scope N tg ifs elt l x σ' H2 M)
noncomputable def zkO (X:Cx) (scope:Scope) (N:List Str) (k:Nat) (fr:List Nat) (tg:Expr) (ifs:List Expr) (elt:Expr) (wi:TI):TE:=fun σ H Q=>wi σ H fun J H1=>znK X scope N k fr tg ifs elt σ Q J H1
theorem zfC{X:Cx}{use:Option (Value→Sem Unit)}{Qf:Value→Shared→Prop}{pins:List (Addr×Obj)}{s:Shared}{σ:St}{H:Hp}{Q:VK}{scope:Scope}{N:List Str}{k:Nat}{fr:List Nat}{tg iter elt:Expr}{ifs:List Expr}{wi:TI}{pos:Pos}(hx:X.xe=fun _ _=>False) (hc:X.calm=true) (S:CompSc X scope N k fr) (hi:PI X tg iter wi) (I:Inv X pins σ H s)
  (fin:∀{s3 s6:Shared}{H3 H5:Hp}{fp:List Addr}{σ5:St}{l:Addr}{a:Flow},Inv X pins σ H3 s3→(∀b∈fp,zfu X pins H3 b)→Inv (zaO X scope N s3 H3 fp pins) [] σ5 H5 s6→Q (.ref l) H5→compPost (model X.prog X.w) X.A X.xe use Qf (.ref l) s3.heap.objs.size (.ok a) s6)
  (h:zkO X scope N k fr tg ifs elt wi σ H Q)
  (hs:∀x,foldedSetIterable iter X.env x=pure x:=by intro _;rfl):wpAny (model X.prog X.w) X.A (comprehension (.ListComp elt [⟨tg,iter,ifs,0⟩] scope pos) scope X.env (firstIterPos [⟨tg,iter,ifs,0⟩] pos) (newList []) (firstAsync [⟨tg,iter,ifs,0⟩]) (firstIter [⟨tg,iter,ifs,0⟩] X.env) use) Qf X.xe s:=by
 refine wpAny_comprehension_free (use:=use) rfl hs (zil (S.hasCell I.ok)) S.kind S.loc' (thn (hi pins s σ H _ I h) fun v s1 h1=>thn h1 fun itv s2 h2=>?_);obtain⟨it,fp,tn,J,H2,e,I2,T,st2,f2,h2⟩:=h2;subst e;have fr2:H2 s2.heap.objs.size=none:=I2.hok.fresh (Nat.le_refl _);obtain⟨W,⟨m0,w0⟩,turn⟩:=h2 s2.heap.objs.size fr2;refine wpAny_newList ?_ (by show 0≤sizeLine;exact Nat.zero_le _);have I3:Inv X pins σ (upd H2 s2.heap.objs.size (.lst [])) { s2 with heap:=s2.heap.push { cls:= .type "list",data:= .seq ([]:List Value).toArray } }:=I2.lnew (t':=s2.toks) (ys:=[]) .nil (Nat.zero_le _);have old:∀b o,s2.heap.get? b=some o→(s2.heap.push { cls:= .type "list",data:= .seq ([]:List Value).toArray }).get? b=some o:=fun b o e=>Heap.get?_push_of_some _ e;have fpo2:∀b∈fp,∃o,s2.heap.get? b=some o:=fun b hb=>by
  obtain⟨o,e,_⟩:=T.obj _ _ st2 b hb;exact⟨o,e⟩
 have fpo:∀b∈fp,∃o,(s2.heap.push { cls:= .type "list",data:= .seq ([]:List Value).toArray }).get? b=some o:=fun b hb=>by
  obtain⟨o,e⟩:=fpo2 b hb;exact⟨o,old b o e⟩
 have f3:∀b∈fp,zfu X pins (upd H2 s2.heap.objs.size (.lst [])) b:=fun b hb=>by
  obtain⟨o,e⟩:=fpo2 b hb;refine⟨?_,(f2 b hb).2⟩;rw [zap (Nat.ne_of_lt (Heap.lt_size e))];exact(f2 b hb).1
 generalize hs3:({ s2 with heap:=s2.heap.push { cls:= .type "list",data:= .seq ([]:List Value).toArray } }:Shared)=s3 at I3⊢;have st3:tn 0 s3.heap:=by
  rw [←hs3];exact T.keep _ _ _ st2 fun b _ o e=>old b o e
 have fpo3:∀b∈fp,∃o,s3.heap.get? b=some o:=by rw [←hs3];exact fpo
 clear fpo old hs3;refine wpAny_newFunctionEnv S.cell' (by intro y hy;simp at hy) (fun h1 hns1 hsb1=>?_) S.kind;have hk1:∀b o,s3.heap.get? b=some o→h1.get? b=some o:=fun b o e=>hsb1.extBut b o (Nat.ne_of_lt (Heap.lt_size e)) (Heap.get?_push_of_some _ e);have I4:=zkN (tk:=s3.toks+([]:List (Str×Value)).length) I3 S f3 fpo3 hns1 hk1;have st4:tn 0 h1:=T.keep _ _ _ st3 fun b _ o e=>hk1 b o e;have stat:∀{H':Hp},(∀b∈fp,H' b=none)→ ∀b∈fp,zfu (zaO X scope N s3 (upd H2 s2.heap.objs.size (.lst [])) fp pins) [] H' b:=fun hn b hb=>zmV I3 S hb (f3 b hb) (fpo3 b hb) (hn b hb);have loop:∀s4:Shared,s4={ s3 with heap:=h1,toks:=s3.toks+([]:List (Str×Value)).length }→
   codeAny (model X.prog X.w) X.A (.compLoop (.ListComp elt [⟨tg,iter,ifs,0⟩] scope pos) 0 (.ref it) (.ref s2.heap.objs.size) (compEnvC scope (zez X.env.cells scope.names []) s3.heap.objs.size X.env))
    (compPost (model X.prog X.w) X.A X.xe use Qf (.ref s2.heap.objs.size) s3.heap.objs.size) s4:=by
  rintro s4 rfl;refine zgn (fun n s'=>∃i σ' H',Inv (zaO X scope N s3 (upd H2 s2.heap.objs.size (.lst [])) fp pins) [] σ' H' s'∧tn i s'.heap∧(∀b∈fp,H' b=none)∧W i n σ' H') ?_ m0 ⟨0,_,_,I4,st4,fun b hb=>(f3 b hb).1,w0⟩;rintro n s5 ⟨i,σ5,H5,I5,st5,fr5,w5⟩;rcases turn i n σ5 H5 w5 with⟨stop,qn⟩ |⟨go,M,hM,step⟩
  ·refine thn (T.done (zaO X scope N s3 (upd H2 s2.heap.objs.size (.lst [])) fp pins) rfl rfl rfl hc i [] s5 σ5 H5 _ I5 (stat fr5) st5 stop) fun r s6 ⟨hr,I6⟩=>?_;subst hr;exact fin I3 f3 I6 qn
  ·refine thn (T.item (zaO X scope N s3 (upd H2 s2.heap.objs.size (.lst [])) fp pins) rfl rfl rfl hc i [] s5 σ5 H5 _ I5 (stat fr5) st5 go) fun r s6 ⟨u,hr,h6⟩=>?_;subst hr;refine thn h6 fun _ s7 ⟨x,H7,I7,r7,y7,st7,fr7⟩=>?_;have I7':=I7.pinned (stat fr7) (T.obj _ _ st7);obtain⟨g,tt,te,hg,ht,he,q⟩:=step x H7 y7 s3 (upd H2 s2.heap.objs.size (.lst [])) fp pins;have again:∀{s8:Shared}{σ8:St}{H8:Hp},Inv (zaO X scope N s3 (upd H2 s2.heap.objs.size (.lst [])) fp pins) ([]++zgs fp s7.heap) σ8 H8 s8→M σ8 H8→
     ∃m,m<n∧ ∃i σ' H',Inv (zaO X scope N s3 (upd H2 s2.heap.objs.size (.lst [])) fp pins) [] σ' H' s8∧tn i s8.heap∧(∀b∈fp,H' b=none)∧W i m σ' H':=fun {s8 σ8 H8} I8 n8=>by
    obtain⟨m',hm,w8⟩:=hM σ8 H8 n8;refine⟨m',hm,i+1,σ8,H8,I8.unpinned,T.keep _ _ _ st7 fun b hb o e=>(I8.pin (b,o) (List.mem_append_right _ (List.mem_append_right _ (zcz hb e)))).1,fun b hb=>?_,w8⟩;obtain⟨o,e,d⟩:=T.obj _ _ st7 b hb;exact(I8.pin (b,o) (List.mem_append_right _ (List.mem_append_right _ (zcz hb e)))).2.1
   refine thn (hg _ s7 σ5 H7 x u _ I7' r7 q) fun _ s8 ⟨σ8,H8,I8,q8⟩=>?_;refine thn (ht _ s8 σ8 H8 _ I8 q8) fun b s9 ⟨H9,I9,q9⟩=>?_;cases b with
   |false=>exact again I9 q9
   |true=>
    refine thn (he _ s9 σ8 H9 _ I9 q9) fun y s10 ⟨yv,H10,I10,r10,ys,hl,hz,qM⟩=>?_;exact thn (zgo _ s10 σ8 H10 (.ref s2.heap.objs.size) [yv] (.ref s2.heap.objs.size) [y] (fun _ H'=>M σ8 H') I10 rfl (.cons r10 .nil) ⟨_,ys,yv,rfl,rfl,hl,hz,qM⟩) fun _ s11 ⟨_,H11,I11,_,q11⟩=>again I11 q11
 exact codeAny_compStart_list (loop _ rfl) (T.self _ 0 _ _ _ st4 (loop _ rfl))
theorem znf{X:Cx}{scope:Scope}{N:List Str}{k:Nat}{fr:List Nat}{tg iter elt:Expr}{ifs:List Expr}{wi:TI}{pos:Pos}(hx:X.xe=fun _ _=>False) (hc:X.calm=true) (S:CompSc X scope N k fr) (hi:PI X tg iter wi)
  (hs:∀x,foldedSetIterable iter X.env x=pure x:=by intro _;rfl):PE X (.ListComp elt [⟨tg,iter,ifs,0⟩] scope pos) (zkO X scope N k fr tg ifs elt wi):=by
 intro pins s σ H Q I h;rw [eval_ListComp];refine zfC hx hc S hi I (fun {s3 s6 H3 H5 fp σ5 l a} I3 f3 I6 qn=>?_) h hs;obtain⟨m6,ns6,_⟩:=I6.loc;exact⟨m6,ns6,fun h' sb=>⟨.ref l,H5,zfG I3 f3 I6 sb,rfl,qn⟩⟩
theorem zng{X:Cx}{scope:Scope}{N:List Str}{k:Nat}{fr:List Nat}{tg iter elt:Expr}{ifs:List Expr}{wi:TI}{pos spos pos':Pos}{i:Nat}{x:Str}(hx:X.xe=fun _ _=>False) (hc:X.calm=true) (S:CompSc X scope N k fr) (hi:PI X tg iter wi)
  (hN:X.N.Nodup) (hxi:X.N[i]? =some x) (hxl:Loc X.env.scope x) (hw:swapsWith (.ListComp elt [⟨tg,iter,ifs,0⟩] scope pos) (some (.Name x pos')) spos.line X.env=pure true) (hf:X.fn x=true∨X.env.scope.names.lookup x=some .local)
  (hs:∀x,foldedSetIterable iter X.env x=pure x:=by intro _;rfl):PS X (.Assign [.Name x pos'] (.ListComp elt [⟨tg,iter,ifs,0⟩] scope pos) spos) (zsF (zkO X scope N k fr tg ifs elt wi) (znN i)):=by
 intro pins s σ H D I h;rw [exec_Assign_Name_used x pos' _ spos hw];refine wpAny_bind (wpAny_standAt (wpAny_bind ?_));rw [arm_evalThenUse_ListComp];refine wpAny_bind ?_;refine zfC (Qf:=fun _ s'=>wpAny (model X.prog X.w) X.A (pure ()) (fun _ s2=>wpAny (model X.prog X.w) X.A (pure Flow.next) (SP X pins D) X.xe s2) X.xe s') hx hc S hi I (fun {s3 s6 H3 H5 fp σ5 l a} I3 f3 I6 qn=>?_) h hs;have IX:Inv X pins σ H5 s6:=zfG (h':=s6.heap) I3 f3 I6 ⟨rfl,fun _ _=>rfl⟩;obtain⟨m6,ns6,_⟩:=I6.loc;have ns6:s6.heap.Ns s3.heap.objs.size m6:=ns6;have frC:H5 s3.heap.objs.size=none:=I6.free;have fC:zfu X pins H5 s3.heap.objs.size:=I3.fpOk (Nat.le_refl _) frC;refine wpAny_assign_Name (zfQ IX hN hxi hxl (v:= .ref l) rfl (fun s7 I7 ⟨b,sb,hb⟩=>?_) hf);have hbC:s3.heap.objs.size≠b:=by
  rcases hb with rfl |hb
  ·exact fC.2.1
  ·exact Ne.symm (fC.2.2.2.2.1 _ _ hb)
 refine⟨m6,ns6.sameBut sb hbC,fun h' sb2=>wpAny_pure (wpAny_pure ⟨_,H5,?_,qn⟩)⟩;refine Inv.call' (s':={ s7 with heap:=h' }) (ch:=[s3.heap.objs.size]) I7 rfl ⟨fun c o e n hfs hex=>?_,fun c o e n hfs hex=>?_,fun c o e n _=>n,fun c o e hex=>?_,fun _ _ q=>q,fun _ _ _ q=>q,fun _ ps q=>⟨#[],by simpa using q⟩⟩ (fun c o e=>?_) I7.bare fun c hcm=>?_
 ·exact(sb2.2 c (fun z=>hex (by simp [z]))).trans e
 ·exact⟨o.slots,(sb2.2 c (fun z=>hex (by simp [z]))).trans e⟩
 ·exact⟨o,(sb2.2 c (fun z=>hex (by simp [z]))).trans e⟩
 ·refine(I7.hok c o e).stay (fun d v hd q=>(sb2.2 d ?_).trans q) (fun _ q=>q) fun _ _ q=>q;rintro rfl;rcases hd with rfl |hd
  ·rw [frC]at e;cases e
  ·rw [frC]at hd;cases hd
 ·rw [List.mem_singleton.mp hcm];exact⟨fC.2.2.2.1,fC.2.1,fC.2.2.2.2.1,fC.2.2.2.2.2⟩
noncomputable def Its (x:Str):It:=⟨fun i _=>i<x.cps.size,fun i H v H'=>H'=H∧ ∃c,x.cps[i]? =some c∧v= .str ⟨#[c]⟩,fun i _=>i=x.cps.size⟩
theorem zhG{P:Program}{w:World}{K:PySem.W.Frag}{tg:Expr}(it:Addr) (x:Str) (t:Tok) (ty:String)
    (hn: ["enumerate", "zip", "dict_itemiterator", "dict_reverseitemiterator", "odict_iterator", "itertools.zip_longest", "itertools.pairwise"].contains ty=false)
    (hW:∀A':Around,A'.handled=none→Walks P w A' it [it] [it] x.cps.size (SignAt x) (fun i h=>h.IsStrIter it ty x t i))
    (hself:∀(A:Around) (i:Nat) (s:Shared) (Q:Value→Shared→Prop) (E:Value→Shared→Prop),s.heap.IsStrIter it ty x t i→Q (.ref it) s→wpAny (model P w) A (pyIter (.ref it)) Q E s) :
    Turn P w K tg (Its x) [it] it (fun i h=>h.IsStrIter it ty x t i) where
  mem:=by simp
  obj:=fun i h st b hb=>by
    have e:b=it:=by simpa using hb
    subst e;obtain⟨o,e,c,d⟩:=st;exact⟨o,e,fun v z=>by rw [d]at z;cases z⟩
  keep:=fun i h h' st k=>by
    obtain⟨o,e,r⟩:=st;exact⟨o,k it (by simp) o e,r⟩
  item:=by
    intro X hP hw hK hc i pins s σ H E I hf st hg;subst hP hw hK;obtain⟨f0,f1,f2,f3,f4,f5⟩:=hf it (by simp);refine(hW X.A (I.ok.hd hc)).item i s _ _ hg st fun v h' tk hv st' kk=>?_;obtain⟨c,u,hc',rfl⟩:=hv;have I1:Inv X pins σ H { s with heap:=h',toks:=tk }:=I.turned (fun b o hb e=>kk b o (by simpa using hb) e) f0 f1 f3 f4 f5;obtain⟨o,e,c',d⟩:=id st';exact⟨_,rfl,zkG (s:={ s with heap:=h',toks:=tk }) e c' d hn ⟨.str ⟨#[c]⟩,H,I1,⟨u,rfl⟩,⟨rfl,c,hc',rfl⟩,st',fun b hb=>(hf b hb).1⟩⟩
  done:=by
    intro X hP hw hK hc i pins s σ H E I hf st hg;subst hP hw hK;obtain⟨f0,f1,f2,f3,f4,f5⟩:=hf it (by simp);have hi:i=x.cps.size:=hg;subst hi;exact(hW X.A (I.ok.hd hc)).done s _ _ st fun h' tk kk=>⟨rfl,I.turned (fun b o hb e=>kk b o (by simpa using hb) e) f0 f1 f3 f4 f5⟩
  self:=hself
noncomputable def TupsOn (H H':Hp):Prop:=∀b xs,H b=some (.tup xs)→H' b=some (.tup xs)
theorem TupsOn.trans{H H1 H2:Hp}(a:TupsOn H H1) (b:TupsOn H1 H2):TupsOn H H2:=fun c xs h=>b c xs (a c xs h)
section
variable {X:Cx}
noncomputable def ztv:V→Option Int→Option Int→Hp→VK→Prop:=fun x lo hi H Q=>∃z,x= .str z∧z.length≤sizeLine∧Q (.str (Txt.slice z lo hi)) H
theorem sl_str:SlR X ztv:=by
 intro pins s σ H x v vl vu lo hi sl Q I rx hs pl pu h;obtain⟨z,rfl,hz,q⟩:=h;obtain⟨t,rfl⟩:=rx;refine⟨"str",_,F.slot_str_getitem.lookup,typeIs_str _ _ _,?_⟩;obtain⟨o,ho,hc,hd⟩:=hs;have fin:∀t' k,EP X pins σ Q (.str (Txt.slice z lo hi) t') { s with toks:=k }:=fun t' k=>⟨.str _,H,I.tok _,⟨t',rfl⟩,q⟩;have le:=Nat.le_trans (Txt.slice_le z lo hi) hz;cases pl with
 |none=>
  cases pu with
  |none=>exact wpAny_getItem_str_slice (l:=none) (u:=none) (st:=none) ⟨o,ho,hc,hd⟩ rfl (post_val_or_str ⟨le,fin⟩)
  |int j u=>exact wpAny_getItem_str_slice (l:=none) (u:=some (j,u)) (st:=none) ⟨o,ho,hc,hd⟩ rfl (post_val_or_str ⟨le,fin⟩)
 |int i w=>
  cases pu with
  |none=>exact wpAny_getItem_str_slice (l:=some (i,w)) (u:=none) (st:=none) ⟨o,ho,hc,hd⟩ rfl (post_val_or_str ⟨le,fin⟩)
  |int j u=>exact wpAny_getItem_str_slice (l:=some (i,w)) (u:=some (j,u)) (st:=none) ⟨o,ho,hc,hd⟩ rfl (post_val_or_str ⟨le,fin⟩)
noncomputable def zqT (xs:List Nat) (lo hi:Option Int):List Nat:=(xs.drop (HT.sIx xs.length 0 lo)).take (HT.sIx xs.length xs.length hi - HT.sIx xs.length 0 lo)
theorem zma (lo hi:Option Int) (n:Nat):Builtin.Str.strSliceIndices lo hi 1 n=sliceRange ((HT.sIx n 0 lo:Nat):Int) ((HT.sIx n n hi:Nat):Int) 1:=by
 have one:(1:Int) > 0:=by decide
 have a:∀(v:Option Int) (d:Nat),(match v with |none=>(d:Int) |some i=>(if(1:Int) > 0 then max 0 (min (if i<0 then i+(n:Int) else i) (n:Int)) else max (-1) (min (if i<0 then i+(n:Int) else i) ((n:Int) - 1))))=((HT.sIx n d v:Nat):Int):=by
  intro v d;cases v with
  |none=>rfl
  |some i=>
   simp only[HT.sIx,one,if_true];by_cases h:i<0
   ·simp only[h,if_true];omega
   ·simp only[h,if_false];omega
 have l:=a lo 0;have u:=a hi n;unfold Builtin.Str.strSliceIndices;simp only[one,if_true]at l u⊢
 first
  |rw [l,u]
  | (cases lo<;>cases hi<;>simp_all)
theorem zjt (z:Str) (lo hi:Option Int):(Txt.slice z lo hi).cps.toList=zqT z.cps.toList lo hi:=by
 have hn:z.length=z.cps.toList.length:=by simp [Str.length]
 have hp:(Builtin.Str.strSliceIndices lo hi 1 z.length).filterMap (z.cps[·]?)=zqT z.cps.toList lo hi:=by
  rw [zma,sliceRange_one,pick_run,hn];rfl
 unfold Txt.slice;split
 ·rename_i h;have h1:(Builtin.Str.strSliceIndices lo hi 1 z.length).length=z.length:=by simpa using h
  rw [zma,sliceRange_one,List.length_map,List.length_range]at h1;have le1:=HT.sIx_le z.length z.length (Nat.le_refl _) hi;unfold zqT;rw [←hn];have e0:HT.sIx z.length 0 lo=0∨z.length=0:=by omega
  have hz:z.cps.toList.length=z.length:=hn.symm;rcases e0 with e0 |e0
  ·rw [e0,List.drop_zero,List.take_of_length_le (by omega)]
  ·have:z.cps.toList=[]:=List.eq_nil_of_length_eq_zero (by omega);rw [this];simp
 ·show(List.filterMap _ _).toArray.toList=_;rw [hp]
theorem zlr:CallR X (.builtin "isinstance") (fun xs H Q=>∃x t c b,xs=[x, .ty c]∧TyOf X.K H x t∧PySem.W.kitOne X.K t (.type c)=some b∧Q (.bl b) H):=by
 intro pins s σ H xs us Q I r h;obtain⟨x,t,c,b,rfl,ty,e,q⟩:=h;obtain⟨u,v,rfl,rx,ry⟩:=zsm r;cases(show v=Value.type c from ry);exact zjK I rx ty e fun tk=>⟨.bl b,H,I.tok _,rfl,q⟩
end
section
variable {X:Cx}
theorem zcS (l:Addr) (items:Array Value) (n:Nat) (b:Addr) (items2:Array Value) (n2:Nat) (dd:Option Addr) (sl:Array (Option Value)) (hs0:¬(!items.isEmpty&&Builtin.List.listTooLong (items.size+items2.size))=true) (hs1:items.size≤sizeLine) (hs2:items.size+items2.size≤sizeLine+1) :
  Meets (Builtin.«list.extend» ⟨[.ref l, .ref b],[]⟩) (fun _ R s=>s.heap.get? l=some { cls:= .type "list",dict:=none,data:= .seq items n,slots:= #[] }∧s.heap.get? b=some { cls:= .type "tuple",dict:=dd,data:= .seq items2 n2,slots:=sl }∧R (.ok (.ret Value.none)) { s with heap:=s.heap.update l (Obj.mapSeq fun x=>x++items2),toks:=s.toks }):=
 .of_wp fun prog w A R s h=>by
  obtain⟨hp,g,d,tk,os⟩:=s;obtain⟨hl,hb,h⟩:=h;have f1:=AutoSeq1.idx_int;have f2:=AutoSeq1.sub_tuple_tuple;have f3:=AutoSeq1.sub_list_list;have f4:=AutoSeq1.sub_tuple_list;have f5:=AutoSeq1.sub_list_tuple;have hz':(items++items2).size≤sizeLine+1:=by rw [Array.size_append];exact hs2
  wp_walk using(wpAny_updateSeq hl rfl (hz:=hs1) (_hz':=hz')),AutoSeq1.wpAny_loadPart' hl,AutoSeq1.wpAny_loadPart' hb;exact⟨_,rfl,h⟩
noncomputable def zhP (K:PySem.W.Frag):V→List V→Hp→VK→Prop:=fun x vs H Q=>∃l b xs zs,x= .ref l∧vs=[.ref b]∧H l=some (.lst xs)∧SqT K H b zs∧xs.length+zs.length≤sizeLine∧Q .non (upd H l (.lst (xs++zs)))
theorem zir:MtM X "list.extend" (zhP X.K):=by
 intro pins s σ H x vs v us Q I rx rv h;obtain⟨l,b,xs,zs,rfl,rfl,hH,hB,hz,q⟩:=h;cases rx;obtain⟨u,rfl,ru⟩:=rv.one;cases ru;obtain⟨z,its,n,r,hl,e⟩:=I.lstM hH;obtain⟨its2,r2,ht,hz2⟩:=I.tuple hB;obtain⟨⟨cls,dd,data,sl⟩,e2,hc,n2,hd⟩:=ht;simp only at hc hd;subst hc hd;have hl2:=r2.length;have hsz:its.toArray.size+its2.toArray.size≤sizeLine:=by rw [List.size_toArray,List.size_toArray];omega
 have hlong:¬(!its.toArray.isEmpty&&Builtin.List.listTooLong (its.toArray.size+its2.toArray.size))=true:=by
  rw [zhJ hsz,Bool.and_false];exact Bool.false_ne_true
 refine call_meets F.slot_list_extend ⟨_,e,rfl⟩ F.entry_list_extend (F.args_list_extend_2 _ _)
  (zcS l its.toArray n b its2.toArray n2 dd sl hlong (by rw [List.size_toArray];omega) (by omega)) ⟨e,e2,?_⟩
 refine⟨.non,_,I.lset (its':=its++its2) hH e (by simp) (r.append r2) ?_,rfl,q⟩;rw [List.length_append];omega
noncomputable def zqc (K:PySem.W.Frag):V→List V→Hp→VK→Prop:=fun x vs H Q=>∃(z:Str) (b:Addr) (ys:List Str),x= .str z∧vs=[.ref b]∧SqL K H b (ys.map V.str)∧(ys.map (·.length)).sum+ys.length*z.length≤16777216∧Q (.str (Str.join z ys)) H
theorem zmP{ys:List Str}:∀{us:List Value},Vals (ys.map V.str) us→StrsAre us ys:=by
 induction ys with
 |nil=>
  intro us r;cases r;exact .nil
 |cons y ys ih=>
  intro us r;cases r with
  |cons a b=>
   obtain⟨t,rfl⟩:=a;exact .cons y t (ih b)
theorem znv:MtM X "str.join" (zqc X.K):=by
 intro pins s σ H x vs v us Q I rx rv h;obtain⟨z,b,ys,rfl,rfl,hB,hz,q⟩:=h;obtain⟨t,rfl⟩:=rx;obtain⟨u,rfl,ru⟩:=rv.one;cases ru;obtain⟨its,r,pl,_⟩:=I.list hB;refine join_list pl.isList (by simpa using zmP r) hz fun t' k=>⟨.str (Str.join z ys),H,I.tok _,⟨t',?_⟩,q⟩;show Value.str (Builtin.Str.glued z ys) t'=_;rw [StrLaws.glued_eq_join]
end
theorem zdI:fillsNumberSlot (.type "tuple") "mul" =pure false:=
 PySem.fillsNumberSlot_seq (id:= "tuple.__mul__") (r:=some (.builtin "tuple.__rmul__")) F.slot_tuple_mul.lookup (by decide +kernel) F.slot_tuple_rmul.lookup (by decide +kernel)
theorem zgp:seqRepeat? (.type "tuple")=pure (some (.builtin "tuple.__mul__")):=by
 unfold seqRepeat?;rw [PySem.seqSlot_of (T:= "tuple") (name:= "__mul__") (id:= "tuple.__mul__") F.slot_tuple_mul.lookup (by decide +kernel),PySem.seqSlot_of (T:= "tuple") (name:= "__rmul__") (id:= "tuple.__rmul__") F.slot_tuple_rmul.lookup (by decide +kernel)];rfl
theorem zik (a:Int) (t:Tok) (l:Addr) (items:Array Value) (n:Nat) (dd:Option Addr) (sl:Array (Option Value)) :
  Meets (Builtin.«int.__rmul__» ⟨[.int a t, .ref l],[]⟩) (fun _ R s=>s.heap.get? l=some { cls:= .type "tuple",dict:=dd,data:= .seq items n,slots:=sl }∧R (.ok (.ret Value.notImplemented)) s):=
 .of_wp fun prog w A R s h=>by obtain⟨hp,g,d,tk,os⟩:=s;obtain⟨hl,h⟩:=h;wp_walk;exact⟨_,rfl,h⟩
theorem zfq (l:Addr) (items:Array Value) (n:Nat) (dd:Option Addr) (sl:Array (Option Value)) (u:Tok) :
  Meets (Builtin.«tuple.__mul__» ⟨[.ref l, .int 1 u],[]⟩) (fun _ R s=>s.heap.get? l=some { cls:= .type "tuple",dict:=dd,data:= .seq items n,slots:=sl }∧R (.ok (.ret (.ref l))) s):=
 .of_wp fun prog w A R s h=>by
  obtain⟨hp,g,d,tk,os⟩:=s;obtain⟨hl,h⟩:=h;have f1:=AutoSeq1.idx_int;have f2:=AutoSeq1.sub_tuple_tuple
  wp_walk using AutoSeq1.wpAny_loadPart' hl
  exact⟨_,rfl,h⟩
theorem zft (l:Addr) (items:Array Value) (n:Nat) (dd:Option Addr) (sl:Array (Option Value)) (x:Int) (u:Tok) (h0:x≤0) (h1: -(2 ^ 63)≤x) (hne:items.isEmpty=false) :
  Meets (Builtin.«tuple.__mul__» ⟨[.ref l, .int x u],[]⟩) (fun _ R s=>s.heap.get? l=some { cls:= .type "tuple",dict:=dd,data:= .seq items n,slots:=sl }∧R (.ok (.ret (.ref s.heap.objs.size))) { s with heap:=s.heap.push { cls:= .type "tuple",data:= .seq #[] } }):=
 .of_wp fun prog w A R s h=>by
  obtain⟨hp,g,d,tk,os⟩:=s;obtain⟨hl,h⟩:=h;have f1:=AutoSeq1.idx_int;have f2:=AutoSeq1.sub_tuple_tuple;have c1:(decide (x< -2 ^ 63) || decide (x≥2 ^ 63))=false:=by
   rw [decide_eq_false (by omega),decide_eq_false (by omega)];rfl
  have c2:(items.isEmpty || x == 1)=false:=by
   rw [hne,beq_false_of_ne (by omega)];rfl
  have c3:(decide (x≤0) || items.isEmpty)=true:=by rw [decide_eq_true h0];rfl
  wp_walk using AutoSeq1.wpAny_loadPart' hl
  refine wpAny_ite_split (fun z=>absurd z (Bool.eq_false_iff.mp c1)) fun _=>?_
  wp_walk using AutoSeq1.wpAny_loadPart' hl
  refine wpAny_ite_split (fun z=>absurd z (Bool.eq_false_iff.mp c2)) fun _=>?_;refine wpAny_ite_split (fun _=>?_) (fun z=>absurd c3 z)
  wp_walk using AutoSeq1.wpAny_loadPart' hl
  exact⟨_,rfl,h⟩
theorem zeD (l:Addr) (items:Array Value) (n:Nat) (dd:Option Addr) (sl:Array (Option Value)) (x:Int) (u:Tok) (h0:2≤x) (h1:x<2 ^ 63) (hne:items.isEmpty=false) (hz:items.size*x.toNat≤sizeLine) :
  Meets (Builtin.«tuple.__mul__» ⟨[.ref l, .int x u],[]⟩) (fun _ R s=>s.heap.get? l=some { cls:= .type "tuple",dict:=dd,data:= .seq items n,slots:=sl }∧R (.ok (.ret (.ref s.heap.objs.size))) { s with heap:=s.heap.push { cls:= .type "tuple",data:= .seq (List.foldl (fun x1 x2=>x1++x2) #[] (List.replicate x.toNat items)) } }):=
 .of_wp fun prog w A R s h=>by
  obtain⟨hp,g,d,tk,os⟩:=s;obtain⟨hl,h⟩:=h;have f1:=AutoSeq1.idx_int;have f2:=AutoSeq1.sub_tuple_tuple;have hx:((x.toNat:Nat):Int)=x:=by omega
  have hzi:(items.size:Int)*x≤16777216:=by
   have:((items.size*x.toNat:Nat):Int)≤(sizeLine:Nat):=by exact_mod_cast hz
   rw [Int.natCast_mul,hx]at this;exact this
  have c1:(decide (x< -2 ^ 63) || decide (x≥2 ^ 63))=false:=by
   rw [decide_eq_false (by omega),decide_eq_false (by omega)];rfl
  have c2:(items.isEmpty || x == 1)=false:=by
   rw [hne,beq_false_of_ne (by omega)];rfl
  have c3:(decide (x≤0) || items.isEmpty)=false:=by rw [hne,decide_eq_false (by omega)];rfl
  have c4:¬(items.size:Int)*x > (2 ^ 63 - 1) / 8:=by omega
  have c5:Builtin.Tuple.tupleTooMany ((items.size:Int)*x)=false:=decide_eq_false (by
   have:((sizeLine:Nat):Int)=16777216:=by decide
   omega)
  have hsz:(List.foldl (fun x1 x2=>x1++x2) #[] (List.replicate x.toNat items)).size≤sizeLine:=by
   rw [AutoSeq1.size_joined];simp;rw [Nat.mul_comm];exact hz
  wp_walk using AutoSeq1.wpAny_loadPart' hl
  refine wpAny_ite_split (fun z=>absurd z (Bool.eq_false_iff.mp c1)) fun _=>?_
  wp_walk using AutoSeq1.wpAny_loadPart' hl
  refine wpAny_ite_split (fun z=>absurd z (Bool.eq_false_iff.mp c2)) fun _=>?_;refine wpAny_ite_split (fun z=>absurd z (Bool.eq_false_iff.mp c3)) fun _=>?_;refine wpAny_ite_split (fun z=>absurd z c4) fun _=>?_;refine wpAny_ite_split (fun z=>absurd z (Bool.eq_false_iff.mp c5)) fun _=>?_
  wp_walk using AutoSeq1.wpAny_loadPart' hl
  exact⟨_,rfl,h⟩
section
variable {X:Cx}
noncomputable def zoN (K:PySem.W.Frag):R2:=fun x y H Q=>∃a k xs,x= .ref a∧y= .int k∧SqT K H a xs∧xs≠ []∧ -(2 ^ 63)≤k∧k<2 ^ 63∧xs.length*k.toNat≤sizeLine∧
 (k=1→Q (.ref a) H)∧(k≠1→ ∀p,H p=none→Q (.ref p) (upd H p (.tup (List.replicate k.toNat xs).flatten)))
theorem zns:OpR X (binaryOp .Mult) (zoN X.K):=by
 intro pins s σ H x y v u Q I rx ry h;obtain⟨a,k,xs,rfl,rfl,ha,hne,h1,h2,hz,q1,q2⟩:=h;cases rx;obtain⟨t,rfl⟩:=ry;obtain⟨its,r,ht,hz0⟩:=I.tuple ha;have hlen:=r.length;have ty:=ht.typeIs;obtain⟨⟨cls,dd,data,sl⟩,e,hc,n,hd⟩:=ht;simp only at hc hd;subst hc hd;have hemp:its.toArray.isEmpty=false:=by
  cases its with
  |nil=>
   have:xs=[]:=List.eq_nil_of_length_eq_zero (by rw [hlen];rfl);exact absurd this hne
  |cons b bs=>rfl
 have fin:∀{its':List Value}{ys:List V},Vals ys its'→ys.length≤sizeLine→(∀p,H p=none→Q (.ref p) (upd H p (.tup ys)))→EP X pins σ Q (.ref s.heap.objs.size) { s with heap:=s.heap.push { cls:= .type "tuple",data:= .seq its'.toArray } }:=fun {its' ys} rv hl q=>
  ⟨.ref s.heap.objs.size,_,I.laid (t':=s.toks) (o:= .tup ys) (fun b ob q=>Heap.get?_push_of_some _ q) (Nat.le_refl _) ⟨hl,_,rv,IsTup.new _ _⟩,rfl,q _ (I.hok.fresh (Nat.le_refl _))⟩
 refine wpAny_binaryOp_repeat_ref (T:= "tuple") (U:= "int") (by decide) ty (fun s'=>typeIs_int s' k t) zdI F.fills_int_mul F.slot_int_rmul zgp F.slot_int_index.lookup
  (call_meets F.slot_int_rmul (typeIs_int s k t) F.entry_int_rmul (F.args_int_rmul_2 _ _) (zik k t a its.toArray n dd sl) ⟨e,rfl,ty,?_⟩)
 by_cases hk:k=1
 ·subst hk;exact call_meets F.slot_tuple_mul ty F.entry_tuple_mul (F.args_tuple_mul_2 _ _) (zfq a its.toArray n dd sl t) ⟨e, .ref a,H,I,rfl,q1 rfl⟩
 ·by_cases h0:k≤0
  ·refine call_meets F.slot_tuple_mul ty F.entry_tuple_mul (F.args_tuple_mul_2 _ _) (zft a its.toArray n dd sl k t h0 h1 hemp) ⟨e,?_⟩;have z:k.toNat=0:=by omega
   have q2':=q2 hk;rw [z]at q2';exact fin (its':=[]) (ys:=[]) .nil (Nat.zero_le _) q2'
  ·refine call_meets F.slot_tuple_mul ty F.entry_tuple_mul (F.args_tuple_mul_2 _ _) (zeD a its.toArray n dd sl k t (by omega) h2 hemp (by rw [List.size_toArray,←hlen];exact hz)) ⟨e,?_⟩;have hf:=zfN its k.toNat [];rw [List.nil_append]at hf;have hf':List.foldl (fun x1 x2=>x1++x2) #[] (List.replicate k.toNat its.toArray)=(List.replicate k.toNat its).flatten.toArray:=hf;rw [hf'];exact fin (r.rep k.toNat) (by rw [znc,Nat.mul_comm];exact hz) (q2 hk)
end
inductive W where
  |non |bl (b:Bool) |int (i:Int) |str (x:Str) |tup (ws:List W) |ref (a:Addr) |scr (ns:List Int)
inductive Ob where
  |lst (ws:List W)
  |dct (kvs:List (List Int×W))
  |dk (kvs:List (Key×W))
  |ins (C:Addr) (fs:List (Str×W))
noncomputable abbrev Sto:=Addr→Option Ob
noncomputable def put (S:Sto) (a:Addr) (o:Ob):Sto:=fun b=>if b=a then some o else S b
noncomputable def FzL (K:PySem.W.Frag) (H:Hp) (a:Addr) (xs:List V):Prop:=
 (∃o,H a=some (.frz o (.lst xs)))∨
  ∃(o:Obj) (its:Array Value) (n:Nat),K.lookup a=some o∧o.cls= .type "list" ∧o.dict=none∧o.data= .seq its n∧its.size≤sizeLine∧Vals xs its.toList
mutual
inductive Rep (K:PySem.W.Frag) (H:Hp):W→V→Prop
 |non:Rep K H .non .non
 |bl (b:Bool):Rep K H (.bl b) (.bl b)
 |int (i:Int):Rep K H (.int i) (.int i)
 |str (x:Str):Rep K H (.str x) (.str x)
 |ref (a:Addr):Rep K H (.ref a) (.ref a)
 |scr {a:Addr}{ns:List Int}:FzL K H a (ns.map V.int)→Rep K H (.scr ns) (.ref a)
 |tup {a:Addr}{vs:List V}{ws:List W}:H a=some (.tup vs)→Reps K H ws vs→Rep K H (.tup ws) (.ref a)
inductive Reps (K:PySem.W.Frag) (H:Hp):List W→List V→Prop
 |nil:Reps K H [] []
 |cons {w:W}{v:V}{ws:List W}{vs:List V}:Rep K H w v→Reps K H ws vs→Reps K H (w::ws) (v::vs)
end
structure Ext (H:Hp) (S:Sto) (H':Hp) (S':Sto):Prop where
  tup:∀b xs,H b=some (.tup xs)→H' b=some (.tup xs)
  frz:∀b o u,H b=some (.frz o u)→H' b=some (.frz o u)
  fr:∀b xs,H b=some (.lst xs)→S b=none→H' b=some (.lst xs)∧S' b=none
  all:∀b o,H b=some o→ ∃o',H' b=some o'
noncomputable def Sub (S S':Sto):Prop:=∀a o,S a=some o→S' a=some o
section
variable {K:PySem.W.Frag}{H H' H1 H2:Hp}{S S' S1 S2:Sto}
theorem zaf{a:Addr}{o:Ob}:put S a o a=some o:=by unfold put;rw [if_pos rfl]
theorem zaB{a b:Addr}{o:Ob}(h:b≠a):put S a o b=S b:=by unfold put;rw [if_neg h]
theorem zbx{a:Addr}{o o':Ob}:put (put S a o) a o'=put S a o':=by funext b;unfold put;split<;>rfl
theorem Ext.refl:Ext H S H S:=⟨fun _ _ h=>h,fun _ _ _ h=>h,fun _ _ h g=>⟨h,g⟩,fun _ o h=>⟨o,h⟩⟩
theorem Ext.trans (a:Ext H S H1 S1) (b:Ext H1 S1 H2 S2):Ext H S H2 S2:=⟨fun c xs h=>b.tup c xs (a.tup c xs h),fun c o u h=>b.frz c o u (a.frz c o u h),
 fun c o h g=>by
  obtain⟨h1,g1⟩:=a.fr c o h g;exact b.fr c o h1 g1,fun c o h=>by
  obtain⟨o1,h1⟩:=a.all c o h;exact b.all c o1 h1⟩
theorem Ext.new{p:Addr}{o:HO}(h:H p=none):Ext H S (upd H p o) S:=
  ⟨fun b xs e=>by rw [zap (zan e h)];exact e,fun b ob u e=>by rw [zap (zan e h)];exact e,
   fun b ob e g=>⟨by rw [zap (zan e h)];exact e,g⟩,fun b ob e=>⟨ob,by rw [zap (zan e h)];exact e⟩⟩
theorem Ext.newS{p:Addr}{o:HO}{ob:Ob}(h:H p=none):Ext H S (upd H p o) (put S p ob):=
  ⟨fun b xs e=>by rw [zap (zan e h)];exact e,fun b ob u e=>by rw [zap (zan e h)];exact e,
   fun b ob e g=>⟨by rw [zap (zan e h)];exact e,by rw [zaB (zan e h)];exact g⟩,fun b ob e=>⟨ob,by rw [zap (zan e h)];exact e⟩⟩
theorem Ext.mut{p:Addr}{o u:HO}{ob ob0:Ob}(h:H p=some u) (hs:S p=some ob0) (ht:∀xs,u≠ .tup xs) (hf:∀ob q,u≠ .frz ob q):Ext H S (upd H p o) (put S p ob):=
  ⟨fun b xs e=>by rw [zap (zkx e h fun z=>ht xs z.symm)];exact e,fun b ob q e=>by rw [zap (zkx e h fun z=>hf ob q z.symm)];exact e,
   fun b ob e g=>by
     have hb:b≠p:=by rintro rfl;rw [hs]at g;cases g
     exact⟨by rw [zap hb];exact e,by rw [zaB hb];exact g⟩,fun b ob e=>by
     by_cases hb:b=p
     · subst hb;exact⟨o,zaq⟩
     · exact⟨ob,by rw [zap hb];exact e⟩⟩
theorem Ext.lst{p:Addr}{o:HO}{ob ob0:Ob}{xs:List V}(h:H p=some (.lst xs)) (hs:S p=some ob0):Ext H S (upd H p o) (put S p ob):= .mut h hs (fun _ z=>nomatch z) fun _ _ z=>nomatch z
theorem Ext.drop (h:Sub S' S):Ext H S H S':=⟨fun _ _ h=>h,fun _ _ _ h=>h,fun b o e g=>⟨e,by
 cases q:S' b with
 |none=>rfl
 |some z=>rw [h b z q]at g;cases g⟩,fun _ o h=>⟨o,h⟩⟩
theorem Ext.free (e:Ext H S H' S') {p:Addr}(h:H' p=none):H p=none:=by
 cases q:H p with
 |none=>rfl
 |some o=>obtain⟨o',z⟩:=e.all p o q;rw [h]at z;cases z
theorem Ext.fz{a:Addr}{xs:List V}(e:Ext H S H' S') (h:FzL K H a xs):FzL K H' a xs:=by
 rcases h with⟨o,h⟩ |h
 ·exact .inl ⟨o,e.frz _ _ _ h⟩
 ·exact .inr h
theorem FzL.sq{a:Addr}{xs:List V}(h:FzL K H a xs):SqL K H a xs:=by
 rcases h with⟨o,h⟩ |h
 ·exact .inl (.inr ⟨o,h⟩)
 ·exact .inr h
mutual
theorem Rep.ext (e:Ext H S H' S') {w:W}{v:V}:Rep K H w v→Rep K H' w v
 | .non=> .non
 | .bl b=> .bl b
 | .int i=> .int i
 | .str x=> .str x
 | .ref a=> .ref a
 | .scr h=> .scr (e.fz h)
 | .tup h hs=> .tup (e.tup _ _ h) (Reps.ext e hs)
theorem Reps.ext (e:Ext H S H' S') {ws:List W}{vs:List V}:Reps K H ws vs→Reps K H' ws vs
 | .nil=> .nil
 | .cons h hs=> .cons (Rep.ext e h) (Reps.ext e hs)
end
theorem Reps.length:∀{ws:List W}{vs:List V},Reps K H ws vs→ws.length=vs.length
 |_,_, .nil=>rfl
 |_,_, .cons _ hs=>congrArg (· +1) (Reps.length hs)
theorem Reps.get:∀{ws:List W}{vs:List V}{i:Nat}{w:W},Reps K H ws vs→ws[i]? =some w→ ∃v,vs[i]? =some v∧Rep K H w v
 |_,_,_,_, .nil,e=>by simp at e
 |_,_,0,_, .cons h _,e=>by simp at e;subst e;exact⟨_,rfl,h⟩
 |_,_,i+1,w, .cons _ hs,e=>by
  obtain⟨v,h1,h2⟩:=Reps.get (i:=i) (w:=w) hs (by simpa using e);exact⟨v,by simpa using h1,h2⟩
theorem Reps.append:∀{ws us:List W}{vs xs:List V},Reps K H ws vs→Reps K H us xs→Reps K H (ws++us) (vs++xs)
 |_,_,_,_, .nil,h=>h
 |_,_,_,_, .cons r t,h=> .cons r (Reps.append t h)
theorem Reps.take:∀{ws:List W}{vs:List V}(n:Nat),Reps K H ws vs→Reps K H (ws.take n) (vs.take n)
 |_,_,0,_=> .nil
 |_,_,_+1, .nil=> .nil
 |_,_,n+1, .cons r t=> .cons r (Reps.take n t)
theorem Reps.drop:∀{ws:List W}{vs:List V}(n:Nat),Reps K H ws vs→Reps K H (ws.drop n) (vs.drop n)
 |_,_,0,r=>r
 |_,_,_+1, .nil=> .nil
 |_,_,n+1, .cons _ t=>Reps.drop n t
theorem Reps.one{w:W}{v:V}(h:Rep K H w v):Reps K H [w] [v]:= .cons h .nil
theorem Reps.ofInts:∀(ns:List Int),Reps K H (ns.map W.int) (ns.map V.int)
 | []=> .nil
 |n::ns=> .cons (.int n) (Reps.ofInts ns)
end
noncomputable def RepO (K:PySem.W.Frag) (H:Hp) (a:Addr):Ob→Prop
 | .lst ws=>∃vs,H a=some (.lst vs)∧Reps K H ws vs
 | .dct kvs=>∃ps:List (List Key×V),H a=some (.dT ps)∧Paired (fun q p=>p.1=q.1.map Sum.inl∧Rep K H q.2 p.2) kvs ps
 | .dk kvs=>∃ps:List (Key×V),H a=some (.dK ps)∧Paired (fun q p=>p.1=q.1∧Rep K H q.2 p.2) kvs ps
 | .ins C fs=>∃(dx:Addr) (ps:List (Str×V)),H a=some (.ins C dx ps)∧Paired (fun q p=>p.1=q.1∧Rep K H q.2 p.2) fs ps
noncomputable def RepS (K:PySem.W.Frag) (H:Hp) (S:Sto):Prop:=∀a o,S a=some o→RepO K H a o
section
variable {K:PySem.W.Frag}{H H':Hp}{S S' S0 S0':Sto}{a b p:Addr}{o:Ob}
theorem Sub.refl:Sub S S:=fun _ _ h=>h
theorem Sub.trans{S1 S2 S3:Sto}(h:Sub S1 S2) (g:Sub S2 S3):Sub S1 S3:=fun a o e=>g a o (h a o e)
theorem RepS.sub (h:RepS K H S') (q:Sub S S'):RepS K H S:=fun a o e=>h a o (q a o e)
theorem RepO.some (h:RepO K H a o):∃u,H a=some u:=by
 cases o with
 |lst ws=>obtain⟨vs,e,_⟩:=h;exact⟨_,e⟩
 |dct kvs=>obtain⟨vs,e,_⟩:=h;exact⟨_,e⟩
 |dk kvs=>obtain⟨vs,e,_⟩:=h;exact⟨_,e⟩
 |ins C fs=>obtain⟨_,vs,e,_⟩:=h;exact⟨_,e⟩
theorem RepS.free (h:RepS K H S) (e:H p=none):S p=none:=by
 cases q:S p with
 |none=>rfl
 |some o=>obtain⟨u,z⟩:=(h p o q).some;rw [e]at z;cases z
theorem RepO.keep (e:Ext H S0 H' S0') (k:∀u,H a=Option.some u→H' a=Option.some u) (h:RepO K H a o):RepO K H' a o:=by
 cases o with
 |lst ws=>obtain⟨vs,e1,r⟩:=h;exact⟨vs,k _ e1,r.ext e⟩
 |dct kvs=>obtain⟨vs,e1,r⟩:=h;exact⟨vs,k _ e1,Paired.mapP r fun _ _ z=>⟨z.1,z.2.ext e⟩⟩
 |dk kvs=>obtain⟨vs,e1,r⟩:=h;exact⟨vs,k _ e1,Paired.mapP r fun _ _ z=>⟨z.1,z.2.ext e⟩⟩
 |ins C fs=>obtain⟨dx,vs,e1,r⟩:=h;exact⟨dx,vs,k _ e1,Paired.mapP r fun _ _ z=>⟨z.1,z.2.ext e⟩⟩
theorem RepS.new{u:HO}(h:RepS K H S) (e:H p=none):RepS K (upd H p u) S:=fun a o q=>
 (h a o q).keep (.new (S:=S) e) fun v z=>by rw [zap (zan z e)];exact z
theorem RepS.put_lst{ws:List W}{vs:List V}(h:RepS K H S) (e:H p=none) (r:Reps K (upd H p (.lst vs)) ws vs):RepS K (upd H p (.lst vs)) (put S p (.lst ws)):=fun a o q=>by
 by_cases ha:a=p
 ·subst ha;rw [zaf]at q;cases q;exact⟨vs,zaq,r⟩
 ·rw [zaB ha]at q;exact h.new e a o q
theorem RepS.set_lst{ws0 ws:List W}{vs:List V}(h:RepS K H S) (e:S a=some (.lst ws0)) (r:Reps K H ws vs):Ext H S (upd H a (.lst vs)) (put S a (.lst ws))∧RepS K (upd H a (.lst vs)) (put S a (.lst ws)):=by
 obtain⟨vs0,e0,_⟩:=h a _ e;have x:Ext H S (upd H a (.lst vs)) (put S a (.lst ws)):= .lst e0 e;refine⟨x,fun b o q=>?_⟩;by_cases hb:b=a
 ·subst hb;rw [zaf]at q;cases q;exact⟨vs,zaq,r.ext x⟩
 ·rw [zaB hb]at q;exact(h b o q).keep x fun u z=>by rw [zap hb];exact z
end
noncomputable abbrev WSt:=List (Option W)
noncomputable abbrev WK:=W→Sto→Prop
noncomputable abbrev WX:=Str→WSt→Sto→Prop
noncomputable abbrev WE:=WX→WSt→Sto→WK→Prop
noncomputable abbrev WT:=WX→WSt→Sto→(Bool→Sto→Prop)→Prop
noncomputable abbrev WA:=WX→WSt→Sto→(List W→Sto→Prop)→Prop
structure WEnds where
  nx:WSt→Sto→Prop
  rt:WK
  bk:WSt→Sto→Prop:=fun _ _=>False
  ct:WSt→Sto→Prop:=fun _ _=>False
noncomputable abbrev WS:=WX→WEnds→WSt→Sto→Prop
noncomputable abbrev WG:=W→WSt→Sto→(WSt→Sto→Prop)→Prop
noncomputable abbrev WSp:=List W→Sto→WK→(Str→Sto→Prop)→Prop
noncomputable abbrev WI:=WX→WSt→Sto→(List W→(Sto→Prop)→Sto→Prop)→Prop
noncomputable abbrev WL:=WX→WSt→Sto→(List W→Sto→Prop)→Prop
noncomputable def RpO (K:PySem.W.Frag) (H:Hp):Option W→Option V→Prop
 |none,_=>True
 |some w,some v=>Rep K H w v
 |some _,none=>False
noncomputable def RpSt (K:PySem.W.Frag) (H:Hp) (σW:WSt) (σ:St):Prop:=Paired (RpO K H) σW σ
section
variable {K:PySem.W.Frag}{H H':Hp}{S S':Sto}
theorem RpO.ext (e:Ext H S H' S'):∀{w:Option W}{v:Option V},RpO K H w v→RpO K H' w v
 |none,_,_=>trivial
 |some _,some _,h=>Rep.ext e h
 |some _,none,h=>h.elim
theorem RpSt.ext (e:Ext H S H' S') {σW:WSt}{σ:St}(h:RpSt K H σW σ):RpSt K H' σW σ:=Paired.mapP h fun _ _ r=>RpO.ext e r
theorem RpSt.get:∀{σW:WSt}{σ:St}{i:Nat}{w:W},RpSt K H σW σ→σW[i]? =some (some w)→ ∃v,σ[i]? =some (some v)∧Rep K H w v
 |_,_,_,_, .nil,e=>by simp at e
 |_,_,0,_, .cons (b:=b) h _,e=>by
  simp at e;subst e;cases b with
  |none=>exact(show False from h).elim
  |some v=>exact⟨v,rfl,h⟩
 |_,_,i+1,w, .cons _ hs,e=>by
  obtain⟨v,h1,h2⟩:=RpSt.get (i:=i) (w:=w) hs (by simpa using e);exact⟨v,by simpa using h1,h2⟩
theorem RpSt.set{w:W}{v:V}(h:Rep K H w v):∀{σW:WSt}{σ:St}(i:Nat),RpSt K H σW σ→RpSt K H (σW.set i (some w)) (σ.set i (some v))
 |_,_,_, .nil=> .nil
 |_,_,0, .cons _ t=> .cons h t
 |_,_,i+1, .cons q t=> .cons q (RpSt.set h i t)
end
noncomputable def Wish (K:PySem.W.Frag) (H:Hp) (S:Sto) (QW:WK) (Q:VK):Prop:=∀w S' v H',Ext H S H' S'→Rep K H' w v→RepS K H' S'→QW w S'→Q v H'
noncomputable def zqO (K:PySem.W.Frag) (t:WSt→Sto→WK→Prop):TE:=fun σ H Q=>∃σW S QW,RpSt K H σW σ∧RepS K H S∧t σW S QW∧Wish K H S QW Q
noncomputable def zny (K:PySem.W.Frag) (t:WSt→Sto→(Bool→Sto→Prop)→Prop):TT:=fun σ H Q=>∃σW S QW,RpSt K H σW σ∧RepS K H S∧t σW S QW∧ ∀b S' H',Ext H S H' S'→RepS K H' S'→QW b S'→Q b H'
noncomputable def zrl (K:PySem.W.Frag) (t:WSt→Sto→(List W→Sto→Prop)→Prop):TA:=fun σ H Q=>∃σW S QW,RpSt K H σW σ∧RepS K H S∧t σW S QW∧ ∀ws S' vs H',Ext H S H' S'→Reps K H' ws vs→RepS K H' S'→QW ws S'→Q vs H'
noncomputable def Goes (K:PySem.W.Frag) (H:Hp) (S:Sto) (P:WSt→Sto→Prop) (Q:St→Hp→Prop):Prop:=∀σW S' σ H',Ext H S H' S'→RpSt K H' σW σ→RepS K H' S'→P σW S'→Q σ H'
structure Meets (K:PySem.W.Frag) (H:Hp) (S:Sto) (DW:WEnds) (D:Ends):Prop where
  nx:Goes K H S DW.nx D.nx
  rt:Wish K H S DW.rt D.rt
  bk:Goes K H S DW.bk D.bk
  ct:Goes K H S DW.ct D.ct
noncomputable def zpw (K:PySem.W.Frag) (t:WEnds→WSt→Sto→Prop):TS:=fun D σ H=>∃σW S DW,RpSt K H σW σ∧RepS K H S∧t DW σW S∧Meets K H S DW D
noncomputable def zsk (K:PySem.W.Frag) (t:WG):TG:=fun v σ H Q=>∃w σW S P,Rep K H w v∧RpSt K H σW σ∧RepS K H S∧t w σW S P∧Goes K H S P Q
noncomputable def ItW (K:PySem.W.Frag) (J:It) (ws:List W) (G:Sto→Prop) (H0:Hp) (S0:Sto):Prop:=∀i S H,Ext H0 S0 H S→RepS K H S→G S→
 (∀w,ws[i]? =some w→J.go i H∧ ∀x H',J.yld i H x H'→Ext H S H' S∧RepS K H' S∧Rep K H' w x)∧(i=ws.length→J.stop i H)
noncomputable def zoM (K:PySem.W.Frag) (t:WSt→Sto→(List W→(Sto→Prop)→Sto→Prop)→Prop):TI:=fun σ H R=>∃σW S QW,RpSt K H σW σ∧RepS K H S∧t σW S QW∧
 ∀ws G S' J H',Ext H S H' S'→RepS K H' S'→G S'→ItW K J ws G H' S'→QW ws G S'→R J H'
noncomputable def zqm (K:PySem.W.Frag) (t:WSt→Sto→(List W→Sto→Prop)→Prop):TE:=fun σ H Q=>∃σW S QW,RpSt K H σW σ∧RepS K H S∧t σW S QW∧
 ∀ws S' vs a H',Ext H S H' S'→H a=none→H' a=some (.lst vs)→S' a=none→Reps K H' ws vs→RepS K H' S'→QW ws S'→Q (.ref a) H'
noncomputable def zbt (K:PySem.W.Frag) (sp:WSp):Sp:=fun vs H Q E=>∃ws S QW EW,Reps K H ws vs∧RepS K H S∧sp ws S QW EW∧Wish K H S QW Q∧
 ∀cl C S' H',PySem.W.nsIn K mainGlobals cl=some (some (.ref C))→RepS K H' S'→EW cl S'→E (.ref C) none H'
noncomputable def Fly (g h:Heap) (H:Hp) (a C:Addr):Prop:=g.get? a=none∧H a=none∧ ∃oe vs T oT ts,h.get? a=some oe∧oe.cls= .ref C∧oe.data= .fields vs∧vs[1]? =some (.ref T)∧
 g.get? T=none∧H T=none∧T≠a∧h.get? T=some oT∧oT.data= .fields ts∧ts[3]? =some .none
noncomputable def CX1 (P:Program) (w:World):CXT:=fun outer H s E e s'=>∃a C H',e= .ref a∧s'.os=s.os∧AllBare s'.gens∧Un (frs outer) [] H H' s.heap s'.heap∧HOk P w H' s'.heap∧Fly s.heap s'.heap H' a C∧E (.ref C) none H'
structure Hook (X:Cx) (E:WX):Prop where
  own:PassesOwn (model X.prog X.w) X.A X.env X.xe
  far:∀(pins:List (Addr×Obj)) (σ:St) (H:Hp) (s:Shared) (σW:WSt) (cl:Str) (C a:Addr) (H':Hp) (S':Sto) (s':Shared),Inv X pins σ H s→RpSt X.K H σW σ→PySem.W.nsIn X.K mainGlobals cl=some (some (.ref C))→
    s'.os=s.os→AllBare s'.gens→Un (frs X.stack) [] H H' s.heap s'.heap→HOk X.prog X.w H' s'.heap→Fly s.heap s'.heap H' a C→RepS X.K H' S'→E cl σW S'→X.xe (.ref a) s'
  near:∀(pins:List (Addr×Obj)) (σ:St) (H:Hp) (s:Shared) (σW:WSt) (cl:Str) (C a:Addr) (S:Sto) (h':Heap) (args:List Value),Inv X pins σ H s→RpSt X.K H σW σ→PySem.W.nsIn X.K mainGlobals cl=some (some (.ref C))→
    Heap.MadeExcOf s.heap h' a (.ref C) args→RepS X.K H S→E cl σW S→X.xe (.ref a) { s with heap:=h' }
noncomputable def JE (X:Cx) (e:Expr) (t:WE):Prop:=∀E,Hook X E→PE X e (zqO X.K (t E))
noncomputable def JT (X:Cx) (e:Expr) (t:WT):Prop:=∀E,Hook X E→PT X e (zny X.K (t E))
noncomputable def JW (X:Cx) (e:Expr) (t:WT):Prop:=∀E,Hook X E→PW X e (zny X.K (t E))
noncomputable def JA (X:Cx) (es:List Expr) (t:WA):Prop:=∀E,Hook X E→PA X es (zrl X.K (t E))
noncomputable def JS (X:Cx) (st:Stmt) (t:WS):Prop:=∀E,Hook X E→PS X st (zpw X.K (t E))
noncomputable def JSs (X:Cx) (st:List Stmt) (t:WS):Prop:=∀E,Hook X E→PSs X st (zpw X.K (t E))
noncomputable def JG (X:Cx) (tg:Expr) (t:WG):Prop:=∀E,Hook X E→PG X tg (zsk X.K t)
noncomputable def JI (X:Cx) (tg iter:Expr) (t:WI):Prop:=∀E,Hook X E→PI X tg iter (zoM X.K (t E))
noncomputable def JL (X:Cx) (e:Expr) (t:WL):Prop:=∀E,Hook X E→PE X e (zqm X.K (t E))
theorem PE.mono{X:Cx}{e:Expr}{t t':TE}(h:PE X e t) (q:∀σ H Q,t' σ H Q→t σ H Q):PE X e t':=fun pins s σ H Q I z=>h pins s σ H Q I (q σ H Q z)
theorem PT.mono{X:Cx}{e:Expr}{t t':TT}(h:PT X e t) (q:∀σ H Q,t' σ H Q→t σ H Q):PT X e t':=fun pins s σ H Q I z=>h pins s σ H Q I (q σ H Q z)
theorem PW.mono{X:Cx}{e:Expr}{t t':TT}(h:PW X e t) (q:∀σ H Q,t' σ H Q→t σ H Q):PW X e t':=fun wh pins s σ H Q I z=>h wh pins s σ H Q I (q σ H Q z)
theorem PA.mono{X:Cx}{e:List Expr}{t t':TA}(h:PA X e t) (q:∀σ H Q,t' σ H Q→t σ H Q):PA X e t':=fun pos pins s σ H Q I z=>h pos pins s σ H Q I (q σ H Q z)
theorem PS.mono{X:Cx}{e:Stmt}{t t':TS}(h:PS X e t) (q:∀D σ H,t' D σ H→t D σ H):PS X e t':=fun pins s σ H D I z=>h pins s σ H D I (q D σ H z)
theorem PSs.mono{X:Cx}{e:List Stmt}{t t':TS}(h:PSs X e t) (q:∀D σ H,t' D σ H→t D σ H):PSs X e t':=fun pins s σ H D I z=>h pins s σ H D I (q D σ H z)
theorem PG.mono{X:Cx}{e:Expr}{t t':TG}(h:PG X e t) (q:∀v σ H Q,t' v σ H Q→t v σ H Q):PG X e t':=fun pins s σ H v u Q I r z=>h pins s σ H v u Q I r (q v σ H Q z)
theorem PI.mono{X:Cx}{tg e:Expr}{t t':TI}(h:PI X tg e t) (q:∀σ H R,t' σ H R→t σ H R):PI X tg e t':=fun pins s σ H R I z=>h pins s σ H R I (q σ H R z)
noncomputable def zag (i:Nat):WE:=fun _ σ S Q=>match σ[i]? with
 |some (some w)=>Q w S
 |_=>False
noncomputable def wC (w:W):WE:=fun _ _ S Q=>Q w S
section
variable {X:Cx}
theorem jv (i:Nat) {x:Str}{pos:Pos}(hN:X.N[i]? =some x:=by rfl) (hv:Vis X.env.scope x:=by first |exact Or.inl rfl |exact Or.inr (Or.inl rfl) |exact Or.inr (Or.inr rfl)) (hd:(x == ("__debug__" :Str))=false:=by decide)
  (hcd:(x == ("__classdict__" :Str))=false:=by decide):JE X (.Name x pos) (zag i):=fun E hE=>(ziU hN hv hd hcd).mono fun σ H Q ⟨σW,S,QW,hσ,hS,ht,hQ⟩=>by
 unfold zag at ht;split at ht
 ·rename_i w e;obtain⟨v,e',r⟩:=hσ.get e;exact⟨v,e',hQ w S v H .refl r hS ht⟩
 ·exact ht.elim
theorem ziG{e:Expr}{v:V}{w:W}(h:PE X e (tC v)) (r:∀K H,Rep K H w v):JE X e (wC w):=fun E hE=>h.mono fun σ H Q ⟨σW,S,QW,hσ,hS,ht,hQ⟩=>hQ w S v H .refl (r _ _) hS ht
theorem zae{i j pos}:JE X (.Constant (.int i) j pos) (wC (.int i)):=ziG zoO fun _ _=> .int i
theorem zcc{b j pos}:JE X (.Constant (.bool b) j pos) (wC (.bl b)):=ziG zrF fun _ _=> .bl b
theorem zdG{j pos}:JE X (.Constant .none j pos) (wC .non):=ziG zoJ fun _ _=> .non
theorem zcl{x j pos}:JE X (.Constant (.str x) j pos) (wC (.str x)):=ziG zqC fun _ _=> .str x
theorem zcT{x:Str}{i:Int}{u:Tok}{pos:Pos}(hg:Gl X x) (hm:X.mg x=some (.int i u)) (hd:(x == ("__debug__" :Str))=false:=by decide):JE X (.Name x pos) (wC (.int i)):=ziG (v:= .int i) (zjf hg hm ⟨u,rfl⟩ hd) fun _ _=> .int i
end
noncomputable abbrev W2:=W→W→Sto→WK→Prop
noncomputable def wOp (r:W2) (a b:WE):WE:=fun E σ S Q=>a E σ S fun x S1=>b E σ S1 fun y S2=>r x y S2 Q
noncomputable def OpW (K:PySem.W.Frag) (r:R2) (wr:W2):Prop:=∀H x y wx wy S (Q:VK) (QW:WK),Rep K H wx x→Rep K H wy y→RepS K H S→wr wx wy S QW→Wish K H S QW Q→r x y H Q
theorem Wish.from{K:PySem.W.Frag}{H H':Hp}{S S':Sto}{QW:WK}{Q:VK}(h:Wish K H S QW Q) (e:Ext H S H' S'):Wish K H' S' QW Q:=fun w S v H'' e' r hS q=>h w S v H'' (e.trans e') r hS q
theorem Goes.from{K:PySem.W.Frag}{H H':Hp}{S S':Sto}{P:WSt→Sto→Prop}{Q:St→Hp→Prop}(h:Goes K H S P Q) (e:Ext H S H' S'):Goes K H' S' P Q:=fun σW S σ H'' e' r hS q=>h σW S σ H'' (e.trans e') r hS q
theorem Meets.from{K:PySem.W.Frag}{H H':Hp}{S S':Sto}{DW:WEnds}{D:Ends}(h:Meets K H S DW D) (e:Ext H S H' S'):Meets K H' S' DW D:=⟨h.nx.from e,h.rt.from e,h.bk.from e,h.ct.from e⟩
section
variable {X:Cx}{a b:Expr}{pos:Pos}
theorem zdK{K:PySem.W.Frag}{ta tb:WSt→Sto→WK→Prop}{wr:W→W→Sto→WK→Prop}{σ:St}{H:Hp}{Q:VK}{R:V→V→Hp→Prop}
  (h:zqO K (fun σ S Q=>ta σ S fun x S1=>tb σ S1 fun y S2=>wr x y S2 Q) σ H Q)
  (hR:∀H2 x y wx wy S (QW:WK),Rep K H2 wx x→Rep K H2 wy y→RepS K H2 S→wr wx wy S QW→Wish K H2 S QW Q→R x y H2) :
  zqO K ta σ H fun x H1=>zqO K tb σ H1 fun y H2=>R x y H2:=by
 obtain⟨σW,S,QW,hσ,hS,ht,hQ⟩:=h;refine⟨σW,S,_,hσ,hS,ht,fun w1 S1 v1 H1 e1 r1 hS1 h1=>?_⟩;refine⟨σW,S1,_,hσ.ext e1,hS1,h1,fun w2 S2 v2 H2 e2 r2 hS2 h2=>?_⟩;exact hR H2 v1 v2 w1 w2 S2 QW (r1.ext e2) r2 hS2 h2 (hQ.from (e1.trans e2))
theorem zij{op:Operator}{r:R2}{wr:W2}{ta tb:WE}(ho:OpR X (binaryOp op) r) (hw:OpW X.K r wr) (ha:JE X a ta) (hb:JE X b tb):JE X (.BinOp a op b pos) (wOp wr ta tb):=fun E hE=>
 (zkE ho (ha E hE) (hb E hE)).mono fun σ H Q h=>zdK h fun H2 x y wx wy S QW rx ry hS q hQ=>hw H2 x y wx wy S Q QW rx ry hS q hQ
theorem zkc{op:CmpOp}{r:R2}{wr:W2}{ta tb:WE}(ho:OpR X (compareOp op) r) (hw:OpW X.K r wr) (ha:JE X a ta) (hb:JE X b tb) (hm:behindInMarks op b=false):JE X (.Compare a [op] [b] pos) (wOp wr ta tb):=fun E hE=>
 (znL ho (ha E hE) (hb E hE) hm).mono fun σ H Q h=>zdK h fun H2 x y wx wy S QW rx ry hS q hQ=>hw H2 x y wx wy S Q QW rx ry hS q hQ
end
theorem ObjOk.ex{P:Program}{w:World}{H:Hp}{h:Heap}{a:Addr}{o:HO}(x:ObjOk P w H h a o):∃u,h.get? a=some u:=by
 cases o with
 |lst xs=>obtain⟨_,_,_,_,e⟩:=x;exact⟨_,e⟩
 |tup xs=>obtain⟨_,_,_,o,e,_⟩:=x;exact⟨_,e⟩
 |dK kvs=>obtain⟨_,_,_,_,o,_,_,e,_⟩:=x;exact⟨_,e⟩
 |dT kvs=>obtain⟨_,_,_,_,o,_,_,e,_⟩:=x;exact⟨_,e⟩
 |set S n=>obtain⟨o,_,_,_,e,_⟩:=x;exact⟨_,e⟩
 |ins C dx fs=>obtain⟨_,_,_,e,_⟩:=x;exact⟨_,e⟩
 |own y=>exact x
 |xd fs=>obtain⟨_,⟨_,_,_,e,_⟩,_⟩:=x;exact⟨_,e⟩
 |rng lo hi=>obtain⟨_,_,_,e⟩:=x;exact⟨_,e⟩
 |frz ob u=>obtain⟨e,_⟩:=x;exact⟨_,e⟩
 |tbl ps=>exact⟨_,show h.get? a=some _ from x⟩
 |met f y=>exact⟨_,show h.get? a=some _ from x⟩
 |ext φ=>exact x.2.1
noncomputable def unt (H:Hp) (S:Sto):Hp:=fun b=>match H b with
 |some (.lst xs)=>match S b with
  |none=>none
  |some _=>some (.lst xs)
 |o=>o
noncomputable def rtk (H:Hp) (S:Sto) (H':Hp):Hp:=fun b=>match unt H S b with
 |none=>match H b with
  |some o=>some o
  |none=>H' b
 |some _=>match H' b with
  |some o=>some o
  |none=>some (.ext fun h=>∃o,h.get? b=some o)
section
variable {w:World}{K:PySem.W.Frag}{H:Hp}{S:Sto}{h:Heap}{b:Addr}{o:HO}
theorem zhC (e:unt H S b=some o):H b=some o:=by
 unfold unt at e;split at e
 ·rename_i xs q;split at e
  ·cases e
  ·rw [q];exact e
 ·exact e
theorem zcY (e:H b=none):unt H S b=none:=by unfold unt;rw [e]
theorem zhq (e:H b=some o) (n:∀xs,o≠ .lst xs):unt H S b=some o:=by
 unfold unt;rw [e];cases o<;>first |rfl |exact absurd rfl (n _)
theorem zhL{u:Ob}(e:H b=some o) (hs:S b=some u):unt H S b=some o:=by
 unfold unt;rw [e];cases o<;>first |rfl | (dsimp only;rw [hs])
theorem zjj{xs:List V}(e:H b=some (.lst xs)) (hs:S b=none):unt H S b=none:=by
 unfold unt;rw [e];dsimp only;rw [hs]
theorem zoo (e:unt H S b=none) (q:H b=some o):(∃xs,o= .lst xs)∧S b=none:=by
 unfold unt at e;rw [q]at e;cases o<;>first |cases e |skip;rename_i xs;dsimp only at e;split at e
 ·exact⟨⟨xs,rfl⟩, ‹_›⟩
 ·cases e
mutual
theorem Rep.mv{H1:Hp}(t:∀b xs,H b=some (.tup xs)→H1 b=some (.tup xs)) (f:∀b o u,H b=some (.frz o u)→H1 b=some (.frz o u)) {w:W}{v:V}:Rep K H w v→Rep K H1 w v
 | .non=> .non
 | .bl b=> .bl b
 | .int i=> .int i
 | .str x=> .str x
 | .ref a=> .ref a
 | .scr h=> .scr (by
  rcases h with⟨o,h⟩ |h
  ·exact .inl ⟨o,f _ _ _ h⟩
  ·exact .inr h)
 | .tup h hs=> .tup (t _ _ h) (Reps.mv t f hs)
theorem Reps.mv{H1:Hp}(t:∀b xs,H b=some (.tup xs)→H1 b=some (.tup xs)) (f:∀b o u,H b=some (.frz o u)→H1 b=some (.frz o u)) {ws:List W}{vs:List V}:Reps K H ws vs→Reps K H1 ws vs
 | .nil=> .nil
 | .cons h hs=> .cons (Rep.mv t f h) (Reps.mv t f hs)
end
theorem zcX:∀b xs,H b=some (.tup xs)→unt H S b=some (.tup xs):=fun b xs e=>zhq e fun _ z=>nomatch z
theorem zdB:∀b o u,H b=some (.frz o u)→unt H S b=some (.frz o u):=fun b o u e=>zhq e fun _ z=>nomatch z
theorem RepS.unt (r:RepS K H S):RepS K (unt H S) S:=fun a o e=>by
 have q:=r a o e;cases o with
 |lst ws=>obtain⟨vs,z,rs⟩:=q;exact⟨vs,zhL z e,Reps.mv zcX zdB rs⟩
 |dct kvs=>obtain⟨ps,z,rs⟩:=q;exact⟨ps,zhL z e,Paired.mapP rs fun _ _ z=>⟨z.1,Rep.mv zcX zdB z.2⟩⟩
 |dk kvs=>obtain⟨ps,z,rs⟩:=q;exact⟨ps,zhL z e,Paired.mapP rs fun _ _ z=>⟨z.1,Rep.mv zcX zdB z.2⟩⟩
 |ins C fs=>obtain⟨dx,ps,z,rs⟩:=q;exact⟨dx,ps,zhL z e,Paired.mapP rs fun _ _ z=>⟨z.1,Rep.mv zcX zdB z.2⟩⟩
theorem HOk.unt (x:HOk P w H h):HOk P w (unt H S) h:=fun a o e=>
 (x a o (zhC e)).stay (fun _ _ _ q=>q) (fun b q=>zhq q fun _ z=>nomatch z) fun b xs q=>zcX b xs q
theorem zcK (ok:HOk P w H h) (un:Un fs [] (unt H S) H' h h') (e:H' b=some o):rtk H S H' b=some o:=by
 unfold rtk;split
 ·rename_i q;split
  ·rename_i u z;obtain⟨ob,eo⟩:=(ok b u z).ex;rw [un.free b ob eo q (by simp)]at e;cases e
  ·exact e
 ·rw [e]
theorem zhS (un:Un fs [] (unt H S) H' h h') (ok:HOk P w H h):Un fs [] H (rtk H S H') h h' where
  keep:=fun b o e n hb hx=>un.keep b o e (zcY n) hb hx
  slot:=fun b o e n hb hx=>un.slot b o e (zcY n) hb hx
  free:=fun b o e n hx=>by
    unfold rtk;rw [zcY n,n];exact un.free b o e (zcY n) hx
  there:=un.there
  tups:=fun b xs e=>zcK ok un (un.tups b xs (zcX b xs e))
  frzs:=fun b o u e=>zcK ok un (un.frzs b o u (zdB b o u e))
  tbls:=fun b ps e=>by
    obtain⟨m,z⟩:=un.tbls b ps (zhq e fun _ z=>nomatch z);exact⟨m,zcK ok un z⟩
theorem zmk (un:Un fs [] (unt H S) H' h h') (ok:HOk P w H h) (ok':HOk P w H' h') (hf:∀b∈fs,H b=none):HOk P w (rtk H S H') h':=fun b o e=>by
 have back:∀{o},H' b=some o→ObjOk P w (rtk H S H') h' b o:=fun {o} q=>(ok' b o q).stay (fun _ _ _ z=>z) (fun c z=>zcK ok un z) fun c xs z=>zcK ok un z;unfold rtk at e;split at e
 ·rename_i q;split at e
  ·rename_i u z;cases e;obtain⟨⟨xs,rfl⟩,_⟩:=zoo q z;obtain⟨l,its,n,r,g⟩:=ok b _ z;exact⟨l,its,n,r,un.keep b _ g q (fun hb=>by rw [hf b hb]at z;cases z) (by simp)⟩
  ·exact back e
 ·rename_i u q;split at e
  ·rename_i u' z;cases e;exact back z
  ·rename_i z;cases e;obtain⟨ob,eo⟩:=(ok b u (zhC q)).ex;obtain⟨ob',eo'⟩:=un.there b ob eo (by simp);exact⟨⟨ob',eo'⟩,⟨ob',eo'⟩,fun h1 h2 ⟨o,z⟩ k=>⟨o,k o z⟩⟩
theorem znD (e:H b=some o):∃o',rtk H S H' b=some o':=by
 unfold rtk;split
 ·rw [e];exact⟨_,rfl⟩
 ·split
  ·exact⟨_,rfl⟩
  ·exact⟨_,rfl⟩
theorem ziF (un:Un fs [] (unt H S) H' h h') (ok:HOk P w H h) (r:RepS K H' S'):Ext H S (rtk H S H') S' where
  tup:=fun b xs e=>(zhS un ok).tups b xs e
  frz:=fun b o u e=>(zhS un ok).frzs b o u e
  fr:=fun b xs e hs=>by
    refine⟨?_,?_⟩
    · unfold rtk;rw [zjj e hs,e]
    · cases q:S' b with
      |none=>rfl
      |some u=>
        obtain⟨v,z⟩:=(r b u q).some;obtain⟨ob,eo⟩:=(ok b _ e).ex;rw [un.free b ob eo (zjj e hs) (by simp)]at z;cases z
  all:=fun b o e=>znD e
theorem zmw (un:Un fs [] (unt H S) H' h h') (ok:HOk P w H h):Ext H' S' (rtk H S H') S' where
  tup:=fun b xs e=>zcK ok un e
  frz:=fun b o u e=>zcK ok un e
  fr:=fun b xs e hs=>⟨zcK ok un e,hs⟩
  all:=fun b o e=>⟨o,zcK ok un e⟩
theorem zpF (un:Un fs [] (unt H S) H' h h') (ok:HOk P w H h) (r:RepS K H' S'):RepS K (rtk H S H') S':=fun a o e=>(r a o e).keep (zmw (S':=S') un ok) fun u z=>zcK ok un z
end
theorem zqz{X:Cx}{k:Nat}{f:Addr}{fd:FuncData}{ps:List Str}{c:WSp}{E:WX}{pins:List (Addr×Obj)}{σ:St}{σW:WSt}{H:Hp}{S:Sto}{s:Shared}{Q:VK}{QW:WK}{us:List Value}{vs:List V}{ws:List W}
  (F:FnOk X.prog X.w X.K X.mg X.base (CX1 X.prog X.w) k f fd ps (zbt X.K c)) (hr:Room k X.A) (hb:Binds X.K fd ps []) (I:Inv X pins σ H s) (r:Vals vs us) (rs:Reps X.K H ws vs) (hσ:RpSt X.K H σW σ) (hS:RepS X.K H S)
  (h:c ws S QW fun cl S'=>E cl σW S') (hQ:Wish X.K H S QW Q)
  (hx:∀(cl:Str) (C a:Addr) (H':Hp) (S':Sto) (s':Shared),PySem.W.nsIn X.K mainGlobals cl=some (some (.ref C))→s'.os=s.os→AllBare s'.gens→Un (frs X.stack) [] H H' s.heap s'.heap→HOk X.prog X.w H' s'.heap→Fly s.heap s'.heap H' a C→Ext H S H' S'→RepS X.K H' S'→E cl σW S'→X.xe (.ref a) s'):wpAny (model X.prog X.w) X.A (call (.ref f) us) (EP X pins σ Q) X.xe s:=by
 have e0:=I.env0;have sp:zbt X.K c vs (unt H S) (fun v H'=>∃w S',Rep X.K H' w v∧RepS X.K H' S'∧QW w S') (fun cv _ H'=>∃cl C S',cv= .ref C∧PySem.W.nsIn X.K mainGlobals cl=some (some (.ref C))∧RepS X.K H' S'∧E cl σW S'):=
  ⟨ws,S,QW,_,Reps.mv zcX zdB rs,hS.unt,h,fun w S' v H' _ r1 r2 q=>⟨w,S',r1,r2,q⟩,fun cl C S' H' hn hS' q=>⟨cl,C,S',rfl,hn,hS',q⟩⟩
 have e1:Env0 X.prog X.w X.K X.mg X.base X.A X.stack s (unt H S):=⟨e0.frames,e0.mod,fun b o e=>⟨(e0.bs b o e).1,zcY (e0.bs b o e).2⟩,e0.bsz,e0.funs,fun b hb=>zcY (e0.frf b hb),e0.hok.unt,e0.bare⟩;have hl:us.length=ps.length:=by rw [←r.length];exact F.len _ _ _ _ sp
 have hb':=hb s us I.kIn (by rw [List.append_nil];exact hl);rw [List.append_nil]at hb';refine wpAny_call (codeAny_mono (F.run X.A X.stack s (unt H S) ⟨us,[]⟩ us vs _ _ hr e1 hb' r sp) fun rr s' hq=>?_);cases rr with
 |error e=>
  obtain⟨a,C,H',rfl,os,bare,un,ok',fly,cl,C',S',ec,hn,hS',q⟩:=hq;cases ec;refine hx cl C a (rtk H S H') S' s' hn os bare (zhS un I.hok) (zmk un I.hok ok' e0.frf) ?_ (ziF un I.hok hS') (zpF un I.hok hS') q;obtain⟨g1,g2,oe,vs',T,oT,ts,a1,a2,a3,a4,a5,a6,a7⟩:=fly;have free:∀{b:Addr},s.heap.get? b=none→H' b=none→rtk H S H' b=none:=fun {b} q1 q2=>by
   have hn:H b=none:=by
    cases z:H b with
    |none=>rfl
    |some u=>obtain⟨ob,eo⟩:=(I.hok b u z).ex;rw [q1]at eo;cases eo
   unfold rtk;rw [zcY hn,hn];exact q2
  exact⟨g1,free g1 g2,oe,vs',T,oT,ts,a1,a2,a3,a4,a5,free a5 a6,a7⟩
 |ok fl=>
  cases fl with
  |ret u=>
   obtain⟨v,H',os,bare,un,ok',rv,w,S',r1,r2,q⟩:=hq;exact⟨v,rtk H S H',I.call' os (zhS un I.hok) (zmk un I.hok ok' e0.frf) bare (fun _ z=>nomatch z),rv,hQ w S' v _ (ziF un I.hok r2) (r1.ext (zmw (S':=S') un I.hok)) (zpF un I.hok r2) q⟩
  |next=>exact False.elim hq
  |brk=>exact False.elim hq
  |cont=>exact False.elim hq
theorem zrU{X:Cx}{k:Nat}{f:Addr}{fd:FuncData}{ps:List Str}{c:WSp}{E:WX}{pins:List (Addr×Obj)}{σ:St}{σW:WSt}{H:Hp}{S:Sto}{s:Shared}{Q:VK}{QW:WK}{us:List Value}{vs:List V}{ws:List W}
  (F:FnOk X.prog X.w X.K X.mg X.base (CX1 X.prog X.w) k f fd ps (zbt X.K c)) (hr:Room k X.A) (hb:Binds X.K fd ps []) (hE:Hook X E) (I:Inv X pins σ H s) (r:Vals vs us) (rs:Reps X.K H ws vs) (hσ:RpSt X.K H σW σ) (hS:RepS X.K H S)
  (h:c ws S QW fun cl S'=>E cl σW S') (hQ:Wish X.K H S QW Q):wpAny (model X.prog X.w) X.A (call (.ref f) us) (EP X pins σ Q) X.xe s:=
 zqz (E:=E) F hr hb I r rs hσ hS h hQ fun cl C a H' S' s' hn os bare un ok fly _ hS' q=>hE.far pins σ H s σW cl C a H' S' s' I hσ hn os bare un ok fly hS' q
theorem zjw{X:Cx}{pins:List (Addr×Obj)}{σ:St}{H':Hp}{s':Shared}{a C:Addr}{hid:List Addr}{h':Heap}(I:Inv X pins σ H' s') (hst:X.stack=X.env::X.outer) (hf:X.env.frame=some X.env.locals) (hex:X.ex=[])
  (h0:∀b∈hid,X.s₀.heap.get? b=none∧H' b=none) (ha:a∈hid) (L:Heap.Left (PySem.W.hideAll s'.heap (hid++frs X.stack)) X.stack a (.ref C) s'.heap h') :
  Un X.fs [] X.H₀ H' X.s₀.heap h'∧HOk X.prog X.w H' h'∧Fly X.s₀.heap h' H' a C:=by
 obtain⟨st,ff,tr,sl⟩:=L;have keepB:∀b o,s'.heap.get? b=some o→b∉hid→b∉frs X.stack→h'.get? b=some o:=fun b o e h1 h2=>st b o (PySem.W.hideAll_get _ e fun z=>(List.mem_append.mp z).elim h1 h2);have nh:∀b o,X.s₀.heap.get? b=some o→b∉hid:=fun b o e hb=>by rw [(h0 b hb).1]at e;cases e
 have slotB:∀b o,b∈frs X.stack→s'.heap.get? b=some o→ ∃sl,h'.get? b=some { o with slots:=sl }:=fun b o hb e=>by
  obtain⟨_,o',eo',nf⟩:=I.stack.mem hb;rw [e]at eo';cases eo';exact sl b o e nf
 have nx:∀b:Addr,b∉X.ex:=fun b=>by rw [hex];simp
 have fsS:∀b∈X.fs,b∈frs X.stack:=fun b hb=>by
  rw [hst];unfold frs;rw [List.filterMap_cons,hf];exact List.mem_cons_of_mem _ hb
 refine⟨⟨fun b o e n hb _=>?_,fun b o e n hb _=>?_,fun b o e n _=>I.base.free b o e n (nx b),fun b o e _=>?_,I.base.tups,I.base.frzs,I.base.tbls⟩,fun b o e=>?_,(h0 a ha).1,(h0 a ha).2,?_⟩
 ·refine keepB b o (I.base.keep b o e n hb (nx b)) (nh b o e) fun z=>?_;rcases List.mem_cons.mp (I.stkSub b z) with q |q
  ·exact absurd (Nat.lt_of_lt_of_le (Heap.lt_size e) I.ok.above) (by rw [q];exact Nat.lt_irrefl _)
  ·exact hb q
 ·obtain⟨sl1,e1⟩:=I.base.slot b o e n hb (nx b);obtain⟨sl2,e2⟩:=slotB b _ (fsS b hb) e1;exact⟨sl2,e2⟩
 ·obtain⟨o',e1⟩:=I.base.there b o e (nx b);by_cases hb:b∈frs X.stack
  ·obtain⟨sl2,e2⟩:=slotB b _ hb e1;exact⟨_,e2⟩
  ·exact⟨o',keepB b o' e1 (nh b o e) hb⟩
 ·refine(I.hok b o e).stay (fun c u hc q=>?_) (fun _ q=>q) fun _ _ q=>q;have tk:∃v,H' c=some v:=by
   rcases hc with z |z
   ·exact⟨o,by rw [z];exact e⟩
   ·exact⟨_,z⟩
  obtain⟨v,tk⟩:=tk;exact keepB c u q (fun z=>by rw [(h0 c z).2]at tk;cases tk) fun z=>by rw [I.stkFree c z]at tk;cases tk
 ·obtain⟨oe,vs,T,oT,ts,e1,e2,e3,e4,e5,e6,e7,e8,e9⟩:=tr;have nf:T∉frs X.stack:=fun hb=>by
   obtain⟨_,o,eo,nf⟩:=ff.mem hb;rw [e7]at eo;cases eo;exact nf ts e8
  have both:X.s₀.heap.get? T=none∧H' T=none:=by
   by_cases hT:T∈hid
   ·exact h0 T hT
   ·have z:s'.heap.get? T=none:=by
     cases q:s'.heap.get? T with
     |none=>rfl
     |some o=>
      rw [PySem.W.hideAll_get _ q fun z=>(List.mem_append.mp z).elim hT nf]at e5;cases e5
    constructor
    ·cases q:X.s₀.heap.get? T with
     |none=>rfl
     |some o=>obtain⟨o',q'⟩:=I.base.there T o q (nx T);rw [z]at q';cases q'
    ·cases q:H' T with
     |none=>rfl
     |some u=>obtain⟨o',q'⟩:=(I.hok T u q).ex;rw [z]at q';cases q'
  exact⟨oe,vs,T,oT,ts,e1,e2,e3,e4,both.1,both.2,e6,e7,e8,e9⟩
theorem zfh{h base:Heap}{l:List Env}{hid:List Addr}(hl:h.FunFrames base l):h.FunFrames (PySem.W.hideAll h (hid++frs l)) l:=
 PySem.W.funFrames_hide hl fun env he a ha=>List.mem_append_right _ (List.mem_filterMap.mpr ⟨env,he,ha⟩)
theorem zld{P:Program}{w:World}{K:PySem.W.Frag}{mg:Str→Option Value}{base:Heap}{N:List Str}{qual:Str}{scope:Scope}{f:Addr}{cdv:Value}{A:Around}{outer:List Env}{s:Shared}{H:Hp}{E:XK}{EW:Str→Sto→Prop}
    (hEW:∀cl C S' H',PySem.W.nsIn K mainGlobals cl=some (some (.ref C))→RepS K H' S'→EW cl S'→E (.ref C) none H'):Hook (znU (CX1 P w) P w K mg base N qual scope f cdv A outer s H E) (fun c _ S'=>EW c S') where
  own:=PassesOwn.leaving
  far:=fun pins σ H1 s1 σW cl C a H' S' s' I hσ hn os bare un ok fly hS q=>by
    have I':=I.call' os un ok bare (fun _ z=>nomatch z);obtain⟨g1,g2,oe,vs,T,oT,ts,e1,e2,e3,e4,g3,g4,e5,e6,e7,e8⟩:=fly;have s0:∀{b:Addr},s1.heap.get? b=none→s.heap.get? b=none:=fun {b} z=>by
      cases q:s.heap.get? b with
      |none=>rfl
      |some o=>obtain⟨o',q'⟩:=I.base.there b o q (by exact fun z=>nomatch z);rw [z]at q';cases q'
    refine wpAny_leaving_next (base:=PySem.W.hideAll s'.heap ([a,T]++frs (envOfC qual scope s.heap.objs.size f cdv::outer))) I'.ok.frames (zfh I'.stack) rfl ⟨oe,vs,T,oT,ts,e1,e2,e3,e4,PySem.W.hideAll_none _ (by simp),e5,e6,e7,e8⟩ (fun b o z=>PySem.W.of_hideAll _ z) (PySem.W.hideAll_none _ (by simp)) fun h' L=>?_;obtain⟨u1,u2,u3⟩:=zjw (hid:=[a,T]) I' rfl rfl rfl (fun b hb=>by
      rcases List.mem_cons.mp hb with rfl |hb
      · exact⟨s0 g1,g2⟩
      · rw [List.mem_singleton.mp hb];exact⟨s0 g3,g4⟩) (by simp) L
    exact⟨a,C,H',rfl,I'.os,I'.bare,u1,u2,u3,hEW cl C S' H' hn hS q⟩
  near:=fun pins σ H1 s1 σW cl C a S h' args I hσ hn me hS q=>by
    have I':=I.kept (t':=s1.toks) me.keeps;obtain⟨t,e1,_,_⟩:=me.there;have s0:s.heap.get? a=none:=by
      cases q:s.heap.get? a with
      |none=>rfl
      |some o=>obtain⟨o',q'⟩:=I.base.there a o q (by exact fun z=>nomatch z);rw [me.new]at q';cases q'
    have h1:H1 a=none:=by
      cases q:H1 a with
      |none=>rfl
      |some u=>obtain⟨o',q'⟩:=(I.hok a u q).ex;rw [me.new]at q';cases q'
    refine wpAny_leaving_first (base:=PySem.W.hideAll h' ([a]++frs (envOfC qual scope s.heap.objs.size f cdv::outer))) (s:={ s1 with heap:=h' }) I'.ok.frames (zfh I'.stack) rfl e1 (fun b o z=>PySem.W.of_hideAll _ z) (PySem.W.hideAll_none _ (by simp)) rfl rfl fun h'' L=>?_;obtain⟨u1,u2,u3⟩:=zjw (hid:=[a]) I' rfl rfl rfl (fun b hb=>by rw [List.mem_singleton.mp hb];exact⟨s0,h1⟩) (by simp) L
    exact⟨a,C,H1,rfl,I'.os,I'.bare,u1,u2,u3,hEW cl C S H1 hn hS q⟩
noncomputable def zbp (S:Sto) (a:Addr) (Q:List W→Prop):Prop:=match S a with
 |some (.lst ws)=>Q ws
 |_=>False
theorem zaj{S:Sto}{a:Addr}{Q:List W→Prop}{ws:List W}(h:S a=some (.lst ws)):zbp S a Q=Q ws:=by unfold zbp;rw [h]
theorem zaN{S:Sto}{a:Addr}{Q:List W→Prop}(h:zbp S a Q):∃ws,S a=some (.lst ws)∧Q ws:=by
 unfold zbp at h;split at h
 ·exact⟨_, ‹_›,h⟩
 ·exact h.elim
noncomputable def zmd:W→Sto→(Bool→Sto→Prop)→Prop
 | .non,S,Q=>Q false S
 | .bl b,S,Q=>Q b S
 | .int i,S,Q=>Q (i != 0) S
 | .str x,S,Q=>x.length≤sizeLine∧Q ((x.length:Int) != 0) S
 | .tup ws,S,Q=>Q (!ws.isEmpty) S
 | .ref a,S,Q=>zbp S a fun ws=>Q (!ws.isEmpty) S
 | .scr ns,S,Q=>Q (!ns.isEmpty) S
noncomputable def zgA (t:WE):WT:=fun E σ S Q=>t E σ S fun w S'=>zmd w S' Q
noncomputable def wTb (t:WE):WT:=fun E σ S Q=>t E σ S fun w S'=>match w with
 | .bl b=>Q b S'
 |_=>False
noncomputable def znI (t u:WT):WT:=fun E σ S Q=>t E σ S fun c S1=>if c=true then u E σ S1 Q else Q false S1
noncomputable def wOr (t u:WT):WT:=fun E σ S Q=>t E σ S fun c S1=>if c=true then Q true S1 else u E σ S1 Q
noncomputable def zmJ (t:WT):WT:=fun E σ S Q=>t E σ S fun c S1=>Q (!c) S1
noncomputable def zod (t u:WE):WE:=fun E σ S Q=>t E σ S fun w S1=>match w with
 | .bl true=>u E σ S1 Q
 | .bl false=>Q (.bl false) S1
 |_=>False
noncomputable def zkF (t:WE):WE:=fun E σ S Q=>t E σ S fun w S1=>match w with
 | .bl b=>Q (.bl !b) S1
 |_=>False
noncomputable def wIf (c:WT) (t u:WE):WE:=fun E σ S Q=>c E σ S fun b S1=>if b=true then t E σ S1 Q else u E σ S1 Q
noncomputable def zde (c:WT) (t u:WS):WS:=fun E D σ S=>c E σ S fun b S1=>if b=true then t E D σ S1 else u E D σ S1
noncomputable def zbj:WS:=fun _ D σ S=>D.nx σ S
noncomputable def zaz (t u:WS):WS:=fun E D σ S=>t E { D with nx:=u E D } σ S
noncomputable def zci (e:WE):WS:=fun E D σ S=>e E σ S D.rt
noncomputable def zcB (e:WE):WS:=fun E D σ S=>e E σ S fun _ S1=>D.nx σ S1
noncomputable def wGN (i:Nat):WG:=fun w σ S Q=>Q (σ.set i (some w)) S
noncomputable def wAsg (e:WE) (g:WG):WS:=fun E D σ S=>e E σ S fun w S1=>g w σ S1 D.nx
noncomputable abbrev WGs:=List W→WSt→Sto→(WSt→Sto→Prop)→Prop
noncomputable def zcV:WGs:=fun ws σ S Q=>match ws with
 | []=>Q σ S
 |_=>False
noncomputable def zaH (g:WG) (u:WGs):WGs:=fun ws σ S Q=>match ws with
 | []=>False
 |w::r=>g w σ S fun σ' S'=>u r σ' S' Q
noncomputable def wGT (u:WGs):WG:=fun w σ S Q=>match w with
 | .tup ws=>u ws σ S Q
 |_=>False
section
variable {X:Cx}{a b c e:Expr}{pos:Pos}{ta tb:WE}{tc tA tB':WT}{st:Stmt}{rest:List Stmt}{t u:WS}
theorem znT{K:PySem.W.Frag}{H:Hp}{w:W}{v:V}{S:Sto}{QW:Bool→Sto→Prop}(r:Rep K H w v) (hS:RepS K H S) (h:zmd w S QW):∃k,zrz K v H k∧QW k S:=by
 cases r with
 |non=>exact⟨false,rfl,h⟩
 |bl b=>exact⟨b,rfl,h⟩
 |int i=>exact⟨_,rfl,h⟩
 |str x=>exact⟨_,⟨h.1,rfl⟩,h.2⟩
 |ref a=>
  obtain⟨ws,e,h⟩:=zaN h;obtain⟨vs,e1,r1⟩:=hS a _ e;refine⟨_, .inl ⟨vs, .of e1,rfl⟩,?_⟩;have q:vs.isEmpty=ws.isEmpty:=by cases r1<;>rfl
  rw [q];exact h
 | @scr a ns f=>
  refine⟨_, .inl ⟨_,f.sq,rfl⟩,?_⟩;have q:(ns.map V.int).isEmpty=ns.isEmpty:=by cases ns<;>rfl
  rw [q];exact h
 | @tup a vs ws f hs=>
  refine⟨_, .inr (.inl ⟨vs, .of f,rfl⟩),?_⟩;have q:vs.isEmpty=ws.isEmpty:=by cases hs<;>rfl
  rw [q];exact h
theorem zbI (ha:JE X a ta) (he:∀whole,isTrue a X.env whole=(do let v ←whole;standAt a.pos;holding [v] (truthy v)):=by intro _;rfl):JT X a (zgA ta):=fun E hE=>
 (zkY (ha E hE) he).mono fun σ H Q ⟨σW,S,QW,hσ,hS,ht,hQ⟩=>⟨σW,S,_,hσ,hS,ht,fun w S1 v H1 e1 r1 hS1 h1=>by
  obtain⟨k,hk,q⟩:=znT r1 hS1 h1;exact⟨k,hk,hQ k S1 H1 e1 hS1 q⟩⟩
theorem zeP{op:CmpOp}{r:R2}{wr:W2}(ho:OpR X (compareOp op) r) (hw:OpW X.K r wr) (ha:JE X a ta) (hb:JE X b tb) (hm:behindInMarks op b=false):JT X (.Compare a [op] [b] pos) (wTb (wOp wr ta tb)):=fun E hE=>
 (zmN ho (ha E hE) (hb E hE) hm).mono fun σ H Q ⟨σW,S,QW,hσ,hS,ht,hQ⟩=>by
  refine zdK (Q:=fun v H1=>∃k,v= .bl k∧Q k H1) ⟨σW,S,fun w S'=>match w with
   | .bl b=>QW b S'
   |_=>False,hσ,hS,ht,fun w S1 v H1 e1 r1 hS1 h1=>?_⟩ fun H2 x y wx wy S QW rx ry hS q hQ=>hw H2 x y wx wy S _ QW rx ry hS q hQ
  cases r1 with
  |bl k=>exact⟨k,rfl,hQ k S1 H1 e1 hS1 h1⟩
  |_=>exact h1.elim
theorem zfW (ha:JT X a tA):JT X (.UnaryOp .Not a pos) (zmJ tA):=fun E hE=>
 (zpg (ha E hE)).mono fun σ H Q ⟨σW,S,QW,hσ,hS,ht,hQ⟩=>⟨σW,S,_,hσ,hS,ht,fun b S1 H1 e1 hS1 h1=>hQ _ S1 H1 e1 hS1 h1⟩
theorem JW.jt (h:JW X a tA):JT X a tA:=fun E hE=>(h E hE).pt
theorem zgW (ha:JT X a tA):JW X (.BoolOp .And [a] pos) tA:=fun E hE=>znw (ha E hE)
theorem zmz (ha:JT X a tA):JW X (.BoolOp .Or [a] pos) tA:=fun E hE=>zpr (ha E hE)
theorem zix{rest:List Expr}(ha:JT X a tA) (hb:JW X (.BoolOp .And (b::rest) pos) tB'):JW X (.BoolOp .And (a::b::rest) pos) (znI tA tB'):=fun E hE=>
 (zos (ha E hE) (hb E hE)).mono fun σ H Q ⟨σW,S,QW,hσ,hS,ht,hQ⟩=>⟨σW,S,_,hσ,hS,ht,fun b S1 H1 e1 hS1 h1=>by
  cases b with
  |true=>exact⟨σW,S1,_,hσ.ext e1,hS1,h1,fun b S2 H2 e2 hS2 h2=>hQ b S2 H2 (e1.trans e2) hS2 h2⟩
  |false=>exact hQ _ S1 H1 e1 hS1 h1⟩
theorem zqA{rest:List Expr}(ha:JT X a tA) (hb:JW X (.BoolOp .Or (b::rest) pos) tB'):JW X (.BoolOp .Or (a::b::rest) pos) (wOr tA tB'):=fun E hE=>
 (zrB (ha E hE) (hb E hE)).mono fun σ H Q ⟨σW,S,QW,hσ,hS,ht,hQ⟩=>⟨σW,S,_,hσ,hS,ht,fun b S1 H1 e1 hS1 h1=>by
  cases b with
  |false=>exact⟨σW,S1,_,hσ.ext e1,hS1,h1,fun b S2 H2 e2 hS2 h2=>hQ b S2 H2 (e1.trans e2) hS2 h2⟩
  |true=>exact hQ _ S1 H1 e1 hS1 h1⟩
theorem zqp{op}(h:JE X a ta):JE X (.BoolOp op [a] pos) ta:=fun E hE=>zqj (h E hE)
theorem zoZ{rest:List Expr}(ha:JE X a ta) (hb:JE X (.BoolOp .And (b::rest) pos) tb):JE X (.BoolOp .And (a::b::rest) pos) (zod ta tb):=fun E hE=>
 (zpZ (ha E hE) (hb E hE)).mono fun σ H Q ⟨σW,S,QW,hσ,hS,ht,hQ⟩=>⟨σW,S,_,hσ,hS,ht,fun w S1 v H1 e1 r1 hS1 h1=>by
  cases r1 with
  |bl k=>
   refine⟨k,rfl,?_⟩;cases k with
   |true=>exact⟨σW,S1,_,hσ.ext e1,hS1,h1,hQ.from e1⟩
   |false=>exact hQ _ S1 _ H1 e1 (.bl false) hS1 h1
  |_=>exact h1.elim⟩
theorem zjS (ha:JE X a ta):JE X (.UnaryOp .Not a pos) (zkF ta):=fun E hE=>
 (zoq (ha E hE)).mono fun σ H Q ⟨σW,S,QW,hσ,hS,ht,hQ⟩=>⟨σW,S,_,hσ,hS,ht,fun w S1 v H1 e1 r1 hS1 h1=>by
  cases r1 with
  |bl k=>exact⟨k,rfl,hQ _ S1 _ H1 e1 (.bl _) hS1 h1⟩
  |_=>exact h1.elim⟩
theorem zre (hc:JT X c tc) (ha:JE X a ta) (hb:JE X b tb):JE X (.IfExp c a b pos) (wIf tc ta tb):=fun E hE=>
 (zkt (hc E hE) (ha E hE) (hb E hE)).mono fun σ H Q ⟨σW,S,QW,hσ,hS,ht,hQ⟩=>⟨σW,S,_,hσ,hS,ht,fun k S1 H1 e1 hS1 h1=>by
  cases k with
  |true=>exact⟨σW,S1,_,hσ.ext e1,hS1,h1,hQ.from e1⟩
  |false=>exact⟨σW,S1,_,hσ.ext e1,hS1,h1,hQ.from e1⟩⟩
theorem zaR:JSs X [] zbj:=fun E hE=>pss_nil.mono fun D σ H ⟨σW,S,DW,hσ,hS,ht,hD⟩=>hD.nx σW S σ H .refl hσ hS ht
theorem zad (h1:JS X st t) (h2:JSs X rest u):JSs X (st::rest) (zaz t u):=fun E hE=>
 (zlR (h1 E hE) (h2 E hE)).mono fun D σ H ⟨σW,S,DW,hσ,hS,ht,hD⟩=>
  ⟨σW,S,{ DW with nx:=u E DW },hσ,hS,ht,⟨fun σW' S' σ' H' e r hS' q=>⟨σW',S',DW,r,hS',q,hD.from e⟩,hD.rt,hD.bk,hD.ct⟩⟩
theorem zak (h1:JS X st t):JSs X [st] t:=fun E hE=>zkr (h1 E hE)
theorem zbr (he:JE X e ta) (hs:swapsWith e none pos.line X.env=pure false:=by rfl):JS X (.Expr e pos) (zcB ta):=fun E hE=>
 (zjI (he E hE) hs).mono fun D σ H ⟨σW,S,DW,hσ,hS,ht,hD⟩=>⟨σW,S,_,hσ,hS,ht,fun w S1 v H1 e1 r1 hS1 h1=>hD.nx σW S1 σ H1 e1 (hσ.ext e1) hS1 h1⟩
theorem zav (he:JE X e ta):JS X (.Return (some e) pos) (zci ta):=fun E hE=>
 (zqM (he E hE)).mono fun D σ H ⟨σW,S,DW,hσ,hS,ht,hD⟩=>⟨σW,S,_,hσ,hS,ht,hD.rt⟩
theorem zbv{a b:List Stmt}(hc:JT X c tc) (ha:JSs X a t) (hb:JSs X b u):JS X (.If c a b pos) (zde tc t u):=fun E hE=>
 (zrA (hc E hE) (ha E hE) (hb E hE)).mono fun D σ H ⟨σW,S,DW,hσ,hS,ht,hD⟩=>⟨σW,S,_,hσ,hS,ht,fun k S1 H1 e1 hS1 h1=>by
  cases k with
  |true=>exact⟨σW,S1,DW,hσ.ext e1,hS1,h1,hD.from e1⟩
  |false=>exact⟨σW,S1,DW,hσ.ext e1,hS1,h1,hD.from e1⟩⟩
theorem zaG{i:Nat}{x:Str}(hN:X.N.Nodup) (hi:X.N[i]? =some x) (hx:Loc X.env.scope x) (hf:X.fn x=true∨X.env.scope.names.lookup x=some .local:=by first |exact .inl rfl |exact .inr rfl |assumption):JG X (.Name x pos) (wGN i):=fun E hE=>
 (znr hN hi hx hf).mono fun v σ H Q ⟨w,σW,S,P,r,hσ,hS,ht,hP⟩=>hP _ S _ H .refl (hσ.set r i) hS ht
noncomputable def JGs (X:Cx) (tgs:List Expr) (t:WGs):Prop:=∀E,Hook X E→PGs X tgs (fun vs σ H Q=>∃ws σW S P,Reps X.K H ws vs∧RpSt X.K H σW σ∧RepS X.K H S∧t ws σW S P∧Goes X.K H S P Q)
theorem zfk:JGs X [] zcV:=fun E hE pins s σ H vs us Q I r h=>by
 obtain⟨ws,σW,S,P,rs,hσ,hS,ht,hP⟩:=h;unfold zcV at ht;split at ht
 ·cases rs;exact znd pins s σ H [] us Q I r ⟨rfl,hP σW S σ H .refl hσ hS ht⟩
 ·exact ht.elim
theorem zbG{es:List Expr}{g:WG}{gs:WGs}(h1:JG X e g) (h2:JGs X es gs)
  (hs:(assignEach (e::es) X.env).map (·.2)=assign e X.env::(assignEach es X.env).map (·.2):=by rfl):JGs X (e::es) (zaH g gs):=fun E hE pins s σ H vs us Q I r h=>by
 obtain⟨ws,σW,S,P,rs,hσ,hS,ht,hP⟩:=h;unfold zaH at ht;split at ht
 ·exact ht.elim
 ·cases rs with
  |cons r1 r2=>
   refine zlK (h1 E hE) (h2 E hE) hs pins s σ H _ us Q I r ⟨_,_,rfl,⟨_,σW,S,_,r1,hσ,hS,ht,fun σW' S' σ' H' e' rr hS' q=>?_⟩⟩;exact⟨_,σW',S',P,r2.ext e',rr,hS',q,hP.from e'⟩
theorem zhU{es:List Expr}{k n:Nat}{gs:WGs}(h:JGs X es gs) (hlen:∀ws σ S P,gs ws σ S P→ws.length=n)
  (hn:(assignEach es X.env).length=n:=by rfl) (hst:(assignEach es X.env).findIdx? (·.1)=none:=by rfl) (hcl:X.calm=true:=by rfl):JG X (.Tuple es k pos) (wGT gs):=fun E hE=>
 (zpT hcl (h E hE) hn hst).mono fun v σ H Q ⟨w,σW,S,P,r,hσ,hS,ht,hP⟩=>by
  cases r with
  |tup f hs=>exact⟨_,_,rfl, .of f,by rw [←hs.length];exact hlen _ _ _ _ ht,⟨_,σW,S,P,hs,hσ,hS,ht,hP⟩⟩
  |_=>exact ht.elim
theorem zal{i:Nat}{x:Str}{pos':Pos}(hN:X.N.Nodup) (hi:X.N[i]? =some x) (hx:Loc X.env.scope x) (he:JE X e ta) (hs:swapsWith e (some (.Name x pos')) pos.line X.env=pure false:=by rfl)
  (hf:X.fn x=true∨X.env.scope.names.lookup x=some .local:=by first |exact .inl rfl |exact .inr rfl |assumption):JS X (.Assign [.Name x pos'] e pos) (wAsg ta (wGN i)):=fun E hE=>
 (zoW hN hi hx (he E hE) hs hf).mono fun D σ H ⟨σW,S,DW,hσ,hS,ht,hD⟩=>⟨σW,S,_,hσ,hS,ht,fun w S1 v H1 e1 r1 hS1 h1=>hD.nx _ S1 _ H1 e1 ((hσ.ext e1).set r1 i) hS1 h1⟩
end
noncomputable def waNil:WA:=fun _ _ S Q=>Q [] S
noncomputable def zab (t:WE) (u:WA):WA:=fun E σ S Q=>t E σ S fun w S1=>u E σ S1 fun ws S2=>Q (w::ws) S2
noncomputable def zbS (t:WA):WE:=fun E σ S Q=>t E σ S fun ws S1=>ws.length≤sizeLine∧Q (.tup ws) S1
noncomputable def zdF (t:WA):WL:=fun E σ S Q=>t E σ S fun ws S1=>ws.length≤sizeLine∧Q ws S1
noncomputable def zcG (t:WL):WE:=fun E σ S Q=>t E σ S fun ws S1=>∀a,S1 a=none→Q (.ref a) (put S1 a (.lst ws))
section
variable {X:Cx}{e:Expr}{es:List Expr}{te:WE}{ta:WA}{tl:WL}{pos:Pos}
theorem zac:JA X [] waNil:=fun E hE=>pa_nil.mono fun σ H Q ⟨σW,S,QW,hσ,hS,ht,hQ⟩=>hQ [] S [] H .refl .nil hS ht
theorem zaa (ha:JE X e te) (hr:JA X es ta) (hs:starEach (e::es) X.env=(false,eval e X.env)::starEach es X.env:=by rfl):JA X (e::es) (zab te ta):=fun E hE=>
 (zbs (ha E hE) (hr E hE) hs).mono fun σ H Q ⟨σW,S,QW,hσ,hS,ht,hQ⟩=>⟨σW,S,_,hσ,hS,ht,fun w S1 v H1 e1 r1 hS1 h1=>⟨σW,S1,_,hσ.ext e1,hS1,h1,fun ws S2 vs H2 e2 r2 hS2 h2=>
  hQ (w::ws) S2 (v::vs) H2 (e1.trans e2) (.cons (r1.ext e2) r2) hS2 h2⟩⟩
theorem zas{x1}(h:JA X es ta):JE X (.Tuple es x1 pos) (zbS ta):=fun E hE=>
 (zpq (h E hE)).mono fun σ H Q ⟨σW,S,QW,hσ,hS,ht,hQ⟩=>⟨σW,S,_,hσ,hS,ht,fun ws S1 vs H1 e1 r1 hS1 h1=>by
  refine⟨by rw [←r1.length];exact h1.1,fun p hp=>hQ (.tup ws) S1 _ _ (e1.trans (.new hp)) (.tup zaq (r1.ext (.new (S:=S1) hp))) (hS1.new hp) h1.2⟩⟩
theorem zaI (h:JA X es ta):JL X (.List es pos) (zdF ta):=fun E hE=>
 (zov (h E hE)).mono fun σ H Q ⟨σW,S,QW,hσ,hS,ht,hQ⟩=>⟨σW,S,_,hσ,hS,ht,fun ws S1 vs H1 e1 r1 hS1 h1=>by
  refine⟨by rw [←r1.length];exact h1.1,fun p hp=>hQ ws S1 vs p _ (e1.trans (.new hp)) (e1.free hp) zaq (hS1.free hp) (r1.ext (.new (S:=S1) hp)) (hS1.new hp) h1.2⟩⟩
theorem zaF (h:JL X e tl):JE X e (zcG tl):=fun E hE=>
 (h E hE).mono fun σ H Q ⟨σW,S,QW,hσ,hS,ht,hQ⟩=>⟨σW,S,_,hσ,hS,ht,fun ws S1 vs a H1 e1 fa ea na r1 hS1 h1=>by
  refine hQ (.ref a) (put S1 a (.lst ws)) (.ref a) H1 ⟨e1.tup,e1.frz,fun b o q g=>by
   have hb:b≠a:=by rintro rfl;rw [fa]at q;cases q
   rw [zaB hb];exact e1.fr b o q g,e1.all⟩ (.ref a) (fun b o q=>?_) (h1 a na)
  by_cases hb:b=a
  ·subst hb;rw [zaf]at q;cases q;exact⟨vs,ea,r1⟩
  ·rw [zaB hb]at q;exact hS1 b o q⟩
end
noncomputable def zax (c:WSp) (t:WA):WE:=fun E σ S Q=>t E σ S fun ws S1=>c ws S1 Q fun cl S2=>E cl σ S2
noncomputable def zdE (n k:Nat) (body:WS):WSp:=fun ws S Q E=>ws.length=k∧body (fun c _ S'=>E c S') { nx:=fun _ S'=>∃S'',Sub S'' S'∧Q .non S'',rt:=fun w S'=>∃S'',Sub S'' S'∧Q w S'' } (ws.map some++List.replicate (n - k) none) S
section
variable {X:Cx}{k:Nat}{f:Addr}{fd:FuncData}{ps:List Str}{c:WSp}{x:Str}{p pos:Pos}{e:Expr}{es:List Expr}{t:WA}
theorem zam (F:FnOk X.prog X.w X.K X.mg X.base (CX1 X.prog X.w) k f fd ps (zbt X.K c)) (hr:Room k X.A) (hg:Gl X x) (hm:X.mg x=some (.ref f)) (hk:PySem.W.keepIn X.K (.ref f)=true) (hb:Binds X.K fd ps [])
  (ha:JA X (e::es) t) (hdb:(x == ("__debug__" :Str))=false:=by decide) (he:starEach (e::es) X.env=(false,eval e X.env)::starEach es X.env:=by rfl) (hpl:(backTo pos (starEach es X.env)).any (·.1)=false:=by rfl) :
  JE X (.Call (.Name x p) (e::es) [] pos) (zax c t):=fun E hE pins s σ H Q I h=>by
 obtain⟨σW,S,QW,hσ,hS,ht,hQ⟩:=h;refine wpAny_Call_Name_kw (zel I hg hm ?_ hdb);refine PySem.W.callWith_K (h₀:=X.base) I.ok.mod.kin hk (thn (ha E hE pos pins s σ H (fun vs H1=>∃ws S1,Reps X.K H1 ws vs∧RpSt X.K H1 σW σ∧RepS X.K H1 S1∧c ws S1 QW (fun cl S'=>E cl σW S')∧Wish X.K H1 S1 QW Q) I
  ⟨σW,S,_,hσ,hS,ht,fun ws S1 vs H1 e1 r1 hS1 h1=>⟨ws,S1,r1,hσ.ext e1,hS1,h1,hQ.from e1⟩⟩) fun us s1 ⟨vs,H1,I1,r,ws,S1,r1,hσ1,hS1,h1,hQ1⟩=>⟨I1.kIn,?_⟩) he hpl
 exact zrU F hr hb hE I1 r r1 hσ1 hS1 h1 hQ1
theorem ziN{K:PySem.W.Frag}{H:Hp}{N:List Str}{ws:List W}{vs:List V}(h:Reps K H ws vs):RpSt K H (ws.map some++List.replicate (N.length - ws.length) none) (start N vs):=by
 have go:∀{ws:List W}{vs:List V}(m:Nat),Reps K H ws vs→RpSt K H (ws.map some++List.replicate m none) (vs.map some++List.replicate m none):=by
  intro ws
  induction ws with
  |nil=>
   intro vs m h;cases h
   induction m with
   |zero=>exact .nil
   |succ m ih=>exact .cons trivial ih
  |cons w ws ih=>
   intro vs m h;cases h with
   |cons r rs=>exact .cons r (ih m rs)
 unfold start;rw [←h.length];exact go _ h
theorem zbz{P:Program}{w:World}{K:PySem.W.Frag}{mg:Str→Option Value}{base:Heap}{x qual:Str}{st:Stmt}{f:Addr}{fd:FuncData}{N ps:List Str}{r n k:Nat}{body:WS}(F:Fun K x qual st f fd) (S:FnScope N ps (zao st)) (hn:N.length=n) (hk:ps.length=k)
  (hbody:∀(cdv:Value) (A:Around) (outer:List Env) (s:Shared) (H:Hp) (E:XK),Room r (A.deeper (envOfC qual (zao st) s.heap.objs.size f cdv))→
   JSs (znU (CX1 P w) P w K mg base N qual (zao st) f cdv A outer s H E) (zdz st) body):FnOk P w K mg base (CX1 P w) (r+1) f fd ps (zbt K (zdE n k body)):=by
 obtain⟨oc,od,kV,doc,pm,an,cdv,ct,osl,rfl,lk,hcd⟩:=F.ex;refine zqV lk hcd S (fun vs H Q E h=>?_) fun A outer s H vs Q E hr h=>?_
 ·obtain⟨ws,S,QW,EW,rs,_,h,_⟩:=h;rw [←rs.length,h.1,hk]
 ·obtain⟨ws,S',QW,EW,rs,hS,h,hQ,hEW⟩:=h;refine⟨_,hbody cdv A outer s H E hr (fun c _ S'=>EW c S') (zld hEW),?_⟩;refine⟨_,S',{ nx:=fun _ S'=>∃S'',Sub S'' S'∧QW .non S'',rt:=fun w S'=>∃S'',Sub S'' S'∧QW w S'' },ziN (N:=N) rs,hS,by rw [hn,h.1];exact h.2,⟨fun σW S1 σ H1 e1 rr hS1 q=>?_,fun w S1 v H1 e1 rr hS1 q=>?_,fun _ _ _ _ _ _ _ q=>q,fun _ _ _ _ _ _ _ q=>q⟩⟩
  ·obtain⟨S2,sb,q⟩:=q;exact hQ .non S2 .non H1 (e1.trans (.drop sb)) .non (hS1.sub sb) q
  ·obtain⟨S2,sb,q⟩:=q;exact hQ w S2 v H1 (e1.trans (.drop sb)) rr (hS1.sub sb) q
end
noncomputable def zcC (C:Int→Int→Prop) (g:Int→Int→W):W2
 | .int i, .int j,S,Q=>C i j∧Q (g i j) S
 |_,_,_,_=>False
noncomputable def zlJ (g:Int→Int→W):W2
 | .int i, .int j,S,Q=>Q (g i j) S
 |_,_,_,_=>False
theorem zfs{K:PySem.W.Frag}{C:Int→Int→Prop}{g:Int→Int→Int}:OpW K (rI C fun i j=> .int (g i j)) (zcC C fun i j=> .int (g i j)):=fun H x y wx wy S Q QW rx ry hS h hQ=>by
 cases rx<;>cases ry<;>first |exact⟨_,_,rfl,rfl,h.1,hQ _ S _ H .refl (.int _) hS h.2⟩ |exact h.elim
theorem zdL{K:PySem.W.Frag}{g:Int→Int→Bool}:OpW K (rI0 fun i j=> .bl (g i j)) (zlJ fun i j=> .bl (g i j)):=fun H x y wx wy S Q QW rx ry hS h hQ=>by
 cases rx<;>cases ry<;>first |exact⟨_,_,rfl,rfl,hQ _ S _ H .refl (.bl _) hS h⟩ |exact h.elim
noncomputable def zfv:W2
 | .int i, .int j,S,Q=>Q (.int (i+j)) S
 | .str x, .str y,S,Q=>x.length+y.length≤sizeLine∧Q (.str (x++y)) S
 | .tup xs, .tup ys,S,Q=>xs.length+ys.length≤sizeLine∧Q (.tup (xs++ys)) S
 | .ref a, .ref b,S,Q=>zbp S a fun xs=>zbp S b fun ys=>xs.length+ys.length≤sizeLine∧ ∀p,S p=none→Q (.ref p) (put S p (.lst (xs++ys)))
 |_,_,_,_=>False
section
variable {X:Cx}
theorem Reps.nil_r{K:PySem.W.Frag}{H:Hp}{ws:List W}(h:Reps K H ws []):ws=[]:=by cases h;rfl
theorem op_catT0:OpR X (binaryOp .Add) (fun x y H Q=>∃a b ys,x= .ref a∧y= .ref b∧SqT X.K H a []∧SqT X.K H b ys∧Q (.ref b) H):=by
 intro pins s σ H x y v u Q I rx ry h;obtain⟨a,b,ys,rfl,rfl,ha,hb,q⟩:=h;cases rx;cases ry;obtain⟨its,r1,p1,_⟩:=I.tuple ha;obtain⟨its2,r2,p2,_⟩:=I.tuple hb;cases r1;obtain⟨⟨cls,dd,data,sl⟩,ho,hc,n,hd⟩:=id p1;obtain⟨⟨cls2,dd2,data2,sl2⟩,ho2,hc2,n2,hd2⟩:=id p2;simp only at hc hd hc2 hd2;subst hc hd hc2 hd2;exact concat_meets ⟨_,ho,rfl⟩ ⟨_,ho2,rfl⟩ noFill_tuple_add seq_tuple_add PySem.F.slot_tuple_add PySem.F.entry_tuple_add (PySem.F.args_tuple_add_2 _ _)
   (tuple_addW0 a b _ _ n n2 dd dd2 sl sl2 (by simp)) ⟨ho,ho2,⟨.ref b,H,I,rfl,q⟩⟩
theorem zjB:OpR X (binaryOp .Add) (fun x y H Q=>(rI0 fun i j=> .int (i+j)) x y H Q∨(∃i j,x= .str i∧y= .str j∧i.length+j.length≤sizeLine∧Q (.str (i++j)) H)∨
  (∃a b ys,x= .ref a∧y= .ref b∧SqT X.K H a []∧SqT X.K H b ys∧Q (.ref b) H)∨znh X.K x y H Q∨zss x y H Q):=op_add.or (op_add_str.or (op_catT0.or (op_catT.or zhz)))
theorem znM{K:PySem.W.Frag}:OpW K (fun x y H Q=>(rI0 fun i j=> .int (i+j)) x y H Q∨(∃i j,x= .str i∧y= .str j∧i.length+j.length≤sizeLine∧Q (.str (i++j)) H)∨
  (∃a b ys,x= .ref a∧y= .ref b∧SqT K H a []∧SqT K H b ys∧Q (.ref b) H)∨znh K x y H Q∨zss x y H Q) zfv:=fun H x y wx wy S Q QW rx ry hS h hQ=>by
 cases rx with
 |int i=>
  cases ry with
  |int j=>exact .inl ⟨i,j,rfl,rfl,hQ _ S _ H .refl (.int _) hS h⟩
  |_=>exact h.elim
 |str i=>
  cases ry with
  |str j=>exact .inr (.inl ⟨i,j,rfl,rfl,h.1,hQ _ S _ H .refl (.str _) hS h.2⟩)
  |_=>exact h.elim
 | @tup a vs ws f hs=>
  cases ry with
  | @tup b us zs g ks=>
   cases hs with
   |nil=>exact .inr (.inr (.inl ⟨a,b,us,rfl,rfl, .of f, .of g,hQ (.tup zs) S _ H .refl (.tup g ks) hS h.2⟩))
   |cons h1 h2=>
    refine .inr (.inr (.inr (.inl ⟨a,b,_,us,rfl,rfl, .of f, .of g,by simp,?_,fun e=>?_,fun e p hp=>?_⟩)))
    ·rw [←(Reps.cons h1 h2).length,←ks.length];exact h.1
    ·subst e;have e':=ks.nil_r;subst e';have q:=h.2;rw [List.append_nil]at q;exact hQ _ S _ H .refl (.tup f (.cons h1 h2)) hS q
    ·exact hQ _ S _ _ (.new hp) (.tup zaq (((Reps.cons h1 h2).append ks).ext (.new (S:=S) hp))) (hS.new hp) h.2
  |_=>exact h.elim
 |ref a=>
  cases ry with
  |ref b=>
   obtain⟨xs,ea,h⟩:=zaN h;obtain⟨ys,eb,h⟩:=zaN h;obtain⟨vs,e1,r1⟩:=hS a _ ea;obtain⟨us,e2,r2⟩:=hS b _ eb;refine .inr (.inr (.inr (.inr ⟨a,b,vs,us,rfl,rfl,e1,e2,by rw [←r1.length,←r2.length];exact h.1,fun p hp=>?_⟩)))
   exact hQ _ _ _ _ (.newS hp) (.ref p) (hS.put_lst hp ((r1.append r2).ext (.new (S:=S) hp))) (h.2 p (hS.free hp))
  |_=>exact h.elim
 |_=>exact h.elim
variable {a b:Expr}{pos:Pos}{ta tb:WE}
theorem zcr (ha:JE X a ta) (hb:JE X b tb):JE X (.BinOp a .Add b pos) (wOp zfv ta tb):=zij zjB znM ha hb
theorem zmf (ha:JE X a ta) (hb:JE X b tb):JE X (.BinOp a .Mult b pos) (wOp (zcC CMul fun i j=> .int (i*j)) ta tb):=zij zpN zfs ha hb
theorem zcO (ha:JE X a ta) (hb:JE X b tb):JE X (.BinOp a .FloorDiv b pos) (wOp (zcC zkH fun i j=> .int (i / j)) ta tb):=zij zmX zfs ha hb
theorem zbn (ha:JE X a ta) (hb:JE X b tb):JE X (.BinOp a .Mod b pos) (wOp (zcC (fun _ j=>0<j) fun i j=> .int (i % j)) ta tb):=zij zpS zfs ha hb
theorem zqD (ha:JE X a ta) (hb:JE X b tb):JE X (.BinOp a .Pow b pos) (wOp (zcC zrv fun i j=> .int (i ^ j.toNat)) ta tb):=zij zqJ zfs ha hb
noncomputable def zpj (t:WE):WE:=fun E σ S Q=>t E σ S fun w S1=>match w with
 | .int i=>Q (.int (-i)) S1
 |_=>False
theorem ziX (ha:JE X a ta):JE X (.UnaryOp .USub a pos) (zpj ta):=fun E hE=>
 (zrT zpU (ha E hE)).mono fun σ H Q ⟨σW,S,QW,hσ,hS,ht,hQ⟩=>⟨σW,S,_,hσ,hS,ht,fun w S1 v H1 e1 r1 hS1 h1=>by
  cases r1 with
  |int i=>exact⟨i,rfl,hQ _ S1 _ H1 e1 (.int _) hS1 h1⟩
  |_=>exact h1.elim⟩
noncomputable def zsw (t u:WE):WL:=fun E σ S Q=>t E σ S fun x S1=>u E σ S1 fun y S2=>match x,y with
 | .ref a, .ref b=>zbp S2 a fun xs=>zbp S2 b fun ys=>xs.length+ys.length≤sizeLine∧Q (xs++ys) S2
 |_,_=>False
end
noncomputable def zdw (f:W→W→Option Bool):List W→List W→Option Bool
 | [],[]=>some true
 | [],_=>some false
 |_,[]=>some false
 |x::xs,y::ys=>match f x y,zdw f xs ys with
  |some a,some b=>some (a&&b)
  |_,_=>none
noncomputable def eqF (S:Sto):Nat→W→W→Option Bool
 |0,_,_=>none
 |n+1,w,u=>match w,u with
  | .non, .non=>some true
  | .bl a, .bl b=>some (a == b)
  | .int a, .int b=>some (a == b)
  | .str a, .str b=>some (a == b)
  | .tup _, .int _=>some false
  | .int _, .tup _=>some false
  | .tup xs, .tup ys=>zdw (eqF S n) xs ys
  | .ref a, .ref b=>match S a with
   |some (.lst xs)=>match S b with
    |some (.lst ys)=>zdw (eqF S n) xs ys
    |_=>none
   |_=>none
  |_,_=>none
theorem zhH{f:W→W→Option Bool}:∀{xs ys:List W}{b:Bool},zdw f xs ys=some b→
  (∀j,j<xs.length→j<ys.length→ ∃c,f (xs.getD j .non) (ys.getD j .non)=some c)∧
  ((List.range (min xs.length ys.length)).all (fun j=>(f (xs.getD j .non) (ys.getD j .non)).getD true)&&xs.length == ys.length)=b
 | [],[],b,h=>by
  have:true=b:=Option.some.inj h;subst this;exact⟨fun j h=>absurd h (by simp),by simp⟩
 | [],y::ys,b,h=>by
  have:false=b:=Option.some.inj h;subst this;exact⟨fun j h=>absurd h (by simp),by simp⟩
 |x::xs,[],b,h=>by
  have:false=b:=Option.some.inj h;subst this;exact⟨fun j _ h=>absurd h (by simp),by simp⟩
 |x::xs,y::ys,b,h=>by
  unfold zdw at h;split at h
  ·rename_i c d e1 e2;have hb:(c&&d)=b:=Option.some.inj h;obtain⟨h1,h2⟩:=zhH e2;refine⟨fun j j1 j2=>?_,?_⟩
   ·cases j with
    |zero=>exact⟨c,by simpa using e1⟩
    |succ j=>simpa using h1 j (by simpa using j1) (by simpa using j2)
   ·have hm:min (xs.length+1) (ys.length+1)=min xs.length ys.length+1:=by omega
    have hl:(xs.length+1 == ys.length+1)=(xs.length == ys.length):=by simp
    rw [List.length_cons,List.length_cons,hm,List.range_succ_eq_map,List.all_cons,List.all_map,hl];have q:((fun j=>(f ((x::xs).getD j .non) ((y::ys).getD j .non)).getD true)∘Nat.succ)=fun j=>(f (xs.getD j .non) (ys.getD j .non)).getD true:=by
     funext j;simp
    rw [q,Bool.and_assoc,h2];have q0:(f ((x::xs).getD 0 .non) ((y::ys).getD 0 .non)).getD true=c:=by simp [e1]
    rw [q0,hb]
  ·cases h
section
variable {X:Cx}{pins:List (Addr×Obj)}{σ:St}{H:Hp}{s:Shared}{S:Sto}
theorem zeZ (I:Inv X pins σ H s):∀(n:Nat) {wx wy:W}{v:V}{b:Bool},Rep X.K H wx v→Rep X.K H wy v→RepS X.K H S→eqF S n wx wy=some b→b=true
 |0,_,_,_,_,_,_,_,h=>by cases h
 |n+1,wx,wy,v,b,rx,ry,hS,h=>by
  have list:∀{ws us:List W}{vs:List V}{b:Bool},Reps X.K H ws vs→Reps X.K H us vs→zdw (eqF S n) ws us=some b→b=true:=by
   intro ws
   induction ws with
   |nil=>
    intro us vs b r1 r2 e;cases r1;cases r2;exact(Option.some.inj e).symm
   |cons w ws ih=>
    intro us vs b r1 r2 e;cases r1 with
    |cons a1 a2=>
     cases r2 with
     |cons c1 c2=>
      unfold zdw at e;split at e
      ·rename_i c d e1 e2;have q1:=zeZ I n a1 c1 hS e1;have q2:=ih a2 c2 e2;have:=Option.some.inj e;rw [q1,q2]at this;exact this.symm
      ·cases e
  cases rx with
  |non=>cases ry;exact(Option.some.inj h).symm
  |bl k=>cases ry;have:=Option.some.inj h;simpa using this.symm
  |int k=>cases ry;have:=Option.some.inj h;simpa using this.symm
  |str k=>cases ry;have:=Option.some.inj h;simpa using this.symm
  |ref a=>
   cases ry with
   |ref _=>
    have h':(match S a with
     |some (.lst xs)=>match S a with
      |some (.lst ys)=>zdw (eqF S n) xs ys
      |_=>none
     |_=>none)=some b:=h
    cases e:S a with
    |none=>rw [e]at h';cases h'
    |some o=>
     rw [e]at h';cases o with
     |lst ws=>
      obtain⟨vs,_,r⟩:=hS a _ e;exact list r r h'
     |dct _=>cases h'
     |dk _=>cases h'
     |ins _ _=>cases h'
   |scr _=>cases h
   |tup _ _=>cases h
  |scr f=>cases ry<;>cases h
  |tup f hs=>
   cases ry with
   |ref _=>cases h
   |scr _=>cases h
   |tup g ks=>
    have e:=I.tuple_inj (.of f) (.of g);subst e;exact list hs ks h
theorem zjh{A:Around}:A.in1.units=A.units+1:=rfl
theorem ziH (I:Inv X pins σ H s) (hS:RepS X.K H S):∀(n:Nat) {A:Around}{wx wy:W}{x y:V}{u v:Value}{b:Bool},A.units+n<cLine→Rep X.K H wx x→Rep X.K H wy y→RelV x u→RelV y v→eqF S n wx wy=some b→
  SeqAt.EqAt A s u v b∧SeqAt.RcAt A s u v b∧SeqAt.RcNeAt A s u v (!b)
 |0,_,_,_,_,_,_,_,_,_,_,_,_,_,h=>by cases h
 |n+1,A,wx,wy,x,y,u,v,b,hu,rx,ry,ru,rv,h=>by
  have hu0:A.units<cLine:=by omega
  have items:∀{ws zs:List W}{xs ys:List V}{us vs:List Value}{b:Bool},Reps X.K H ws xs→Reps X.K H zs ys→Vals xs us→Vals ys vs→zdw (eqF S n) ws zs=some b→
    (∀j (h1:j<us.toArray.size) (h2:j<vs.toArray.size),SeqAt.EqAt A.in1 s us.toArray[j] vs.toArray[j] ((eqF S n (ws.getD j .non) (zs.getD j .non)).getD true))∧
    ((List.range (min us.toArray.size vs.toArray.size)).all (fun j=>(eqF S n (ws.getD j .non) (zs.getD j .non)).getD true)&&us.toArray.size == vs.toArray.size)=b:=by
   intro ws zs xs ys us vs b r1 r2 q1 q2 e;obtain⟨h1,h2⟩:=zhH e;have l1:=r1.length;have l2:=r2.length;have l3:=q1.length;have l4:=q2.length;refine⟨fun j j1 j2=>?_,?_⟩
   ·rw [List.size_toArray]at j1 j2;obtain⟨c,hc⟩:=h1 j (by omega) (by omega);have jw:j<ws.length:=by omega
    have jz:j<zs.length:=by omega
    obtain⟨x',ex,rx'⟩:=r1.get (List.getElem?_eq_getElem jw);obtain⟨y',ey,ry'⟩:=r2.get (List.getElem?_eq_getElem jz);obtain⟨u',eu,ru'⟩:=q1.get ex;obtain⟨v',ev,rv'⟩:=q2.get ey;have e1:us.toArray[j]=u':=by
     obtain⟨_,e⟩:=List.getElem?_eq_some_iff.mp eu;simpa using e
    have e2:vs.toArray[j]=v':=by
     obtain⟨_,e⟩:=List.getElem?_eq_some_iff.mp ev;simpa using e
    have g1:ws.getD j .non=ws[j]:=by rw [List.getD_eq_getElem?_getD,List.getElem?_eq_getElem jw];rfl
    have g2:zs.getD j .non=zs[j]:=by rw [List.getD_eq_getElem?_getD,List.getElem?_eq_getElem jz];rfl
    rw [e1,e2,hc];rw [g1,g2]at hc;exact(ziH I hS n (by rw [zjh];omega) rx' ry' ru' rv' hc).1
   ·rw [List.size_toArray,List.size_toArray,←l3,←l4,←l1,←l2];exact h2
  cases rx with
  |non=>
   cases(show u=Value.none from ru);cases ry with
   |non=>cases(show v=Value.none from rv);cases h;exact⟨.same _, .none_none, .none_none⟩
   |_=>cases h
  |bl k=>
   cases(show u=Value.bool k from ru);cases ry with
   |bl j=>cases(show v=Value.bool j from rv);cases h;exact⟨.bool_bool _ _, .bool_bool _ _, .bool_bool _ _⟩
   |_=>cases h
  |int k=>
   obtain⟨t0,rfl⟩:=ru;cases ry with
   |int j=>obtain⟨t,rfl⟩:=rv;cases h;exact⟨.int_int _ _ _ _, .int_int _ _ _ _, .int_int _ _ _ _⟩
   |tup f hs=>cases(show v=Value.ref _ from rv);cases h;obtain⟨its,_,p,_⟩:=I.tuple (.of f);exact⟨.int_tuple _ _ p hu0, .int_tuple _ _ p hu0, .int_tuple _ _ p hu0⟩
   |_=>cases h
  |str k=>
   obtain⟨t0,rfl⟩:=ru;cases ry with
   |str j=>obtain⟨t,rfl⟩:=rv;cases h;exact⟨.str_str _ _ _ _, .str_str _ _ _ _, .str_str _ _ _ _⟩
   |_=>cases h
  | @tup a xs ws f hs=>
   cases(show u=Value.ref a from ru);obtain⟨its,q1,p,_⟩:=I.tuple (.of f);cases ry with
   |int j=>obtain⟨t,rfl⟩:=rv;cases h;exact⟨.tuple_int _ _ p hu0, .tuple_int _ _ p hu0, .tuple_int _ _ p hu0⟩
   | @tup c ys zs g ks=>
    cases(show v=Value.ref c from rv);obtain⟨its2,q2,p2,_⟩:=I.tuple (.of g);obtain⟨h1,h2⟩:=items hs ks q1 q2 h;have rc:SeqAt.RcAt A s (.ref a) (.ref c) b:=by
     have:=SeqAt.RcAt.tuples p p2 hu0 h1;rw [h2]at this;exact this
    have rn:SeqAt.RcNeAt A s (.ref a) (.ref c) (!b):=by
     have:=SeqAt.RcNeAt.tuples p p2 hu0 h1;rw [h2]at this;exact this
    refine⟨?_,rc,rn⟩;by_cases e:a=c
    ·subst e;have:=zeZ I (n+1) (.tup f hs) (.tup g ks) hS h;rw [this];exact .same _
    ·exact .of_refs e rc
   |_=>cases h
  |ref a=>
   cases(show u=Value.ref a from ru);cases ry with
   |ref c=>
    cases(show v=Value.ref c from rv);have h':(match S a with
     |some (.lst xs)=>match S c with
      |some (.lst ys)=>zdw (eqF S n) xs ys
      |_=>none
     |_=>none)=some b:=h
    cases e:S a with
    |none=>rw [e]at h';cases h'
    |some o=>
     rw [e]at h';cases o with
     |dct _=>cases h'
     |dk _=>cases h'
     |ins _ _=>cases h'
     |lst ws=>
      cases e2:S c with
      |none=>rw [e2]at h';cases h'
      |some o2=>
       rw [e2]at h';cases o2 with
       |dct _=>cases h'
       |dk _=>cases h'
       |ins _ _=>cases h'
       |lst zs=>
        obtain⟨xs,f,hs⟩:=hS a _ e;obtain⟨ys,g,ks⟩:=hS c _ e2;obtain⟨its,q1,p,_⟩:=I.list (.of f);obtain⟨its2,q2,p2,_⟩:=I.list (.of g);obtain⟨h1,h2⟩:=items hs ks q1 q2 h';have both:SeqAt.RcAt A s (.ref a) (.ref c) b∧SeqAt.RcNeAt A s (.ref a) (.ref c) (!b):=by
         by_cases hz:its.toArray.size=its2.toArray.size
         ·have t1:=SeqAt.RcAt.lists p.isList p2.isList hz hu0 h1;have t2:=SeqAt.RcNeAt.lists p.isList p2.isList hz hu0 h1;rw [←hz,Nat.min_self,beq_self_eq_true,Bool.and_true]at h2;rw [h2]at t1 t2;exact⟨t1,t2⟩
         ·have hz':(its.toArray.size != its2.toArray.size)=true:=by simpa using hz
          have hz2:(its.toArray.size == its2.toArray.size)=false:=by simpa using hz
          rw [hz2,Bool.and_false]at h2;subst h2;exact⟨.lists_lengths p.isList p2.isList hz' hu0, .lists_lengths p.isList p2.isList hz' hu0⟩
        refine⟨?_,both.1,both.2⟩;by_cases ee:a=c
        ·subst ee;have:=zeZ I (n+1) (.ref a) (.ref a) hS h;rw [this];exact .same _
        ·exact .of_refs ee both.1
   |_=>cases h
  |scr f=>cases ry<;>cases h
end
noncomputable def oEq (neg:Bool):W2:=fun x y S Q=>match eqF S 60 x y with
 |some b=>Q (.bl (if neg then !b else b)) S
 |none=>False
noncomputable def zsj (K:PySem.W.Frag) (neg:Bool):R2:=fun x y H Q=>∃wx wy S b,Rep K H wx x∧Rep K H wy y∧RepS K H S∧eqF S 60 wx wy=some b∧Q (.bl (if neg then !b else b)) H
section
variable {X:Cx}
theorem zmj (hu:X.A.units+60<cLine):OpR X (compareOp .Eq) (zsj X.K false):=by
 intro pins s σ H x y v u Q I rx ry h;obtain⟨wx,wy,S,b,r1,r2,hS,e,q⟩:=h;exact(ziH I hS 60 hu r1 r2 rx ry e).2.1 _ _ _ _ ⟨.bl b,H,I,rfl,q⟩
theorem zox (hu:X.A.units+60<cLine):OpR X (compareOp .NotEq) (zsj X.K true):=by
 intro pins s σ H x y v u Q I rx ry h;obtain⟨wx,wy,S,b,r1,r2,hS,e,q⟩:=h;exact(ziH I hS 60 hu r1 r2 rx ry e).2.2 _ _ _ _ ⟨.bl (!b),H,I,rfl,q⟩
theorem ziC{K:PySem.W.Frag}{neg:Bool}:OpW K (zsj K neg) (oEq neg):=fun H x y wx wy S Q QW rx ry hS h hQ=>by
 unfold oEq at h;split at h
 ·rename_i b e;exact⟨wx,wy,S,b,rx,ry,hS,e,hQ _ S _ H .refl (.bl _) hS h⟩
 ·exact h.elim
variable {a b:Expr}{pos:Pos}{ta tb:WE}
theorem zgV{k:Nat}(hr:Room k X.A) (ha:JE X a ta) (hb:JE X b tb):JE X (.Compare a [.Eq] [b] pos) (wOp (oEq false) ta tb):=zkc (zmj (by have:=hr.units;omega)) ziC ha hb (nomark b)
theorem znt{k:Nat}(hr:Room k X.A) (ha:JE X a ta) (hb:JE X b tb):JT X (.Compare a [.Eq] [b] pos) (wTb (wOp (oEq false) ta tb)):=zeP (zmj (by have:=hr.units;omega)) ziC ha hb (nomark b)
theorem zpE{k:Nat}(hr:Room k X.A) (ha:JE X a ta) (hb:JE X b tb):JT X (.Compare a [.NotEq] [b] pos) (wTb (wOp (oEq true) ta tb)):=zeP (zox (by have:=hr.units;omega)) ziC ha hb (nomark b)
noncomputable abbrev oLt:W2:=zlJ fun i j=> .bl (decide (i<j))
noncomputable abbrev oGt:W2:=zlJ fun i j=> .bl (decide (j<i))
noncomputable def oLe:W2
 | .int i, .int j,S,Q=>Q (.bl (decide (i≤j))) S
 | .str i, .str j,S,Q=>Q (.bl (!decide (j.cps.toList<i.cps.toList))) S
 |_,_,_,_=>False
theorem zrw (ha:JE X a ta) (hb:JE X b tb):JE X (.Compare a [.Lt] [b] pos) (wOp oLt ta tb):=zkc zql zdL ha hb (nomark b)
theorem znm (ha:JE X a ta) (hb:JE X b tb):JT X (.Compare a [.Lt] [b] pos) (wTb (wOp oLt ta tb)):=zeP zql zdL ha hb (nomark b)
theorem zrP (ha:JE X a ta) (hb:JE X b tb):JE X (.Compare a [.Gt] [b] pos) (wOp oGt ta tb):=zkc zpu zdL ha hb (nomark b)
theorem zmT (ha:JE X a ta) (hb:JE X b tb):JT X (.Compare a [.Gt] [b] pos) (wTb (wOp oGt ta tb)):=zeP zpu zdL ha hb (nomark b)
noncomputable def oIs (neg:Bool):W2
 | .non, .non,S,Q=>Q (.bl (!neg)) S
 | .bl a, .bl b,S,Q=>Q (.bl (if neg then a != b else a == b)) S
 | .bl _, .non,S,Q=>Q (.bl neg) S
 | .int _, .non,S,Q=>Q (.bl neg) S
 | .str _, .non,S,Q=>Q (.bl neg) S
 | .tup _, .non,S,Q=>Q (.bl neg) S
 | .ref _, .non,S,Q=>Q (.bl neg) S
 |_,_,_,_=>False
theorem zqy:OpR X (compareOp .Is) (fun x y H Q=>(y= .non∧Q (.bl (decide (x= .non))) H)∨ ∃a b,x= .bl a∧y= .bl b∧Q (.bl (a == b)) H):=op_isN.or (by
 intro pins s σ H x y v u Q I rx ry h;obtain⟨a,b,rfl,rfl,q⟩:=h;cases rx;cases ry;exact is_bool ⟨.bl _,H,I,rfl,q⟩)
theorem zkl:OpR X (compareOp .IsNot) (fun x y H Q=>(y= .non∧Q (.bl (!decide (x= .non))) H)∨ ∃a b,x= .bl a∧y= .bl b∧Q (.bl (a != b)) H):=op_notN.or (by
 intro pins s σ H x y v u Q I rx ry h;obtain⟨a,b,rfl,rfl,q⟩:=h;cases rx;cases ry;exact isnot_bool ⟨.bl _,H,I,rfl,q⟩)
theorem zpo{K:PySem.W.Frag}:OpW K (fun x y H Q=>(y= .non∧Q (.bl (decide (x= .non))) H)∨ ∃a b,x= .bl a∧y= .bl b∧Q (.bl (a == b)) H) (oIs false):=fun H x y wx wy S Q QW rx ry hS h hQ=>by
 cases ry with
 |non=>cases rx<;>first |exact .inl ⟨rfl,by simpa using hQ _ S _ H .refl (.bl _) hS h⟩ |exact h.elim
 |bl b=>
  cases rx with
  |bl a=>exact .inr ⟨a,b,rfl,rfl,hQ _ S _ H .refl (.bl _) hS h⟩
  |_=>exact h.elim
 |_=>cases rx<;>exact h.elim
theorem zja{K:PySem.W.Frag}:OpW K (fun x y H Q=>(y= .non∧Q (.bl (!decide (x= .non))) H)∨ ∃a b,x= .bl a∧y= .bl b∧Q (.bl (a != b)) H) (oIs true):=fun H x y wx wy S Q QW rx ry hS h hQ=>by
 cases ry with
 |non=>cases rx<;>first |exact .inl ⟨rfl,by simpa using hQ _ S _ H .refl (.bl _) hS h⟩ |exact h.elim
 |bl b=>
  cases rx with
  |bl a=>exact .inr ⟨a,b,rfl,rfl,hQ _ S _ H .refl (.bl _) hS h⟩
  |_=>exact h.elim
 |_=>cases rx<;>exact h.elim
theorem zly (ha:JE X a ta) (hb:JE X b tb):JT X (.Compare a [.Is] [b] pos) (wTb (wOp (oIs false) ta tb)):=zeP zqy zpo ha hb (nomark b)
theorem zho (ha:JE X a ta) (hb:JE X b tb):JT X (.Compare a [.IsNot] [b] pos) (wTb (wOp (oIs true) ta tb)):=zeP zkl zja ha hb (nomark b)
end
noncomputable def inF (S:Sto) (x:W):List W→Option Bool
 | []=>some false
 |w::ws=>match eqF S 59 w x with
  |some a=>match inF S x ws with
   |some b=>some (a || b)
   |none=>none
  |none=>none
noncomputable def oIn (neg:Bool):W2:=fun x y S Q=>match y with
 | .str j=>match x with
  | .str i=>Q (.bl (if neg then !(!(Builtin.Str.occurrences j i 0 j.length 1).isEmpty) else !(Builtin.Str.occurrences j i 0 j.length 1).isEmpty)) S
  |_=>False
 | .tup ws=>match inF S x ws with
  |some b=>Q (.bl (if neg then !b else b)) S
  |none=>False
 | .ref a=>zbp S a fun ws=>match inF S x ws with
  |some b=>Q (.bl (if neg then !b else b)) S
  |none=>False
 |_=>False
noncomputable def oIx:W2:=fun x y S Q=>match y with
 | .int i=>match x with
  | .tup ws=>match atI ws i with
   |some w=>Q w S
   |none=>False
  | .ref a=>zbp S a fun ws=>match atI ws i with
   |some w=>Q w S
   |none=>False
  | .scr ns=>match atI ns i with
   |some n=>Q (.int n) S
   |none=>False
  | .str x=>x.length≤sizeLine∧match atI x.cps.toList i with
   |some c=>Q (.str ⟨#[c]⟩) S
   |none=>False
  |_=>False
 |_=>False
theorem zhf{K:PySem.W.Frag}{H:Hp}{ws:List W}{vs:List V}{i:Int}{w:W}(r:Reps K H ws vs) (e:atI ws i=some w):∃v,atI vs i=some v∧Rep K H w v:=by
 unfold atI at e⊢;rw [←r.length];cases q:ixN ws.length i with
 |none=>rw [q]at e;cases e
 |some j=>rw [q]at e;exact r.get e
theorem zob{α β:Type}{f:α→β}{xs:List α}{i:Int}{x:α}(e:atI xs i=some x):atI (xs.map f) i=some (f x):=by
 unfold atI at e⊢;rw [List.length_map];cases q:ixN xs.length i with
 |none=>rw [q]at e;cases e
 |some j=>
  rw [q]at e;show(xs.map f)[j]? =_;rw [List.getElem?_map,show xs[j]? =some x from e];rfl
theorem zoT{K:PySem.W.Frag}:OpW K (rIx K) oIx:=fun H x y wx wy S Q QW rx ry hS h hQ=>by
 cases ry with
 |int i=>
  cases rx with
  |tup f hs=>
   unfold oIx at h;dsimp only at h;split at h
   ·obtain⟨v,ev,r⟩:=zhf hs ‹_›;exact .inr (.inl ⟨_,_,i,v,rfl,rfl, .of f,ev,hQ _ S _ H .refl r hS h⟩)
   ·exact h.elim
  |ref a=>
   obtain⟨ws,e,h⟩:=zaN h;obtain⟨vs,f,hs⟩:=hS a _ e;split at h
   ·obtain⟨v,ev,r⟩:=zhf hs ‹_›;exact .inl ⟨_,_,i,v,rfl,rfl, .of f,ev,hQ _ S _ H .refl r hS h⟩
   ·exact h.elim
  |scr f=>
   unfold oIx at h;dsimp only at h;split at h
   ·exact .inl ⟨_,_,i,_,rfl,rfl,f.sq,zob ‹_›,hQ _ S _ H .refl (.int _) hS h⟩
   ·exact h.elim
  |str z=>
   unfold oIx at h;dsimp only at h;obtain⟨hz,h⟩:=h;split at h
   ·exact .inr (.inr ⟨z,i,_,rfl,rfl,hz, ‹_›,hQ _ S _ H .refl (.str _) hS h⟩)
   ·exact h.elim
  |_=>exact h.elim
 |_=>exact h.elim
section
variable {X:Cx}{a b e:Expr}{pos p2:Pos}{ta tb te:WE}{lo hi:Option Expr}
theorem zay (ha:JE X a ta) (hb:JE X b tb) (hs:zhb b:=by intro _ _;rfl):JE X (.Subscript a b pos) (wOp oIx ta tb):=fun E hE=>
 (zqs zmg (ha E hE) (hb E hE) hs).mono fun σ H Q h=>zdK h fun H2 x y wx wy S QW rx ry hS q hQ=>zoT H2 x y wx wy S Q QW rx ry hS q hQ
noncomputable abbrev WO:=WX→WSt→Sto→(Option Int→Sto→Prop)→Prop
noncomputable def zrn (K:PySem.W.Frag) (t:WSt→Sto→(Option Int→Sto→Prop)→Prop):TO:=fun σ H Q=>∃σW S QW,RpSt K H σW σ∧RepS K H S∧t σW S QW∧ ∀b S' H',Ext H S H' S'→RepS K H' S'→QW b S'→Q b H'
noncomputable def JO (X:Cx) (e:Option Expr) (t:WO):Prop:=∀E,Hook X E→PO X e (zrn X.K (t E))
noncomputable def woN:WO:=fun _ _ S Q=>Q none S
noncomputable def woS (t:WE):WO:=fun E σ S Q=>t E σ S fun w S1=>match w with
 | .int i=>Q (some i) S1
 |_=>False
theorem PO.mono{X:Cx}{e:Option Expr}{t t':TO}(h:PO X e t) (q:∀σ H Q,t' σ H Q→t σ H Q):PO X e t':=fun pins s σ H Q I z=>h pins s σ H Q I (q σ H Q z)
theorem zby:JO X none woN:=fun E hE=>po_none.mono fun σ H Q ⟨σW,S,QW,hσ,hS,ht,hQ⟩=>hQ none S H .refl hS ht
theorem zbC (h:JE X e te):JO X (some e) (woS te):=fun E hE=>(znG (h E hE)).mono fun σ H Q ⟨σW,S,QW,hσ,hS,ht,hQ⟩=>⟨σW,S,_,hσ,hS,ht,fun w S1 v H1 e1 r1 hS1 h1=>by
 cases r1 with
 |int i=>exact⟨i,rfl,hQ _ S1 H1 e1 hS1 h1⟩
 |_=>exact h1.elim⟩
noncomputable def zcZ {α:Type}(xs:List α) (lo hi:Option Int):List α:=(xs.drop (HT.sIx xs.length 0 lo)).take (HT.sIx xs.length xs.length hi - HT.sIx xs.length 0 lo)
theorem zfm{K:PySem.W.Frag}{H:Hp}{ws:List W}{vs:List V}{lo hi:Option Int}(r:Reps K H ws vs):Reps K H (zcZ ws lo hi) (ziD vs lo hi):=by
 unfold zcZ ziD;rw [r.length];exact(r.drop _).take _
theorem zhy{α β:Type}{f:α→β}{xs:List α}{lo hi:Option Int}:zcZ (xs.map f) lo hi=(zcZ xs lo hi).map f:=by
 unfold zcZ;rw [List.length_map,List.map_take,List.map_drop]
theorem zcW{prog:Program}{w:World}{A:Around}{E:Value→Shared→Prop}{s:Shared}{t sl:Addr}{items:Array Value}{vl vu:Value}{lo hi:Option Int}{Q:Value→Shared→Prop}(ht:IsTup s.heap t items) (hs:s.heap.IsSliceOf sl vl vu .none) (pl:IsPart vl lo) (pu:IsPart vu hi)
  (hw:HT.sIx items.size 0 lo=0∧HT.sIx items.size items.size hi=items.size) (h:Q (.ref t) s):wpAny (model prog w) A (getItem (.ref t) (.ref sl)) Q E s:=by
 obtain⟨os,hos,hcs,hds⟩:=id hs;have hTs:s.TypeIs (.ref sl) "slice" :=⟨os,hos,hcs⟩;unfold getItem
 try with_reducible refine wpAny_holding ?_
 first |refine wpAny_bind (wpAny_pure ?_) |skip
 refine wpAny_bind (wpAny_sequenceKey ht.typeIs (by decide) ?_);refine wpAny_bind (wpAny_callSpecial?_slot (name:=Str.ofString "__getitem__") ht.typeIs PyProof.Rows.slot_tuple_getitem
  (wpAny_call_entry PyProof.Rows.slot_tuple_getitem ht.typeIs entry_tuple_getitem ?_ (args_tuple_getitem _ _)))
 show wpAny _ _ (Builtin.Tuple.tupleItemsOf (.ref t) >>= _) _ _ s;refine wpAny_bind (tupleItemsOf_ ht ?_);refine wpAny_bind (wpAny_typeOf hTs ?_);rw [if_pos (by decide)];refine wpAny_bind (HT.sliceApplied_gen hs pl pu ?_);show wpAny _ _ (if(((HT.sIx items.size 0 lo:Nat):Int) == 0&&(1:Int) == 1&&(HT.sIx items.size items.size hi - HT.sIx items.size 0 lo) == items.size)=true then _ else _) _ _ s;rw [hw.1,hw.2,if_pos (by simp)];unfold Builtin.Tuple.tupleIsExact;refine wpAny_bind (wpAny_bind (wpAny_typeOf ht.typeIs (wpAny_pure ?_)));rw [if_pos (by decide)];exact wpAny_bind (wpAny_rule (wpAny_pure ⟨_,rfl,wpAny_pure h⟩))
theorem sl_tupW:SlR X (fun x lo hi H Q=>∃a xs,x= .ref a∧SqT X.K H a xs∧((HT.sIx xs.length 0 lo=0∧HT.sIx xs.length xs.length hi=xs.length)∧Q (.ref a) H∨ ¬(HT.sIx xs.length 0 lo=0∧HT.sIx xs.length xs.length hi=xs.length)∧ ∀p,H p=none→Q (.ref p) (upd H p (.tup (ziD xs lo hi))))):=by
 intro pins s σ H x v vl vu lo hi sl Q I rx hs pl pu h;obtain⟨a,xs,rfl,hx,⟨hw,q⟩ |⟨hw,q⟩⟩:=h
 ·cases rx;obtain⟨its,r,ht,hz⟩:=I.tuple hx;have hlen:its.toArray.size=xs.length:=by rw [List.size_toArray];exact r.length.symm
  refine⟨"tuple",_,PyProof.Rows.slot_tuple_getitem.lookup,ht.typeIs,?_⟩;exact zcW ht hs pl pu (by rw [hlen];exact hw) ⟨.ref a,H,I,rfl,q⟩
 ·exact zoz pins s σ H _ v vl vu lo hi sl Q I rx hs pl pu ⟨a,xs,rfl,hx,hw,q⟩
noncomputable def oSl:W→Option Int→Option Int→Sto→WK→Prop
 | .tup ws,lo,hi,S,Q=>Q (.tup (zcZ ws lo hi)) S
 | .str z,lo,hi,S,Q=>z.length≤sizeLine∧Q (.str (Txt.slice z lo hi)) S
 | .ref a,lo,hi,S,Q=>zbp S a fun ws=>∀p,S p=none→Q (.ref p) (put S p (.lst (zcZ ws lo hi)))
 | .scr ns,lo,hi,S,Q=>∀p,S p=none→Q (.ref p) (put S p (.lst ((zcZ ns lo hi).map W.int)))
 |_,_,_,_,_=>False
noncomputable def wSl (t:WE) (l h:WO):WE:=fun E σ S Q=>t E σ S fun x S1=>l E σ S1 fun lo S2=>h E σ S2 fun hi S3=>oSl x lo hi S3 Q
theorem zii{α:Type}{xs:List α}{lo hi:Option Int}(h:HT.sIx xs.length 0 lo=0∧HT.sIx xs.length xs.length hi=xs.length):zcZ xs lo hi=xs:=by
 unfold zcZ;rw [h.1,h.2,List.drop_zero,Nat.sub_zero,List.take_length]
theorem zgf{tl th:WO}(he:JE X e te) (hl:JO X lo tl) (hh:JO X hi th):JE X (.Subscript e (.Slice lo hi none p2) pos) (wSl te tl th):=fun E hE=>
 (zhI (sl_tupW.or (sl_str.or zjV)) (he E hE) (hl E hE) (hh E hE)).mono fun σ H Q ⟨σW,S,QW,hσ,hS,ht,hQ⟩=>
  ⟨σW,S,_,hσ,hS,ht,fun w S1 v H1 e1 r1 hS1 h1=>⟨σW,S1,_,hσ.ext e1,hS1,h1,fun lo S2 H2 e2 hS2 h2=>⟨σW,S2,_,(hσ.ext e1).ext e2,hS2,h2,fun hi S3 H3 e3 hS3 h3=>by
   have hQ':=hQ.from (e1.trans (e2.trans e3));have r3:=(r1.ext e2).ext e3;cases r3 with
   | @tup a vs ws f hs=>
    refine .inl ⟨a,vs,rfl, .of f,?_⟩;by_cases hw:HT.sIx vs.length 0 lo=0∧HT.sIx vs.length vs.length hi=vs.length
    ·refine .inl ⟨hw,hQ' (.tup ws) S3 _ H3 .refl (.tup f hs) hS3 ?_⟩;have:=zii (xs:=ws) (lo:=lo) (hi:=hi) (by rw [hs.length];exact hw);have h3':QW (.tup (zcZ ws lo hi)) S3:=h3;rw [this]at h3';exact h3'
    ·exact .inr ⟨hw,fun p hp=>hQ' _ S3 _ _ (.new hp) (.tup zaq ((zfm hs).ext (.new (S:=S3) hp))) (hS3.new hp) h3⟩
   |str z=>exact .inr (.inl ⟨z,rfl,h3.1,hQ' _ S3 _ H3 .refl (.str _) hS3 h3.2⟩)
   |ref a=>
    obtain⟨ws,ea,h⟩:=zaN h3;obtain⟨vs,f,hs⟩:=hS3 a _ ea;exact .inr (.inr ⟨a,vs,rfl, .of f,fun p hp=>hQ' _ _ _ _ (.newS hp) (.ref p) (hS3.put_lst hp ((zfm hs).ext (.new (S:=S3) hp))) (h p (hS3.free hp))⟩)
   | @scr a ns f=>
    refine .inr (.inr ⟨a,_,rfl,f.sq,fun p hp=>hQ' _ _ _ _ (.newS hp) (.ref p) (hS3.put_lst hp ?_) (h3 p (hS3.free hp))⟩);have q:ziD (ns.map V.int) lo hi=(zcZ ns lo hi).map V.int:=zhy;rw [q];exact Reps.ofInts _
   |_=>exact h3.elim⟩⟩⟩
noncomputable def zpy (t:WE) (l h:WO):WL:=fun E σ S Q=>t E σ S fun x S1=>l E σ S1 fun lo S2=>h E σ S2 fun hi S3=>match x with
 | .ref a=>zbp S3 a fun ws=>Q (zcZ ws lo hi) S3
 | .scr ns=>Q ((zcZ ns lo hi).map W.int) S3
 |_=>False
theorem znq{tl th:WO}(he:JE X e te) (hl:JO X lo tl) (hh:JO X hi th):JL X (.Subscript e (.Slice lo hi none p2) pos) (zpy te tl th):=fun E hE=>
 (zhI zjV (he E hE) (hl E hE) (hh E hE)).mono fun σ H Q ⟨σW,S,QW,hσ,hS,ht,hQ⟩=>
  ⟨σW,S,_,hσ,hS,ht,fun w S1 v H1 e1 r1 hS1 h1=>⟨σW,S1,_,hσ.ext e1,hS1,h1,fun lo S2 H2 e2 hS2 h2=>⟨σW,S2,_,(hσ.ext e1).ext e2,hS2,h2,fun hi S3 H3 e3 hS3 h3=>by
   have e':=e1.trans (e2.trans e3);have r3:=(r1.ext e2).ext e3;cases r3 with
   |ref a=>
    obtain⟨ws,ea,h⟩:=zaN h3;obtain⟨vs,f,hs⟩:=hS3 a _ ea;exact⟨a,vs,rfl, .of f,fun p hp=>hQ _ S3 _ p _ (e'.trans (.new hp)) (e'.free hp) zaq (hS3.free hp) ((zfm hs).ext (.new (S:=S3) hp)) (hS3.new hp) h⟩
   | @scr a ns f=>
    refine⟨a,_,rfl,f.sq,fun p hp=>hQ _ S3 _ p _ (e'.trans (.new hp)) (e'.free hp) zaq (hS3.free hp) ?_ (hS3.new hp) h3⟩;have q:ziD (ns.map V.int) lo hi=(zcZ ns lo hi).map V.int:=zhy;rw [q];exact Reps.ofInts _
   |_=>exact h3.elim⟩⟩⟩
end
noncomputable abbrev WF:=List W→Sto→WK→Prop
noncomputable def wB (f:WF) (t:WA):WE:=fun E σ S Q=>t E σ S fun ws S1=>f ws S1 Q
noncomputable def zjp (K:PySem.W.Frag) (r:List V→Hp→VK→Prop) (f:WF):Prop:=∀H vs ws S (Q:VK) (QW:WK),Reps K H ws vs→RepS K H S→f ws S QW→Wish K H S QW Q→r vs H Q
noncomputable def wBL (f:WF) (t:WL):WE:=fun E σ S Q=>t E σ S fun ws S1=>f ws S1 Q
noncomputable def zpl (K:PySem.W.Frag) (r:List V→Hp→VK→Prop) (f:WF):Prop:=∀H a vs ws S (Q:VK) (QW:WK),H a=some (.lst vs)→S a=none→Reps K H ws vs→RepS K H S→f ws S QW→Wish K H S QW Q→r [.ref a] H Q
section
variable {X:Cx}{x:Str}{p pos:Pos}{e:Expr}{es:List Expr}{t:WA}{tl:WL}{id T:String}{r:List V→Hp→VK→Prop}{f:WF}
theorem zqe (hc:CallR X (.builtin id) r) (hw:zjp X.K r f) (hg:Gl X x) (hm:X.mg x=none) (hv:bootBuiltins x=some (.builtin id)) (ha:JA X (e::es) t) (hn:x≠ "__name__" :=by decide) (hdb:(x == ("__debug__" :Str))=false:=by decide)
  (he:starEach (e::es) X.env=(false,eval e X.env)::starEach es X.env:=by rfl) (hpl:(backTo pos (starEach es X.env)).any (·.1)=false:=by rfl):JE X (.Call (.Name x p) (e::es) [] pos) (wB f t):=fun E hE=>
 (zdW hc hg hm hv (ha E hE) hn hdb he hpl).mono fun σ H Q ⟨σW,S,QW,hσ,hS,ht,hQ⟩=>⟨σW,S,_,hσ,hS,ht,fun ws S1 vs H1 e1 r1 hS1 h1=>hw H1 vs ws S1 Q QW r1 hS1 h1 (hQ.from e1)⟩
theorem zpa (hc:CallR X (.type T) r) (hw:zjp X.K r f) (hg:Gl X x) (hm:X.mg x=none) (hv:bootBuiltins x=some (.type T)) (ha:JA X (e::es) t) (hn:x≠ "__name__" :=by decide) (hdb:(x == ("__debug__" :Str))=false:=by decide)
  (he:starEach (e::es) X.env=(false,eval e X.env)::starEach es X.env:=by rfl) (hpl:(backTo pos (starEach es X.env)).any (·.1)=false:=by rfl):JE X (.Call (.Name x p) (e::es) [] pos) (wB f t):=fun E hE=>
 (zef hc hg hm hv (ha E hE) hn hdb he hpl).mono fun σ H Q ⟨σW,S,QW,hσ,hS,ht,hQ⟩=>⟨σW,S,_,hσ,hS,ht,fun ws S1 vs H1 e1 r1 hS1 h1=>hw H1 vs ws S1 Q QW r1 hS1 h1 (hQ.from e1)⟩
theorem zpV (hc:CallR X (.type T) r) (hw:zpl X.K r f) (hg:Gl X x) (hm:X.mg x=none) (hv:bootBuiltins x=some (.type T)) (ha:JL X e tl) (hn:x≠ "__name__" :=by decide) (hdb:(x == ("__debug__" :Str))=false:=by decide)
  (he:starEach [e] X.env=(false,eval e X.env)::starEach [] X.env:=by rfl) (hpl:(backTo pos (starEach [] X.env)).any (·.1)=false:=by rfl):JE X (.Call (.Name x p) [e] [] pos) (wBL f tl):=fun E hE=>
 (zef hc hg hm hv (zbs (ha E hE) pa_nil he) hn hdb he hpl).mono fun σ H Q ⟨σW,S,QW,hσ,hS,ht,hQ⟩=>⟨σW,S,_,hσ,hS,ht,fun ws S1 vs a H1 e1 fa ea na r1 hS1 h1=>hw H1 a vs ws S1 Q QW ea na r1 hS1 h1 (hQ.from e1)⟩
noncomputable def zis:WF:=fun ws S Q=>match ws with
 | [.tup us]=>Q (.int us.length) S
 | [.ref a]=>zbp S a fun us=>Q (.int us.length) S
 | [.scr ns]=>Q (.int ns.length) S
 | [.str z]=>z.length≤sizeLine∧Q (.int z.length) S
 |_=>False
theorem zkp{K:PySem.W.Frag}:zjp K (fun xs H Q=>(∃p ys,xs=[.ref p]∧(SqL K H p ys∨SqT K H p ys)∧Q (.int ys.length) H)∨ ∃z,xs=[.str z]∧z.length≤sizeLine∧Q (.int z.length) H) zis:=fun H vs ws S Q QW r hS h hQ=>by
 cases r with
 |nil=>exact h.elim
 |cons r1 r2=>
  cases r2 with
  |cons _ _=>cases r1<;>exact h.elim
  |nil=>
   cases r1 with
   |tup f hs=>exact .inl ⟨_,_,rfl, .inr (.of f),by rw [←hs.length];exact hQ _ S _ H .refl (.int _) hS h⟩
   |ref a=>
    obtain⟨us,e,h⟩:=zaN h;obtain⟨vs,f,hs⟩:=hS a _ e;exact .inl ⟨_,_,rfl, .inl (.of f),by rw [←hs.length];exact hQ _ S _ H .refl (.int _) hS h⟩
   |scr f=>exact .inl ⟨_,_,rfl, .inl f.sq,by rw [List.length_map];exact hQ _ S _ H .refl (.int _) hS h⟩
   |str z=>exact .inr ⟨z,rfl,h.1,hQ _ S _ H .refl (.int _) hS h.2⟩
   |_=>exact h.elim
theorem zeH (hg:Gl X "len") (hm:X.mg "len" =none) (ha:JA X (e::es) t) 
  (he:starEach (e::es) X.env=(false,eval e X.env)::starEach es X.env:=by rfl) (hpl:(backTo pos (starEach es X.env)).any (·.1)=false:=by rfl):JE X (.Call (.Name "len" p) (e::es) [] pos) (wB zis t):=
 zqe (call_len_seq.or zgg) zkp hg hm PySem.boot_len ha (by decide) (by decide) he hpl
noncomputable def zea:WF:=fun ws S Q=>match ws with
 | [.tup us]=>Q (.tup us) S
 | [.ref a]=>zbp S a fun us=>Q (.tup us) S
 |_=>False
theorem zgX{K:PySem.W.Frag}:zjp K (fun xs H Q=>∃p ys,xs=[.ref p]∧((SqL K H p ys∧ ∀l,H l=none→Q (.ref l) (upd H l (.tup ys)))∨(SqT K H p ys∧Q (.ref p) H))) zea:=fun H vs ws S Q QW r hS h hQ=>by
 cases r with
 |nil=>exact h.elim
 |cons r1 r2=>
  cases r2 with
  |cons _ _=>cases r1<;>exact h.elim
  |nil=>
   cases r1 with
   |tup f hs=>exact⟨_,_,rfl, .inr ⟨.of f,hQ _ S _ H .refl (.tup f hs) hS h⟩⟩
   |ref a=>
    obtain⟨us,e,h⟩:=zaN h;obtain⟨vs,f,hs⟩:=hS a _ e;exact⟨_,_,rfl, .inl ⟨.of f,fun l hl=>hQ _ S _ _ (.new hl) (.tup zaq (hs.ext (.new (S:=S) hl))) (hS.new hl) h⟩⟩
   |_=>exact h.elim
noncomputable def zfl:WF:=fun ws S Q=>Q (.tup ws) S
theorem zgN{K:PySem.W.Frag}:zpl K (fun xs H Q=>∃p ys,xs=[.ref p]∧((SqL K H p ys∧ ∀l,H l=none→Q (.ref l) (upd H l (.tup ys)))∨(SqT K H p ys∧Q (.ref p) H))) zfl:=fun H a vs ws S Q QW ea na r hS h hQ=>
 ⟨a,vs,rfl, .inl ⟨.of ea,fun l hl=>hQ _ S _ _ (.new hl) (.tup zaq (r.ext (.new (S:=S) hl))) (hS.new hl) h⟩⟩
noncomputable def zha (t:WE):WL:=fun E σ S Q=>t E σ S fun w S1=>match w with
 | .tup ws=>Q ws S1
 | .ref a=>zbp S1 a fun ws=>Q ws S1
 | .scr ns=>Q (ns.map W.int) S1
 |_=>False
theorem zmZ{te:WE}(hg:Gl X "list") (hm:X.mg "list" =none) (ha:JE X e te)
  (he:starEach [e] X.env=(false,eval e X.env)::starEach [] X.env:=by rfl) (hpl:(backTo pos (starEach [] X.env)).any (·.1)=false:=by rfl):JL X (.Call (.Name "list" p) [e] [] pos) (zha te):=fun E hE=>
 (zef zfY hg hm PyProof.Rows.boot_list (zbs (ha E hE) pa_nil he) (by decide) (by decide) he hpl).mono fun σ H Q ⟨σW,S,QW,hσ,hS,ht,hQ⟩=>⟨σW,S,_,hσ,hS,ht,fun w S1 v H1 e1 r1 hS1 h1=>by
  cases r1 with
  |tup f hs=>exact⟨_,_,rfl, .inr (.of f),fun l hl=>hQ _ S1 _ l _ (e1.trans (.new hl)) (e1.free hl) zaq (hS1.free hl) (hs.ext (.new (S:=S1) hl)) (hS1.new hl) h1⟩
  |ref a=>
   obtain⟨ws,ea,h⟩:=zaN h1;obtain⟨vs,f,hs⟩:=hS1 a _ ea;exact⟨_,_,rfl, .inl (.of f),fun l hl=>hQ _ S1 _ l _ (e1.trans (.new hl)) (e1.free hl) zaq (hS1.free hl) (hs.ext (.new (S:=S1) hl)) (hS1.new hl) h⟩
  |scr f=>exact⟨_,_,rfl, .inl f.sq,fun l hl=>hQ _ S1 _ l _ (e1.trans (.new hl)) (e1.free hl) zaq (hS1.free hl) (Reps.ofInts _) (hS1.new hl) h1⟩
  |_=>exact h1.elim⟩
noncomputable def tyW:W→Sto→(String→Prop)→Prop
 | .non,_,Q=>Q "NoneType"
 | .bl _,_,Q=>Q "bool"
 | .int _,_,Q=>Q "int"
 | .str _,_,Q=>Q "str"
 | .tup _,_,Q=>Q "tuple"
 | .ref a,S,Q=>zbp S a fun _=>Q "list"
 | .scr _,_,_=>False
noncomputable def zbc (A B:String):Bool:=A == B || (A == "bool" &&B == "int")
noncomputable def zpb (T:String) (t:WE):WE:=fun E σ S Q=>t E σ S fun w S1=>tyW w S1 fun A=>Q (.bl (zbc A T)) S1
theorem zjo{a:Expr}{ta:WE}{p2:Pos}{T:Str}{T':String}(hg:Gl X "isinstance") (hm:X.mg "isinstance" =none) (hgT:Gl X T) (hmT:X.mg T=none) (hv:bootBuiltins T=some (.type T')) (ha:JE X a ta) (hn:T≠ "__name__") (hd:(T == ("__debug__" :Str))=false)
  (hk:∀A∈ ["NoneType", "bool", "int", "str", "tuple", "list"],PySem.W.kitOne X.K (.type A) (.type T')=some (zbc A T'))
  (he:starEach [a, .Name T p2] X.env=(false,eval a X.env)::starEach [.Name T p2] X.env:=by rfl) (he2:starEach [.Name T p2] X.env=(false,eval (.Name T p2) X.env)::starEach [] X.env:=by rfl) (hpl:(backTo pos (starEach [.Name T p2] X.env)).any (·.1)=false:=by rfl) :
  JE X (.Call (.Name "isinstance" p) [a, .Name T p2] [] pos) (zpb T' ta):=fun E hE=>
 (zdW zlr hg hm PyProof.Rows.boot_isinstance (zbs (ha E hE) (zbs (zjY (v:= .ty T') hgT hmT hv rfl hn hd) pa_nil he2) he) (by decide) (by decide) he hpl).mono fun σ H Q ⟨σW,S,QW,hσ,hS,ht,hQ⟩=>⟨σW,S,_,hσ,hS,ht,fun w S1 v H1 e1 r1 hS1 h1=>by
  have fin:∀{t:Value}(A:String),t= .type A→A∈ ["NoneType", "bool", "int", "str", "tuple", "list"]→TyOf X.K H1 v t→QW (.bl (zbc A T')) S1→ ∃x t c b,[v,V.ty T']=[x, .ty c]∧TyOf X.K H1 x t∧PySem.W.kitOne X.K t (.type c)=some b∧Q (.bl b) H1:=fun A e hA ty q=>by
   subst e;exact⟨v,_,T',_,rfl,ty,hk A hA,hQ _ S1 _ H1 e1 (.bl _) hS1 q⟩
  cases r1 with
  |non=>exact fin _ rfl (by simp) .non h1
  |bl b=>exact fin _ rfl (by simp) (.bl b) h1
  |int i=>exact fin _ rfl (by simp) (.int i) h1
  |str z=>exact fin _ rfl (by simp) (.str z) h1
  |tup f hs=>exact fin _ rfl (by simp) (.tup f) h1
  |ref a=>
   obtain⟨ws,ea,h⟩:=zaN h1;obtain⟨vs,f,hs⟩:=hS1 a _ ea;exact fin _ rfl (by simp) (.lst f) h
  |scr f=>exact h1.elim⟩
end
noncomputable abbrev WMf:=W→List W→Sto→WK→Prop
noncomputable def rvL:W→Sto→Prop
 | .ref a,S=>zbp S a fun _=>True
 |_,_=>False
noncomputable def rvS:W→Sto→Prop
 | .str _,_=>True
 |_,_=>False
noncomputable def wM (rv:W→Sto→Prop) (f:WMf) (to:WE) (t:WA):WE:=fun E σ S Q=>to E σ S fun w S1=>rv w S1∧t E σ S1 fun ws S2=>f w ws S2 Q
noncomputable def wML (rv:W→Sto→Prop) (f:WMf) (to:WE) (t:WL):WE:=fun E σ S Q=>to E σ S fun w S1=>rv w S1∧t E σ S1 fun ws S2=>f w ws S2 Q
noncomputable def MtW (K:PySem.W.Frag) (r:V→List V→Hp→VK→Prop) (f:WMf):Prop:=∀H x w vs ws S (Q:VK) (QW:WK),Rep K H w x→Reps K H ws vs→RepS K H S→f w ws S QW→Wish K H S QW Q→r x vs H Q
noncomputable def MtL (K:PySem.W.Frag) (r:V→List V→Hp→VK→Prop) (f:WMf):Prop:=∀H x w a vs ws S (Q:VK) (QW:WK),Rep K H w x→H a=some (.lst vs)→S a=none→Reps K H ws vs→RepS K H S→f w ws S QW→Wish K H S QW Q→r x [.ref a] H Q
noncomputable def zqa (K:PySem.W.Frag) (T:String) (rv:W→Sto→Prop):Prop:=∀H w v S,Rep K H w v→RepS K H S→rv w S→tyV K T v H
theorem zml{K:PySem.W.Frag}:zqa K "list" rvL:=fun H w v S r hS h=>by
 cases r with
 |ref a=>
  obtain⟨ws,e,_⟩:=zaN h;obtain⟨vs,f,_⟩:=hS a _ e;exact .inl ⟨rfl,vs, .of f⟩
 |_=>exact h.elim
theorem zmt{K:PySem.W.Frag}:zqa K "str" rvS:=fun H w v S r hS h=>by
 cases r with
 |str x=>exact rfl
 |_=>exact h.elim
section
variable {X:Cx}{o e:Expr}{es:List Expr}{to:WE}{t:WA}{tl:WL}{name:Str}{apos cpos:Pos}{id T:String}{r:V→List V→Hp→VK→Prop}{f:WMf}{rv:W→Sto→Prop}
theorem zsQ (pa:PlainAttrs T) (slot:Slot T name id) (hty:typeOf (.builtin id)=pure (.type "method_descriptor")) (hrv:zqa X.K T rv) (hm:MtR X id r) (hw:MtW X.K r f) (ho:JE X o to) (ha:JA X (e::es) t)
  (hbase:attributeBase o name X.env (eval o X.env)=eval o X.env:=by rfl)
  (hfew:((backTo cpos (starEach (e::es) X.env)).all (fun x=> !x.1)&&(backToKw cpos (keywordEach [] X.env)).all (fun x=>x.1.isSome)
   &&decide ((e::es).length+([]:List Keyword).length+(if([]:List Keyword).isEmpty then 0 else 1)<30))=true:=by rfl)
  (hline:(apos.endLine == cpos.line)=true:=by rfl) (hs:starEach (e::es) X.env=(false,eval e X.env)::starEach es X.env:=by rfl) (hplain:(backTo cpos (starEach es X.env)).any (·.1)=false:=by rfl) :
  JE X (.Call (.Attribute o name apos) (e::es) [] cpos) (wM rv f to t):=fun E hE=>
 (zoH pa slot hty hm (ho E hE) (ha E hE) hbase hfew hline hs hplain).mono fun σ H Q ⟨σW,S,QW,hσ,hS,ht,hQ⟩=>⟨σW,S,_,hσ,hS,ht,fun w S1 v H1 e1 r1 hS1 h1=>
  ⟨hrv H1 w v S1 r1 hS1 h1.1,σW,S1,_,hσ.ext e1,hS1,h1.2,fun ws S2 vs H2 e2 r2 hS2 h2=>hw H2 v w vs ws S2 Q QW (r1.ext e2) r2 hS2 h2 (hQ.from (e1.trans e2))⟩⟩
theorem zsv (pa:PlainAttrs T) (slot:Slot T name id) (hty:typeOf (.builtin id)=pure (.type "method_descriptor")) (hrv:zqa X.K T rv) (hm:MtR X id r) (hw:MtL X.K r f) (ho:JE X o to) (ha:JL X e tl)
  (hbase:attributeBase o name X.env (eval o X.env)=eval o X.env:=by rfl)
  (hfew:((backTo cpos (starEach [e] X.env)).all (fun x=> !x.1)&&(backToKw cpos (keywordEach [] X.env)).all (fun x=>x.1.isSome)
   &&decide ([e].length+([]:List Keyword).length+(if([]:List Keyword).isEmpty then 0 else 1)<30))=true:=by rfl)
  (hline:(apos.endLine == cpos.line)=true:=by rfl) (hs:starEach [e] X.env=(false,eval e X.env)::starEach [] X.env:=by rfl) (hplain:(backTo cpos (starEach [] X.env)).any (·.1)=false:=by rfl) :
  JE X (.Call (.Attribute o name apos) [e] [] cpos) (wML rv f to tl):=fun E hE=>
 (zoH pa slot hty hm (ho E hE) (zbs (ha E hE) pa_nil hs) hbase hfew hline hs hplain).mono fun σ H Q ⟨σW,S,QW,hσ,hS,ht,hQ⟩=>⟨σW,S,_,hσ,hS,ht,fun w S1 v H1 e1 r1 hS1 h1=>
  ⟨hrv H1 w v S1 r1 hS1 h1.1,σW,S1,_,hσ.ext e1,hS1,h1.2,fun ws S2 vs a H2 e2 fa ea na r2 hS2 h2=>hw H2 v w a vs ws S2 Q QW (r1.ext e2) ea na r2 hS2 h2 (hQ.from (e1.trans e2))⟩⟩
theorem zrC (pa:PlainAttrs T) (slot:Slot T name id) (hty:typeOf (.builtin id)=pure (.type "method_descriptor")) (hrv:zqa X.K T rv) (hm:MtR X id r) (hw:MtW X.K r f) (ho:JE X o to)
  (hbase:attributeBase o name X.env (eval o X.env)=eval o X.env:=by rfl) (hline:(apos.endLine == cpos.line)=true:=by rfl):JE X (.Call (.Attribute o name apos) [] [] cpos) (wM rv f to waNil):=fun E hE=>
 (zpt pa slot hty hm (ho E hE) hbase hline).mono fun σ H Q ⟨σW,S,QW,hσ,hS,ht,hQ⟩=>⟨σW,S,_,hσ,hS,ht,fun w S1 v H1 e1 r1 hS1 h1=>
  ⟨hrv H1 w v S1 r1 hS1 h1.1,hw H1 v w [] [] S1 Q QW r1 .nil hS1 h1.2 (hQ.from e1)⟩⟩
noncomputable def zbY:WMf:=fun w ws S Q=>match w with
 | .ref a=>zbp S a fun xs=>match ws with
  | [y]=>xs.length<sizeLine∧Q .non (put S a (.lst (xs++[y])))
  |_=>False
 |_=>False
theorem zhW{K:PySem.W.Frag}:MtW K ziu zbY:=fun H x w vs ws S Q QW r rs hS h hQ=>by
 cases r with
 |ref a=>
  obtain⟨xs,ea,h⟩:=zaN h;obtain⟨us,f,hs⟩:=hS a _ ea;cases rs with
  |nil=>exact h.elim
  |cons r1 r2=>
   cases r2 with
   |cons _ _=>exact h.elim
   |nil=>
    obtain⟨e,hS'⟩:=hS.set_lst ea (hs.append (.one r1));exact⟨a,us,_,rfl,rfl,f,by rw [←hs.length];exact h.1,hQ _ _ _ _ e .non hS' h.2⟩
 |_=>exact h.elim
theorem zbT (ho:JE X o to) (ha:JA X (e::es) t)
  (hbase:attributeBase o "append" X.env (eval o X.env)=eval o X.env:=by rfl)
  (hfew:((backTo cpos (starEach (e::es) X.env)).all (fun x=> !x.1)&&(backToKw cpos (keywordEach [] X.env)).all (fun x=>x.1.isSome)
   &&decide ((e::es).length+([]:List Keyword).length+(if([]:List Keyword).isEmpty then 0 else 1)<30))=true:=by rfl)
  (hline:(apos.endLine == cpos.line)=true:=by rfl) (hs:starEach (e::es) X.env=(false,eval e X.env)::starEach es X.env:=by rfl) (hplain:(backTo cpos (starEach es X.env)).any (·.1)=false:=by rfl) :
  JE X (.Call (.Attribute o "append" apos) (e::es) [] cpos) (wM rvL zbY to t):=zsQ PySem.F.plainAttrs_list PySem.F.slot_list_append PySem.F.type_list_append zml zgo zhW ho ha hbase hfew hline hs hplain
noncomputable def ztL:WMf:=fun w ws S Q=>match w with
 | .ref a=>zbp S a fun xs=>match ws with
  | []=>match xs[xs.length - 1]? with
   |some y=>Q y (put S a (.lst xs.dropLast))
   |none=>False
  |_=>False
 |_=>False
noncomputable def zev:WMf:=fun w ws S Q=>match w with
 | .ref a=>zbp S a fun xs=>match ws with
  | [.tup ys]=>xs.length+ys.length≤sizeLine∧Q .non (put S a (.lst (xs++ys)))
  | [.ref b]=>zbp S b fun ys=>xs.length+ys.length≤sizeLine∧Q .non (put S a (.lst (xs++ys)))
  |_=>False
 |_=>False
theorem zig{K:PySem.W.Frag}:MtW K (fun x vs H Q=>ziT x vs H Q∨zhP K x vs H Q) zev:=fun H x w vs ws S Q QW r rs hS h hQ=>by
 cases r with
 |ref a=>
  obtain⟨xs,ea,h⟩:=zaN h;obtain⟨us,f,hs⟩:=hS a _ ea;cases rs with
  |nil=>exact h.elim
  |cons r1 r2=>
   cases r2 with
   |cons _ _=>cases r1<;>exact h.elim
   |nil=>
    cases r1 with
    |tup g ks=>
     obtain⟨e,hS'⟩:=hS.set_lst ea (hs.append ks);exact .inr ⟨a,_,us,_,rfl,rfl,f, .of g,by rw [←hs.length,←ks.length];exact h.1,hQ _ _ _ _ e .non hS' h.2⟩
    |ref b=>
     obtain⟨ys,eb,h⟩:=zaN h;obtain⟨zs,g,ks⟩:=hS b _ eb;obtain⟨e,hS'⟩:=hS.set_lst ea (hs.append ks);exact .inl ⟨a,b,us,zs,rfl,rfl,f,g,by rw [←hs.length,←ks.length];exact h.1,hQ _ _ _ _ e .non hS' h.2⟩
    |_=>exact h.elim
 |_=>exact h.elim
theorem ziM (ho:JE X o to) (ha:JA X (e::es) t)
  (hbase:attributeBase o "extend" X.env (eval o X.env)=eval o X.env:=by rfl)
  (hfew:((backTo cpos (starEach (e::es) X.env)).all (fun x=> !x.1)&&(backToKw cpos (keywordEach [] X.env)).all (fun x=>x.1.isSome)
   &&decide ((e::es).length+([]:List Keyword).length+(if([]:List Keyword).isEmpty then 0 else 1)<30))=true:=by rfl)
  (hline:(apos.endLine == cpos.line)=true:=by rfl) (hs:starEach (e::es) X.env=(false,eval e X.env)::starEach es X.env:=by rfl) (hplain:(backTo cpos (starEach es X.env)).any (·.1)=false:=by rfl) :
  JE X (.Call (.Attribute o "extend" apos) (e::es) [] cpos) (wM rvL zev to t):=zsQ PySem.F.plainAttrs_list PySem.F.slot_list_extend PySem.F.type_list_extend zml (MtR.or zkd zir) zig ho ha hbase hfew hline hs hplain
noncomputable def zlu:WMf:=fun w ws S Q=>match w with
 | .ref a=>zbp S a fun xs=>xs.length+ws.length≤sizeLine∧Q .non (put S a (.lst (xs++ws)))
 |_=>False
noncomputable def zdD:List W→Option (List Str)
 | []=>some []
 | .str b::ws=>(zdD ws).map (b:: ·)
 |_=>none
theorem zhw{K:PySem.W.Frag}{H:Hp}:∀{ws:List W}{vs:List V}{bs:List Str},Reps K H ws vs→zdD ws=some bs→vs=bs.map V.str
 | [],_,_, .nil,e=>by have:=Option.some.inj e;subst this;rfl
 |w::ws,_,_, .cons r rs,e=>by
  cases r with
  |str b=>
   have e':(zdD ws).map (b:: ·)=some _:=e;cases q:zdD ws with
   |none=>rw [q]at e';cases e'
   |some cs=>
    rw [q]at e';have:=Option.some.inj e';subst this;rw [List.map_cons,zhw rs q]
  |_=>cases e
noncomputable def zfZ:WMf:=fun w ws S Q=>match w with
 | .str z=>match zdD ws with
  |some ys=>(ys.map (·.length)).sum+ys.length*z.length≤16777216∧Q (.str (Str.join z ys)) S
  |none=>False
 |_=>False
theorem zlk{K:PySem.W.Frag}:MtL K (zqc K) zfZ:=fun H x w a vs ws S Q QW r ea na rs hS h hQ=>by
 cases r with
 |str z=>
  unfold zfZ at h;dsimp only at h;split at h
  ·rename_i ys e;have:=zhw rs e;subst this;exact⟨z,a,ys,rfl,rfl, .of ea,h.1,hQ _ S _ H .refl (.str _) hS h.2⟩
  ·exact h.elim
 |_=>exact h.elim
theorem zlA (ho:JE X o to) (ha:JL X e tl)
  (hbase:attributeBase o "join" X.env (eval o X.env)=eval o X.env:=by rfl)
  (hfew:((backTo cpos (starEach [e] X.env)).all (fun x=> !x.1)&&(backToKw cpos (keywordEach [] X.env)).all (fun x=>x.1.isSome)
   &&decide ([e].length+([]:List Keyword).length+(if([]:List Keyword).isEmpty then 0 else 1)<30))=true:=by rfl)
  (hline:(apos.endLine == cpos.line)=true:=by rfl) (hs:starEach [e] X.env=(false,eval e X.env)::starEach [] X.env:=by rfl) (hplain:(backTo cpos (starEach [] X.env)).any (·.1)=false:=by rfl) :
  JE X (.Call (.Attribute o "join" apos) [e] [] cpos) (wML rvS zfZ to tl):=zsv PySem.F.plainAttrs_str PySem.F.slot_str_join PySem.F.type_str_join zmt znv zlk ho ha hbase hfew hline hs hplain
noncomputable def zpQ:WMf:=fun w ws S Q=>match w with
 | .str z=>match ws with
  | [.str y]=>match Builtin.Str.occurrences z y 0 z.length 1 with
   |i::_=>Q (.int i) S
   | []=>False
  |_=>False
 |_=>False
end
noncomputable def zoC (i:Nat) (g:Int→Int→Int) (e:WE):WS:=fun E D σ S=>match σ[i]? with
 |some (some (.int a))=>e E σ S fun w S1=>match w with
  | .int b=>D.nx (σ.set i (some (.int (g a b)))) S1
  |_=>False
 |_=>False
section
variable {X:Cx}{e:Expr}{te:WE}{pos pos':Pos}
theorem zmA{i:Nat}{x:Str}(hN:X.N.Nodup) (hi:X.N[i]? =some x) (hx:Loc X.env.scope x) (he:JE X e te) (hf:X.fn x=true∨X.env.scope.names.lookup x=some .local:=by first |exact .inl rfl |exact .inr rfl |assumption) :
  JS X (.AugAssign (.Name x pos') .Add e pos) (zoC i (fun a b=>a+b) te):=fun E hE=>
 (zpP hN hi hx (he E hE) zqw hf).mono fun D σ H ⟨σW,S,DW,hσ,hS,ht,hD⟩=>by
  unfold zoC at ht;split at ht
  ·rename_i a ea;obtain⟨v,ev,rv⟩:=hσ.get ea;cases rv;refine⟨_,ev,σW,S,_,hσ,hS,ht,fun w S1 v H1 e1 r1 hS1 h1=>?_⟩;cases r1 with
   |int b=>exact⟨a,b,rfl,rfl,hD.nx _ S1 _ H1 e1 ((hσ.ext e1).set (.int _) i) hS1 h1⟩
   |_=>exact h1.elim
  ·exact ht.elim
end
noncomputable def zmh (c:WT) (b:WS):WS:=fun E D σ S=>∃I:Nat→WSt→Sto→Prop,(∃m,I m σ S)∧ ∀m σ S,I m σ S→c E σ S fun k S1=>if k=true then
 b E { D with nx:=fun σ' S'=>∃m' S'',m'<m∧Sub S'' S'∧I m' σ' S'',ct:=fun σ' S'=>∃m' S'',m'<m∧Sub S'' S'∧I m' σ' S'',bk:=D.nx } σ S1 else D.nx σ S1
section
variable {X:Cx}{c:Expr}{body:List Stmt}{tc:WT}{tb:WS}{pos:Pos}
theorem zkZ (hc:JT X c tc) (hb:JSs X body tb):JS X (.While c body [] pos) (zmh tc tb):=fun E hE=>
 (zkT hE.own (hc E hE) (hb E hE)).mono fun D σ H ⟨σW,S,DW,hσ,hS,⟨J,⟨n,ht⟩,step⟩,hD⟩=>by
  refine⟨fun m σ1 H1=>∃σW1 S1,Ext H S H1 S1∧RpSt X.K H1 σW1 σ1∧RepS X.K H1 S1∧J m σW1 S1,⟨n,σW,S, .refl,hσ,hS,ht⟩,?_⟩;rintro m σ1 H1 ⟨σW1,S1,e1,hσ1,hS1,h1⟩;refine⟨σW1,S1,_,hσ1,hS1,step m σW1 S1 h1,fun k S2 H2 e2 hS2 h2=>?_⟩;cases k with
  |false=>exact hD.nx σW1 S2 σ1 H2 (e1.trans e2) (hσ1.ext e2) hS2 h2
  |true=>
   rw [if_pos rfl]at h2⊢;refine⟨fun σ' H'=>∃m',m'<m∧ ∃σW1 S1,Ext H S H' S1∧RpSt X.K H' σW1 σ'∧RepS X.K H' S1∧J m' σW1 S1,fun σ' H' n'=>n',σW1,S2,_,hσ1.ext e2,hS2,h2,?_⟩;have e12:=e1.trans e2;have go:Goes X.K H2 S2 (fun σ' S'=>∃m' S'',m'<m∧Sub S'' S'∧J m' σ' S'') (fun σ' H'=>∃m',m'<m∧ ∃σW1 S1,Ext H S H' S1∧RpSt X.K H' σW1 σ'∧RepS X.K H' S1∧J m' σW1 S1):=fun σW3 S3 σ3 H3 e3 hσ3 hS3 ⟨m',S4,hm,sb,q⟩=>
    ⟨m',hm,σW3,S4,(e12.trans e3).trans (.drop sb),hσ3,hS3.sub sb,q⟩
   exact⟨go,hD.rt.from e12,hD.nx.from e12,go⟩
end
noncomputable def zcN (g:WG) (b:WS) (E:WX) (D:WEnds) (G:Sto→Prop):List W→WSt→Sto→Prop
 | [],σ,S=>D.nx σ S
 |w::ws,σ,S=>g w σ S fun σ1 S1=>b E { D with nx:=fun σ' S'=>∃S'',Sub S'' S'∧G S''∧zcN g b E D G ws σ' S'',ct:=fun σ' S'=>∃S'',Sub S'' S'∧G S''∧zcN g b E D G ws σ' S'',bk:=D.nx } σ1 S1
noncomputable def zit (q:WI) (g:WG) (b:WS):WS:=fun E D σ S=>q E σ S fun ws G S1=>zcN g b E D G ws σ S1
section
variable {X:Cx}{tg iter:Expr}{body:List Stmt}{q:WI}{g:WG}{tb:WS}{pos:Pos}
theorem zcE (hi:JI X tg iter q) (hg:JG X tg g) (hb:JSs X body tb) (hcl:X.calm=true:=by rfl)
  (hs:∀x,foldedSetIterable iter X.env x=pure x:=by intro _;rfl):JS X (.For tg iter body [] pos) (zit q g tb):=fun E hE=>
 (zqf hE.own hcl (hi E hE) (hg E hE) (hb E hE) hs).mono fun D σ H ⟨σW,S,DW,hσ,hS,ht,hD⟩=>by
  refine⟨σW,S,_,hσ,hS,ht,fun ws G S1 J H1 e1 hS1 hG1 hJ h1=>?_⟩;refine⟨fun i m σ2 H2=>∃σW2 S2,Ext H1 S1 H2 S2∧RpSt X.K H2 σW2 σ2∧RepS X.K H2 S2∧G S2∧m=ws.length - i∧i≤ws.length∧zcN g tb E DW G (ws.drop i) σW2 S2,
   ⟨ws.length,σW,S1, .refl,hσ.ext e1,hS1,hG1,rfl,Nat.zero_le _,h1⟩,?_⟩
  rintro i m σ2 H2 ⟨σW2,S2,e2,hσ2,hS2,hG2,rfl,hi2,h2⟩;obtain⟨ji,js⟩:=hJ i S2 H2 e2 hS2 hG2;by_cases hlt:i<ws.length
  ·obtain⟨jgo,jy⟩:=ji ws[i] (List.getElem?_eq_getElem hlt);refine .inr ⟨jgo,fun σ' H'=>∃σW2 S2,Ext H1 S1 H' S2∧RpSt X.K H' σW2 σ'∧RepS X.K H' S2∧G S2∧ws.length - (i+1)=ws.length - (i+1)∧i+1≤ws.length∧zcN g tb E DW G (ws.drop (i+1)) σW2 S2,fun σ' H' z=>⟨_,by omega,z⟩,fun x H3 y3=>?_⟩
   obtain⟨e3,hS3,r3⟩:=jy x H3 y3;rw [List.drop_eq_getElem_cons hlt]at h2;refine⟨_,σW2,S2,_,r3,hσ2.ext e3,hS3,h2,fun σW4 S4 σ4 H4 e4 hσ4 hS4 h4=>?_⟩;have e14:Ext H1 S1 H4 S4:=(e2.trans e3).trans e4;refine⟨σW4,S4,_,hσ4,hS4,h4,?_⟩;have go:Goes X.K H4 S4 (fun σ' S'=>∃S'',Sub S'' S'∧G S''∧zcN g tb E DW G (ws.drop (i+1)) σ' S'') (fun σ' H'=>∃σW2 S2,Ext H1 S1 H' S2∧RpSt X.K H' σW2 σ'∧RepS X.K H' S2∧G S2∧ws.length - (i+1)=ws.length - (i+1)∧i+1≤ws.length∧zcN g tb E DW G (ws.drop (i+1)) σW2 S2):=
    fun σW5 S5 σ5 H5 e5 hσ5 hS5 ⟨S6,sb,hG6,q⟩=>⟨σW5,S6,(e14.trans e5).trans (.drop sb),hσ5,hS5.sub sb,hG6,rfl,hlt,q⟩
   exact⟨go,hD.rt.from (e1.trans e14),hD.nx.from (e1.trans e14),go⟩
  ·have hl:i=ws.length:=by omega
   rw [List.drop_of_length_le (Nat.le_of_eq hl.symm)]at h2;exact .inl ⟨js hl,hD.nx σW2 S2 σ2 H2 (e1.trans e2) hσ2 hS2 h2⟩
end
section
variable {X:Cx}{tg:Expr}
noncomputable def ztu (K:PySem.W.Frag) (tl:TE):TI:=fun σ H R=>tl σ H fun x H1=>(∃a,x= .ref a∧(∃xs,SqL K H1 a xs)∧R (Itl K a) H1)∨(∃a,x= .ref a∧(∃xs,SqT K H1 a xs)∧R (Itt K a) H1)∨ ∃z,x= .str z∧R (Its z) H1
theorem zpz{l:Expr}{tl:TE}(hl:PE X l tl):PI X tg l (ztu X.K tl):=by
 intro pins s σ H R I h;refine thn (hl pins s σ H _ I h) fun v s1 ⟨x,H1,I1,r1,q1⟩=>?_;have fp:∀b∈ [s1.heap.objs.size],zfu X pins H1 b:=fun b hb=>by
  have e:b=s1.heap.objs.size:=by simpa using hb
  subst e;exact I1.fpOk (Nat.le_refl _) (I1.hok.fresh (Nat.le_refl _))
 rcases q1 with⟨a,e,⟨xs,hq⟩,q⟩ |⟨a,e,⟨xs,hq⟩,q⟩ |⟨z,e,q⟩
 ·subst e;cases r1;obtain⟨its,rv,p,hz⟩:=I1.list hq;refine wpAny_pyIter_list p.isList ?_;exact⟨s1.heap.objs.size,[s1.heap.objs.size],_,_,H1,rfl,I1.kept (t':=s1.toks) fun b o e=>Heap.get?_push_of_some _ e,zjx a _,⟨_,Heap.get?_push_size _ rfl,rfl,rfl⟩,fp,q⟩
 ·subst e;cases r1;obtain⟨its,rv,p,hz⟩:=I1.tuple hq;refine wpAny_pyIter_tuple (show s1.heap.IsTuple a its.toArray from p) ?_;exact⟨s1.heap.objs.size,[s1.heap.objs.size],_,_,H1,rfl,I1.kept (t':=s1.toks) fun b o e=>Heap.get?_push_of_some _ e,zhY a _,⟨_,Heap.get?_push_size _ rfl,rfl,rfl⟩,fp,q⟩
 ·subst e;obtain⟨t,rfl⟩:=r1;cases ha:z.cps.all (· <128)
  ·refine wpAny_pyIter_wide ha ?_;exact⟨s1.heap.objs.size,[s1.heap.objs.size],_,_,H1,rfl,I1.kept (t':=s1.toks) fun b o e=>Heap.get?_push_of_some _ e,
    zhG _ z t "str_iterator" (by decide) (fun A' hA=>Walks.strWide hA _ z t) (fun _ _ _ _ _ st h=>wpAny_pyIter_striter_wide st h),⟨_,Heap.get?_push_size _ rfl,rfl,rfl⟩,fp,q⟩
  ·refine wpAny_pyIter_ascii ha ?_;exact⟨s1.heap.objs.size,[s1.heap.objs.size],_,_,H1,rfl,I1.kept (t':=s1.toks) fun b o e=>Heap.get?_push_of_some _ e,
    zhG _ z t "str_ascii_iterator" (by decide) (fun A' hA=>Walks.strAscii hA _ z t) (fun _ _ _ _ _ st h=>wpAny_pyIter_striter_ascii st h),⟨_,Heap.get?_push_size _ rfl,rfl,rfl⟩,fp,q⟩
noncomputable def zgO (z:Str):List W:=z.cps.toList.map fun c=> .str ⟨#[c]⟩
noncomputable def wIv (t:WE):WI:=fun E σ S Q=>t E σ S fun w S1=>match w with
 | .tup ws=>Q ws (fun _=>True) S1
 | .ref a=>zbp S1 a fun ws=>Q ws (fun S'=>S' a=some (.lst ws)) S1
 | .scr ns=>Q (ns.map W.int) (fun _=>True) S1
 | .str z=>Q (zgO z) (fun _=>True) S1
 |_=>False
theorem ziQ{K:PySem.W.Frag}{a:Addr}{ws:List W}{G:Sto→Prop}{H0:Hp}{S0:Sto}(h:∀S H,Ext H0 S0 H S→RepS K H S→G S→ ∃vs,SqL K H a vs∧Reps K H ws vs):ItW K (Itl K a) ws G H0 S0:=fun i S H e hS hG=>by
 obtain⟨vs,hq,r⟩:=h S H e hS hG;refine⟨fun w ew=>?_,fun hl=>⟨vs,hq,by rw [←r.length,hl];exact Nat.le_refl _⟩⟩
 obtain⟨v,ev,rv⟩:=r.get ew;refine⟨⟨vs,v,hq,ev⟩,fun x H' ⟨e1,e2⟩=>?_⟩;subst e1;have e3:=e2 vs hq;rw [ev]at e3;cases e3;exact⟨.refl,hS,rv⟩
theorem zpn{K:PySem.W.Frag}{a:Addr}{ws:List W}{vs:List V}{H0:Hp}{S0:Sto}(f:H0 a=some (.tup vs)) (r:Reps K H0 ws vs):ItW K (Itt K a) ws (fun _=>True) H0 S0:=fun i S H e hS hG=>by
 have f':=e.tup _ _ f;have r':=r.ext e;refine⟨fun w ew=>?_,fun hl=>⟨vs, .of f',by rw [←r'.length,hl];exact Nat.le_refl _⟩⟩
 obtain⟨v,ev,rv⟩:=r'.get ew;refine⟨⟨vs,v, .of f',ev⟩,fun x H' ⟨e1,e2⟩=>?_⟩;subst e1;have e3:=e2 vs (.of f');rw [ev]at e3;cases e3;exact⟨.refl,hS,rv⟩
theorem zoU{K:PySem.W.Frag}{z:Str}{H0:Hp}{S0:Sto}:ItW K (Its z) (zgO z) (fun _=>True) H0 S0:=fun i S H e hS hG=>by
 unfold zgO;refine⟨fun w ew=>?_,fun hl=>?_⟩
 ·rw [List.getElem?_map]at ew;cases ec:z.cps.toList[i]? with
  |none=>rw [ec]at ew;cases ew
  |some c=>
   rw [ec]at ew;have ew':=Option.some.inj ew;subst ew';have hi:i<z.cps.size:=by
    have:=(List.getElem?_eq_some_iff.mp ec).1;simpa using this
   refine⟨hi,fun x H' ⟨e1,c',e2,e3⟩=>?_⟩;subst e1 e3;have:c'=c:=by
    have q:z.cps.toList[i]? =some c':=by rw [←e2];simp
    rw [ec]at q;exact(Option.some.inj q).symm
   subst this;exact⟨.refl,hS, .str _⟩
 ·show i=z.cps.size;simpa using hl
theorem zdb{l:Expr}{tl:WE}(hl:JE X l tl):JI X tg l (wIv tl):=fun E hE=>
 (zpz (hl E hE)).mono fun σ H R ⟨σW,S,QW,hσ,hS,ht,hR⟩=>⟨σW,S,_,hσ,hS,ht,fun w S1 v H1 e1 r1 hS1 h1=>by
  cases r1 with
  |tup f hs=>exact .inr (.inl ⟨_,rfl,⟨_, .of f⟩,hR _ _ S1 _ H1 e1 hS1 trivial (zpn f hs) h1⟩)
  |ref a=>
   obtain⟨ws,ea,h⟩:=zaN h1;obtain⟨vs,f,hs⟩:=hS1 a _ ea;refine .inl ⟨_,rfl,⟨_, .of f⟩,hR _ _ S1 _ H1 e1 hS1 ea (ziQ fun S2 H2 e2 hS2 g2=>?_) h⟩;obtain⟨vs2,f2,hs2⟩:=hS2 a _ g2;exact⟨vs2, .of f2,hs2⟩
  |scr f=>exact .inl ⟨_,rfl,⟨_,f.sq⟩,hR _ _ S1 _ H1 e1 hS1 trivial (ziQ fun S2 H2 e2 hS2 g2=>⟨_,(e2.fz f).sq,Reps.ofInts _⟩) h1⟩
  |str z=>exact .inr (.inr ⟨z,rfl,hR _ _ S1 _ H1 e1 hS1 trivial zoU h1⟩)
  |_=>exact h1.elim⟩
noncomputable def zju (lo:Int) (n:Nat):List W:=(List.range n).map fun(i:Nat)=> .int (lo+(i:Int))
theorem zpI{K:PySem.W.Frag}{lo:Int}{n:Nat}{H0:Hp}{S0:Sto}:ItW K (Itr lo n) (zju lo n) (fun _=>True) H0 S0:=fun i S H e hS hG=>by
 unfold zju;refine⟨fun w ew=>?_,fun hl=>by
  have:i=n:=by simpa using hl
  exact Nat.le_of_eq this.symm⟩
 rw [List.getElem?_map]at ew;by_cases hi:i<n
 ·rw [List.getElem?_range hi]at ew;have ew':=Option.some.inj ew;subst ew';refine⟨hi,fun x H' ⟨e1,e2⟩=>?_⟩;subst e1 e2;exact⟨.refl,hS, .int _⟩
 ·rw [List.getElem?_eq_none (by simpa using hi)]at ew;cases ew
noncomputable def zom (t:WA):WI:=fun E σ S Q=>t E σ S fun ws S1=>match ws with
 | [.int j]=>(-(2 ^ 62)≤j∧j<2 ^ 62)∧Q (zju 0 j.toNat) (fun _=>True) S1
 |_=>False
theorem zdM{a:Expr}{ta:WA}{p pos:Pos}(hg:Gl X "range") (hm:X.mg "range" =none) (ha:JA X [a] ta) (hs:starEach [a] X.env=[(false,eval a X.env)]:=by rfl):JI X tg (.Call (.Name "range" p) [a] [] pos) (zom ta):=fun E hE=>
 (ziw hg hm (ha E hE) hs).mono fun σ H R ⟨σW,S,QW,hσ,hS,ht,hR⟩=>⟨σW,S,_,hσ,hS,ht,fun ws S1 vs H1 e1 r1 hS1 h1=>by
  cases r1 with
  |nil=>exact h1.elim
  |cons r2 r3=>
   cases r3 with
   |cons _ _=>cases r2<;>exact h1.elim
   |nil=>
    cases r2 with
    |int j=>exact⟨j,rfl,h1.1.1,h1.1.2,hR _ _ S1 _ H1 e1 hS1 trivial zpI h1.2⟩
    |_=>exact h1.elim⟩
end
noncomputable def zjs:WT:=fun _ _ S Q=>Q true S
noncomputable def JTs (X:Cx) (ifs:List Expr) (t:WT):Prop:=∀E,Hook X E→PTs X ifs (zny X.K (t E))
theorem zdy{X:Cx}:JTs X [] zjs:=fun E hE pins s σ H Q I ⟨σW,S,QW,hσ,hS,ht,hQ⟩=>znO pins s σ H Q I (hQ true S H .refl hS ht)
noncomputable def zeB (g:WG) (c:WT) (e:WE) (E:WX) (G:Sto→Prop) (Q:List W→Sto→Prop):List W→List W→WSt→Sto→Prop
 | [],acc,_,S=>Q acc S
 |w::ws,acc,σ,S=>g w σ S fun σ1 S1=>c E σ1 S1 fun b S2=>if b=true then e E σ1 S2 fun y S3=>acc.length<sizeLine∧ ∃S4,Sub S4 S3∧G S4∧zeB g c e E G Q ws (acc++[y]) σ1 S4
   else ∃S4,Sub S4 S2∧G S4∧zeB g c e E G Q ws acc σ1 S4
noncomputable abbrev noE:WX:=fun _ _ _=>False
theorem zgG{X:Cx}(h:X.xe=fun _ _=>False):Hook X noE:=⟨by rw [h];exact PassesOwn.never,fun _ _ _ _ _ _ _ _ _ _ _ _ _ _ _ _ _ _ _ _ z=>z.elim,fun _ _ _ _ _ _ _ _ _ _ _ _ _ _ _ _ z=>z.elim⟩
theorem PS.nox{X:Cx}{st:Stmt}{t:TS}(h:PS X.nox st t):PS X st t:=fun pins s σ H D I hw=>
 wpAny_mono (h pins s σ H D (I.wish _) hw) (fun _ _ q=>q.unwish) fun _ _ z=>False.elim z
noncomputable def zey (k:Nat) (fr:List Nat) (q:WI) (g:WG) (c:WT) (e:WE):WL:=fun _ σ S Q=>q noE σ S fun ws G S1=>zeB g c e noE G Q ws [] (List.replicate k none++fr.map fun j=>(σ[j]?).join) S1
theorem zhX{K:PySem.W.Frag}{H:Hp}{σW:WSt}{σ:St}{k:Nat}{fr:List Nat}(h:RpSt K H σW σ):RpSt K H (List.replicate k none++fr.map fun j=>(σW[j]?).join) (zhM σ k fr):=by
 have one:∀j:Nat,RpO K H (σW[j]?).join (σ[j]?).join:=fun j=>by
  cases e:σW[j]? with
  |none=>exact trivial
  |some w=>
   cases w with
   |none=>exact trivial
   |some w=>
    obtain⟨v,ev,r⟩:=h.get e;rw [ev];exact r
 have go:∀fr:List Nat,RpSt K H (fr.map fun j=>(σW[j]?).join) (zeb σ fr):=by
  intro fr
  induction fr with
  |nil=>exact .nil
  |cons j fr ih=>exact .cons (one j) ih
 unfold zhM
 induction k with
 |zero=>exact go fr
 |succ k ih=>exact .cons trivial ih
section
variable {X:Cx}{scope:Scope}{N:List Str}{k:Nat}{fr:List Nat}{tg iter elt:Expr}{ifs:List Expr}{pos:Pos}{q:WI}{g:WG}{c:WT}{e:WE}
theorem Ext.loose{H H':Hp}(a:∀b xs,H b=some (.tup xs)→H' b=some (.tup xs)) (b:∀c o u,H c=some (.frz o u)→H' c=some (.frz o u)) (d:∀b o,H b=some o→ ∃o',H' b=some o'):Ext H (fun _=>some (.lst [])) H' (fun _=>some (.lst [])):=
 ⟨a,b,(fun _ _ _ g=>nomatch g),d⟩
theorem Ext.over{H H':Hp}{S S':Sto}{l:Addr}{o:HO}(e:Ext H S H' S') (h:H l=none):Ext H S (upd H' l o) S':=
 ⟨fun b xs q=>by rw [zap (zan q h)];exact e.tup b xs q,fun b ob u q=>by rw [zap (zan q h)];exact e.frz b ob u q,fun b ob q z=>by rw [zap (zan q h)];exact e.fr b ob q z,fun b ob q=>by rw [zap (zan q h)];exact e.all b ob q⟩
theorem zgz (hg:∀s₀ H₀ fp pn,JG (zaO X scope N s₀ H₀ fp pn) tg g) (hc:∀s₀ H₀ fp pn,JTs (zaO X scope N s₀ H₀ fp pn) ifs c) (he:∀s₀ H₀ fp pn,JE (zaO X scope N s₀ H₀ fp pn) elt e)
  {E:WX}(σ:St) (H:Hp) (Q:VK):zqm X.K (zey k fr q g c e E) σ H Q→zkO X scope N k fr tg ifs elt (zoM X.K (q noE)) σ H Q:=fun⟨σW,S0,QW,hσ,hS,ht,hQ⟩=>by
  refine⟨σW,S0,_,hσ,hS,ht,fun ws G S1 J H1 e1 hS1 hG1 hJ h1 l hl=>?_⟩;have upl:∀{H':Hp}{vs us:List V}{S':Sto},H' l=some (.lst vs)→S' l=none→RepS X.K H' S'→Ext H' (fun _=>some (.lst [])) (upd H' l (.lst us)) (fun _=>some (.lst []))∧RepS X.K (upd H' l (.lst us)) S':=fun {H' vs us S'} f n hS'=>by
   have x:Ext H' (fun _=>some (.lst [])) (upd H' l (.lst us)) (fun _=>some (.lst [])):= .loose (fun b xs q=>by rw [zap (zkx q f fun z=>nomatch z)];exact q) (fun b o u q=>by rw [zap (zkx q f fun z=>nomatch z)];exact q) fun b o q=>by
    by_cases hb:b=l
    ·subst hb;exact⟨_,zaq⟩
    ·exact⟨o,by rw [zap hb];exact q⟩
   refine⟨x,fun a o q=>(hS' a o q).keep x fun u z=>?_⟩;have ha:a≠l:=by rintro rfl;rw [n]at q;cases q
   rw [zap ha];exact z
  refine⟨fun i m σ' H'=>∃σW' S' acc vs,Ext H1 S1 H' S'∧H' l=some (.lst vs)∧S' l=none∧Reps X.K H' acc vs∧RpSt X.K H' σW' σ'∧RepS X.K H' S'∧G S'∧m=ws.length - i∧i≤ws.length∧zeB g c e noE G QW (ws.drop i) acc σW' S',
   ⟨ws.length,_,S1,[],[], .new hl,zaq,hS1.free hl, .nil,zhX (hσ.ext (e1.trans (.new (S:=S1) hl))),hS1.new hl,hG1,rfl,Nat.zero_le _,h1⟩,?_⟩
  rintro i m σ' H' ⟨σW',S',acc,vs,e2,f2,n2,ra,hσ2,hS2,hG2,rfl,hi2,h2⟩;obtain⟨ji,js⟩:=hJ i S' H' e2 hS2 hG2;by_cases hlt:i<ws.length
  ·obtain⟨jgo,jy⟩:=ji ws[i] (List.getElem?_eq_getElem hlt);refine .inr ⟨jgo,fun σ'' H''=>∃σW' S' acc vs,Ext H1 S1 H'' S'∧H'' l=some (.lst vs)∧S' l=none∧Reps X.K H'' acc vs∧RpSt X.K H'' σW' σ''∧RepS X.K H'' S'∧G S'∧ws.length - (i+1)=ws.length - (i+1)∧i+1≤ws.length∧zeB g c e noE G QW (ws.drop (i+1)) acc σW' S',
    fun σ'' H'' z=>⟨_,by omega,z⟩,fun x H3 y3=>?_⟩
   obtain⟨e3,hS3,r3⟩:=jy x H3 y3;rw [List.drop_eq_getElem_cons hlt]at h2;intro s₀ H₀ fp pn;have hk:Hook (zaO X scope N s₀ H₀ fp pn) noE:=zgG rfl;refine⟨_,_,_,hg s₀ H₀ fp pn noE hk,hc s₀ H₀ fp pn noE hk,he s₀ H₀ fp pn noE hk,?_⟩;refine⟨_,σW',S',_,r3,hσ2.ext e3,hS3,h2,fun σW4 S4 σ4 H4 e4 hσ4 hS4 h4=>?_⟩;refine⟨σW4,S4,_,hσ4,hS4,h4,fun b S5 H5 e5 hS5 h5=>?_⟩;have e15:Ext H' S' H5 S5:=(e3.trans e4).trans e5;have hσ5:=hσ4.ext e5;obtain⟨f5,n5⟩:=e15.fr l _ f2 n2;cases b with
   |false=>
    have h5:∃S4,Sub S4 S5∧G S4∧zeB g c e noE G QW (ws.drop (i+1)) acc σW4 S4:=h5;refine ztD ?_;obtain⟨S6,sb,hG6,h6⟩:=h5;have e16:=e15.trans (.drop sb);exact⟨σW4,S6,acc,vs,e2.trans e16,f5,(e16.fr l _ f2 n2).2,ra.ext e15,hσ5,hS5.sub sb,hG6,rfl,hlt,h6⟩
   |true=>
    rw [if_pos rfl]at h5;refine ztF ?_;refine⟨σW4,S5,_,hσ5,hS5,h5,fun y S6 v H6 e6 r6 hS6 h6=>?_⟩;have e17:=e15.trans e6;obtain⟨f6,n6⟩:=e17.fr l _ f2 n2;obtain⟨hz,S7,sb,hG7,h7⟩:=h6;obtain⟨x6,hS6'⟩:=upl (us:=vs++[v]) f6 n6 hS6;have ra6:Reps X.K H6 (acc++[y]) (vs++[v]):=(ra.ext e17).append (.one r6);refine⟨vs,f6,by rw [←ra.length];exact hz,σW4,S7,acc++[y],vs++[v],?_,zaq,((e17.trans (.drop sb)).fr l _ f2 n2).2,ra6.ext x6,(hσ5.ext e6).ext x6,hS6'.sub sb,hG7,rfl,hlt,h7⟩
    exact(e2.trans (e17.trans (.drop sb))).over hl
  ·have hll:i=ws.length:=by omega
   rw [List.drop_of_length_le (Nat.le_of_eq hll.symm)]at h2;exact .inl ⟨js hll,hQ acc S' vs l H' (e1.trans e2) (e1.free hl) f2 n2 ra hS2 h2⟩
theorem zgK (S:CompSc X.nox scope N k fr) (hi:JI X.nox tg iter q) (hg:∀s₀ H₀ fp pn,JG (zaO X.nox scope N s₀ H₀ fp pn) tg g) (hc:∀s₀ H₀ fp pn,JTs (zaO X.nox scope N s₀ H₀ fp pn) ifs c) (he:∀s₀ H₀ fp pn,JE (zaO X.nox scope N s₀ H₀ fp pn) elt e)
  (hs:∀x,foldedSetIterable iter X.env x=pure x:=by intro _;rfl) (hcl:X.calm=true:=by rfl):JL X (.ListComp elt [⟨tg,iter,ifs,0⟩] scope pos) (zey k fr q g c e):=fun E hE=>
 (PE.nox (znf rfl hcl S (hi noE (zgG rfl)) hs)).mono (zgz (X:=X.nox) hg hc he)
theorem zgZ{i:Nat}{x:Str}{pos' spos:Pos}(hN:X.N.Nodup) (hxi:X.N[i]? =some x) (hxl:Loc X.env.scope x) (S:CompSc X.nox scope N k fr) (hi:JI X.nox tg iter q) (hg:∀s₀ H₀ fp pn,JG (zaO X.nox scope N s₀ H₀ fp pn) tg g) (hc:∀s₀ H₀ fp pn,JTs (zaO X.nox scope N s₀ H₀ fp pn) ifs c) (he:∀s₀ H₀ fp pn,JE (zaO X.nox scope N s₀ H₀ fp pn) elt e)
  (hw:swapsWith (.ListComp elt [⟨tg,iter,ifs,0⟩] scope pos) (some (.Name x pos')) spos.line X.env=pure true:=by rfl) (hf:X.fn x=true∨X.env.scope.names.lookup x=some .local:=by first |exact .inl rfl |exact .inr rfl |assumption)
  (hs:∀x,foldedSetIterable iter X.env x=pure x:=by intro _;rfl) (hcl:X.calm=true:=by rfl):JS X (.Assign [.Name x pos'] (.ListComp elt [⟨tg,iter,ifs,0⟩] scope pos) spos) (wAsg (zcG (zey k fr q g c e)) (wGN i)):=fun E hE=>
 (PS.nox (zng (X:=X.nox) rfl hcl S (hi noE (zgG rfl)) hN hxi hxl hw hf hs)).mono fun D σ H ⟨σW,S0,DW,hσ,hS,ht,hD⟩=>
  zgz (X:=X.nox) (E:=E) hg hc he σ H _ ⟨σW,S0,_,hσ,hS,ht,fun ws S1 vs a H1 e1 fa ea na r1 hS1 h1=>by
   have ex:Ext H S0 H1 (put S1 a (.lst ws)):=⟨e1.tup,e1.frz,fun b o q g=>by
    have hb:b≠a:=by rintro rfl;rw [fa]at q;cases q
    rw [zaB hb];exact e1.fr b o q g,e1.all⟩
   refine hD.nx _ (put S1 a (.lst ws)) _ H1 ex ((hσ.ext ex).set (.ref a) i) (fun b o q=>?_) (h1 a na);by_cases hb:b=a
   ·subst hb;rw [zaf]at q;cases q;exact⟨vs,ea,r1⟩
   ·rw [zaB hb]at q;exact hS1 b o q⟩
end
noncomputable def SeqIt (k:Bool) (h:Heap) (it a:Addr) (i:Nat):Prop:=if k=true then h.IsListIter it a i else h.IsTupleIter it a i
noncomputable def SeqIs (k:Bool) (h:Heap) (a:Addr) (its:Array Value):Prop:=if k=true then h.IsList a its else h.IsTuple a its
section
variable {k:Bool}{h h':Heap}{it a:Addr}{i:Nat}{its:Array Value}
theorem SeqIt.at (x:SeqIt k h it a i) (e:∀o,h.get? it=some o→h'.get? it=some o):SeqIt k h' it a i:=by
 cases k with
 |true=>exact Heap.IsListIter.at (show h.IsListIter it a i from x) e
 |false=>exact Heap.IsTupleIter.at (show h.IsTupleIter it a i from x) e
theorem SeqIs.at (x:SeqIs k h a its) (e:∀o,h.get? a=some o→h'.get? a=some o):SeqIs k h' a its:=by
 cases k with
 |true=>exact Heap.IsList.at (show h.IsList a its from x) e
 |false=>obtain⟨o,ho,r⟩:=(show h.IsTuple a its from x);exact⟨o,e o ho,r⟩
theorem SeqIt.ob (x:SeqIt k h it a i):∃o vs,h.get? it=some o∧o.data= .fields vs:=by
 cases k with
 |true=>obtain⟨o,ho,_,hd⟩:=(show h.IsListIter it a i from x);exact⟨o,_,ho,hd⟩
 |false=>obtain⟨o,ho,_,hd⟩:=(show h.IsTupleIter it a i from x);exact⟨o,_,ho,hd⟩
end
section
variable {prog:Program}{w:World}{A:Around}{E:Value→Shared→Prop}{s:Shared}
theorem zer{it t:Addr}{i:Nat}{its:Array Value}{x:Value}{Q:Value→Shared→Prop}(hit:s.heap.IsTupleIter it t i) (ht:s.heap.IsTuple t its) (hx:its[i]? =some x)
  (hQ:∀g,g.IsTupleIter it t (i+1)→Heap.SameBut it s.heap g→Q x { s with heap:=g }):wpAny (model prog w) A (Builtin.SmallTypes.nextOf (.ref it)) Q E s:=by
 obtain⟨o,ho,hc,hd⟩:=id hit;obtain⟨ot,hot,_,nt,hdt⟩:=ht;unfold Builtin.SmallTypes.nextOf;refine wpAny_bind (wpAny_callSpecial?_slot (name:=Str.ofString "__next__") hit.typeIs PySem.F.slot_tuple_iterator_next (wpAny_call_entry PySem.F.slot_tuple_iterator_next hit.typeIs PySem.F.entry_tuple_iterator_next ?_ (PySem.F.args_tuple_iterator_next_1 _)));show wpAny _ _ (field (.ref it) 0 >>= _) _ _ s;refine wpAny_bind (wpAny_field ho hd (x:= .ref t) rfl ?_);show wpAny _ _ (if(Value.ref t == Value.none)=true then _ else _) _ _ s;rw [if_neg (show ¬((Value.ref t == Value.none)=true) from Bool.false_ne_true)];show wpAny _ _ (field (.ref it) 1 >>= _) _ _ s;refine wpAny_bind (wpAny_field ho hd (x:= .int i 0) rfl ?_);show wpAny _ _ (seqItems? (.ref t) >>= _) _ _ s;refine wpAny_bind (wpAny_seqItems hot hdt ?_);simp only[Int.toNat_natCast,hx];refine wpAny_bind (wpAny_setField ho hd (by simp) (wpAny_pure ⟨x,rfl,wpAny_pure (hQ _ ?_ (Heap.SameBut.update ..))⟩));exact⟨_,Heap.get?_update_self _ ho (Obj.isFreed_of_fields (Obj.data_mapFields hd _)),(Obj.cls_mapFields ..).trans hc,by rw [Obj.data_mapFields hd];simp [rawInt]⟩
theorem zeE{it t:Addr}{i:Nat}{its:Array Value}{Q:Value→Shared→Prop}(hh:A.handled=none) (hit:s.heap.IsTupleIter it t i) (ht:s.heap.IsTuple t its) (hx:its[i]? =none)
  (hE:∀g e,Heap.ExtBut it s.heap g→(∃o,g.get? e=some o∧o.cls= .type "StopIteration")→E (.ref e) { s with heap:=g }):wpAny (model prog w) A (Builtin.SmallTypes.nextOf (.ref it)) Q E s:=by
 obtain⟨o,ho,hc,hd⟩:=id hit;obtain⟨ot,hot,_,nt,hdt⟩:=ht;unfold Builtin.SmallTypes.nextOf;refine wpAny_bind (wpAny_callSpecial?_slot (name:=Str.ofString "__next__") hit.typeIs PySem.F.slot_tuple_iterator_next (wpAny_call_entry PySem.F.slot_tuple_iterator_next hit.typeIs PySem.F.entry_tuple_iterator_next ?_ (PySem.F.args_tuple_iterator_next_1 _)));show wpAny _ _ (field (.ref it) 0 >>= _) _ _ s;refine wpAny_bind (wpAny_field ho hd (x:= .ref t) rfl ?_);show wpAny _ _ (if(Value.ref t == Value.none)=true then _ else _) _ _ s;rw [if_neg (show ¬((Value.ref t == Value.none)=true) from Bool.false_ne_true)];show wpAny _ _ (field (.ref it) 1 >>= _) _ _ s;refine wpAny_bind (wpAny_field ho hd (x:= .int i 0) rfl ?_);show wpAny _ _ (seqItems? (.ref t) >>= _) _ _ s;refine wpAny_bind (wpAny_seqItems hot hdt ?_);simp only[Int.toNat_natCast,hx];refine wpAny_bind (wpAny_rule (wpAny_bind (wpAny_setField ho hd (by simp) ?_)));show wpAny _ _ (newExc (.type "StopIteration") [] >>= _) _ _ _;refine wpAny_bind ?_;simp only[newExc,newTuple];refine wpAny_bind (wpAny_newObj_type ?_ (by size_fits));refine wpAny_bind (m:=firstArgMember _ _) (wpAny_of_eq (a:=Value.none) (by first |rfl | (simp only[firstArgMember];rfl)) ?_);refine wpAny_newObj_type ?_ (by size_fits);simp only[raiseNew];refine wpAny_bind (wpAny_handled ?_)
 first |rw [show A.in1.handled=none from hh] |rw [hh]
 refine wpAny_bind (wpAny_pure (wpAny_throw ?_));exact hE _ _ (((Heap.SameBut.update ..).extBut.push _).push _) ⟨_,Heap.get?_push_size _ rfl,rfl⟩
theorem zem{k:Bool}{it t:Addr}{i:Nat}{its:Array Value}{x:Value}{Q:Value→Shared→Prop}(hit:SeqIt k s.heap it t i) (ht:SeqIs k s.heap t its) (hx:its[i]? =some x)
  (hQ:∀g,SeqIt k g it t (i+1)→Heap.SameBut it s.heap g→Q x { s with heap:=g }):wpAny (model prog w) A (Builtin.SmallTypes.nextOf (.ref it)) Q E s:=by
 cases k with
 |true=>exact wpAny_nextOf_list_item hit ht hx hQ
 |false=>exact zer hit ht hx hQ
theorem zhT{k:Bool}{it t:Addr}{i:Nat}{its:Array Value}{Q:Value→Shared→Prop}(hh:A.handled=none) (hit:SeqIt k s.heap it t i) (ht:SeqIs k s.heap t its) (hx:its[i]? =none)
  (hE:∀g e,Heap.ExtBut it s.heap g→(∃o,g.get? e=some o∧o.cls= .type "StopIteration")→E (.ref e) { s with heap:=g }):wpAny (model prog w) A (Builtin.SmallTypes.nextOf (.ref it)) Q E s:=by
 cases k with
 |true=>exact wpAny_nextOf_list_end hh hit ht hx hE
 |false=>exact zeE hh hit ht hx hE
end
noncomputable def zew (k:Bool) (a:Addr):Obj:={ cls:= .type (if k=true then "list_iterator" else "tuple_iterator"),data:= .fields #[.ref a, .int 0 0] }
theorem zhp{k:Bool}{h:Heap}{it a:Addr}(e:h.get? it=some (zew k a)):SeqIt k h it a 0:=by
 cases k with
 |true=>exact⟨_,e,rfl,rfl⟩
 |false=>exact⟨_,e,rfl,rfl⟩
theorem zeQ{k:Bool}{a:Addr}:(zew k a).isFreed=false:=by cases k<;>rfl
section
variable {prog:Program}{w:World}{A:Around}{E:Value→Shared→Prop}{s:Shared}
theorem zhQ{k:Bool}{a:Addr}{its:Array Value}{Q:Value→Shared→Prop}(ha:SeqIs k s.heap a its) (hQ:Q (.ref s.heap.objs.size) { s with heap:=s.heap.push (zew k a) }):wpAny (model prog w) A (pyIter (.ref a)) Q E s:=by
 cases k with
 |true=>exact wpAny_pyIter_list ha hQ
 |false=>exact wpAny_pyIter_tuple ha hQ
end
theorem SeqIs.push{k:Bool}{h:Heap}{a:Addr}{its:Array Value}(x:SeqIs k h a its) (o:Obj):SeqIs k (h.push o) a its:=x.at fun _ e=>Heap.get?_push_of_some _ e
section
variable {X:Cx}{pins:List (Addr×Obj)}{σ:St}{H:Hp}{s:Shared}{g:Heap}{fp:List Addr}
theorem Inv.turnNew{p:Addr}{o:HO}{t':Nat}(I:Inv X pins σ H s) (hp:s.heap.objs.size≤p) (k:∀b u,b∉fp→s.heap.get? b=some u→g.get? b=some u) (hf:∀b∈fp,zfu X pins H b) (new:ObjOk X.prog X.w (upd H p o) g p o) :
  Inv X pins σ (upd H p o) { s with heap:=g,toks:=t' }:=by
 have hn:=I.hok.fresh hp;have lt:∀{b u},s.heap.get? b=some u→b≠p:=fun e=>Nat.ne_of_lt (Nat.lt_of_lt_of_le (Heap.lt_size e) hp);have nfp:∀{b u},H b=some u→b∉fp:=fun e z=>by rw [(hf _ z).1]at e;cases e
 refine I.call (g':=s.gens) (d':=s.drawn) (ch:=fp) ⟨fun b u e _ _ hx=>k b u hx e,fun b u e _ _ hx=>⟨u.slots,k b u hx e⟩,fun b u e n _=>by rw [zap (lt e)];exact n,fun b u e hx=>⟨u,k b u hx e⟩,
  fun b xs e=>by rw [zap (zan e hn)];exact e,fun b u xs e=>by rw [zap (zan e hn)];exact e,fun b ps e=>⟨#[],by rw [zap (zan e hn),e];simp⟩⟩ (fun b u e=>?_) I.bare fun b hb=>⟨(hf b hb).2.2.2.1,(hf b hb).2.1,(hf b hb).2.2.2.2.1,(hf b hb).2.2.2.2.2⟩
 by_cases hb:b=p
 ·subst hb;rw [zaq]at e;cases e;exact new
 ·rw [zap hb]at e;refine(I.hok b u e).stay (fun c v hc q=>k c v ?_ q) (fun c q=>by rw [zap (zan q hn)];exact q) fun c xs q=>by rw [zap (zan q hn)];exact q
  rcases hc with rfl |hc
  ·exact nfp e
  ·exact nfp hc
theorem Inv.turnedL{t':Nat}(I:Inv X pins σ H s) (k:∀b u,b∉fp→s.heap.get? b=some u→g.get? b=some u) (hf:∀b∈fp,zfu X pins H b):Inv X pins σ H { s with heap:=g,toks:=t' }:=by
 have nfp:∀{b u},H b=some u→b∉fp:=fun e z=>by rw [(hf _ z).1]at e;cases e
 refine I.call (g':=s.gens) (d':=s.drawn) (ch:=fp) ⟨fun b u e _ _ hx=>k b u hx e,fun b u e _ _ hx=>⟨u.slots,k b u hx e⟩,fun b u e n _=>n,fun b u e hx=>⟨u,k b u hx e⟩,
  fun b xs e=>e,fun b u xs e=>e,fun b ps e=>⟨#[],by rw [e];simp⟩⟩ (fun b u e=>?_) I.bare fun b hb=>⟨(hf b hb).2.2.2.1,(hf b hb).2.1,(hf b hb).2.2.2.2.1,(hf b hb).2.2.2.2.2⟩
 refine(I.hok b u e).stay (fun c v hc q=>k c v ?_ q) (fun c q=>q) fun c xs q=>q;rcases hc with rfl |hc
 ·exact nfp e
 ·exact nfp hc
noncomputable def SqK (k:Bool) (K:PySem.W.Frag) (H:Hp) (a:Addr) (xs:List V):Prop:=if k=true then SqL K H a xs else SqT K H a xs
theorem Inv.seq{k:Bool}{a:Addr}{xs:List V}(I:Inv X pins σ H s) (h:SqK k X.K H a xs):∃its:List Value,Vals xs its∧SeqIs k s.heap a its.toArray∧xs.length≤sizeLine:=by
 cases k with
 |true=>obtain⟨its,r,p,z⟩:=I.list h;exact⟨its,r,p.isList,z⟩
 |false=>obtain⟨its,r,p,z⟩:=I.tuple h;exact⟨its,r,p,z⟩
theorem Inv.seq_inj{k:Bool}{a:Addr}{xs ys:List V}(I:Inv X pins σ H s) (h:SqK k X.K H a xs) (h':SqK k X.K H a ys):xs=ys:=by
 cases k with
 |true=>exact I.list_inj h h'
 |false=>exact I.tuple_inj h h'
end
section
noncomputable def zlY:W→Sto→(List W→(Sto→Prop)→Prop)→Prop
 | .tup ws,_,Q=>Q ws fun _=>True
 | .ref a,S,Q=>zbp S a fun ws=>Q ws fun S'=>S' a=some (.lst ws)
 | .scr ns,_,Q=>Q (ns.map W.int) fun _=>True
 |_,_,_=>False
end
section
variable {prog:Program}{w:World}{A:Around}{E:Value→Shared→Prop}{s:Shared}
theorem zkP{k1 k2:Bool}{z TI TO i1 i2 l1 l2:Addr}{n1 n2:Nat}{xs ys:Array Value}{x y a b:Value}{Q:Option Value→Shared→Prop}(D:ZipApart z TI TO i1 i2 l1 l2)
  (hz:IsZip s.heap z TI TO .none) (hTI:IsPair s.heap TI (.ref i1) (.ref i2)) (hTO:IsPair s.heap TO a b) (h1:SeqIt k1 s.heap i1 l1 n1) (h2:SeqIt k2 s.heap i2 l2 n2) (hl1:SeqIs k1 s.heap l1 xs) (hl2:SeqIs k2 s.heap l2 ys) (hx:xs[n1]? =some x) (hy:ys[n2]? =some y)
  (hQ:∀g,IsZip g z TI TO (rawInt s.heap.objs.size)→IsPair g TO x y→SeqIt k1 g i1 l1 (n1+1)→SeqIt k2 g i2 l2 (n2+1)→IsPair g s.heap.objs.size x y→g.objs.size=s.heap.objs.size+1→
   (∀c o,c≠z→c≠TO→c≠i1→c≠i2→s.heap.get? c=some o→g.get? c=some o)→Q (some (.ref s.heap.objs.size)) { s with heap:=g }):wpAny (model prog w) A (pyNext (.ref z)) Q E s:=by
 have hT:s.TypeIs (.ref z) "zip" :=⟨_,hz,rfl⟩;unfold pyNext;refine wpAny_bind (wpAny_attempt (wpAny_callSpecial?_slot (name:=Str.ofString "__next__") hT PySem.F.slot_zip_next (wpAny_call_entry PySem.F.slot_zip_next hT PySem.F.entry_zip_next ?_ (PySem.F.args_zip_next_1 _))));show wpAny _ _ (field (.ref z) 2 >>= _) _ _ _;refine wpAny_bind (wpAny_field hz rfl (x:= .bool false) rfl ?_);show wpAny _ _ (field (.ref z) 3 >>= _) _ _ _;refine wpAny_bind (wpAny_field hz rfl (x:= .ref TI) rfl ?_);refine wpAny_bind (wpAny_seqItems hTI rfl ?_);show wpAny _ _ (Builtin.SmallTypes.ownedTupleIsFree (.ref z) >>= _) _ _ _;refine wpAny_bind ?_;unfold Builtin.SmallTypes.ownedTupleIsFree;refine wpAny_bind (wpAny_field hz rfl (x:= .none) rfl (wpAny_pure ?_));simp only[if_true];refine wpAny_bind (wpAny_rule ?_);refine wpAny_bind (wpAny_field hz rfl (x:= .ref TO) rfl ?_);refine wpAny_bind (wpAny_setField_rec hz (by simp) fun g1 hz1 hs1=>?_);replace hz1:IsZip g1 z TI TO .ellipsis:=hz1;refine wpAny_bind ?_;simp only[List.zipIdx_cons,List.zipIdx_nil,List.forIn_cons,List.forIn_nil];refine wpAny_bind (wpAny_bind (wpAny_onRaise ?_));show wpAny _ _ (Builtin.SmallTypes.nextOf (.ref i1) >>= _) _ _ _;refine wpAny_bind (zem (h1.at fun o e=>hs1.extBut _ o D.i1z e) (hl1.at fun o e=>hs1.extBut _ o D.l1z e) hx fun g2 h12 hs2=>wpAny_pure ?_);have hTO2:IsPair g2 TO a b:=hs2.extBut _ _ D.TOi1 (hs1.extBut _ _ D.TOz hTO);refine wpAny_bind (wpAny_seqItems hTO2 rfl ?_);refine wpAny_bind (wpAny_updateSeq_pair hTO2 fun g3 hTO3 hs3=>?_);replace hTO3:IsPair g3 TO x b:=hTO3;refine wpAny_bind (wpAny_letGo (wpAny_pure ?_));refine wpAny_bind (wpAny_bind (wpAny_onRaise ?_));show wpAny _ _ (Builtin.SmallTypes.nextOf (.ref i2) >>= _) _ _ _;refine wpAny_bind (zem (h2.at fun o e=>hs3.extBut _ o D.TOi2.symm (hs2.extBut _ o D.i12.symm (hs1.extBut _ o D.i2z e))) (hl2.at fun o e=>hs3.extBut _ o D.l2TO (hs2.extBut _ o D.l2i1 (hs1.extBut _ o D.l2z e))) hy fun g4 h24 hs4=>wpAny_pure ?_);have hTO4:IsPair g4 TO x b:=hs4.extBut _ _ D.TOi2 hTO3;refine wpAny_bind (wpAny_seqItems hTO4 rfl ?_);refine wpAny_bind (wpAny_updateSeq_pair hTO4 fun g5 hTO5 hs5=>?_);replace hTO5:IsPair g5 TO x y:=hTO5;refine wpAny_bind (wpAny_letGo (wpAny_pure (wpAny_pure ?_)));refine wpAny_bind (wpAny_seqItems hTO5 rfl ?_);refine wpAny_bind (wpAny_newTuple ?_);have hsz:g5.objs.size=s.heap.objs.size:=by rw [hs5.1,hs4.1,hs3.1,hs2.1,hs1.1]
 have hz5:IsZip g5 z TI TO .ellipsis:=hs5.extBut _ _ D.TOz.symm (hs4.extBut _ _ D.i2z.symm (hs3.extBut _ _ D.TOz.symm (hs2.extBut _ _ D.i1z.symm hz1)));have hk5:∀c o,c≠z→c≠TO→c≠i1→c≠i2→s.heap.get? c=some o→g5.get? c=some o:=fun c o c1 c2 c3 c4 e=>hs5.extBut _ _ c2 (hs4.extBut _ _ c4 (hs3.extBut _ _ c2 (hs2.extBut _ _ c3 (hs1.extBut _ _ c1 e))));have h15:SeqIt k1 g5 i1 l1 (n1+1):=h12.at fun o e=>hs5.extBut _ o D.TOi1.symm (hs4.extBut _ o D.i12 (hs3.extBut _ o D.TOi1.symm e));have h25:SeqIt k2 g5 i2 l2 (n2+1):=h24.at fun o e=>hs5.extBut _ o D.TOi2.symm e;have hzlt:z<g5.objs.size:=Heap.lt_size hz5;show wpAny _ _ (Builtin.SmallTypes.ownedTupleHandOut (.ref z) (.ref g5.objs.size) >>= _) _ _ _;refine wpAny_bind ?_;unfold Builtin.SmallTypes.ownedTupleHandOut;have hz6:IsZip (g5.push { cls:= .type "tuple",data:= .seq #[x,y] }) z TI TO .ellipsis:=Heap.get?_push_of_some _ hz5;refine wpAny_bind (wpAny_setField_rec hz6 (by simp) fun g7 hz7 hs7=>?_);replace hz7:IsZip g7 z TI TO (rawInt g5.objs.size):=hz7;refine wpAny_setField_rec hz7 (by simp) fun g8 hz8 hs8=>?_;replace hz8:IsZip g8 z TI TO (rawInt g5.objs.size):=hz8;have up:∀c o,c≠z→g5.get? c=some o→g8.get? c=some o:=fun c o c1 e=>hs8.extBut _ _ c1 (hs7.extBut _ _ c1 (Heap.get?_push_of_some _ e));have hT8:IsPair g8 g5.objs.size x y:=hs8.extBut _ _ (Nat.ne_of_gt hzlt) (hs7.extBut _ _ (Nat.ne_of_gt hzlt) (Heap.get?_push_size _ rfl));have hzz:g8.objs.size=g5.objs.size+1:=by rw [hs8.1,hs7.1,Heap.size_push]
 rw [hsz]at hz8 hT8 hzz;refine wpAny_pure ⟨_,rfl,wpAny_pure ?_⟩;show Q (some (.ref g5.objs.size)) _;rw [hsz];exact hQ g8 hz8 (up _ _ D.TOz hTO5) (h15.at fun o e=>up _ o D.i1z e) (h25.at fun o e=>up _ o D.i2z e) hT8 hzz fun c o c1 c2 c3 c4 e=>up c o c1 (hk5 c o c1 c2 c3 c4 e)
theorem zmI{k1 k2:Bool}{z TI TO i1 i2 l1 l2:Addr}{n1 n2:Nat}{xs ys:Array Value}{a b:Value}{Q:Option Value→Shared→Prop}(hh:A.handled=none) (D:ZipApart z TI TO i1 i2 l1 l2)
  (hz:IsZip s.heap z TI TO .none) (hTI:IsPair s.heap TI (.ref i1) (.ref i2)) (hTO:IsPair s.heap TO a b) (h1:SeqIt k1 s.heap i1 l1 n1) (h2:SeqIt k2 s.heap i2 l2 n2) (hl1:SeqIs k1 s.heap l1 xs) (hl2:SeqIs k2 s.heap l2 ys) (hend:xs[n1]? =none∨ys[n2]? =none)
  (hQ:∀g,(∀c o,c≠z→c≠TO→c≠i1→c≠i2→s.heap.get? c=some o→g.get? c=some o)→Q none { s with heap:=g }):wpAny (model prog w) A (pyNext (.ref z)) Q E s:=by
 have hT:s.TypeIs (.ref z) "zip" :=⟨_,hz,rfl⟩;have fin:∀(g:Heap) (e:Addr),(∀c o,c≠z→c≠TO→c≠i1→c≠i2→s.heap.get? c=some o→g.get? c=some o)→(∃o,g.get? e=some o∧o.cls= .type "StopIteration")→
   wpAny (model prog w) A (do if(←isInstance (.ref e) (.type "StopIteration")) then pure none else throw (.ref e)) Q E { s with heap:=g }:=fun g e hk ⟨o,ho,hc⟩=>
  wpAny_bind (wpAny_isInstance (T:= "StopIteration") (b:=true) ⟨o,ho,hc⟩ isSubtype_stop (wpAny_pure (hQ _ hk)))
 unfold pyNext;refine wpAny_bind (wpAny_attempt (wpAny_callSpecial?_slot (name:=Str.ofString "__next__") hT PySem.F.slot_zip_next (wpAny_call_entry PySem.F.slot_zip_next hT PySem.F.entry_zip_next ?_ (PySem.F.args_zip_next_1 _))));show wpAny _ _ (field (.ref z) 2 >>= _) _ _ _;refine wpAny_bind (wpAny_field hz rfl (x:= .bool false) rfl ?_);show wpAny _ _ (field (.ref z) 3 >>= _) _ _ _;refine wpAny_bind (wpAny_field hz rfl (x:= .ref TI) rfl ?_);refine wpAny_bind (wpAny_seqItems hTI rfl ?_);show wpAny _ _ (Builtin.SmallTypes.ownedTupleIsFree (.ref z) >>= _) _ _ _;refine wpAny_bind ?_;unfold Builtin.SmallTypes.ownedTupleIsFree;refine wpAny_bind (wpAny_field hz rfl (x:= .none) rfl (wpAny_pure ?_));simp only[if_true];refine wpAny_bind (wpAny_rule ?_);refine wpAny_bind (wpAny_field hz rfl (x:= .ref TO) rfl ?_);refine wpAny_bind (wpAny_setField_rec hz (by simp) fun g1 hz1 hs1=>?_);replace hz1:IsZip g1 z TI TO .ellipsis:=hz1;refine wpAny_bind ?_;simp only[List.zipIdx_cons,List.zipIdx_nil,List.forIn_cons,List.forIn_nil];refine wpAny_bind (wpAny_bind (wpAny_onRaise ?_));show wpAny _ _ (Builtin.SmallTypes.nextOf (.ref i1) >>= _) _ _ _;cases hx:xs[n1]? with
 |none=>
  refine wpAny_bind (zhT hh (h1.at fun o e=>hs1.extBut _ o D.i1z e) (hl1.at fun o e=>hs1.extBut _ o D.l1z e) hx fun g2 e hs2 he=>?_);obtain⟨oe,hoe,hce⟩:=he;have hz2:IsZip g2 z TI TO .ellipsis:=hs2 _ _ D.i1z.symm hz1;have hez:e≠z:=fun x=>by subst x;rw [hz2]at hoe;cases hoe;simp at hce
  refine wpAny_setField_rec hz2 (by simp) fun g3 _ hs3=>fin g3 e (fun c o c1 _ c3 _ x=>hs3.extBut _ _ c1 (hs2 _ _ c3 (hs1.extBut _ _ c1 x))) ⟨oe,hs3.extBut _ _ hez hoe,hce⟩
 |some x=>
  have hy:ys[n2]? =none:=by rcases hend with h |h;rw [hx]at h;cases h;exact h
  refine wpAny_bind (zem (h1.at fun o e=>hs1.extBut _ o D.i1z e) (hl1.at fun o e=>hs1.extBut _ o D.l1z e) hx fun g2 h12 hs2=>wpAny_pure ?_);have hTO2:IsPair g2 TO a b:=hs2.extBut _ _ D.TOi1 (hs1.extBut _ _ D.TOz hTO);refine wpAny_bind (wpAny_seqItems hTO2 rfl ?_);refine wpAny_bind (wpAny_updateSeq_pair hTO2 fun g3 hTO3 hs3=>?_);refine wpAny_bind (wpAny_letGo (wpAny_pure ?_));refine wpAny_bind (wpAny_bind (wpAny_onRaise ?_));show wpAny _ _ (Builtin.SmallTypes.nextOf (.ref i2) >>= _) _ _ _;refine wpAny_bind (zhT hh (h2.at fun o e=>hs3.extBut _ o D.TOi2.symm (hs2.extBut _ o D.i12.symm (hs1.extBut _ o D.i2z e))) (hl2.at fun o e=>hs3.extBut _ o D.l2TO (hs2.extBut _ o D.l2i1 (hs1.extBut _ o D.l2z e))) hy fun g4 e hs4 he=>?_);obtain⟨oe,hoe,hce⟩:=he;have hz4:IsZip g4 z TI TO .ellipsis:=hs4 _ _ D.i2z.symm (hs3.extBut _ _ D.TOz.symm (hs2.extBut _ _ D.i1z.symm hz1));have hez:e≠z:=fun x=>by subst x;rw [hz4]at hoe;cases hoe;simp at hce
  refine wpAny_setField_rec hz4 (by simp) fun g5 _ hs5=>fin g5 e (fun c o c1 c2 c3 c4 x=>hs5.extBut _ _ c1 (hs4 _ _ c4 (hs3.extBut _ _ c2 (hs2.extBut _ _ c3 (hs1.extBut _ _ c1 x))))) ⟨oe,hs5.extBut _ _ hez hoe,hce⟩
end
noncomputable abbrev zH1 (k1:Bool) (h:Heap) (l1:Addr):Heap:=h.push (zew k1 l1)
noncomputable abbrev zH2 (k1 k2:Bool) (h:Heap) (l1 l2:Addr):Heap:=(zH1 k1 h l1).push (zew k2 l2)
noncomputable abbrev zH3 (k1 k2:Bool) (h:Heap) (l1 l2:Addr):Heap:=(zH2 k1 k2 h l1 l2).push { cls:= .type "tuple",data:= .seq #[.ref h.objs.size, .ref (zH1 k1 h l1).objs.size] }
noncomputable abbrev zH4 (k1 k2:Bool) (h:Heap) (l1 l2:Addr):Heap:=(zH3 k1 k2 h l1 l2).push { cls:= .type "tuple",data:= .seq #[.none, .none] }
noncomputable abbrev zH5 (k1 k2:Bool) (h:Heap) (l1 l2:Addr):Heap:=(zH4 k1 k2 h l1 l2).push { cls:= .type "zip",data:= .fields #[.none, .bool false, .bool false, .ref (zH2 k1 k2 h l1 l2).objs.size, .ref (zH3 k1 k2 h l1 l2).objs.size] }
theorem zhZ{k1 k2:Bool}(l1 l2:Addr) (xs ys:Array Value) :
  PySem.Meets (Builtin.«zip.__new__» ⟨[.type "zip", .ref l1, .ref l2],[]⟩) (fun _ R s=>SeqIs k1 s.heap l1 xs∧SeqIs k2 s.heap l2 ys∧R (.ok (.ret (.ref (zH4 k1 k2 s.heap l1 l2).objs.size))) { s with heap:=zH5 k1 k2 s.heap l1 l2 }):=
 .of_wp fun prog w A R s h=>by
  obtain⟨hp,g,d,tk,os⟩:=s;obtain⟨hl1,hl2,h⟩:=h;have hsub:=sub_zip;have f1:∀{A:Around}{E:Value→Shared→Prop}{Q:Value→Shared→Prop},Q (.ref hp.objs.size) ⟨hp.push (zew k1 l1),g,d,tk,os⟩→wpAny (model prog w) A (pyIter (.ref l1)) Q E ⟨hp,g,d,tk,os⟩:=fun q=>zhQ (s:=⟨hp,g,d,tk,os⟩) hl1 q;have f2:∀{A:Around}{E:Value→Shared→Prop}{Q:Value→Shared→Prop},Q (.ref (hp.push (zew k1 l1)).objs.size) ⟨(hp.push (zew k1 l1)).push (zew k2 l2),g,d,tk,os⟩→wpAny (model prog w) A (pyIter (.ref l2)) Q E ⟨hp.push (zew k1 l1),g,d,tk,os⟩:=fun q=>zhQ (s:=⟨hp.push (zew k1 l1),g,d,tk,os⟩) (hl2.push _) q
  wp_walk using f1,f2
  exact⟨_,rfl,h⟩
section
variable {prog:Program}{w:World}{A:Around}{E:Value→Shared→Prop}{s:Shared}
theorem zlf{k1 k2:Bool}{l1 l2:Addr}{xs ys:Array Value}{Q:Value→Shared→Prop}(hl1:SeqIs k1 s.heap l1 xs) (hl2:SeqIs k2 s.heap l2 ys)
  (h:∀g,IsZip g (s.heap.objs.size+4) (s.heap.objs.size+2) (s.heap.objs.size+3) .none→IsPair g (s.heap.objs.size+2) (.ref s.heap.objs.size) (.ref (s.heap.objs.size+1))→
   IsPair g (s.heap.objs.size+3) .none .none→SeqIt k1 g s.heap.objs.size l1 0→SeqIt k2 g (s.heap.objs.size+1) l2 0→g.objs.size=s.heap.objs.size+5→
   (∀c o,s.heap.get? c=some o→g.get? c=some o)→Q (.ref (s.heap.objs.size+4)) { s with heap:=g }):wpAny (model prog w) A (call (.type "zip") [.ref l1, .ref l2]) Q E s:=by
 refine callType_new PySem.F.called_zip (by decide) (PySem.F.typeCall_zip_2 _ _) (PySem.F.newCall_zip_2 _ _) (fun obj=>PySem.F.args_object_init_3 obj _ _) PySem.F.entry_zip_new (zhZ (k1:=k1) (k2:=k2) l1 l2 xs ys) ⟨hl1,hl2,?_⟩;have z1:(zH1 k1 s.heap l1).objs.size=s.heap.objs.size+1:=Heap.size_push ..;have z2:(zH2 k1 k2 s.heap l1 l2).objs.size=s.heap.objs.size+2:=by rw [Heap.size_push,z1]
 have z3:(zH3 k1 k2 s.heap l1 l2).objs.size=s.heap.objs.size+3:=by rw [Heap.size_push,z2]
 have z4:(zH4 k1 k2 s.heap l1 l2).objs.size=s.heap.objs.size+4:=by rw [Heap.size_push,z3]
 have z5:(zH5 k1 k2 s.heap l1 l2).objs.size=s.heap.objs.size+5:=by rw [Heap.size_push,z4]
 have g5:(zH5 k1 k2 s.heap l1 l2).get? (zH4 k1 k2 s.heap l1 l2).objs.size=some _:=Heap.get?_push_size _ rfl;have g4:(zH5 k1 k2 s.heap l1 l2).get? (zH3 k1 k2 s.heap l1 l2).objs.size=some _:=Heap.get?_push_of_some _ (Heap.get?_push_size _ rfl);have g3:(zH5 k1 k2 s.heap l1 l2).get? (zH2 k1 k2 s.heap l1 l2).objs.size=some _:=Heap.get?_push_of_some _ (Heap.get?_push_of_some _ (Heap.get?_push_size _ rfl));have g2:(zH5 k1 k2 s.heap l1 l2).get? (zH1 k1 s.heap l1).objs.size=some _:=Heap.get?_push_of_some _ (Heap.get?_push_of_some _ (Heap.get?_push_of_some _ (Heap.get?_push_size _ zeQ)));have g1:(zH5 k1 k2 s.heap l1 l2).get? s.heap.objs.size=some _:=Heap.get?_push_of_some _ (Heap.get?_push_of_some _ (Heap.get?_push_of_some _ (Heap.get?_push_of_some _ (Heap.get?_push_size _ zeQ))));show _∧_;rw [z2,z3,z4]at g5;rw [z1,z2]at g3;rw [z3]at g4;rw [z1]at g2;rw [z4];exact⟨⟨_,g5,rfl⟩,h _ g5 g3 g4 (zhp g1) (zhp g2) z5 fun c o x=>Heap.get?_push_of_some _ (Heap.get?_push_of_some _ (Heap.get?_push_of_some _ (Heap.get?_push_of_some _ (Heap.get?_push_of_some _ x))))⟩
end
noncomputable def SqZ (k:Bool) (K:PySem.W.Frag) (H:Hp) (a:Addr) (xs:List V):Prop:=if k=true then SqL K H a xs else H a=some (.tup xs)
theorem SqZ.sq{k:Bool}{K:PySem.W.Frag}{H:Hp}{a:Addr}{xs:List V}(h:SqZ k K H a xs):SqK k K H a xs:=by
 cases k with
 |true=>exact h
 |false=>exact .of h
theorem SeqIs.ob{k:Bool}{h:Heap}{a:Addr}{its:Array Value}(x:SeqIs k h a its):∃o n,h.get? a=some o∧o.data= .seq its n∧(k=true→o.cls= .type "list"):=by
 cases k with
 |true=>obtain⟨o,ho,hc,n,hd⟩:=(show h.IsList a its from x);exact⟨o,n,ho,hd,fun _=>hc⟩
 |false=>obtain⟨o,ho,hc,n,hd⟩:=(show h.IsTuple a its from x);exact⟨o,n,ho,hd,fun z=>by cases z⟩
theorem SeqIs.ne_fields{k:Bool}{h:Heap}{a b:Addr}{its:Array Value}{o:Obj}{vs:Array Value}(x:SeqIs k h a its) (e:h.get? b=some o) (d:o.data= .fields vs):a≠b:=fun z=>by
 subst z;obtain⟨o',n,ho,hd,_⟩:=x.ob;rw [ho]at e;cases e;rw [hd]at d;cases d
noncomputable def Itz (k1 k2:Bool) (K:PySem.W.Frag) (a b:Addr):It:=
  ⟨fun i H=>∃xs ys x y,SqZ k1 K H a xs∧SqZ k2 K H b ys∧xs[i]? =some x∧ys[i]? =some y,
   fun i H v H'=>∃p x y,H p=none∧v= .ref p∧H'=upd H p (.tup [x,y])∧(∀xs,SqZ k1 K H a xs→xs[i]? =some x)∧ ∀ys,SqZ k2 K H b ys→ys[i]? =some y,
   fun i H=>∃xs ys,SqZ k1 K H a xs∧SqZ k2 K H b ys∧(xs.length≤i∨ys.length≤i)⟩
structure ZipFar (z TI TO i1 i2:Addr):Prop where
  TIz:TI≠z
  TOz:TO≠z
  i1z:i1≠z
  i2z:i2≠z
  TITO:TI≠TO
  TIi1:TI≠i1
  TIi2:TI≠i2
  TOi1:TO≠i1
  TOi2:TO≠i2
  i12:i1≠i2
noncomputable def zpK (k1 k2:Bool) (z TI TO i1 i2 a b:Addr) (i:Nat) (h:Heap):Prop:=IsZip h z TI TO .none∧IsPair h TI (.ref i1) (.ref i2)∧(∃u v,IsPair h TO u v)∧SeqIt k1 h i1 a i∧SeqIt k2 h i2 b i
section
variable {X:Cx}{pins:List (Addr×Obj)}{σ:St}{H:Hp}{s:Shared}
theorem zfR{k1 k2:Bool}{z TI TO i1 i2 a b:Addr}{i:Nat}{xs ys:List V}(I:Inv X pins σ H s) (hTO:H TO=none) (D:ZipFar z TI TO i1 i2) (st:zpK k1 k2 z TI TO i1 i2 a b i s.heap) (ha:SqZ k1 X.K H a xs) (hb:SqZ k2 X.K H b ys):ZipApart z TI TO i1 i2 a b:=by
 obtain⟨hz,hTI,⟨u,v,hTOo⟩,h1,h2⟩:=st;obtain⟨o1,v1,e1,d1⟩:=h1.ob;obtain⟨o2,v2,e2,d2⟩:=h2.ob;obtain⟨its,_,pa,_⟩:=I.seq ha.sq;obtain⟨its2,_,pb,_⟩:=I.seq hb.sq;have nTO:∀{k:Bool}{c:Addr}{zs:List V}{its:Array Value},SqZ k X.K H c zs→SeqIs k s.heap c its→c≠TO:=fun {k c zs its} hc pc e=>by
  subst e;cases k with
  |false=>rw [show H c=some (.tup zs) from hc]at hTO;cases hTO
  |true=>
   obtain⟨o,n,ho,_,hcl⟩:=pc.ob;rw [hTOo]at ho;cases ho;have:=hcl rfl;simp at this
 exact⟨D.TIz,D.TOz,D.i1z,D.i2z,D.TITO,D.TIi1,D.TIi2,D.TOi1,D.TOi2,D.i12,pa.ne_fields hz rfl,nTO ha pa,pa.ne_fields e1 d1,pa.ne_fields e2 d2,pb.ne_fields hz rfl,nTO hb pb,pb.ne_fields e1 d1,pb.ne_fields e2 d2⟩
end
theorem zkK{P:Program}{w:World}{K:PySem.W.Frag}{es:List Expr}{x1:Nat}{pos:Pos}(k1 k2:Bool) (a b z TI TO i1 i2:Addr) (D:ZipFar z TI TO i1 i2):Turn P w K (.Tuple es x1 pos) (Itz k1 k2 K a b) [z,TI,TO,i1,i2] z (zpK k1 k2 z TI TO i1 i2 a b) where
  mem:=by simp
  obj:=fun i h ⟨hz,hTI,⟨u,v,hTO⟩,h1,h2⟩ c hc=>by
    obtain⟨o1,v1,e1,d1⟩:=h1.ob;obtain⟨o2,v2,e2,d2⟩:=h2.ob;simp only[List.mem_cons,List.not_mem_nil,or_false]at hc;rcases hc with rfl |rfl |rfl |rfl |rfl
    · exact⟨_,hz,fun v z=>by cases z⟩
    · exact⟨_,hTI,fun v z=>by cases z⟩
    · exact⟨_,hTO,fun v z=>by cases z⟩
    · exact⟨_,e1,fun v z=>by rw [d1]at z;cases z⟩
    · exact⟨_,e2,fun v z=>by rw [d2]at z;cases z⟩
  keep:=fun i h h' ⟨hz,hTI,⟨u,v,hTO⟩,h1,h2⟩ kk=>⟨kk z (by simp) _ hz,kk TI (by simp) _ hTI,⟨u,v,kk TO (by simp) _ hTO⟩,h1.at fun o q=>kk i1 (by simp) o q,h2.at fun o q=>kk i2 (by simp) o q⟩
  item:=by
    intro X hP hw hK hc i pins s σ H E I hf st hg;subst hP hw hK;obtain⟨xs,ys,x,y,ha,hb,hx,hy⟩:=hg;have Z:=zfR I (hf TO (by simp)).1 D st ha hb;obtain⟨hz,hTI,⟨c0,d0,hTO⟩,h1,h2⟩:=st;obtain⟨its,rv,pa,_⟩:=I.seq ha.sq;obtain⟨its2,rv2,pb,_⟩:=I.seq hb.sq;obtain⟨u,hu,ru⟩:=rv.get hx;obtain⟨u2,hu2,ru2⟩:=rv2.get hy;refine zkP Z hz hTI hTO h1 h2 pa pb (x:=u) (y:=u2) (by simpa using hu) (by simpa using hu2) fun g hz1 hTO1 h11 h21 hp hz' kk=>⟨_,rfl,?_⟩;refine wpAny_letOwnedTupleGo_zip hz1 fun g2 hz2 hs2=>?_;have hs2':∀c o,c≠z→g.get? c=some o→g2.get? c=some o:=fun c o hc e=>(hs2.2 c hc).trans e;have kk2:∀c o,c∉ [z,TI,TO,i1,i2]→s.heap.get? c=some o→g2.get? c=some o:=fun c o hc q=>by
      simp only[List.mem_cons,List.not_mem_nil,or_false,not_or]at hc;exact hs2' c o hc.1 (kk c o hc.1 hc.2.2.1 hc.2.2.2.1 hc.2.2.2.2 q)
    have hn:=I.hok.fresh (Nat.le_refl s.heap.objs.size);have hpz:s.heap.objs.size≠z:=Nat.ne_of_gt (Heap.lt_size hz);have ht2:g2.get? s.heap.objs.size=some { cls:= .type "tuple",data:= .seq #[u,u2] }:=hs2' _ _ hpz hp;refine⟨.ref s.heap.objs.size,upd H s.heap.objs.size (.tup [x,y]),I.turnNew (fp:=[z,TI,TO,i1,i2]) (t':=s.toks) (Nat.le_refl _) kk2 hf ⟨by show 2≤sizeLine;rw [sizeLine_eq];decide,[u,u2], .cons ru (.cons ru2 .nil),⟨_,ht2,rfl,_,rfl⟩⟩,rfl,
      ⟨_,x,y,hn,rfl,rfl,fun zs hy=>by rw [I.seq_inj hy.sq ha.sq];exact hx,fun zs hy'=>by rw [I.seq_inj hy'.sq hb.sq];exact hy⟩,
      ⟨hz2,hs2' _ _ D.TIz (kk _ _ D.TIz D.TITO D.TIi1 D.TIi2 hTI),⟨u,u2,hs2' _ _ D.TOz hTO1⟩,h11.at fun o q=>hs2' _ o D.i1z q,h21.at fun o q=>hs2' _ o D.i2z q⟩,fun c hc=>?_⟩
    have hlt:∃o,s.heap.get? c=some o:=by
      obtain⟨o1,v1,e1,d1⟩:=h1.ob;obtain⟨o2,v2,e2,d2⟩:=h2.ob;simp only[List.mem_cons,List.not_mem_nil,or_false]at hc;rcases hc with rfl |rfl |rfl |rfl |rfl
      · exact⟨_,hz⟩
      · exact⟨_,hTI⟩
      · exact⟨_,hTO⟩
      · exact⟨_,e1⟩
      · exact⟨_,e2⟩
    obtain⟨o,ho⟩:=hlt;rw [zap (Nat.ne_of_lt (Heap.lt_size ho))];exact(hf c hc).1
  done:=by
    intro X hP hw hK hc i pins s σ H E I hf st hg;subst hP hw hK;obtain⟨xs,ys,ha,hb,hx⟩:=hg;have Z:=zfR I (hf TO (by simp)).1 D st ha hb;obtain⟨hz,hTI,⟨c0,d0,hTO⟩,h1,h2⟩:=st;obtain⟨its,rv,pa,_⟩:=I.seq ha.sq;obtain⟨its2,rv2,pb,_⟩:=I.seq hb.sq;have hl:=rv.length;have hl2:=rv2.length;refine zmI (I.ok.hd hc) Z hz hTI hTO h1 h2 pa pb ?_ fun g eb=>⟨rfl,I.turnedL (fp:=[z,TI,TO,i1,i2]) (t':=s.toks) (fun c o hc q=>?_) hf⟩
    · rcases hx with hx |hx
      · exact .inl (by simp;omega)
      · exact .inr (by simp;omega)
    · simp only[List.mem_cons,List.not_mem_nil,or_false,not_or]at hc;exact eb c o hc.1 hc.2.2.1 hc.2.2.2.1 hc.2.2.2.2 q
  self:=fun A i s Q E st h=>wpAny_pyIter_zip st.1 h
section
variable {X:Cx}{es:List Expr}{x1:Nat}{tpos:Pos}
noncomputable def ztm (K:PySem.W.Frag) (ta:TA):TI:=fun σ H R=>ta σ H fun vs H1=>∃k1 k2 a b xs ys,vs=[.ref a, .ref b]∧SqZ k1 K H1 a xs∧SqZ k2 K H1 b ys∧R (Itz k1 k2 K a b) H1
theorem zqF{a b:Expr}{ta:TA}{p pos:Pos}(hg:Gl X "zip") (hm:X.mg "zip" =none) (ha:PA X [a,b] ta) (hs:starEach [a,b] X.env=[(false,eval a X.env),(false,eval b X.env)]:=by rfl) (hs2:starEach [b] X.env=[(false,eval b X.env)]:=by rfl):PI X (.Tuple es x1 tpos) (.Call (.Name "zip" p) [a,b] [] pos) (ztm X.K ta):=by
 intro pins s σ H R I h;refine Call_ (zgc I hg hm boot_zip (PyProof.Rows.callWith_type1 (thn (ha pos pins s σ H _ I h) fun us s1 ⟨vs,H1,I1,r1,q1⟩=>?_) (by rw [hs,hs2]) (by rw [hs2];rfl)));obtain⟨k1,k2,a,b,xs,ys,e,hq1,hq2,q⟩:=q1;subst e;cases r1 with
 |cons r rr=>
  cases rr with
  |cons r' rr=>
   cases rr;cases(show _=Value.ref a from r);cases(show _=Value.ref b from r');obtain⟨its,rv,pl,_⟩:=I1.seq hq1.sq;obtain⟨its2,rv2,pl2,_⟩:=I1.seq hq2.sq;refine zlf pl pl2 fun g hz hTI hTO h1 h2 hz' kk=>wpAny_pyIter_zip hz ?_;have I2:Inv X pins σ H1 { s1 with heap:=g }:=I1.kept (t':=s1.toks) kk;have ne:∀(n i j:Nat),i≠j→n+i≠n+j:=fun n i j h e=>h (Nat.add_left_cancel e);have D:ZipFar (s1.heap.objs.size+4) (s1.heap.objs.size+2) (s1.heap.objs.size+3) s1.heap.objs.size (s1.heap.objs.size+1):=
    ⟨ne _ 2 4 (by decide),ne _ 3 4 (by decide),ne _ 0 4 (by decide),ne _ 1 4 (by decide),ne _ 2 3 (by decide),ne _ 2 0 (by decide),ne _ 2 1 (by decide),ne _ 3 0 (by decide),ne _ 3 1 (by decide),ne _ 0 1 (by decide)⟩
   refine⟨_,_,_,_,H1,rfl,I2,zkK k1 k2 a b _ _ _ _ _ D,⟨hz,hTI,⟨_,_,hTO⟩,h1,h2⟩,fun c hc=>?_,q⟩;have hb':s1.heap.objs.size≤c:=by
    simp only[List.mem_cons,List.not_mem_nil,or_false]at hc;rcases hc with rfl |rfl |rfl |rfl |rfl
    ·exact Nat.le_add_right _ _
    ·exact Nat.le_add_right _ _
    ·exact Nat.le_add_right _ _
    ·exact Nat.le_refl _
    ·exact Nat.le_add_right _ _
   exact I1.fpOk hb' (I1.hok.fresh hb')
noncomputable def zbQ:List W→List W→List W
 |x::xs,y::ys=> .tup [x,y]::zbQ xs ys
 |_,_=>[]
theorem zgl:∀{xs ys:List W}{i:Nat}{u:W},(zbQ xs ys)[i]? =some u→ ∃x y,xs[i]? =some x∧ys[i]? =some y∧u= .tup [x,y]
 | [],_,_,_,h=>by simp [zbQ]at h
 |_::_,[],_,_,h=>by simp [zbQ]at h
 |x::xs,y::ys,0,u,h=>by
  simp [zbQ]at h;exact⟨x,y,rfl,rfl,h.symm⟩
 |x::xs,y::ys,i+1,u,h=>by simpa using zgl (xs:=xs) (ys:=ys) (i:=i) (u:=u) (by simpa [zbQ]using h)
theorem zgq:∀{xs ys:List W},(zbQ xs ys).length=min xs.length ys.length
 | [],_=>by simp [zbQ]
 |_::_,[]=>by simp [zbQ]
 |x::xs,y::ys=>by simp [zbQ,zgq (xs:=xs) (ys:=ys)]
theorem zor{K:PySem.W.Frag}{k1 k2:Bool}{a b:Addr}{ws us:List W}{G:Sto→Prop}{H0:Hp}{S0:Sto}(h:∀S H,Ext H0 S0 H S→RepS K H S→G S→(∃vs,SqZ k1 K H a vs∧Reps K H ws vs)∧ ∃vs,SqZ k2 K H b vs∧Reps K H us vs):ItW K (Itz k1 k2 K a b) (zbQ ws us) G H0 S0:=fun i S H e hS hG=>by
 obtain⟨⟨xs,hq,r⟩,⟨ys,hq2,r2⟩⟩:=h S H e hS hG;refine⟨fun u eu=>?_,fun hl=>⟨xs,ys,hq,hq2,?_⟩⟩
 ·obtain⟨x,y,ex,ey,rfl⟩:=zgl eu;obtain⟨v,ev,rv⟩:=r.get ex;obtain⟨v2,ev2,rv2⟩:=r2.get ey;refine⟨⟨xs,ys,v,v2,hq,hq2,ev,ev2⟩,fun x H' ⟨p,y1,y2,hp,e1,e2,e3,e4⟩=>?_⟩;subst e1 e2;have f1:=e3 xs hq;have f2:=e4 ys hq2;rw [ev]at f1;cases f1;rw [ev2]at f2;cases f2;exact⟨.new hp,hS.new hp, .tup zaq (.cons (rv.ext (.new (S:=S) hp)) (.cons (rv2.ext (.new (S:=S) hp)) .nil))⟩
 ·rw [zgq]at hl;rw [←r.length,←r2.length];omega
theorem zhE{K:PySem.W.Frag}{H:Hp}{S:Sto}{w:W}{v:V}{Q:List W→(Sto→Prop)→Prop}(r:Rep K H w v) (hS:RepS K H S) (h:zlY w S Q) :
  ∃k a ws G,v= .ref a∧G S∧(∀S' H',Ext H S H' S'→RepS K H' S'→G S'→ ∃vs,SqZ k K H' a vs∧Reps K H' ws vs)∧Q ws G:=by
 cases r with
 |tup f hs=>exact⟨false,_,_,_,rfl,trivial,fun S' H' e hS' _=>⟨_,e.tup _ _ f,hs.ext e⟩,h⟩
 |ref a=>
  obtain⟨ws,ea,h⟩:=zaN h;exact⟨true,_,ws,_,rfl,ea,fun S' H' e hS' g=>by
   obtain⟨vs,f,hs⟩:=hS' a _ g;exact⟨vs, .of f,hs⟩,h⟩
 |scr f=>exact⟨true,_,_,_,rfl,trivial,fun S' H' e hS' _=>⟨_,(e.fz f).sq,Reps.ofInts _⟩,h⟩
 |_=>exact h.elim
noncomputable def zol (t u:WE):WI:=fun E σ S Q=>t E σ S fun x S1=>u E σ S1 fun y S2=>zlY x S2 fun xs G=>zlY y S2 fun ys G'=>Q (zbQ xs ys) (fun S'=>G S'∧G' S') S2
theorem zkf{a b:Expr}{ta tb:WE}{p pos:Pos}(hg:Gl X "zip") (hm:X.mg "zip" =none) (ha:JE X a ta) (hb:JE X b tb) (hs:starEach [a,b] X.env=[(false,eval a X.env),(false,eval b X.env)]:=by rfl) (hs2:starEach [b] X.env=[(false,eval b X.env)]:=by rfl)
  (h3:starEach [a,b] X.env=(false,eval a X.env)::starEach [b] X.env:=by rfl) (h4:starEach [b] X.env=(false,eval b X.env)::starEach [] X.env:=by rfl):JI X (.Tuple es x1 tpos) (.Call (.Name "zip" p) [a,b] [] pos) (zol ta tb):=fun E hE=>
 (zqF hg hm (zbs (ha E hE) (zbs (hb E hE) pa_nil h4) h3) hs hs2).mono fun σ H R ⟨σW,S,QW,hσ,hS,ht,hR⟩=>⟨σW,S,_,hσ,hS,ht,fun x S1 v H1 e1 r1 hS1 h1=>⟨σW,S1,_,hσ.ext e1,hS1,h1,fun y S2 v2 H2 e2 r2 hS2 h2=>by
  obtain⟨k1,a,ws,G,rfl,hG,hq,h⟩:=zhE (r1.ext e2) hS2 h2;obtain⟨k2,b,us,G',rfl,hG',hq',h⟩:=zhE r2 hS2 h;obtain⟨vs,hv,_⟩:=hq S2 H2 .refl hS2 hG;obtain⟨vs',hv',_⟩:=hq' S2 H2 .refl hS2 hG';exact⟨k1,k2,a,b,vs,vs',rfl,hv,hv',hR _ _ S2 _ H2 (e1.trans e2) hS2 ⟨hG,hG'⟩ (zor fun S' H' e hS' g=>⟨hq S' H' e hS' g.1,hq' S' H' e hS' g.2⟩) h⟩⟩⟩
end
section
noncomputable def zoG (hi:Int) (n:Nat):List W:=(List.range n).map fun(i:Nat)=> .int (hi - (i:Int))
noncomputable def ztl (t:WA):WI:=fun E σ S Q=>t E σ S fun ws S1=>match ws with
 | [.int i, .int j, .int c]=>c= -1∧(-(2 ^ 62)≤i∧i<2 ^ 62∧ -(2 ^ 62)≤j∧j<2 ^ 62)∧Q (zoG i (i - j).toNat) (fun _=>True) S1
 |_=>False
end
section
variable {X:Cx}{e:Expr}{es:List Expr}{t:WA}{p pos:Pos}
noncomputable def zqi:WF:=fun ws S Q=>match ws with
 | [.int i]=>Q (.int i) S
 | [.bl b]=>Q (.int (if b then 1 else 0)) S
 |_=>False
theorem zjb{K:PySem.W.Frag}:zjp K (fun xs H Q=>(∃i,xs=[.int i]∧Q (.int i) H)∨ ∃k,xs=[.bl k]∧Q (.int (if k then 1 else 0)) H) zqi:=fun H vs ws S Q QW r hS h hQ=>by
 cases r with
 |nil=>exact h.elim
 |cons r1 r2=>
  cases r2 with
  |cons _ _=>cases r1<;>exact h.elim
  |nil=>
   cases r1 with
   |int i=>exact .inl ⟨i,rfl,hQ _ S _ H .refl (.int _) hS h⟩
   |bl b=>exact .inr ⟨b,rfl,hQ _ S _ H .refl (.int _) hS h⟩
   |_=>exact h.elim
theorem zok (hg:Gl X "int") (hm:X.mg "int" =none) (ha:JA X (e::es) t)
  (he:starEach (e::es) X.env=(false,eval e X.env)::starEach es X.env:=by rfl) (hpl:(backTo pos (starEach es X.env)).any (·.1)=false:=by rfl):JE X (.Call (.Name "int" p) (e::es) [] pos) (wB zqi t):=
 zpa zjX zjb hg hm PyProof.Rows.boot_int ha (by decide) (by decide) he hpl
noncomputable def zrX:WF:=fun ws S Q=>match ws with
 | [.int i, .int j]=>Q (.int (if j > i then j else i)) S
 |_=>False
noncomputable def zrY:WF:=fun ws S Q=>match ws with
 | [.int i, .int j]=>Q (.int (if j<i then j else i)) S
 |_=>False
theorem ziL{tl:WL}(hg:Gl X "tuple") (hm:X.mg "tuple" =none) (ha:JL X e tl)
  (he:starEach [e] X.env=(false,eval e X.env)::starEach [] X.env:=by rfl) (hpl:(backTo pos (starEach [] X.env)).any (·.1)=false:=by rfl):JE X (.Call (.Name "tuple" p) [e] [] pos) (wBL zfl tl):=zpV zdm zgN hg hm PyProof.Rows.boot_tuple ha (by decide) (by decide) he hpl
theorem zhn (hg:Gl X "tuple") (hm:X.mg "tuple" =none) (ha:JA X (e::es) t)
  (he:starEach (e::es) X.env=(false,eval e X.env)::starEach es X.env:=by rfl) (hpl:(backTo pos (starEach es X.env)).any (·.1)=false:=by rfl):JE X (.Call (.Name "tuple" p) (e::es) [] pos) (wB zea t):=zpa zdm zgX hg hm PyProof.Rows.boot_tuple ha (by decide) (by decide) he hpl
end
theorem zro{K:PySem.W.Frag}:∀T∈ ["int", "bool", "str", "tuple", "list"],∀A∈ ["NoneType", "bool", "int", "str", "tuple", "list"],PySem.W.kitOne K (.type A) (.type T)=some (zbc A T):=by
 intro T hT A hA;simp only[List.mem_cons,List.not_mem_nil,or_false]at hT hA;rcases hT with rfl |rfl |rfl |rfl |rfl<;>rcases hA with rfl |rfl |rfl |rfl |rfl |rfl<;>rfl
theorem gl0:∀(ws:List W) (σ:WSt) (S:Sto) (P:WSt→Sto→Prop),zcV ws σ S P→ws.length=0:=fun ws σ S P h=>by
 cases ws with
 |nil=>rfl
 |cons _ _=>exact h.elim
theorem glS{i n:Nat}{u:WGs}(h:∀(ws:List W) (σ:WSt) (S:Sto) (P:WSt→Sto→Prop),u ws σ S P→ws.length=n):∀(ws:List W) (σ:WSt) (S:Sto) (P:WSt→Sto→Prop),zaH (wGN i) u ws σ S P→ws.length=n+1:=fun ws σ S P q=>by
 cases ws with
 |nil=>exact q.elim
 |cons w ws=>exact congrArg (· +1) (h _ _ _ _ q)
noncomputable def zbD:WSp:=fun _ _ _ _=>False
theorem zpf{P:Program}{w:World}{K:PySem.W.Frag}{mg:Str→Option Value}{base:Heap}{f:Addr}{fd:FuncData}{ps:List Str}{k:Nat}:FnOk P w K mg base (CX1 P w) k f fd ps (zbt K zbD):=
 ⟨fun vs H Q E ⟨_,_,_,_,_,_,h,_⟩=>h.elim,fun A outer s H args us vs Q E _ _ _ _ ⟨_,_,_,_,_,_,h,_⟩=>h.elim⟩
section
variable {X:Cx}{a b:Expr}{pos:Pos}{ta tb:WE}{la lb:WL}
noncomputable def zrQ (t:WL) (u:WE):WE:=fun E σ S Q=>t E σ S fun ws S1=>u E σ S1 fun y S2=>match y with
 | .int i=>match atI ws i with
  |some w=>Q w S2
  |none=>False
 |_=>False
theorem zpJ (ha:JL X a la) (hb:JE X b tb) (hs:zhb b:=by intro _ _;rfl):JE X (.Subscript a b pos) (zrQ la tb):=fun E hE=>
 (zqs zmg (ha E hE) (hb E hE) hs).mono fun σ H Q ⟨σW,S,QW,hσ,hS,ht,hQ⟩=>⟨σW,S,_,hσ,hS,ht,fun ws S1 vs p H1 e1 fp ep np r1 hS1 h1=>⟨σW,S1,_,hσ.ext e1,hS1,h1,fun y S2 v2 H2 e2 r2 hS2 h2=>by
  cases r2 with
  |int i=>
   dsimp only at h2;split at h2
   ·obtain⟨v,ev,r⟩:=zhf (r1.ext e2) ‹_›;exact .inl ⟨p,vs,i,v,rfl,rfl, .of (e2.fr p _ ep np).1,ev,hQ _ S2 _ H2 (e1.trans e2) r hS2 h2⟩
   ·exact h2.elim
  |_=>exact h2.elim⟩⟩
noncomputable def zmE (t:WE) (u:WL):WL:=fun E σ S Q=>t E σ S fun x S1=>u E σ S1 fun ys S2=>match x with
 | .ref a=>zbp S2 a fun xs=>xs.length+ys.length≤sizeLine∧Q (xs++ys) S2
 |_=>False
noncomputable def zjL (t u:WL):WL:=fun E σ S Q=>t E σ S fun xs S1=>u E σ S1 fun ys S2=>xs.length+ys.length≤sizeLine∧Q (xs++ys) S2
noncomputable def znk (t:WL) (u:WE):WL:=fun E σ S Q=>t E σ S fun xs S1=>u E σ S1 fun y S2=>match y with
 | .ref a=>zbp S2 a fun ys=>xs.length+ys.length≤sizeLine∧Q (xs++ys) S2
 |_=>False
theorem zjA (ha:JE X a ta) (hb:JL X b lb):JL X (.BinOp a .Add b pos) (zmE ta lb):=fun E hE=>
 (zkE zhz (ha E hE) (hb E hE)).mono fun σ H Q ⟨σW,S,QW,hσ,hS,ht,hQ⟩=>⟨σW,S,_,hσ,hS,ht,fun w1 S1 v1 H1 e1 r1 hS1 h1=>⟨σW,S1,_,hσ.ext e1,hS1,h1,fun ys S2 us q H2 e2 fq eq nq r2 hS2 h2=>by
  cases r1 with
  |ref p=>
   obtain⟨xs,ea,h⟩:=zaN h2;obtain⟨vs,f1,q1⟩:=hS2 p _ ea;exact⟨p,q,vs,us,rfl,rfl,f1,eq,by rw [←q1.length,←r2.length];exact h.1,fun p hp=>hQ _ S2 _ p _ ((e1.trans e2).trans (.new hp)) ((e1.trans e2).free hp) zaq (hS2.free hp) ((q1.append r2).ext (.new (S:=S2) hp)) (hS2.new hp) h.2⟩
  |_=>exact h2.elim⟩⟩
theorem zgU (ha:JL X a la) (hb:JL X b lb):JL X (.BinOp a .Add b pos) (zjL la lb):=fun E hE=>
 (zkE zhz (ha E hE) (hb E hE)).mono fun σ H Q ⟨σW,S,QW,hσ,hS,ht,hQ⟩=>⟨σW,S,_,hσ,hS,ht,fun xs S1 vs p H1 e1 fp ep np r1 hS1 h1=>⟨σW,S1,_,hσ.ext e1,hS1,h1,fun ys S2 us q H2 e2 fq eq nq r2 hS2 h2=>
  ⟨p,q,vs,us,rfl,rfl,(e2.fr p _ ep np).1,eq,by rw [←r1.length,←r2.length];exact h2.1,fun z hz=>hQ _ S2 _ z _ ((e1.trans e2).trans (.new hz)) ((e1.trans e2).free hz) zaq (hS2.free hz) (((r1.ext e2).append r2).ext (.new (S:=S2) hz)) (hS2.new hz) h2.2⟩⟩⟩
theorem znA (ha:JL X a la) (hb:JE X b tb):JL X (.BinOp a .Add b pos) (znk la tb):=fun E hE=>
 (zkE zhz (ha E hE) (hb E hE)).mono fun σ H Q ⟨σW,S,QW,hσ,hS,ht,hQ⟩=>⟨σW,S,_,hσ,hS,ht,fun xs S1 vs p H1 e1 fp ep np r1 hS1 h1=>⟨σW,S1,_,hσ.ext e1,hS1,h1,fun y S2 v2 H2 e2 r2 hS2 h2=>by
  cases r2 with
  |ref q=>
   obtain⟨ys,ea,h⟩:=zaN h2;obtain⟨us,f2,q2⟩:=hS2 q _ ea;exact⟨p,q,vs,us,rfl,rfl,(e2.fr p _ ep np).1,f2,by rw [←r1.length,←q2.length];exact h.1,fun z hz=>hQ _ S2 _ z _ ((e1.trans e2).trans (.new hz)) ((e1.trans e2).free hz) zaq (hS2.free hz) (((r1.ext e2).append q2).ext (.new (S:=S2) hz)) (hS2.new hz) h.2⟩
  |_=>exact h2.elim⟩⟩
theorem Reps.rep{K:PySem.W.Frag}{H:Hp}{ws:List W}{vs:List V}(h:Reps K H ws vs):∀k:Nat,Reps K H (List.replicate k ws).flatten (List.replicate k vs).flatten
 |0=> .nil
 |k+1=>by
  rw [List.replicate_succ,List.replicate_succ,List.flatten_cons,List.flatten_cons];exact h.append (Reps.rep h k)
end
theorem zkW{K:PySem.W.Frag}{H:Hp}{a:Addr}{ns:List Int}{c:WSp}{E:XK}(hO:zqU H) (hS:SqL K H a (ns.map V.int)) (h:c [.scr ns] (fun _=>none) (fun w _=>w= .bl true) (fun _ _=>False)):zbt K c [.ref a] H (fun v _=>v= .bl true) E:=by
 have fz:FzL K H a (ns.map V.int):=by
  rcases hS with(hS |⟨o,hS⟩) |hS
  ·rcases hO a with z |⟨o,xs,z⟩
   ·rw [hS]at z;cases z
   ·rw [hS]at z;cases z
  ·exact .inl ⟨o,hS⟩
  ·exact .inr hS
 refine⟨[.scr ns],fun _=>none,_,fun _ _=>False, .one (.scr fz),(fun a o e=>by cases e),h,fun w S v H' e r hS' q=>?_,fun _ _ _ _ _ _ z=>z.elim⟩
 subst q;cases r;rfl
section
variable {X:Cx}{a b:Expr}{p pos:Pos}
noncomputable def zjr:W2
 | .tup xs, .int k,S,Q=>(xs≠ []∧ -(2 ^ 63)≤k∧k<2 ^ 63∧xs.length*k.toNat≤sizeLine)∧Q (.tup (List.replicate k.toNat xs).flatten) S
 |_,_,_,_=>False
theorem zli{K:PySem.W.Frag}:OpW K (zoN K) zjr:=fun H x y wx wy S Q QW rx ry hS h hQ=>by
 cases rx with
 | @tup a vs ws f hs=>
  cases ry with
  |int k=>
   obtain⟨⟨h0,h1,h2,h3⟩,h⟩:=h;have hl:=hs.length;refine⟨a,k,vs,rfl,rfl, .of f,?_,h1,h2,by rw [←hl];exact h3,fun hk=>?_,fun hk p hp=>?_⟩
   ·rintro rfl;cases hs;exact h0 rfl
   ·subst hk;have:(List.replicate (Int.toNat 1) ws).flatten=ws:=by simp
    rw [this]at h;exact hQ _ S _ H .refl (.tup f hs) hS h
   ·exact hQ _ S _ _ (.new hp) (.tup zaq ((hs.rep k.toNat).ext (.new (S:=S) hp))) (hS.new hp) h
  |_=>exact h.elim
 |_=>cases ry<;>exact h.elim
theorem zjl{ta tb:WE}(ha:JE X a ta) (hb:JE X b tb):JE X (.BinOp a .Mult b pos) (wOp zjr ta tb):=zij zns zli ha hb
end
section
variable {K:PySem.W.Frag}{H:Hp}
noncomputable abbrev RepD (K:PySem.W.Frag) (H:Hp):List (List Int×W)→List (List Key×V)→Prop:=Paired fun q p=>p.1=q.1.map Sum.inl∧Rep K H q.2 p.2
theorem RepD.length{kvs:List (List Int×W)}{ps:List (List Key×V)}(r:RepD K H kvs ps):kvs.length=ps.length:=Paired.length r
end
section
variable {X:Cx}{o:Expr}{to:WE}{apos cpos:Pos}
noncomputable def zmb:V→List V→Hp→VK→Prop:=fun x vs H Q=>∃z:Str,x= .str z∧vs=[]∧z.length≤5592405∧Q (.str (Txt.upper z)) H
theorem zkS:MtR X "str.upper" zmb:=by
 intro pins s σ H x vs v us Q I rx rv h;obtain⟨z,rfl,rfl,hz,q⟩:=h;obtain⟨t,rfl⟩:=rx;cases rv;exact SCL.upper hz fun _=>⟨.str (Txt.upper z),H,I.tok _,⟨_,rfl⟩,q⟩
noncomputable def zhl:WMf:=fun w ws S Q=>match w,ws with
 | .str z,[]=>z.length≤5592405∧Q (.str (Txt.upper z)) S
 |_,_=>False
theorem zkm{K:PySem.W.Frag}:MtW K zmb zhl:=fun H x w vs ws S Q QW r rs hS h hQ=>by
 cases r with
 |str z=>
  cases rs with
  |nil=>exact⟨z,rfl,rfl,h.1,hQ _ S _ H .refl (.str _) hS h.2⟩
  |cons _ _=>exact h.elim
 |_=>exact h.elim
theorem zkD (ho:JE X o to) (hbase:attributeBase o "upper" X.env (eval o X.env)=eval o X.env:=by rfl) (hline:(apos.endLine == cpos.line)=true:=by rfl):JE X (.Call (.Attribute o "upper" apos) [] [] cpos) (wM rvS zhl to waNil):=
 zrC PySem.F.plainAttrs_str PySem.F.slot_str_upper PySem.F.type_str_upper zmt zkS zkm ho hbase hline
end
end L2
end
section
namespace L2
open PySem PySem.Spec PyProof.Rows PySem.W PySem.Calls Builtin Builtin.ObjectAttr Builtin.Getset_descriptor
structure XcOk (K:Frag) (C:Addr):Prop where
  ga:findIn K (.ref C) "__getattribute__" =some (some (.builtin "BaseException.__getattribute__"))
  gt:findIn K (.ref C) "__getattr__" =some none
  cl:findIn K (.ref C) "__class__" =some (some (.builtin "object.__class__"))
  ob:mroIn K C (.type "object")=some true
  be:mroIn K C (.type "BaseException")=some true
section
variable {prog:Program}{w:World}{A:Around}{E:Value→Shared→Prop}{h:Heap}{g:Array GenState}{d:Drawn}{t:Nat}{os:OsState}{a C:Addr}{o:Obj}{K:Frag}
theorem znC{M:Model}(hx:h.get? a=some o) (hc:o.cls= .ref C):Looks M h (typeOf (.ref a)) (.ref C):=hc▸(Looks.ld hx).andThen .now
theorem zpH{R:Result→Shared→Prop}(O:XcOk K C) (X:K.In h) (hx:h.get? a=some o) (hc:o.cls= .ref C) (hq:R (.ok (.ret (.ref C))) ⟨h,g,d,t,os⟩) :
  codeAny (model prog w) A (.call (.builtin "getset_descriptor.__get__") ⟨[.builtin "object.__class__", .ref a, .ref C],[]⟩) R ⟨h,g,d,t,os⟩:=by
 have L0:=znC (M:=model prog w) hx hc;have L1:=looks_mroIn (M:=model prog w) X O.ob;refine codeAny_call_builtin KF.slot_gs.plain KF.entry_gs (KF.slot_gs.check _ _ _ _ _ _ _ _ KF.type_class (KF.args_gs _ _ _) ?_);unfold Builtin.«getset_descriptor.__get__» descrGet;rw [dga_obj];refine wpAny_bind (wpAny_pure ?_);unfold descrGetter descrCheckInstance descrNameAndClass isInstance;simp only[KF.owner_class]
 repeat lk
 refine⟨Code.quiet_builtin _ (by decide +kernel),codeAny_builtin KF.entry_class ?_⟩;unfold Builtin.«object.__class__» shownTypeOf
 repeat lk
 exact hq
theorem zlg{tk:Tok}{Q:Fin→Shared→Prop}(O:XcOk K C) (X:K.In h) (hx:h.get? a=some o) (hc:o.cls= .ref C) (hq:Q (.done (.ret (.ref C))) ⟨h,g,d,t,os⟩) :
  wpAny (model prog w) A (Builtin.«object.__getattribute__» ⟨[.ref a, .str "__class__" tk],[]⟩) Q E ⟨h,g,d,t,os⟩:=by
 have hT5:(⟨h,g,d,t,os⟩:Shared).TypeIs (.builtin "object.__class__") "getset_descriptor" :=F.typeOf_object_class;have f5:=F.typeOf_object_class;have f6:=F.slot_gs_get.lookup;have f7:=F.slot_gs_set.lookup;have L1:=looks_findIn (M:=model prog w) X O.cl
 repeat (any_goals (first |assumption | (with_reducible refine wpAny_loadPart_at hx ?_;rw [hc]) |with_reducible refine L1.at ?_ |wp_step))
 refine zpH O X hx hc ?_
 repeat (any_goals (first |assumption |wp_step))
theorem zlv{M:Model}{nameV:Value}{Q:Unit→Shared→Prop}(O:XcOk K C) (X:K.In h) (hx:h.get? a=some o) (hc:o.cls= .ref C) (hq:Q () ⟨h,g,d,t,os⟩):wpAny M A (checkBuiltinCall "BaseException.__getattribute__" ⟨[.ref a,nameV],[]⟩) Q E ⟨h,g,d,t,os⟩:=by
 have hk:builtinKind "BaseException.__getattribute__" =some .slot:=by decide +kernel
 have hsplit:splitId "BaseException.__getattribute__" =some ("BaseException", "__getattribute__"):=by decide +kernel
 have L1:=looks_mroIn (M:=M) X O.be;have ha:=F.args_bexc_ga (.ref a) nameV;simp only[checkBuiltinCall,hk,hsplit];refine wpAny_bind ?_;unfold isInstance
 repeat (first | (with_reducible refine wpAny_loadPart_at hx ?_;rw [hc]) |with_reducible refine L1.at ?_ |wp_step)
 exact hq
theorem zmO{tk:Tok}{R:Result→Shared→Prop}(O:XcOk K C) (X:K.In h) (hx:h.get? a=some o) (hc:o.cls= .ref C) (hq:R (.ok (.ret (.ref C))) ⟨h,g,d,t,os⟩) :
  codeAny (model prog w) A (.call (.builtin "BaseException.__getattribute__") ⟨[.ref a, .str "__class__" tk],[]⟩) R ⟨h,g,d,t,os⟩:=
 codeAny_call_builtin F.excAttr_ValueError.ga.plain F.entry_bexc_ga (zlv O X hx hc (zlg O X hx hc hq))
theorem zsd{tk:Tok}{fill expr:Bool}{Q:Value→Shared→Prop}(O:XcOk K C) (X:K.In h) (hx:h.get? a=some o) (hc:o.cls= .ref C) (hq:Q (.ref C) ⟨h,g,d,t,os⟩) :
  wpAny (model prog w) A (getAttrBy (.ref a) (.str "__class__" tk) fill expr) Q E ⟨h,g,d,t,os⟩:=by
 have f3:=F.excAttr_ValueError.ga.bind (.ref a);have hx0:(expr&&onTheHeap (Value.builtin "BaseException.__getattribute__"))=false:=by cases expr<;>rfl
 have hx2:(Value.builtin "BaseException.__getattribute__" == Value.builtin "object.__getattribute__")=false:=by decide +kernel
 have hx1:(onTheHeap (Value.ref C)&&Value.builtin "BaseException.__getattribute__" == Value.builtin "object.__getattribute__")=false:=by rw [hx2];rfl
 have L1:=looks_findIn (M:=model prog w) X O.ga;have L2:=looks_findIn (M:=model prog w) X O.gt
 repeat (any_goals (first |assumption | (with_reducible refine wpAny_loadPart_at hx ?_;rw [hc]) |with_reducible refine L1.at ?_ |with_reducible refine L2.at ?_ |wp_step))
 refine zmO O X hx hc ?_
 repeat (any_goals (first |assumption |wp_step))
theorem znW{Q:Option Value→Shared→Prop}(O:XcOk K C) (X:K.In h) (hx:h.get? a=some o) (hc:o.cls= .ref C) (hq:Q (some (.ref C)) ⟨h,g,d,t+1,os⟩):wpAny (model prog w) A (getAttr? (.ref a) "__class__") Q E ⟨h,g,d,t,os⟩:=by
 unfold getAttr? getAttrBy?
 repeat (any_goals (first |assumption |with_reducible apply zsd O X hx hc |wp_step))
theorem zlG (O:XcOk K C):KitX K (.ref a) (.ref C) (fun h=>∃o,h.get? a=some o∧o.cls= .ref C) where
  ty:=fun _ _ _ ⟨o,hx,hc⟩=>znC hx hc
  it:=fun _ _ X _=>by
    obtain⟨cd,hcD,_⟩:=Option.bind_eq_some_iff.mp O.ob;unfold clsIn at hcD;split at hcD
    · rename_i c' d' cd' sl' ho;intro A' Q' E' s' k q;unfold isType loadHead;exact wpAny_bind (wpAny_loadPart (k _ _ (X _ _ ho)) (wpAny_pure q))
    · cases hcD
  ne:=fun h tp dd its n sl X htp=>by
    obtain⟨cd,hcD,_⟩:=Option.bind_eq_some_iff.mp O.ob;refine Bool.eq_false_iff.mpr fun q=>?_;have e:C=tp:=Value.ref.inj (beq_iff_eq.mp q);subst e;unfold clsIn at hcD;split at hcD
    · rename_i c' d' cd' sl' ho;have z:=(X _ _ ho).symm.trans htp;cases z
    · cases hcD
  ca:=fun {_ _ _ _ _ s} X ⟨o,hx,hc⟩ k=>by
    obtain⟨h,g,d,t,os⟩:=s;exact znW O X hx hc k
end
noncomputable abbrev bmV:List Value:=[.type "ValueError", .type "Exception", .type "BaseException", .type "object"]
structure XcIn (K:PySem.W.Frag) (x:Str) (C:Addr):Prop where
  nm:PySem.W.nsIn K mainGlobals x=some (some (.ref C))
  ex:PySem.W.excIn K C bmV "ValueError.__new__" =true
  xc:XcOk K C
theorem XcIn.own{K:PySem.W.Frag}{x:Str}{C:Addr}{h:Heap}{mg:Str→Option Value}(O:XcIn K x C) (X:K.In h) (G:h.Ns mainGlobals mg):OwnCls x C bmV "ValueError.__new__" mg h:=by
 have q:=O.ex;refine⟨PySem.W.mg_of X G O.nm,?_⟩;unfold PySem.W.excIn at q;split at q
 ·rename_i dd cd sl ho;split at q
  ·rename_i C' bm k0 k1 k2 k3 n k5 hm hs;simp only[Bool.and_eq_true,beq_iff_eq,Bool.not_eq_true']at q;obtain⟨⟨⟨⟨⟨rfl,hnn⟩,hdel⟩,ht⟩,hok⟩,hni⟩:=q;obtain⟨nm,bs,mro,ns,qn,hd,sn,sub,ab,col,del⟩:=cd;dsimp only at hm hdel hok hni;subst hm hdel;have hsl:sl= #[k0,k1,k2,k3,some (.builtin n),k5]:=by
    obtain⟨l⟩:=sl;simp only at hs;rw [hs]
   subst hsl;subst hnn;exact⟨bm,ns,nm,qn,bs,hd,sn,sub,ab,col,dd,k0,k1,k2,k3,k5,_,X _ _ ho, .of_isNs (PySem.W.isNs_of_in X hok),PySem.W.nsMap_none_of_in X hok hni,PySem.W.tail_of_in X ht⟩
  ·cases q
 ·cases q
noncomputable def zfF (x:Str) (t:WA):WS:=fun E _ σ S=>t E σ S fun ws S1=>ws.length≤sizeLine∧E x σ S1
theorem zeV{X:Cx}{x:Str}{C:Addr}{e:Expr}{es:List Expr}{t:WA}{np cpos pos:Pos}(O:XcIn X.K x C) (hg:Gl X x) (hm:X.mg x=some (.ref C)) (ha:JA X (e::es) t) (hcl:X.calm=true:=by rfl) (hdb:(x == ("__debug__" :Str))=false:=by decide)
  (he:starEach (e::es) X.env=(false,eval e X.env)::starEach es X.env:=by rfl) (hpl:(backTo cpos (starEach es X.env)).any (·.1)=false:=by rfl) :
  JS X (.Raise (some (.Call (.Name x np) (e::es) [] cpos)) none pos) (zfF x t):=fun E hE pins s σ H D I z=>by
 obtain⟨σW,S,DW,hσ,hS,ht,hD⟩:=z;have OC:=(O.own I.mod.kin I.mod.glob).keeps I.bk;obtain⟨tl,N,nm,q,bs,hdct,sn,sub,ab,col,dd,k0,k1,k2,k3,k5,mN,hC,hN,hni,T⟩:=(O.own I.mod.kin I.mod.glob).obj;refine wpAny_Raise_call_subT (C:=C) (nm:=nm) (q:=q) (N:=N) (bs:=bs) (bm:=tl) (hdct:=hdct) (sn:=sn) (sub:=sub) (ab:=ab) (col:=col) (dd:=dd) (k0:=k0) (k1:=k1) (k2:=k2) (k3:=k3) (k5:=k5)
  F.excBase_ValueError (mN:=mN) (T.hasType F.excBase_ValueError.hasBase) (I.ok.hd hcl) (by rw [he];show(false || (backTo cpos (starEach es X.env)).any (·.1))=false;rw [hpl];rfl) hni (zel I hg hm ⟨rfl,?_⟩ hdb)
 have go:=ha E hE cpos pins s σ H (fun vs H1=>∃ws S1,Reps X.K H1 ws vs∧RpSt X.K H1 σW σ∧RepS X.K H1 S1∧ws.length≤sizeLine∧E x σW S1) I ⟨σW,S,_,hσ,hS,ht,fun ws S1 vs H1 e1 r1 hS1 h1=>⟨ws,S1,r1,hσ.ext e1,hS1,h1.1,h1.2⟩⟩;rw [he]at go⊢;refine Calls.evalArgs_plain (wpAny_mono go (fun us s2 ⟨vs,H1,I1,r,ws,S1,r1,hσ1,hS1,hl,h1⟩=>?_) fun _ _ y=>y);refine⟨rfl,by rw [←r.length,←r1.length];exact hl,I1.bk _ _ hC,hN.keeps I1.bk,T.keeps I1.bk,fun h' a me=>?_⟩
 exact hE.near pins σ H1 s2 σW x C a S1 h' us I1 hσ1 O.nm me hS1 h1
noncomputable abbrev noX:WX:=fun _ _ _=>False
theorem zot{X:Cx}(h:PassesOwn (model X.prog X.w) X.A X.env X.xe):Hook X noX:=⟨h,fun _ _ _ _ _ _ _ _ _ _ _ _ _ _ _ _ _ _ _ _ z=>z.elim,fun _ _ _ _ _ _ _ _ _ _ _ _ _ _ _ _ z=>z.elim⟩
noncomputable abbrev Cx.at (X:Cx) (pn:List (Addr×Obj)) (E:Value→Shared→Prop):Cx:={ X with pn:=pn,xe:=E }
section
variable {X:Cx}{pins pins':List (Addr×Obj)}{σ:St}{H:Hp}{s:Shared}{E:Value→Shared→Prop}
theorem Cx.Ok.at (ok:X.Ok) (pn:List (Addr×Obj)) (E:Value→Shared→Prop):(X.at pn E).Ok:=
 ⟨ok.mod,ok.kind,ok.glob,ok.blt,ok.above,ok.inj,ok.has,ok.cab,ok.hd,ok.frames,ok.stk,ok.exf,ok.bs,ok.bsz,ok.noex,ok.exfs,ok.funs,ok.frf⟩
theorem Cx.Ok.unat{pn:List (Addr×Obj)}(ok:(X.at pn E).Ok):X.Ok:=
 ⟨ok.mod,ok.kind,ok.glob,ok.blt,ok.above,ok.inj,ok.has,ok.cab,ok.hd,ok.frames,ok.stk,ok.exf,ok.bs,ok.bsz,ok.noex,ok.exfs,ok.funs,ok.frf⟩
theorem Inv.at (I:Inv X pins σ H s) (E:Value→Shared→Prop):Inv (X.at (X.pn++pins) E) [] σ H s:=⟨I.ok.at _ E,I.os,I.bare,I.base,I.loc,I.cell,I.free,I.freeC,fun p hp=>I.pin p (by simpa using hp),I.hok,I.len⟩
theorem Inv.unat (I:Inv (X.at (X.pn++pins) E) pins' σ H s):Inv X pins σ H s:=⟨I.ok.unat,I.os,I.bare,I.base,I.loc,I.cell,I.free,I.freeC,fun p hp=>I.pin p (List.mem_append_left _ hp),I.hok,I.len⟩
theorem SP.unat{D:Ends}{f:Flow}{s':Shared}(h:SP (X.at (X.pn++pins) E) [] D f s'):SP X pins D f s':=by
 cases f with
 |next=>obtain⟨σ',H',I,q⟩:=h;exact⟨σ',H',I.unat,q⟩
 |brk=>obtain⟨σ',H',I,q⟩:=h;exact⟨σ',H',I.unat,q⟩
 |cont=>obtain⟨σ',H',I,q⟩:=h;exact⟨σ',H',I.unat,q⟩
 |ret u=>obtain⟨v,σ',H',I,r,q⟩:=h;exact⟨v,σ',H',I.unat,r,q⟩
end
noncomputable def zoF (X:Cx) (pins:List (Addr×Obj)) (σ:St) (σW:WSt) (H:Hp) (S:Sto) (E:WX) (e:Value) (s':Shared):Prop:=∃(cl:Str) (C a:Addr) (H1:Hp) (s1:Shared) (H':Hp) (S':Sto),e= .ref a∧PySem.W.nsIn X.K mainGlobals cl=some (some (.ref C))∧Inv X pins σ H1 s1∧
 s'.os=s1.os∧AllBare s'.gens∧Un (frs X.stack) [] H1 H' s1.heap s'.heap∧HOk X.prog X.w H' s'.heap∧Fly s1.heap s'.heap H' a C∧Ext H S H' S'∧RepS X.K H' S'∧E cl σW S'
noncomputable def zrg (X:Cx) (E:WX) (t:WE):TE:=fun σ H Q=>∃σW S QW,RpSt X.K H σW σ∧RepS X.K H S∧t E σW S QW∧Wish X.K H S QW Q∧ ∀pins e s',zoF X pins σ σW H S E e s'→X.xe e s'
noncomputable def zmn (X:Cx) (E:WX) (t:WS):TS:=fun D σ H=>∃σW S DW,RpSt X.K H σW σ∧RepS X.K H S∧t E DW σW S∧Meets X.K H S DW D∧ ∀pins e s',zoF X pins σ σW H S E e s'→X.xe e s'
noncomputable def JXE (X:Cx) (e:Expr) (t:WE):Prop:=∀E,PassesOwn (model X.prog X.w) X.A X.env X.xe→PE X e (zrg X E t)
noncomputable def JXS (X:Cx) (st:Stmt) (t:WS):Prop:=∀E,PassesOwn (model X.prog X.w) X.A X.env X.xe→PS X st (zmn X E t)
noncomputable def JXs (X:Cx) (st:List Stmt) (t:WS):Prop:=∀E,PassesOwn (model X.prog X.w) X.A X.env X.xe→PSs X st (zmn X E t)
noncomputable def ziv (c:WSp) (t:WA):WE:=fun E σ S Q=>t noX σ S fun ws S1=>c ws S1 Q fun cl S2=>E cl σ S2
section
variable {X:Cx}{k:Nat}{f:Addr}{fd:FuncData}{ps:List Str}{c:WSp}{x:Str}{p pos:Pos}{e:Expr}{es:List Expr}{t:WA}{te:WE}{st:Stmt}{a:List Stmt}{ta:WS}
theorem znn (F:FnOk X.prog X.w X.K X.mg X.base (CX1 X.prog X.w) k f fd ps (zbt X.K c)) (hr:Room k X.A) (hg:Gl X x) (hm:X.mg x=some (.ref f)) (hk:PySem.W.keepIn X.K (.ref f)=true) (hb:Binds X.K fd ps [])
  (ha:JA X (e::es) t) (hdb:(x == ("__debug__" :Str))=false:=by decide) (he:starEach (e::es) X.env=(false,eval e X.env)::starEach es X.env:=by rfl) (hpl:(backTo pos (starEach es X.env)).any (·.1)=false:=by rfl) :
  JXE X (.Call (.Name x p) (e::es) [] pos) (ziv c t):=fun E hp pins s σ H Q I h=>by
 obtain⟨σW,S,QW,hσ,hS,ht,hQ,hF⟩:=h;refine wpAny_Call_Name_kw (zel I hg hm ?_ hdb);refine PySem.W.callWith_K (h₀:=X.base) I.ok.mod.kin hk (thn (ha noX (zot hp) pos pins s σ H (fun vs H1=>∃ws S1,Reps X.K H1 ws vs∧RpSt X.K H1 σW σ∧RepS X.K H1 S1∧c ws S1 QW (fun cl S'=>E cl σW S')∧Wish X.K H1 S1 QW Q∧Ext H S H1 S1) I
  ⟨σW,S,_,hσ,hS,ht,fun ws S1 vs H1 e1 r1 hS1 h1=>⟨ws,S1,r1,hσ.ext e1,hS1,h1,hQ.from e1,e1⟩⟩) fun us s1 ⟨vs,H1,I1,r,ws,S1,r1,hσ1,hS1,h1,hQ1,e1⟩=>⟨I1.kIn,?_⟩) he hpl
 exact zqz (E:=E) F hr hb I1 r r1 hσ1 hS1 h1 hQ1 fun cl C a H' S' s' hn os bare un ok fly ex hS' q=>hF pins _ s' ⟨cl,C,a,H1,s1,H',S',rfl,hn,I1,os,bare,un,ok,fly,e1.trans ex,hS',q⟩
theorem znb (he:JXE X e te) (hs:swapsWith e none pos.line X.env=pure false:=by rfl):JXS X (.Expr e pos) (zcB te):=fun E hp=>
 (zjI (he E hp) hs).mono fun D σ H ⟨σW,S,DW,hσ,hS,ht,hD,hF⟩=>⟨σW,S,_,hσ,hS,ht,fun w S1 v H1 e1 r1 hS1 h1=>hD.nx σW S1 σ H1 e1 (hσ.ext e1) hS1 h1,hF⟩
theorem zoQ (h:JXS X st ta):JXs X [st] ta:=fun E hp=>zkr (h E hp)
end
theorem zpB{P:Program}{w:World}{base g h h3:Heap}{l:List Env}{H1 H':Hp}{a C:Addr}{hid:List Addr}(un:Un (frs l) [] H1 H' g h) (ok:HOk P w H' h) (ff0:h.FunFrames base l) (fr:∀b∈frs l,H' b=none)
  (h0:∀b∈hid,g.get? b=none∧H' b=none) (ha:a∈hid) (L:Heap.Left (PySem.W.hideAll h (hid++frs l)) l a (.ref C) h h3):Un (frs l) [] H1 H' g h3∧HOk P w H' h3∧Fly g h3 H' a C:=by
 obtain⟨st,ff,tr,sl⟩:=L;have keepB:∀b o,h.get? b=some o→b∉hid→b∉frs l→h3.get? b=some o:=fun b o e h1 h2=>st b o (PySem.W.hideAll_get _ e fun z=>(List.mem_append.mp z).elim h1 h2);have nh:∀b o,g.get? b=some o→b∉hid:=fun b o e hb=>by rw [(h0 b hb).1]at e;cases e
 have slotB:∀b o,b∈frs l→h.get? b=some o→ ∃sl,h3.get? b=some { o with slots:=sl }:=fun b o hb e=>by
  obtain⟨_,o',eo',nf⟩:=ff0.mem hb;rw [e]at eo';cases eo';exact sl b o e nf
 have nx:∀b:Addr,b∉([]:List Addr):=fun b=>by simp
 refine⟨⟨fun b o e n hb _=>keepB b o (un.keep b o e n hb (nx b)) (nh b o e) hb,fun b o e n hb _=>?_,fun b o e n _=>un.free b o e n (nx b),fun b o e _=>?_,un.tups,un.frzs,un.tbls⟩,fun b o e=>?_,(h0 a ha).1,(h0 a ha).2,?_⟩
 ·obtain⟨sl1,e1⟩:=un.slot b o e n hb (nx b);obtain⟨sl2,e2⟩:=slotB b _ hb e1;exact⟨sl2,e2⟩
 ·obtain⟨o',e1⟩:=un.there b o e (nx b);by_cases hb:b∈frs l
  ·obtain⟨sl2,e2⟩:=slotB b _ hb e1;exact⟨_,e2⟩
  ·exact⟨o',keepB b o' e1 (nh b o e) hb⟩
 ·refine(ok b o e).stay (fun c u hc q=>?_) (fun _ q=>q) fun _ _ q=>q;have tk:∃v,H' c=some v:=by
   rcases hc with z |z
   ·exact⟨o,by rw [z];exact e⟩
   ·exact⟨_,z⟩
  obtain⟨v,tk⟩:=tk;exact keepB c u q (fun z=>by rw [(h0 c z).2]at tk;cases tk) fun z=>by rw [fr c z]at tk;cases tk
 ·obtain⟨oe,vs,T,oT,ts,e1,e2,e3,e4,e5,e6,e7,e8,e9⟩:=tr;have nf:T∉frs l:=fun hb=>by
   obtain⟨_,o,eo,nf⟩:=ff.mem hb;rw [e7]at eo;cases eo;exact nf ts e8
  have both:g.get? T=none∧H' T=none:=by
   by_cases hT:T∈hid
   ·exact h0 T hT
   ·have z:h.get? T=none:=by
     cases q:h.get? T with
     |none=>rfl
     |some o=>
      rw [PySem.W.hideAll_get _ q fun z=>(List.mem_append.mp z).elim hT nf]at e5;cases e5
    constructor
    ·cases q:g.get? T with
     |none=>rfl
     |some o=>obtain⟨o',q'⟩:=un.there T o q (nx T);rw [z]at q';cases q'
    ·cases q:H' T with
     |none=>rfl
     |some u=>obtain⟨o',q'⟩:=(ok T u q).ex;rw [z]at q';cases q'
  exact⟨oe,vs,T,oT,ts,e1,e2,e3,e4,both.1,both.2,e6,e7,e8,e9⟩
theorem Heap.TracedW.tr{h base:Heap}{e:Addr}{cls a0:Value}(x:Heap.TracedW h base e cls a0):Heap.Traced h base e cls:=by
 obtain⟨oe,vs,T,oT,ts,he,⟨hcls,h0⟩,r⟩:=x;exact⟨oe,vs,T,oT,ts,he,hcls,r⟩
section
variable {X:Cx}{pins:List (Addr×Obj)}{σ:St}{H1 H':Hp}{s1 s':Shared}{a C:Addr}{M:Model}{A:Around}{E:Value→Shared→Prop}{R:Shared→Prop}
theorem ziO (I1:Inv X pins σ H1 s1) (hst:X.stack=X.env::X.outer) (hf:X.env.frame=some X.env.locals) (os:s'.os=s1.os) (bare:AllBare s'.gens) (un:Un (frs X.stack) [] H1 H' s1.heap s'.heap) (ok:HOk X.prog X.w H' s'.heap) (fly:Fly s1.heap s'.heap H' a C) (hA:A.frames=some X.stack)
  (k:∀h3,Inv X pins σ H' { s' with heap:=h3 }→Un (frs X.stack) [] H1 H' s1.heap h3→HOk X.prog X.w H' h3→Fly s1.heap h3 H' a C→R { s' with heap:=h3 }) :
  wpAny M A (noteFrame (.ref a) X.env) (fun _ s₂=>wpAny M A (setFlight (.ref a) none) (fun _ s₃=>R s₃) E s₂) E s':=by
 have I2:Inv X pins σ H' s':=I1.call' os un ok bare (fun _ z=>nomatch z);have ff:=I2.stack;have fr:=I2.stkFree;obtain⟨g1,g2,oe,vs,T,oT,ts,e1,e2,e3,e4,g3,g4,e5,e6,e7,e8⟩:=fly;have sz:1<vs.size:=(Array.getElem?_eq_some_iff.mp e4).1;have hid:∀b∈ [a,T],s1.heap.get? b=none∧H' b=none:=fun b hb=>by
  rcases List.mem_cons.mp hb with rfl |hb
  ·exact⟨g1,g2⟩
  ·rw [List.mem_singleton.mp hb];exact⟨g3,g4⟩
 have st:∀h3,Heap.Left (PySem.W.hideAll s'.heap ([a,T]++frs X.stack)) X.stack a (.ref C) s'.heap h3→R { s' with heap:=h3 }:=fun h3 L=>by
  obtain⟨u1,u2,u3⟩:=zpB un ok ff fr hid (by simp) L;exact k h3 (I1.call' (s':={ s' with heap:=h3 }) os u1 u2 bare (fun _ z=>nomatch z)) u1 u2 u3
 rw [hst]at hA ff st;refine wpAny_noteFrame_onW (base:=PySem.W.hideAll s'.heap ([a,T]++frs (X.env::X.outer))) (cls:= .ref C) (a0:=vs[0]) hA (zfh ff) hf ⟨oe,vs,T,oT,ts,e1,⟨e2,Array.getElem?_eq_getElem _⟩,e3,e4,PySem.W.hideAll_none _ (by simp),e5,e6,e7,e8⟩ (fun b o z=>PySem.W.of_hideAll _ z) (PySem.W.hideAll_none _ (by simp)) fun h2 N=>?_;obtain⟨n1,n2,n3,n4⟩:=N;refine wpAny_setFlight_noneW (s:={ s' with heap:=h2 }) n1 n2 n3 fun h3 k1 k2 k3 k4=>?_;exact st h3 ⟨k1,k2,Heap.TracedW.tr k3,fun b o e nf=>by
  obtain⟨sl,z⟩:=n4 b o e nf;exact⟨sl,k4 b _ z nf⟩⟩
theorem zsV (I1:Inv X pins σ H1 s1) (os:s'.os=s1.os) (bare:AllBare s'.gens) (un:Un (frs X.stack) [] H1 H' s1.heap s'.heap) (ok:HOk X.prog X.w H' s'.heap) (fly:Fly s1.heap s'.heap H' a C)
  (k:∀h3,Inv X pins σ H' { s' with heap:=h3 }→Fly s1.heap h3 H' a C→R { s' with heap:=h3 }):wpAny M A (setFlight (.ref a) none) (fun _ s₃=>R s₃) E s':=by
 have I2:Inv X pins σ H' s':=I1.call' os un ok bare (fun _ z=>nomatch z);have ff:=I2.stack;have fr:=I2.stkFree;obtain⟨g1,g2,oe,vs,T,oT,ts,e1,e2,e3,e4,g3,g4,e5,e6,e7,e8⟩:=fly;have sz:1<vs.size:=(Array.getElem?_eq_some_iff.mp e4).1;have hid:∀b∈ [a,T],s1.heap.get? b=none∧H' b=none:=fun b hb=>by
  rcases List.mem_cons.mp hb with rfl |hb
  ·exact⟨g1,g2⟩
  ·rw [List.mem_singleton.mp hb];exact⟨g3,g4⟩
 refine wpAny_setFlight_noneW (base:=PySem.W.hideAll s'.heap ([a,T]++frs X.stack)) (l:=X.stack) (cls:= .ref C) (a0:=vs[0]) (fl:= .none) (fun b o z=>PySem.W.of_hideAll _ z) (zfh ff) ⟨oe,vs,T,oT,ts,e1,⟨e2,Array.getElem?_eq_getElem _⟩,e3,e4,PySem.W.hideAll_none _ (by simp),e5,e6,e7,e8⟩ fun h3 k1 k2 k3 k4=>?_;obtain⟨u1,u2,u3⟩:=zpB un ok ff fr hid (by simp) ⟨k1,k2,Heap.TracedW.tr k3,fun b o e nf=>⟨o.slots,k4 b o e nf⟩⟩;exact k h3 (I1.call' (s':={ s' with heap:=h3 }) os u1 u2 bare (fun _ z=>nomatch z)) u3
end
noncomputable abbrev Cx.hot (X:Cx) (a:Addr) (pn:List (Addr×Obj)):Cx:={ X with A:=X.A.mark (some (.ref a)),calm:=false,pn:=pn,xe:=fun _ _=>False }
section
variable {X:Cx}{pins pins':List (Addr×Obj)}{σ:St}{H:Hp}{s:Shared}{a:Addr}{oa:Obj}
theorem Cx.Ok.hot (ok:X.Ok) (a:Addr) (pn:List (Addr×Obj)):(X.hot a pn).Ok:=
 ⟨ok.mod,ok.kind,ok.glob,ok.blt,ok.above,ok.inj,ok.has,ok.cab,(fun z=>nomatch z),ok.frames,ok.stk,ok.exf,ok.bs,ok.bsz,ok.noex,ok.exfs,ok.funs,ok.frf⟩
theorem Inv.hot{vs:Array Value}(I:Inv X pins σ H s) (e:s.heap.get? a=some oa) (n:H a=none) (d:oa.data= .fields vs):Inv (X.hot a (X.pn++pins++[(a,oa)])) [] σ H s:=
 ⟨I.ok.hot a _,I.os,I.bare,I.base,I.loc,I.cell,I.free,I.freeC,(fun p hp=>by
  rw [List.append_nil]at hp;rcases List.mem_append.mp hp with hp |hp
  ·exact I.pin p hp
  ·rw [List.mem_singleton.mp hp];refine⟨e,n,fun z=>?_,fun z=>?_,fun v z=>?_⟩
   ·obtain⟨m,⟨o,es,ep,ho,hd,_⟩,_⟩:=I.loc;have e':s.heap.get? X.env.locals=some oa:=by rw [←show a=X.env.locals from z];exact e
    rw [ho]at e';cases e';rw [hd]at d;cases d
   ·obtain⟨_,o,ho,nf⟩:=I.funs.mem z;have e':s.heap.get? a=some o:=ho;rw [e]at e';cases e';exact nf vs d
   ·have z':oa.data= .cell v:=z;rw [d]at z';cases z'),I.hok,I.len⟩
theorem Inv.unhot (I0:X.Ok) (I:Inv (X.hot a (X.pn++pins++[(a,oa)])) pins' σ H s):Inv X pins σ H s:=
 ⟨I0,I.os,I.bare,I.base,I.loc,I.cell,I.free,I.freeC,fun p hp=>I.pin p (List.mem_append_left _ (List.mem_append_left _ hp)),I.hok,I.len⟩
theorem zqP{M:Model}{A:Around}{E:Value→Shared→Prop}{i:Nat}{n:Str}{pos:Pos}{Q:Unit→Shared→Prop}(I:Inv X pins σ H s) (hN:X.N.Nodup) (hi:X.N[i]? =some n) (hl:X.env.scope.names.lookup n=some .local)
  (h:∀s',Inv X pins (σ.set i none) H s'→Q () s'):wpAny M A (do bindName X.env n .none;unbindBehindTheSuite X.env n pos) Q E s:=by
 obtain⟨m,hn,hlk⟩:=id I.loc;have hcls:(X.env.scope.kind == .class || (X.env.scope.kind == .module&&X.env.locals != X.env.globals))=false:=by rw [I.ok.kind];rfl
 have hiσ:i<σ.length:=by rw [I.len];exact(List.getElem?_eq_some_iff.mp hi).1
 have cne:=I.cne;refine wpAny_nameGoes_keeps (show X.env.kindOf n=some .local from hl) hn hcls fun h' v hn' hs=>?_;obtain⟨oL,_,_,hoL,_⟩:=id hn;have lt:∀b o,X.s₀.heap.get? b=some o→b≠X.env.locals:=fun b o e=>Nat.ne_of_lt (Nat.lt_of_lt_of_le (Heap.lt_size e) I.ok.above);refine h _ ⟨I.ok,I.os,I.bare,⟨fun b o e n hb hx=>?_,fun b o e n hb hx=>?_,I.base.free,fun b o e hx=>?_,I.base.tups,I.base.frzs,I.base.tbls⟩,⟨_,hn',fun j y v' e1 e2 e3=>?_⟩,fun y c e=>?_,I.free,I.freeC,fun p hp=>?_,fun b ob e=>?_,by simpa using I.len⟩
 ·exact(hs.2 b (lt b o e)).trans (I.base.keep b o e n hb hx)
 ·obtain⟨sl,e1⟩:=I.base.slot b o e n hb hx;exact⟨sl,(hs.2 b (lt b o e)).trans e1⟩
 ·obtain⟨o',e1⟩:=I.base.there b o e hx;exact⟨o',(hs.2 b (lt b o e)).trans e1⟩
 ·by_cases hj:j=i
  ·subst hj;rw [List.getElem?_set_self hiσ]at e2;cases e2
  ·rw [List.getElem?_set_ne (Ne.symm hj)]at e2;obtain⟨u',r',q⟩:=hlk j y v' e1 e2 e3;refine⟨u',r',?_⟩;rcases q with⟨k,e⟩ |⟨k,c,e,z⟩
   ·refine .inl ⟨k,?_⟩;have:y≠n:=fun e=>hj (zfe hN e1 (e▸hi));simp [this,e]
   ·exact .inr ⟨k,c,e,z.sameBut hs (cne y c e)⟩
 ·obtain⟨w',z⟩:=I.cell y c e;exact⟨w',z.sameBut hs (cne y c e)⟩
 ·obtain⟨e,n,ne,nf,d⟩:=I.pin p hp;exact⟨(hs.2 p.1 ne).trans e,n,ne,nf,d⟩
 ·refine(I.hok b ob e).stay (fun c w' hc q=>(hs.2 c ?_).trans q) (fun _ q=>q) fun _ _ q=>q;rintro rfl;rcases hc with z |hc
  ·rw [←z,I.free]at e;cases e
  ·rw [I.free]at hc;cases hc
end
theorem RpSt.setN{K:PySem.W.Frag}{H:Hp}:∀{σW:WSt}{σ:St}(i:Nat),RpSt K H σW σ→RpSt K H (σW.set i none) (σ.set i none)
 |_,_,_, .nil=> .nil
 |_,_,0, .cons _ t=> .cons trivial t
 |_,_,i+1, .cons q t=> .cons q (RpSt.setN i t)
noncomputable def zjG (i:Nat) (al:List Str) (t:WS) (u:Str→Addr→WS):WS:=fun _ D σ S=>t (fun cl σ' S'=>cl∈al∧ ∀a,u cl a noX { nx:=fun σ'' S''=>D.nx (σ''.set i none) S'',rt:=D.rt,bk:=fun σ'' S''=>D.bk (σ''.set i none) S'',ct:=fun σ'' S''=>D.ct (σ''.set i none) S'' } (σ'.set i (some (.ref a))) S') D σ S
section
variable {X:Cx}{b:List Stmt}{x n:Str}{CT:Addr}{b₀:Stmt}{suite:List Stmt}{np hpos pos:Pos}{i:Nat}{t:WS}{u:Str→Addr→WS}{v:WS}{al:List Str}
theorem zrt{X:Cx}(h:X.xe=fun _ _=>False):Hook X noX:=zot (by rw [h];exact PassesOwn.never)
theorem zlm (hb:∀pn xe,JXs (X.at pn xe) b t)
  (hal:∀cl∈al,∃C,XcIn X.K cl C∧PySem.W.exmOne X.K (.ref C) (.ref CT)=some true∧ ∀(a:Addr) (oa:Obj) (pn:List (Addr×Obj)),(a,oa)∈pn→oa.cls= .ref C→JSs (X.hot a pn) (b₀::suite) (u cl a))
  (hg:Gl X x) (hm:X.mg x=some (.ref CT)) (hN:X.N.Nodup) (hi:X.N[i]? =some n) (hl:X.env.scope.names.lookup n=some .local) (hst:X.stack=X.env::X.outer:=by rfl) (hf:X.env.frame=some X.env.locals:=by rfl) (hdb:(x == ("__debug__" :Str))=false:=by decide) :
  JS X (.Try b [.ExceptHandler (some (.Name x np)) (some n) (b₀::suite) hpos] [] [] pos) (zjG i al t u):=fun E hE pins s σ H D I z=>by
 obtain⟨σW,S,DW,hσ,hS,ht,hD⟩:=z;refine wpAny_Try_except ?_;refine wpAny_mono (hb (X.pn++pins) (fun e s₁=>wpAny (model X.prog X.w) X.A (noteFrame e X.env) (fun _ s₂=>wpAny (model X.prog X.w) X.A (setFlight e none) (fun _ s₃=>wpAny (model X.prog X.w) X.A (handleBy e X.env [.ExceptHandler (some (.Name x np)) (some n) (b₀::suite) hpos]) (SP X pins D) X.xe s₃) X.xe s₂) X.xe s₁)
  _ PassesOwn.looking [] s σ H D (I.at _) ⟨σW,S,DW,hσ,hS,ht,hD,fun pins' e s' F=>?_⟩) (fun f s1 q=>?_) fun e s1 q=>q
 ·obtain⟨cl,C,a,H1,s1,H',S',rfl,hn,I1,os,bare,un,ok,fly,ex,hS',hcl,hu⟩:=F;obtain⟨C',O,hx,hs⟩:=hal cl hcl;have hn':PySem.W.nsIn X.K mainGlobals cl=some (some (.ref C)):=hn;have eC:C'=C:=by
   have:=O.nm;rw [hn']at this;exact(Value.ref.inj (Option.some.inj (Option.some.inj this))).symm
  subst eC;refine ziO (X:=X) (pins:=pins) I1.unat hst hf os bare un ok fly I.ok.frames fun h3 I3 u3 ok3 fly3=>?_;obtain⟨g1,g2,oe,vs,_,_,_,e1,e2,e3,_⟩:=id fly3;refine wpAny_handleBy_cons (codeAny_handlers_test ?_) (by intro q;cases q);refine zel (X:=X.hot a (X.pn++pins++[(a,oe)])) (I3.hot e1 g2 e3) hg hm ?_ hdb;refine(PySem.W.exm_one I3.kIn (znC e1 e2) hx).here ?_;refine codeAny_handlers_suite_as ?_;refine zsV (X:=X) (pins:=pins) (s':={ s' with heap:=h3 }) I1.unat os bare u3 ok3 fly3 fun h4 I4 fly4=>?_;obtain⟨g1',g2',oe4,vs4,_,_,_,e1',e2',e3',_⟩:=id fly4;refine zdJ (X:=X.hot a (X.pn++pins++[(a,oe4)])) (I4.hot e1' g2' e3') hN hi (.inl hl) (v:= .ref a) rfl (fun s5 I5=>?_) (.inr hl);have me:Meets X.K H' S' { nx:=fun σ'' S''=>DW.nx (σ''.set i none) S'',rt:=DW.rt,bk:=fun σ'' S''=>DW.bk (σ''.set i none) S'',ct:=fun σ'' S''=>DW.ct (σ''.set i none) S'' } { nx:=fun σ H=>D.nx (σ.set i none) H,rt:=D.rt,bk:=fun σ H=>D.bk (σ.set i none) H,ct:=fun σ H=>D.ct (σ.set i none) H }:=by
   have hD':=hD.from ex;exact⟨fun σW3 S3 σ3 H3 e3 r3 hS3 q=>hD'.nx _ S3 _ H3 e3 (r3.setN i) hS3 q,hD'.rt,fun σW3 S3 σ3 H3 e3 r3 hS3 q=>hD'.bk _ S3 _ H3 e3 (r3.setN i) hS3 q,fun σW3 S3 σ3 H3 e3 r3 hS3 q=>hD'.ct _ S3 _ H3 e3 (r3.setN i) hS3 q⟩
  refine wpAny_mono (hs a oe4 (X.pn++pins++[(a,oe4)]) (by simp) e2' noX (zrt rfl) [] s5 (σ.set i (some (.ref a))) H' _ I5 ⟨_,S',_,(hσ.ext ex).set (.ref a) i,hS',hu a,me⟩) (fun f s6 q=>?_) fun _ _ z=>z.elim;cases f with
  |next=>obtain⟨σ',H'',I6,q⟩:=q;exact zqP (I6.unhot I.ok) hN hi hl fun s7 I7=>⟨_,H'',I7,q⟩
  |brk=>obtain⟨σ',H'',I6,q⟩:=q;exact zqP (I6.unhot I.ok) hN hi hl fun s7 I7=>⟨_,H'',I7,q⟩
  |cont=>obtain⟨σ',H'',I6,q⟩:=q;exact zqP (I6.unhot I.ok) hN hi hl fun s7 I7=>⟨_,H'',I7,q⟩
  |ret w=>obtain⟨v,σ',H'',I6,r,q⟩:=q;exact zqP (I6.unhot I.ok) hN hi hl fun s7 I7=>⟨v,_,H'',I7,r,q⟩
 ·cases f with
  |next=>exact wpAny_execs_nil q.unat
  |ret v=>exact q.unat
  |brk=>exact q.unat
  |cont=>exact q.unat
end
section
variable {X:Cx}{a C:Addr}{oa:Obj}
theorem zhN (hp:(a,oa)∈X.pn) (hc:oa.cls= .ref C) (O:XcOk X.K C):CallR X (.builtin "isinstance") (fun xs H Q=>∃c b,((∃D,xs=[.ref a, .ref D]∧c=Value.ref D)∨(∃T,xs=[.ref a, .ty T]∧c=Value.type T))∧PySem.W.kitOne X.K (.ref C) c=some b∧Q (.bl b) H):=by
 intro pins s σ H xs us Q I r h;obtain⟨c,b,hx,e,q⟩:=h;have at':=(I.pin (a,oa) (List.mem_append_left _ hp)).1;have eu:us=[.ref a,c]:=by
  rcases hx with⟨D,rfl,rfl⟩ |⟨T,rfl,rfl⟩
  ·cases r with
   |cons r1 r2=>cases r2 with
    |cons r2 r3=>cases r3;cases r1;cases r2;rfl
  ·cases r with
   |cons r1 r2=>cases r2 with
    |cons r2 r3=>cases r3;cases r1;cases r2;rfl
 subst eu;exact PySem.W.kia_one (zlG O) I.kIn ⟨oa,at',hc⟩ e (by intro z;cases z) fun tk=>⟨.bl b,H,I.tok tk,rfl,q⟩
end
noncomputable def zku (i:Nat) (a:Addr) (b:Bool):WE:=fun _ σ S Q=>σ[i]? =some (some (.ref a))∧Q (.bl b) S
section
variable {X:Cx}{a C D:Addr}{oa:Obj}{i:Nat}{n x:Str}{b:Bool}{p p1 p2 pos:Pos}{T':String}
theorem zjZ{K:PySem.W.Frag}{H:Hp}{v:V}(h:Rep K H (.ref a) v):v= .ref a:=by cases h;rfl
theorem zcF (hp:(a,oa)∈X.pn) (hc:oa.cls= .ref C) (O:XcOk X.K C) (hb:PySem.W.kitOne X.K (.ref C) (.ref D)=some b) (hg:Gl X "isinstance") (hm:X.mg "isinstance" =none) (hN:X.N[i]? =some n) (hv:Vis X.env.scope n) (hgD:Gl X x) (hmD:X.mg x=some (.ref D))
  (hd:(n == ("__debug__" :Str))=false:=by decide) (hcd:(n == ("__classdict__" :Str))=false:=by decide) (hdD:(x == ("__debug__" :Str))=false:=by decide)
  (he:starEach (.Name n p1::[.Name x p2]) X.env=(false,eval (.Name n p1) X.env)::starEach [.Name x p2] X.env:=by rfl) (hpl:(backTo pos (starEach [.Name x p2] X.env)).any (·.1)=false:=by rfl) (he2:starEach (.Name x p2::[]) X.env=(false,eval (.Name x p2) X.env)::starEach [] X.env:=by rfl) :
  JE X (.Call (.Name "isinstance" p) [.Name n p1, .Name x p2] [] pos) (zku i a b):=fun E hE=>
 (zdW (zhN hp hc O) hg hm PyProof.Rows.boot_isinstance (zbs (ziU hN hv hd hcd) (zbs (zjf (v:= .ref D) hgD hmD rfl hdD) pa_nil he2) he) (by decide) (by decide) he hpl).mono fun σ H Q ⟨σW,S,QW,hσ,hS,⟨hi,h⟩,hQ⟩=>by
  obtain⟨v,e',r⟩:=hσ.get hi;have:=zjZ r;subst this;exact⟨_,e', .ref D,b, .inl ⟨D,rfl,rfl⟩,hb,hQ (.bl b) S (.bl b) H .refl (.bl b) hS h⟩
theorem ziJ (hp:(a,oa)∈X.pn) (hc:oa.cls= .ref C) (O:XcOk X.K C) (hb:PySem.W.kitOne X.K (.ref C) (.type T')=some b) (hg:Gl X "isinstance") (hm:X.mg "isinstance" =none) (hN:X.N[i]? =some n) (hv:Vis X.env.scope n) (hgD:Gl X x) (hmD:X.mg x=none) (hvD:bootBuiltins x=some (.type T'))
  (hd:(n == ("__debug__" :Str))=false:=by decide) (hcd:(n == ("__classdict__" :Str))=false:=by decide) (hnD:x≠ "__name__" :=by decide) (hdD:(x == ("__debug__" :Str))=false:=by decide)
  (he:starEach (.Name n p1::[.Name x p2]) X.env=(false,eval (.Name n p1) X.env)::starEach [.Name x p2] X.env:=by rfl) (hpl:(backTo pos (starEach [.Name x p2] X.env)).any (·.1)=false:=by rfl) (he2:starEach (.Name x p2::[]) X.env=(false,eval (.Name x p2) X.env)::starEach [] X.env:=by rfl) :
  JE X (.Call (.Name "isinstance" p) [.Name n p1, .Name x p2] [] pos) (zku i a b):=fun E hE=>
 (zdW (zhN hp hc O) hg hm PyProof.Rows.boot_isinstance (zbs (ziU hN hv hd hcd) (zbs (zjY (v:= .ty T') hgD hmD hvD rfl hnD hdD) pa_nil he2) he) (by decide) (by decide) he hpl).mono fun σ H Q ⟨σW,S,QW,hσ,hS,⟨hi,h⟩,hQ⟩=>by
  obtain⟨v,e',r⟩:=hσ.get hi;have:=zjZ r;subst this;exact⟨_,e', .type T',b, .inr ⟨T',rfl,rfl⟩,hb,hQ (.bl b) S (.bl b) H .refl (.bl b) hS h⟩
end
noncomputable def zda (cl D:Str):Bool:=cl == D || (D == "TurnError" || D == "ValueError")
theorem aln{P:Str→Prop}:∀cl∈([]:List Str),P cl:=fun _ h=>nomatch h
theorem alc{P:Str→Prop}{c:Str}{l:List Str}(h:P c) (t:∀cl∈l,P cl):∀cl∈c::l,P cl:=fun cl m=>by
 rcases List.mem_cons.mp m with rfl |m
 ·exact h
 ·exact t cl m
inductive Tr where
  |bl (n:Int)
  |nd (s:Str) (ts:List Tr)
noncomputable def Tr.kids:Tr→List Tr
 | .bl _=>[]
 | .nd _ ts=>ts
mutual
noncomputable def Tr.weight:Tr→Nat
 | .bl _=>1
 | .nd _ ts=>1+wts ts
noncomputable def wts:List Tr→Nat
 | []=>0
 |t::ts=>t.weight+wts ts
end
mutual
noncomputable def Tr.depth:Tr→Nat
 | .bl _=>1
 | .nd _ ts=>1+dts ts
noncomputable def dts:List Tr→Nat
 | []=>0
 |t::ts=>max t.depth (dts ts)
end
theorem zbR:wts []=0:=by unfold wts;rfl
theorem zaV (t:Tr) (ts:List Tr):wts (t::ts)=t.weight+wts ts:=by
 conv=>lhs;unfold wts
theorem zcy:∀(ts us:List Tr),wts (ts++us)=wts ts+wts us
 | [],us=>by
  show wts us=wts []+wts us;rw [zbR];omega
 |t::ts,us=>by
  show wts (t::(ts++us))=_;rw [zaV,zaV,zcy ts us];omega
theorem zcQ:dts []=0:=by unfold dts;rfl
theorem zbu (t:Tr) (ts:List Tr):dts (t::ts)=max t.depth (dts ts):=by
 conv=>lhs;unfold dts
theorem zcR (t:Tr):t.weight=1+wts t.kids:=by
 cases t with
 |bl n=>
  show Tr.weight (.bl n)=1+wts [];unfold Tr.weight wts;rfl
 |nd s ts=>
  show Tr.weight (.nd s ts)=1+wts ts
  conv=>lhs;unfold Tr.weight
theorem zdv (t:Tr):t.depth=1+dts t.kids:=by
 cases t with
 |bl n=>
  show Tr.depth (.bl n)=1+dts [];unfold Tr.depth dts;rfl
 |nd s ts=>
  show Tr.depth (.nd s ts)=1+dts ts
  conv=>lhs;unfold Tr.depth
theorem zeG (t:Tr):1≤t.weight:=by rw [zcR];omega
theorem zdq (t:Tr):1≤t.depth:=by rw [zdv];omega
theorem zeN:∀(ts us:List Tr),dts (ts++us)=max (dts ts) (dts us)
 | [],us=>by
  show dts us=max (dts []) (dts us);rw [zcQ];omega
 |t::ts,us=>by
  show dts (t::(ts++us))=_;rw [zbu,zbu,zeN ts us];exact(Nat.max_assoc _ _ _).symm
theorem zcg:∀(ts:List Tr),ts.length≤wts ts
 | []=>Nat.zero_le _
 |t::ts=>by
  have:=zcg ts;have:=zeG t;rw [zaV,List.length_cons];omega
theorem zex{t:Tr}:∀{ts:List Tr},t∈ts→t.weight≤wts ts
 | [],h=>by cases h
 |u::ts,h=>by
  rw [zaV];rcases List.mem_cons.mp h with e |h
  ·rw [e];omega
  ·have:=zex h;omega
theorem zfn:∀{ts:List Tr},ts≠ []→dts ts=1+dts (ts.flatMap Tr.kids)
 | [],h=>absurd rfl h
 | [t],_=>by
  rw [List.flatMap_cons,List.flatMap_nil,List.append_nil,zbu,zcQ,zdv];omega
 |t::u::r,_=>by
  have ih:=zfn (ts:=u::r) (by simp);have e:(t::u::r).flatMap Tr.kids=t.kids++(u::r).flatMap Tr.kids:=List.flatMap_cons ..;rw [zbu,ih,e,zeN,zdv];omega
theorem zfg:∀(ts:List Tr),wts (ts.flatMap Tr.kids)+ts.length=wts ts
 | []=>by rw [List.flatMap_nil,zbR];rfl
 |t::ts=>by
  have ih:=zfg ts;rw [List.flatMap_cons,zcy,zaV,List.length_cons,zcR];omega
mutual
noncomputable def enc:Tr→W
 | .bl n=> .int n
 | .nd s ts=> .tup (.str s::zaw ts)
noncomputable def zaw:List Tr→List W
 | []=>[]
 |t::ts=>enc t::zaw ts
end
theorem zaX:∀ts:List Tr,zaw ts=ts.map enc
 | []=>by simp [zaw]
 |t::ts=>by simp [zaw,zaX ts]
theorem zbd (ts:List Tr):(zaw ts).length=ts.length:=by rw [zaX,List.length_map]
theorem zgE:zbc "int" "int" =true:=by decide +kernel
theorem zfV:zbc "int" "bool" =false:=by decide +kernel
theorem zgI:zbc "int" "str" =false:=by decide +kernel
theorem zeX:zbc "int" "tuple" =false:=by decide +kernel
theorem zfE:zbc "int" "list" =false:=by decide +kernel
theorem zgv:zbc "bool" "int" =true:=by decide +kernel
theorem zfp:zbc "bool" "bool" =true:=by decide +kernel
theorem zfy:zbc "bool" "str" =false:=by decide +kernel
theorem zeA:zbc "bool" "tuple" =false:=by decide +kernel
theorem zeY:zbc "bool" "list" =false:=by decide +kernel
theorem zgF:zbc "str" "int" =false:=by decide +kernel
theorem zfM:zbc "str" "bool" =false:=by decide +kernel
theorem zgT:zbc "str" "str" =true:=by decide +kernel
theorem zfb:zbc "str" "tuple" =false:=by decide +kernel
theorem zfB:zbc "str" "list" =false:=by decide +kernel
theorem zeU:zbc "tuple" "int" =false:=by decide +kernel
theorem zeC:zbc "tuple" "bool" =false:=by decide +kernel
theorem zfj:zbc "tuple" "str" =false:=by decide +kernel
theorem sub_tuple_tuple:zbc "tuple" "tuple" =true:=by decide +kernel
theorem sub_tuple_list:zbc "tuple" "list" =false:=by decide +kernel
theorem zga:zbc "list" "int" =false:=by decide +kernel
theorem zfd:zbc "list" "bool" =false:=by decide +kernel
theorem zfK:zbc "list" "str" =false:=by decide +kernel
theorem sub_list_tuple:zbc "list" "tuple" =false:=by decide +kernel
theorem sub_list_list:zbc "list" "list" =true:=by decide +kernel
section
variable {α:Type}{x:α}{xs:List α}
theorem zkz (n:Nat):zcZ xs (some (n:Int)) none=xs.drop n:=by
 unfold zcZ;rw [HT.sIx_nat,HT.sIx_none];by_cases h:n≤xs.length
 ·rw [Nat.min_eq_left h,List.take_of_length_le (by rw [List.length_drop];omega)]
 ·rw [Nat.min_eq_right (by omega),List.drop_of_length_le (Nat.le_refl _),List.drop_of_length_le (by omega),List.take_nil]
theorem zmM:zcZ (x::xs) (some 1) none=xs:=by rw [show(1:Int)=((1:Nat):Int) from rfl,zkz];rfl
theorem zcA{n:Nat}:atI xs (n:Int)=xs[n]? :=by
 unfold atI ixN;rw [if_pos (by omega)];by_cases h:n<xs.length
 ·rw [if_pos (by omega)];simp
 ·rw [if_neg (by omega)];simp;omega
theorem zhi:atI (x::xs) 0=some x:=zcA (n:=0)
end
section
variable {S S':Sto}{a b:Addr}{o:Ob}{Q:List W→Prop}{ws:List W}
theorem zff:zbp (put S a (.lst ws)) a Q=Q ws:=zaj zaf
theorem zdr (h:put S a o b=none):S b=none∧b≠a:=by
 have hb:b≠a:=by rintro rfl;rw [zaf]at h;cases h
 rw [zaB hb]at h;exact⟨h,hb⟩
theorem zlH{u:Ob}(h:S a=some u) (n:S b=none):a≠b:=by rintro rfl;rw [h]at n;cases n
theorem Sub.put (h:Sub S S') (n:S a=none):Sub S (L2.put S' a o):=fun b u e=>by rw [zaB (zlH e n)];exact h b u e
theorem Sub.put2{u:Ob}(h:Sub S S'):Sub (L2.put S a u) (L2.put S' a u):=fun b w e=>by
 by_cases hb:b=a
 ·subst hb;rw [zaf]at e⊢;exact e
 ·rw [zaB hb]at e⊢;exact h b w e
end
theorem zpm (S:Sto) (a b:Int):eqF S 60 (.int a) (.int b)=some (a == b):=by have h:eqF S 60 (.int a) (.int b)=some (a == b):=rfl;exact h
theorem zow (S:Sto) (a b:Str):eqF S 60 (.str a) (.str b)=some (a == b):=by have h:eqF S 60 (.str a) (.str b)=some (a == b):=rfl;exact h
theorem zqW (S:Sto) (a b:Bool):eqF S 60 (.bl a) (.bl b)=some (a == b):=by have h:eqF S 60 (.bl a) (.bl b)=some (a == b):=rfl;exact h
theorem zai{n:Nat}(h:n≤16777216):n≤sizeLine:=by rw [sizeLine_eq];exact h
theorem zcP{n:Nat}(h:n<16777216):n<sizeLine:=by rw [sizeLine_eq];exact h
section
variable {S:Sto}{Q:WK}{QB:Bool→Sto→Prop}{QS:List W→(Sto→Prop)→Prop}{QT:String→Prop}
theorem zeI{a:Addr}{o:Ob}(h:S a=some o):put S a o=S:=by
 funext b;unfold put;split
 ·rename_i e;rw [e,h]
 ·rfl
theorem _root_.pz{a b:Prop}(h:a→b) (g:b→a):a=b:=propext ⟨h,g⟩
theorem zlM{b:Bool}:zmd (.bl b) S QB=QB b S:=pz id id
theorem zjy{i:Int}:zmd (.int i) S QB=QB (i != 0) S:=pz id id
theorem ziE{ws:List W}:zmd (.tup ws) S QB=QB (!ws.isEmpty) S:=pz id id
theorem zje{a:Addr}:zmd (.ref a) S QB=zbp S a fun ws=>QB (!ws.isEmpty) S:=pz id id
theorem zjF:zmd .non S QB=QB false S:=pz id id
theorem zgy{ws:List W}:zlY (.tup ws) S QS=QS ws fun _=>True:=pz id id
theorem zfT{a:Addr}:zlY (.ref a) S QS=zbp S a fun ws=>QS ws fun S'=>S' a=some (.lst ws):=pz id id
theorem znX{b:Bool}:tyW (.bl b) S QT=QT "bool" :=pz id id
theorem zlC{i:Int}:tyW (.int i) S QT=QT "int" :=pz id id
theorem zlx{i:Str}:tyW (.str i) S QT=QT "str" :=pz id id
theorem zlO{i:List W}:tyW (.tup i) S QT=QT "tuple" :=pz id id
theorem zlB:tyW .non S QT=QT "NoneType" :=pz id id
theorem zlP{a:Addr}:tyW (.ref a) S QT=zbp S a fun _=>QT "list" :=pz id id
theorem ziK{i j:Int}:zfv (.int i) (.int j) S Q=Q (.int (i+j)) S:=pz id id
theorem zjm{i j:Str}:zfv (.str i) (.str j) S Q=(i.length+j.length≤sizeLine∧Q (.str (i++j)) S):=pz id id
theorem ziI{i j:List W}:zfv (.tup i) (.tup j) S Q=(i.length+j.length≤sizeLine∧Q (.tup (i++j)) S):=pz id id
theorem zjM{a b:Addr}:zfv (.ref a) (.ref b) S Q=zbp S a fun xs=>zbp S b fun ys=>xs.length+ys.length≤sizeLine∧ ∀p,S p=none→Q (.ref p) (put S p (.lst (xs++ys))):=pz id id
theorem zrd{C:Int→Int→Prop}{g:Int→Int→W}{i j:Int}:zcC C g (.int i) (.int j) S Q=(C i j∧Q (g i j) S):=pz id id
theorem zqq{g:Int→Int→W}{i j:Int}:zlJ g (.int i) (.int j) S Q=Q (g i j) S:=pz id id
theorem zlN{i j:Int}:oLe (.int i) (.int j) S Q=Q (.bl (decide (i≤j))) S:=pz id id
theorem zkA{i j:Str}:oLe (.str i) (.str j) S Q=Q (.bl (!decide (j.cps.toList<i.cps.toList))) S:=pz id id
theorem zkg{us:List W}:zis [.tup us] S Q=Q (.int us.length) S:=pz id id
theorem zjv{a:Addr}:zis [.ref a] S Q=zbp S a fun us=>Q (.int us.length) S:=pz id id
theorem zke{ns:List Int}:zis [.scr ns] S Q=Q (.int ns.length) S:=pz id id
theorem zjE{z:Str}:zis [.str z] S Q=(z.length≤sizeLine∧Q (.int z.length) S):=pz id id
theorem zlw{ws:List W}{i:Int}:oIx (.tup ws) (.int i) S Q=match atI ws i with
 |some w=>Q w S
 |none=>False:=pz id id
theorem zlj{a:Addr}{i:Int}:oIx (.ref a) (.int i) S Q=zbp S a fun ws=>match atI ws i with
 |some w=>Q w S
 |none=>False:=pz id id
theorem zlp{ns:List Int}{i:Int}:oIx (.scr ns) (.int i) S Q=match atI ns i with
 |some n=>Q (.int n) S
 |none=>False:=pz id id
theorem zlo{x:Str}{i:Int}:oIx (.str x) (.int i) S Q=(x.length≤sizeLine∧match atI x.cps.toList i with
 |some c=>Q (.str ⟨#[c]⟩) S
 |none=>False):=pz id id
theorem zln{ws:List W}{lo hi:Option Int}:oSl (.tup ws) lo hi S Q=Q (.tup (zcZ ws lo hi)) S:=pz id id
theorem zlt{z:Str}{lo hi:Option Int}:oSl (.str z) lo hi S Q=(z.length≤sizeLine∧Q (.str (Txt.slice z lo hi)) S):=pz id id
theorem zkv{a:Addr}{lo hi:Option Int}:oSl (.ref a) lo hi S Q=zbp S a fun ws=>∀p,S p=none→Q (.ref p) (put S p (.lst (zcZ ws lo hi))):=pz id id
theorem zlV{ns:List Int}{lo hi:Option Int}:oSl (.scr ns) lo hi S Q= ∀p,S p=none→Q (.ref p) (put S p (.lst ((zcZ ns lo hi).map W.int))):=pz id id
theorem zgP{us:List W}:zea [.tup us] S Q=Q (.tup us) S:=pz id id
theorem zgJ{a:Addr}:zea [.ref a] S Q=zbp S a fun us=>Q (.tup us) S:=pz id id
theorem zlS{a:Addr}{y:W}:zbY (.ref a) [y] S Q=zbp S a fun xs=>xs.length<sizeLine∧Q .non (put S a (.lst (xs++[y]))):=pz id id
theorem zsa{a:Addr}:ztL (.ref a) [] S Q=zbp S a fun xs=>match xs[xs.length - 1]? with
 |some y=>Q y (put S a (.lst xs.dropLast))
 |none=>False:=pz id id
theorem zfP{a:Addr}{ys:List W}:zev (.ref a) [.tup ys] S Q=zbp S a fun xs=>xs.length+ys.length≤sizeLine∧Q .non (put S a (.lst (xs++ys))):=pz id id
theorem zfO{a b:Addr}:zev (.ref a) [.ref b] S Q=zbp S a fun xs=>zbp S b fun ys=>xs.length+ys.length≤sizeLine∧Q .non (put S a (.lst (xs++ys))):=pz id id
theorem ziV{a:Addr}{ws:List W}:zlu (.ref a) ws S Q=zbp S a fun xs=>xs.length+ws.length≤sizeLine∧Q .non (put S a (.lst (xs++ws))):=pz id id
theorem zrZ{a:Addr}:rvL (.ref a) S=zbp S a fun _=>True:=pz id id
theorem zsn{x:Str}:rvS (.str x) S=True:=pz id id
theorem zkJ{b:Bool}:zqi [.bl b] S Q=Q (.int (if b then 1 else 0)) S:=pz id id
theorem zjd{i:Int}:zqi [.int i] S Q=Q (.int i) S:=pz id id
theorem zpL{i j:Int}:zrX [.int i, .int j] S Q=Q (.int (if j > i then j else i)) S:=pz id id
theorem zoS{i j:Int}:zrY [.int i, .int j] S Q=Q (.int (if j<i then j else i)) S:=pz id id
theorem zqv{z:Str}{ws:List W}:zfZ (.str z) ws S Q=match zdD ws with
 |some ys=>(ys.map (·.length)).sum+ys.length*z.length≤16777216∧Q (.str (Str.join z ys)) S
 |none=>False:=pz id id
theorem znV{z y:Str}:zpQ (.str z) [.str y] S Q=match Builtin.Str.occurrences z y 0 z.length 1 with
 |i::_=>Q (.int i) S
 | []=>False:=pz id id
theorem zlz{neg:Bool}:oIs neg .non .non S Q=Q (.bl (!neg)) S:=pz id id
theorem zno{neg a b:Bool}:oIs neg (.bl a) (.bl b) S Q=Q (.bl (if neg then a != b else a == b)) S:=pz id id
theorem zof{neg a:Bool}:oIs neg (.bl a) .non S Q=Q (.bl neg) S:=pz id id
theorem znp{neg:Bool}{ws:List W}:oIs neg (.tup ws) .non S Q=Q (.bl neg) S:=pz id id
theorem zoh{neg:Bool}{a:Addr}:oIs neg (.ref a) .non S Q=Q (.bl neg) S:=pz id id
theorem zmU{neg:Bool}{a:Int}:oIs neg (.int a) .non S Q=Q (.bl neg) S:=pz id id
theorem zkU{neg:Bool}{x:W}{ws:List W}:oIn neg x (.tup ws) S Q=match inF S x ws with
 |some b=>Q (.bl (if neg then !b else b)) S
 |none=>False:=pz id id
theorem zls{neg:Bool}{x:W}{a:Addr}:oIn neg x (.ref a) S Q=zbp S a fun ws=>match inF S x ws with
 |some b=>Q (.bl (if neg then !b else b)) S
 |none=>False:=pz id id
theorem zle{neg:Bool}{i j:Str}:oIn neg (.str i) (.str j) S Q=Q (.bl (if neg then !(!(Builtin.Str.occurrences j i 0 j.length 1).isEmpty) else !(Builtin.Str.occurrences j i 0 j.length 1).isEmpty)) S:=pz id id
end
theorem zjq{g:WG}{b:WS}{E:WX}{D:WEnds}{G:Sto→Prop}(I:List W→WSt→Sto→Prop)
  (step:∀w ws σ S (N:WSt→Sto→Prop),I (w::ws) σ S→(∀σ' S' S'',Sub S'' S'→G S''→I ws σ' S''→N σ' S')→g w σ S fun σ1 S1=>b E { D with nx:=N,ct:=N,bk:=D.nx } σ1 S1)
  (done:∀σ S,I [] σ S→D.nx σ S):∀(ws:List W) (σ:WSt) (S:Sto),I ws σ S→zcN g b E D G ws σ S
 | [],σ,S,h=>done σ S h
 |w::ws,σ,S,h=>step w ws σ S _ h fun σ' S' S'' sb hG hI=>⟨S'',sb,hG,zjq I step done ws σ' S'' hI⟩
section
variable {E:WX}{σ:WSt}{S:Sto}{Q:WK}{QB:Bool→Sto→Prop}{QA:List W→Sto→Prop}{QI:List W→(Sto→Prop)→Sto→Prop}{QO:Option Int→Sto→Prop}{P:WSt→Sto→Prop}{D:WEnds}{w x y:W}{ws:List W}{EX:Str→Sto→Prop}
theorem zoy{i:Nat}:(zag i E σ S Q)=(match σ[i]? with
 |some (some w)=>Q w S
 |_=>False):=pz id id
theorem ztQ{w:W}:(wC w E σ S Q)=(Q w S):=pz id id
theorem zry{r:W2}{a b:WE}:(wOp r a b E σ S Q)=(a E σ S fun x S1=>b E σ S1 fun y S2=>r x y S2 Q):=pz id id
theorem zpd{t:WE}:(zgA t E σ S QB)=(t E σ S fun w S'=>zmd w S' QB):=pz id id
theorem zsh{t:WE}:(wTb t E σ S QB)=(t E σ S fun w S'=>match w with
 | .bl b=>QB b S'
 |_=>False):=pz id id
theorem zqr{t u:WT}:(znI t u E σ S QB)=(t E σ S fun c S1=>if c=true then u E σ S1 QB else QB false S1):=pz id id
theorem zrV{t u:WT}:(wOr t u E σ S QB)=(t E σ S fun c S1=>if c=true then QB true S1 else u E σ S1 QB):=pz id id
theorem zph{t:WT}:(zmJ t E σ S QB)=(t E σ S fun c S1=>QB (!c) S1):=pz id id
theorem znF{t u:WE}:(zod t u E σ S Q)=(t E σ S fun w S1=>match w with
 | .bl true=>u E σ S1 Q
 | .bl false=>Q (.bl false) S1
 |_=>False):=pz id id
theorem zni{t:WE}:(zkF t E σ S Q)=(t E σ S fun w S1=>match w with
 | .bl b=>Q (.bl !b) S1
 |_=>False):=pz id id
theorem zsr{c:WT}{t u:WE}:(wIf c t u E σ S Q)=(c E σ S fun b S1=>if b=true then t E σ S1 Q else u E σ S1 Q):=pz id id
theorem zoB{c:WT}{t u:WS}:(zde c t u E D σ S)=(c E σ S fun b S1=>if b=true then t E D σ S1 else u E D σ S1):=pz id id
theorem zna:(zbj  E D σ S)=(D.nx σ S):=pz id id
theorem zpD{t u:WS}:(zaz t u E D σ S)=(t E { D with nx:=u E D } σ S):=pz id id
theorem zoL{e:WE}:(zci e E D σ S)=(e E σ S D.rt):=pz id id
theorem znz{e:WE}:(zcB e E D σ S)=(e E σ S fun _ S1=>D.nx σ S1):=pz id id
theorem zkM{i:Nat}:(wGN i w σ S P)=(P (σ.set i (some w)) S):=pz id id
theorem zpv{e:WE}{g:WG}:(wAsg e g E D σ S)=(e E σ S fun w S1=>g w σ S1 D.nx):=pz id id
theorem znH:(zcV  ws σ S P)=(match ws with
 | []=>P σ S
 |_=>False):=pz id id
theorem zlc{g:WG}{u:WGs}:(zaH g u ws σ S P)=(match ws with
 | []=>False
 |w::r=>g w σ S fun σ' S'=>u r σ' S' P):=pz id id
theorem zrS{u:WGs}:(wGT u w σ S P)=(match w with
 | .tup ws=>u ws σ S P
 |_=>False):=pz id id
theorem zmF:(waNil  E σ S QA)=(QA [] S):=pz id id
theorem zkI{t:WE}{u:WA}:(zab t u E σ S QA)=(t E σ S fun w S1=>u E σ S1 fun ws S2=>QA (w::ws) S2):=pz id id
theorem zqd{t:WA}:(zbS t E σ S Q)=(t E σ S fun ws S1=>ws.length≤sizeLine∧Q (.tup ws) S1):=pz id id
theorem zop{t:WA}:(zdF t E σ S QA)=(t E σ S fun ws S1=>ws.length≤sizeLine∧QA ws S1):=pz id id
theorem zqI{t:WL}:(zcG t E σ S Q)=(t E σ S fun ws S1=>∀a,S1 a=none→Q (.ref a) (put S1 a (.lst ws))):=pz id id
theorem znP{c:WSp}{t:WA}:(zax c t E σ S Q)=(t E σ S fun ws S1=>c ws S1 Q fun cl S2=>E cl σ S2):=pz id id
theorem zhA{n k:Nat}{body:WS}:(zdE n k body ws S Q EX)=(ws.length=k∧body (fun c _ S'=>EX c S') { nx:=fun _ S'=>∃S'',Sub S'' S'∧Q .non S'',rt:=fun w S'=>∃S'',Sub S'' S'∧Q w S'' } (ws.map some++List.replicate (n - k) none) S):=pz id id
theorem zqk{t:WE}:(zpj t E σ S Q)=(t E σ S fun w S1=>match w with
 | .int i=>Q (.int (-i)) S1
 |_=>False):=pz id id
theorem zrk{t u:WE}:(zsw t u E σ S QA)=(t E σ S fun x S1=>u E σ S1 fun y S2=>match x,y with
 | .ref a, .ref b=>zbp S2 a fun xs=>zbp S2 b fun ys=>xs.length+ys.length≤sizeLine∧QA (xs++ys) S2
 |_,_=>False):=pz id id
theorem zrc{neg:Bool}:(oEq neg x y S Q)=(match eqF S 60 x y with
 |some b=>Q (.bl (if neg then !b else b)) S
 |none=>False):=pz id id
theorem zrH:(woN  E σ S QO)=(QO none S):=pz id id
theorem zsf{t:WE}:(woS t E σ S QO)=(t E σ S fun w S1=>match w with
 | .int i=>QO (some i) S1
 |_=>False):=pz id id
theorem zrG{t:WE}{l h:WO}:(wSl t l h E σ S Q)=(t E σ S fun x S1=>l E σ S1 fun lo S2=>h E σ S2 fun hi S3=>oSl x lo hi S3 Q):=pz id id
theorem ztx{f:WF}{t:WA}:(wB f t E σ S Q)=(t E σ S fun ws S1=>f ws S1 Q):=pz id id
theorem zrs{f:WF}{t:WL}:(wBL f t E σ S Q)=(t E σ S fun ws S1=>f ws S1 Q):=pz id id
theorem zjn:(zfl  ws S Q)=(Q (.tup ws) S):=pz id id
theorem zjW{t:WE}:(zha t E σ S QA)=(t E σ S fun w S1=>match w with
 | .tup ws=>QA ws S1
 | .ref a=>zbp S1 a fun ws=>QA ws S1
 | .scr ns=>QA (ns.map W.int) S1
 |_=>False):=pz id id
theorem zou{T:String}{t:WE}:(zpb T t E σ S Q)=(t E σ S fun w S1=>tyW w S1 fun A=>Q (.bl (zbc A T)) S1):=pz id id
theorem zth{rv:W→Sto→Prop}{f:WMf}{to:WE}{t:WA}:(wM rv f to t E σ S Q)=(to E σ S fun w S1=>rv w S1∧t E σ S1 fun ws S2=>f w ws S2 Q):=pz id id
theorem zst{rv:W→Sto→Prop}{f:WMf}{to:WE}{t:WL}:(wML rv f to t E σ S Q)=(to E σ S fun w S1=>rv w S1∧t E σ S1 fun ws S2=>f w ws S2 Q):=pz id id
theorem zoR{i:Nat}{g:Int→Int→Int}{e:WE}:(zoC i g e E D σ S)=(match σ[i]? with
 |some (some (.int a))=>e E σ S fun w S1=>match w with
  | .int b=>D.nx (σ.set i (some (.int (g a b)))) S1
  |_=>False
 |_=>False):=pz id id
theorem zon{q:WI}{g:WG}{b:WS}:(zit q g b E D σ S)=(q E σ S fun ws G S1=>zcN g b E D G ws σ S1):=pz id id
theorem zrO{t:WE}:(wIv t E σ S QI)=(t E σ S fun w S1=>match w with
 | .tup ws=>QI ws (fun _=>True) S1
 | .ref a=>zbp S1 a fun ws=>QI ws (fun S'=>S' a=some (.lst ws)) S1
 | .scr ns=>QI (ns.map W.int) (fun _=>True) S1
 | .str z=>QI (zgO z) (fun _=>True) S1
 |_=>False):=pz id id
theorem zqN{t:WA}:(zom t E σ S QI)=(t E σ S fun ws S1=>match ws with
 | [.int j]=>(-(2 ^ 62)≤j∧j<2 ^ 62)∧QI (zju 0 j.toNat) (fun _=>True) S1
 |_=>False):=pz id id
theorem zoE:(zjs  E σ S QB)=(QB true S):=pz id id
theorem zmW{k:Nat}{fr:List Nat}{q:WI}{g:WG}{c:WT}{e:WE}:(zey k fr q g c e E σ S QA)=(q noE σ S fun ws G S1=>zeB g c e noE G QA ws [] (List.replicate k none++fr.map fun j=>(σ[j]?).join) S1):=pz id id
theorem zoP{t u:WE}:(zol t u E σ S QI)=(t E σ S fun x S1=>u E σ S1 fun y S2=>zlY x S2 fun xs G=>zlY y S2 fun ys G'=>QI (zbQ xs ys) (fun S'=>G S'∧G' S') S2):=pz id id
theorem zmS{t:WE}{l h:WO}:(zpy t l h E σ S QA)=(t E σ S fun x S1=>l E σ S1 fun lo S2=>h E σ S2 fun hi S3=>match x with
 | .ref a=>zbp S3 a fun ws=>QA (zcZ ws lo hi) S3
 | .scr ns=>QA ((zcZ ns lo hi).map W.int) S3
 |_=>False):=pz id id
theorem zqo{t:WL}{u:WE}:(zrQ t u E σ S Q)=(t E σ S fun ws S1=>u E σ S1 fun y S2=>match y with
 | .int i=>match atI ws i with
  |some w=>Q w S2
  |none=>False
 |_=>False):=pz id id
theorem znJ{t:WE}{u:WL}:(zmE t u E σ S QA)=(t E σ S fun x S1=>u E σ S1 fun ys S2=>match x with
 | .ref a=>zbp S2 a fun xs=>xs.length+ys.length≤sizeLine∧QA (xs++ys) S2
 |_=>False):=pz id id
theorem zog{t u:WL}:(zjL t u E σ S QA)=(t E σ S fun xs S1=>u E σ S1 fun ys S2=>xs.length+ys.length≤sizeLine∧QA (xs++ys) S2):=pz id id
theorem zoa{t:WL}{u:WE}:(znk t u E σ S QA)=(t E σ S fun xs S1=>u E σ S1 fun y S2=>match y with
 | .ref a=>zbp S2 a fun ys=>xs.length+ys.length≤sizeLine∧QA (xs++ys) S2
 |_=>False):=pz id id
end
section
variable {S:Sto}{Q:WK}
theorem zpA{xs:List W}{k:Int}:zjr (.tup xs) (.int k) S Q=((xs≠ []∧ -(2 ^ 63)≤k∧k<2 ^ 63∧xs.length*k.toNat≤sizeLine)∧Q (.tup (List.replicate k.toNat xs).flatten) S):=pz id id
theorem znj{z:Str}:zhl (.str z) [] S Q=(z.length≤5592405∧Q (.str (Txt.upper z)) S):=pz id id
end
end L2
end
section
def L2.wZ (d:String):Lean.MacroM (Lean.TSyntax `tactic):=do
  let a:Array Lean.Term:=(("L2.zoy L2.ztQ L2.zry L2.zpd L2.zsh L2.zqr L2.zrV L2.zph L2.znF L2.zni L2.zsr L2.zoB L2.zna L2.zpD L2.zoL L2.znz L2.zkM L2.zpv L2.znH L2.zlc L2.zrS L2.zmF L2.zkI L2.zqd L2.zop L2.zqI L2.znP L2.zhA L2.zqk L2.zrc L2.zrH L2.zsf L2.zrG L2.ztx L2.zrs L2.zjn L2.zjW L2.zou L2.zth L2.zst L2.zoR L2.zon L2.zrO L2.zqN L2.zoE L2.zmW L2.zoP L2.zmS L2.zqo L2.znJ L2.zog L2.zoa zkC zqu zkV L2.zpA L2.znj L2.zff L2.zbx L2.zpm L2.zow L2.zqW L2.zmM L2.zhi L2.zgE L2.zfV L2.zgI L2.zeX L2.zfE L2.zgv L2.zfp L2.zfy L2.zeA L2.zeY L2.zgF L2.zfM L2.zgT L2.zfb L2.zfB L2.zeU L2.zeC L2.zfj L2.sub_tuple_tuple L2.sub_tuple_list L2.zga L2.zfd L2.zfK L2.sub_list_tuple L2.sub_list_list L2.zlM L2.zjy L2.ziE L2.zje L2.zjF L2.zgy L2.zfT L2.znX L2.zlC L2.zlx L2.zlO L2.zlB L2.zlP L2.ziK L2.zjm L2.ziI L2.zjM L2.zrd L2.zqq L2.zlN L2.zkA L2.zkg L2.zjv L2.zke L2.zjE L2.zlw L2.zlj L2.zlp L2.zlo L2.zln L2.zlt L2.zkv L2.zlV L2.zgP L2.zgJ L2.zlS L2.zsa L2.zfP L2.zfO L2.ziV L2.zrZ L2.zsn L2.zkJ L2.zjd L2.zpL L2.zoS L2.zqv L2.znV L2.zlz L2.zno L2.zof L2.znp L2.zoh L2.zmU L2.zkU L2.zls L2.zle List.map_cons List.map_nil List.length_cons List.length_nil List.cons_append List.nil_append List.append_nil List.replicate List.getElem?_cons_zero List.getElem?_cons_succ List.getElem?_nil List.set_cons_zero List.set_cons_succ Nat.reduceAdd Nat.reduceSub true_and and_true if_true if_false Bool.false_eq_true reduceIte Bool.not_true Bool.not_false Option.join_some Option.join_none decide_eq_true_eq and_self".splitOn " ").filter (· != d)).toArray.map fun s=>Lean.mkIdent s.toName
  `(tactic| simp only [$[$a:term],*])
local macro_rules | `(tactic| walk_at "wp") => L2.wZ ""
section
namespace L2
open PySem PySem.Spec PyProof.Rows
section
variable {E:WX}{D:WEnds}{σ:WSt}{S:Sto}{Q:WK}
theorem zkC{c:WSp}{t:WA}:(ziv c t E σ S Q)=(t noX σ S fun ws S1=>c ws S1 Q fun cl S2=>E cl σ S2):=pz id id
theorem zqu{i:Nat}{a:Addr}{b:Bool}:(zku i a b E σ S Q)=(σ[i]? =some (some (.ref a))∧Q (.bl b) S):=pz id id
theorem zdQ{x:Str}{t:WA}:(zfF x t E D σ S)=(t E σ S fun ws S1=>ws.length≤sizeLine∧E x σ S1):=pz id id
theorem zkV{i:Nat}{al:List Str}{t:WS}{u:Str→Addr→WS}:(zjG i al t u E D σ S)=(t (fun cl σ' S'=>cl∈al∧ ∀a,u cl a noX { nx:=fun σ'' S''=>D.nx (σ''.set i none) S'',rt:=D.rt,bk:=fun σ'' S''=>D.bk (σ''.set i none) S'',ct:=fun σ'' S''=>D.ct (σ''.set i none) S'' } (σ'.set i (some (.ref a))) S') D σ S):=pz id id
end
noncomputable def zbU:Nat→WSp
 |0=>zbD
 |r+1=>zdE 1 1 (zaz (zde (zgA (zpb "int" (zag 0))) (zci (zbS waNil)) zbj)
  (zci (wSl (zag 0) (woS (wC (.int 1))) woN)))
noncomputable def zaM (r:Nat) (self:WSp):WS:=(zcB (wM rvL zev (zag 1) (zab (zax (zbU r) (zab (zag 2) waNil)) waNil)))
noncomputable def zaE:Nat→WSp
 |0=>zbD
 |r+1=>zdE 3 1 (zaz (wAsg (zcG (zdF waNil)) (wGN 1))
  (zaz (zit (wIv (zag 0)) (wGN 2) (zaM r zbD))
  (zci (zag 1))))
noncomputable def zcm (r:Nat) (self:WSp):WS:=(zaz (zoC 1 (fun a b=>a+b) (wB zis (zab (zag 3) waNil)))
  (zaz (zoC 2 (fun a b=>a+b) (wC (.int 1)))
  (zaz (zde (wOr (wTb (wOp oGt (zag 1) (wC (.int 400)))) (wTb (wOp oGt (zag 2) (wC (.int 40))))) (zci (wC (.bl false))) zbj)
  (wAsg (zax (zaE r) (zab (zag 3) waNil)) (wGN 3)))))
noncomputable def zbl:Nat→WSp
 |0=>zbD
 |r+1=>zdE 4 1 (zaz (wAsg (wC (.int 0)) (wGN 1))
  (zaz (wAsg (wC (.int 0)) (wGN 2))
  (zaz (wAsg (zcG (zdF (zab (zag 0) waNil))) (wGN 3))
  (zaz (zmh (zgA (zag 3)) (zcm r zbD))
  (zci (wC (.bl true)))))))
noncomputable def zeT (r:Nat) (self:WSp):WE:=(zax self (zab (zag 0) (zab (zag 1) waNil)))
noncomputable def zbw:Nat→WSp
 |0=>zbD
 |r+1=>zdE 2 2 (zaz (zde (zgA (zpb "int" (zag 0))) (zci (wOp oIx (zag 1) (zag 0))) zbj)
  (zci (wOp zfv (zbS (zab (wOp oIx (zag 0) (wC (.int 0))) waNil)) (wBL zfl (zey 1 [1] (wIv (wSl (zag 0) (woS (wC (.int 1))) woN)) (wGN 0) zjs (zeT r (zbw r)))))))
noncomputable def zaW:Nat→WSp
 |0=>zbD
 |r+1=>zdE 2 2 (zci (zod (wOp (oEq false) (wOp oIx (zag 0) (wC (.int 0))) (wOp oIx (zag 1) (wC (.int 0)))) (wOp (oEq false) (wB zis (zab (zag 0) waNil)) (wB zis (zab (zag 1) waNil)))))
noncomputable def zbh (r:Nat) (self:WSp):WS:=(zde (zmJ (zgA (zax self (zab (zag 3) (zab (zag 4) (zab (zag 2) waNil)))))) (zci (wC (.bl false))) zbj)
noncomputable def zar:Nat→WSp
 |0=>zbD
 |r+1=>zdE 5 3 (zaz (zde (zgA (zpb "int" (zag 0))) (zaz (zcB (wM rvL zbY (zag 2) (zab (zag 1) waNil)))
  (zci (wC (.bl true)))) zbj)
  (zaz (zde (zmJ (zgA (zax (zaW r) (zab (zag 0) (zab (zag 1) waNil))))) (zci (wC (.bl false))) zbj)
  (zaz (zit (zol (wSl (zag 0) (woS (wC (.int 1))) woN) (wSl (zag 1) (woS (wC (.int 1))) woN)) (wGT (zaH (wGN 3) (zaH (wGN 4) zcV))) (zbh r (zar r)))
  (zci (wC (.bl true))))))
noncomputable def zbo:Nat→WSp
 |0=>zbD
 |r+1=>zdE 3 2 (zaz (wAsg (zcG (zdF waNil)) (wGN 2))
  (zaz (zde (zgA (zax (zar r) (zab (zag 0) (zab (zag 1) (zab (zag 2) waNil))))) (zci (zag 2)) zbj)
  (zci (wC .non))))
noncomputable def zcM (r:Nat) (self:WSp):WS:=(zde (wTb (wOp (oEq false) (wOp oIx (zag 2) (wC (.int 0))) (zag 1))) (zci (zag 2)) zbj)
noncomputable def zaC:Nat→WSp
 |0=>zbD
 |r+1=>zdE 3 2 (zaz (zit (wIv (zag 0)) (wGN 2) (zcM r zbD))
  (zci (wC .non)))
noncomputable def zaD:Nat→WSp
 |0=>zbD
 |r+1=>zdE 1 1 (zaz (zde (zmJ (zgA (zax (zbl r) (zab (zag 0) waNil)))) (zfF "TooGreat" (zab (wC (.str "the shape is not small")) waNil)) zbj)
  (zci (zag 0)))
noncomputable def zcD (r:Nat) (self:WSp):WE:=(zax self (zab (zag 1) (zab (zag 0) (zab (zag 2) waNil))))
noncomputable def zaQ:Nat→WSp
 |0=>zbD
 |r+1=>zdE 5 3 (zaz (wAsg (zcG (zey 1 [0,2] (wIv (wSl (zag 1) (woS (wC (.int 1))) woN)) (wGN 0) zjs (zcD r (zaQ r)))) (wGN 3))
  (zaz (wAsg (zax (zaC r) (zab (zag 0) (zab (wOp oIx (zag 1) (wC (.int 0))) waNil))) (wGN 4))
  (zaz (zde (wTb (wOp (oIs false) (zag 4) (wC .non))) (zci (wOp zfv (zbS (zab (wOp oIx (zag 1) (wC (.int 0))) waNil)) (wB zea (zab (zag 3) waNil)))) zbj)
  (zci (zax (zbw r) (zab (wOp oIx (zag 4) (zag 2)) (zab (zag 3) waNil)))))))
noncomputable def zdp:Nat→WSp
 |0=>zbD
 |r+1=>zdE 2 2 (zci (zax (zaD r) (zab (zax (zaQ r) (zab (zag 0) (zab (zag 1) (zab (wC (.int 1)) waNil)))) waNil)))
noncomputable def zeM:Nat→WSp
 |0=>zbD
 |r+1=>zdE 2 2 (zci (zax (zaD r) (zab (zax (zaQ r) (zab (zag 0) (zab (zag 1) (zab (wC (.int 2)) waNil)))) waNil)))
noncomputable def zes (r:Nat) (self:WSp):WE:=(zax self (zab (zag 2) (zab (zag 0) (zab (zag 1) waNil))))
noncomputable def zbO:Nat→WSp
 |0=>zbD
 |r+1=>zdE 8 3 (zaz (wAsg (zax (zaC r) (zab (zag 0) (zab (wOp oIx (zag 1) (wC (.int 0))) waNil))) (wGN 3))
  (zaz (wAsg (zax (zaC r) (zab (zag 0) (zab (wOp oIx (zag 2) (wC (.int 0))) waNil))) (wGN 4))
  (zaz (wAsg (wSl (zag 1) (woS (wC (.int 1))) woN) (wGN 5))
  (zaz (wAsg (wSl (zag 2) (woS (wC (.int 1))) woN) (wGN 6))
  (zaz (zde (znI (wTb (wOp (oIs false) (zag 3) (wC .non))) (wTb (wOp (oIs true) (zag 4) (wC .non)))) (wAsg (zax (zbo r) (zab (wOp oIx (zag 4) (wC (.int 1))) (zab (zag 1) waNil))) (wGN 5)) zbj)
  (zaz (zde (znI (wTb (wOp (oIs true) (zag 3) (wC .non))) (wTb (wOp (oIs false) (zag 4) (wC .non)))) (wAsg (zax (zbo r) (zab (wOp oIx (zag 3) (wC (.int 1))) (zab (zag 2) waNil))) (wGN 6)) zbj)
  (zaz (wAsg (zcG (zey 2 [0] (zol (zag 5) (zag 6)) (wGT (zaH (wGN 0) (zaH (wGN 1) zcV))) zjs (zes r (zbO r)))) (wGN 7))
  (zaz (zde (wTb (wOp (oIs false) (zag 4) (wC .non))) (zci (wOp zfv (zbS (zab (wOp oIx (zag 1) (wC (.int 0))) waNil)) (wB zea (zab (zag 7) waNil)))) zbj)
  (zci (zax (zbw r) (zab (wOp oIx (zag 4) (wC (.int 2))) (zab (zag 7) waNil))))))))))))
noncomputable def zcs (r:Nat) (self:WSp):WS:=(zcB (zax (zeM r) (zab (zag 0) (zab (zag 2) waNil))))
noncomputable def zaJ:Nat→WSp
 |0=>zbD
 |r+1=>zdE 3 2 (zit (wIv (zag 1)) (wGN 2) (zcs r zbD))
noncomputable def zbe (r:Nat):WS:=(zci (zag 3))
noncomputable def zaY (r:Nat):WS:=(zcB (wM rvL zbY (zag 3) (zab (zag 5) waNil)))
noncomputable def zba (r:Nat) (T:WS):WS:=(zaz (zcB (zax (zaJ r) (zab (zag 0) (zab (zcG (zdF (zab (zag 5) waNil))) waNil)))) T)
noncomputable def zaZ (r:Nat) (T:WS):WS:=(zaz (wAsg (zax (zbO r) (zab (zag 0) (zab (wOp oIx (zag 3) (zpj (wC (.int 1)))) (zab (zag 4) waNil)))) (wGN 5)) T)
noncomputable def zbA (r:Nat) (self:WSp):WS:=(zaZ r (zba r (zaY r)))
noncomputable def zbg (r:Nat) (T:WS):WS:=(zaz (zit (wIv (zag 2)) (wGN 4) (zbA r zbD)) T)
noncomputable def zbf (r:Nat) (T:WS):WS:=(zaz (wAsg (zcG (zdF (zab (zag 1) waNil))) (wGN 3)) T)
noncomputable def zbi:Nat→WSp
 |0=>zbD
 |r+1=>zdE 6 3 (zbf r (zbg r (zbe r)))
noncomputable def zdP (r:Nat):WS:=(zci (zbS (zab (zag 3) (zab (zag 5) waNil))))
noncomputable def zhv (r:Nat) (self:WSp):WE:=(zax (zbO r) (zab (zag 2) (zab (zag 0) (zab (zag 1) waNil))))
noncomputable def zcx (r:Nat):WS:=(zcB (wM rvL zbY (zag 5) (zab (zag 4) waNil)))
noncomputable def zcp (r:Nat) (T:WS):WS:=(zaz (zcB (wM rvL zbY (zag 3) (zab (zag 7) waNil))) T)
noncomputable def zdd (r:Nat) (T:WS):WS:=(zaz (wAsg (zcG (zey 2 [0] (zol (zag 4) (zag 7)) (wGT (zaH (wGN 0) (zaH (wGN 1) zcV))) zjs (zhv r zbD))) (wGN 4)) T)
noncomputable def zdg (r:Nat) (T:WS):WS:=(zaz (wAsg (zax (zbi r) (zab (zag 0) (zab (zag 6) (zab (zag 4) waNil)))) (wGN 7)) T)
noncomputable def zeW (r:Nat) (self:WSp):WS:=(zdg r (zdd r (zcp r (zcx r))))
noncomputable def zdU (r:Nat) (T:WS):WS:=(zaz (zit (wIv (wOp oIx (zag 1) (wC (.int 1)))) (wGN 6) (zeW r zbD)) T)
noncomputable def zdk (r:Nat) (T:WS):WS:=(zaz (wAsg (zcG (zdF (zab (zag 4) waNil))) (wGN 5)) T)
noncomputable def zdh (r:Nat) (T:WS):WS:=(zaz (wAsg (zcG (zha (wOp oIx (zag 2) (wC (.int 1))))) (wGN 4)) T)
noncomputable def zds (r:Nat) (T:WS):WS:=(zaz (wAsg (zcG (zdF waNil)) (wGN 3)) T)
noncomputable def zdN (r:Nat) (T:WS):WS:=(zaz (zcB (zax (zaJ r) (zab (zag 0) (zab (wOp oIx (zag 2) (wC (.int 1))) waNil)))) T)
noncomputable def zdO (r:Nat) (T:WS):WS:=(zaz (zcB (zax (zaJ r) (zab (zag 0) (zab (wOp oIx (zag 1) (wC (.int 1))) waNil)))) T)
noncomputable def zdo (r:Nat) (T:WS):WS:=(zaz (zcB (zax (zaD r) (zab (wOp oIx (zag 1) (wC (.int 0))) waNil))) T)
noncomputable def zdf (r:Nat) (T:WS):WS:=(zaz (zde (wTb (wOp (oEq true) (wOp oIx (zag 1) (wC (.int 0))) (wOp oIx (zag 2) (wC (.int 0))))) (zfF "Apart" (zab (wC (.str "the roads are not from one shape")) waNil)) zbj) T)
noncomputable def zfL:Nat→WSp
 |0=>zbD
 |r+1=>zdE 8 3 (zdf r (zdo r (zdO r (zdN r (zds r (zdh r (zdk r (zdU r (zdP r)))))))))
noncomputable def zcL (r:Nat) (self:WSp):WE:=(wOp oIx (zag 0) (zpj (wC (.int 1))))
noncomputable def zbE:Nat→WSp
 |0=>zbD
 |r+1=>zdE 1 1 (zci (zcG (zey 1 [] (wIv (wOp oIx (zag 0) (wC (.int 0)))) (wGN 0) zjs (zcL r zbD))))
noncomputable def zaT (r:Nat) (self:WSp):WS:=(zaz (wAsg (zax (zdp r) (zab (zag 0) (zab (zag 5) waNil))) (wGN 7))
  (zaz (wAsg (zax (zeM r) (zab (zag 0) (zab (zag 5) waNil))) (wGN 8))
  (zaz (wAsg (wIf (zgA (zag 6)) (zag 7) (zag 8)) (wGN 9))
  (zaz (zde (wTb (wOp (oEq true) (zag 9) (wOp oIx (zag 4) (wC (.int 0))))) (zfF "Apart" (zab (wC (.str "a step does not stand where the winding stands")) waNil)) zbj)
  (zde (zgA (zag 6)) (zaz (wAsg (zax (zfL r) (zab (zag 0) (zab (zbS (zab (zag 7) (zab (zcG (zdF (zab (zag 5) waNil))) waNil))) (zab (zag 4) waNil)))) (wGN 10))
  (zaz (wAsg (zbS (zab (zag 1) (zab (wOp zfv (wOp oIx (zag 3) (wC (.int 1))) (zax (zbE r) (zab (zag 10) waNil))) waNil))) (wGN 3))
  (wAsg (zbS (zab (zag 8) (zab (wOp oIx (wOp oIx (zag 10) (wC (.int 1))) (zpj (wC (.int 1)))) waNil))) (wGN 4)))) (wAsg (zbS (zab (zag 7) (zab (zcG (znk (zdF (zab (zag 5) waNil)) (wOp oIx (zag 4) (wC (.int 1))))) waNil))) (wGN 4)))))))
noncomputable def zdn:Nat→WSp
 |0=>zbD
 |r+1=>zdE 11 3 (zaz (wAsg (zbS (zab (zag 1) (zab (zcG (zdF waNil)) waNil))) (wGN 3))
  (zaz (wAsg (zbS (zab (zag 1) (zab (zcG (zdF waNil)) waNil))) (wGN 4))
  (zaz (zit (wIv (zag 2)) (wGT (zaH (wGN 5) (zaH (wGN 6) zcV))) (zaT r zbD))
  (zci (zbS (zab (zag 3) (zab (zag 4) waNil)))))))
noncomputable def zat:Nat→WSp
 |0=>zbD
 |r+1=>zdE 2 2 (zaz (zde (wTb (wOp oLt (zag 1) (wB zis (zab (zag 0) waNil)))) (zci (wOp oIx (zag 0) (zag 1))) zbj)
  (zci (wC (.int 0))))
noncomputable def zcJ (r:Nat) (self:WSp):WE:=(wOp oIx (zag 1) (wOp (zcC (fun _ j=>0<j) fun i j=> .int (i % j)) (wOp zfv (wOp oIx (zag 2) (zag 0)) (wOp (zcC CMul fun i j=> .int (i*j)) (zag 3) (wB zqi (zab (wOp (oEq false) (zag 0) (zag 4)) waNil)))) (wC (.int 26))))
noncomputable def zcI (r:Nat) (self:WSp):WS:=(zaz (wAsg (wML rvS zfZ (wC (.str "")) (zey 1 [3,5,6,7] (zom (zab (wB zis (zab (zag 5) waNil)) waNil)) (wGN 0) zjs (zcJ r zbD))) (wGN 9))
  (zaz (zde (zgA (zag 2)) (wAsg (wOp zfv (wM rvS zhl (wOp oIx (zag 9) (wC (.int 0))) waNil) (wSl (zag 9) (woS (wC (.int 1))) woN)) (wGN 9)) zbj)
  (zcB (wM rvL zbY (zag 8) (zab (zag 9) waNil)))))
noncomputable def zbP (r:Nat) (self:WSp):WS:=(zaz (zcB (wM rvL zbY (zag 5) (zab (wOp (zcC (fun _ j=>0<j) fun i j=> .int (i % j)) (zag 4) (wC (.int 26))) waNil)))
  (wAsg (wOp (zcC zkH fun i j=> .int (i / j)) (zag 4) (wC (.int 26))) (wGN 4)))
noncomputable def zbq:Nat→WSp
 |0=>zbD
 |r+1=>zdE 10 3 (zaz (wAsg (wC (.str "abcdefghijklmnopqrstuvwxyz")) (wGN 3))
  (zaz (wAsg (wOp (zcC (fun _ j=>0<j) fun i j=> .int (i % j)) (zag 1) (wOp (zcC zrv fun i j=> .int (i ^ j.toNat)) (wC (.int 26)) (wC (.int 8)))) (wGN 4))
  (zaz (wAsg (zcG (zdF waNil)) (wGN 5))
  (zaz (zit (zom (zab (wOp zfv (wC (.int 1)) (wOp (zcC (fun _ j=>0<j) fun i j=> .int (i % j)) (zag 0) (wC (.int 8)))) waNil)) (wGN 6) (zbP r zbD))
  (zaz (wAsg (wOp (zcC (fun _ j=>0<j) fun i j=> .int (i % j)) (wOp (zcC zkH fun i j=> .int (i / j)) (zag 0) (wC (.int 8))) (wB zis (zab (zag 5) waNil))) (wGN 7))
  (zaz (wAsg (zcG (zdF waNil)) (wGN 8))
  (zaz (zit (zom (zab (wC (.int 6)) waNil)) (wGN 6) (zcI r zbD))
  (zaz (zde (znI (wTb (wOp (oEq false) (wOp (zcC (fun _ j=>0<j) fun i j=> .int (i % j)) (wOp (zcC zkH fun i j=> .int (i / j)) (zag 0) (wC (.int 64))) (wC (.int 2))) (wC (.int 1)))) (zmJ (zgA (zag 2)))) (wAsg (zcG (zjL (zpy (zag 8) woN (woS (wC (.int 3)))) (zdF (zab (wOp oIx (zag 8) (wC (.int 2))) (zab (wOp oIx (zag 8) (wC (.int 2))) (zab (wOp oIx (zag 8) (wC (.int 5))) waNil)))))) (wGN 8)) zbj)
  (zci (zag 8))))))))))
noncomputable def zaS:Nat→WSp
 |0=>zbD
 |r+1=>zdE 5 3 (zaz (wAsg (zcG (zdF waNil)) (wGN 3))
  (zaz (zjG 4 ["TooGreat", "Apart"] (zcB (ziv (zdn r) (zab (zag 0) (zab (zag 1) (zab (zag 2) waNil))))) (fun cl a=>(zaz (wAsg (zcG (zdF (zab (zku 4 a (zda cl "TooGreat")) (zab (zku 4 a (zda cl "Apart")) (zab (zku 4 a (zda cl "NoUse")) (zab (zku 4 a (zda cl "NoWay")) waNil)))))) (wGN 3))
  (wAsg (zcG (zmE (zag 3) (zdF (zab (zku 4 a (zda cl "NoPlace")) (zab (zkF (zku 4 a (zda cl "ValueError"))) waNil))))) (wGN 3)))))
  (zci (zag 3))))
noncomputable def zbX (r:Nat) (self:WSp):WS:=(wAsg (zbS (zab (wC (.str "B")) (zab (zag 2) waNil))) (wGN 2))
noncomputable def zaP:Nat→WSp
 |0=>zbD
 |r+1=>zdE 4 2 (zaz (zde (wTb (wOp oLt (wOp (zcC (fun _ j=>0<j) fun i j=> .int (i % j)) (zag 0) (wC (.int 4))) (wC (.int 2)))) (zci (zbS (zab (zbS (zab (wC (.str "A")) (zab (zbS (zab (wOp oIx (zag 1) (wC (.int 5))) waNil)) waNil))) (zab (wOp (oEq false) (wOp (zcC (fun _ j=>0<j) fun i j=> .int (i % j)) (zag 0) (wC (.int 4))) (wC (.int 0))) waNil)))) zbj)
  (zaz (zde (wTb (wOp (oEq false) (wOp (zcC (fun _ j=>0<j) fun i j=> .int (i % j)) (zag 0) (wC (.int 4))) (wC (.int 2)))) (zci (zbS (zab (zbS (zab (wC (.str "A")) (zab (wOp zfv (zbS (zab (wOp oIx (zag 1) (wC (.int 5))) waNil)) (wOp zjr (zbS (zab (zbS (zab (wOp oIx (zag 1) (wC (.int 2))) waNil)) waNil)) (wOp zfv (wC (.int 200)) (wOp (zcC (fun _ j=>0<j) fun i j=> .int (i % j)) (wOp (zcC zkH fun i j=> .int (i / j)) (zag 0) (wC (.int 8))) (wC (.int 150)))))) waNil))) (zab (wOp (oEq false) (wOp (zcC (fun _ j=>0<j) fun i j=> .int (i % j)) (wOp (zcC zkH fun i j=> .int (i / j)) (zag 0) (wC (.int 4))) (wC (.int 2))) (wC (.int 0))) waNil)))) zbj)
  (zaz (wAsg (zbS (zab (wOp oIx (zag 1) (wC (.int 2))) waNil)) (wGN 2))
  (zaz (zit (zom (zab (wC (.int 37)) waNil)) (wGN 3) (zbX r zbD))
  (zci (zbS (zab (zag 2) (zab (wOp (oEq false) (wOp (zcC (fun _ j=>0<j) fun i j=> .int (i % j)) (wOp (zcC zkH fun i j=> .int (i / j)) (zag 0) (wC (.int 4))) (wC (.int 2))) (wC (.int 0))) waNil))))))))
noncomputable def zcq (r:Nat):WS:=(zci (wOp (oEq false) (zax (zaS r) (zab (zag 3) (zab (zag 7) (zab (zag 8) waNil)))) (zag 10)))
noncomputable def zbN (r:Nat):WS:=(wAsg (zcG (zdF (zab (zkF (zag 13)) (zab (zag 13) (zab (wC (.bl false)) (zab (wC (.bl false)) (zab (wC (.bl false)) (zab (wC (.bl false)) waNil)))))))) (wGN 10))
noncomputable def zbM (r:Nat) (T:WS):WS:=(zaz (wAsg (wOp oLt (wOp (zcC (fun _ j=>0<j) fun i j=> .int (i % j)) (zax (zat r) (zab (zag 0) (zab (wC (.int 5)) waNil))) (wC (.int 4))) (wC (.int 2))) (wGN 13)) T)
noncomputable def zbb (r:Nat):WS:=(zde (wOr (wTb (wOp oLt (zag 11) (wC (.int 2)))) (zmJ (zgA (zag 9)))) (zbM r (zbN r)) zbj)
noncomputable def zct (r:Nat) (T:WS):WS:=(zaz (wAsg (zcG (zjL (zjL (zpy (zag 8) woN (woS (zag 11))) (zdF (zab (zag 12) waNil))) (zpy (zag 8) (woS (zag 11)) woN))) (wGN 8)) T)
noncomputable def zcv (r:Nat) (T:WS):WS:=(zaz (wAsg (zax (zaP r) (zab (zax (zat r) (zab (zag 0) (zab (wC (.int 5)) waNil))) (zab (zag 1) waNil))) (wGN 12)) T)
noncomputable def zco (r:Nat) (T:WS):WS:=(zaz (wAsg (wOp (zcC (fun _ j=>0<j) fun i j=> .int (i % j)) (wOp (zcC zkH fun i j=> .int (i / j)) (zax (zat r) (zab (zag 0) (zab (wC (.int 4)) waNil))) (wC (.int 5))) (wC (.int 3))) (wGN 11)) T)
noncomputable def zbJ (r:Nat) (T:WS):WS:=(zaz (zde (wTb (wOp oGt (wOp (zcC (fun _ j=>0<j) fun i j=> .int (i % j)) (zax (zat r) (zab (zag 0) (zab (wC (.int 4)) waNil))) (wC (.int 5))) (wC (.int 0)))) (zco r (zcv r (zct r (zbb r)))) zbj) T)
noncomputable def zbF (r:Nat) (T:WS):WS:=(zaz (zde (zgA (zag 9)) (wAsg (zcG (zdF (zab (wC (.bl true)) (zab (wC (.bl false)) (zab (wC (.bl false)) (zab (wC (.bl false)) (zab (wC (.bl false)) (zab (wC (.bl false)) waNil)))))))) (wGN 10)) zbj) T)
noncomputable def zbK (r:Nat) (T:WS):WS:=(zaz (wAsg (zcG (zdF waNil)) (wGN 10)) T)
noncomputable def zca (r:Nat) (T:WS):WS:=(zaz (wAsg (wOp oGt (wOp zfv (wOp (zcC CMul fun i j=> .int (i*j)) (wC (.int 4)) (zag 4)) (wC (.int 7))) (wC (.int 400))) (wGN 9)) T)
noncomputable def zce (r:Nat) (T:WS):WS:=(zaz (wAsg (zcG (zdF (zab (zbS (zab (zbS (zab (wC (.str "A")) (zab (zag 6) waNil))) (zab (wC (.bl false)) waNil))) (zab (zbS (zab (zbS (zab (wOp oIx (zag 1) (wC (.int 0))) (zab (zbS (zab (wC (.str "A")) (zab (zag 5) waNil))) waNil))) (zab (wC (.bl true)) waNil))) waNil)))) (wGN 8)) T)
noncomputable def zbZ (r:Nat) (T:WS):WS:=(zaz (wAsg (zbS (zab (wOp oIx (zag 1) (wC (.int 4))) (zab (zag 6) (zab (zag 6) waNil)))) (wGN 7)) T)
noncomputable def zch (r:Nat) (T:WS):WS:=(zaz (wAsg (zbS (zab (wOp oIx (zag 1) (wC (.int 0))) (zab (zag 5) waNil))) (wGN 6)) T)
noncomputable def zcb (r:Nat) (T:WS):WS:=(zaz (wAsg (wOp zfv (zbS (zab (wOp oIx (zag 1) (wC (.int 5))) waNil)) (wOp zjr (zbS (zab (zag 2) waNil)) (zag 4))) (wGN 5)) T)
noncomputable def zcj (r:Nat) (T:WS):WS:=(zaz (wAsg (wOp (zcC (fun _ j=>0<j) fun i j=> .int (i % j)) (zax (zat r) (zab (zag 0) (zab (wC (.int 2)) waNil))) (zrQ (zdF (zab (wC (.int 20)) (zab (wC (.int 190)) (zab (wC (.int 110)) waNil)))) (wOp (zcC (fun _ j=>0<j) fun i j=> .int (i % j)) (zax (zat r) (zab (zag 0) (zab (wC (.int 3)) waNil))) (wC (.int 3))))) (wGN 4)) T)
noncomputable def zcf (r:Nat) (T:WS):WS:=(zaz (wAsg (zcG (zdF (zab (zbS (zab (wC (.str "A")) (zab (zbS (zab (wOp oIx (zag 1) (wC (.int 0))) (zab (wC (.int 0)) waNil))) (zab (zbS (zab (wOp oIx (zag 1) (wC (.int 4))) (zab (wC (.int 0)) (zab (wC (.int 0)) waNil)))) waNil)))) (zab (zbS (zab (wC (.str "B")) (zab (zbS (zab (wOp oIx (zag 1) (wC (.int 1))) (zab (zbS (zab (wOp oIx (zag 1) (wC (.int 4))) (zab (zag 2) (zab (zag 2) (zab (zag 2) (zab (zag 2) (zab (zag 2) (zab (zag 2) (zab (zag 2) (zab (zag 2) (zab (zag 2) waNil))))))))))) (zab (wC (.int 0)) waNil)))) (zab (zbS (zab (wOp oIx (zag 1) (wC (.int 3))) (zab (wC (.int 0)) waNil))) waNil)))) waNil)))) (wGN 3)) T)
noncomputable def zcd (r:Nat) (T:WS):WS:=(zaz (wAsg (zbS (zab (wOp oIx (zag 1) (wC (.int 2))) waNil)) (wGN 2)) T)
noncomputable def zck (r:Nat) (T:WS):WS:=(zaz (wAsg (zax (zbq r) (zab (zax (zat r) (zab (zag 0) (zab (wC (.int 0)) waNil))) (zab (zax (zat r) (zab (zag 0) (zab (wC (.int 1)) waNil))) (zab (wC (.bl false)) waNil)))) (wGN 1)) T)
noncomputable def zbW:Nat→WSp
 |0=>zbD
 |r+1=>zdE 14 1 (zck r (zcd r (zcf r (zcj r (zcb r (zch r (zbZ r (zce r (zca r (zbK r (zbF r (zbJ r (zcq r)))))))))))))
theorem zhk{r:Nat}{t:Tr}{S:Sto}{Q:WK}{E:Str→Sto→Prop}(h:Q (.tup (zaw t.kids)) S):zbU (r+1) [enc t] S Q E:=by
 rw [zbU];cases t with
 |bl n=>
  simp only[enc];walk_at "wp";exact⟨Nat.zero_le _,S, .refl,h⟩
 |nd s ts=>
  simp only[enc];walk_at "wp";exact⟨S, .refl,h⟩
noncomputable def Tr.at:Tr→List Int→Option Tr
 |t,[]=>some t
 | .bl _,_::_=>none
 | .nd _ ts,i::p=>if i<0 then none else match ts[i.toNat]? with
  |some u=>u.at p
  |none=>none
noncomputable def Low (c:Nat):Prop:=97≤c∧c≤122
noncomputable def zbk (x:Str):Prop:=1≤x.cps.toList.length∧x.cps.toList.length≤8∧ ∀c∈x.cps.toList,Low c
noncomputable def zbL (x:Str):Prop:=∃c r,x.cps.toList=c::r∧65≤c∧c≤90∧r.length≤7∧ ∀d∈r,Low d
theorem znB:(Str.ofString "abcdefghijklmnopqrstuvwxyz").cps.toList=List.range' 97 26:=by decide +kernel
theorem zpW:(Str.ofString "abcdefghijklmnopqrstuvwxyz").length=26:=by decide +kernel
theorem zgr:∀cs:List Nat,(Str.join (Str.ofString "") (cs.map fun c=>(⟨#[c]⟩:Str))).cps.toList=cs
 | []=>rfl
 | [c]=>rfl
 |c::d::r=>by
  have ih:=zgr (d::r);show((⟨#[c]⟩:Str)++Str.ofString "" ++Str.join (Str.ofString "") ((d::r).map fun c=>(⟨#[c]⟩:Str))).cps.toList=_;show(#[c]++(Str.ofString "").cps++(Str.join (Str.ofString "") ((d::r).map fun c=>(⟨#[c]⟩:Str))).cps).toList=_;rw [Array.toList_append,Array.toList_append,ih];rfl
theorem zlE (cs:List Nat):((cs.map fun c=>(⟨#[c]⟩:Str)).map (·.length)).sum=cs.length:=by
 induction cs with
 |nil=>rfl
 |cons c r ih=>
  rw [List.map_cons,List.map_cons,List.sum_cons,ih,List.length_cons];show 1+r.length=r.length+1;omega
theorem zeh:∀cs:List Nat,zdD (cs.map fun c=>W.str ⟨#[c]⟩)=some (cs.map fun c=>(⟨#[c]⟩:Str))
 | []=>rfl
 |c::cs=>by rw [List.map_cons,zdD,zeh cs];rfl
theorem ziB (cs:List Nat) (h:cs.length≤1000):(List.map (fun x=>x.length) (cs.map fun c=>(⟨#[c]⟩:Str))).sum+(cs.map fun c=>(⟨#[c]⟩:Str)).length*(Str.ofString "").length≤16777216:=by
 have e:=zlE cs;have z:(Str.ofString "").length=0:=by decide +kernel
 rw [e,z];omega
theorem zhj{lo:Int}{n:Nat}:(zju lo n).length=n:=by simp [zju]
theorem zcU (ts us:List Tr):zaw (ts++us)=zaw ts++zaw us:=by rw [zaX,zaX,zaX,List.map_append]
mutual
noncomputable def Tr.plt (p:List Int):Tr→List (List Int×Tr)
 | .bl n=>[(p, .bl n)]
 | .nd s ts=>(p, .nd s ts)::zjJ p 0 ts
noncomputable def zjJ (p:List Int) (i:Nat):List Tr→List (List Int×Tr)
 | []=>[]
 |t::ts=>t.plt (p++[(i:Int)])++zjJ p (i+1) ts
end
theorem zkn{s:Str}{ts:List Tr}{i:Nat}{q:List Int}{u:Tr}(h:ts[i]? =some u):(Tr.nd s ts).at ((i:Int)::q)=u.at q:=by
 rw [Tr.at,if_neg (by omega)];simp [h]
mutual
theorem zmr:∀(t:Tr) (p q:List Int) (u:Tr),(q,u)∈t.plt p→ ∃r,q=p++r∧t.at r=some u∧r.length<t.depth
 | .bl n,p,q,u,h=>by
  simp only[Tr.plt,List.mem_singleton,Prod.mk.injEq]at h;obtain⟨rfl,rfl⟩:=h;exact⟨[],by simp,by simp [Tr.at],by simp [Tr.depth]⟩
 | .nd s ts,p,q,u,h=>by
  simp only[Tr.plt,List.mem_cons,Prod.mk.injEq]at h;rcases h with⟨rfl,rfl⟩ |h
  ·exact⟨[],by simp,by simp [Tr.at],by simp [Tr.depth];omega⟩
  ·obtain⟨j,v,r,h1,h2,h3,h4⟩:=zjH ts p 0 q u h;refine⟨(j:Int)::r,by rw [h2];simp,by rw [zkn h1];exact h3,by simp [Tr.depth];omega⟩
theorem zjH:∀(ts:List Tr) (p:List Int) (i:Nat) (q:List Int) (u:Tr),(q,u)∈zjJ p i ts→ ∃(j:Nat) (v:Tr) (r:List Int),ts[j]? =some v∧q=p++[((i+j:Nat):Int)]++r∧v.at r=some u∧r.length<dts ts
 | [],p,i,q,u,h=>by simp [zjJ]at h
 |t::ts,p,i,q,u,h=>by
  simp only[zjJ,List.mem_append]at h;rcases h with h |h
  ·obtain⟨r,h1,h2,h3⟩:=zmr t _ q u h;exact⟨0,t,r,rfl,by simpa using h1,h2,by simp [dts];omega⟩
  ·obtain⟨j,v,r,h1,h2,h3,h4⟩:=zjH ts p (i+1) q u h;refine⟨j+1,v,r,by simpa using h1,?_,h3,by simp [dts];omega⟩
   rw [h2,show i+1+j=i+(j+1) by omega]
end
theorem keep{S:Sto}{a p:Addr}{o x:Ob}(f:S a=some o) (h:S p=none):put S p x a=some o:=by rw [zaB (zlH f h)];exact f
theorem zfi{u:Tr}:∀{ts:List Tr},u∈ts→u.depth≤dts ts
 |t::ts,h=>by
  rcases List.mem_cons.mp h with rfl |h
  ·simp [dts];omega
  ·have:=zfi h;simp [dts];omega
theorem zbB{α:Type}{g:WG}{e:WE}{E:WX}{G:Sto→Prop}{Q:List W→Sto→Prop}{S:Sto}(I:WSt→Prop) (k f:α→W) (hG:G S):∀(xs:List α) (acc:List W) (σ:WSt),I σ→acc.length+xs.length≤1000000→
  (∀x∈xs,∀σ (R:WSt→W→Sto→Prop),I σ→(∀σ1 S3,I σ1→Sub S S3→R σ1 (f x) S3)→g (k x) σ S fun σ1 S1=>e E σ1 S1 fun y S3=>R σ1 y S3)→
  Q (acc++xs.map f) S→zeB g zjs e E G Q (xs.map k) acc σ S
 | [],acc,σ,hI,hl,step,hQ=>by simpa [zeB]using hQ
 |x::xs,acc,σ,hI,hl,step,hQ=>by
  simp only[List.map_cons,zeB,zjs,if_true];simp only[List.length_cons]at hl;refine step x List.mem_cons_self σ _ hI fun σ1 S3 hI1 sb=>⟨zcP (by omega),S,sb,hG,zbB I k f hG xs (acc++[f x]) σ1 hI1 (by simp;omega) (fun y hy=>step y (List.mem_cons_of_mem _ hy)) ?_⟩;simpa using hQ
noncomputable def Tr.isBl:Tr→Bool
 | .bl _=>true
 | .nd _ _=>false
noncomputable def Tr.bls (t:Tr):List (List Int×Tr):=(t.plt []).filter fun x=>x.2.isBl
mutual
noncomputable def Tr.fill (us:List Tr):Tr→Tr
 | .bl n=>us.getD n.toNat (.bl n)
 | .nd s ts=> .nd s (fills us ts)
noncomputable def fills (us:List Tr):List Tr→List Tr
 | []=>[]
 |t::ts=>t.fill us::fills us ts
end
mutual
noncomputable def Tr.fits (m:Nat):Tr→Prop
 | .bl n=>0≤n∧n<m
 | .nd _ ts=>fitss m ts
noncomputable def fitss (m:Nat):List Tr→Prop
 | []=>True
 |t::ts=>t.fits m∧fitss m ts
end
theorem zgx (us:List Tr):∀ts:List Tr,fills us ts=ts.map (Tr.fill us)
 | []=>by simp [fills]
 |t::ts=>by simp [fills,zgx us ts]
theorem zfx{m:Nat}{t:Tr}:∀{ts:List Tr},fitss m ts→t∈ts→t.fits m
 |u::ts,h,hm=>by
  simp only[fitss]at h;rcases List.mem_cons.mp hm with rfl |hm
  ·exact h.1
  ·exact zfx h.2 hm
theorem zeq{us:List Tr}{a:Addr}:∀(d:Nat) {t:Tr}{r:Nat}{S:Sto}{Q:WK}{E:Str→Sto→Prop},t.depth≤d→d≤r+1→S a=some (.lst (zaw us))→t.fits us.length→t.weight≤90000→Q (enc (t.fill us)) S→zbw (r+1) [enc t, .ref a] S Q E
 |0,t,r,S,Q,E,hd,hr,ha,hf,hw,h=>by have:=zdq t;omega
 |d+1, .bl n,r,S,Q,E,hd,hr,ha,hf,hw,h=>by
  simp only[Tr.fits]at hf;simp only[Tr.fill]at h;rw [zbw];simp only[enc];walk_at "wp";have e:atI (zaw us) n=some (enc (us.getD n.toNat (.bl n))):=by
   have q:=zcA (xs:=zaw us) (n:=n.toNat);rw [Int.toNat_of_nonneg hf.1]at q;rw [q,zaX,List.getElem?_map,List.getD_eq_getElem?_getD,List.getElem?_eq_getElem (by omega)];rfl
  rw [zaj ha,e];exact⟨S, .refl,h⟩
 |d+1, .nd s ts,r,S,Q,E,hd,hr,ha,hf,hw,h=>by
  simp only[Tr.fits]at hf;simp only[Tr.fill]at h;simp only[Tr.depth]at hd;simp only[Tr.weight]at hw;have hk:=zcg ts;rw [zbw];simp only[enc]at h⊢;walk_at "wp";refine⟨zai (by decide),?_⟩;rw [zaX];refine zbB (fun σ=>∃x,σ=[x,some (.ref a)]) enc (fun t=>enc (t.fill us)) trivial ts [] _ ⟨none,rfl⟩ (by simp;omega) (fun x hx σ R hI hR=>?_) ?_
  ·obtain⟨y,rfl⟩:=hI;have hdx:=zfi hx;have hwx:=zex hx;have:=zdq x;obtain⟨r,rfl⟩:∃r',r=r'+1:=⟨r - 1,by omega⟩
   simp only[zeT];walk_at "wp";exact zeq d (t:=x) (r:=r) (by omega) (by omega) ha (zfx hf hx) (by omega) (hR _ _ ⟨_,rfl⟩ .refl)
  ·rw [List.nil_append];refine⟨zai (by simp;omega),S, .refl,?_⟩;have e:zaw (fills us ts)=ts.map fun t=>enc (t.fill us):=by rw [zaX,zgx,List.map_map];rfl
   rw [e]at h;exact h
theorem zjc (t:Tr):t.at []=some t:=by cases t<;>rfl
theorem zps{s:Str}{ts:List Tr}{i:Int}{p:List Int}{u:Tr}(h:(Tr.nd s ts).at (i::p)=some u):∃v,0≤i∧ts[i.toNat]? =some v∧v.at p=some u:=by
 unfold Tr.at at h;split at h
 ·cases h
 ·split at h
  ·exact⟨_,by omega, ‹_›,h⟩
  ·cases h
theorem zmc:∀(q:List Int) {D t:Tr}(r:List Int),D.at q=some t→D.at (q++r)=t.at r
 | [],D,t,r,h=>by rw [zjc]at h;cases h;rfl
 |i::q, .bl n,t,r,h=>by cases h
 |i::q, .nd s ts,t,r,h=>by
  obtain⟨v,h0,h1,h2⟩:=zps h;rw [List.cons_append];have e:(i:Int)=((i.toNat:Nat):Int):=(Int.toNat_of_nonneg h0).symm;rw [e,zkn h1];exact zmc q r h2
mutual
noncomputable def Tr.same:Tr→Tr→Bool
 | .bl n, .bl m=>n == m
 | .nd s ts, .nd z us=>s == z&&zdH ts us
 |_,_=>false
noncomputable def zdH:List Tr→List Tr→Bool
 | [],[]=>true
 |t::ts,u::us=>t.same u&&zdH ts us
 |_,_=>false
end
mutual
theorem zdV:∀(t u:Tr),t.same u=true↔t=u
 | .bl n, .bl m=>by simp [Tr.same]
 | .nd s ts, .nd z us=>by simp [Tr.same,zgk ts us]
 | .bl n, .nd z us=>by simp [Tr.same]
 | .nd s ts, .bl m=>by simp [Tr.same]
theorem zgk:∀(ts us:List Tr),zdH ts us=true↔ts=us
 | [],[]=>by simp [zdH]
 |t::ts,u::us=>by simp [zdH,zdV t u,zgk ts us]
 | [],u::us=>by simp [zdH]
 |t::ts,[]=>by simp [zdH]
end
theorem zjk (t:Tr):t.same t=true:=(zdV t t).mpr rfl
theorem zpO{S:Sto}{n:Nat}{xs ys:List W}:eqF S (n+1) (.tup xs) (.tup ys)=zdw (eqF S n) xs ys:=Eq.trans (b:=zdw (eqF S n) xs ys) rfl rfl
theorem zoD{S:Sto}{n:Nat}{x y:Str}:eqF S (n+1) (.str x) (.str y)=some (x == y):=Eq.trans (b:=some (x == y)) rfl rfl
theorem zpY{S:Sto}{n:Nat}{x y:Int}:eqF S (n+1) (.int x) (.int y)=some (x == y):=Eq.trans (b:=some (x == y)) rfl rfl
theorem zpx{S:Sto}{n:Nat}{x:Int}{ys:List W}:eqF S (n+1) (.int x) (.tup ys)=some false:=Eq.trans (b:=some false) rfl rfl
theorem zoI{S:Sto}{n:Nat}{x:Int}{ys:List W}:eqF S (n+1) (.tup ys) (.int x)=some false:=Eq.trans (b:=some false) rfl rfl
mutual
theorem zlD{S:Sto}:∀(n:Nat) (t u:Tr),t.depth<n→eqF S n (enc t) (enc u)=some (t.same u)
 |0,t,u,h=>by omega
 |n+1, .bl k, .bl m,h=>by simp only[enc,zpY,Tr.same]
 |n+1, .nd s ts, .nd z us,h=>by
  simp only[Tr.depth]at h;obtain⟨n,rfl⟩:∃m,n=m+1:=⟨n - 1,by omega⟩
  simp only[enc,zpO,zdw,zoD,Tr.same];rw [zmq (n+1) ts us (by omega)]
 |n+1, .bl k, .nd z us,h=>by simp only[enc,zpx,Tr.same]
 |n+1, .nd s ts, .bl m,h=>by simp only[enc,zoI,Tr.same]
theorem zmq{S:Sto}:∀(n:Nat) (ts us:List Tr),dts ts<n→zdw (eqF S n) (zaw ts) (zaw us)=some (zdH ts us)
 |n,[],[],h=>by simp only[zaw,zdw,zdH]
 |n,[],u::us,h=>by simp only[zaw,zdw,zdH]
 |n,t::ts,[],h=>by simp only[zaw,zdw,zdH]
 |n,t::ts,u::us,h=>by
  simp only[dts]at h;simp only[zaw,zdw,zdH,zlD n t u (by omega),zmq n ts us (by omega)]
end
theorem zgd (j:Int) (m:Nat):zju j (m+1)= .int j::zju (j+1) m:=by
 unfold zju;rw [List.range_succ_eq_map,List.map_cons,List.map_map];congr 1
 ·simp
 ·apply List.map_congr_left;intro i _;simp only[Function.comp,W.int.injEq];omega
theorem zjP{α:Type}{xs:List α}{i:Int}(h0:0≤i) (h1:i<xs.length):∃x,atI xs i=some x∧x∈xs:=by
 have q:=zcA (xs:=xs) (n:=i.toNat);rw [Int.toNat_of_nonneg h0,List.getElem?_eq_getElem (by omega)]at q;exact⟨_,q,List.getElem_mem ..⟩
theorem zjC{g:WG}{b:WS}{E:WX}{D:WEnds}(I:Nat→WSt→Sto→Prop) (n:Nat)
  (step:∀i,i<n→ ∀σ S (N:WSt→Sto→Prop),I i σ S→(∀σ' S' S'',Sub S'' S'→I (i+1) σ' S''→N σ' S')→g (.int i) σ S fun σ1 S1=>b E { D with nx:=N,ct:=N,bk:=D.nx } σ1 S1)
  (done:∀σ S,I n σ S→D.nx σ S) {σ:WSt}{S:Sto}(h:I 0 σ S):zcN g b E D (fun _=>True) (zju 0 n) σ S:=by
 refine zjq (fun ws σ S=>∃i,i≤n∧ws=zju (i:Int) (n - i)∧I i σ S) ?_ ?_ _ _ _ ⟨0,Nat.zero_le _,rfl,h⟩
 ·rintro w ws σ S N ⟨i,hi,e,hI⟩ hN;obtain⟨m,hm⟩:∃m,n - i=m+1:=by
   rcases Nat.eq_zero_or_pos (n - i) with z |z
   ·rw [z]at e;cases e
   ·exact⟨n - i - 1,by omega⟩
  rw [hm,zgd]at e;cases e;exact step i (by omega) σ S N hI fun σ' S' S'' sb h'=>hN σ' S' S'' sb trivial ⟨i+1,by omega,by rw [show n - (i+1)=m by omega];push_cast;rfl,h'⟩
 ·rintro σ S ⟨i,hi,e,hI⟩;have:n - i=0:=by
   rcases Nat.eq_zero_or_pos (n - i) with z |z
   ·exact z
   ·obtain⟨m,hm⟩:∃m,n - i=m+1:=⟨n - i - 1,by omega⟩
    rw [hm,zgd]at e;cases e
  rw [show i=n by omega]at hI
  exact done σ S hI
theorem apart{D:Tr}{p q:List Int}{n m:Int}(hp:D.at p=some (.bl n)) (hq:D.at q=some (.bl m)) (h:p≠q):¬p <+:q:=by
 rintro⟨r,rfl⟩;rw [zmc p r hp]at hq;cases r with
 |nil=>simp at h
 |cons i r=>cases hq
theorem zbm{g:WG}{b:WS}{E:WX}{D:WEnds}{G:Sto→Prop}{w:W}{ws:List W}{σ:WSt}{S:Sto}(h:∀N:WSt→Sto→Prop,(∀σ S S',Sub S' S→G S'→zcN g b E D G ws σ S'→N σ S)→g w σ S fun σ1 S1=>b E { D with nx:=N,ct:=N,bk:=D.nx } σ1 S1):zcN g b E D G (w::ws) σ S:=h _ fun σ S S' a c d=>⟨S',a,c,d⟩
mutual
noncomputable def Tr.mt:Tr→Tr→Option (List Tr)
 | .bl _,t=>some [t]
 | .nd s ls, .nd z us=>if s == z&&ls.length == us.length then mts ls us else none
 | .nd _ _, .bl _=>none
noncomputable def mts:List Tr→List Tr→Option (List Tr)
 | [],_=>some []
 |_::_,[]=>some []
 |l::ls,u::us=>match l.mt u with
  |none=>none
  |some xs=>match mts ls us with
   |none=>none
   |some ys=>some (xs++ys)
end
theorem zpp{s z:Str}{ls us:List Tr}{r:Nat}{S:Sto}{Q:WK}{E:Str→Sto→Prop}(h:Q (.bl (s == z&&ls.length == us.length)) S):zaW (r+1) [enc (.nd s ls),enc (.nd z us)] S Q E:=by
 rw [zaW];simp only[enc];walk_at "wp";cases e:s == z with
 |false=>
  rw [e]at h;exact⟨_, .refl,h⟩
 |true=>
  rw [e]at h;walk_at "wp";refine⟨_, .refl,?_⟩;have:(((zaw ls).length+1:Nat):Int)=((zaw us).length+1:Nat)↔ls.length=us.length:=by rw [zbd,zbd];omega
  have e2:((((zaw ls).length+1:Nat):Int) == ((zaw us).length+1:Nat))=(ls.length == us.length):=by
   rw [Bool.eq_iff_iff,beq_iff_eq,beq_iff_eq];exact this
  rw [e2];simpa using h
mutual
theorem zme:∀(l t:Tr) (ys:List Tr),l.mt t=some ys→ys.length≤l.weight
 | .bl _,t,ys,h=>by simp only[Tr.mt,Option.some.injEq]at h;subst h;simp [Tr.weight]
 | .nd s ls, .nd z us,ys,h=>by
  simp only[Tr.mt]at h;split at h
  ·have:=zjD ls us ys h;simp only[Tr.weight];omega
  ·cases h
 | .nd _ _, .bl _,ys,h=>by simp [Tr.mt]at h
theorem zjD:∀(ls us ys:List Tr),mts ls us=some ys→ys.length≤wts ls
 | [],us,ys,h=>by simp only[mts,Option.some.injEq]at h;subst h;simp
 |l::ls,[],ys,h=>by simp only[mts,Option.some.injEq]at h;subst h;simp
 |l::ls,u::us,ys,h=>by
  simp only[mts]at h;split at h
  ·cases h
  ·rename_i xs e1;split at h
   ·cases h
   ·rename_i zs e2;cases h;have:=zme l u xs e1;have:=zjD ls us zs e2;simp only[List.length_append,wts];omega
end
theorem zep{r:Nat}{a:Addr}{E:WX}{D:WEnds}{x0 x1:Option W}:∀(ls us:List Tr)
  (one:∀l∈ls,∀{t:Tr}{S:Sto}{xs:List W}{Q:WK}{E:Str→Sto→Prop},t.fits 0→S a=some (.lst xs)→xs.length+l.weight≤100000→(∀ys,l.mt t=some ys→Q (.bl true) (put S a (.lst (xs++zaw ys))))→(l.mt t=none→ ∀ys,Q (.bl false) (put S a (.lst (xs++ys))))→zar r [enc l,enc t, .ref a] S Q E)
  {S:Sto}{xs:List W}{x3 x4:Option W},fitss 0 us→S a=some (.lst xs)→xs.length+wts ls≤100000→
  (∀ys x3 x4,mts ls us=some ys→D.nx [x0,x1,some (.ref a),x3,x4] (put S a (.lst (xs++zaw ys))))→(mts ls us=none→ ∀ys,D.rt (.bl false) (put S a (.lst (xs++ys))))→
  zcN (wGT (zaH (wGN 3) (zaH (wGN 4) zcV))) (zbh r (zar r)) E D (fun _=>True) (zbQ (zaw ls) (zaw us)) [x0,x1,some (.ref a),x3,x4] S
 | [],us,one,S,xs,x3,x4,hf,ha,hl,h1,h0=>by
  have q:=h1 [] x3 x4 (by simp [mts]);simp only[zaw,List.append_nil,zeI ha]at q;simpa [zaw,zbQ,zcN]using q
 |l::ls,[],one,S,xs,x3,x4,hf,ha,hl,h1,h0=>by
  have q:=h1 [] x3 x4 (by simp [mts]);simp only[zaw,List.append_nil,zeI ha]at q;simpa [zaw,zbQ,zcN]using q
 |l::ls,u::us,one,S,xs,x3,x4,hf,ha,hl,h1,h0=>by
  simp only[fitss]at hf;simp only[wts]at hl;simp only[zaw,zbQ];refine zbm fun N hN=>?_;simp only[zbh];walk_at "wp";refine one l List.mem_cons_self hf.1 ha (by omega) (fun ys e=>?_) fun e ys=>?_
  ·walk_at "wp";have hyl:=zme l u ys e;refine hN _ _ _ .refl trivial (zep ls us (fun l' hl'=>one l' (List.mem_cons_of_mem _ hl')) hf.2 zaf (by rw [List.length_append,zbd];omega) (fun zs x3 x4 e2=>?_) fun e2 zs=>?_)
   ·rw [zbx,List.append_assoc,←zcU];exact h1 _ _ _ (by simp only[mts,e,e2])
   ·rw [zbx,List.append_assoc];exact h0 (by simp only[mts,e,e2]) _
  ·walk_at "wp";exact h0 (by simp only[mts,e]) ys
theorem zhh{a:Addr}:∀(d:Nat) {l t:Tr}{r:Nat}{S:Sto}{xs:List W}{Q:WK}{E:Str→Sto→Prop},l.depth≤d→d≤r→t.fits 0→S a=some (.lst xs)→xs.length+l.weight≤100000→
  (∀ys,l.mt t=some ys→Q (.bl true) (put S a (.lst (xs++zaw ys))))→(l.mt t=none→ ∀ys,Q (.bl false) (put S a (.lst (xs++ys))))→zar (r+1) [enc l,enc t, .ref a] S Q E
 |0,l,t,r,S,xs,Q,E,hd,hr,hf,ha,hl,h1,h0=>by have:=zdq l;omega
 |d+1, .bl n,t,r,S,xs,Q,E,hd,hr,hf,ha,hl,h1,h0=>by
  have hw:=zeG (.bl n);rw [zar];simp only[enc];walk_at "wp";simp only[zaj ha,true_and];refine⟨zcP (by omega),_, .refl,?_⟩;have:=h1 [t] (by simp [Tr.mt]);simpa only[zaw]using this
 |d+1, .nd s ls, .bl n,r,S,xs,Q,E,hd,hr,hf,ha,hl,h1,h0=>by
  simp only[Tr.fits]at hf;omega
 |d+1, .nd s ls, .nd z us,r,S,xs,Q,E,hd,hr,hf,ha,hl,h1,h0=>by
  simp only[Tr.fits]at hf;simp only[Tr.depth]at hd;simp only[Tr.weight]at hl;obtain⟨r,rfl⟩:∃r',r=r'+1:=⟨r - 1,by omega⟩
  have en:∀s ts,enc (.nd s ts)= .tup (.str s::zaw ts):=fun s ts=>by simp [enc]
  rw [zar];walk_at "wp";rw [en,en];walk_at "wp";rw [←en,←en];refine zpp ?_;rw [en,en];walk_at "wp";simp only[Tr.mt]at h1 h0;cases e:(s == z&&ls.length == us.length) with
  |false=>
   rw [e]at h0;have:=h0 (by simp) [];rw [List.append_nil,zeI ha]at this;exact⟨_, .refl,this⟩
  |true=>
   rw [e]at h0 h1;simp only[if_true]at h0 h1;walk_at "wp";refine zep ls us (fun l hl' {t S xs Q E} f1 f2 f3 f4 f5=>zhh d (by have:=zfi hl';omega) (by omega) f1 f2 f3 f4 f5) hf ha (by omega) (fun ys x3 x4 e=>?_) fun e ys=>?_
   ·walk_at "wp";exact⟨_, .refl,h1 ys e⟩
   ·exact⟨_, .refl,h0 e ys⟩
theorem zeL{l t:Tr}{r:Nat}{S:Sto}{Q:WK}{E:Str→Sto→Prop}(hr:l.depth<r) (hf:t.fits 0) (hw:l.weight≤90000) (h1:∀ys,l.mt t=some ys→ ∀a,S a=none→Q (.ref a) (put S a (.lst (zaw ys)))) (h0:l.mt t=none→Q .non S):zbo (r+1) [enc l,enc t] S Q E:=by
 obtain⟨r,rfl⟩:∃r',r=r'+1:=⟨r - 1,by omega⟩
 rw [zbo];walk_at "wp";refine⟨Nat.zero_le _,fun a ha=>zhh l.depth (Nat.le_refl _) (by omega) hf zaf (by simpa using(by omega:l.weight≤100000)) (fun ys e=>?_) fun e ys=>?_⟩
 ·walk_at "wp";exact⟨_, .refl,h1 ys e a ha⟩
 ·walk_at "wp";exact⟨_, .put .refl ha,h0 e⟩
mutual
theorem zfD:∀(l t:Tr) (ys:List Tr),l.mt t=some ys→wts ys≤t.weight
 | .bl _,t,ys,h=>by simp only[Tr.mt,Option.some.injEq]at h;subst h;simp [wts]
 | .nd s ls, .nd z us,ys,h=>by
  simp only[Tr.mt]at h;split at h
  ·have:=zdA ls us ys h;simp only[Tr.weight];omega
  ·cases h
 | .nd _ _, .bl _,ys,h=>by simp [Tr.mt]at h
theorem zdA:∀(ls us ys:List Tr),mts ls us=some ys→wts ys≤wts us
 | [],us,ys,h=>by simp only[mts,Option.some.injEq]at h;subst h;simp [wts]
 |l::ls,[],ys,h=>by simp only[mts,Option.some.injEq]at h;subst h;simp [wts]
 |l::ls,u::us,ys,h=>by
  simp only[mts]at h;split at h
  ·cases h
  ·rename_i xs e1;split at h
   ·cases h
   ·rename_i zs e2;cases h;have:=zfD l u xs e1;have:=zdA ls us zs e2;simp only[zcy,wts];omega
end
noncomputable def zqn (c:Nat):Bool:=decide (97≤c)&&decide (c≤122)
noncomputable def small (xs:List Nat):Bool:=xs.all zqn
theorem zhr (x:Str):(Txt.slice x (some 1) none).cps.toList=x.cps.toList.drop 1:=by
 rw [zjt];unfold zqT;rw [HT.sIx_none];have ez:HT.sIx x.cps.toList.length 0 (some 1)=min 1 x.cps.toList.length:=HT.sIx_nat x.cps.toList.length 0 1;rw [ez];by_cases h:1≤x.cps.toList.length
 ·rw [Nat.min_eq_left h,List.take_of_length_le (by rw [List.length_drop];exact Nat.le_refl _)]
 ·have:x.cps.toList=[]:=List.eq_nil_of_length_eq_zero (by omega);rw [this];rfl
theorem zgS (x:Str):x.length=x.cps.toList.length:=by simp [Str.length]
mutual
theorem zmo:∀(t:Tr) (p q:List Int) (u:Tr),t.at q=some u→(p++q,u)∈t.plt p
 | .bl n,p,[],u,h=>by rw [zjc]at h;cases h;simp [Tr.plt]
 | .bl n,p,i::q,u,h=>by cases h
 | .nd s ts,p,[],u,h=>by rw [zjc]at h;cases h;simp [Tr.plt]
 | .nd s ts,p,i::q,u,h=>by
  obtain⟨v,h0,e1,e2⟩:=zps h;simp only[Tr.plt,List.mem_cons];refine .inr ?_;have:=ziZ ts p 0 i.toNat q u v e1 e2;rw [Nat.zero_add,Int.toNat_of_nonneg h0]at this;simpa using this
theorem ziZ:∀(ts:List Tr) (p:List Int) (i j:Nat) (q:List Int) (u v:Tr),ts[j]? =some v→v.at q=some u→(p++((i+j:Nat):Int)::q,u)∈zjJ p i ts
 | [],p,i,j,q,u,v,h1,h2=>by simp at h1
 |t::ts,p,i,0,q,u,v,h1,h2=>by
  simp at h1;subst h1;simp only[zjJ,List.mem_append];refine .inl ?_;have:=zmo t (p++[(i:Int)]) q u h2;simpa using this
 |t::ts,p,i,j+1,q,u,v,h1,h2=>by
  simp only[zjJ,List.mem_append];refine .inr ?_;have:=ziZ ts p (i+1) j q u v (by simpa using h1) h2;rw [show i+1+j=i+(j+1) by omega]at this
  exact this
end
theorem znY{t:Tr}{x:List Int×Tr}(h:x∈t.plt []):t.at x.1=some x.2∧x.1.length<t.depth:=by
 obtain⟨q,h3,h4,h5⟩:=zmr t [] x.1 x.2 h;simp at h3;subst h3;exact⟨h4,h5⟩
theorem zhx{α:Type}{g:WG}{b:WS}{E:WX}{D:WEnds}{G:Sto→Prop}{S:Sto}(hG:G S) (I:WSt→Prop) (key:α→W) (f:α→Option W):∀(xs:List α) (σ:WSt),I σ→
  (∀x∈xs,∀σ (N:WSt→Sto→Prop),I σ→(f x=none→ ∀σ' S',I σ'→Sub S S'→N σ' S')→(∀w,f x=some w→ ∀S',Sub S S'→D.rt w S')→g (key x) σ S fun σ1 S1=>b E { D with nx:=N,ct:=N,bk:=D.nx } σ1 S1)→
  (xs.findSome? f=none→ ∀σ,I σ→D.nx σ S)→(∀w,xs.findSome? f=some w→ ∀S',Sub S S'→D.rt w S')→zcN g b E D G (xs.map key) σ S
 | [],σ,hI,step,done,ret=>by
  have:=done rfl σ hI;simpa [zcN]using this
 |x::xs,σ,hI,step,done,ret=>by
  rw [List.map_cons];refine zbm fun N hN=>?_;refine step x List.mem_cons_self σ N hI (fun e σ' S' hI' sb=>?_) fun w e S' sb=>ret w (by rw [List.findSome?_cons,e]) S' sb;refine hN _ _ S sb hG (zhx hG I key f xs σ' hI' (fun y hy=>step y (List.mem_cons_of_mem _ hy)) (fun e2=>done (by rw [List.findSome?_cons,e];exact e2)) fun w e2=>ret w (by rw [List.findSome?_cons,e];exact e2))
noncomputable abbrev Tn:=Str×Tr×Tr
noncomputable def zdx (t:Tn):W:= .tup [.str t.1,enc t.2.1,enc t.2.2]
noncomputable def Tn0:Tn:=("", .bl 0, .bl 0)
noncomputable def lf (ts:List Tn) (j:Nat):Tr:=(ts.getD j Tn0).2.1
theorem zeJ{r:Nat}{a b:Addr}{ps:List W}{E:WX}{D:WEnds}{x0:Option W}(hba:b≠a):∀(ts:List Tr) {S:Sto}{us:List Tr}{x2:Option W},S a=some (.lst (zaw us))→S b=some (.lst ps)→us.length+wts ts≤200000→
  (∀x2,D.nx [x0,some (.ref a),x2] (put S a (.lst (zaw (us++ts.flatMap Tr.kids)))))→
  zcN (wGN 2) (zaM (r+1) zbD) E D (fun S'=>S' b=some (.lst ps)) (zaw ts) [x0,some (.ref a),x2] S
 | [],S,us,x2,ha,hb,hl,h=>by
  have:=h x2;simp only[List.flatMap_nil,List.append_nil,zeI ha]at this;simpa [zaw,zcN]using this
 |t::ts,S,us,x2,ha,hb,hl,h=>by
  simp only[wts]at hl;have hk:=zcg t.kids;have hw:=zcR t;simp only[zaw];refine zbm fun N hN=>?_;simp only[zaM];walk_at "wp";simp only[zaj ha,true_and];refine zhk ?_;walk_at "wp";rw [zaj ha];refine⟨zai (by rw [zbd,zbd];omega),hN _ _ _ .refl (by rw [zaB hba];exact hb) ?_⟩;rw [←zcU];refine zeJ hba ts zaf (by rw [zaB hba];exact hb) (by rw [List.length_append];omega) fun x2=>?_;rw [zbx];have:=h x2;rw [List.flatMap_cons,←List.append_assoc]at this;exact this
theorem zgM{ts:List Tr}{b:Addr}{r:Nat}{S:Sto}{Q:WK}{E:Str→Sto→Prop}(hb:S b=some (.lst (zaw ts))) (hw:wts ts≤100000) (h:∀a,S a=none→Q (.ref a) (put S a (.lst (zaw (ts.flatMap Tr.kids))))):zaE (r+2) [.ref b] S Q E:=by
 rw [zaE];walk_at "wp";refine⟨Nat.zero_le _,fun a ha=>?_⟩;have hba:=zlH hb ha;rw [zaj (keep hb ha)];refine zeJ (us:=[]) hba ts (by simp [zaf,zaw]) (keep hb ha) (by simpa using(by omega:wts ts≤200000)) fun x2=>?_;rw [zbx];walk_at "wp";exact⟨_, .refl,h a ha⟩
noncomputable def Tr.small (t:Tr):Bool:=decide (t.weight≤400)&&decide (t.depth≤40)
theorem zin{t:Tr}{r:Nat}{S:Sto}{Q:WK}{E:Str→Sto→Prop}(hw:t.weight≤90000) (h:Q (.bl t.small) S):zbl (r+3) [enc t] S Q E:=by
 rw [zbl];walk_at "wp";refine⟨zai (by decide),fun a ha=>?_⟩;refine⟨fun m σ S'=>∃(ts:List Tr) (k d:Nat) (b:Addr),m=wts ts∧k+wts ts=t.weight∧d+dts ts=t.depth∧k≤400∧d≤40∧S b=none∧S'=put S b (.lst (zaw ts))∧σ=[some (enc t),some (.int k),some (.int d),some (.ref b)],⟨_,[t],0,0,a,rfl,by simp [wts],by simp [dts],by decide,by decide,ha,by simp [zaw],rfl⟩,?_⟩
 rintro m σ S' ⟨ts,k,d,b,rfl,hwt,hk,hk4,hd4,hb,rfl,rfl⟩;walk_at "wp";cases ts with
 |nil=>
  simp only[zaw,List.isEmpty_nil];walk_at "wp";simp only[dts,wts,Nat.add_zero]at hk hwt;have e:t.small=true:=by unfold Tr.small;rw [decide_eq_true (by omega),decide_eq_true (by omega)];rfl
  rw [e]at h;exact⟨_, .put .refl hb,h⟩
 |cons u us=>
  have hne:(zaw (u::us)).isEmpty=false:=by simp [zaw]
  rw [hne];have hfl:=zfg (u::us);have hdf:=zfn (ts:=u::us) (by simp);have hlw:=zcg (u::us);simp only[zcm];walk_at "wp";rw [zbd];have no:400<t.weight∨40<t.depth→ ∃S'',Sub S'' (put S b (Ob.lst (zaw (u::us))))∧Q (W.bl false) S'':=fun z=>by
   have e:t.small=false:=by
    unfold Tr.small;rcases z with z |z
    ·rw [decide_eq_false (by omega)];rfl
    ·rw [decide_eq_false (p:=t.depth≤40) (by omega),Bool.and_false]
   rw [e]at h;exact⟨_, .put .refl hb,h⟩
  split
  ·exact no (.inl (by omega))
  ·split
   ·exact no (.inr (by omega))
   ·refine zgM zaf (by omega) fun c hc=>?_;obtain⟨hc1,hc2⟩:=zdr hc;refine⟨wts ((u::us).flatMap Tr.kids),put S c (.lst (zaw ((u::us).flatMap Tr.kids))),by simp only[List.length_cons]at hfl;omega, .put2 (.put .refl hb),_,k+(u::us).length,d+1,c,rfl,by omega,by omega,by omega,by omega,hc1,rfl,?_⟩
    push_cast
    rfl
theorem zdC{ns:List Int}{k:Int}{r:Nat}{S:Sto}{Q:WK}{E:Str→Sto→Prop}(h0:0≤k) (h:∀n:Int,Q (.int n) S):zat (r+1) [.scr ns, .int k] S Q E:=by
 rw [zat];walk_at "wp";split
 ·obtain⟨x,e,_⟩:=zjP (xs:=ns) (i:=k) h0 (by omega);rw [e];exact⟨S, .refl,h _⟩
 ·exact⟨S, .refl,h _⟩
noncomputable def lt (rs:List Int) (pos:Int) (k j:Nat):Nat:=97+((rs.getD j 0+(k:Int)*(if(0+(j:Int) == pos)=true then 1 else 0)) % 26).toNat
noncomputable def zdl (rs:List Int) (pos:Int) (k:Nat):List Nat:=(List.range rs.length).map (lt rs pos k)
noncomputable def wd0 (rs:List Int) (pos:Int) (k:Nat):Str:=Str.join (Str.ofString "") ((zdl rs pos k).map fun c=>(⟨#[c]⟩:Str))
noncomputable def wd1 (rs:List Int) (pos:Int) (k:Nat):Str:=Txt.upper ⟨#[lt rs pos k 0]⟩++Txt.slice (wd0 rs pos k) (some 1) none
noncomputable def wd (great:Bool) (rs:List Int) (pos:Int) (k:Nat):Str:=if great then wd1 rs pos k else wd0 rs pos k
theorem zfU (rs:List Int) (pos:Int) (k j:Nat):Low (lt rs pos k j):=by
 have h0:=Int.emod_nonneg (rs.getD j 0+(k:Int)*(if(0+(j:Int) == pos)=true then 1 else 0)) (show(26:Int)≠0 by decide)
 have h1:=Int.emod_lt_of_pos (rs.getD j 0+(k:Int)*(if(0+(j:Int) == pos)=true then 1 else 0)) (show(0:Int)<26 by decide)
 unfold lt Low;omega
theorem zoK{n:Int}(h0:0≤n) (h1:n<26):atI (Str.ofString "abcdefghijklmnopqrstuvwxyz").cps.toList n=some (97+n.toNat):=by
 have e:=zcA (xs:=(Str.ofString "abcdefghijklmnopqrstuvwxyz").cps.toList) (n:=n.toNat);rw [Int.toNat_of_nonneg h0]at e;rw [e,znB,List.getElem?_range' (by omega)];simp
theorem zdS (rs:List Int) (pos:Int) (k:Nat):(wd0 rs pos k).cps.toList=zdl rs pos k:=zgr _
theorem zgi (rs:List Int) (pos:Int) (k:Nat):(zdl rs pos k).length=rs.length:=by simp [zdl]
theorem zkb{rs:List Int}{pos:Int}{k c:Nat}(h:c∈zdl rs pos k):Low c:=by
 obtain⟨j,_,rfl⟩:=List.mem_map.mp h;exact zfU rs pos k j
theorem zic{rs:List Int}(pos:Int) (k:Nat) (h:1≤rs.length):zdl rs pos k=lt rs pos k 0::(zdl rs pos k).drop 1:=by
 unfold zdl;obtain⟨n,hn⟩:∃n,rs.length=n+1:=⟨rs.length - 1,by omega⟩
 rw [hn,List.range_succ_eq_map];simp
theorem zgm{c:Nat}(h:Low c):Txt.upper ⟨#[c]⟩=⟨#[c - 32]⟩:=by
 unfold Low at h;rw [PySem.W.KOpn.upper_one (by omega),if_pos h]
theorem zlF{rs:List Int}(pos:Int) (k:Nat):(wd1 rs pos k).cps.toList=(lt rs pos k 0 - 32)::(zdl rs pos k).drop 1:=by
 unfold wd1;rw [zgm (zfU _ _ _ _)];show((#[lt rs pos k 0 - 32]:Array Nat)++(Txt.slice (wd0 rs pos k) (some 1) none).cps).toList=_;rw [Array.toList_append,zhr,zdS];rfl
structure Base (rs:List Int) (pos:Int):Prop where
  l1:1≤rs.length
  l8:rs.length≤8
  p0:0≤pos
  p1:pos<rs.length
theorem zhD{rs:List Int}{pos:Int}(b:Base rs pos) (k:Nat):zbk (wd0 rs pos k):=by
 unfold zbk;rw [zdS,zgi];exact⟨b.l1,b.l8,fun c hc=>zkb hc⟩
theorem zrf{rs:List Int}{pos:Int}(b:Base rs pos) {k m:Nat}(hk:k<26) (hm:m<26) (h:k≠m):lt rs pos k pos.toNat≠lt rs pos m pos.toNat:=by
 have p0:=b.p0;have e:(0+((pos.toNat:Nat):Int) == pos)=true:=by rw [beq_iff_eq];omega
 unfold lt;rw [e,if_pos rfl];omega
theorem zrJ{great:Bool}{rs:List Int}{pos:Int}(b:Base rs pos) {k m:Nat}(hk:k<26) (hm:m<26) (h:k≠m):wd great rs pos k≠wd great rs pos m:=by
 have hn:=zrf b hk hm h;have p0:=b.p0;have p1:=b.p1;intro e;have e':=congrArg (fun x:Str=>x.cps.toList) e;cases great with
 |false=>
  simp only[wd,Bool.false_eq_true,if_false,zdS]at e';have e2:=congrArg (fun l=>l[pos.toNat]?) e';simp only[zdl,List.getElem?_map,List.getElem?_range (show pos.toNat<rs.length by omega),Option.map_some,Option.some.injEq]at e2
  exact hn e2
 |true=>
  simp only[wd,if_true,zlF]at e';have e2:=congrArg (fun l=>l[pos.toNat]?) e';cases hp:pos.toNat with
  |zero=>
   rw [hp]at hn;have h1:=zfU rs pos k 0;have h2:=zfU rs pos m 0;unfold Low at h1 h2;simp only[hp,List.getElem?_cons_zero,Option.some.injEq]at e2;omega
  |succ n=>
   rw [hp]at hn;simp only[hp,List.getElem?_cons_succ,List.getElem?_drop,zdl,List.getElem?_map]at e2;rw [show 1+n=n+1 by omega,List.getElem?_range (show n+1<rs.length by omega)]at e2
   simp only[Option.map_some,Option.some.injEq]at e2;exact hn e2
noncomputable def zjz (great:Bool) (ws:List Str):Prop:=∃rs pos,Base rs pos∧(ws=(List.range 6).map (wd great rs pos)∨(great=false∧ws=[wd0 rs pos 0,wd0 rs pos 1,wd0 rs pos 2,wd0 rs pos 2,wd0 rs pos 2,wd0 rs pos 5]))
structure Signs (w0 w1 w2 w3 w4 w5:Str):Prop where
  ok:∀x∈ [w0,w1,w2,w3,w4,w5],zbk x
  n0:∀x∈ [w1,w2,w3,w4,w5],w0≠x
  n1:∀x∈ [w2,w3,w4,w5],w1≠x
  n5:∀x∈ [w2,w3,w4],w5≠x
theorem zgD{ws:List Str}(h:zjz false ws):∃w0 w1 w2 w3 w4 w5,ws=[w0,w1,w2,w3,w4,w5]∧Signs w0 w1 w2 w3 w4 w5:=by
 obtain⟨rs,pos,b,h⟩:=h;have hs:=fun k=>zhD b k;have hn:∀k m:Nat,k<26→m<26→k≠m→wd0 rs pos k≠wd0 rs pos m:=fun k m h1 h2 h3=>zrJ (great:=false) b h1 h2 h3;rcases h with rfl |⟨_,rfl⟩
 ·refine⟨_,_,_,_,_,_,rfl,⟨?_,?_,?_,?_⟩⟩
  ·simp only[List.mem_cons,List.not_mem_nil,or_false,forall_eq_or_imp,forall_eq];exact⟨hs 0,hs 1,hs 2,hs 3,hs 4,hs 5⟩
  ·simp only[List.mem_cons,List.not_mem_nil,or_false,forall_eq_or_imp,forall_eq];exact⟨hn 0 1 (by decide) (by decide) (by decide),hn 0 2 (by decide) (by decide) (by decide),hn 0 3 (by decide) (by decide) (by decide),hn 0 4 (by decide) (by decide) (by decide),hn 0 5 (by decide) (by decide) (by decide)⟩
  ·simp only[List.mem_cons,List.not_mem_nil,or_false,forall_eq_or_imp,forall_eq];exact⟨hn 1 2 (by decide) (by decide) (by decide),hn 1 3 (by decide) (by decide) (by decide),hn 1 4 (by decide) (by decide) (by decide),hn 1 5 (by decide) (by decide) (by decide)⟩
  ·simp only[List.mem_cons,List.not_mem_nil,or_false,forall_eq_or_imp,forall_eq];exact⟨hn 5 2 (by decide) (by decide) (by decide),hn 5 3 (by decide) (by decide) (by decide),hn 5 4 (by decide) (by decide) (by decide)⟩
 ·refine⟨_,_,_,_,_,_,rfl,⟨?_,?_,?_,?_⟩⟩
  ·simp only[List.mem_cons,List.not_mem_nil,or_false,forall_eq_or_imp,forall_eq];exact⟨hs 0,hs 1,hs 2,hs 2,hs 2,hs 5⟩
  ·simp only[List.mem_cons,List.not_mem_nil,or_false,forall_eq_or_imp,forall_eq];exact⟨hn 0 1 (by decide) (by decide) (by decide),hn 0 2 (by decide) (by decide) (by decide),hn 0 2 (by decide) (by decide) (by decide),hn 0 2 (by decide) (by decide) (by decide),hn 0 5 (by decide) (by decide) (by decide)⟩
  ·simp only[List.mem_cons,List.not_mem_nil,or_false,forall_eq_or_imp,forall_eq];exact⟨hn 1 2 (by decide) (by decide) (by decide),hn 1 2 (by decide) (by decide) (by decide),hn 1 2 (by decide) (by decide) (by decide),hn 1 5 (by decide) (by decide) (by decide)⟩
  ·simp only[List.mem_cons,List.not_mem_nil,or_false,forall_eq_or_imp,forall_eq];exact⟨hn 5 2 (by decide) (by decide) (by decide),hn 5 2 (by decide) (by decide) (by decide),hn 5 2 (by decide) (by decide) (by decide)⟩
structure Titles (ts:List Str):Prop where
  len:ts.length=6
  ok:∀x∈ts,zbL x
  nd:ts.Nodup
theorem zfz:∀(ws:List W) {rs:List Int}{sp:Int}{a:Addr}{r:Nat}{S:Sto}{E:WX}{D:WEnds}{x0 x1 x2 x3 x6 x7 x8 x9:Option W},S a=some (.lst (rs.map W.int))→rs.length+ws.length≤1000→
  (∀(rs':List Int) sp' x6',rs'.length=rs.length+ws.length→D.nx [x0,x1,x2,x3,some (.int sp'),some (.ref a),x6',x7,x8,x9] (put S a (.lst (rs'.map W.int))))→
  zcN (wGN 6) (zbP r zbD) E D (fun _=>True) ws [x0,x1,x2,x3,some (.int sp),some (.ref a),x6,x7,x8,x9] S
 | [],rs,sp,a,r,S,E,D,x0,x1,x2,x3,x6,x7,x8,x9,ha,hl,h=>by
  simp only[zcN];have:=h rs sp x6 (by simp);rw [zeI ha]at this;exact this
 |w::ws,rs,sp,a,r,S,E,D,x0,x1,x2,x3,x6,x7,x8,x9,ha,hl,h=>by
  simp only[zcN,zbP];walk_at "wp";simp only[List.length_cons]at hl h;simp only[zaj ha,true_and];refine⟨by decide,zcP (by simp;omega),⟨by decide,by decide⟩,_, .refl,?_⟩
  refine zfz (r:=r) ws (rs:=rs++[sp % 26]) (by rw [zaf];simp) (by simp;omega) fun rs' sp' x6' h1=>?_;rw [zbx];exact h rs' sp' x6' (by simp at h1;omega)
theorem zkB{one two:Int}{great:Bool}{r:Nat}{S:Sto}{Q:WK}{E:Str→Sto→Prop}(h:∀(a:Addr) (ws:List Str),S a=none→zjz great ws→Q (.ref a) (put S a (.lst (ws.map W.str)))):zbq (r+1) [.int one, .int two, .bl great] S Q E:=by
 rw [zbq];walk_at "wp";have o0:0≤one % 8:=Int.emod_nonneg _ (by decide);have o1:one % 8<8:=Int.emod_lt_of_pos _ (by decide);refine⟨⟨by decide,by decide,by decide⟩,by decide,Nat.zero_le _,fun a ha=>⟨by decide,⟨by omega,by omega⟩,?_⟩⟩
 refine zfz _ (rs:=[]) zaf (by simp [zhj];omega) fun rs sp x6 hl=>?_;rw [zbx];simp only[List.length_nil,zhj,Nat.zero_add]at hl;have hl':(rs.length:Int)=1+one % 8:=by rw [hl];omega
 have p0:0≤one / 8 % (rs.length:Int):=Int.emod_nonneg _ (by omega);have p1:one / 8 % (rs.length:Int)<(rs.length:Int):=Int.emod_lt_of_pos _ (by omega);have B:Base rs (one / 8 % (rs.length:Int)):=⟨by omega,by omega,p0,p1⟩
 walk_at "wp";simp only[List.length_map];refine⟨⟨by decide,by decide⟩,by omega,Nat.zero_le _,fun b hb=>⟨⟨by decide,by decide⟩,?_⟩⟩
 obtain⟨hb1,hb2⟩:=zdr hb;generalize hpos:one / 8 % (rs.length:Int)=pos at B p0 p1⊢;refine zjC (fun i σ S'=>∃x6 x9,S'=put (put S a (.lst (rs.map W.int))) b (.lst (((List.range i).map (wd great rs pos)).map W.str))∧σ=[some (.int one),some (.int two),some (.bl great),some (.str (Str.ofString "abcdefghijklmnopqrstuvwxyz")),some (.int sp),some (.ref a),x6,some (.int pos),some (.ref b),x9]) 6 ?_ ?_ ⟨x6,none,rfl,rfl⟩
 ·rintro k hk σ S' N ⟨x6,x9,rfl,rfl⟩ hN;have ea:put (put S a (Ob.lst (rs.map W.int))) b (Ob.lst (((List.range k).map (wd great rs pos)).map W.str)) a=some (.lst (rs.map W.int)):=by rw [zaB (Ne.symm hb2),zaf]
  simp only[zcI];walk_at "wp";rw [zaj ea];simp only[List.length_map];refine⟨⟨by omega,by omega⟩,?_⟩
  rw [Int.toNat_natCast];refine zbB (fun σ=>∃x,σ=[x,some (.str (Str.ofString "abcdefghijklmnopqrstuvwxyz")),some (.ref a),some (.int (k:Int)),some (.int pos)]) (fun i:Nat=>W.int (0+(i:Int))) (fun i=>W.str ⟨#[lt rs pos k i]⟩) trivial (List.range rs.length) [] _ ⟨none,rfl⟩ (by simp;omega) (fun i hi σ R hI hR=>?_) ?_
  ·obtain⟨x,rfl⟩:=hI;have hi:=List.mem_range.mp hi;simp only[zcJ];walk_at "wp";have e:=zcA (xs:=rs.map W.int) (n:=i);rw [show(i:Int)=0+(i:Int) by omega,List.getElem?_map,List.getElem?_eq_getElem hi]at e
   rw [zaj ea,e];dsimp only[Option.map];walk_at "wp";have ec:=zoK (n:=(rs[i]+(k:Int)*(if(0+(i:Int) == pos)=true then 1 else 0)) % 26) (Int.emod_nonneg _ (by decide)) (Int.emod_lt_of_pos _ (by decide));rw [ec];have el:lt rs pos k i=97+((rs[i]+(k:Int)*(if(0+(i:Int) == pos)=true then 1 else 0)) % 26).toNat:=by
    unfold lt;rw [List.getD_eq_getElem?_getD,List.getElem?_eq_getElem hi];rfl
   rw [←el];exact⟨.inl ⟨by omega,by omega⟩,by decide,zai (by rw [zpW];decide),hR _ _ ⟨_,rfl⟩ .refl⟩
  ·have es:(List.range rs.length).map (fun i=>W.str ⟨#[lt rs pos k i]⟩)=(zdl rs pos k).map fun c=>W.str ⟨#[c]⟩:=by
    unfold zdl;rw [List.map_map];rfl
   have hw:=zhD B k;rw [List.nil_append,es,zeh];refine⟨ziB _ (by rw [zgi];omega),?_⟩;show _;have ew:Str.join (Str.ofString "") ((zdl rs pos k).map fun c=>(⟨#[c]⟩:Str))=wd0 rs pos k:=rfl;rw [ew];have hl8:(wd0 rs pos k).length≤8:=by rw [zgS];exact hw.2.1
   have fin:∀z:Str,z=wd great rs pos k→ ∀x9:Option W,N [some (.int one),some (.int two),some (.bl great),some (.str (Str.ofString "abcdefghijklmnopqrstuvwxyz")),some (.int sp),some (.ref a),some (.int (k:Int)),some (.int pos),some (.ref b),x9] (put (put S a (.lst (rs.map W.int))) b (.lst (((List.range k).map (wd great rs pos)).map W.str++[.str z]))):=fun z hz x9=>by
    subst hz;refine hN _ _ _ .refl ⟨_,_,?_,rfl⟩;rw [List.range_succ,List.map_append,List.map_append];rfl
   have hxl:(((List.range k).map (wd great rs pos)).map W.str).length<sizeLine:=zcP (by simp;omega);cases great with
   |false=>
    try walk_at "wp"
    try simp only[zff,zbx,true_and]
    exact⟨hxl,fin _ rfl _⟩
   |true=>
    walk_at "wp";rw [zdS,zic pos k B.l1,zhi];dsimp only
    try walk_at "wp"
    try simp only[zff,zbx,true_and]
    refine⟨zai (by omega),?_⟩;have h1:(⟨#[lt rs pos k 0]⟩:Str).length=1:=rfl;have h2:(Txt.upper ⟨#[lt rs pos k 0]⟩).length=1:=by rw [zgm (zfU _ _ _ _)];rfl
    have h3:(Txt.slice (wd0 rs pos k) (some 1) none).length≤8:=by
     rw [zgS,zhr,List.length_drop,←zgS];omega
    exact⟨by omega,zai (by omega),zai (by omega),hxl,fin _ rfl _⟩
 ·rintro σ S' ⟨x6,x9,rfl,rfl⟩;have eb:put (put S a (Ob.lst (rs.map W.int))) b (Ob.lst (((List.range 6).map (wd great rs pos)).map W.str)) b=some (.lst (((List.range 6).map (wd great rs pos)).map W.str)):=zaf;walk_at "wp";cases great with
  |true=>
   walk_at "wp";refine⟨⟨by decide,by decide⟩,by decide,?_⟩
   split
   ·exact⟨_, .put2 (.put .refl ha),h b _ hb1 ⟨rs,pos,B, .inl rfl⟩⟩
   ·exact⟨_, .put2 (.put .refl ha),h b _ hb1 ⟨rs,pos,B, .inl rfl⟩⟩
  |false=>
   walk_at "wp";refine⟨⟨by decide,by decide⟩,by decide,?_⟩
   split
   ·have e6:((List.range 6).map (wd false rs pos)).map W.str=[.str (wd0 rs pos 0), .str (wd0 rs pos 1), .str (wd0 rs pos 2), .str (wd0 rs pos 3), .str (wd0 rs pos 4), .str (wd0 rs pos 5)]:=rfl;simp only[e6]
    try walk_at "wp"
    have c3:zcZ [W.str (wd0 rs pos 0), .str (wd0 rs pos 1), .str (wd0 rs pos 2), .str (wd0 rs pos 3), .str (wd0 rs pos 4), .str (wd0 rs pos 5)] none (some 3)=[.str (wd0 rs pos 0), .str (wd0 rs pos 1), .str (wd0 rs pos 2)]:=rfl;have a2:atI [W.str (wd0 rs pos 0), .str (wd0 rs pos 1), .str (wd0 rs pos 2), .str (wd0 rs pos 3), .str (wd0 rs pos 4), .str (wd0 rs pos 5)] 2=some (.str (wd0 rs pos 2)):=rfl;have a5:atI [W.str (wd0 rs pos 0), .str (wd0 rs pos 1), .str (wd0 rs pos 2), .str (wd0 rs pos 3), .str (wd0 rs pos 4), .str (wd0 rs pos 5)] 5=some (.str (wd0 rs pos 5)):=rfl;simp only[c3,a2,a5]
    try walk_at "wp"
    refine⟨zai (by decide),zai (by decide),fun c hc=>?_⟩;obtain⟨hc1,hc2⟩:=zdr hc;obtain⟨hc1,hc3⟩:=zdr hc1;exact⟨_, .put2 (.put (.put .refl ha) hb1),h c _ hc1 ⟨rs,pos,B, .inr ⟨rfl,rfl⟩⟩⟩
   ·exact⟨_, .put2 (.put .refl ha),h b _ hb1 ⟨rs,pos,B, .inl rfl⟩⟩
mutual
noncomputable def Tr.nb:Tr→Nat
 | .bl _=>1
 | .nd _ ts=>nbs ts
noncomputable def nbs:List Tr→Nat
 | []=>0
 |t::ts=>t.nb+nbs ts
end
noncomputable def zcn (n:Nat) (h c d:Str):List Tr:=
 match n with
 |0=>[.nd h [.bl 0]]
 |1=>[.nd h [.bl 0, .bl 1]]
 |2=>[.nd h [.nd c []], .nd h [.nd d [.bl 0]]]
 |3=>[.nd h [.nd c [], .bl 0], .nd h [.nd d [.bl 0], .bl 1]]
 |4=>[.nd h [.nd d [.nd d [.bl 0]], .bl 1, .bl 2], .nd h [.nd d [.nd c []], .bl 0, .bl 1]]
 |_=>[.nd h []]
section
variable {w0 w1 w2 w3 w4 w5:Str}
noncomputable abbrev six (w0 w1 w2 w3 w4 w5:Str):List W:=[.str w0, .str w1, .str w2, .str w3, .str w4, .str w5]
theorem zse:atI (six w0 w1 w2 w3 w4 w5) 0=some (.str w0):=rfl
theorem ztN:atI (six w0 w1 w2 w3 w4 w5) 1=some (.str w1):=rfl
theorem zrq:atI (six w0 w1 w2 w3 w4 w5) 2=some (.str w2):=rfl
theorem zsT:atI (six w0 w1 w2 w3 w4 w5) 3=some (.str w3):=rfl
theorem zsI:atI (six w0 w1 w2 w3 w4 w5) 4=some (.str w4):=rfl
theorem zsR:atI (six w0 w1 w2 w3 w4 w5) 5=some (.str w5):=rfl
end
noncomputable def zrM (x:Str):Bool:=decide (1≤x.cps.toList.length)&&(decide (x.cps.toList.length≤8)&&small x.cps.toList)
theorem zie{x y:Str}(h:zbk x) (g:zbL y):x≠y:=by
 rintro rfl;obtain⟨c,r,e,h1,h2,_⟩:=g;have:=h.2.2 c (by rw [e];exact List.mem_cons_self);unfold Low at this;omega
mutual
noncomputable def Tr.hd (P:Str→Prop):Tr→Prop
 | .bl _=>False
 | .nd s ts=>P s∧hds P ts
noncomputable def hds (P:Str→Prop):List Tr→Prop
 | []=>True
 |t::ts=>t.hd P∧hds P ts
end
mutual
noncomputable def Tr.hb (P:Str→Prop):Tr→Prop
 | .bl _=>True
 | .nd s ts=>P s∧hbs P ts
noncomputable def hbs (P:Str→Prop):List Tr→Prop
 | []=>True
 |t::ts=>t.hb P∧hbs P ts
end
theorem hds_iff{P:Str→Prop}:∀{ts:List Tr},hds P ts↔ ∀t∈ts,t.hd P
 | []=>by simp [hds]
 |t::ts=>by simp [hds,hds_iff (ts:=ts)]
mutual
theorem zgB{P P':Str→Prop}(h:∀s,P s→P' s):∀(t:Tr),t.hd P→t.hd P'
 | .bl _,q=>by simp [Tr.hd]at q
 | .nd s ts,q=>by
  simp only[Tr.hd]at q⊢;exact⟨h s q.1,zhK h ts q.2⟩
theorem zhK{P P':Str→Prop}(h:∀s,P s→P' s):∀(ts:List Tr),hds P ts→hds P' ts
 | [],_=>by simp [hds]
 |t::ts,q=>by
  simp only[hds]at q⊢;exact⟨zgB h t q.1,zhK h ts q.2⟩
end
structure RightW (ws:List Str) (m:Nat) (t:Tr):Prop where
  dp:t.depth≤4
  fits:t.fits m
  hb:∀{P:Str→Prop},(∀x∈ws,P x)→t.hb P
  wt:t.weight≤7
noncomputable def ztI (B:List Tn):Prop:=∀t∈B,∀(us:List Tr) (M:Nat),us.length=t.2.1.nb→1≤M→(∀u∈us,u.weight≤M)→(t.2.2.fill us).weight≤2+2*M∧(t.2.1.nb=0→(t.2.2.fill us).weight≤1+M)
structure BookOk (w0 w1 w2 w3 w4 w5:Str) (tt:List Str) (B:List Tn):Prop where
  lf:∃n m:Nat,B.map (fun t=>t.2.1)=zcn n w0 w2 w3++zcn m w1 w2 w3
  ti:B.map (fun t=>t.1)=tt.take B.length
  ri:∀t∈B,RightW [w0,w1,w2,w3,w4,w5] t.2.1.nb t.2.2
structure LeftT (P:Str→Prop) (L:Tr):Prop where
  hb:L.hb P
  fits:L.fits L.nb
  wt:L.weight≤L.nb+3
  dp:L.depth≤4
  nb:L.nb≤3
  nd:∃s ts,L= .nd s ts
  fw:∀us:List Tr,us.length=L.nb→(L.fill us).weight≤3+wts us
  fw0:L.nb=0→(L.fill []).weight≤2
theorem zhm{P:Str→Prop}{n:Nat}{h c d:Str}(hh:P h) (hc:P c) (hd:P d):∀L∈zcn n h c d,LeftT P L:=by
 unfold zcn;intro L hL;split at hL<;>simp only[List.mem_cons,List.not_mem_nil,or_false]at hL
 all_goals first
  | (subst hL;exact⟨by simp [Tr.hb,hbs,hh,hc,hd],by simp [Tr.fits,fitss,Tr.nb,nbs],by simp [Tr.weight,wts,Tr.nb,nbs],by simp [Tr.depth,dts],by simp [Tr.nb,nbs],⟨_,_,rfl⟩,fun us hu=>by rcases us with _ |⟨u,_ |⟨v,_ |⟨x,_ |⟨y,us⟩⟩⟩⟩<;>simp [Tr.nb,nbs,Tr.fill,fills,Tr.weight,wts]at hu⊢ <;>omega,fun h0=>by simp [Tr.nb,nbs,Tr.fill,fills,Tr.weight,wts]at h0⊢⟩)
  | (rcases hL with rfl |rfl<;>exact⟨by simp [Tr.hb,hbs,hh,hc,hd],by simp [Tr.fits,fitss,Tr.nb,nbs],by simp [Tr.weight,wts,Tr.nb,nbs],by simp [Tr.depth,dts],by simp [Tr.nb,nbs],⟨_,_,rfl⟩,fun us hu=>by rcases us with _ |⟨u,_ |⟨v,_ |⟨x,_ |⟨y,us⟩⟩⟩⟩<;>simp [Tr.nb,nbs,Tr.fill,fills,Tr.weight,wts]at hu⊢ <;>omega,fun h0=>by simp [Tr.nb,nbs,Tr.fill,fills,Tr.weight,wts]at h0⊢⟩)
section
variable {w0 w1 w2 w3 w4 w5:Str}{tt:List Str}{B:List Tn}
theorem BookOk.left (b:BookOk w0 w1 w2 w3 w4 w5 tt B) {P:Str→Prop}(h0:P w0) (h1:P w1) (h2:P w2) (h3:P w3) {t:Tn}(ht:t∈B):LeftT P t.2.1:=by
 obtain⟨n,m,e⟩:=b.lf;have:t.2.1∈zcn n w0 w2 w3++zcn m w1 w2 w3:=by rw [←e];exact List.mem_map.mpr ⟨t,ht,rfl⟩
 rcases List.mem_append.mp this with z |z
 ·exact zhm h0 h2 h3 _ z
 ·exact zhm h1 h2 h3 _ z
theorem BookOk.nodup (b:BookOk w0 w1 w2 w3 w4 w5 tt B) (T:Titles tt):(B.map fun t=>t.1).Nodup:=by
 rw [b.ti];exact List.Nodup.sublist (List.take_sublist ..) T.nd
theorem BookOk.mem (b:BookOk w0 w1 w2 w3 w4 w5 tt B) {t:Tn}(ht:t∈B):t.1∈tt:=by
 have:t.1∈B.map fun t=>t.1:=List.mem_map.mpr ⟨t,ht,rfl⟩;rw [b.ti]at this;exact List.mem_of_mem_take this
end
noncomputable def zaL (B:List Tn) (s:Str):Option Tn:=B.find? fun t=>t.1 == s
theorem zhF:∀{B:List Tn}{t:Tn},(B.map fun t=>t.1).Nodup→t∈B→zaL B t.1=some t
 |u::B,t,hn,ht=>by
  unfold zaL;rw [List.map_cons,List.nodup_cons]at hn;rw [List.find?_cons];rcases List.mem_cons.mp ht with rfl |ht
  ·simp
  ·have hne:u.1≠t.1:=fun z=>hn.1 (by rw [z];exact List.mem_map.mpr ⟨t,ht,rfl⟩);have:(u.1 == t.1)=false:=by simpa using hne
   rw [this];exact zhF hn.2 ht
theorem zjO{B:List Tn}{s:Str}(h:∀t∈B,t.1≠s):zaL B s=none:=by
 unfold zaL;rw [List.find?_eq_none];intro t ht;simpa using h t ht
noncomputable def topB (B:List Tn) (s:Str) (n:Nat):Bool:=match zaL B s with
 |none=>zrM s
 |some t=>n == t.2.1.nb
mutual
noncomputable def Tr.way (B:List Tn):Tr→Bool
 | .bl _=>false
 | .nd s ts=>topB B s ts.length&&zks B ts
noncomputable def zks (B:List Tn):List Tr→Bool
 | []=>true
 |t::ts=>t.way B&&zks B ts
end
inductive Pl where
  |nd (k bits:Int) (head:Str) (ps:List Pl)
mutual
noncomputable def Pl.wt:Pl→Nat
 | .nd _ _ _ ps=>1+zsG ps
noncomputable def zsG:List Pl→Nat
 | []=>0
 |p::ps=>p.wt+zsG ps
end
mutual
noncomputable def Pl.nt:Pl→Nat
 | .nd k _ _ ps=>(if k<0 then 0 else 1)+zsM ps
noncomputable def zsM:List Pl→Nat
 | []=>0
 |p::ps=>p.nt+zsM ps
end
inductive PlOk (ws:List Str) (B:List Tn):Pl→Prop
 |sign {b:Int}{h:Str}{ps:List Pl}:h∈ws→(∀p∈ps,PlOk ws B p)→PlOk ws B (.nd (-1) b h ps)
 |turn {k:Nat}{b:Int}{h:Str}{ps:List Pl}{t:Tn}:B[k]? =some t→ps.length=t.2.1.nb→0≤b→b<8→(∀p∈ps,PlOk ws B p)→PlOk ws B (.nd k b h ps)
mutual
noncomputable def Pl.ev (B:List Tn) (c:Int→Nat):Pl→Tr
 | .nd k b h ps=>if k<0 then .nd h (evs B c ps) else match c b with
  |0=>(B.getD k.toNat (h, .bl 0, .bl 0)).2.1.fill (evs B c ps)
  |1=> .nd (B.getD k.toNat (h, .bl 0, .bl 0)).1 (evs B c ps)
  |_=>(B.getD k.toNat (h, .bl 0, .bl 0)).2.2.fill (evs B c ps)
noncomputable def evs (B:List Tn) (c:Int→Nat):List Pl→List Tr
 | []=>[]
 |p::ps=>p.ev B c::evs B c ps
end
noncomputable def evT (t:Tn) (n:Nat) (us:List Tr):Tr:=match n with
 |0=>t.2.1.fill us
 |1=> .nd t.1 us
 |_=>t.2.2.fill us
structure BkOk (ws hs:List Str) (B:List Tn):Prop where
  ti:∀t∈B,zbL t.1
  nd:(B.map fun t=>t.1).Nodup
  sg:∀x∈ws,zbk x
  sb:∀x∈hs,x∈ws
  lf:∀t∈B,LeftT zbk t.2.1
  ri:∀t∈B,RightW ws t.2.1.nb t.2.2
theorem BookOk.bk{w0 w1 w2 w3 w4 w5:Str}{tt:List Str}{B:List Tn}(b:BookOk w0 w1 w2 w3 w4 w5 tt B) (T:Titles tt) (G:Signs w0 w1 w2 w3 w4 w5):BkOk [w0,w1,w2,w3,w4,w5] [w2,w3,w4,w5] B:=
 ⟨fun t ht=>T.ok _ (b.mem ht),b.nodup T,G.ok,fun x hx=>List.mem_cons_of_mem _ (List.mem_cons_of_mem _ hx),fun t ht=>b.left (G.ok _ (by simp)) (G.ok _ (by simp)) (G.ok _ (by simp)) (G.ok _ (by simp)) ht,b.ri⟩
mutual
noncomputable def Tr.mk (B:List Tn) (g:Tn→Tr):Tr→Tr
 | .bl n=> .bl n
 | .nd s ts=>match zaL B s with
  |none=> .nd s (mks B g ts)
  |some t=>(g t).fill (mks B g ts)
noncomputable def mks (B:List Tn) (g:Tn→Tr):List Tr→List Tr
 | []=>[]
 |t::ts=>t.mk B g::mks B g ts
end
theorem zet (B:List Tn) (g:Tn→Tr):∀ts:List Tr,mks B g ts=ts.map (Tr.mk B g)
 | []=>by simp [mks]
 |t::ts=>by simp [mks,zet B g ts]
theorem zfc{B:List Tn}{g:Tn→Tr}{s:Str}{ts:List Tr}(h:zaL B s=none):(Tr.nd s ts).mk B g= .nd s (ts.map (Tr.mk B g)):=by
 rw [Tr.mk,h,zet]
theorem zdt{B:List Tn}{g:Tn→Tr}{s:Str}{ts:List Tr}{t:Tn}(h:zaL B s=some t):(Tr.nd s ts).mk B g=(g t).fill (ts.map (Tr.mk B g)):=by
 rw [Tr.mk,h,zet]
theorem zaA{B:List Tn}(hB:∀t∈B,zbL t.1) {s:Str}(h:zbk s):zaL B s=none:=zjO fun t ht=>(zie h (hB t ht)).symm
mutual
theorem zdT{B:List Tn}{g:Tn→Tr}(hB:∀t∈B,zbL t.1):∀t:Tr,t.hd zbk→t.mk B g=t
 | .bl n,h=>by simp [Tr.hd]at h
 | .nd s ts,h=>by
  simp only[Tr.hd]at h;rw [Tr.mk,zaA hB h.1,zgw hB ts h.2]
theorem zgw{B:List Tn}{g:Tn→Tr}(hB:∀t∈B,zbL t.1):∀ts:List Tr,hds zbk ts→mks B g ts=ts
 | [],h=>by simp [mks]
 |t::ts,h=>by
  simp only[hds]at h;rw [mks,zdT hB t h.1,zgw hB ts h.2]
end
mutual
theorem ziS{B:List Tn}{g:Tn→Tr}(hB:∀t∈B,zbL t.1) {us:List Tr}:∀t:Tr,t.hb zbk→t.fits us.length→(t.fill us).mk B g=t.fill (us.map (Tr.mk B g))
 | .bl n,h,f=>by
  simp only[Tr.fits]at f;simp only[Tr.fill];rw [List.getD_eq_getElem?_getD,List.getD_eq_getElem?_getD,List.getElem?_map,List.getElem?_eq_getElem (show n.toNat<us.length by omega)]
  rfl
 | .nd s ts,h,f=>by
  simp only[Tr.hb]at h;simp only[Tr.fits]at f;simp only[Tr.fill];rw [Tr.mk,zaA hB h.1];simp only[];rw [zhR hB ts h.2 f]
theorem zhR{B:List Tn}{g:Tn→Tr}(hB:∀t∈B,zbL t.1) {us:List Tr}:∀ts:List Tr,hbs zbk ts→fitss us.length ts→mks B g (fills us ts)=fills (us.map (Tr.mk B g)) ts
 | [],h,f=>by simp [fills,mks]
 |t::ts,h,f=>by
  simp only[hbs]at h;simp only[fitss]at f;rw [fills,mks,fills,ziS hB t h.1 f.1,zhR hB ts h.2 f.2]
end
noncomputable def zsK (B:List Tn):Prop:=∀t∈B,∀us:List Tr,us.length=t.2.1.nb→t.2.1.mt (t.2.1.fill us)=some us
mutual
inductive Mv (B:List Tn):Nat→Tr→Tr→Tr→Prop
 |nn {n:Nat}{s z:Str}{ts us cs:List Tr}:zaL B s=none→zaL B z=none→Mvs B n ts us cs→Mv B (n+1) (.nd s ts) (.nd z us) (.nd s cs)
 |ns {n:Nat}{s z:Str}{ts us cs ms:List Tr}{t:Tn}:zaL B s=none→zaL B z=some t→t.2.1.mt (.nd s ts)=some ms→cs.length=t.2.1.nb→Mvs B n ms us cs→Mv B (n+1) (.nd s ts) (.nd z us) (t.2.2.fill cs)
 |sn {n:Nat}{s z:Str}{ts us cs ms:List Tr}{t:Tn}:zaL B s=some t→zaL B z=none→t.2.1.mt (.nd z us)=some ms→Mvs B n ts ms cs→Mv B (n+1) (.nd s ts) (.nd z us) (.nd s cs)
 |ss {n:Nat}{s z:Str}{ts us cs:List Tr}{t t':Tn}:zaL B s=some t'→zaL B z=some t→cs.length=t.2.1.nb→Mvs B n ts us cs→Mv B (n+1) (.nd s ts) (.nd z us) (t.2.2.fill cs)
inductive Mvs (B:List Tn):Nat→List Tr→List Tr→List Tr→Prop
 |nil {n:Nat}:Mvs B n [] [] []
 |cons {n:Nat}{a b c:Tr}{as bs cs:List Tr}:Mv B n a b c→Mvs B n as bs cs→Mvs B n (a::as) (b::bs) (c::cs)
end
mutual
theorem Mv.monoA{B:List Tn}:∀{n:Nat}{a b c:Tr},Mv B n a b c→ ∀m,n≤m→Mv B m a b c
 |_,_,_,_, .nn h1 h2 h3=>fun m h=>by
  obtain⟨m,rfl⟩:∃m',m=m'+1:=⟨m - 1,by omega⟩
  exact .nn h1 h2 (Mvs.monoA h3 m (by omega))
 |_,_,_,_, .ns h1 h2 h3 h4 h5=>fun m h=>by
  obtain⟨m,rfl⟩:∃m',m=m'+1:=⟨m - 1,by omega⟩
  exact .ns h1 h2 h3 h4 (Mvs.monoA h5 m (by omega))
 |_,_,_,_, .sn h1 h2 h3 h4=>fun m h=>by
  obtain⟨m,rfl⟩:∃m',m=m'+1:=⟨m - 1,by omega⟩
  exact .sn h1 h2 h3 (Mvs.monoA h4 m (by omega))
 |_,_,_,_, .ss h1 h2 h3 h4=>fun m h=>by
  obtain⟨m,rfl⟩:∃m',m=m'+1:=⟨m - 1,by omega⟩
  exact .ss h1 h2 h3 (Mvs.monoA h4 m (by omega))
theorem Mvs.monoA{B:List Tn}:∀{n:Nat}{a b c:List Tr},Mvs B n a b c→ ∀m,n≤m→Mvs B m a b c
 |_,_,_,_, .nil=>fun _ _=> .nil
 |_,_,_,_, .cons h1 h2=>fun m h=> .cons (Mv.monoA h1 m h) (Mvs.monoA h2 m h)
end
theorem Mv.mono{B:List Tn}{n m:Nat}{a b c:Tr}(h:n≤m) (M:Mv B n a b c):Mv B m a b c:=Mv.monoA M m h
theorem zjT{P:Str→Prop}:∀{ts us:List Tr},hds P ts→hds P us→hds P (ts++us)
 | [],us,_,h=>h
 |t::ts,us,h,g=>by
  simp only[hds,List.cons_append]at h⊢;exact⟨h.1,zjT h.2 g⟩
noncomputable def pad (w:Str):Pl:= .nd (-1) 0 w []
noncomputable def zhs (need:Nat) (w:Str) (ps:List Pl):List Pl:=List.replicate (need - ps.length) (pad w)++ps
noncomputable def push (need:Nat) (w:Str) (k b:Int) (h:Str) (ps:List Pl):List Pl:=
 (zhs need w ps).take ((zhs need w ps).length - need)++[.nd k b h ((zhs need w ps).drop ((zhs need w ps).length - need))]
section
variable {r:Nat}{S:Sto}{Q:WK}{E:Str→Sto→Prop}{a:Addr}{B:List Tn}
noncomputable def zdj:Option Tn→W
 |some t=>zdx t
 |none=> .non
theorem zgb (B:List Tn) (s:Str):B.findSome? (fun t=>if t.1 == s then some (zdx t) else none)=(zaL B s).map zdx:=by
 unfold zaL
 induction B with
 |nil=>rfl
 |cons t B ih=>
  rw [List.findSome?_cons,List.find?_cons];cases e:t.1 == s with
  |true=>rfl
  |false=>simpa using ih
theorem zdX{s:Str}(ha:S a=some (.lst (B.map zdx))) (h:Q (zdj (zaL B s)) S):zaC (r+1) [.ref a, .str s] S Q E:=by
 rw [zaC];walk_at "wp";rw [zaj ha];refine zhx (S:=S) ?_ (fun σ=>∃x,σ=[some (.ref a),some (.str s),x]) zdx (fun t=>if t.1 == s then some (zdx t) else none) B _ ⟨_,rfl⟩ (fun t ht σ N hI hno hret=>?_) (fun e σ hI=>?_) fun w e S' sb=>?_
 ·exact ha
 ·obtain⟨x,rfl⟩:=hI;simp only[zcM];have ee:zdx t= .tup [.str t.1,enc t.2.1,enc t.2.2]:=rfl;rw [ee];walk_at "wp";cases e:t.1 == s with
  |true=>
   rw [e]at hret;exact hret _ rfl _ .refl
  |false=>
   rw [e]at hno;exact hno rfl _ _ ⟨_,rfl⟩ .refl
 ·obtain⟨x,rfl⟩:=hI;walk_at "wp";rw [zgb]at e;have:zaL B s=none:=by
   cases q:zaL B s with
   |none=>rfl
   |some t=>rw [q]at e;cases e
  rw [this]at h;exact⟨_, .refl,h⟩
 ·rw [zgb]at e;cases q:zaL B s with
  |none=>rw [q]at e;cases e
  |some t=>
   rw [q]at e h;cases e;exact⟨_,sb,h⟩
end
noncomputable def byC (f:Int):Int→Nat:=fun b=>if b / f % 2=1 then 1 else 0
section
theorem zkR{P:Str→Prop}{w:Str}(h:P w) (n:Nat):hds P (List.replicate n (.nd w [])):=hds_iff.mpr fun t ht=>by rw [(List.mem_replicate.mp ht).2];simp [Tr.hd,hds,h]
end
noncomputable def zah (n:Int) (t:Tn):Tr:=if n=1 then t.2.1 else t.2.2
mutual
noncomputable def Tr.ar (B:List Tn):Tr→Prop
 | .bl _=>False
 | .nd s ts=>(∀t,zaL B s=some t→ts.length=t.2.1.nb)∧ars B ts
noncomputable def ars (B:List Tn):List Tr→Prop
 | []=>True
 |t::ts=>t.ar B∧ars B ts
end
theorem ars_iff{B:List Tn}:∀{ts:List Tr},ars B ts↔ ∀t∈ts,t.ar B
 | []=>by simp [ars]
 |t::ts=>by simp [ars,ars_iff (ts:=ts)]
section
variable {n:Int}
theorem zmK (t:Tn) (h:n=1∨n=2):atI [W.str t.1,enc t.2.1,enc t.2.2] n=some (enc (zah n t)):=by
 rcases h with rfl |rfl<;>rfl
theorem zky{t:Tr}(h1:t.weight≤400) (h2:t.depth≤40):t.small=true:=by
 unfold Tr.small;rw [decide_eq_true h1,decide_eq_true h2];rfl
end
noncomputable def zqS (r:Nat):WS:=(zaz (wAsg (zcG (zey 2 [0] (zol (zag 5) (zag 6)) (wGT (zaH (wGN 0) (zaH (wGN 1) zcV))) zjs (zes r (zbO r)))) (wGN 7))
  (zaz (zde (wTb (wOp (oIs false) (zag 4) (wC .non))) (zci (wOp zfv (zbS (zab (wOp oIx (zag 1) (wC (.int 0))) waNil)) (wB zea (zab (zag 7) waNil)))) zbj)
  (zci (zax (zbw r) (zab (wOp oIx (zag 4) (wC (.int 2))) (zab (zag 7) waNil))))))
noncomputable def zlq (r:Nat) (T:WS):WS:=(zaz (zde (znI (wTb (wOp (oIs false) (zag 3) (wC .non))) (wTb (wOp (oIs true) (zag 4) (wC .non)))) (wAsg (zax (zbo r) (zab (wOp oIx (zag 4) (wC (.int 1))) (zab (zag 1) waNil))) (wGN 5)) zbj)
  (zaz (zde (znI (wTb (wOp (oIs true) (zag 3) (wC .non))) (wTb (wOp (oIs false) (zag 4) (wC .non)))) (wAsg (zax (zbo r) (zab (wOp oIx (zag 3) (wC (.int 1))) (zab (zag 2) waNil))) (wGN 6)) zbj)
  T))
theorem zim{r:Nat}:zbO (r+1)=zdE 8 3 (zaz (wAsg (zax (zaC r) (zab (zag 0) (zab (wOp oIx (zag 1) (wC (.int 0))) waNil))) (wGN 3))
  (zaz (wAsg (zax (zaC r) (zab (zag 0) (zab (wOp oIx (zag 2) (wC (.int 0))) waNil))) (wGN 4))
  (zaz (wAsg (wSl (zag 1) (woS (wC (.int 1))) woN) (wGN 5))
  (zaz (wAsg (wSl (zag 2) (woS (wC (.int 1))) woN) (wGN 6))
  (zlq r (zqS r)))))):=rfl
mutual
theorem znQ{P:Str→Prop}:∀(l t:Tr) (ys:List Tr),l.mt t=some ys→t.hd P→hds P ys∧wts ys≤t.weight
 | .bl _,t,ys,h,q=>by
  simp only[Tr.mt,Option.some.injEq]at h;subst h;simp only[hds,wts];exact⟨⟨q,trivial⟩,by omega⟩
 | .nd s ls, .nd z us,ys,h,q=>by
  simp only[Tr.mt]at h;simp only[Tr.hd]at q;split at h
  ·have:=zmC ls us ys h q.2;simp only[Tr.weight];exact⟨this.1,by omega⟩
  ·cases h
 | .nd _ _, .bl _,ys,h,q=>by simp [Tr.mt]at h
theorem zmC{P:Str→Prop}:∀(ls us ys:List Tr),mts ls us=some ys→hds P us→hds P ys∧wts ys≤wts us
 | [],us,ys,h,q=>by simp only[mts,Option.some.injEq]at h;subst h;simp [hds,wts]
 |l::ls,[],ys,h,q=>by simp only[mts,Option.some.injEq]at h;subst h;simp [hds,wts]
 |l::ls,u::us,ys,h,q=>by
  simp only[mts]at h;simp only[hds]at q;split at h
  ·cases h
  ·rename_i xs ex;split at h
   ·cases h
   ·rename_i zs ez;simp only[Option.some.injEq]at h;subst h;have h1:=znQ l u xs ex q.1;have h2:=zmC ls us zs ez q.2;rw [zcy,wts];exact⟨zjT h1.1 h2.1,by omega⟩
end
mutual
theorem zec{P:Str→Prop}{m:Nat}:∀t:Tr,t.hd P→t.fits m
 | .bl n,h=>by simp [Tr.hd]at h
 | .nd s ts,h=>by
  simp only[Tr.hd]at h;simp only[Tr.fits];exact zhB ts h.2
theorem zhB{P:Str→Prop}{m:Nat}:∀ts:List Tr,hds P ts→fitss m ts
 | [],h=>by simp [fitss]
 |t::ts,h=>by
  simp only[hds]at h;simp only[fitss];exact⟨zec t h.1,zhB ts h.2⟩
end
theorem Mvs.triples{B:List Tn}{n:Nat}:∀{as bs cs:List Tr},Mvs B n as bs cs→ ∃zs:List (Tr×Tr×Tr),as=zs.map (fun z=>z.1)∧bs=zs.map (fun z=>z.2.1)∧cs=zs.map (fun z=>z.2.2)∧ ∀z∈zs,Mv B n z.1 z.2.1 z.2.2
 |_,_,_, .nil=>⟨[],rfl,rfl,rfl,fun _ h=>nomatch h⟩
 |_,_,_, .cons (a:=a) (b:=b) (c:=c) h1 h2=>by
  obtain⟨zs,e1,e2,e3,h⟩:=Mvs.triples h2;exact⟨(a,b,c)::zs,by rw [e1];rfl,by rw [e2];rfl,by rw [e3];rfl,fun z hz=>(List.mem_cons.mp hz).elim (fun e=>by rw [e];exact h1) (h z)⟩
theorem zge:∀zs:List (Tr×Tr×Tr),zbQ (zaw (zs.map fun z=>z.1)) (zaw (zs.map fun z=>z.2.1))=zs.map fun z=>W.tup [enc z.1,enc z.2.1]
 | []=>by simp [zaw,zbQ]
 |z::zs=>by simp [zaw,zbQ,zge zs]
noncomputable def zrp (f:Option Tn) (s:Str) (cs:List Tr):Tr:=match f with
 |none=> .nd s cs
 |some t=>t.2.2.fill cs
noncomputable def zpk (S:Sto) (v:W) (ws:List W):Prop:=v= .tup ws∨ ∃q,v= .ref q∧S q=some (.lst ws)
section
variable {S:Sto}{a:Addr}{B:List Tn}
theorem ziY{v:W}{ws:List W}{Q:List W→(Sto→Prop)→Prop}(h:zpk S v ws) (hq:∀G:Sto→Prop,G S→(∀S',Sub S S'→G S')→Q ws G):zlY v S Q:=by
 rcases h with rfl |⟨q,rfl,e⟩
 ·rw [zgy];exact hq _ trivial fun _ _=>trivial
 ·rw [zfT,zaj e];exact hq _ e fun S' sb=>sb _ _ e
theorem zlL{n r:Nat}{x y:Tr}{as bs cs:List Tr}{va vb vf:W}{f:Option Tn}{x7:Option W}{s:Str}{ts:List Tr}(hx:x= .nd s ts) (ha:S a=some (.lst (B.map zdx))) (h1:zpk S va (zaw as)) (h2:zpk S vb (zaw bs)) (M:Mvs B n as bs cs) (hl:as.length≤1000)
  (hR:∀t,f=some t→t.2.2.depth≤4∧t.2.2.weight≤100∧t.2.2.fits cs.length) (hr:5≤r)
  (one:∀{a' b' c':Tr}{Q:WK}{E:Str→Sto→Prop},a'∈as→b'∈bs→Mv B n a' b' c'→Q (enc c') S→zbO r [.ref a,enc a',enc b'] S Q E) {E:WX}{D:WEnds}
  (hQ:∀S',Sub S S'→D.rt (enc (zrp f s cs)) S') :
  zqS r E D [some (.ref a),some (enc x),some (enc y),some vf,some (zdj f),some va,some vb,x7] S:=by
 obtain⟨zs,rfl,rfl,rfl,hz⟩:=M.triples;unfold zqS;walk_at "wp";refine ziY h1 fun G1 g1 k1=>ziY h2 fun G2 g2 k2=>?_;rw [zge];rw [List.length_map]at hl;refine zbB (fun σ=>∃x y,σ=[x,y,some (.ref a)]) (fun z=>W.tup [enc z.1,enc z.2.1]) (fun z=>enc z.2.2) ?_ zs [] _ ⟨none,none,rfl⟩ (by simp;omega) (fun z hz' σ R hI hR=>?_) ?_
 ·exact⟨g1,g2⟩
 ·obtain⟨u,v,rfl⟩:=hI;simp only[zes];walk_at "wp";refine one (a':=z.1) (b':=z.2.1) (c':=z.2.2) (List.mem_map.mpr ⟨z,hz',rfl⟩) (List.mem_map.mpr ⟨z,hz',rfl⟩) (hz z hz') ?_;exact hR _ _ ⟨_,_,rfl⟩ .refl
 ·rw [List.nil_append];intro q hq;have eu:(zs.map fun z=>enc z.2.2)=zaw (zs.map fun z=>z.2.2):=by rw [zaX,List.map_map];rfl
  rw [eu];have fq:put S q (Ob.lst (zaw (zs.map fun z=>z.2.2))) q=some (.lst (zaw (zs.map fun z=>z.2.2))):=zaf;have sub:Sub S (put S q (Ob.lst (zaw (zs.map fun z=>z.2.2)))):= .put .refl hq;generalize put S q (Ob.lst (zaw (zs.map fun z=>z.2.2)))=S1 at fq sub⊢;obtain⟨r,rfl⟩:∃r',r=r'+1:=⟨r - 1,by omega⟩
  cases f with
  |none=>
   subst hx;simp only[zdj,enc,zrp]at hQ⊢
   try walk_at "wp"
   try rw [zaj fq]
   rw [zbd,List.length_map];exact⟨zai (by decide),zai (by omega),hQ _ sub⟩
  |some t=>
   have ee:zdj (some t)= .tup [.str t.1,enc t.2.1,enc t.2.2]:=rfl;rw [ee]
   try walk_at "wp"
   rw [show atI [W.str t.1,enc t.2.1,enc t.2.2] 2=some (enc t.2.2) from rfl];dsimp only;obtain⟨g1,g2,g3⟩:=hR t rfl;exact zeq 4 g1 (by omega) fq (by rw [List.length_map];rw [List.length_map]at g3;exact g3) (by omega) (hQ _ sub)
theorem Mv.nd{n:Nat}{x y z:Tr}:Mv B n x y z→ ∃s ts z' us,x= .nd s ts∧y= .nd z' us
 | .nn _ _ _=>⟨_,_,_,_,rfl,rfl⟩
 | .ns _ _ _ _ _=>⟨_,_,_,_,rfl,rfl⟩
 | .sn _ _ _ _=>⟨_,_,_,_,rfl,rfl⟩
 | .ss _ _ _ _=>⟨_,_,_,_,rfl,rfl⟩
section
variable {T:WS}{E:WX}{D:WEnds}{r:Nat}{x0 x1 x2 x5 x6 x7:Option W}
theorem zmL (h:T E D [x0,x1,x2,some (zdj none),some (zdj none),x5,x6,x7] S):zlq r T E D [x0,x1,x2,some (zdj none),some (zdj none),x5,x6,x7] S:=by
 rw [show zdj none=W.non from rfl]at h⊢;unfold zlq;walk_at "wp";exact h
theorem znS{t t':Tn}(h:T E D [x0,x1,x2,some (zdj (some t')),some (zdj (some t)),x5,x6,x7] S):zlq r T E D [x0,x1,x2,some (zdj (some t')),some (zdj (some t)),x5,x6,x7] S:=by
 have ee:∀t:Tn,zdj (some t)= .tup [.str t.1,enc t.2.1,enc t.2.2]:=fun _=>rfl;rw [ee,ee]at h⊢;unfold zlq;walk_at "wp";exact h
theorem zoj{t:Tn}{x:Tr}{ms:List Tr}(e:t.2.1.mt x=some ms) (hr:t.2.1.depth<r) (ft:x.fits 0) (hw:t.2.1.weight≤90000) (h:∀q,S q=none→T E D [x0,some (enc x),x2,some (zdj none),some (zdj (some t)),some (.ref q),x6,x7] (put S q (.lst (zaw ms)))):zlq (r+1) T E D [x0,some (enc x),x2,some (zdj none),some (zdj (some t)),x5,x6,x7] S:=by
 have ee:∀t:Tn,zdj (some t)= .tup [.str t.1,enc t.2.1,enc t.2.2]:=fun _=>rfl;have a1:∀t:Tn,atI [W.str t.1,enc t.2.1,enc t.2.2] 1=some (enc t.2.1):=fun _=>rfl;rw [ee,show zdj none=W.non from rfl]at *;unfold zlq;walk_at "wp";rw [a1];dsimp only;refine zeL hr ft hw (fun ys hys q hq=>?_) fun h0=>by rw [e]at h0;cases h0
 rw [e]at hys;cases hys
 try walk_at "wp"
 exact h q hq
theorem zoc{t:Tn}{y:Tr}{ms:List Tr}(e:t.2.1.mt y=some ms) (hr:t.2.1.depth<r) (ft:y.fits 0) (hw:t.2.1.weight≤90000) (h:∀q,S q=none→T E D [x0,x1,some (enc y),some (zdj (some t)),some (zdj none),x5,some (.ref q),x7] (put S q (.lst (zaw ms)))):zlq (r+1) T E D [x0,x1,some (enc y),some (zdj (some t)),some (zdj none),x5,x6,x7] S:=by
 have ee:∀t:Tn,zdj (some t)= .tup [.str t.1,enc t.2.1,enc t.2.2]:=fun _=>rfl;have a1:∀t:Tn,atI [W.str t.1,enc t.2.1,enc t.2.2] 1=some (enc t.2.1):=fun _=>rfl;rw [ee,show zdj none=W.non from rfl]at *;unfold zlq;walk_at "wp";rw [a1];dsimp only;refine zeL hr ft hw (fun ys hys q hq=>?_) fun h0=>by rw [e]at h0;cases h0
 rw [e]at hys;cases hys
 try walk_at "wp"
 exact h q hq
end
theorem zfr (hB:∀t∈B,t.2.1.depth≤4∧t.2.1.weight≤100∧t.2.2.depth≤4∧t.2.2.weight≤100∧t.2.2.fits t.2.1.nb):∀(n:Nat) {S:Sto}{x y z:Tr}{r:Nat}{Q:WK}{E:Str→Sto→Prop},S a=some (.lst (B.map zdx))→Mv B n x y z→n+12≤r→x.hd (fun _=>True)→y.hd (fun _=>True)→x.weight≤1000→y.weight≤1000→Q (enc z) S→zbO (r+1) [.ref a,enc x,enc y] S Q E
 |0,S,x,y,z,r,Q,E,ha,M,hr,hx,hy,wx,wy,h=>by cases M
 |n+1,S,x,y,z,r,Q,E,ha,M,hr,hx,hy,wx,wy,h=>by
  obtain⟨r,rfl⟩:∃r',r=r'+1:=⟨r - 1,by omega⟩
  have one:∀{as bs:List Tr},hds (fun _=>True) as→hds (fun _=>True) bs→wts as≤1000→wts bs≤1000→ ∀(S1:Sto),Sub S S1→ ∀{a' b' c':Tr}{Q:WK}{E:Str→Sto→Prop},a'∈as→b'∈bs→Mv B n a' b' c'→Q (enc c') S1→zbO (r+1) [.ref a,enc a',enc b'] S1 Q E:=fun {as bs} h1 h2 h3 h4 S1 sb {a' b' c' Q E} m1 m2 M q=>
   zfr hB n (sb _ _ ha) M (by omega) (hds_iff.mp h1 _ m1) (hds_iff.mp h2 _ m2) (by have:=zex m1;omega) (by have:=zex m2;omega) q
  have start:∀{s z:Str}{ts us:List Tr}{E':WX}{D:WEnds}{S1:Sto}{va vb vf:W}{f:Option Tn}{as bs cs:List Tr},S1 a=some (.lst (B.map zdx))→Sub S S1→zpk S1 va (zaw as)→zpk S1 vb (zaw bs)→Mvs B n as bs cs→hds (fun _=>True) as→hds (fun _=>True) bs→wts as≤1000→wts bs≤1000→(∀t,f=some t→t∈B∧cs.length=t.2.1.nb)→(∀S',Sub S S'→D.rt (enc (zrp f s cs)) S')→
    zqS (r+1) E' D [some (.ref a),some (W.tup (W.str s::zaw ts)),some (W.tup (W.str z::zaw us)),some vf,some (zdj f),some va,some vb,none] S1:=fun {s z ts us E' D S1 va vb vf f as bs cs} hS1 sb q1 q2 M h1 h2 h3 h4 hf hQ=>by
   have hl:=zcg as;have:=zlL (x:= .nd s ts) (y:= .nd z us) (vf:=vf) (f:=f) (x7:=none) (E:=E') (D:=D) rfl hS1 q1 q2 M (by omega) (fun t ht=>by
    obtain⟨m,e⟩:=hf t ht;obtain⟨g1,g2,g3,g4,g5⟩:=hB t m;exact⟨g3,g4,by rw [e];exact g5⟩) (by omega) (one h1 h2 h3 h4 S1 sb) fun S' sb'=>hQ S' (sb.trans sb')
   simpa only[enc]using this
  obtain⟨s,ts,z',us,rfl,rfl⟩:=M.nd;have ex:enc (.nd s ts)= .tup (.str s::zaw ts):=by simp only[enc]
  have ey:enc (.nd z' us)= .tup (.str z'::zaw us):=by simp only[enc]
  have hx':=hx;have hy':=hy;have wx':=wx;have wy':=wy;simp only[Tr.hd]at hx' hy';simp only[Tr.weight]at wx' wy';rw [zim,ex,ey];walk_at "wp";refine zdX ha (zdX ha ?_);cases M with
  | @nn _ _ _ _ _ cs e1 e2 M=>
   rw [e1,e2];exact zmL (start (f:=none) ha .refl (.inl rfl) (.inl rfl) M hx'.2 hy'.2 (by omega) (by omega) (fun _ h=>nomatch h) fun S' sb=>⟨_,sb,h⟩)
  | @ns _ _ _ _ _ cs ms t e1 e2 e3 e4 M=>
   have ht:t∈B:=List.mem_of_find?_eq_some e2;have hm:=znQ t.2.1 _ _ e3 hx;have ft:=zec (m:=0) _ hx;obtain⟨g1,g2,g3,g4,g5⟩:=hB t ht;rw [e1,e2,←ex];refine zoj e3 (by omega) ft (by omega) fun q hq=>?_;rw [ex];exact start (f:=some t) (keep ha hq) (.put .refl hq) (.inr ⟨q,rfl,zaf⟩) (.inl rfl) M hm.1 hy'.2 (by omega) (by omega) (fun _ h=>by cases h;exact⟨ht,e4⟩) fun S' sb=>⟨_,sb,h⟩
  | @sn _ _ _ _ _ cs ms t e1 e2 e3 M=>
   have ht:t∈B:=List.mem_of_find?_eq_some e1;have hm:=znQ t.2.1 _ _ e3 hy;have ft:=zec (m:=0) _ hy;obtain⟨g1,g2,g3,g4,g5⟩:=hB t ht;rw [e1,e2,←ey];refine zoc e3 (by omega) ft (by omega) fun q hq=>?_;rw [ey];exact start (f:=none) (keep ha hq) (.put .refl hq) (.inl rfl) (.inr ⟨q,rfl,zaf⟩) M hx'.2 hm.1 (by omega) (by omega) (fun _ h=>nomatch h) fun S' sb=>⟨_,sb,h⟩
  | @ss _ _ _ _ _ cs t t' e1 e2 e3 M=>
   have ht:t∈B:=List.mem_of_find?_eq_some e2;rw [e1,e2];exact znS (start (f:=some t) ha .refl (.inl rfl) (.inl rfl) M hx'.2 hy'.2 (by omega) (by omega) (fun _ h=>by cases h;exact⟨ht,e3⟩) fun S' sb=>⟨_,sb,h⟩)
end
section
variable {ws hs:List Str}{B:List Tn}{c:Int→Nat}{p:Pl}
structure Pk (ws hs:List Str) (B:List Tn) (p:Pl):Prop where
  b:BkOk ws hs B
  m:zsK B
  o:PlOk hs B p
  dp:∀{c:Int→Nat},(p.ev B c).depth≤40
  wt:∀{c:Int→Nat},(p.ev B c).weight≤400
end
noncomputable def pps (B:List Tn) (s:Str) (n:Nat):List (List Int):=match zaL B s with
 |none=>(List.range n).map fun(i:Nat)=>[(i:Int)]
 |some t=>t.2.1.bls.map fun x=>x.1
mutual
noncomputable def Tr.us (B:List Tn) (p:List Int):Tr→List (List Int×Str)
 | .bl _=>[]
 | .nd s ts=>(match zaL B s with
  |none=>[]
  |some _=>[(p,s)])++usz B p (pps B s ts.length) ts
noncomputable def usz (B:List Tn) (p:List Int):List (List Int)→List Tr→List (List Int×Str)
 |q::qs,t::ts=>t.us B (p++q)++usz B p qs ts
 |_,_=>[]
end
noncomputable def ppl (B:List Tn) (k:Int) (n:Nat):List (List Int):=if k<0 then(List.range n).map fun(i:Nat)=>[(i:Int)] else(B.getD k.toNat (⟨#[]⟩, .bl 0, .bl 0)).2.1.bls.map fun x=>x.1
mutual
noncomputable def Pl.ns (B:List Tn) (p:List Int):Pl→List (List Int×Int×Str)
 | .nd k b h ps=>(if k<0 then [] else [(p,b,(B.getD k.toNat (⟨#[]⟩, .bl 0, .bl 0)).1)])++nsz B p (ppl B k ps.length) ps
noncomputable def nsz (B:List Tn) (p:List Int):List (List Int)→List Pl→List (List Int×Int×Str)
 |q::qs,t::ts=>t.ns B (p++q)++nsz B p qs ts
 |_,_=>[]
end
noncomputable def ztO (c:Int→Nat) (xs:List (List Int×Int×Str)):List (List Int×Str):=(xs.filter fun x=>c x.2.1 == 1).map fun x=>(x.1,x.2.2)
noncomputable def zgt (B:List Tn) (t:Tr):Option Tn:=B.find? fun u=>(u.2.1.mt t).isSome
mutual
noncomputable def Tr.op (B:List Tn) (p:List Int):Tr→List (List Int×Str)
 | .bl _=>[]
 | .nd s ts=>(match zgt B (.nd s ts) with
  |none=>[]
  |some t=>[(p,t.1)])++ops B p 0 ts
noncomputable def ops (B:List Tn) (p:List Int) (i:Nat):List Tr→List (List Int×Str)
 | []=>[]
 |t::ts=>t.op B (p++[(i:Int)])++ops B p (i+1) ts
end
theorem zeO{n:Nat}{h c d:Str}{L:Tr}(hL:L∈zcn n h c d):∃ts,L= .nd h ts:=by
 unfold zcn at hL;split at hL<;>simp only[List.mem_cons,List.not_mem_nil,or_false]at hL
 all_goals first
  | (subst hL;exact⟨_,rfl⟩)
  | (rcases hL with rfl |rfl<;>exact⟨_,rfl⟩)
theorem zmQ{s z:Str}{ls us:List Tr}(h:((Tr.nd s ls).mt (.nd z us)).isSome=true):s=z:=by
 simp only[Tr.mt]at h;split at h
 ·rename_i q;simp only[Bool.and_eq_true,beq_iff_eq]at q;exact q.1
 ·cases h
section
variable {w0 w1 w2 w3 w4 w5:Str}{tt:List Str}{B:List Tn}
theorem zdZ (n:Nat) (h c d:Str):(zcn n h c d).Nodup:=by
 unfold zcn;split<;>simp
theorem BookOk.inj (b:BookOk w0 w1 w2 w3 w4 w5 tt B) (G:Signs w0 w1 w2 w3 w4 w5):(B.map fun t=>t.2.1).Nodup:=by
 obtain⟨n,m,e⟩:=b.lf;rw [e,List.nodup_append];refine⟨zdZ ..,zdZ ..,fun x hx y hy=>?_⟩;obtain⟨ts,rfl⟩:=zeO hx;obtain⟨us,rfl⟩:=zeO hy;intro z;cases z;exact G.n0 _ (by simp) rfl
end
mutual
inductive Wi (B:List Tn) (wn:List (List Int)):Nat→List Int→Tr→Tr→Prop
 |no {n:Nat}{p:List Int}{s:Str}{ts us:List Tr}:p∉wn→zaL B s=none→Wis B wn n p ((List.range ts.length).map fun(i:Nat)=>[(i:Int)]) ts us→Wi B wn (n+1) p (.nd s ts) (.nd s us)
 |yes {n:Nat}{p:List Int}{s:Str}{ts us ms:List Tr}{t:Tn}:p∈wn→zgt B (.nd s ts)=some t→t.2.1.mt (.nd s ts)=some ms→zaL B t.1=some t→Wis B wn n p (t.2.1.bls.map fun x=>x.1) ms us→Wi B wn (n+1) p (.nd s ts) (.nd t.1 us)
inductive Wis (B:List Tn) (wn:List (List Int)):Nat→List Int→List (List Int)→List Tr→List Tr→Prop
 |nil {n:Nat}{p:List Int}:Wis B wn n p [] [] []
 |cons {n:Nat}{p q:List Int}{qs:List (List Int)}{t u:Tr}{ts us:List Tr}:Wi B wn n (p++q) t u→Wis B wn n p qs ts us→Wis B wn n p (q::qs) (t::ts) (u::us)
end
noncomputable def zaU (qs:List (List Int)):Prop:=qs.Pairwise fun a b=>¬a <+:b∧ ¬b <+:a
noncomputable def zpe (B:List Tn) (x:List Int×Tr):List (List Int×Str):=(zgt B x.2).toList.map fun b=>(x.1,b.1)
mutual
theorem ziA (B:List Tn):∀(t:Tr) (p:List Int),t.fits 0→(t.plt p).flatMap (zpe B)=t.op B p
 | .bl n,p,h=>by
  simp only[Tr.fits]at h;omega
 | .nd s ts,p,h=>by
  simp only[Tr.fits]at h;rw [Tr.plt,List.flatMap_cons,zki B ts p 0 h,Tr.op,zpe];cases zgt B (.nd s ts)<;>rfl
theorem zki (B:List Tn):∀(ts:List Tr) (p:List Int) (i:Nat),fitss 0 ts→(zjJ p i ts).flatMap (zpe B)=ops B p i ts
 | [],p,i,h=>by simp [zjJ,ops]
 |t::ts,p,i,h=>by
  simp only[fitss]at h;rw [zjJ,ops,List.flatMap_append,ziA B t _ h.1,zki B ts p (i+1) h.2]
end
section
variable {c:Int→Nat}
noncomputable def One (c:Int→Nat):Prop:=∀x:Int,0≤x→x<8→c x≤1
end
theorem znZ{S:Sto}{n:Nat}{a b:Addr}{xs:List W}(ha:S a=some (.lst xs)) (hb:S b=some (.lst xs)) (h:zdw (eqF S n) xs xs=some true):eqF S (n+1) (.ref a) (.ref b)=some true:=by
 show(match S a with
  |some (.lst xs)=>match S b with
   |some (.lst ys)=>zdw (eqF S n) xs ys
   |_=>none
  |_=>none)=some true
 rw [ha,hb];exact h
noncomputable def u1 (B:List Tn) (p:Pl):List (List Int×Str):=ztO (byC 1) (p.ns B [])
mutual
noncomputable def Tr.ord (k:Nat):Tr→Option Nat
 | .bl n=>if n=(k:Int) then some (k+1) else none
 | .nd _ ts=>zsD k ts
noncomputable def zsD (k:Nat):List Tr→Option Nat
 | []=>some k
 |t::ts=>match t.ord k with
  |some m=>zsD m ts
  |none=>none
end
noncomputable def zrL (B:List Tn) (z:Str):Prop:=∀u∈B,∀s ls,u.2.1= .nd s ls→s≠z
structure Ort (B:List Tn):Prop where
  inn:∀t∈B,∃s ls,t.2.1= .nd s ls∧hbs (zrL B) ls
  mt:zsK B
  fm:∀t∈B,∀x ys,t.2.1.mt x=some ys→x=t.2.1.fill ys∧ys.length=t.2.1.nb
  one:∀u∈B,∀v∈B,∀x:Tr,(u.2.1.mt x).isSome=true→(v.2.1.mt x).isSome=true→u=v
  od:∀t∈B,t.2.1.ord 0=some t.2.1.nb
structure Wy (ws:List Str) (B:List Tn) (a:Tr):Prop where
  hd:a.hd fun s=>s∈ws∨ ∃t∈B,t.1=s
  ar:a.ar B
noncomputable abbrev src (B:List Tn) (a:Tr):Tr:=a.mk B fun t=>t.2.1
noncomputable abbrev gol (B:List Tn) (a:Tr):Tr:=a.mk B fun t=>t.2.2
section
variable {ws:List Str}{B:List Tn}
theorem zhg{P:Str→Prop}:∀{ts:List Tr}{t:Tr},hds P ts→t∈ts→t.hd P
 |u::ts,t,h,ht=>by
  rw [hds]at h;rcases List.mem_cons.mp ht with rfl |ht
  ·exact h.1
  ·exact zhg h.2 ht
theorem zgY:∀{ts:List Tr}{t:Tr},ars B ts→t∈ts→t.ar B
 |u::ts,t,h,ht=>by
  rw [ars]at h;rcases List.mem_cons.mp ht with rfl |ht
  ·exact h.1
  ·exact zgY h.2 ht
theorem Wy.cases (b:BkOk ws ws B) {a:Tr}(h:Wy ws B a):(∃s as,a= .nd s as∧s∈ws∧zaL B s=none∧ ∀x∈as,Wy ws B x)∨(∃t as,t∈B∧a= .nd t.1 as∧zaL B t.1=some t∧as.length=t.2.1.nb∧ ∀x∈as,Wy ws B x):=by
 obtain⟨h1,h2⟩:=h;cases a with
 |bl n=>rw [Tr.hd]at h1;exact h1.elim
 |nd s as=>
  rw [Tr.hd]at h1;rw [Tr.ar]at h2;have kids:∀x∈as,Wy ws B x:=fun x hx=>⟨zhg h1.2 hx,zgY h2.2 hx⟩;rcases h1.1 with h |⟨t,ht,rfl⟩
  ·exact .inl ⟨s,as,rfl,h,zaA b.ti (b.sg s h),kids⟩
  ·have e:=zhF b.nd ht;exact .inr ⟨t,as,ht,rfl,e,h2.1 t e,kids⟩
theorem zjN{g:Tn→Tr}{s:Str}{as:List Tr}(h:zaL B s=none):(Tr.nd s as).mk B g= .nd s (as.map (Tr.mk B g)):=by
 rw [Tr.mk,h,zet]
theorem ziW{g:Tn→Tr}{t:Tn}{as:List Tr}(h:zaL B t.1=some t):(Tr.nd t.1 as).mk B g=(g t).fill (as.map (Tr.mk B g)):=by
 rw [Tr.mk,h,zet]
mutual
theorem zoV (b:BkOk ws ws B) (O:Ort B):∀(L a:Tr),L.hb (zrL B)→Wy ws B a→(L.mt (src B a)).isSome=true→(L.mt a).isSome=true
 | .bl n,a,_,_,_=>by rw [Tr.mt];rfl
 | .nd z ls,a,hL,ha,h=>by
  rw [Tr.hb]at hL;rcases ha.cases b with⟨s,as,rfl,hs,e,kids⟩ |⟨t,as,ht,rfl,e,hl,kids⟩
  ·rw [show src B (.nd s as)= .nd s (as.map (src B)) from zjN e,Tr.mt,List.length_map]at h;rw [Tr.mt];split at h
   ·rename_i hc;rw [if_pos hc];exact zgL b O ls as hL.2 kids h
   ·cases h
  ·obtain⟨s0,l0,e0,_⟩:=O.inn t ht;rw [show src B (.nd t.1 as)=t.2.1.fill (as.map (src B)) from ziW e,e0,Tr.fill]at h;exact absurd (zmQ h).symm (hL.1 t ht s0 l0 e0)
theorem zgL (b:BkOk ws ws B) (O:Ort B):∀(ls as:List Tr),hbs (zrL B) ls→(∀x∈as,Wy ws B x)→(mts ls (as.map (src B))).isSome=true→(mts ls as).isSome=true
 | [],as,_,_,_=>by rw [mts];rfl
 |l::ls,[],_,_,_=>by rw [mts];rfl
 |l::ls,a::as,hL,ha,h=>by
  rw [hbs]at hL;rw [List.map_cons,mts]at h;cases q1:l.mt (src B a) with
  |none=>rw [q1]at h;cases h
  |some xs=>
   rw [q1]at h;cases q2:mts ls (as.map (src B)) with
   |none=>rw [q2]at h;cases h
   |some zs=>
    have h1:=zoV b O l a hL.1 (ha a (by simp)) (by rw [q1];rfl);have h2:=zgL b O ls as hL.2 (fun x hx=>ha x (List.mem_cons_of_mem _ hx)) (by rw [q2];rfl);obtain⟨x1,h1⟩:=Option.isSome_iff_exists.mp h1;obtain⟨x2,h2⟩:=Option.isSome_iff_exists.mp h2;rw [mts,h1,h2];rfl
end
end
section
variable {ws:List Str}{B:List Tn}
theorem Wy.kids{s:Str}{as:List Tr}(h:Wy ws B (.nd s as)):∀x∈as,Wy ws B x:=fun x hx=>by
 obtain⟨h1,h2⟩:=h;rw [Tr.hd]at h1;rw [Tr.ar]at h2;exact⟨zhg h1.2 hx,zgY h2.2 hx⟩
mutual
theorem zqx:∀(L a:Tr) (ys:List Tr),L.mt a=some ys→Wy ws B a→ ∀y∈ys,Wy ws B y
 | .bl n,a,ys,e,h,y,hy=>by
  rw [Tr.mt]at e;cases e;rw [List.mem_singleton]at hy;rw [hy];exact h
 | .nd s ls, .bl n,ys,e,h,y,hy=>by rw [Tr.mt]at e;cases e
 | .nd s ls, .nd z us,ys,e,h,y,hy=>by
  rw [Tr.mt]at e;split at e
  ·exact zmp ls us ys e h.kids y hy
  ·cases e
theorem zmp:∀(ls us ys:List Tr),mts ls us=some ys→(∀x∈us,Wy ws B x)→ ∀y∈ys,Wy ws B y
 | [],us,ys,e,h,y,hy=>by rw [mts]at e;cases e;cases hy
 |l::ls,[],ys,e,h,y,hy=>by rw [mts]at e;cases e;cases hy
 |l::ls,u::us,ys,e,h,y,hy=>by
  rw [mts]at e;cases q1:l.mt u with
  |none=>rw [q1]at e;cases e
  |some xs=>
   rw [q1]at e;cases q2:mts ls us with
   |none=>rw [q2]at e;cases e
   |some zs=>
    rw [q2]at e;cases e;rcases List.mem_append.mp hy with hy |hy
    ·exact zqx l u xs q1 (h u (by simp)) y hy
    ·exact zmp ls us zs q2 (fun x hx=>h x (List.mem_cons_of_mem _ hx)) y hy
end
theorem zkw (b:BkOk ws ws B) {t:Tn}(ht:t∈B) {vs:List Tr}(hl:vs.length=t.2.1.nb) (g:Tn→Tr):(t.2.1.fill vs).mk B g=t.2.1.fill (vs.map (Tr.mk B g)):=
 ziS b.ti _ (b.lf t ht).hb (by rw [hl];exact(b.lf t ht).fits)
theorem zgH (b:BkOk ws ws B) (O:Ort B) {t:Tn}(ht:t∈B) {s:Str}{bs us:List Tr}(e:zaL B s=none) (hw:Wy ws B (.nd s bs)) (hl:us.length=t.2.1.nb) (h:src B (.nd s bs)=t.2.1.fill us) :
  ∃vs, .nd s bs=t.2.1.fill vs∧vs.length=t.2.1.nb∧vs.map (src B)=us∧(∀x∈vs,Wy ws B x)∧wts vs≤(Tr.nd s bs).weight:=by
 obtain⟨s0,ls,e0,hin⟩:=O.inn t ht;have hm:t.2.1.mt (src B (.nd s bs))=some us:=by rw [h];exact O.mt t ht us hl
 have h1:(t.2.1.mt (.nd s bs)).isSome=true:=by
  have hm':=hm;rw [show src B (.nd s bs)= .nd s (bs.map (src B)) from zjN e,e0,Tr.mt,List.length_map]at hm';rw [e0,Tr.mt];split at hm'
  ·rename_i hc;rw [if_pos hc];exact zgL b O ls bs hin hw.kids (by rw [hm'];rfl)
  ·cases hm'
 obtain⟨vs,hv⟩:=Option.isSome_iff_exists.mp h1;obtain⟨h2,h3⟩:=O.fm t ht _ _ hv;refine⟨vs,h2,h3,?_,zqx _ _ _ hv hw,zfD _ _ _ hv⟩;rw [h2,show src B (t.2.1.fill vs)=_ from zkw b ht h3 _,O.mt t ht _ (by rw [List.length_map,h3])]at hm;exact Option.some.inj hm
theorem zmu{s:Str}{as:List Tr}:(Tr.nd s as).weight=1+wts as:=by rw [Tr.weight]
end
section
variable {B:List Tn}
mutual
noncomputable def Tr.ne (B:List Tn):Tr→Nat
 | .bl _=>0
 | .nd s ts=>(match zaL B s with
  |none=>0
  |some _=>1)+nes B ts
noncomputable def nes (B:List Tn):List Tr→Nat
 | []=>0
 |t::ts=>max (t.ne B) (nes B ts)
end
end
open Classical in
noncomputable def res (B:List Tn) (x y:Tr):Tr:=if h:∃z n,Mv B n x y z then choose h else x
structure Bk3 (ws:List Str) (B:List Tn):Prop where
  b:BkOk ws ws B
  O:Ort B
  lw:∀t∈B,t.2.1.hb fun s=>s∈ws
structure Bk2 (ws:List Str) (B:List Tn):Prop extends Bk3 ws B where
  sl:ztI B
instance {ws:List Str}{B:List Tn}:Coe (Bk2 ws B) (Bk3 ws B):=⟨Bk2.toBk3⟩
section
variable {ws:List Str}{B:List Tn}{x y:Tr}{p:Pl}
structure Two (ws:List Str) (B:List Tn) (x y:Tr):Prop where
  K:Bk3 ws B
  ex:∃p c d,Pk ws ws B p∧One c∧One d∧p.ev B c=x∧p.ev B d=y
theorem Two.symm (h:Two ws B x y):Two ws B y x:=by
 obtain⟨p,c,d,k,hc,hd,e1,e2⟩:=h.ex;exact⟨h.K,p,d,c,k,hd,hc,e2,e1⟩
end
section
variable {t:Tr}
structure Bd (t:Tr) (n:Nat):Prop where
  w:2 ^ n*t.weight≤400
  d:t.depth+3*n≤40
end
noncomputable def Roa (ws:List Str) (B:List Tn):Tr→List Tr→Prop
 |_,[]=>True
 |t,x::xs=>Wy ws B x∧src B x=t∧Roa ws B (gol B x) xs
noncomputable def nR (B:List Tn):List Tr→Nat
 | []=>0
 |x::xs=>x.ne B+nR B xs
noncomputable def zlI (B:List Tn):Tr→List Tr→List Tr
 |x,[]=>[x]
 |x,o::os=>x::zlI B (res B x o) os
noncomputable def zpc (B:List Tn):Tr→List Tr→List Tr
 |_,[]=>[]
 |x,o::os=>res B o x::zpc B (res B x o) os
noncomputable def zoA (B:List Tn):Tr→List Tr→Tr
 |x,[]=>x
 |x,o::os=>zoA B (res B x o) os
noncomputable def zpi (B:List Tn):List Tr→List Tr→List (List Tr)
 | [],_=>[]
 |x::xs,os=>zlI B x os::zpi B xs (zpc B x os)
noncomputable def zqh (B:List Tn):List Tr→List Tr→List (List Tr)
 | [],os=>[os]
 |x::xs,os=>os::zqh B xs (zpc B x os)
noncomputable def zsy (B:List Tn):List Tr→List Tr→List Tr
 | [],_=>[]
 |x::xs,os=>zoA B x os::zsy B xs (zpc B x os)
noncomputable def zrR (B:List Tn):List Tr→List Tr→List Tr
 | [],os=>os
 |x::xs,os=>zrR B xs (zpc B x os)
section
variable {B:List Tn}
theorem zla:∀(os:List Tr) (x:Tr),(zlI B x os).length=os.length+1
 | [],x=>rfl
 |o::os,x=>by rw [zlI,List.length_cons,zla os];rfl
end
structure Sh (ws:List Str) (B:List Tn) (t:Tr):Prop where
  wy:Wy ws B t
  q:src B t=t
section
variable {B:List Tn}
noncomputable def ztJ (B:List Tn) (wn:List (List Int)) (p:List Int) (t:Tr):Prop:=∀q∈wn,∀e v,q=p++e→t.at e=some v→(zgt B v).isSome=true
end
theorem zgQ{S:Sto}{t:Tr}(h:t.depth≤57):eqF S 60 (enc t) (enc t)=some true:=by
 rw [zlD 60 _ _ (by omega),zjk]
structure At (S0 S:Sto) (d o b:Addr) (xs:List Tr):Prop where
  d:b≠d
  o:b≠o
  e:S b=some (.lst (xs.map enc))
  z:S0 b=none
noncomputable abbrev Ats (S0 S:Sto) (d o:Addr) (bs:List Addr) (xss:List (List Tr)):Prop:=Paired (At S0 S d o) bs xss
theorem zkQ{t:Tr}{r:Nat}{S:Sto}{Q:WK}{X:Str→Sto→Prop}(hw:t.weight≤400) (hd:t.depth≤40) (h:Q (enc t) S):zaD (r+5) [enc t] S Q X:=by
 rw [show r+5=r+4+1 from rfl,zaD];walk_at "wp";refine zin (r:=r+3) (by omega) ?_;rw [zky hw hd]
 try walk_at "wp"
 exact⟨_, .refl,h⟩
section
variable {ws:List Str}{B:List Tn}{l1 l2 d o ρ:Addr}{r:Nat}{E:WX}{D:WEnds}{T:WS}{t:Tr}{xs os:List Tr}{S:Sto}{y0 y1 y2 y3 y4 y5 y6 y7:Option W}
theorem zti (hd:t.depth≤57) (h:T E D [y0,some (.tup [enc t, .ref l1]),some (.tup [enc t, .ref l2]),y3,y4,y5,y6,y7] S) :
  zdf r T E D [y0,some (.tup [enc t, .ref l1]),some (.tup [enc t, .ref l2]),y3,y4,y5,y6,y7] S:=by
 rw [zdf];walk_at "wp";rw [zgQ hd];exact h
theorem ztc (hw:t.weight≤400) (hd:t.depth≤40) (hr:60≤r) (h:T E D [y0,some (.tup [enc t, .ref l1]),y2,y3,y4,y5,y6,y7] S) :
  zdo r T E D [y0,some (.tup [enc t, .ref l1]),y2,y3,y4,y5,y6,y7] S:=by
 rw [zdo];walk_at "wp";obtain⟨r,rfl⟩:∃r',r=r'+5:=⟨r - 5,by omega⟩
 exact zkQ hw hd h
theorem ztM (h:∀d,S d=none→T E D [y0,y1,y2,some (.ref d),y4,y5,y6,y7] (put S d (.lst []))):zds r T E D [y0,y1,y2,y3,y4,y5,y6,y7] S:=by
 rw [zds];walk_at "wp";exact⟨Nat.zero_le _,h⟩
theorem ztP{vs:List W}(hl:S l2=some (.lst vs)) (h:∀ρ,S ρ=none→T E D [y0,y1,some (.tup [enc t, .ref l2]),y3,some (.ref ρ),y5,y6,y7] (put S ρ (.lst vs))):zdh r T E D [y0,y1,some (.tup [enc t, .ref l2]),y3,y4,y5,y6,y7] S:=by
 rw [zdh];walk_at "wp";show zbp S l2 fun ws=>∀ρ,S ρ=none→T E D [y0,y1,some (.tup [enc t, .ref l2]),y3,some (.ref ρ),y5,y6,y7] (put S ρ (.lst ws));rw [zaj hl];exact h
theorem ztH (h:∀o,S o=none→T E D [y0,y1,y2,y3,some (.ref ρ),some (.ref o),y6,y7] (put S o (.lst [.ref ρ]))):zdk r T E D [y0,y1,y2,y3,some (.ref ρ),y5,y6,y7] S:=by
 rw [zdk];walk_at "wp";exact⟨by decide,h⟩
theorem zrN{q:Addr}{vs:List W}(hd:S d=some (.lst vs)) (hn:vs.length≤1000) (h:T E D [y0,y1,y2,some (.ref d),y4,y5,y6,some (.ref q)] (put S d (.lst (vs++[.ref q])))) :
  zcp r T E D [y0,y1,y2,some (.ref d),y4,y5,y6,some (.ref q)] S:=by
 rw [zcp];walk_at "wp";rw [zaj hd,zaj hd];exact⟨trivial,zcP (by omega),h⟩
theorem zqY{vs:List W}(hd:S o=some (.lst vs)) (hn:vs.length≤1000) (h:D.nx [y0,y1,y2,y3,some (.ref ρ),some (.ref o),y6,y7] (put S o (.lst (vs++[.ref ρ])))) :
  zcx r E D [y0,y1,y2,y3,some (.ref ρ),some (.ref o),y6,y7] S:=by
 rw [zcx];walk_at "wp";rw [zaj hd,zaj hd];exact⟨trivial,zcP (by omega),h⟩
structure Grd (S0 S:Sto) (B:List Tn) (xs os:List Tr) (d o:Addr):Prop where
  sub:Sub S0 S
  d0:S0 d=none
  o0:S0 o=none
  ne:d≠o
  ex:∃ds rs,S d=some (.lst (ds.map W.ref))∧S o=some (.lst (rs.map W.ref))∧Ats S0 S d o ds (zpi B xs os)∧Ats S0 S d o rs (zqh B xs os)
end
noncomputable def opl (B:List Tn) (t:Tr):List (List Int):=(t.op B []).map fun x=>x.1
theorem Sh.hdT{ws:List Str}{B:List Tn}{t:Tr}(h:Sh ws B t):t.hd fun _=>True:=zgB (fun _ _=>trivial) _ h.wy.hd
theorem Sh.wn{ws:List Str}{B:List Tn}{t:Tr}(h:Sh ws B t) {wn:List (List Int)}(hw:∀q∈wn,q∈opl B t):ztJ B wn [] t:=by
 intro q hq e v he hv;rw [List.nil_append]at he;subst he;obtain⟨x,hx,rfl⟩:=List.mem_map.mp (hw q hq);rw [←ziA B t [] (zec _ h.hdT)]at hx;obtain⟨y,hy,hx⟩:=List.mem_flatMap.mp hx;unfold zpe at hx;obtain⟨u,hu,rfl⟩:=List.mem_map.mp hx;have:=(znY hy).1;rw [this]at hv;cases hv;cases e:zgt B y.2 with
 |none=>rw [e]at hu;cases hu
 |some _=>rfl
structure Rds (S:Sto) (ws:List Str) (B:List Tn) (ab:Addr) (t:Tr) (l1 l2:Addr) (xs os:List Tr):Prop where
  K:Bk2 ws B
  fb:S ab=some (.lst (B.map zdx))
  sh:Sh ws B t
  bd:Bd t 4
  f1:S l1=some (.lst (xs.map enc))
  f2:S l2=some (.lst (os.map enc))
  r1:Roa ws B t xs
  r2:Roa ws B t os
  n:nR B xs+nR B os≤4
  x3:xs.length≤3
  o3:os.length≤3
  hB:B.length≤1000
theorem Rds.symm{S:Sto}{ws:List Str}{B:List Tn}{ab:Addr}{t:Tr}{l1 l2:Addr}{xs os:List Tr}(h:Rds S ws B ab t l1 l2 xs os):Rds S ws B ab t l2 l1 os xs:=⟨h.K,h.fb,h.sh,h.bd,h.f2,h.f1,h.r2,h.r1,by have:=h.n;omega,h.o3,h.x3,h.hB⟩
mutual
noncomputable def Tr.wd:Tr→Prop
 | .bl _=>True
 | .nd _ ts=>ts.length≤1000∧wds ts
noncomputable def wds:List Tr→Prop
 | []=>True
 |t::ts=>t.wd∧wds ts
end
theorem wds_iff:∀{ts:List Tr},wds ts↔ ∀t∈ts,t.wd
 | []=>by simp [wds]
 |t::ts=>by simp [wds,wds_iff (ts:=ts)]
theorem zmY{t:Tr}(h:t.wd):t.kids.length≤1000:=by
 cases t with
 |bl n=>simp [Tr.kids]
 |nd s ts=>simpa [Tr.kids]using h.1
theorem znE{ts:List Tr}(h:∀x∈ts,x.wd):∀x∈ts.flatMap Tr.kids,x.wd:=fun x hx=>by
 obtain⟨t,ht,hk⟩:=List.mem_flatMap.mp hx;have:=h t ht;cases t with
 |bl n=>simp [Tr.kids]at hk
 |nd s us=>exact wds_iff.mp this.2 x (by simpa [Tr.kids]using hk)
theorem zeu{r:Nat}{a b:Addr}{ps:List W}{E:WX}{D:WEnds}{x0:Option W}(hba:b≠a):∀(ts:List Tr) {S:Sto}{us:List Tr}{x2:Option W},S a=some (.lst (zaw us))→S b=some (.lst ps)→(∀t∈ts,t.kids.length≤1000)→us.length+1000*ts.length≤500000→
  (∀x2,D.nx [x0,some (.ref a),x2] (put S a (.lst (zaw (us++ts.flatMap Tr.kids)))))→
  zcN (wGN 2) (zaM (r+1) zbD) E D (fun S'=>S' b=some (.lst ps)) (zaw ts) [x0,some (.ref a),x2] S
 | [],S,us,x2,ha,hb,hA,hl,h=>by
  have:=h x2;simp only[List.flatMap_nil,List.append_nil,zeI ha]at this;simpa [zaw,zcN]using this
 |t::ts,S,us,x2,ha,hb,hA,hl,h=>by
  simp only[List.length_cons]at hl;have hk:=hA t List.mem_cons_self;simp only[zaw];refine zbm fun N hN=>?_;simp only[zaM];walk_at "wp";simp only[zaj ha,true_and];refine zhk ?_;walk_at "wp";rw [zaj ha];refine⟨zai (by rw [zbd,zbd];omega),hN _ _ _ .refl (by rw [zaB hba];exact hb) ?_⟩;rw [←zcU];refine zeu hba ts zaf (by rw [zaB hba];exact hb) (fun u hu=>hA u (List.mem_cons_of_mem _ hu)) (by rw [List.length_append];omega) fun x2=>?_;rw [zbx];have:=h x2;rw [List.flatMap_cons,←List.append_assoc]at this;exact this
theorem zgj{ts:List Tr}{b:Addr}{r:Nat}{S:Sto}{Q:WK}{E:Str→Sto→Prop}(hb:S b=some (.lst (zaw ts))) (hA:∀t∈ts,t.kids.length≤1000) (hw:ts.length≤400) (h:∀a,S a=none→Q (.ref a) (put S a (.lst (zaw (ts.flatMap Tr.kids))))):zaE (r+2) [.ref b] S Q E:=by
 rw [zaE];walk_at "wp";refine⟨Nat.zero_le _,fun a ha=>?_⟩;have hba:=zlH hb ha;rw [zaj (keep hb ha)];refine zeu (us:=[]) hba ts (by simp [zaf,zaw]) (keep hb ha) hA (by simp;omega) fun x2=>?_;rw [zbx];walk_at "wp";exact⟨_, .refl,h a ha⟩
theorem zei{t:Tr}{r:Nat}{S:Sto}{Q:WK}{E:Str→Sto→Prop}(hA:t.wd) (h:Q (.bl t.small) S):zbl (r+3) [enc t] S Q E:=by
 rw [zbl];walk_at "wp";refine⟨zai (by decide),fun a ha=>?_⟩;refine⟨fun m σ S'=>∃(ts:List Tr) (k d:Nat) (b:Addr),m=wts ts∧(∀x∈ts,x.wd)∧k+wts ts=t.weight∧d+dts ts=t.depth∧k≤400∧d≤40∧S b=none∧S'=put S b (.lst (zaw ts))∧σ=[some (enc t),some (.int k),some (.int d),some (.ref b)],⟨_,[t],0,0,a,rfl,(fun x hx=>by rw [List.mem_singleton.mp hx];exact hA),by simp [wts],by simp [dts],by decide,by decide,ha,by simp [zaw],rfl⟩,?_⟩
 rintro m σ S' ⟨ts,k,d,b,rfl,hds,hwt,hk,hk4,hd4,hb,rfl,rfl⟩;walk_at "wp";cases ts with
 |nil=>
  simp only[zaw,List.isEmpty_nil];walk_at "wp";simp only[dts,wts,Nat.add_zero]at hk hwt;have e:t.small=true:=by unfold Tr.small;rw [decide_eq_true (by omega),decide_eq_true (by omega)];rfl
  rw [e]at h;exact⟨_, .put .refl hb,h⟩
 |cons u us=>
  have hne:(zaw (u::us)).isEmpty=false:=by simp [zaw]
  rw [hne];have hfl:=zfg (u::us);have hdf:=zfn (ts:=u::us) (by simp);have hlw:=zcg (u::us);simp only[zcm];walk_at "wp";rw [zbd];have no:400<t.weight∨40<t.depth→ ∃S'',Sub S'' (put S b (Ob.lst (zaw (u::us))))∧Q (W.bl false) S'':=fun z=>by
   have e:t.small=false:=by
    unfold Tr.small;rcases z with z |z
    ·rw [decide_eq_false (by omega)];rfl
    ·rw [decide_eq_false (p:=t.depth≤40) (by omega),Bool.and_false]
   rw [e]at h;exact⟨_, .put .refl hb,h⟩
  split
  ·exact no (.inl (by omega))
  ·split
   ·exact no (.inr (by omega))
   ·refine zgj zaf (fun x hx=>zmY (hds x hx)) (by omega) fun c hc=>?_;obtain⟨hc1,hc2⟩:=zdr hc;refine⟨wts ((u::us).flatMap Tr.kids),put S c (.lst (zaw ((u::us).flatMap Tr.kids))),by simp only[List.length_cons]at hfl;omega, .put2 (.put .refl hb),_,k+(u::us).length,d+1,c,rfl,znE hds,by omega,by omega,by omega,by omega,hc1,rfl,?_⟩
    push_cast
    rfl
structure SidesW (g:Tn→Tr) (B:List Tn):Prop where
  fits:∀t∈B,(g t).fits t.2.1.nb
  dp:∀t∈B,(g t).depth≤4
  wt:∀t∈B,(g t).weight≤20
section
variable {S:Sto}{a:Addr}{B:List Tn}{n:Int}
theorem zeg (ha:S a=some (.lst (B.map zdx))) (hn:n=1∨n=2) (hg:SidesW (zah n) B):∀(d:Nat) {t:Tr}{r:Nat}{Q:WK}{E:Str→Sto→Prop},t.depth≤d→d+10≤r→t.ar B→t.weight≤1000→Q (enc (t.mk B (zah n))) S→zaQ (r+1) [.ref a,enc t, .int n] S Q E
 |0,t,r,Q,E,hd,hr,hh,hw,h=>by have:=zdq t;omega
 |d+1, .bl k,r,Q,E,hd,hr,hh,hw,h=>by simp [Tr.ar]at hh
 |d+1, .nd s ts,r,Q,E,hd,hr,hh,hw,h=>by
  simp only[Tr.depth]at hd;simp only[Tr.weight]at hw;simp only[Tr.ar]at hh;have hk:=zcg ts;obtain⟨r,rfl⟩:∃r',r=r'+1:=⟨r - 1,by omega⟩
  rw [zaQ];simp only[enc];walk_at "wp";rw [zaX];refine zbB (fun σ=>∃x,σ=[x,some (.ref a),some (.int n)]) enc (fun t=>enc (t.mk B (zah n))) trivial ts [] _ ⟨none,rfl⟩ (by simp;omega) (fun x hx σ R hI hR=>?_) ?_
  ·obtain⟨y,rfl⟩:=hI;have hdx:=zfi hx;have hwx:=zex hx;simp only[zcD];walk_at "wp";exact zeg ha hn hg d (by omega) (by omega) (ars_iff.mp hh.2 x hx) (by omega) (hR _ _ ⟨_,rfl⟩ .refl)
  ·rw [List.nil_append];intro q hq;have eu:(ts.map fun t=>enc (t.mk B (zah n)))=zaw (ts.map (Tr.mk B (zah n))):=by rw [zaX,List.map_map];rfl
   rw [eu];have fq:put S q (Ob.lst (zaw (ts.map (Tr.mk B (zah n))))) q=some (.lst (zaw (ts.map (Tr.mk B (zah n))))):=zaf;have fa:=keep (x:=Ob.lst (zaw (ts.map (Tr.mk B (zah n))))) ha hq;have sub:Sub S (put S q (Ob.lst (zaw (ts.map (Tr.mk B (zah n)))))):= .put .refl hq;generalize put S q (Ob.lst (zaw (ts.map (Tr.mk B (zah n)))))=S1 at fq fa sub⊢;refine zdX fa ?_;cases e:zaL B s with
   |none=>
    rw [zfc e]at h;simp only[zdj]
    try walk_at "wp"
    try rw [zaj fq]
    rw [zbd,List.length_map];simp only[enc]at h;exact⟨zai (by decide),zai (by omega),_,sub,h⟩
   |some t=>
    have ht:t∈B:=List.mem_of_find?_eq_some e;have ee:zdj (some t)= .tup [.str t.1,enc t.2.1,enc t.2.2]:=rfl;rw [zdt e]at h;rw [ee]
    try walk_at "wp"
    rw [zmK t hn];dsimp only;have hgw:=hg.wt t ht;exact zeq 4 (hg.dp t ht) (by omega) fq (by rw [List.length_map,hh.1 t e];exact hg.fits t ht) (by omega) ⟨_,sub,h⟩
theorem zbV{t:Tr}{r:Nat}{Q:WK}{E:Str→Sto→Prop}(ha:S a=some (.lst (B.map zdx))) (hg:SidesW (zah 1) B) (hd:t.depth≤40) (hr:60≤r) (hh:t.ar B) (hw:t.weight≤1000) (hwd:(t.mk B (zah 1)).wd)
  (h1:(t.mk B (zah 1)).small=true→Q (enc (t.mk B (zah 1))) S) (h2:(t.mk B (zah 1)).small=false→E "TooGreat" S):zdp (r+1) [.ref a,enc t] S Q E:=by
 obtain⟨r,rfl⟩:∃r',r=r'+5:=⟨r - 5,by omega⟩
 rw [zdp];walk_at "wp";refine zeg ha (.inl rfl) hg 40 (r:=r+4) hd (by omega) hh hw ?_;rw [zaD];walk_at "wp";refine zei (r:=r+1) hwd ?_;cases e:(t.mk B (zah 1)).small with
 |true=>
  try walk_at "wp"
  exact⟨_, .refl,_, .refl,h1 e⟩
 |false=>
  try walk_at "wp"
  try rw [zdQ]
  try walk_at "wp"
  exact⟨zai (by decide),h2 e⟩
theorem zdc{t:Tr}{r:Nat}{Q:WK}{E:Str→Sto→Prop}(ha:S a=some (.lst (B.map zdx))) (hg:SidesW (zah 2) B) (hd:t.depth≤40) (hr:60≤r) (hh:t.ar B) (hw:t.weight≤1000) (hwd:(t.mk B (zah 2)).wd)
  (h1:(t.mk B (zah 2)).small=true→Q (enc (t.mk B (zah 2))) S) (h2:(t.mk B (zah 2)).small=false→E "TooGreat" S):zeM (r+1) [.ref a,enc t] S Q E:=by
 obtain⟨r,rfl⟩:∃r',r=r'+5:=⟨r - 5,by omega⟩
 rw [zeM];walk_at "wp";refine zeg ha (.inr rfl) hg 40 (r:=r+4) hd (by omega) hh hw ?_;rw [zaD];walk_at "wp";refine zei (r:=r+1) hwd ?_;cases e:(t.mk B (zah 2)).small with
 |true=>
  try walk_at "wp"
  exact⟨_, .refl,_, .refl,h1 e⟩
 |false=>
  try walk_at "wp"
  try rw [zdQ]
  try walk_at "wp"
  exact⟨zai (by decide),h2 e⟩
end
theorem zeS (us:List Tr):∀ts:List Tr,fills us ts=ts.map (Tr.fill us)
 | []=>by simp [fills]
 |t::ts=>by rw [fills,zeS us ts];rfl
noncomputable def tiA:Str:=Str.ofString "A"
theorem zlb:zbL tiA:=⟨65,[],by decide +kernel,by decide,by decide,by decide,fun _ h=>nomatch h⟩
mutual
theorem zhu{B:List Tn}(hB:∀t∈B,zbL t.1):∀t:Tr,t.hd zbk→t.ar B
 | .bl n,h=>by simp [Tr.hd]at h
 | .nd s ts,h=>by
  simp only[Tr.hd]at h;simp only[Tr.ar];exact⟨fun t ht=>(by rw [zaA hB h.1]at ht;cases ht),zfA hB ts h.2⟩
theorem zfA{B:List Tn}(hB:∀t∈B,zbL t.1):∀ts:List Tr,hds zbk ts→ars B ts
 | [],h=>by simp [ars]
 |t::ts,h=>by
  simp only[hds]at h;simp only[ars];exact⟨zhu hB t h.1,zfA hB ts h.2⟩
end
mutual
theorem zlT:∀t:Tr,t.weight≤1000→t.wd
 | .bl n,h=>trivial
 | .nd s ts,h=>by
  rw [Tr.weight]at h;have:=zcg ts;exact⟨by omega,zmm ts (by omega)⟩
theorem zmm:∀ts:List Tr,wts ts≤1000→wds ts
 | [],h=>trivial
 |t::ts,h=>by
  rw [wts]at h;exact⟨zlT t (by omega),zmm ts (by omega)⟩
end
mutual
theorem zhc{u:Tr}(hu:u.wd):∀t:Tr,t.weight≤1000→(t.fill [u]).wd
 | .bl n,h=>by
  rw [Tr.fill];rcases Nat.eq_zero_or_pos n.toNat with z |z
  ·rw [z];exact hu
  ·obtain⟨m,hm⟩:∃m,n.toNat=m+1:=⟨n.toNat - 1,by omega⟩
   rw [hm];exact trivial
 | .nd s ts,h=>by
  rw [Tr.weight]at h;have:=zcg ts;rw [Tr.fill];refine⟨?_,zhV hu ts (by omega)⟩;rw [zeS,List.length_map];omega
theorem zhV{u:Tr}(hu:u.wd):∀ts:List Tr,wts ts≤1000→wds (fills [u] ts)
 | [],h=>by rw [fills];exact trivial
 |t::ts,h=>by
  rw [wts]at h;rw [fills];exact⟨zhc hu t (by omega),zhV hu ts (by omega)⟩
end
noncomputable def tiB:Str:=Str.ofString "B"
theorem zko:zbL tiB:=⟨66,[],by decide +kernel,by decide,by decide,by decide,fun _ h=>nomatch h⟩
theorem zsp:tiA≠tiB:=by decide +kernel
noncomputable def tnA (w0 w4:Str):Tn:=(tiA, .nd w0 [.bl 0], .nd w4 [.bl 0, .bl 0])
noncomputable def tnB (w1 w2 w3 w4:Str):Tn:=(tiB, .nd w1 [.nd w4 [.nd w2 [], .nd w2 [], .nd w2 [], .nd w2 [], .nd w2 [], .nd w2 [], .nd w2 [], .nd w2 [], .nd w2 []], .bl 0], .nd w3 [.bl 0])
noncomputable def bkK (w0 w1 w2 w3 w4:Str):List Tn:=[tnA w0 w4,tnB w1 w2 w3 w4]
noncomputable def stk (x:Tr):List Str→Tr
 | []=>x
 |h::hs=> .nd h [stk x hs]
noncomputable def bas (w2 w5:Str) (n:Nat):Tr:= .nd w5 (List.replicate n (.nd w2 []))
theorem zkj (w:Str):∀n:Nat,wts (List.replicate n (.nd w []))=n
 |0=>rfl
 |n+1=>by rw [List.replicate_succ,wts,zkj w n,Tr.weight,wts];omega
theorem zjg (w:Str):∀n:Nat,dts (List.replicate n (.nd w []))≤1
 |0=>by simp [dts]
 |n+1=>by have:=zjg w n;rw [List.replicate_succ,dts,Tr.depth,dts];omega
theorem zcH (w2 w5:Str) (n:Nat):(bas w2 w5 n).weight=n+1:=by rw [bas,Tr.weight,zkj];omega
theorem zdi (w2 w5:Str) (n:Nat):(bas w2 w5 n).depth≤2:=by rw [bas,Tr.depth];have:=zjg w2 n;omega
theorem zmB{w2 w5:Str}(h2:zbk w2) (h5:zbk w5) (n:Nat):(bas w2 w5 n).hd zbk:=⟨h5,zkR h2 _⟩
theorem zmx (x:Tr):∀hs,(stk x hs).weight=hs.length+x.weight
 | []=>by simp [stk]
 |h::hs=>by rw [stk,Tr.weight,wts,wts,zmx x hs,List.length_cons];omega
theorem zmy (x:Tr):∀hs,(stk x hs).depth=hs.length+x.depth
 | []=>by simp [stk]
 |h::hs=>by rw [stk,Tr.depth,dts,dts,zmy x hs,List.length_cons];omega
theorem zlX{P:Str→Prop}{x:Tr}(hx:x.hd P):∀hs:List Str,(∀h∈hs,P h)→(stk x hs).hd P
 | [],_=>hx
 |h::hs,hh=>⟨hh h List.mem_cons_self,zlX hx hs (fun y hy=>hh y (List.mem_cons_of_mem _ hy)),trivial⟩
section
variable {w0 w1 w2 w3 w4:Str}
theorem zlZ{P:Tn→Prop}(h1:P (tnA w0 w4)) (h2:P (tnB w1 w2 w3 w4)):∀t∈bkK w0 w1 w2 w3 w4,P t:=fun t ht=>by
 rcases List.mem_cons.mp ht with rfl |ht
 ·exact h1
 ·rw [List.mem_singleton.mp ht];exact h2
theorem hBK:∀t∈bkK w0 w1 w2 w3 w4,zbL t.1:=zlZ zlb zko
theorem zqt:(tiA == tiB)=false:=by simpa using zsp
theorem tuA:zaL (bkK w0 w1 w2 w3 w4) tiA=some (tnA w0 w4):=by
 unfold zaL bkK;rw [List.find?_cons];simp [tnA]
theorem tuB:zaL (bkK w0 w1 w2 w3 w4) tiB=some (tnB w1 w2 w3 w4):=by
 unfold zaL bkK;rw [List.find?_cons,List.find?_cons];simp [tnA,tnB,zqt]
theorem sK1:SidesW (zah 1) (bkK w0 w1 w2 w3 w4):=⟨zlZ (by simp [zah,tnA,Tr.fits,fitss,Tr.nb,nbs]) (by simp [zah,tnB,Tr.fits,fitss,Tr.nb,nbs]),zlZ (by simp [zah,tnA,Tr.depth,dts]) (by simp [zah,tnB,Tr.depth,dts]),zlZ (by simp [zah,tnA,Tr.weight,wts]) (by simp [zah,tnB,Tr.weight,wts])⟩
theorem sK2:SidesW (zah 2) (bkK w0 w1 w2 w3 w4):=⟨zlZ (by simp [zah,tnA,Tr.fits,fitss,Tr.nb,nbs]) (by simp [zah,tnB,Tr.fits,fitss,Tr.nb,nbs]),zlZ (by simp [zah,tnA,Tr.depth,dts]) (by simp [zah,tnB,Tr.depth,dts]),zlZ (by simp [zah,tnA,Tr.weight,wts]) (by simp [zah,tnB,Tr.weight,wts])⟩
theorem mvK:∀t∈bkK w0 w1 w2 w3 w4,t.2.1.depth≤4∧t.2.1.weight≤100∧t.2.2.depth≤4∧t.2.2.weight≤100∧t.2.2.fits t.2.1.nb:=zlZ (by simp [tnA,Tr.depth,dts,Tr.weight,wts,Tr.fits,fitss,Tr.nb,nbs]) (by simp [tnB,Tr.depth,dts,Tr.weight,wts,Tr.fits,fitss,Tr.nb,nbs])
theorem mtA (y:Tr):(tnA w0 w4).2.1.mt (.nd w0 [y])=some [y]:=by simp [tnA,Tr.mt,mts]
noncomputable def HdK (h:Str):Prop:=h=tiA∨h=tiB∨zbk h
theorem zmD{x:Tr}(hx:x.hd zbk):∀hs:List Str,(∀h∈hs,HdK h)→(stk x hs).ar (bkK w0 w1 w2 w3 w4)
 | [],_=>zhu hBK x hx
 |h::hs,hh=>by
  rw [stk];simp only[Tr.ar,ars,and_true];refine⟨fun u hu=>?_,zmD hx hs fun y hy=>hh y (List.mem_cons_of_mem _ hy)⟩;rcases hh h List.mem_cons_self with e |e |z
  ·rw [e,tuA]at hu;cases hu;simp [tnA,Tr.nb,nbs]
  ·rw [e,tuB]at hu;cases hu;simp [tnB,Tr.nb,nbs]
  ·rw [zaA hBK z]at hu;cases hu
theorem zjR{x:Tr}(hx:x.hd zbk) (hw:x.weight≤1000) {g:Tn→Tr}(gA:(g (tnA w0 w4)).weight≤1000) (gB:(g (tnB w1 w2 w3 w4)).weight≤1000):∀hs:List Str,(∀h∈hs,HdK h)→((stk x hs).mk (bkK w0 w1 w2 w3 w4) g).wd
 | [],_=>by rw [stk,zdT hBK x hx];exact zlT x hw
 |h::hs,hh=>by
  have ih:=zjR hx hw gA gB hs fun y hy=>hh y (List.mem_cons_of_mem _ hy);rw [stk];rcases hh h List.mem_cons_self with e |e |z
  ·rw [e,zdt tuA];exact zhc ih _ gA
  ·rw [e,zdt tuB];exact zhc ih _ gB
  ·rw [zfc (zaA hBK z)];exact⟨by simp,ih,trivial⟩
theorem zfJ{x:Tr}:∀k,11*k≤((stk x (List.replicate k tiB)).mk (bkK w0 w1 w2 w3 w4) (zah 1)).weight
 |0=>by omega
 |k+1=>by
  have ih:=zfJ (x:=x) k;rw [List.replicate_succ,stk,zdt tuB];simp [zah,tnB,Tr.fill,fills,Tr.weight,wts];omega
theorem zms{B:List Tn}(hB:∀t∈B,zbL t.1) {w:Str}(h:zbk w):∀n:Nat,Mvs B 1 (List.replicate n (.nd w [])) (List.replicate n (.nd w [])) (List.replicate n (.nd w []))
 |0=> .nil
 |n+1=>by
  rw [List.replicate_succ];exact .cons (.nn (zaA hB h) (zaA hB h) .nil) (zms hB h n)
structure Fit (B:List Tn) (X:Tr):Prop where
  dp:X.depth≤40
  wt:X.weight≤1000
  ar:X.ar B
  w1:(X.mk B (zah 1)).wd
  w2:(X.mk B (zah 2)).wd
  hd:X.hd fun _=>True
end
section
variable {ws:List Str}{B:List Tn}
noncomputable def zrE (B:List Tn) (wn:List (List Int)) (p:List Int) (t:Tr):Prop:=∀e v,t.at e=some v→(p++e∈wn↔(zgt B v).isSome=true)
theorem Sh.all{t:Tr}(h:Sh ws B t):zrE B (opl B t) [] t:=fun e v hv=>by
 have ft:=zec (m:=0) _ h.hdT;rw [List.nil_append];constructor
 ·intro he;exact h.wn (fun q hq=>hq) e he e v (by simp) hv
 ·intro ho;obtain⟨u,ho⟩:=Option.isSome_iff_exists.mp ho;have m:=zmo t [] e v hv;rw [List.nil_append]at m;unfold opl;rw [←ziA B t [] ft];refine List.mem_map.mpr ⟨(e,u.1),List.mem_flatMap.mpr ⟨(e,v),m,?_⟩,rfl⟩;unfold zpe;rw [ho];simp
structure Ful (ws:List Str) (B:List Tn) (t u:Tr):Prop where
  wi:Wi B (opl B t) t.depth [] t u
  sr:src B u=t
  wy:Wy ws B u
  us:u.us B []=t.op B []
open Classical in
noncomputable def fw (ws:List Str) (B:List Tn) (t:Tr):Tr:=if h:∃u,Ful ws B t u then choose h else t
noncomputable def hh (ws:List Str) (B:List Tn) (t:Tr):Nat→Tr
 |0=>t
 |k+1=>gol B (fw ws B (hh ws B t k))
noncomputable def wys (ws:List Str) (B:List Tn) (t:Tr) (k:Nat):List Tr:=(List.range k).map fun i=>fw ws B (hh ws B t i)
end
structure WyF (ws:List Str) (B:List Tn) (x u:Tr):Prop where
  f:Ful ws B x u
  wt:u.weight≤400
  dp:u.depth≤40
  ar:u.ar B
  hd:u.hd fun _=>True
  wd:(u.mk B (zah 2)).wd
section
variable {ws:List Str}{B:List Tn}
theorem zrj (b:BkOk ws ws B) (O:Ort B) {t:Tn}(ht:t∈B) {x:Tr}{us:List Tr}(hx:Wy ws B x) (hl:us.length=t.2.1.nb) (h:src B x=t.2.1.fill us) :
  ∃(m:Nat) (vs:List Tr),m≤1∧x=evT t m vs∧vs.map (src B)=us∧(∀y∈vs,Wy ws B y)∧wts vs+1≤x.weight:=by
 rcases hx.cases b with⟨s,as,rfl,hs,es,ka⟩ |⟨u,as,hu,rfl,eu,la,ka⟩
 ·obtain⟨vs,ev,lv,ms,kv,wv⟩:=zgH b O ht es hx hl h;have hm:=O.mt t ht vs lv;rw [←ev]at hm;obtain⟨s0,ls,e0,_⟩:=O.inn t ht;rw [e0,Tr.mt]at hm;split at hm
  ·have:=zdA _ _ _ hm;exact⟨0,vs,by omega,ev,ms,kv,by rw [zmu];omega⟩
  ·cases hm
 ·rw [show src B (.nd u.1 as)=_ from ziW eu]at h;have m1:=O.mt t ht us hl;have m2:=O.mt u hu (as.map (src B)) (by rw [List.length_map,la]);have:u=t:=O.one u hu t ht _ (by rw [m2];rfl) (by rw [show u.2.1.fill (as.map (src B))=_ from h,m1];rfl)
  subst this;rw [show u.2.1.fill (as.map (src B))=_ from h,m1]at m2;exact⟨1,as,by omega,rfl,(Option.some.inj m2).symm,ka,by rw [zmu];omega⟩
end
structure Pw (w0 w1 w2 w3 w4 w5:Str) (tt:List Str) (B:List Tn) (p:Pl):Prop where
  b:BookOk w0 w1 w2 w3 w4 w5 tt B
  T:Titles tt
  G:Signs w0 w1 w2 w3 w4 w5
  o:PlOk [w2,w3,w4,w5] B p
  w:p.wt≤23
  n:p.nt≤4
section
variable {w0 w1 w2 w3 w4 w5:Str}{tt:List Str}{B:List Tn}{p:Pl}
theorem Pw.k (u:Pw w0 w1 w2 w3 w4 w5 tt B p):BkOk [w0,w1,w2,w3,w4,w5] [w2,w3,w4,w5] B:=u.b.bk u.T u.G
theorem Pw.nd (u:Pw w0 w1 w2 w3 w4 w5 tt B p):(B.map fun t=>t.1).Nodup:=u.k.nd
end
section
variable {ws:List Str}{B:List Tn}{x y:Tr}
structure Cel (ws:List Str) (B:List Tn) (x y:Tr):Prop where
  K:Bk3 ws B
  wx:Wy ws B x
  wy:Wy ws B y
  e:src B x=src B y
  sm:(src B y).small=true
theorem Cel.symm (h:Cel ws B x y):Cel ws B y x:=⟨h.K,h.wy,h.wx,h.e.symm,by rw [h.e];exact h.sm⟩
end
section
variable {B:List Tn}
structure Lfs (B:List Tn):Prop where
  op:∀t∈B,∀us:List Tr,us.length=t.2.1.nb→zgt B (t.2.1.fill us)=some t
  lf:∀t∈B,∃n h c d,t.2.1∈zcn n h c d
end
structure Ms where
  c0:Nat
  c1:Nat
  k:Tn→Nat→Nat
section
noncomputable def zau (x:Tr×Bool):W:= .tup [enc x.1, .bl x.2]
end
noncomputable def lTG:List W:=[.bl true, .bl false, .bl false, .bl false, .bl false, .bl false]
noncomputable def lAP:List W:=[.bl false, .bl true, .bl false, .bl false, .bl false, .bl false]
section
variable {w2 w5:Str}{hs:List Str}{n:Nat}
theorem zkq (n:Nat):enc (bas w2 w5 n)= .tup (.str w5::List.replicate n (.tup [.str w2])):=by
 rw [bas,show enc (.nd w5 (List.replicate n (.nd w2 [])))= .tup (.str w5::zaw (List.replicate n (.nd w2 []))) by simp [enc],zaX,List.map_replicate]
 simp [enc,zaw]
theorem zek (x:W):∀n:Nat,(List.replicate n [x]).flatten=List.replicate n x
 |0=>rfl
 |n+1=>by rw [List.replicate_succ,List.flatten_cons,zek x n,List.replicate_succ];rfl
theorem zoe (x:Tr) (h:Str) (hs:List Str):enc (stk x (h::hs))= .tup [.str h,enc (stk x hs)]:=by simp [stk,enc,zaw]
end
section
variable {B:List Tn}{a l l1 l2:Addr}{r:Nat}{S:Sto}{x o z z' t:Tr}{Q:WK}{X:Str→Sto→Prop}
theorem cg1 (ha:S a=some (.lst (B.map zdx))) (hg:SidesW (zah 2) B) (f:Fit B x) (hl:S l=some (.lst [enc x])) (hr:60≤r) (h:(x.mk B (zah 2)).small=true→Q .non S) (hE:(x.mk B (zah 2)).small=false→X "TooGreat" S):zaJ (r+2) [.ref a, .ref l] S Q X:=by
 rw [show r+2=r+1+1 from rfl,zaJ];walk_at "wp";rw [zaj hl];refine zbm fun N hN=>?_;rw [zkM,zcs];walk_at "wp";exact zdc ha hg f.dp (by omega) f.ar f.wt f.w2 (fun e=>hN _ _ _ .refl hl ⟨_, .refl,h e⟩) hE
theorem ma1 (ha:S a=some (.lst (B.map zdx))) (hg:SidesW (zah 2) B) (hB:∀t∈B,t.2.1.depth≤4∧t.2.1.weight≤100∧t.2.2.depth≤4∧t.2.2.weight≤100∧t.2.2.fits t.2.1.nb) (fx:Fit B x) (fo:Fit B o) (fz:Fit B z) (M:Mv B 20 x o z) (hl:S l=some (.lst [enc o])) (hr:66≤r)
  (h:(z.mk B (zah 2)).small=true→ ∀S' q,Sub S S'→S q=none→S' q=some (.lst [enc x,enc z])→Q (.ref q) S') (hE:(z.mk B (zah 2)).small=false→ ∀S',Sub S S'→X "TooGreat" S'):zbi (r+1) [.ref a,enc x, .ref l] S Q X:=by
 obtain⟨r,rfl⟩:∃r',r=r'+2:=⟨r - 2,by omega⟩
 rw [zbi,zhA];refine⟨rfl,?_⟩;rw [zbf];walk_at "wp";refine⟨by decide,fun q hq=>?_⟩;rw [zbg];walk_at "wp";rw [zaj (keep hl hq)];have s1:Sub S (put S q (.lst [enc x])):= .put .refl hq;have fq:put S q (.lst [enc x]) q=some (.lst [enc x]):=zaf;generalize put S q (.lst [enc x])=S1 at s1 fq⊢;refine zbm fun N hN=>?_;rw [zkM,zbA,zaZ];walk_at "wp";rw [zaj fq,show atI [enc x] (-1)=some (enc x) from rfl];refine zfr hB 20 (s1 _ _ ha) M (by omega) fx.hd fo.hd fx.wt fo.wt ?_;rw [zba];walk_at "wp";refine⟨by decide,fun g hg'=>?_⟩;refine cg1 (keep (s1 _ _ ha) hg') hg fz zaf (by omega) (fun e=>?_) fun e=>hE e _ (s1.trans (.put .refl hg'));rw [zaY];walk_at "wp";have fq2:=keep (x:=Ob.lst [enc z]) fq hg';have s2:Sub S (put S1 g (.lst [enc z])):=s1.trans (.put .refl hg');generalize put S1 g (.lst [enc z])=S2 at s2 fq2⊢;rw [zaj fq2,zaj fq2];have s3:Sub S (put S2 q (.lst ([enc x]++[enc z]))):= .put s2 hq;refine⟨trivial,zcP (by simp),hN _ _ _ .refl (s3 _ _ hl) ?_⟩;simp only[zcN];rw [zbe];walk_at "wp";exact⟨_, .refl,h e _ q s3 hq zaf⟩
theorem zqL (ha:S a=some (.lst (B.map zdx))) (hg:SidesW (zah 2) B) (hB:∀t∈B,t.2.1.depth≤4∧t.2.1.weight≤100∧t.2.2.depth≤4∧t.2.2.weight≤100∧t.2.2.fits t.2.1.nb) (fx:Fit B x) (fo:Fit B o) (fz:Fit B z) (M1:Mv B 20 x o z) (M2:Mv B 20 o x z') (h1:S l1=some (.lst [enc x])) (h2:S l2=some (.lst [enc o])) (gx:(x.mk B (zah 2)).small=true) (go:(o.mk B (zah 2)).small=true) (tw:t.weight≤400) (td:t.depth≤40) (hr:70≤r)
  (h:(z.mk B (zah 2)).small=true→ ∀S' d ov ln ρ0 ρ1,Sub S S'→S' d=some (.lst [.ref ln])→S' ln=some (.lst [enc x,enc z])→S' ov=some (.lst [.ref ρ0, .ref ρ1])→S' ρ1=some (.lst [enc z'])→Q (.tup [.ref d, .ref ov]) S') (hE:(z.mk B (zah 2)).small=false→ ∀S',Sub S S'→X "TooGreat" S'):zfL (r+1) [.ref a, .tup [enc t, .ref l1], .tup [enc t, .ref l2]] S Q X:=by
 obtain⟨r,rfl⟩:∃r',r=r'+3:=⟨r - 3,by omega⟩
 rw [zfL,zhA];refine⟨rfl,?_⟩;refine zti (by omega) (ztc tw (by omega) (by omega) ?_);rw [zdO];walk_at "wp";rw [show atI [enc t,W.ref l1] 1=some (.ref l1) from rfl]
 try walk_at "wp"
 refine cg1 (r:=r+1) ha hg fx h1 (by omega) (fun _=>?_) fun e=>(by rw [gx]at e;cases e);rw [zdN];walk_at "wp";rw [show atI [enc t,W.ref l2] 1=some (.ref l2) from rfl]
 try walk_at "wp"
 refine cg1 (r:=r+1) ha hg fo h2 (by omega) (fun _=>?_) fun e=>(by rw [go]at e;cases e);refine ztM fun d hd=>ztP (keep h2 hd) fun ρ hρ=>ztH fun ov h0=>?_;have ρd:ρ≠d:=by rintro rfl;rw [zaf]at hρ;cases hρ
 have od:ov≠d:=by rintro rfl;rw [zaB ρd.symm,zaf]at h0;cases h0
 have oρ:ov≠ρ:=by rintro rfl;rw [zaf]at h0;cases h0
 have dS:S d=none:=hd;have oS:S ov=none:=by rw [zaB oρ,zaB od]at h0;exact h0
 have sb:Sub S (put (put (put S d (.lst [])) ρ (.lst [enc o])) ov (.lst [.ref ρ])):=(Sub.put .refl hd).trans ((Sub.put .refl hρ).trans (.put .refl h0));have fd:put (put (put S d (.lst [])) ρ (.lst [enc o])) ov (.lst [.ref ρ]) d=some (.lst []):=by rw [zaB od.symm,zaB ρd.symm,zaf]
 have fρ:put (put (put S d (.lst [])) ρ (.lst [enc o])) ov (.lst [.ref ρ]) ρ=some (.lst [enc o]):=by rw [zaB oρ.symm,zaf]
 have fov:put (put (put S d (.lst [])) ρ (.lst [enc o])) ov (.lst [.ref ρ]) ov=some (.lst [.ref ρ]):=zaf;generalize put (put (put S d (.lst [])) ρ (.lst [enc o])) ov (.lst [.ref ρ])=S1 at sb fd fρ fov⊢;rw [zdU];walk_at "wp";rw [show atI [enc t,W.ref l1] 1=some (.ref l1) from rfl]
 try walk_at "wp"
 rw [zaj (sb _ _ h1)];refine zbm fun N hN=>?_;rw [zkM,zeW,zdg];walk_at "wp";refine ma1 (r:=r+2) (sb _ _ ha) hg hB fx fo fz M1 fρ (by omega) (fun e S2 q s2 q0 fq=>?_) fun e S2 s2=>hE e S2 (sb.trans s2);rw [zdd];walk_at "wp";rw [zaj (s2 _ _ fρ),zaj fq];have pz:zbQ [enc o] [enc x,enc z]=[(o,x)].map fun p:Tr×Tr=>W.tup [enc p.1,enc p.2]:=rfl;rw [pz];refine zbB (fun σ=>∃u v,σ=[u,v,some (.ref a)]) (fun p:Tr×Tr=> .tup [enc p.1,enc p.2]) (fun _=>enc z') ⟨s2 _ _ fρ,fq⟩ [(o,x)] [] _ ⟨none,none,rfl⟩ (by simp) (fun p hp σ R hI hR=>?_) ?_
 ·obtain⟨u,v,rfl⟩:=hI;simp only[List.mem_singleton]at hp;subst hp;simp only[zhv];walk_at "wp";exact zfr hB 20 (r:=r+2) (s2 _ _ (sb _ _ ha)) M2 (by omega) fo.hd fx.hd fo.wt fx.wt (hR _ _ ⟨_,_,rfl⟩ .refl)
 ·intro ρ1 hρ1;have s3:Sub S2 (put S2 ρ1 (.lst ([]++[(o,x)].map fun _=>enc z'))):= .put .refl hρ1;have f1:put S2 ρ1 (.lst ([]++[(o,x)].map fun _=>enc z')) ρ1=some (.lst [enc z']):=zaf;have fd3:=s3 _ _ (s2 _ _ fd);have fov3:=s3 _ _ (s2 _ _ fov);have fq3:=s3 _ _ fq;have qd:q≠d:=by rintro rfl;rw [fd]at q0;cases q0
  have qo:q≠ov:=by rintro rfl;rw [fov]at q0;cases q0
  have rd:ρ1≠d:=by rintro rfl;rw [s2 _ _ fd]at hρ1;cases hρ1
  have ro:ρ1≠ov:=by rintro rfl;rw [s2 _ _ fov]at hρ1;cases hρ1
  have sS:Sub S (put S2 ρ1 (.lst ([]++[(o,x)].map fun _=>enc z'))):=(sb.trans s2).trans s3;generalize put S2 ρ1 (.lst ([]++[(o,x)].map fun _=>enc z'))=S3 at f1 fd3 fov3 fq3 sS⊢;refine zrN fd3 (by simp) ?_;refine zqY (vs:=[.ref ρ]) (by rw [zaB od];exact fov3) (by simp) ?_;have sF:Sub S (put (put S3 d (.lst ([]++[.ref q]))) ov (.lst ([.ref ρ]++[.ref ρ1]))):= .put (.put sS dS) oS;refine hN _ _ _ .refl (sF _ _ h1) ?_;simp only[zcN];rw [zdP];walk_at "wp";refine⟨by decide,_, .refl,h e _ d ov q ρ ρ1 sF ?_ ?_ zaf ?_⟩
  ·rw [zaB od.symm,zaf]
  ·rw [zaB qo,zaB qd];exact fq3
  ·rw [zaB ro,zaB rd];exact f1
end
section
variable {w0 w1 w2 w3 w4 w5:Str}{n:Nat}
theorem zdu{x:Tr}{hs:List Str}(hx:x.hd zbk) (hw:x.weight≤900) (hd:x.depth≤3) (hl:hs.length≤37) (hh:∀h∈hs,HdK h):Fit (bkK w0 w1 w2 w3 w4) (stk x hs) where
  dp:=by rw [zmy];omega
  wt:=by rw [zmx];omega
  ar:=zmD hx hs hh
  w1:=zjR hx (by omega) (by simp [zah,tnA,Tr.weight,wts]) (by simp [zah,tnB,Tr.weight,wts]) hs hh
  w2:=zjR hx (by omega) (by simp [zah,tnA,Tr.weight,wts]) (by simp [zah,tnB,Tr.weight,wts]) hs hh
  hd:=zlX (zgB (fun _ _=>trivial) _ hx) hs fun _ _=>trivial
theorem zqQ{y:Tr}:(Tr.nd tiA [y]).mk (bkK w0 w1 w2 w3 w4) (zah 1)= .nd w0 [y.mk (bkK w0 w1 w2 w3 w4) (zah 1)]:=by
 rw [zdt tuA];simp [zah,tnA,Tr.fill,fills]
theorem zpC{y:Tr}:(Tr.nd tiA [y]).mk (bkK w0 w1 w2 w3 w4) (zah 2)= .nd w4 [y.mk (bkK w0 w1 w2 w3 w4) (zah 2),y.mk (bkK w0 w1 w2 w3 w4) (zah 2)]:=by
 rw [zdt tuA];simp [zah,tnA,Tr.fill,fills]
theorem zqR{s:Str}{y:Tr}{g:Tn→Tr}(h:zbk s):(Tr.nd s [y]).mk (bkK w0 w1 w2 w3 w4) g= .nd s [y.mk (bkK w0 w1 w2 w3 w4) g]:=by
 rw [zfc (zaA hBK h)];rfl
theorem zsP{s:Str}{y z:Tr}{g:Tn→Tr}(h:zbk s):(Tr.nd s [y,z]).mk (bkK w0 w1 w2 w3 w4) g= .nd s [y.mk (bkK w0 w1 w2 w3 w4) g,z.mk (bkK w0 w1 w2 w3 w4) g]:=by
 rw [zfc (zaA hBK h)];rfl
noncomputable def iN (w0 w2 w5:Str) (n:Nat):Tr:= .nd w0 [bas w2 w5 n]
noncomputable def sX (w0 w2 w4 w5:Str) (n:Nat):Tr:= .nd w4 [iN w0 w2 w5 n,iN w0 w2 w5 n]
noncomputable def sY (w0 w2 w5:Str) (n:Nat):Tr:= .nd w0 [iN w0 w2 w5 n]
noncomputable def sZ (w0 w2 w4 w5:Str) (n:Nat):Tr:= .nd w0 [.nd w4 [bas w2 w5 n,bas w2 w5 n]]
noncomputable def waO (w0 w2 w5:Str) (n:Nat):Tr:= .nd tiA [iN w0 w2 w5 n]
noncomputable def waX (w0 w2 w5:Str) (n:Nat):Tr:= .nd w0 [.nd tiA [bas w2 w5 n]]
noncomputable def waZ (w2 w4 w5:Str) (n:Nat):Tr:= .nd w4 [.nd tiA [bas w2 w5 n], .nd tiA [bas w2 w5 n]]
noncomputable def waV (w2 w4 w5:Str) (n:Nat):Tr:= .nd tiA [.nd w4 [bas w2 w5 n,bas w2 w5 n]]
variable (G:Signs w0 w1 w2 w3 w4 w5)
include G
theorem s0':zbk w0:=G.ok w0 (by simp)
theorem s4':zbk w4:=G.ok w4 (by simp)
theorem zed{g:Tn→Tr}:(bas w2 w5 n).mk (bkK w0 w1 w2 w3 w4) g=bas w2 w5 n:=zdT hBK _ (zmB (G.ok w2 (by simp)) (G.ok w5 (by simp)) n)
theorem zsC:(waO w0 w2 w5 n).mk (bkK w0 w1 w2 w3 w4) (zah 1)=sY w0 w2 w5 n:=by rw [waO,zqQ,iN,zqR (s0' G),zed G];rfl
theorem zrb:(waO w0 w2 w5 n).mk (bkK w0 w1 w2 w3 w4) (zah 2)=sX w0 w2 w4 w5 n:=by rw [waO,zpC,iN,zqR (s0' G),zed G];rfl
theorem zsL:(waX w0 w2 w5 n).mk (bkK w0 w1 w2 w3 w4) (zah 1)=sY w0 w2 w5 n:=by rw [waX,zqR (s0' G),zqQ,zed G];rfl
theorem zsb:(waX w0 w2 w5 n).mk (bkK w0 w1 w2 w3 w4) (zah 2)=sZ w0 w2 w4 w5 n:=by rw [waX,zqR (s0' G),zpC,zed G];rfl
theorem zsE:(waZ w2 w4 w5 n).mk (bkK w0 w1 w2 w3 w4) (zah 2)= .nd w4 [.nd w4 [bas w2 w5 n,bas w2 w5 n], .nd w4 [bas w2 w5 n,bas w2 w5 n]]:=by rw [waZ,zsP (s4' G),zpC,zed G]
theorem zsW:(waZ w2 w4 w5 n).mk (bkK w0 w1 w2 w3 w4) (zah 1)= .nd w4 [iN w0 w2 w5 n,iN w0 w2 w5 n]:=by rw [waZ,zsP (s4' G),zqQ,zed G];rfl
theorem bHd:(bas w2 w5 n).hd zbk:=zmB (G.ok w2 (by simp)) (G.ok w5 (by simp)) n
theorem fO (hn:n≤200):Fit (bkK w0 w1 w2 w3 w4) (waO w0 w2 w5 n):=by
 have:=zdu (w0:=w0) (w1:=w1) (w2:=w2) (w3:=w3) (w4:=w4) (x:=bas w2 w5 n) (hs:=[tiA,w0]) (bHd G) (by rw [zcH];omega) (by have:=zdi w2 w5 n;omega) (by simp) (fun h hh=>by
  simp only[List.mem_cons,List.not_mem_nil,or_false]at hh;rcases hh with rfl |rfl
  ·exact .inl rfl
  ·exact .inr (.inr (s0' G)))
 exact this
theorem fX (hn:n≤200):Fit (bkK w0 w1 w2 w3 w4) (waX w0 w2 w5 n):=by
 have:=zdu (w0:=w0) (w1:=w1) (w2:=w2) (w3:=w3) (w4:=w4) (x:=bas w2 w5 n) (hs:=[w0,tiA]) (bHd G) (by rw [zcH];omega) (by have:=zdi w2 w5 n;omega) (by simp) (fun h hh=>by
  simp only[List.mem_cons,List.not_mem_nil,or_false]at hh;rcases hh with rfl |rfl
  ·exact .inr (.inr (s0' G))
  ·exact .inl rfl)
 exact this
theorem fZ (hn:n≤200):Fit (bkK w0 w1 w2 w3 w4) (waZ w2 w4 w5 n):=by
 have fA:=zdu (w0:=w0) (w1:=w1) (w2:=w2) (w3:=w3) (w4:=w4) (x:=bas w2 w5 n) (hs:=[tiA]) (bHd G) (by rw [zcH];omega) (by have:=zdi w2 w5 n;omega) (by simp) (fun h hh=> .inl (by simpa using hh));have hd:=zdi w2 w5 n;have hw:=zcH w2 w5 n;refine⟨?_,?_,?_,?_,?_,?_⟩
 ·simp only[waZ,Tr.depth,zbu,zcQ];omega
 ·simp only[waZ,Tr.weight,zaV,zbR];omega
 ·have:=fA.ar;rw [stk,stk]at this;simp only[waZ,Tr.ar,ars,and_true];simp only[Tr.ar,ars,and_true]at this;exact⟨fun u hu=>(by rw [zaA hBK (s4' G)]at hu;cases hu),this,this⟩
 ·rw [zsW G];exact zlT _ (by simp only[iN,Tr.weight,zaV,zbR];omega)
 ·rw [zsE G];exact zlT _ (by simp only[Tr.weight,zaV,zbR];omega)
 ·have:=fA.hd;rw [stk,stk]at this;exact⟨trivial,this,this,trivial⟩
theorem zen{t:Tr}:t.small=true↔t.weight≤400∧t.depth≤40:=by
 unfold Tr.small;simp
theorem zsu (hn:n≤190):(sX w0 w2 w4 w5 n).small=true∧(sX w0 w2 w4 w5 n).weight≤400∧(sX w0 w2 w4 w5 n).depth≤40:=by
 have hd:=zdi w2 w5 n;have hw:=zcH w2 w5 n;have:(sX w0 w2 w4 w5 n).weight≤400∧(sX w0 w2 w4 w5 n).depth≤40:=by
  simp only[sX,iN,Tr.weight,Tr.depth,zaV,zbR,zbu,zcQ];omega
 exact⟨(zen G).mpr this,this⟩
theorem zrm (hn:n≤190):(sY w0 w2 w5 n).small=true∧(sY w0 w2 w5 n).weight≤400∧(sY w0 w2 w5 n).depth≤40:=by
 have hd:=zdi w2 w5 n;have hw:=zcH w2 w5 n;have:(sY w0 w2 w5 n).weight≤400∧(sY w0 w2 w5 n).depth≤40:=by
  simp only[sY,iN,Tr.weight,Tr.depth,zaV,zbR,zbu,zcQ];omega
 exact⟨(zen G).mpr this,this⟩
theorem zsA (hn:n≤190):(sZ w0 w2 w4 w5 n).small=true∧(sZ w0 w2 w4 w5 n).weight≤400∧(sZ w0 w2 w4 w5 n).depth≤40:=by
 have hd:=zdi w2 w5 n;have hw:=zcH w2 w5 n;have:(sZ w0 w2 w4 w5 n).weight≤400∧(sZ w0 w2 w4 w5 n).depth≤40:=by
  simp only[sZ,Tr.weight,Tr.depth,zaV,zbR,zbu,zcQ];omega
 exact⟨(zen G).mpr this,this⟩
theorem zmi:((waZ w2 w4 w5 n).mk (bkK w0 w1 w2 w3 w4) (zah 2)).small=decide (4*n+7≤400):=by
 have hd:=zdi w2 w5 n;have hw:=zcH w2 w5 n;rw [zsE G];unfold Tr.small;have e1:(Tr.nd w4 [.nd w4 [bas w2 w5 n,bas w2 w5 n], .nd w4 [bas w2 w5 n,bas w2 w5 n]]).weight=4*n+7:=by simp only[Tr.weight,zaV,zbR];omega
 have e2:(Tr.nd w4 [.nd w4 [bas w2 w5 n,bas w2 w5 n], .nd w4 [bas w2 w5 n,bas w2 w5 n]]).depth≤40:=by simp only[Tr.depth,zbu,zcQ];omega
 rw [e1,decide_eq_true e2,Bool.and_true]
theorem zsJ:Mv (bkK w0 w1 w2 w3 w4) 2 (bas w2 w5 n) (bas w2 w5 n) (bas w2 w5 n):= .nn (zaA hBK (G.ok w5 (by simp))) (zaA hBK (G.ok w5 (by simp))) (zms hBK (G.ok w2 (by simp)) n)
theorem zra:Mv (bkK w0 w1 w2 w3 w4) 20 (waX w0 w2 w5 n) (waO w0 w2 w5 n) (waZ w2 w4 w5 n):=by
 have e0:=zaA (hBK (w0:=w0) (w1:=w1) (w2:=w2) (w3:=w3) (w4:=w4)) (s0' G);have m1:Mv (bkK w0 w1 w2 w3 w4) 3 (.nd tiA [bas w2 w5 n]) (iN w0 w2 w5 n) (.nd tiA [bas w2 w5 n]):= .sn tuA e0 (mtA _) (.cons (zsJ G) .nil);have m2:Mv (bkK w0 w1 w2 w3 w4) 4 (waX w0 w2 w5 n) (waO w0 w2 w5 n) ((tnA w0 w4).2.2.fill [.nd tiA [bas w2 w5 n]]):= .ns e0 tuA (mtA _) (by simp [tnA,Tr.nb,nbs]) (.cons m1 .nil);have e:(tnA w0 w4).2.2.fill [.nd tiA [bas w2 w5 n]]=waZ w2 w4 w5 n:=by simp [tnA,Tr.fill,fills,waZ]
 rw [e]at m2;exact m2.mono (by decide)
theorem zsc:Mv (bkK w0 w1 w2 w3 w4) 20 (waO w0 w2 w5 n) (waX w0 w2 w5 n) (waV w2 w4 w5 n):=by
 have e0:=zaA (hBK (w0:=w0) (w1:=w1) (w2:=w2) (w3:=w3) (w4:=w4)) (s0' G);have m1:Mv (bkK w0 w1 w2 w3 w4) 3 (iN w0 w2 w5 n) (.nd tiA [bas w2 w5 n]) ((tnA w0 w4).2.2.fill [bas w2 w5 n]):= .ns e0 tuA (mtA _) (by simp [tnA,Tr.nb,nbs]) (.cons (zsJ G) .nil);have e:(tnA w0 w4).2.2.fill [bas w2 w5 n]= .nd w4 [bas w2 w5 n,bas w2 w5 n]:=by simp [tnA,Tr.fill,fills]
 rw [e]at m1;have m2:Mv (bkK w0 w1 w2 w3 w4) 4 (waO w0 w2 w5 n) (waX w0 w2 w5 n) (waV w2 w4 w5 n):= .sn tuA e0 (mtA _) (.cons m1 .nil);exact m2.mono (by decide)
inductive Od (w0 w1 w2 w3 w4 w5:Str):Tr→Str→Prop
 |ap:Od w0 w1 w2 w3 w4 w5 (.nd tiA [.nd w5 []]) "Apart"
 |go {m:Nat}:200≤m→m≤350→Od w0 w1 w2 w3 w4 w5 (.nd tiA [bas w2 w5 m]) "TooGreat"
 |so:Od w0 w1 w2 w3 w4 w5 (stk (.nd w2 []) (List.replicate 37 tiB)) "TooGreat"
omit G in
structure NoSt (w0 w4 w5:Str) (Y:Tr):Prop where
  s:Y≠ .nd w0 [.nd w5 []]
  g:Y≠ .nd w4 [.nd w5 [], .nd w5 []]
  d:Y.depth<60
theorem ztG (hn:n≤190):NoSt w0 w4 w5 (sX w0 w2 w4 w5 n):=by
 have h1:=G.n0 w4 (by simp);have h2:=G.n0 w5 (by simp);refine⟨?_,?_,by have:=(zsu G hn).2.2;omega⟩
 ·intro e;simp [sX]at e
 ·intro e;simp only[sX,iN,Tr.nd.injEq,List.cons.injEq,and_true]at e;exact h2 e.2.1.1
theorem ztf (hn:n≤190):NoSt w0 w4 w5 (sY w0 w2 w5 n):=by
 have h1:=G.n0 w4 (by simp);have h2:=G.n0 w5 (by simp);refine⟨?_,?_,by have:=(zrm G hn).2.2;omega⟩
 ·intro e;simp only[sY,iN,Tr.nd.injEq,List.cons.injEq,and_true]at e;exact h2 e.2.1
 ·intro e;simp [sY]at e
theorem zto (hn:n≤190):NoSt w0 w4 w5 (sZ w0 w2 w4 w5 n):=by
 have h1:=G.n0 w4 (by simp);have h2:=G.n5 w4 (by simp);refine⟨?_,?_,by have:=(zsA G hn).2.2;omega⟩
 ·intro e;simp only[sZ,Tr.nd.injEq,List.cons.injEq,and_true]at e;exact h2 e.2.1.symm
 ·intro e;simp [sZ]at e
end
section
variable {w0 w1 w2 w3 w4 w5:Str}{n r:Nat}{a f o:Addr}{S:Sto}{EX:WX}{D:WEnds}{GS:Sto→Prop}{X Y:Tr}{cl:Str}{rest:List W}{y1 y2 y3 y5 y6 y7 y8 y9 y10:Option W}
theorem zkk{b:Bool}(G:Signs w0 w1 w2 w3 w4 w5) (h:Od w0 w1 w2 w3 w4 w5 X cl) (hY:NoSt w0 w4 w5 Y) (ha:S a=some (.lst ((bkK w0 w1 w2 w3 w4).map zdx))) (hr:66≤r) (hE:∀σ,EX cl σ S) :
  zcN (wGT (zaH (wGN 5) (zaH (wGN 6) zcV))) (zaT (r+1) zbD) EX D GS (zau (X,b)::rest) [some (.ref a),y1,y2,y3,some (.tup [enc Y, .ref o]),y5,y6,y7,y8,y9,y10] S:=by
 refine zbm fun N hN=>?_;simp only[zau,zaT];walk_at "wp";cases h with
 |ap=>
  have h5:(Tr.nd w5 []).hd zbk:=⟨G.ok w5 (by simp),trivial⟩;have ft:=zdu (w0:=w0) (w1:=w1) (w2:=w2) (w3:=w3) (w4:=w4) (x:= .nd w5 []) (hs:=[tiA]) h5 (by simp [Tr.weight,wts]) (by simp [Tr.depth,dts]) (by simp) (fun h hh=> .inl (by simpa using hh));rw [stk,stk]at ft;have e5:∀g,(Tr.nd w5 []).mk (bkK w0 w1 w2 w3 w4) g= .nd w5 []:=fun g=>zdT hBK _ h5;have e1:(Tr.nd tiA [.nd w5 []]).mk (bkK w0 w1 w2 w3 w4) (zah 1)= .nd w0 [.nd w5 []]:=by rw [zqQ,e5]
  have e2:(Tr.nd tiA [.nd w5 []]).mk (bkK w0 w1 w2 w3 w4) (zah 2)= .nd w4 [.nd w5 [], .nd w5 []]:=by rw [zpC,e5]
  have m1:(Tr.nd w0 [.nd w5 []]).small=true:=(zen G).mpr (by simp [Tr.weight,wts,Tr.depth,dts]);have m2:(Tr.nd w4 [.nd w5 [], .nd w5 []]).small=true:=(zen G).mpr (by simp [Tr.weight,wts,Tr.depth,dts]);have d1:(Tr.nd w0 [.nd w5 []]).depth<60:=by simp [Tr.depth,dts]
  have d2:(Tr.nd w4 [.nd w5 [], .nd w5 []]).depth<60:=by simp [Tr.depth,dts]
  refine zbV ha sK1 ft.dp (by omega) ft.ar ft.wt ft.w1 (fun _=>?_) fun e=>(by rw [e1,m1]at e;cases e);refine zdc ha sK2 ft.dp (by omega) ft.ar ft.wt ft.w2 (fun _=>?_) fun e=>(by rw [e2,m2]at e;cases e);rw [e1,e2];cases b with
  |true=>
   try walk_at "wp"
   rw [zlD 60 _ _ d1];have:(Tr.nd w0 [.nd w5 []]).same Y=false:=by
    cases z:(Tr.nd w0 [.nd w5 []]).same Y with
    |false=>rfl
    |true=>exact absurd ((zdV _ _).mp z).symm hY.s
   rw [this]
   try walk_at "wp"
   try rw [zdQ]
   try walk_at "wp"
   exact⟨by decide,hE _⟩
  |false=>
   try walk_at "wp"
   rw [zlD 60 _ _ d2];have:(Tr.nd w4 [.nd w5 [], .nd w5 []]).same Y=false:=by
    cases z:(Tr.nd w4 [.nd w5 [], .nd w5 []]).same Y with
    |false=>rfl
    |true=>exact absurd ((zdV _ _).mp z).symm hY.g
   rw [this]
   try walk_at "wp"
   try rw [zdQ]
   try walk_at "wp"
   exact⟨by decide,hE _⟩
 | @go m h1 h2=>
  have ft:=zdu (w0:=w0) (w1:=w1) (w2:=w2) (w3:=w3) (w4:=w4) (x:=bas w2 w5 m) (hs:=[tiA]) (bHd G) (by rw [zcH];omega) (by have:=zdi w2 w5 m;omega) (by simp) (fun h hh=> .inl (by simpa using hh));rw [stk,stk]at ft;refine zbV ha sK1 ft.dp (by omega) ft.ar ft.wt ft.w1 (fun _=>?_) fun _=>hE _;refine zdc ha sK2 ft.dp (by omega) ft.ar ft.wt ft.w2 (fun e=>?_) fun _=>hE _;rw [zpC,zed G,zen G]at e;have hw:=zcH w2 w5 m;simp only[Tr.weight,zaV,zbR]at e;omega
 |so=>
  have h2:(Tr.nd w2 []).hd zbk:=⟨G.ok w2 (by simp),trivial⟩;have ft:=zdu (w0:=w0) (w1:=w1) (w2:=w2) (w3:=w3) (w4:=w4) (x:= .nd w2 []) (hs:=List.replicate 37 tiB) h2 (by simp [Tr.weight,wts]) (by simp [Tr.depth,dts]) (by simp) (fun h hh=> .inr (.inl (List.mem_replicate.mp hh).2));refine zbV ha sK1 ft.dp (by omega) ft.ar ft.wt ft.w1 (fun e=>?_) fun _=>hE _;have:=zfJ (w0:=w0) (w1:=w1) (w2:=w2) (w3:=w3) (w4:=w4) (x:= .nd w2 []) 37;rw [zen G]at e;omega
theorem znx (G:Signs w0 w1 w2 w3 w4 w5) (hn:n≤190) (ha:S a=some (.lst ((bkK w0 w1 w2 w3 w4).map zdx))) (fo:S o=some (.lst [])) (hr:66≤r)
  (h:∀S' o' y5 y6 y7 y8 y9,Sub S S'→S' o'=some (.lst [enc (waO w0 w2 w5 n)])→GS S'→zcN (wGT (zaH (wGN 5) (zaH (wGN 6) zcV))) (zaT (r+1) zbD) EX D GS rest [some (.ref a),y1,y2,y3,some (.tup [enc (sY w0 w2 w5 n), .ref o']),y5,y6,y7,y8,y9,y10] S') (hG:∀S',Sub S S'→GS S') :
  zcN (wGT (zaH (wGN 5) (zaH (wGN 6) zcV))) (zaT (r+1) zbD) EX D GS (zau (waO w0 w2 w5 n,false)::rest) [some (.ref a),y1,y2,y3,some (.tup [enc (sX w0 w2 w4 w5 n), .ref o]),y5,y6,y7,y8,y9,y10] S:=by
 refine zbm fun N hN=>?_;have ft:=fO (n:=n) G (by omega);have xs:=zsu (n:=n) G hn;have ys:=zrm (n:=n) G hn;simp only[zau,zaT];walk_at "wp";refine zbV ha sK1 ft.dp (by omega) ft.ar ft.wt ft.w1 (fun _=>?_) fun e=>(by rw [zsC G,ys.1]at e;cases e);refine zdc ha sK2 ft.dp (by omega) ft.ar ft.wt ft.w2 (fun _=>?_) fun e=>(by rw [zrb G,xs.1]at e;cases e);rw [zsC G,zrb G]
 try walk_at "wp"
 rw [zgQ (by have:=xs.2.2;omega)]
 try walk_at "wp"
 rw [show atI [enc (sX w0 w2 w4 w5 n),W.ref o] 1=some (.ref o) from rfl]
 try walk_at "wp"
 rw [zaj fo];refine⟨by decide,by decide,fun o' ho'=>?_⟩
 have s1:Sub S (put S o' (.lst [enc (waO w0 w2 w5 n)])):= .put .refl ho'
 first
  |exact⟨by decide,hN _ _ _ .refl (hG _ s1) (h _ o' _ _ _ _ _ s1 zaf (hG _ s1))⟩
  |exact hN _ _ _ .refl (hG _ s1) (h _ o' _ _ _ _ _ s1 zaf (hG _ s1))
theorem zpG (G:Signs w0 w1 w2 w3 w4 w5) (hn:n≤190) (ha:S a=some (.lst ((bkK w0 w1 w2 w3 w4).map zdx))) (fo:S o=some (.lst [enc (waO w0 w2 w5 n)])) (ff:S f=some (.lst [])) (hr:80≤r)
  (h:4*n+7≤400→ ∀S' o' v3 y5 y6 y7 y8 y9 y10,Sub S S'→GS S'→zcN (wGT (zaH (wGN 5) (zaH (wGN 6) zcV))) (zaT (r+1) zbD) EX D GS rest [some (.ref a),some (enc X),y2,some v3,some (.tup [enc (sZ w0 w2 w4 w5 n), .ref o']),y5,y6,y7,y8,y9,y10] S')
  (hE:400<4*n+7→ ∀σ S',Sub S S'→EX "TooGreat" σ S') (hG:∀S',Sub S S'→GS S') :
  zcN (wGT (zaH (wGN 5) (zaH (wGN 6) zcV))) (zaT (r+1) zbD) EX D GS (zau (waX w0 w2 w5 n,true)::rest) [some (.ref a),some (enc X),y2,some (.tup [enc X, .ref f]),some (.tup [enc (sY w0 w2 w5 n), .ref o]),y5,y6,y7,y8,y9,y10] S:=by
 refine zbm fun N hN=>?_;have ft:=fX (n:=n) G (by omega);have zs:=zsA (n:=n) G hn;have ys:=zrm (n:=n) G hn;have xs:=zsu (n:=n) G hn;simp only[zau,zaT];walk_at "wp";refine zbV ha sK1 ft.dp (by omega) ft.ar ft.wt ft.w1 (fun _=>?_) fun e=>(by rw [zsL G,ys.1]at e;cases e);refine zdc ha sK2 ft.dp (by omega) ft.ar ft.wt ft.w2 (fun _=>?_) fun e=>(by rw [zsb G,zs.1]at e;cases e);rw [zsL G,zsb G]
 try walk_at "wp"
 rw [zgQ (by have:=ys.2.2;omega)]
 try walk_at "wp"
 refine⟨by decide,fun l1 hl1=>⟨by decide,?_⟩⟩;have s1:Sub S (put S l1 (.lst [enc (waX w0 w2 w5 n)])):= .put .refl hl1;have f1:put S l1 (.lst [enc (waX w0 w2 w5 n)]) l1=some (.lst [enc (waX w0 w2 w5 n)]):=zaf;generalize put S l1 (.lst [enc (waX w0 w2 w5 n)])=S1 at s1 f1⊢
 try walk_at "wp"
 refine zqL (t:=sY w0 w2 w5 n) (s1 _ _ ha) sK2 mvK ft (fO G (by omega)) (fZ G (by omega)) (zra G) (zsc G) f1 (s1 _ _ fo) (by rw [zsb G];exact zs.1) (by rw [zrb G];exact xs.1) ys.2.1 ys.2.2 (by omega) (fun e S2 d ov ln ρ0 ρ1 s2 g1 g2 g3 g4=>?_) fun e S2 s2=>?_
 ·rw [zmi G]at e;have e:=of_decide_eq_true e;have s12:=s1.trans s2
  try walk_at "wp"
  rw [show atI [enc X,W.ref f] 1=some (.ref f) from rfl]
  try walk_at "wp"
  obtain⟨r,rfl⟩:∃r',r=r'+1:=⟨r - 1,by omega⟩
  rw [zbE];walk_at "wp";rw [zaj g1];refine zbB (fun σ=>∃y,σ=[y]) (fun _:Unit=>W.ref ln) (fun _=>enc (waZ w2 w4 w5 n)) g1 [()] [] _ ⟨none,rfl⟩ (by simp) (fun z hz σ R hI hR=>?_) ?_
  ·obtain⟨y,rfl⟩:=hI;rw [zcL];walk_at "wp";rw [zaj g2,show atI [enc (waX w0 w2 w5 n),enc (waZ w2 w4 w5 n)] (-1)=some (enc (waZ w2 w4 w5 n)) from rfl];exact hR _ _ ⟨_,rfl⟩ .refl
  ·intro q hq;have s3:Sub S2 (put S2 q (.lst ([]++[()].map fun _=>enc (waZ w2 w4 w5 n)))):= .put .refl hq;have fq:put S2 q (.lst ([]++[()].map fun _=>enc (waZ w2 w4 w5 n))) q=some (.lst [enc (waZ w2 w4 w5 n)]):=zaf;refine⟨_, .refl,?_⟩;generalize put S2 q (.lst ([]++[()].map fun _=>enc (waZ w2 w4 w5 n)))=S3 at s3 fq⊢
   try walk_at "wp"
   rw [zaj (s3 _ _ (s12 _ _ ff)),zaj fq];refine⟨by simp [sizeLine_eq],fun f' hf'=>⟨by decide,?_⟩⟩;have s4:Sub S3 (put S3 f' (.lst ([]++[enc (waZ w2 w4 w5 n)]))):= .put .refl hf';generalize put S3 f' (.lst ([]++[enc (waZ w2 w4 w5 n)]))=S4 at s4⊢
   try walk_at "wp"
   rw [show atI [W.ref d,W.ref ov] 1=some (.ref ov) from rfl]
   try walk_at "wp"
   rw [zaj (s4 _ _ (s3 _ _ g3)),show atI [W.ref ρ0,W.ref ρ1] (-1)=some (.ref ρ1) from rfl]
   try walk_at "wp"
   have sS:Sub S S4:=(s12.trans s3).trans s4
   first
    |exact⟨by decide,hN _ _ _ .refl (hG _ sS) (h e _ ρ1 _ _ _ _ _ _ _ sS (hG _ sS))⟩
    |exact hN _ _ _ .refl (hG _ sS) (h e _ ρ1 _ _ _ _ _ _ _ sS (hG _ sS))
 ·rw [zmi G]at e;have e:=of_decide_eq_false e;exact hE (by omega) _ _ (s1.trans s2)
end
noncomputable def zfS (cl:Str):List W:=if cl= "Apart" then lAP else lTG
inductive Sts (w0 w1 w2 w3 w4 w5:Str) (n:Nat):List (Tr×Bool)→List W→Prop
 |no:Sts w0 w1 w2 w3 w4 w5 n [(waO w0 w2 w5 n,false),(waX w0 w2 w5 n,true)] (if 400<4*n+7 then lTG else [])
 |a0 {X:Tr}{b:Bool}{cl:Str}:Od w0 w1 w2 w3 w4 w5 X cl→Sts w0 w1 w2 w3 w4 w5 n [(X,b),(waO w0 w2 w5 n,false),(waX w0 w2 w5 n,true)] (zfS cl)
 |a1 {X:Tr}{b:Bool}{cl:Str}:Od w0 w1 w2 w3 w4 w5 X cl→Sts w0 w1 w2 w3 w4 w5 n [(waO w0 w2 w5 n,false),(X,b),(waX w0 w2 w5 n,true)] (zfS cl)
 |a2 {X:Tr}{b:Bool}{cl:Str}:Od w0 w1 w2 w3 w4 w5 X cl→Sts w0 w1 w2 w3 w4 w5 n [(waO w0 w2 w5 n,false),(waX w0 w2 w5 n,true),(X,b)] (if 400<4*n+7 then lTG else zfS cl)
section
variable {w0 w1 w2 w3 w4 w5:Str}{n r:Nat}{a l:Addr}{S:Sto}{Q:WK}{E:Str→Sto→Prop}{L:List (Tr×Bool)}{due:List W}
theorem Od.cl{X:Tr}{cl:Str}(h:Od w0 w1 w2 w3 w4 w5 X cl):cl= "TooGreat" ∧zfS cl=lTG∨cl= "Apart" ∧zfS cl=lAP:=by
 cases h with
 |ap=>exact .inr ⟨rfl,by unfold zfS;rw [if_pos rfl]⟩
 |go _ _=>exact .inl ⟨rfl,by unfold zfS;rw [if_neg (by decide +kernel)]⟩
 |so=>exact .inl ⟨rfl,by unfold zfS;rw [if_neg (by decide +kernel)]⟩
theorem zgC (G:Signs w0 w1 w2 w3 w4 w5) (hn:n≤190) (h:Sts w0 w1 w2 w3 w4 w5 n L due) (ha:S a=some (.lst ((bkK w0 w1 w2 w3 w4).map zdx))) (fl:S l=some (.lst (L.map zau))) (hr:90≤r)
  (hQ:due=[]→ ∀v S',Sub S S'→Q v S') (hE:∀(cl:Str) S',(cl= "TooGreat" ∧due=lTG∨cl= "Apart" ∧due=lAP)→Sub S S'→E cl S'):zdn (r+1) [.ref a,enc (sX w0 w2 w4 w5 n), .ref l] S Q E:=by
 obtain⟨r,rfl⟩:∃r',r=r'+1:=⟨r - 1,by omega⟩
 rw [zdn];walk_at "wp";refine⟨by decide,fun f hf=>⟨by decide,?_⟩⟩
 try walk_at "wp"
 refine⟨by decide,fun o ho=>⟨by decide,?_⟩⟩;have hfo:f≠o:=by rintro rfl;rw [zaf]at ho;cases ho
 have s1:Sub S (put (put S f (.lst [])) o (.lst [])):=(Sub.put .refl hf).trans (.put .refl ho);have ff:put (put S f (.lst [])) o (.lst []) f=some (.lst []):=by rw [zaB hfo,zaf]
 have fo:put (put S f (.lst [])) o (.lst []) o=some (.lst []):=zaf;generalize put (put S f (.lst [])) o (.lst [])=S1 at s1 ff fo⊢
 try walk_at "wp"
 rw [zaj (s1 _ _ fl)];cases h with
 |no=>
  refine znx (rest:=[zau (waX w0 w2 w5 n,true)]) G hn (s1 _ _ ha) fo (by omega) (fun S2 o2 y5 y6 y7 y8 y9 s2 f2 g2=>?_) fun S' s'=>(s1.trans s') _ _ fl;refine zpG (rest:=[]) G hn (s2 _ _ (s1 _ _ ha)) f2 (s2 _ _ ff) (by omega) (fun e S3 o3 v3 y5 y6 y7 y8 y9 y10 s3 g3=>?_) (fun e σ S3 s3=>?_) fun S' s'=>((s1.trans s2).trans s') _ _ fl
  ·rw [if_neg (by omega)]at hQ;simp only[zcN];walk_at "wp";exact⟨by decide,_, .refl,hQ rfl _ _ ((s1.trans s2).trans s3)⟩
  ·rw [if_pos e]at hE;exact hE _ _ (.inl ⟨rfl,rfl⟩) ((s1.trans s2).trans s3)
 |a0 od=>
  refine zkk (rest:=[zau (waO w0 w2 w5 n,false),zau (waX w0 w2 w5 n,true)]) G od (ztG G hn) (s1 _ _ ha) (by omega) fun σ=>?_;exact hE _ _ od.cl s1
 |a1 od=>
  rename_i X b cl;refine znx (rest:=[zau (X,b),zau (waX w0 w2 w5 n,true)]) G hn (s1 _ _ ha) fo (by omega) (fun S2 o2 y5 y6 y7 y8 y9 s2 f2 g2=>?_) fun S' s'=>(s1.trans s') _ _ fl;refine zkk (rest:=[zau (waX w0 w2 w5 n,true)]) G od (ztf G hn) (s2 _ _ (s1 _ _ ha)) (by omega) fun σ=>?_;exact hE _ _ od.cl (s1.trans s2)
 |a2 od=>
  rename_i X b cl;refine znx (rest:=[zau (waX w0 w2 w5 n,true),zau (X,b)]) G hn (s1 _ _ ha) fo (by omega) (fun S2 o2 y5 y6 y7 y8 y9 s2 f2 g2=>?_) fun S' s'=>(s1.trans s') _ _ fl;refine zpG (rest:=[zau (X,b)]) G hn (s2 _ _ (s1 _ _ ha)) f2 (s2 _ _ ff) (by omega) (fun e S3 o3 v3 y5 y6 y7 y8 y9 y10 s3 g3=>?_) (fun e σ S3 s3=>?_) fun S' s'=>((s1.trans s2).trans s') _ _ fl
  ·rw [if_neg (by omega)]at hE;refine zkk (rest:=[]) G od (zto G hn) (s3 _ _ (s2 _ _ (s1 _ _ ha))) (by omega) fun σ=>?_;exact hE _ _ od.cl ((s1.trans s2).trans s3)
  ·rw [if_pos e]at hE;exact hE _ _ (.inl ⟨rfl,rfl⟩) ((s1.trans s2).trans s3)
theorem ziP (G:Signs w0 w1 w2 w3 w4 w5) (hn:n≤190) (h:Sts w0 w1 w2 w3 w4 w5 n L due) (ha:S a=some (.lst ((bkK w0 w1 w2 w3 w4).map zdx))) (fl:S l=some (.lst (L.map zau))) (hr:92≤r)
  (hQ:∀q S',Sub S S'→S' q=some (.lst due)→Q (.ref q) S'):zaS (r+1) [.ref a,enc (sX w0 w2 w4 w5 n), .ref l] S Q E:=by
 have q0:zda "TooGreat" "TooGreat" =true:=by decide
 have q1:zda "TooGreat" "Apart" =false:=by decide
 have q2:zda "TooGreat" "NoUse" =false:=by decide
 have q3:zda "TooGreat" "NoWay" =false:=by decide
 have q4:zda "TooGreat" "NoPlace" =false:=by decide
 have q5:zda "TooGreat" "ValueError" =true:=by decide
 have p0:zda "Apart" "TooGreat" =false:=by decide
 have p1:zda "Apart" "Apart" =true:=by decide
 have p2:zda "Apart" "NoUse" =false:=by decide
 have p3:zda "Apart" "NoWay" =false:=by decide
 have p4:zda "Apart" "NoPlace" =false:=by decide
 have p5:zda "Apart" "ValueError" =true:=by decide
 obtain⟨r,rfl⟩:∃r',r=r'+1:=⟨r - 1,by omega⟩
 rw [zaS];walk_at "wp";refine⟨Nat.zero_le _,fun q hq=>?_⟩;have sb:Sub S (put S q (.lst [])):= .put .refl hq;have fq:put S q (Ob.lst []) q=some (.lst []):=zaf;generalize put S q (.lst [])=S1 at sb fq⊢;refine zgC G hn h (sb _ _ ha) (sb _ _ fl) (by omega) (fun e v S2 s2=>?_) fun cl S2 hc s2=>?_
 ·exact⟨_, .refl,hQ q S2 (sb.trans s2) (by rw [s2 _ _ fq,e])⟩
 ·rcases hc with⟨rfl,e⟩ |⟨rfl,e⟩
  ·rw [q0,q1,q2,q3,q4,q5];exact⟨by simp,fun _=>⟨zai (by decide),fun b hb=>⟨zai (by decide),zai (by decide),fun d hd=>⟨_, .refl,hQ d _ (((sb.trans s2).trans (.put .refl hb)).trans (.put .refl hd)) (by rw [zaf,e];rfl)⟩⟩⟩⟩
  ·rw [p0,p1,p2,p3,p4,p5];exact⟨by simp,fun _=>⟨zai (by decide),fun b hb=>⟨zai (by decide),zai (by decide),fun d hd=>⟨_, .refl,hQ d _ (((sb.trans s2).trans (.put .refl hb)).trans (.put .refl hd)) (by rw [zaf,e];rfl)⟩⟩⟩⟩
theorem zia{aw:Addr}{cell:Int}(fw:S aw=some (.lst (six w0 w1 w2 w3 w4 w5))) (h:∀X b cl,Od w0 w1 w2 w3 w4 w5 X cl→(cl= "Apart" ↔cell % 4<2)→Q (zau (X,b)) S):zaP (r+1) [.int cell, .ref aw] S Q E:=by
 have l1:1≤sizeLine:=zai (by decide);have l2:2≤sizeLine:=zai (by decide);rw [zaP];walk_at "wp";simp only[zaj fw,zrq,zsR];refine⟨by decide,?_⟩;by_cases h1:cell % 4<2
 ·rw [if_pos (by first |exact h1 |simpa using h1)];have:=h (.nd tiA [.nd w5 []]) (cell % 4 == 0) "Apart" .ap ⟨fun _=>h1,fun _=>rfl⟩;refine⟨l1,l2,by decide,l2,_, .refl,?_⟩
  simpa [zau,enc,zaw,tiA]using this
 ·rw [if_neg (by first |exact h1 |simpa using h1)];refine⟨by decide,?_⟩;have nt:∀X cl b,Od w0 w1 w2 w3 w4 w5 X cl→cl= "TooGreat" →Q (zau (X,b)) S:=fun X cl b od e=>h X b cl od ⟨fun z=>(by rw [e]at z;exact absurd z (by decide +kernel)),fun z=>absurd z h1⟩;by_cases h2:cell % 4=2
  ·rw [if_pos (by simp [h2])];have b0:=Int.emod_nonneg (cell / 8) (show(150:Int)≠0 by decide)
   have b1:=Int.emod_lt_of_pos (cell / 8) (show(0:Int)<150 by decide)
   obtain⟨m,em⟩:∃m:Nat,(200:Int)+cell / 8 % 150=m:=⟨(200+cell / 8 % 150).toNat,by omega⟩
   rw [em,Int.toNat_natCast,zek];refine⟨l1,l1,l1,⟨by decide,by decide⟩,by decide,⟨by simp,by omega,by omega,zai (by omega)⟩,zai (by rw [List.length_replicate];omega),l2,⟨by decide,by decide⟩,by decide,l2,_, .refl,?_⟩
   have:=nt (.nd tiA [bas w2 w5 m]) _ (cell / 4 % 2 == 0) (.go (by omega) (by omega)) rfl;have e:enc (.nd tiA [bas w2 w5 m])= .tup [.str tiA,enc (bas w2 w5 m)]:=by simp [enc,zaw]
   rw [zau,e,zkq]at this;exact this
  ·rw [if_neg (by simp [h2])];refine⟨l1,⟨by decide,by decide⟩,?_⟩
   refine zjC (fun i σ S'=>S'=S∧ ∃x3,σ=[some (.int cell),some (.ref aw),some (enc (stk (.nd w2 []) (List.replicate i tiB))),x3]) (Int.toNat 37) ?_ ?_ ⟨rfl,none,by simp [stk,enc,zaw]⟩
   ·rintro i hi σ S' N ⟨rfl,x3,rfl⟩ hN;simp only[zbX];walk_at "wp";refine⟨l2,hN _ _ _ .refl ⟨rfl,some (.int i),?_⟩⟩;rw [List.replicate_succ,zoe];rfl
   ·rintro σ S' ⟨rfl,x3,rfl⟩;walk_at "wp";exact⟨⟨by decide,by decide⟩,by decide,l2,_, .refl,nt _ _ _ .so rfl⟩
end
section
variable {S:Sto}{aw ab al ad:Addr}{w0 w1 w2 w3 w4 w5:Str}{E:WX}{D:WEnds}{T:WS}{ns:List Int}{n:Nat}{a1 a2 a3 a4 a5 a6 a7 a8 a9 a10 a11 a12 a13:Option W}
theorem zso (h:∀S' aw w0 w1 w2 w3 w4 w5,Signs w0 w1 w2 w3 w4 w5→S' aw=some (.lst (six w0 w1 w2 w3 w4 w5))→T E D [some (.scr ns),some (.ref aw),a2,a3,a4,a5,a6,a7,a8,a9,a10,a11,a12,a13] S'):zck 199 T E D [some (.scr ns),a1,a2,a3,a4,a5,a6,a7,a8,a9,a10,a11,a12,a13] S:=by
 rw [zck];walk_at "wp";refine zdC (by decide) fun c0=>zdC (by decide) fun c1=>zkB fun aw ws hw0 hws=>?_;obtain⟨w0,w1,w2,w3,w4,w5,rfl,G⟩:=zgD hws;exact h _ aw w0 w1 w2 w3 w4 w5 G zaf
theorem zrD (fw:S aw=some (.lst (six w0 w1 w2 w3 w4 w5))) (h:T E D [some (.scr ns),some (.ref aw),some (.tup [.str w2]),a3,a4,a5,a6,a7,a8,a9,a10,a11,a12,a13] S):zcd 199 T E D [some (.scr ns),some (.ref aw),a2,a3,a4,a5,a6,a7,a8,a9,a10,a11,a12,a13] S:=by
 rw [zcd];walk_at "wp";simp only[zaj fw,zrq];exact⟨zai (by decide),h⟩
theorem zqZ (fw:S aw=some (.lst (six w0 w1 w2 w3 w4 w5))) (h:∀ab,S ab=none→T E D [some (.scr ns),some (.ref aw),some (.tup [.str w2]),some (.ref ab),a4,a5,a6,a7,a8,a9,a10,a11,a12,a13] (put S ab (.lst ((bkK w0 w1 w2 w3 w4).map zdx)))):zcf 199 T E D [some (.scr ns),some (.ref aw),some (.tup [.str w2]),a3,a4,a5,a6,a7,a8,a9,a10,a11,a12,a13] S:=by
 have l1:1≤sizeLine:=zai (by decide);have l2:2≤sizeLine:=zai (by decide);have l3:3≤sizeLine:=zai (by decide);have l10:10≤sizeLine:=zai (by decide);rw [zcf];walk_at "wp";simp only[zaj fw,zse,ztN,zrq,zsT,zsI,l1,l2,l3,l10,true_and];intro ab hb;have:=h ab hb;simpa [bkK,tnA,tnB,zdx,enc,zaw,tiA,tiB]using this
theorem zsx (h:∀n:Nat,n≤189→T E D [some (.scr ns),a1,a2,a3,some (.int n),a5,a6,a7,a8,a9,a10,a11,a12,a13] S):zcj 199 T E D [some (.scr ns),a1,a2,a3,a4,a5,a6,a7,a8,a9,a10,a11,a12,a13] S:=by
 rw [zcj];walk_at "wp";refine zdC (by decide) fun c=>?_
 try walk_at "wp"
 refine⟨zai (by decide),zdC (by decide) fun c2=>?_⟩
 try walk_at "wp"
 refine⟨by decide,?_⟩;have h3:c2 % 3=0∨c2 % 3=1∨c2 % 3=2:=by omega
 have fin:∀v:Int,0<v→v≤190→T E D [some (.scr ns),a1,a2,a3,some (.int (c % v)),a5,a6,a7,a8,a9,a10,a11,a12,a13] S:=fun v h0 h1=>by
  have b1:=Int.emod_nonneg c (Int.ne_of_gt h0);have b2:=Int.emod_lt_of_pos c h0;have:=h (c % v).toNat (by omega);rwa [show(((c % v).toNat:Nat):Int)=c % v by omega]at this
 rcases h3 with e |e |e
 ·rw [e];exact⟨(by decide:(0:Int)<20),fin 20 (by decide) (by decide)⟩
 ·rw [e];exact⟨(by decide:(0:Int)<190),fin 190 (by decide) (by decide)⟩
 ·rw [e];exact⟨(by decide:(0:Int)<110),fin 110 (by decide) (by decide)⟩
theorem zrx (fw:S aw=some (.lst (six w0 w1 w2 w3 w4 w5))) (hn:n≤189) (h:T E D [some (.scr ns),some (.ref aw),some (.tup [.str w2]),a3,some (.int n),some (enc (bas w2 w5 n)),a6,a7,a8,a9,a10,a11,a12,a13] S):zcb 199 T E D [some (.scr ns),some (.ref aw),some (.tup [.str w2]),a3,some (.int n),a5,a6,a7,a8,a9,a10,a11,a12,a13] S:=by
 rw [zcb];walk_at "wp";simp only[zaj fw,zsR];rw [Int.toNat_natCast,zek];rw [zkq]at h;exact⟨zai (by decide),zai (by decide),⟨by simp,by omega,by omega,zai (by omega)⟩,zai (by rw [List.length_replicate];omega),h⟩
theorem zpM (fw:S aw=some (.lst (six w0 w1 w2 w3 w4 w5))) (h:T E D [some (.scr ns),some (.ref aw),a2,a3,a4,some (enc (bas w2 w5 n)),some (enc (iN w0 w2 w5 n)),some (enc (sX w0 w2 w4 w5 n)),a8,a9,a10,a11,a12,a13] S):zch 199 (zbZ 199 T) E D [some (.scr ns),some (.ref aw),a2,a3,a4,some (enc (bas w2 w5 n)),a6,a7,a8,a9,a10,a11,a12,a13] S:=by
 have e1:enc (iN w0 w2 w5 n)= .tup [.str w0,enc (bas w2 w5 n)]:=by simp [iN,enc,zaw]
 have e2:enc (sX w0 w2 w4 w5 n)= .tup [.str w4,enc (iN w0 w2 w5 n),enc (iN w0 w2 w5 n)]:=by simp [sX,enc,zaw]
 rw [zch];walk_at "wp";simp only[zaj fw,zse];refine⟨zai (by decide),?_⟩;rw [zbZ,←e1];walk_at "wp";simp only[zaj fw,zsI];refine⟨zai (by decide),?_⟩;rw [←e2];exact h
theorem zsq (fw:S aw=some (.lst (six w0 w1 w2 w3 w4 w5))) (h:∀al,S al=none→T E D [some (.scr ns),some (.ref aw),a2,a3,a4,some (enc (bas w2 w5 n)),some (enc (iN w0 w2 w5 n)),a7,some (.ref al),a9,a10,a11,a12,a13] (put S al (.lst [zau (waO w0 w2 w5 n,false),zau (waX w0 w2 w5 n,true)]))):zce 199 T E D [some (.scr ns),some (.ref aw),a2,a3,a4,some (enc (bas w2 w5 n)),some (enc (iN w0 w2 w5 n)),a7,a8,a9,a10,a11,a12,a13] S:=by
 have e1:zau (waO w0 w2 w5 n,false)= .tup [.tup [.str tiA,enc (iN w0 w2 w5 n)], .bl false]:=by simp [zau,waO,enc,zaw]
 have e2:zau (waX w0 w2 w5 n,true)= .tup [.tup [.str w0, .tup [.str tiA,enc (bas w2 w5 n)]], .bl true]:=by simp [zau,waX,enc,zaw]
 rw [e1,e2]at h;rw [zce];walk_at "wp";simp only[zaj fw,zse];exact⟨zai (by decide),zai (by decide),zai (by decide),zai (by decide),zai (by decide),zai (by decide),h⟩
theorem zsi (h:T E D [a1,a2,a3,a4,some (.int n),a5,a6,a7,a8,some (.bl (decide (400<4*n+7))),a10,a11,a12,a13] S):zca 199 T E D [a1,a2,a3,a4,some (.int n),a5,a6,a7,a8,a9,a10,a11,a12,a13] S:=by
 rw [zca];walk_at "wp";have e:decide ((400:Int)<4*(n:Int)+7)=decide (400<4*n+7):=by rw [decide_eq_decide];omega
 refine⟨.inl ⟨by decide,by decide⟩,?_⟩
 show T E D [a1,a2,a3,a4,some (.int n),a5,a6,a7,a8,some (.bl (decide ((400:Int)<4*(n:Int)+7))),a10,a11,a12,a13] S;rw [e];exact h
theorem zlh{g:Bool}(h:∀S' ad,Sub S S'→S' ad=some (.lst (if g=true then lTG else []))→T E D [a1,a2,a3,a4,a5,a6,a7,a8,a9,some (.bl g),some (.ref ad),a11,a12,a13] S'):zbK 199 (zbF 199 T) E D [a1,a2,a3,a4,a5,a6,a7,a8,a9,some (.bl g),a10,a11,a12,a13] S:=by
 rw [zbK];walk_at "wp";refine⟨by decide,fun ad had=>?_⟩;rw [zbF];walk_at "wp";cases g with
 |true=>
  try walk_at "wp"
  exact⟨by decide,fun a2 h2=>h _ a2 ((Sub.put .refl had).trans (.put .refl h2)) (by rw [zaf];rfl)⟩
 |false=>
  try walk_at "wp"
  exact h _ ad (.put .refl had) (by rw [zaf];rfl)
theorem zhO{k r:Nat}{Q:WK}{F:Str→Sto→Prop}(h:Q (.int (ns.getD k 0)) S):zat (r+1) [.scr ns, .int (k:Int)] S Q F:=by
 rw [zat];walk_at "wp";by_cases hk:k<ns.length
 ·rw [if_pos (by omega)];rw [zcA,List.getElem?_eq_getElem hk];rw [List.getD_eq_getElem?_getD,List.getElem?_eq_getElem hk]at h;exact⟨_, .refl,h⟩
 ·rw [if_neg (by omega)];rw [List.getD_eq_getElem?_getD,List.getElem?_eq_none (by omega)]at h;exact⟨_, .refl,h⟩
theorem zgR{i:Int}{g:Bool}{cl:Str}{v12:Option W}(hi:i<2∨g=false) (hcl:cl= "Apart" ↔ns.getD 5 0 % 4<2) (h:∀S' ad' y13,Sub S S'→S' ad'=some (.lst (zfS cl))→D.nx [some (.scr ns),a1,a2,a3,a4,a5,a6,a7,a8,some (.bl g),some (.ref ad'),some (.int i),v12,y13] S') :
  zbb 199 E D [some (.scr ns),a1,a2,a3,a4,a5,a6,a7,a8,some (.bl g),a10,some (.int i),v12,a13] S:=by
 have l6:6≤sizeLine:=zai (by decide);have set:zbM 199 (zbN 199) E D [some (.scr ns),a1,a2,a3,a4,a5,a6,a7,a8,some (.bl g),a10,some (.int i),v12,a13] S:=by
  rw [zbM];walk_at "wp";refine zhO (k:=5) ?_
  try walk_at "wp"
  refine⟨by decide,?_⟩;rw [zbN]
  try walk_at "wp"
  by_cases z:ns.getD 5 0 % 4<2
  ·have e:zfS cl=lAP:=by unfold zfS;rw [if_pos (hcl.mpr z)]
   rw [e]at h
   try simp only[decide_eq_true z]
   try walk_at "wp"
   exact⟨l6,fun ad' had=>h _ ad' _ (.put .refl had) (by rw [zaf];first |rfl | (simp [z,lAP]))⟩
  ·have e:zfS cl=lTG:=by unfold zfS;rw [if_neg (fun y=>z (hcl.mp y))]
   rw [e]at h
   try simp only[decide_eq_false z]
   try walk_at "wp"
   exact⟨l6,fun ad' had=>h _ ad' _ (.put .refl had) (by rw [zaf];first |rfl | (simp [z,lTG]))⟩
 rw [zbb];walk_at "wp";by_cases h2:i<2
 ·rw [if_pos (by first |exact h2 |simpa using h2)]
  try walk_at "wp"
  exact set
 ·rw [if_neg (by first |exact h2 |simpa using h2)];have hg:g=false:=by rcases hi with z |z;exact absurd z h2;exact z
  subst hg
  try walk_at "wp"
  exact set
theorem znR{i:Int}{v12:Option W}(hi:¬i<2) (h:D.nx [some (.scr ns),a1,a2,a3,a4,a5,a6,a7,a8,some (.bl true),a10,some (.int i),v12,a13] S) :
  zbb 199 E D [some (.scr ns),a1,a2,a3,a4,a5,a6,a7,a8,some (.bl true),a10,some (.int i),v12,a13] S:=by
 rw [zbb];walk_at "wp";rw [if_neg (by first |exact hi |simpa using hi)]
 try walk_at "wp"
 exact h
theorem zqG (fw:S aw=some (.lst (six w0 w1 w2 w3 w4 w5))) (fl:S al=some (.lst [zau (waO w0 w2 w5 n,false),zau (waX w0 w2 w5 n,true)])) (fd:S ad=some (.lst (if decide (400<4*n+7)=true then lTG else [])))
  (h:∀S' al' ad' L due b11 b12 b13,Sub S S'→Sts w0 w1 w2 w3 w4 w5 n L due→S' al'=some (.lst (L.map zau))→S' ad'=some (.lst due)→T E D [some (.scr ns),some (.ref aw),a2,a3,a4,a5,a6,a7,some (.ref al'),some (.bl (decide (400<4*n+7))),some (.ref ad'),b11,b12,b13] S') :
  zbJ 199 T E D [some (.scr ns),some (.ref aw),a2,a3,a4,a5,a6,a7,some (.ref al),some (.bl (decide (400<4*n+7))),some (.ref ad),a11,a12,a13] S:=by
 have hno:(if decide (400<4*n+7)=true then lTG else [])=if 400<4*n+7 then lTG else([]:List W):=by
  by_cases z:400<4*n+7
  ·simp [z]
  ·simp [z]
 rw [hno]at fd;rw [zbJ];walk_at "wp";refine zdC (by decide) fun c=>?_
 try walk_at "wp"
 refine⟨by decide,?_⟩;split
 ·rw [zco];walk_at "wp";refine zdC (by decide) fun c'=>?_
  try walk_at "wp"
  have m0:=Int.emod_nonneg (c' / 5) (show(3:Int)≠0 by decide)
  have m1:=Int.emod_lt_of_pos (c' / 5) (show(0:Int)<3 by decide)
  refine⟨⟨by decide,by decide⟩,by decide,?_⟩
  generalize c' / 5 % 3=i at m0 m1;rw [zcv];walk_at "wp";refine zhO (k:=5) ?_;refine zia (r:=198) fw fun X b cl od hcl=>?_;rw [zct];walk_at "wp";rw [zaj fl]
  try walk_at "wp"
  generalize ens:zau (X,b)=eX;obtain rfl |rfl |rfl:i=0∨i=1∨i=2:=by omega
  ·simp only[zaj fl,show zcZ [zau (waO w0 w2 w5 n,false),zau (waX w0 w2 w5 n,true)] none (some 0)=[] from rfl,show zcZ [zau (waO w0 w2 w5 n,false),zau (waX w0 w2 w5 n,true)] (some 0) none=[zau (waO w0 w2 w5 n,false),zau (waX w0 w2 w5 n,true)] from rfl];refine⟨by decide,zai (by simp),zai (by simp),fun al' hal'=>?_⟩;refine zgR (.inl (by decide)) hcl fun S' ad' y13 s' fd'=>?_;subst ens;exact h S' al' ad' [(X,b),(waO w0 w2 w5 n,false),(waX w0 w2 w5 n,true)] _ _ _ _ ((Sub.put .refl hal').trans s') (.a0 od) (s' _ _ (by rw [zaf];rfl)) fd'
  ·simp only[zaj fl,show zcZ [zau (waO w0 w2 w5 n,false),zau (waX w0 w2 w5 n,true)] none (some 1)=[zau (waO w0 w2 w5 n,false)] from rfl,show zcZ [zau (waO w0 w2 w5 n,false),zau (waX w0 w2 w5 n,true)] (some 1) none=[zau (waX w0 w2 w5 n,true)] from rfl];refine⟨by decide,zai (by simp),zai (by simp),fun al' hal'=>?_⟩;refine zgR (.inl (by decide)) hcl fun S' ad' y13 s' fd'=>?_;subst ens;exact h S' al' ad' [(waO w0 w2 w5 n,false),(X,b),(waX w0 w2 w5 n,true)] _ _ _ _ ((Sub.put .refl hal').trans s') (.a1 od) (s' _ _ (by rw [zaf];rfl)) fd'
  ·simp only[zaj fl,show zcZ [zau (waO w0 w2 w5 n,false),zau (waX w0 w2 w5 n,true)] none (some 2)=[zau (waO w0 w2 w5 n,false),zau (waX w0 w2 w5 n,true)] from rfl,show zcZ [zau (waO w0 w2 w5 n,false),zau (waX w0 w2 w5 n,true)] (some 2) none=[] from rfl];refine⟨by decide,zai (by simp),zai (by simp),fun al' hal'=>?_⟩;by_cases big:400<4*n+7
   ·have eb:decide (400<4*n+7)=true:=by simp [big]
    rw [eb]at h⊢;refine znR (by decide) ?_;subst ens;have s1:Sub S (put S al' (.lst ([zau (waO w0 w2 w5 n,false),zau (waX w0 w2 w5 n,true)]++[zau (X,b)]++[]))):= .put .refl hal';exact h _ al' ad [(waO w0 w2 w5 n,false),(waX w0 w2 w5 n,true),(X,b)] (if 400<4*n+7 then lTG else zfS cl) _ _ _ s1 (.a2 od) (by rw [zaf];rfl) (by rw [s1 _ _ fd,if_pos big,if_pos big])
   ·have eb:decide (400<4*n+7)=false:=by simp [big]
    rw [eb]at h⊢;refine zgR (.inr rfl) hcl fun S' ad' y13 s' fd'=>?_;subst ens;have:=Sts.a2 (n:=n) (b:=b) od;rw [if_neg big]at this;exact h S' al' ad' [(waO w0 w2 w5 n,false),(waX w0 w2 w5 n,true),(X,b)] _ _ _ _ ((Sub.put .refl hal').trans s') this (s' _ _ (by rw [zaf];rfl)) fd'
 ·exact h S al ad _ _ _ _ _ .refl .no fl fd
end
theorem zji{f:W→W→Option Bool}{w0 w1 w2 w3 w4 w5:Str}{n:Nat}{L:List (Tr×Bool)}{due:List W}(hf:∀b,f (.bl b) (.bl b)=some true) (h:Sts w0 w1 w2 w3 w4 w5 n L due):zdw f due due=some true:=by
 have e1:zdw f lTG lTG=some true:=by simp [lTG,zdw,hf]
 have e2:zdw f lAP lAP=some true:=by simp [lAP,zdw,hf]
 have e3:zdw f [] []=some true:=rfl;have ec:∀cl,zdw f (zfS cl) (zfS cl)=some true:=fun cl=>by unfold zfS;split<;>assumption
 cases h with
 |no=>split<;>assumption
 |a0 _=>exact ec _
 |a1 _=>exact ec _
 |a2 _=>split;assumption;exact ec _
theorem zqH (ns:List Int) (hl:ns.length≤63):zbW 200 [.scr ns] (fun _=>none) (fun w _=>w= .bl true) (fun _ _=>False):=by
 rw [show(200:Nat)=199+1 from rfl,zbW,zhA];refine⟨rfl,?_⟩;refine zso fun S1 aw w0 w1 w2 w3 w4 w5 G fw=>zrD fw (zqZ fw fun ab hb=>zsx fun n hn=>zrx (keep fw hb) hn (zpM (keep fw hb) (zsq (keep fw hb) fun al hal=>zsi (zlh fun S2 ad s2 fd=>?_))));have fb2:=s2 _ _ (keep (x:=Ob.lst [zau (waO w0 w2 w5 n,false),zau (waX w0 w2 w5 n,true)]) (zaf (S:=S1) (a:=ab) (o:= .lst ((bkK w0 w1 w2 w3 w4).map zdx))) hal);have fw2:=s2 _ _ (keep (x:=Ob.lst [zau (waO w0 w2 w5 n,false),zau (waX w0 w2 w5 n,true)]) (keep (x:=Ob.lst ((bkK w0 w1 w2 w3 w4).map zdx)) fw hb) hal);have fl2:=s2 _ _ (zaf (S:=put S1 ab (.lst ((bkK w0 w1 w2 w3 w4).map zdx))) (a:=al) (o:= .lst [zau (waO w0 w2 w5 n,false),zau (waX w0 w2 w5 n,true)]));refine zqG fw2 fl2 fd fun S3 al' ad' L due b11 b12 b13 s3 hs f1 f2=>?_;rw [zcq];walk_at "wp";refine ziP (r:=198) G (by omega) hs (s3 _ _ fb2) f1 (by omega) fun q S' s' fq=>?_;rw [znZ (n:=59) fq (s' _ _ f2) (zji (fun b=>by cases b<;>rfl) hs)]
 try walk_at "wp"
 first |exact⟨_, .refl,rfl⟩ |exact⟨_, .refl⟩
end L2
end
end
section
namespace K48
open PySem L2 PyProof.Rows
noncomputable def top (i:Nat):Stmt:=PySem.Challenge.pw_turnweave_k48_refused_windings.main.body.getD i (.Pass ⟨0,0,0,0⟩)
structure Cal (P:Program) (w:World) (K:PySem.W.Frag) (mg:Str→Option Value) (base:Heap) (nm:Str) (ps:List Str) (c:Nat→WSp) where
  zf:Addr
  zd:FuncData
  zg:∀r,FnOk P w K mg base (CX1 P w) r zf zd ps (zbt K (c r))
  zb:Binds K zd ps []
  zk:PySem.W.keepIn K (.ref zf)=true
  zm:mg nm=some (.ref zf)
noncomputable def mkC {P:Program}{w:World}{K:PySem.W.Frag}{h:Heap}{mg:Str→Option Value}{base:Heap}{nm:Str}{st:Stmt}{ps:List Str}{c:Nat→WSp}{f:Addr}{d:FuncData}(X:K.In h) (G:h.Ns mainGlobals mg) (F:Fun K nm nm st f d) (a:PySem.W.nsIn K mainGlobals nm=some (some (.ref f))) (g:∀r,FnOk P w K mg base (CX1 P w) r f d ps (zbt K (c r))) (b:Binds K d ps []):Cal P w K mg base nm ps c:=⟨f,d,g,b,F.kp,PySem.W.mg_of X G a⟩
noncomputable def Dfn (K:PySem.W.Frag) (nm:Str) (st:Stmt):Prop:=∃f d,PySem.W.nsIn K mainGlobals nm=some (some (.ref f))∧Fun K nm nm st f d
theorem dfn{K:PySem.W.Frag}{x:Str}{st:Stmt}{f:Addr}{oc:Value}{od an:Option Addr}{osl:Array (Option Value)}{kV doc pm cdv ct:Value}(a:PySem.W.nsIn K mainGlobals x=some (some (.ref f))) (l:K.lookup f=some ⟨oc,od, .func (PySem.W.fnOf x x (zdY st) (zdz st) (zao st) .none kV doc pm an cdv ct),osl⟩) (c:PySem.W.codeIn K cdv x=true) (k:PySem.W.keepIn K (.ref f)=true):Dfn K x st:=⟨f,_,a,zoY l c k⟩
theorem nC{p:List Value→Prop}{k:Nat}(h:∀a us,us.length=k→p (a::us)):∀us,us.length=k+1→p us:=fun us e=>by
 cases us with
 |nil=>cases e
 |cons a us=>exact h a us (Nat.succ.inj e)
theorem n0{p:List Value→Prop}(h:p []):∀us,us.length=0→p us:=fun us e=>by
 cases us with
 |nil=>exact h
 |cons a us=>cases e
theorem n1{p:List Value→Prop}(h:∀a,p [a]):∀us,us.length=1→p us:=nC fun a=>n0 (p:=fun us=>p (a::us)) (h a)
theorem n2{p:List Value→Prop}(h:∀a b,p [a,b]):∀us,us.length=2→p us:=nC fun a=>n1 (p:=fun us=>p (a::us)) (h a)
theorem n3{p:List Value→Prop}(h:∀a b c,p [a,b,c]):∀us,us.length=3→p us:=nC fun a=>n2 (p:=fun us=>p (a::us)) (h a)
theorem n4{p:List Value→Prop}(h:∀a b c d,p [a,b,c,d]):∀us,us.length=4→p us:=nC fun a=>n3 (p:=fun us=>p (a::us)) (h a)
theorem n5{p:List Value→Prop}(h:∀a b c d e,p [a,b,c,d,e]):∀us,us.length=5→p us:=nC fun a=>n4 (p:=fun us=>p (a::us)) (h a)
theorem n6{p:List Value→Prop}(h:∀a b c d e f,p [a,b,c,d,e,f]):∀us,us.length=6→p us:=nC fun a=>n5 (p:=fun us=>p (a::us)) (h a)
local macro_rules | `(tactic| walk_at "sc") => `(tactic| (refine ⟨rfl, rfl, rfl, ?_, rfl, ?_, ?_⟩ <;> decide +kernel))
noncomputable abbrev Ok (P:Program) (w:World) (K:PySem.W.Frag) (mg:Str→Option Value) (base:Heap) (f:Addr) (d:FuncData) (ps:List Str) (c:Nat→WSp):Prop:=∀r,FnOk P w K mg base (CX1 P w) r f d ps (zbt K (c r))
theorem zej{P:Program}{w:World}{K:PySem.W.Frag}{mg:Str→Option Value}{base:Heap}{f:Addr}{d:FuncData}{ps:List Str}{c:Nat→WSp}(h0:c 0=zbD) (h:∀r,FnOk P w K mg base (CX1 P w) r f d ps (zbt K (c r))→FnOk P w K mg base (CX1 P w) (r+1) f d ps (zbt K (c (r+1)))):Ok P w K mg base f d ps c:=fun r=>by
 induction r with
 |zero=>rw [h0];exact zpf
 |succ r ih=>exact h r ih
structure Ncl (mg:Str→Option Value) (x:Str) where
  xC:Addr
  xm:mg x=some (.ref xC)
theorem zcw:bootBuiltins "ValueError" =some (.type "ValueError"):=by first |rfl |decide +kernel | (unfold bootBuiltins;decide +kernel)
noncomputable abbrev s0:Stmt:=top 10
theorem sc0:FnScope ["t"] ["t"] (zao s0):=by walk_at "sc"
noncomputable abbrev s1:Stmt:=top 11
theorem sc1:FnScope ["things", "found", "thing"] ["things"] (zao s1):=by walk_at "sc"
noncomputable abbrev s2:Stmt:=top 12
theorem sc2:FnScope ["t", "heavy", "deep", "level"] ["t"] (zao s2):=by walk_at "sc"
noncomputable abbrev s3:Stmt:=top 14
theorem sc3:FnScope ["side", "things"] ["side", "things"] (zao s3):=by walk_at "sc"
noncomputable abbrev s4:Stmt:=top 17
theorem sc4:FnScope ["one", "other"] ["one", "other"] (zao s4):=by walk_at "sc"
noncomputable abbrev s5:Stmt:=top 16
theorem sc5:FnScope ["left", "t", "things", "inner", "thing"] ["left", "t", "things"] (zao s5):=by walk_at "sc"
noncomputable abbrev s6:Stmt:=top 15
theorem sc6:FnScope ["left", "t", "things"] ["left", "t"] (zao s6):=by walk_at "sc"
noncomputable abbrev s7:Stmt:=top 21
theorem sc7:FnScope ["book", "title", "turning"] ["book", "title"] (zao s7):=by walk_at "sc"
noncomputable abbrev s8:Stmt:=top 25
theorem sc8:FnScope ["shape"] ["shape"] (zao s8):=by walk_at "sc"
noncomputable abbrev s9:Stmt:=top 26
theorem sc9:FnScope ["book", "way", "side", "parts", "turning"] ["book", "way", "side"] (zao s9):=by walk_at "sc"
noncomputable abbrev s10:Stmt:=top 23
theorem ztj:FnScope ["book", "way"] ["book", "way"] (zao s10):=by walk_at "sc"
noncomputable abbrev s11:Stmt:=top 24
theorem ztd:FnScope ["book", "way"] ["book", "way"] (zao s11):=by walk_at "sc"
noncomputable abbrev s12:Stmt:=top 28
theorem sc12:FnScope ["book", "way", "other", "first", "second", "mine", "yours", "parts"] ["book", "way", "other"] (zao s12):=by walk_at "sc"
noncomputable abbrev s13:Stmt:=top 32
theorem sc13:FnScope ["book", "ways", "way"] ["book", "ways"] (zao s13):=by walk_at "sc"
noncomputable abbrev s14:Stmt:=top 31
theorem sc14:FnScope ["book", "way", "ways", "line", "over", "way_on"] ["book", "way", "ways"] (zao s14):=by walk_at "sc"
noncomputable abbrev s15:Stmt:=top 30
theorem sc15:FnScope ["book", "road", "other", "downs", "row", "overs", "way", "line"] ["book", "road", "other"] (zao s15):=by walk_at "sc"
noncomputable abbrev s16:Stmt:=top 33
theorem zsU:FnScope ["downs_and_overs"] ["downs_and_overs"] (zao s16):=by walk_at "sc"
noncomputable abbrev s17:Stmt:=top 35
theorem sc17:FnScope ["book", "shape", "steps", "first", "second", "way", "leads_on", "start", "stop", "stands", "downs_and_overs"] ["book", "shape", "steps"] (zao s17):=by walk_at "sc"
noncomputable abbrev s18:Stmt:=top 37
theorem zsY:FnScope ["script", "k"] ["script", "k"] (zao s18):=by walk_at "sc"
noncomputable abbrev s19:Stmt:=top 38
theorem sc19:FnScope ["one", "two", "great", "signs", "rest", "base", "k", "at", "words", "word"] ["one", "two", "great"] (zao s19):=by walk_at "sc"
noncomputable abbrev s20:Stmt:=top 39
theorem sc20:FnScope ["book", "shape", "steps", "kinds", "e"] ["book", "shape", "steps"] (zao s20):=by walk_at "sc"
noncomputable abbrev s21:Stmt:=top 40
theorem sc21:FnScope ["cell", "w", "way", "k"] ["cell", "w"] (zao s21):=by walk_at "sc"
noncomputable abbrev s22:Stmt:=top 41
theorem sc22:FnScope ["script", "w", "c", "book", "flat", "leaf", "inner", "shape", "steps", "great", "due", "at", "odd", "apart"] ["script"] (zao s22):=by walk_at "sc"
section
variable (P:Program) (w:World) (K:PySem.W.Frag) (mg:Str→Option Value) (base:Heap)
noncomputable abbrev C0:=Cal P w K mg base "parts_of" ["t"] zbU
noncomputable abbrev C1:=Cal P w K mg base "parts_of_all" ["things"] zaE
noncomputable abbrev C2:=Cal P w K mg base "is_small" ["t"] zbl
noncomputable abbrev C3:=Cal P w K mg base "filled" ["side", "things"] zbw
noncomputable abbrev C4:=Cal P w K mg base "have_one_top" ["one", "other"] zaW
noncomputable abbrev C5:=Cal P w K mg base "gather_matched" ["left", "t", "things"] zar
noncomputable abbrev C6:=Cal P w K mg base "matched" ["left", "t"] zbo
noncomputable abbrev C7:=Cal P w K mg base "turning_of" ["book", "title"] zaC
noncomputable abbrev C8:=Cal P w K mg base "only_small" ["shape"] zaD
noncomputable abbrev C9:=Cal P w K mg base "with_sides" ["book", "way", "side"] zaQ
noncomputable abbrev C10:=Cal P w K mg base "source" ["book", "way"] zdp
noncomputable abbrev C11:=Cal P w K mg base "goal" ["book", "way"] zeM
noncomputable abbrev C12:=Cal P w K mg base "moved" ["book", "way", "other"] zbO
noncomputable abbrev C13:=Cal P w K mg base "check_goals" ["book", "ways"] zaJ
noncomputable abbrev C14:=Cal P w K mg base "moved_along" ["book", "way", "ways"] zbi
noncomputable abbrev C15:=Cal P w K mg base "grid" ["book", "road", "other"] zfL
noncomputable abbrev C16:=Cal P w K mg base "last_downs" ["downs_and_overs"] zbE
noncomputable abbrev C17:=Cal P w K mg base "valley" ["book", "shape", "steps"] zdn
noncomputable abbrev C18:=Cal P w K mg base "_law_cell" ["script", "k"] zat
noncomputable abbrev C19:=Cal P w K mg base "_law_words" ["one", "two", "great"] zbq
noncomputable abbrev C20:=Cal P w K mg base "_law_told" ["book", "shape", "steps"] zaS
noncomputable abbrev C21:=Cal P w K mg base "_law_odd_step" ["cell", "w"] zaP
end
section
variable {P:Program}{w:World}{K:PySem.W.Frag}{mg:Str→Option Value}{base:Heap}
theorem o0{f:Addr}{d:FuncData}(F:Fun K "parts_of" "parts_of" s0 f d) (n_i:mg "isinstance" =none) (n_n:mg "int" =none):Ok P w K mg base f d ["t"] zbU:=zej rfl fun r ih=>zbz F sc0 rfl rfl fun _ _ _ _ _ _ hr=>(zad (zbv (zbI (zjo rfl n_i rfl n_n PyProof.Rows.boot_int (jv 0) (by decide) (by decide) (zro _ (by simp)))) (zak (zav (zas zac))) zaR)
  (zak (zav (zgf (jv 0) (zbC zae) zby))))
theorem o1{f:Addr}{d:FuncData}(F:Fun K "parts_of_all" "parts_of_all" s1 f d) (x0:C0 P w K mg base):Ok P w K mg base f d ["things"] zaE:=zej rfl fun r ih=>zbz F sc1 rfl rfl fun _ _ _ _ _ _ hr=>(zad (zal (i:=1) sc1.nd rfl (Or.inl rfl) (zaF (zaI zac)))
  (zad (zcE (zdb (jv 0)) (zaG (i:=2) sc1.nd rfl (Or.inl rfl)) (zak (zbr (ziM (jv 1) (zaa (zam (x0.zg r) hr rfl x0.zm x0.zk x0.zb (zaa (jv 2) zac)) zac)))))
  (zak (zav (jv 1)))))
theorem o2{f:Addr}{d:FuncData}(F:Fun K "is_small" "is_small" s2 f d) (x1:C1 P w K mg base) (n_l:mg "len" =none) {t_MOST_HEAVY:Tok}(g_MOST_HEAVY:mg "MOST_HEAVY" =some (.int 400 t_MOST_HEAVY)) {t_MOST_DEEP:Tok}(g_MOST_DEEP:mg "MOST_DEEP" =some (.int 40 t_MOST_DEEP)):Ok P w K mg base f d ["t"] zbl:=zej rfl fun r ih=>zbz F sc2 rfl rfl fun _ _ _ _ _ _ hr=>(zad (zal (i:=1) sc2.nd rfl (Or.inl rfl) zae)
  (zad (zal (i:=2) sc2.nd rfl (Or.inl rfl) zae)
  (zad (zal (i:=3) sc2.nd rfl (Or.inl rfl) (zaF (zaI (zaa (jv 0) zac))))
  (zad (zkZ (zbI (jv 3)) (zad (zmA (i:=1) sc2.nd rfl (Or.inl rfl) (zeH rfl n_l (zaa (jv 3) zac)))
  (zad (zmA (i:=2) sc2.nd rfl (Or.inl rfl) zae)
  (zad (zbv (JW.jt (zqA (zmT (jv 1) (zcT rfl g_MOST_HEAVY)) (zmz (zmT (jv 2) (zcT rfl g_MOST_DEEP))))) (zak (zav zcc)) zaR)
  (zak (zal (i:=3) sc2.nd rfl (Or.inl rfl) (zam (x1.zg r) hr rfl x1.zm x1.zk x1.zb (zaa (jv 3) zac))))))))
  (zak (zav zcc))))))
theorem o3{f:Addr}{d:FuncData}(F:Fun K "filled" "filled" s3 f d) (b:Binds K d ["side", "things"] []) (m:mg "filled" =some (.ref f)) (n_i:mg "isinstance" =none) (n_n:mg "int" =none) (n_t:mg "tuple" =none):Ok P w K mg base f d ["side", "things"] zbw:=zej rfl fun r ih=>zbz F sc3 rfl rfl fun _ _ _ _ _ _ hr=>(zad (zbv (zbI (zjo rfl n_i rfl n_n PyProof.Rows.boot_int (jv 0) (by decide) (by decide) (zro _ (by simp)))) (zak (zav (zay (jv 1) (jv 0)))) zaR)
  (zak (zav (zcr (zas (zaa (zay (jv 0) zae) zac)) (ziL rfl n_t (zgK (N:=["inner", "things"]) (k:=1) (fr:=[1]) ⟨rfl,by decide +kernel,rfl,rfl,rfl,rfl,rfl,rfl,rfl⟩ (zdb (zgf (jv 0) (zbC zae) zby)) (fun _ _ _ _=>(zaG (i:=0) (show List.Nodup [("inner" :Str),("things" :Str)] from by decide +kernel) rfl (Or.inl rfl))) (fun _ _ _ _=>zdy) (fun _ _ _ _=>(zam ih hr rfl m F.kp b (zaa (jv 0) (zaa (jv 1) zac))))))))))
theorem o4{f:Addr}{d:FuncData}(F:Fun K "have_one_top" "have_one_top" s4 f d) (n_l:mg "len" =none):Ok P w K mg base f d ["one", "other"] zaW:=zej rfl fun r ih=>zbz F sc4 rfl rfl fun _ _ _ _ _ _ hr=>(zak (zav (zoZ (zgV hr (zay (jv 0) zae) (zay (jv 1) zae)) (zqp (zgV hr (zeH rfl n_l (zaa (jv 0) zac)) (zeH rfl n_l (zaa (jv 1) zac)))))))
theorem o5{f:Addr}{d:FuncData}(F:Fun K "gather_matched" "gather_matched" s5 f d) (x4:C4 P w K mg base) (b:Binds K d ["left", "t", "things"] []) (m:mg "gather_matched" =some (.ref f)) (n_i:mg "isinstance" =none) (n_n:mg "int" =none) (n_z:mg "zip" =none):Ok P w K mg base f d ["left", "t", "things"] zar:=zej rfl fun r ih=>zbz F sc5 rfl rfl fun _ _ _ _ _ _ hr=>(zad (zbv (zbI (zjo rfl n_i rfl n_n PyProof.Rows.boot_int (jv 0) (by decide) (by decide) (zro _ (by simp)))) (zad (zbr (zbT (jv 2) (zaa (jv 1) zac)))
  (zak (zav zcc))) zaR)
  (zad (zbv (zfW (zbI (zam (x4.zg r) hr rfl x4.zm x4.zk x4.zb (zaa (jv 0) (zaa (jv 1) zac))))) (zak (zav zcc)) zaR)
  (zad (zcE (zkf rfl n_z (zgf (jv 0) (zbC zae) zby) (zgf (jv 1) (zbC zae) zby)) (zhU (zbG (zaG (i:=3) sc5.nd rfl (Or.inl rfl)) (zbG (zaG (i:=4) sc5.nd rfl (Or.inl rfl)) zfk)) (glS (glS gl0))) (zak (zbv (zfW (zbI (zam ih hr rfl m F.kp b (zaa (jv 3) (zaa (jv 4) (zaa (jv 2) zac)))))) (zak (zav zcc)) zaR)))
  (zak (zav zcc)))))
theorem o6{f:Addr}{d:FuncData}(F:Fun K "matched" "matched" s6 f d) (x5:C5 P w K mg base):Ok P w K mg base f d ["left", "t"] zbo:=zej rfl fun r ih=>zbz F sc6 rfl rfl fun _ _ _ _ _ _ hr=>(zad (zal (i:=2) sc6.nd rfl (Or.inl rfl) (zaF (zaI zac)))
  (zad (zbv (zbI (zam (x5.zg r) hr rfl x5.zm x5.zk x5.zb (zaa (jv 0) (zaa (jv 1) (zaa (jv 2) zac))))) (zak (zav (jv 2))) zaR)
  (zak (zav zdG))))
theorem o7{f:Addr}{d:FuncData}(F:Fun K "turning_of" "turning_of" s7 f d):Ok P w K mg base f d ["book", "title"] zaC:=zej rfl fun r ih=>zbz F sc7 rfl rfl fun _ _ _ _ _ _ hr=>(zad (zcE (zdb (jv 0)) (zaG (i:=2) sc7.nd rfl (Or.inl rfl)) (zak (zbv (znt hr (zay (jv 2) zae) (jv 1)) (zak (zav (jv 2))) zaR)))
  (zak (zav zdG)))
theorem o8{f:Addr}{d:FuncData}(F:Fun K "only_small" "only_small" s8 f d) (x2:C2 P w K mg base) (y_TooGreat:Ncl mg "TooGreat") (v_TooGreat:XcIn K "TooGreat" y_TooGreat.xC):Ok P w K mg base f d ["shape"] zaD:=zej rfl fun r ih=>zbz F sc8 rfl rfl fun _ _ _ _ _ _ hr=>(zad (zbv (zfW (zbI (zam (x2.zg r) hr rfl x2.zm x2.zk x2.zb (zaa (jv 0) zac)))) (zak (zeV v_TooGreat rfl y_TooGreat.xm (zaa zcl zac))) zaR)
  (zak (zav (jv 0))))
theorem o9{f:Addr}{d:FuncData}(F:Fun K "with_sides" "with_sides" s9 f d) (x7:C7 P w K mg base) (x3:C3 P w K mg base) (b:Binds K d ["book", "way", "side"] []) (m:mg "with_sides" =some (.ref f)) (n_t:mg "tuple" =none):Ok P w K mg base f d ["book", "way", "side"] zaQ:=zej rfl fun r ih=>zbz F sc9 rfl rfl fun _ _ _ _ _ _ hr=>(zad (zgZ (i:=3) (N:=["inner", "book", "side"]) (k:=1) (fr:=[0,2]) sc9.nd rfl (Or.inl rfl) ⟨rfl,by decide +kernel,rfl,rfl,rfl,rfl,rfl,rfl,rfl⟩ (zdb (zgf (jv 1) (zbC zae) zby)) (fun _ _ _ _=>(zaG (i:=0) (show List.Nodup [("inner" :Str),("book" :Str),("side" :Str)] from by decide +kernel) rfl (Or.inl rfl))) (fun _ _ _ _=>zdy) (fun _ _ _ _=>(zam ih hr rfl m F.kp b (zaa (jv 1) (zaa (jv 0) (zaa (jv 2) zac))))))
  (zad (zal (i:=4) sc9.nd rfl (Or.inl rfl) (zam (x7.zg r) hr rfl x7.zm x7.zk x7.zb (zaa (jv 0) (zaa (zay (jv 1) zae) zac))))
  (zad (zbv (zly (jv 4) zdG) (zak (zav (zcr (zas (zaa (zay (jv 1) zae) zac)) (zhn rfl n_t (zaa (jv 3) zac))))) zaR)
  (zak (zav (zam (x3.zg r) hr rfl x3.zm x3.zk x3.zb (zaa (zay (jv 4) (jv 2)) (zaa (jv 3) zac))))))))
theorem o10{f:Addr}{d:FuncData}(F:Fun K "source" "source" s10 f d) (x8:C8 P w K mg base) (x9:C9 P w K mg base) {t_LEFT:Tok}(g_LEFT:mg "LEFT" =some (.int 1 t_LEFT)):Ok P w K mg base f d ["book", "way"] zdp:=zej rfl fun r ih=>zbz F ztj rfl rfl fun _ _ _ _ _ _ hr=>(zak (zav (zam (x8.zg r) hr rfl x8.zm x8.zk x8.zb (zaa (zam (x9.zg r) hr rfl x9.zm x9.zk x9.zb (zaa (jv 0) (zaa (jv 1) (zaa (zcT rfl g_LEFT) zac)))) zac))))
theorem o11{f:Addr}{d:FuncData}(F:Fun K "goal" "goal" s11 f d) (x8:C8 P w K mg base) (x9:C9 P w K mg base) {t_RIGHT:Tok}(g_RIGHT:mg "RIGHT" =some (.int 2 t_RIGHT)):Ok P w K mg base f d ["book", "way"] zeM:=zej rfl fun r ih=>zbz F ztd rfl rfl fun _ _ _ _ _ _ hr=>(zak (zav (zam (x8.zg r) hr rfl x8.zm x8.zk x8.zb (zaa (zam (x9.zg r) hr rfl x9.zm x9.zk x9.zb (zaa (jv 0) (zaa (jv 1) (zaa (zcT rfl g_RIGHT) zac)))) zac))))
theorem o12{f:Addr}{d:FuncData}(F:Fun K "moved" "moved" s12 f d) (x7:C7 P w K mg base) (x3:C3 P w K mg base) (x6:C6 P w K mg base) (b:Binds K d ["book", "way", "other"] []) (m:mg "moved" =some (.ref f)) (n_z:mg "zip" =none) (n_t:mg "tuple" =none) {t_RIGHT:Tok}(g_RIGHT:mg "RIGHT" =some (.int 2 t_RIGHT)) {t_LEFT:Tok}(g_LEFT:mg "LEFT" =some (.int 1 t_LEFT)):Ok P w K mg base f d ["book", "way", "other"] zbO:=zej rfl fun r ih=>zbz F sc12 rfl rfl fun _ _ _ _ _ _ hr=>(zad (zal (i:=3) sc12.nd rfl (Or.inl rfl) (zam (x7.zg r) hr rfl x7.zm x7.zk x7.zb (zaa (jv 0) (zaa (zay (jv 1) zae) zac))))
  (zad (zal (i:=4) sc12.nd rfl (Or.inl rfl) (zam (x7.zg r) hr rfl x7.zm x7.zk x7.zb (zaa (jv 0) (zaa (zay (jv 2) zae) zac))))
  (zad (zal (i:=5) sc12.nd rfl (Or.inl rfl) (zgf (jv 1) (zbC zae) zby))
  (zad (zal (i:=6) sc12.nd rfl (Or.inl rfl) (zgf (jv 2) (zbC zae) zby))
  (zad (zbv (JW.jt (zix (zly (jv 3) zdG) (zgW (zho (jv 4) zdG)))) (zak (zal (i:=5) sc12.nd rfl (Or.inl rfl) (zam (x6.zg r) hr rfl x6.zm x6.zk x6.zb (zaa (zay (jv 4) (zcT rfl g_LEFT)) (zaa (jv 1) zac))))) zaR)
  (zad (zbv (JW.jt (zix (zho (jv 3) zdG) (zgW (zly (jv 4) zdG)))) (zak (zal (i:=6) sc12.nd rfl (Or.inl rfl) (zam (x6.zg r) hr rfl x6.zm x6.zk x6.zb (zaa (zay (jv 3) (zcT rfl g_LEFT)) (zaa (jv 2) zac))))) zaR)
  (zad (zgZ (i:=7) (N:=["inner", "outer", "book"]) (k:=2) (fr:=[0]) sc12.nd rfl (Or.inl rfl) ⟨rfl,by decide +kernel,rfl,rfl,rfl,rfl,rfl,rfl,rfl⟩ (zkf rfl n_z (jv 5) (jv 6)) (fun _ _ _ _=>(zhU (zbG (zaG (i:=0) (show List.Nodup [("inner" :Str),("outer" :Str),("book" :Str)] from by decide +kernel) rfl (Or.inl rfl)) (zbG (zaG (i:=1) (show List.Nodup [("inner" :Str),("outer" :Str),("book" :Str)] from by decide +kernel) rfl (Or.inl rfl)) zfk)) (glS (glS gl0)))) (fun _ _ _ _=>zdy) (fun _ _ _ _=>(zam ih hr rfl m F.kp b (zaa (jv 2) (zaa (jv 0) (zaa (jv 1) zac))))))
  (zad (zbv (zly (jv 4) zdG) (zak (zav (zcr (zas (zaa (zay (jv 1) zae) zac)) (zhn rfl n_t (zaa (jv 7) zac))))) zaR)
  (zak (zav (zam (x3.zg r) hr rfl x3.zm x3.zk x3.zb (zaa (zay (jv 4) (zcT rfl g_RIGHT)) (zaa (jv 7) zac)))))))))))))
theorem o13{f:Addr}{d:FuncData}(F:Fun K "check_goals" "check_goals" s13 f d) (x11:C11 P w K mg base):Ok P w K mg base f d ["book", "ways"] zaJ:=zej rfl fun r ih=>zbz F sc13 rfl rfl fun _ _ _ _ _ _ hr=>(zak (zcE (zdb (jv 1)) (zaG (i:=2) sc13.nd rfl (Or.inl rfl)) (zak (zbr (zam (x11.zg r) hr rfl x11.zm x11.zk x11.zb (zaa (jv 0) (zaa (jv 2) zac)))))))
theorem o14{f:Addr}{d:FuncData}(F:Fun K "moved_along" "moved_along" s14 f d) (x12:C12 P w K mg base) (x13:C13 P w K mg base):Ok P w K mg base f d ["book", "way", "ways"] zbi:=zej rfl fun r ih=>by
  refine zbz F sc14 rfl rfl fun _ _ _ _ _ _ hr=>?_;delta zbe zaY zba zaZ zbg zbf;delta zbA;delta zbe zaY zba zaZ zbg zbf;exact(zad (zal (i:=3) sc14.nd rfl (Or.inl rfl) (zaF (zaI (zaa (jv 1) zac))))
  (zad (zcE (zdb (jv 2)) (zaG (i:=4) sc14.nd rfl (Or.inl rfl)) (zad (zal (i:=5) sc14.nd rfl (Or.inl rfl) (zam (x12.zg r) hr rfl x12.zm x12.zk x12.zb (zaa (jv 0) (zaa (zay (jv 3) (ziX zae)) (zaa (jv 4) zac)))))
  (zad (zbr (zam (x13.zg r) hr rfl x13.zm x13.zk x13.zb (zaa (jv 0) (zaa (zaF (zaI (zaa (jv 5) zac))) zac))))
  (zak (zbr (zbT (jv 3) (zaa (jv 5) zac)))))))
  (zak (zav (jv 3)))))
theorem o15{f:Addr}{d:FuncData}(F:Fun K "grid" "grid" s15 f d) (x8:C8 P w K mg base) (x13:C13 P w K mg base) (x14:C14 P w K mg base) (x12:C12 P w K mg base) (n_s:mg "list" =none) (n_z:mg "zip" =none) (y_Apart:Ncl mg "Apart") (v_Apart:XcIn K "Apart" y_Apart.xC):Ok P w K mg base f d ["book", "road", "other"] zfL:=zej rfl fun r ih=>by
  refine zbz F sc15 rfl rfl fun _ _ _ _ _ _ hr=>?_;delta zdP zcx zcp zdd zdg zdU zdk zdh zds zdN zdO zdo zdf;delta zeW;delta zdP zcx zcp zdd zdg zdU zdk zdh zds zdN zdO zdo zdf;exact(zad (zbv (zpE hr (zay (jv 1) zae) (zay (jv 2) zae)) (zak (zeV v_Apart rfl y_Apart.xm (zaa zcl zac))) zaR)
  (zad (zbr (zam (x8.zg r) hr rfl x8.zm x8.zk x8.zb (zaa (zay (jv 1) zae) zac)))
  (zad (zbr (zam (x13.zg r) hr rfl x13.zm x13.zk x13.zb (zaa (jv 0) (zaa (zay (jv 1) zae) zac))))
  (zad (zbr (zam (x13.zg r) hr rfl x13.zm x13.zk x13.zb (zaa (jv 0) (zaa (zay (jv 2) zae) zac))))
  (zad (zal (i:=3) sc15.nd rfl (Or.inl rfl) (zaF (zaI zac)))
  (zad (zal (i:=4) sc15.nd rfl (Or.inl rfl) (zaF (zmZ rfl n_s (zay (jv 2) zae))))
  (zad (zal (i:=5) sc15.nd rfl (Or.inl rfl) (zaF (zaI (zaa (jv 4) zac))))
  (zad (zcE (zdb (zay (jv 1) zae)) (zaG (i:=6) sc15.nd rfl (Or.inl rfl)) (zad (zal (i:=7) sc15.nd rfl (Or.inl rfl) (zam (x14.zg r) hr rfl x14.zm x14.zk x14.zb (zaa (jv 0) (zaa (jv 6) (zaa (jv 4) zac)))))
  (zad (zgZ (i:=4) (N:=["over", "down", "book"]) (k:=2) (fr:=[0]) sc15.nd rfl (Or.inl rfl) ⟨rfl,by decide +kernel,rfl,rfl,rfl,rfl,rfl,rfl,rfl⟩ (zkf rfl n_z (jv 4) (jv 7)) (fun _ _ _ _=>(zhU (zbG (zaG (i:=0) (show List.Nodup [("over" :Str),("down" :Str),("book" :Str)] from by decide +kernel) rfl (Or.inl rfl)) (zbG (zaG (i:=1) (show List.Nodup [("over" :Str),("down" :Str),("book" :Str)] from by decide +kernel) rfl (Or.inl rfl)) zfk)) (glS (glS gl0)))) (fun _ _ _ _=>zdy) (fun _ _ _ _=>(zam (x12.zg r) hr rfl x12.zm x12.zk x12.zb (zaa (jv 2) (zaa (jv 0) (zaa (jv 1) zac))))))
  (zad (zbr (zbT (jv 3) (zaa (jv 7) zac)))
  (zak (zbr (zbT (jv 5) (zaa (jv 4) zac))))))))
  (zak (zav (zas (zaa (jv 3) (zaa (jv 5) zac)))))))))))))
theorem o16{f:Addr}{d:FuncData}(F:Fun K "last_downs" "last_downs" s16 f d):Ok P w K mg base f d ["downs_and_overs"] zbE:=zej rfl fun r ih=>zbz F zsU rfl rfl fun _ _ _ _ _ _ hr=>(zak (zav (zaF (zgK (N:=["line"]) (k:=1) (fr:=[]) ⟨rfl,by decide +kernel,rfl,rfl,rfl,rfl,rfl,rfl,rfl⟩ (zdb (zay (jv 0) zae)) (fun _ _ _ _=>(zaG (i:=0) (show List.Nodup [("line" :Str)] from by decide +kernel) rfl (Or.inl rfl))) (fun _ _ _ _=>zdy) (fun _ _ _ _=>(zay (jv 0) (ziX zae)))))))
theorem o17{f:Addr}{d:FuncData}(F:Fun K "valley" "valley" s17 f d) (x10:C10 P w K mg base) (x11:C11 P w K mg base) (x15:C15 P w K mg base) (x16:C16 P w K mg base) (y_Apart:Ncl mg "Apart") (v_Apart:XcIn K "Apart" y_Apart.xC):Ok P w K mg base f d ["book", "shape", "steps"] zdn:=zej rfl fun r ih=>zbz F sc17 rfl rfl fun _ _ _ _ _ _ hr=>(zad (zal (i:=3) sc17.nd rfl (Or.inl rfl) (zas (zaa (jv 1) (zaa (zaF (zaI zac)) zac))))
  (zad (zal (i:=4) sc17.nd rfl (Or.inl rfl) (zas (zaa (jv 1) (zaa (zaF (zaI zac)) zac))))
  (zad (zcE (zdb (jv 2)) (zhU (zbG (zaG (i:=5) sc17.nd rfl (Or.inl rfl)) (zbG (zaG (i:=6) sc17.nd rfl (Or.inl rfl)) zfk)) (glS (glS gl0))) (zad (zal (i:=7) sc17.nd rfl (Or.inl rfl) (zam (x10.zg r) hr rfl x10.zm x10.zk x10.zb (zaa (jv 0) (zaa (jv 5) zac))))
  (zad (zal (i:=8) sc17.nd rfl (Or.inl rfl) (zam (x11.zg r) hr rfl x11.zm x11.zk x11.zb (zaa (jv 0) (zaa (jv 5) zac))))
  (zad (zal (i:=9) sc17.nd rfl (Or.inl rfl) (zre (zbI (jv 6)) (jv 7) (jv 8)))
  (zad (zbv (zpE hr (jv 9) (zay (jv 4) zae)) (zak (zeV v_Apart rfl y_Apart.xm (zaa zcl zac))) zaR)
  (zak (zbv (zbI (jv 6)) (zad (zal (i:=10) sc17.nd rfl (Or.inl rfl) (zam (x15.zg r) hr rfl x15.zm x15.zk x15.zb (zaa (jv 0) (zaa (zas (zaa (jv 7) (zaa (zaF (zaI (zaa (jv 5) zac))) zac))) (zaa (jv 4) zac)))))
  (zad (zal (i:=3) sc17.nd rfl (Or.inl rfl) (zas (zaa (jv 1) (zaa (zcr (zay (jv 3) zae) (zam (x16.zg r) hr rfl x16.zm x16.zk x16.zb (zaa (jv 10) zac))) zac))))
  (zak (zal (i:=4) sc17.nd rfl (Or.inl rfl) (zas (zaa (jv 8) (zaa (zay (zay (jv 10) zae) (ziX zae)) zac))))))) (zak (zal (i:=4) sc17.nd rfl (Or.inl rfl) (zas (zaa (jv 7) (zaa (zaF (znA (zaI (zaa (jv 5) zac)) (zay (jv 4) zae))) zac))))))))))))
  (zak (zav (zas (zaa (jv 3) (zaa (jv 4) zac))))))))
theorem o18{f:Addr}{d:FuncData}(F:Fun K "_law_cell" "_law_cell" s18 f d) (n_l:mg "len" =none):Ok P w K mg base f d ["script", "k"] zat:=zej rfl fun r ih=>zbz F zsY rfl rfl fun _ _ _ _ _ _ hr=>(zad (zbv (znm (jv 1) (zeH rfl n_l (zaa (jv 0) zac))) (zak (zav (zay (jv 0) (jv 1)))) zaR)
  (zak (zav zae)))
theorem o19{f:Addr}{d:FuncData}(F:Fun K "_law_words" "_law_words" s19 f d) (n_r:mg "range" =none) (n_l:mg "len" =none) (n_n:mg "int" =none):Ok P w K mg base f d ["one", "two", "great"] zbq:=zej rfl fun r ih=>zbz F sc19 rfl rfl fun _ _ _ _ _ _ hr=>(zad (zal (i:=3) sc19.nd rfl (Or.inr rfl) zcl)
  (zad (zal (i:=4) sc19.nd rfl (Or.inl rfl) (zbn (jv 1) (zqD zae zae)))
  (zad (zal (i:=5) sc19.nd rfl (Or.inr rfl) (zaF (zaI zac)))
  (zad (zcE (zdM rfl n_r (zaa (zcr zae (zbn (jv 0) zae)) zac)) (zaG (i:=6) sc19.nd rfl (Or.inr rfl)) (zad (zbr (zbT (jv 5) (zaa (zbn (jv 4) zae) zac)))
  (zak (zal (i:=4) sc19.nd rfl (Or.inl rfl) (zcO (jv 4) zae)))))
  (zad (zal (i:=7) sc19.nd rfl (Or.inr rfl) (zbn (zcO (jv 0) zae) (zeH rfl n_l (zaa (jv 5) zac))))
  (zad (zal (i:=8) sc19.nd rfl (Or.inl rfl) (zaF (zaI zac)))
  (zad (zcE (zdM rfl n_r (zaa zae zac)) (zaG (i:=6) sc19.nd rfl (Or.inr rfl)) (zad (zal (i:=9) sc19.nd rfl (Or.inl rfl) (zlA zcl (zgK (N:=["j", "signs", "base", "k", "at"]) (k:=1) (fr:=[3,5,6,7]) ⟨rfl,by decide +kernel,rfl,rfl,rfl,rfl,rfl,rfl,rfl⟩ (zdM rfl n_r (zaa (zeH rfl n_l (zaa (jv 5) zac)) zac)) (fun _ _ _ _=>(zaG (i:=0) (show List.Nodup [("j" :Str),("signs" :Str),("base" :Str),("k" :Str),("at" :Str)] from by decide +kernel) rfl (Or.inl rfl))) (fun _ _ _ _=>zdy) (fun _ _ _ _=>(zay (jv 1) (zbn (zcr (zay (jv 2) (jv 0)) (zmf (jv 3) (zok rfl n_n (zaa (zgV hr (jv 0) (jv 4)) zac)))) zae))))))
  (zad (zbv (zbI (jv 2)) (zak (zal (i:=9) sc19.nd rfl (Or.inl rfl) (zcr (zkD (zay (jv 9) zae)) (zgf (jv 9) (zbC zae) zby)))) zaR)
  (zak (zbr (zbT (jv 8) (zaa (jv 9) zac)))))))
  (zad (zbv (JW.jt (zix (znt hr (zbn (zcO (jv 0) zae) zae) zae) (zgW (zfW (zbI (jv 2)))))) (zak (zal (i:=8) sc19.nd rfl (Or.inl rfl) (zaF (zgU (znq (jv 8) zby (zbC zae)) (zaI (zaa (zay (jv 8) zae) (zaa (zay (jv 8) zae) (zaa (zay (jv 8) zae) zac)))))))) zaR)
  (zak (zav (jv 8)))))))))))
theorem o20{f:Addr}{d:FuncData}(F:Fun K "_law_told" "_law_told" s20 f d) (x17:C17 P w K mg base) (n_i:mg "isinstance" =none) (n_ValueError:mg "ValueError" =none) (y_Apart:Ncl mg "Apart") (y_NoPlace:Ncl mg "NoPlace") (y_NoUse:Ncl mg "NoUse") (y_NoWay:Ncl mg "NoWay") (y_TooGreat:Ncl mg "TooGreat") (y_TurnError:Ncl mg "TurnError") (e_Apart_TurnError:PySem.W.exmOne K (.ref y_Apart.xC) (.ref y_TurnError.xC)=some true) (e_TooGreat_TurnError:PySem.W.exmOne K (.ref y_TooGreat.xC) (.ref y_TurnError.xC)=some true) (q_Apart_Apart:PySem.W.kitOne K (.ref y_Apart.xC) (.ref y_Apart.xC)=some (zda "Apart" "Apart")) (q_Apart_NoPlace:PySem.W.kitOne K (.ref y_Apart.xC) (.ref y_NoPlace.xC)=some (zda "Apart" "NoPlace")) (q_Apart_NoUse:PySem.W.kitOne K (.ref y_Apart.xC) (.ref y_NoUse.xC)=some (zda "Apart" "NoUse")) (q_Apart_NoWay:PySem.W.kitOne K (.ref y_Apart.xC) (.ref y_NoWay.xC)=some (zda "Apart" "NoWay")) (q_Apart_TooGreat:PySem.W.kitOne K (.ref y_Apart.xC) (.ref y_TooGreat.xC)=some (zda "Apart" "TooGreat")) (q_Apart_ValueError:PySem.W.kitOne K (.ref y_Apart.xC) (.type "ValueError")=some (zda "Apart" "ValueError")) (q_TooGreat_Apart:PySem.W.kitOne K (.ref y_TooGreat.xC) (.ref y_Apart.xC)=some (zda "TooGreat" "Apart")) (q_TooGreat_NoPlace:PySem.W.kitOne K (.ref y_TooGreat.xC) (.ref y_NoPlace.xC)=some (zda "TooGreat" "NoPlace")) (q_TooGreat_NoUse:PySem.W.kitOne K (.ref y_TooGreat.xC) (.ref y_NoUse.xC)=some (zda "TooGreat" "NoUse")) (q_TooGreat_NoWay:PySem.W.kitOne K (.ref y_TooGreat.xC) (.ref y_NoWay.xC)=some (zda "TooGreat" "NoWay")) (q_TooGreat_TooGreat:PySem.W.kitOne K (.ref y_TooGreat.xC) (.ref y_TooGreat.xC)=some (zda "TooGreat" "TooGreat")) (q_TooGreat_ValueError:PySem.W.kitOne K (.ref y_TooGreat.xC) (.type "ValueError")=some (zda "TooGreat" "ValueError")) (v_Apart:XcIn K "Apart" y_Apart.xC) (v_TooGreat:XcIn K "TooGreat" y_TooGreat.xC):Ok P w K mg base f d ["book", "shape", "steps"] zaS:=zej rfl fun r ih=>zbz F sc20 rfl rfl fun _ _ _ _ _ _ hr=>(zad (zal (i:=3) sc20.nd rfl (Or.inl rfl) (zaF (zaI zac)))
  (zad (zlm (fun _ _=>(zoQ (znb (znn (x17.zg r) hr rfl x17.zm x17.zk x17.zb (zaa (jv 0) (zaa (jv 1) (zaa (jv 2) zac))))))) (alc ⟨y_TooGreat.xC,v_TooGreat,e_TooGreat_TurnError,fun a oa pn hp hc=>(zad (zal (i:=3) sc20.nd rfl (Or.inl rfl) (zaF (zaI (zaa (zcF hp hc v_TooGreat.xc q_TooGreat_TooGreat rfl n_i (i:=4) rfl (Or.inl rfl) rfl y_TooGreat.xm) (zaa (zcF hp hc v_TooGreat.xc q_TooGreat_Apart rfl n_i (i:=4) rfl (Or.inl rfl) rfl y_Apart.xm) (zaa (zcF hp hc v_TooGreat.xc q_TooGreat_NoUse rfl n_i (i:=4) rfl (Or.inl rfl) rfl y_NoUse.xm) (zaa (zcF hp hc v_TooGreat.xc q_TooGreat_NoWay rfl n_i (i:=4) rfl (Or.inl rfl) rfl y_NoWay.xm) zac)))))))
  (zak (zal (i:=3) sc20.nd rfl (Or.inl rfl) (zaF (zjA (jv 3) (zaI (zaa (zcF hp hc v_TooGreat.xc q_TooGreat_NoPlace rfl n_i (i:=4) rfl (Or.inl rfl) rfl y_NoPlace.xm) (zaa (zjS (ziJ hp hc v_TooGreat.xc q_TooGreat_ValueError rfl n_i (i:=4) rfl (Or.inl rfl) rfl n_ValueError zcw)) zac))))))))⟩ (alc ⟨y_Apart.xC,v_Apart,e_Apart_TurnError,fun a oa pn hp hc=>(zad (zal (i:=3) sc20.nd rfl (Or.inl rfl) (zaF (zaI (zaa (zcF hp hc v_Apart.xc q_Apart_TooGreat rfl n_i (i:=4) rfl (Or.inl rfl) rfl y_TooGreat.xm) (zaa (zcF hp hc v_Apart.xc q_Apart_Apart rfl n_i (i:=4) rfl (Or.inl rfl) rfl y_Apart.xm) (zaa (zcF hp hc v_Apart.xc q_Apart_NoUse rfl n_i (i:=4) rfl (Or.inl rfl) rfl y_NoUse.xm) (zaa (zcF hp hc v_Apart.xc q_Apart_NoWay rfl n_i (i:=4) rfl (Or.inl rfl) rfl y_NoWay.xm) zac)))))))
  (zak (zal (i:=3) sc20.nd rfl (Or.inl rfl) (zaF (zjA (jv 3) (zaI (zaa (zcF hp hc v_Apart.xc q_Apart_NoPlace rfl n_i (i:=4) rfl (Or.inl rfl) rfl y_NoPlace.xm) (zaa (zjS (ziJ hp hc v_Apart.xc q_Apart_ValueError rfl n_i (i:=4) rfl (Or.inl rfl) rfl n_ValueError zcw)) zac))))))))⟩ aln)) rfl y_TurnError.xm sc20.nd rfl rfl)
  (zak (zav (jv 3)))))
theorem o21{f:Addr}{d:FuncData}(F:Fun K "_law_odd_step" "_law_odd_step" s21 f d) (n_r:mg "range" =none):Ok P w K mg base f d ["cell", "w"] zaP:=zej rfl fun r ih=>zbz F sc21 rfl rfl fun _ _ _ _ _ _ hr=>(zad (zbv (znm (zbn (jv 0) zae) zae) (zak (zav (zas (zaa (zas (zaa zcl (zaa (zas (zaa (zay (jv 1) zae) zac)) zac))) (zaa (zgV hr (zbn (jv 0) zae) zae) zac))))) zaR)
  (zad (zbv (znt hr (zbn (jv 0) zae) zae) (zak (zav (zas (zaa (zas (zaa zcl (zaa (zcr (zas (zaa (zay (jv 1) zae) zac)) (zjl (zas (zaa (zas (zaa (zay (jv 1) zae) zac)) zac)) (zcr zae (zbn (zcO (jv 0) zae) zae)))) zac))) (zaa (zgV hr (zbn (zcO (jv 0) zae) zae) zae) zac))))) zaR)
  (zad (zal (i:=2) sc21.nd rfl (Or.inl rfl) (zas (zaa (zay (jv 1) zae) zac)))
  (zad (zcE (zdM rfl n_r (zaa zae zac)) (zaG (i:=3) sc21.nd rfl (Or.inl rfl)) (zak (zal (i:=2) sc21.nd rfl (Or.inl rfl) (zas (zaa zcl (zaa (jv 2) zac))))))
  (zak (zav (zas (zaa (jv 2) (zaa (zgV hr (zbn (zcO (jv 0) zae) zae) zae) zac)))))))))
theorem o22{f:Addr}{d:FuncData}(F:Fun K "law" "law" s22 f d) (x19:C19 P w K mg base) (x18:C18 P w K mg base) (x21:C21 P w K mg base) (x20:C20 P w K mg base):Ok P w K mg base f d ["script"] zbW:=zej rfl fun r ih=>by
  refine zbz F sc22 rfl rfl fun _ _ _ _ _ _ hr=>?_;delta zcq zbN zbM zbb zct zcv zco zbJ zbF zbK zca zce zbZ zch zcb zcj zcf zcd zck;exact(zad (zal (i:=1) sc22.nd rfl (Or.inl rfl) (zam (x19.zg r) hr rfl x19.zm x19.zk x19.zb (zaa (zam (x18.zg r) hr rfl x18.zm x18.zk x18.zb (zaa (jv 0) (zaa zae zac))) (zaa (zam (x18.zg r) hr rfl x18.zm x18.zk x18.zb (zaa (jv 0) (zaa zae zac))) (zaa zcc zac)))))
  (zad (zal (i:=2) sc22.nd rfl (Or.inl rfl) (zas (zaa (zay (jv 1) zae) zac)))
  (zad (zal (i:=3) sc22.nd rfl (Or.inl rfl) (zaF (zaI (zaa (zas (zaa zcl (zaa (zas (zaa (zay (jv 1) zae) (zaa zae zac))) (zaa (zas (zaa (zay (jv 1) zae) (zaa zae (zaa zae zac)))) zac)))) (zaa (zas (zaa zcl (zaa (zas (zaa (zay (jv 1) zae) (zaa (zas (zaa (zay (jv 1) zae) (zaa (jv 2) (zaa (jv 2) (zaa (jv 2) (zaa (jv 2) (zaa (jv 2) (zaa (jv 2) (zaa (jv 2) (zaa (jv 2) (zaa (jv 2) zac))))))))))) (zaa zae zac)))) (zaa (zas (zaa (zay (jv 1) zae) (zaa zae zac))) zac)))) zac)))))
  (zad (zal (i:=4) sc22.nd rfl (Or.inl rfl) (zbn (zam (x18.zg r) hr rfl x18.zm x18.zk x18.zb (zaa (jv 0) (zaa zae zac))) (zpJ (zaI (zaa zae (zaa zae (zaa zae zac)))) (zbn (zam (x18.zg r) hr rfl x18.zm x18.zk x18.zb (zaa (jv 0) (zaa zae zac))) zae))))
  (zad (zal (i:=5) sc22.nd rfl (Or.inl rfl) (zcr (zas (zaa (zay (jv 1) zae) zac)) (zjl (zas (zaa (jv 2) zac)) (jv 4))))
  (zad (zal (i:=6) sc22.nd rfl (Or.inl rfl) (zas (zaa (zay (jv 1) zae) (zaa (jv 5) zac))))
  (zad (zal (i:=7) sc22.nd rfl (Or.inl rfl) (zas (zaa (zay (jv 1) zae) (zaa (jv 6) (zaa (jv 6) zac)))))
  (zad (zal (i:=8) sc22.nd rfl (Or.inl rfl) (zaF (zaI (zaa (zas (zaa (zas (zaa zcl (zaa (jv 6) zac))) (zaa zcc zac))) (zaa (zas (zaa (zas (zaa (zay (jv 1) zae) (zaa (zas (zaa zcl (zaa (jv 5) zac))) zac))) (zaa zcc zac))) zac)))))
  (zad (zal (i:=9) sc22.nd rfl (Or.inl rfl) (zrP (zcr (zmf zae (jv 4)) zae) zae))
  (zad (zal (i:=10) sc22.nd rfl (Or.inl rfl) (zaF (zaI zac)))
  (zad (zbv (zbI (jv 9)) (zak (zal (i:=10) sc22.nd rfl (Or.inl rfl) (zaF (zaI (zaa zcc (zaa zcc (zaa zcc (zaa zcc (zaa zcc (zaa zcc zac)))))))))) zaR)
  (zad (zbv (zmT (zbn (zam (x18.zg r) hr rfl x18.zm x18.zk x18.zb (zaa (jv 0) (zaa zae zac))) zae) zae) (zad (zal (i:=11) sc22.nd rfl (Or.inl rfl) (zbn (zcO (zam (x18.zg r) hr rfl x18.zm x18.zk x18.zb (zaa (jv 0) (zaa zae zac))) zae) zae))
  (zad (zal (i:=12) sc22.nd rfl (Or.inl rfl) (zam (x21.zg r) hr rfl x21.zm x21.zk x21.zb (zaa (zam (x18.zg r) hr rfl x18.zm x18.zk x18.zb (zaa (jv 0) (zaa zae zac))) (zaa (jv 1) zac))))
  (zad (zal (i:=8) sc22.nd rfl (Or.inl rfl) (zaF (zgU (zgU (znq (jv 8) zby (zbC (jv 11))) (zaI (zaa (jv 12) zac))) (znq (jv 8) (zbC (jv 11)) zby))))
  (zak (zbv (JW.jt (zqA (znm (jv 11) zae) (zmz (zfW (zbI (jv 9)))))) (zad (zal (i:=13) sc22.nd rfl (Or.inl rfl) (zrw (zbn (zam (x18.zg r) hr rfl x18.zm x18.zk x18.zb (zaa (jv 0) (zaa zae zac))) zae) zae))
  (zak (zal (i:=10) sc22.nd rfl (Or.inl rfl) (zaF (zaI (zaa (zjS (jv 13)) (zaa (jv 13) (zaa zcc (zaa zcc (zaa zcc (zaa zcc zac))))))))))) zaR))))) zaR)
  (zak (zav (zgV hr (zam (x20.zg r) hr rfl x20.zm x20.zk x20.zb (zaa (jv 3) (zaa (jv 7) (zaa (jv 8) zac)))) (jv 10))))))))))))))))
end
theorem all_mk{l:PySem.W.OpenLaw}{w:World}{K:PySem.W.Frag}{h:Heap}{mg:Str→Option Value}{fa:Addr}(X:K.In h) (G:h.Ns mainGlobals mg) (hfa:mg "law" =some (.ref fa))
  (D0:Dfn K "parts_of" s0)
  (D1:Dfn K "parts_of_all" s1)
  (D2:Dfn K "is_small" s2)
  (D3:Dfn K "filled" s3)
  (D6:Dfn K "matched" s6)
  (D5:Dfn K "gather_matched" s5)
  (D4:Dfn K "have_one_top" s4)
  (D7:Dfn K "turning_of" s7)
  (D10:Dfn K "source" s10)
  (D11:Dfn K "goal" s11)
  (D8:Dfn K "only_small" s8)
  (D9:Dfn K "with_sides" s9)
  (D12:Dfn K "moved" s12)
  (D15:Dfn K "grid" s15)
  (D14:Dfn K "moved_along" s14)
  (D13:Dfn K "check_goals" s13)
  (D16:Dfn K "last_downs" s16)
  (D17:Dfn K "valley" s17)
  (D18:Dfn K "_law_cell" s18)
  (D19:Dfn K "_law_words" s19)
  (D20:Dfn K "_law_told" s20)
  (D21:Dfn K "_law_odd_step" s21)
  (D22:Dfn K "law" s22)
  (z_ValueError:PySem.W.nsIn K mainGlobals "ValueError" =some none)
  (z_n:PySem.W.nsIn K mainGlobals "int" =some none)
  (z_i:PySem.W.nsIn K mainGlobals "isinstance" =some none)
  (z_l:PySem.W.nsIn K mainGlobals "len" =some none)
  (z_s:PySem.W.nsIn K mainGlobals "list" =some none)
  (z_r:PySem.W.nsIn K mainGlobals "range" =some none)
  (z_t:PySem.W.nsIn K mainGlobals "tuple" =some none)
  (z_z:PySem.W.nsIn K mainGlobals "zip" =some none)
  {t_MOST_HEAVY:Tok}(z_MOST_HEAVY:PySem.W.nsIn K mainGlobals "MOST_HEAVY" =some (some (.int 400 t_MOST_HEAVY)))
  {t_MOST_DEEP:Tok}(z_MOST_DEEP:PySem.W.nsIn K mainGlobals "MOST_DEEP" =some (some (.int 40 t_MOST_DEEP)))
  {t_LEFT:Tok}(z_LEFT:PySem.W.nsIn K mainGlobals "LEFT" =some (some (.int 1 t_LEFT)))
  {t_RIGHT:Tok}(z_RIGHT:PySem.W.nsIn K mainGlobals "RIGHT" =some (some (.int 2 t_RIGHT)))
  {C_Apart:Addr}(z_Apart:PySem.W.nsIn K mainGlobals "Apart" =some (some (.ref C_Apart)))
  {C_NoPlace:Addr}(z_NoPlace:PySem.W.nsIn K mainGlobals "NoPlace" =some (some (.ref C_NoPlace)))
  {C_NoUse:Addr}(z_NoUse:PySem.W.nsIn K mainGlobals "NoUse" =some (some (.ref C_NoUse)))
  {C_NoWay:Addr}(z_NoWay:PySem.W.nsIn K mainGlobals "NoWay" =some (some (.ref C_NoWay)))
  {C_TooGreat:Addr}(z_TooGreat:PySem.W.nsIn K mainGlobals "TooGreat" =some (some (.ref C_TooGreat)))
  {C_TurnError:Addr}(z_TurnError:PySem.W.nsIn K mainGlobals "TurnError" =some (some (.ref C_TurnError)))
  (ze_Apart_TurnError:PySem.W.exmOne K (.ref C_Apart) (.ref C_TurnError)=some true)
  (ze_TooGreat_TurnError:PySem.W.exmOne K (.ref C_TooGreat) (.ref C_TurnError)=some true)
  (zq_Apart_Apart:PySem.W.kitOne K (.ref C_Apart) (.ref C_Apart)=some (true))
  (zq_Apart_NoPlace:PySem.W.kitOne K (.ref C_Apart) (.ref C_NoPlace)=some (false))
  (zq_Apart_NoUse:PySem.W.kitOne K (.ref C_Apart) (.ref C_NoUse)=some (false))
  (zq_Apart_NoWay:PySem.W.kitOne K (.ref C_Apart) (.ref C_NoWay)=some (false))
  (zq_Apart_TooGreat:PySem.W.kitOne K (.ref C_Apart) (.ref C_TooGreat)=some (false))
  (zq_Apart_ValueError:PySem.W.kitOne K (.ref C_Apart) (.type "ValueError")=some (true))
  (zq_TooGreat_Apart:PySem.W.kitOne K (.ref C_TooGreat) (.ref C_Apart)=some (false))
  (zq_TooGreat_NoPlace:PySem.W.kitOne K (.ref C_TooGreat) (.ref C_NoPlace)=some (false))
  (zq_TooGreat_NoUse:PySem.W.kitOne K (.ref C_TooGreat) (.ref C_NoUse)=some (false))
  (zq_TooGreat_NoWay:PySem.W.kitOne K (.ref C_TooGreat) (.ref C_NoWay)=some (false))
  (zq_TooGreat_TooGreat:PySem.W.kitOne K (.ref C_TooGreat) (.ref C_TooGreat)=some (true))
  (zq_TooGreat_ValueError:PySem.W.kitOne K (.ref C_TooGreat) (.type "ValueError")=some (true))
  (za_Apart:PySem.W.excIn K C_Apart bmV "ValueError.__new__" =true) (zb_Apart:PySem.W.findIn K (.ref C_Apart) "__getattribute__" =some (some (.builtin "BaseException.__getattribute__"))) (zc_Apart:PySem.W.findIn K (.ref C_Apart) "__getattr__" =some none) (zd_Apart:PySem.W.findIn K (.ref C_Apart) "__class__" =some (some (.builtin "object.__class__"))) (ze_Apart:PySem.W.mroIn K C_Apart (.type "object")=some true) (zf_Apart:PySem.W.mroIn K C_Apart (.type "BaseException")=some true)
  (za_TooGreat:PySem.W.excIn K C_TooGreat bmV "ValueError.__new__" =true) (zb_TooGreat:PySem.W.findIn K (.ref C_TooGreat) "__getattribute__" =some (some (.builtin "BaseException.__getattribute__"))) (zc_TooGreat:PySem.W.findIn K (.ref C_TooGreat) "__getattr__" =some none) (zd_TooGreat:PySem.W.findIn K (.ref C_TooGreat) "__class__" =some (some (.builtin "object.__class__"))) (ze_TooGreat:PySem.W.mroIn K C_TooGreat (.type "object")=some true) (zf_TooGreat:PySem.W.mroIn K C_TooGreat (.type "BaseException")=some true)
  :∃fd:FuncData,(∀(s:Shared) (v:Value),BindsTo s fd ⟨[v],[]⟩ [("script",v)])∧ ∀base:Heap,K.In base→base.Ns mainGlobals mg→FnOk l.prog w K mg base (CX1 l.prog w) 200 fa fd ["script"] (zbt K (zbW 200)):=by
 obtain⟨f22,d22,a22,F22⟩:=D22;have e:=hfa.symm.trans (PySem.W.mg_of X G a22);cases e;have n_ValueError:=PySem.W.mg_none_of X G z_ValueError;have n_n:=PySem.W.mg_none_of X G z_n;have n_i:=PySem.W.mg_none_of X G z_i;have n_l:=PySem.W.mg_none_of X G z_l;have n_s:=PySem.W.mg_none_of X G z_s;have n_r:=PySem.W.mg_none_of X G z_r;have n_t:=PySem.W.mg_none_of X G z_t;have n_z:=PySem.W.mg_none_of X G z_z;have g_MOST_HEAVY:=PySem.W.mg_of X G z_MOST_HEAVY;have g_MOST_DEEP:=PySem.W.mg_of X G z_MOST_DEEP;have g_LEFT:=PySem.W.mg_of X G z_LEFT;have g_RIGHT:=PySem.W.mg_of X G z_RIGHT;refine⟨d22,fun s v=>?_,fun base _ _=>?_⟩
 ·obtain⟨oc,od,kV,doc,pm,an,cdv,ct,osl,rfl,lk,hcd⟩:=F22.ex;exact .of_eq rfl
 obtain⟨f,d,a,F⟩:=D0;have x0:=mkC (base:=base) X G F a (o0 (P:=l.prog) (w:=w) F n_i n_n) (F.binds fun _ _ _ _ _ _=>n1 fun _=>rfl);obtain⟨f,d,a,F⟩:=D1;have x1:=mkC (base:=base) X G F a (o1 (P:=l.prog) (w:=w) F x0) (F.binds fun _ _ _ _ _ _=>n1 fun _=>rfl);obtain⟨f,d,a,F⟩:=D2;have x2:=mkC (base:=base) X G F a (o2 (P:=l.prog) (w:=w) F x1 n_l g_MOST_HEAVY g_MOST_DEEP) (F.binds fun _ _ _ _ _ _=>n1 fun _=>rfl);obtain⟨f,d,a,F⟩:=D3;have x3:=mkC (base:=base) X G F a (o3 (P:=l.prog) (w:=w) F (F.binds fun _ _ _ _ _ _=>n2 fun _ _=>rfl) (PySem.W.mg_of X G a) n_i n_n n_t) (F.binds fun _ _ _ _ _ _=>n2 fun _ _=>rfl);obtain⟨f,d,a,F⟩:=D4;have x4:=mkC (base:=base) X G F a (o4 (P:=l.prog) (w:=w) F n_l) (F.binds fun _ _ _ _ _ _=>n2 fun _ _=>rfl);obtain⟨f,d,a,F⟩:=D5;have x5:=mkC (base:=base) X G F a (o5 (P:=l.prog) (w:=w) F x4 (F.binds fun _ _ _ _ _ _=>n3 fun _ _ _=>rfl) (PySem.W.mg_of X G a) n_i n_n n_z) (F.binds fun _ _ _ _ _ _=>n3 fun _ _ _=>rfl);obtain⟨f,d,a,F⟩:=D6;have x6:=mkC (base:=base) X G F a (o6 (P:=l.prog) (w:=w) F x5) (F.binds fun _ _ _ _ _ _=>n2 fun _ _=>rfl);obtain⟨f,d,a,F⟩:=D7;have x7:=mkC (base:=base) X G F a (o7 (P:=l.prog) (w:=w) F) (F.binds fun _ _ _ _ _ _=>n2 fun _ _=>rfl);obtain⟨f,d,a,F⟩:=D8;have x8:=mkC (base:=base) X G F a (o8 (P:=l.prog) (w:=w) F x2 ⟨C_TooGreat,PySem.W.mg_of X G z_TooGreat⟩ ⟨z_TooGreat,za_TooGreat,⟨zb_TooGreat,zc_TooGreat,zd_TooGreat,ze_TooGreat,zf_TooGreat⟩⟩) (F.binds fun _ _ _ _ _ _=>n1 fun _=>rfl);obtain⟨f,d,a,F⟩:=D9;have x9:=mkC (base:=base) X G F a (o9 (P:=l.prog) (w:=w) F x7 x3 (F.binds fun _ _ _ _ _ _=>n3 fun _ _ _=>rfl) (PySem.W.mg_of X G a) n_t) (F.binds fun _ _ _ _ _ _=>n3 fun _ _ _=>rfl);obtain⟨f,d,a,F⟩:=D10;have x10:=mkC (base:=base) X G F a (o10 (P:=l.prog) (w:=w) F x8 x9 g_LEFT) (F.binds fun _ _ _ _ _ _=>n2 fun _ _=>rfl);obtain⟨f,d,a,F⟩:=D11;have x11:=mkC (base:=base) X G F a (o11 (P:=l.prog) (w:=w) F x8 x9 g_RIGHT) (F.binds fun _ _ _ _ _ _=>n2 fun _ _=>rfl);obtain⟨f,d,a,F⟩:=D12;have x12:=mkC (base:=base) X G F a (o12 (P:=l.prog) (w:=w) F x7 x3 x6 (F.binds fun _ _ _ _ _ _=>n3 fun _ _ _=>rfl) (PySem.W.mg_of X G a) n_z n_t g_RIGHT g_LEFT) (F.binds fun _ _ _ _ _ _=>n3 fun _ _ _=>rfl);obtain⟨f,d,a,F⟩:=D13;have x13:=mkC (base:=base) X G F a (o13 (P:=l.prog) (w:=w) F x11) (F.binds fun _ _ _ _ _ _=>n2 fun _ _=>rfl);obtain⟨f,d,a,F⟩:=D14;have x14:=mkC (base:=base) X G F a (o14 (P:=l.prog) (w:=w) F x12 x13) (F.binds fun _ _ _ _ _ _=>n3 fun _ _ _=>rfl);obtain⟨f,d,a,F⟩:=D15;have x15:=mkC (base:=base) X G F a (o15 (P:=l.prog) (w:=w) F x8 x13 x14 x12 n_s n_z ⟨C_Apart,PySem.W.mg_of X G z_Apart⟩ ⟨z_Apart,za_Apart,⟨zb_Apart,zc_Apart,zd_Apart,ze_Apart,zf_Apart⟩⟩) (F.binds fun _ _ _ _ _ _=>n3 fun _ _ _=>rfl);obtain⟨f,d,a,F⟩:=D16;have x16:=mkC (base:=base) X G F a (o16 (P:=l.prog) (w:=w) F) (F.binds fun _ _ _ _ _ _=>n1 fun _=>rfl);obtain⟨f,d,a,F⟩:=D17;have x17:=mkC (base:=base) X G F a (o17 (P:=l.prog) (w:=w) F x10 x11 x15 x16 ⟨C_Apart,PySem.W.mg_of X G z_Apart⟩ ⟨z_Apart,za_Apart,⟨zb_Apart,zc_Apart,zd_Apart,ze_Apart,zf_Apart⟩⟩) (F.binds fun _ _ _ _ _ _=>n3 fun _ _ _=>rfl);obtain⟨f,d,a,F⟩:=D18;have x18:=mkC (base:=base) X G F a (o18 (P:=l.prog) (w:=w) F n_l) (F.binds fun _ _ _ _ _ _=>n2 fun _ _=>rfl);obtain⟨f,d,a,F⟩:=D19;have x19:=mkC (base:=base) X G F a (o19 (P:=l.prog) (w:=w) F n_r n_l n_n) (F.binds fun _ _ _ _ _ _=>n3 fun _ _ _=>rfl);obtain⟨f,d,a,F⟩:=D20;have x20:=mkC (base:=base) X G F a (o20 (P:=l.prog) (w:=w) F x17 n_i n_ValueError ⟨C_Apart,PySem.W.mg_of X G z_Apart⟩ ⟨C_NoPlace,PySem.W.mg_of X G z_NoPlace⟩ ⟨C_NoUse,PySem.W.mg_of X G z_NoUse⟩ ⟨C_NoWay,PySem.W.mg_of X G z_NoWay⟩ ⟨C_TooGreat,PySem.W.mg_of X G z_TooGreat⟩ ⟨C_TurnError,PySem.W.mg_of X G z_TurnError⟩ ze_Apart_TurnError ze_TooGreat_TurnError (zq_Apart_Apart.trans (congrArg some (by decide))) (zq_Apart_NoPlace.trans (congrArg some (by decide))) (zq_Apart_NoUse.trans (congrArg some (by decide))) (zq_Apart_NoWay.trans (congrArg some (by decide))) (zq_Apart_TooGreat.trans (congrArg some (by decide))) (zq_Apart_ValueError.trans (congrArg some (by decide))) (zq_TooGreat_Apart.trans (congrArg some (by decide))) (zq_TooGreat_NoPlace.trans (congrArg some (by decide))) (zq_TooGreat_NoUse.trans (congrArg some (by decide))) (zq_TooGreat_NoWay.trans (congrArg some (by decide))) (zq_TooGreat_TooGreat.trans (congrArg some (by decide))) (zq_TooGreat_ValueError.trans (congrArg some (by decide))) ⟨z_Apart,za_Apart,⟨zb_Apart,zc_Apart,zd_Apart,ze_Apart,zf_Apart⟩⟩ ⟨z_TooGreat,za_TooGreat,⟨zb_TooGreat,zc_TooGreat,zd_TooGreat,ze_TooGreat,zf_TooGreat⟩⟩) (F.binds fun _ _ _ _ _ _=>n3 fun _ _ _=>rfl);obtain⟨f,d,a,F⟩:=D21;have x21:=mkC (base:=base) X G F a (o21 (P:=l.prog) (w:=w) F n_r) (F.binds fun _ _ _ _ _ _=>n2 fun _ _=>rfl);exact o22 F22 x19 x18 x21 x20 200
theorem walk{l:PySem.W.OpenLaw}{q:Program}{loose:List Str}{XP:(Str→Option Value)→Heap→Prop}{YP:World→Heap→Prop}{d:DefRec}{K:Params→PySem.W.Frag}(hn:l.most=some 63) (hdf:d.params.defaults=[])
  (hY:∀(w:World) (h:Heap),YP w h→(K w.params).In h)
  (F:∀(w:World) (mg:Str→Option Value) (fa:Addr) (h:Heap),(K w.params).In h→h.Ns mainGlobals mg→mg d.name=some (.ref fa)→
   ∃fd:FuncData,(∀(s:Shared) (u:Value),BindsTo s fd ⟨[u],[]⟩ [("script",u)])∧ ∀base:Heap,(K w.params).In base→base.Ns mainGlobals mg→FnOk l.prog w (K w.params) mg base (CX1 l.prog w) 200 fa fd ["script"] (zbt (K w.params) (zbW 200))) :
  PySem.W.WalkO q loose XP YP l.row.toRowW d [] (fun f vs=>PySem.call f vs):=
 L2.zne (n:=63) (k:=200) (x:= "script") (CX:=fun w=>CX1 l.prog w) (sp:=fun w=>zbt (K w.params) (zbW 200)) hn (by decide) hdf ⟨rfl,by decide,by decide⟩ hY F (fun w H a ns hl hO hS=>zkW hO hS (zqH ns hl)) fun _ _ _ _ _ ⟨_,_,_,_,_,_,_,_,_,z⟩=>z
end K48
noncomputable def PySem.W.Fast.tw1095866449266875657:Nat:=0
noncomputable def PySem.W.Fast.tw1488755093558104094:Nat:=0
noncomputable def PySem.W.Fast.tw8371535184926549491:Nat:=0
noncomputable def PySem.W.Fast.tw8240440808274593325:Nat:=0
noncomputable def PySem.W.Fast.tw7148478527311872073:Nat:=0
noncomputable def PySem.W.Fast.tw4016319008313590153:Nat:=0
noncomputable def PySem.W.Fast.tw14891442961869483750:Nat:=0
noncomputable def PySem.W.Fast.tw3491270634157226889:Nat:=0
noncomputable def PySem.W.Fast.tw8125339929199511394:Nat:=0
noncomputable def PySem.W.Fast.tw2170255159273968944:Nat:=0
noncomputable def PySem.W.Fast.tw17655595762348244439:Nat:=0
noncomputable def PySem.W.Fast.tw13226749465101940611:Nat:=0
noncomputable def PySem.W.Fast.tw3762273501887348661:Nat:=0
noncomputable def PySem.W.Fast.tw10555775938882484776:Nat:=0
noncomputable def PySem.W.Fast.tw4118698724946883370:Nat:=0
noncomputable def PySem.W.Fast.tw12698595946309326720:Nat:=0
noncomputable def PySem.W.Fast.tw4631326230011244538:Nat:=0
noncomputable def PySem.W.Fast.tw10736563758964128758:Nat:=0
noncomputable def PySem.W.Fast.tw11669945074970518095:Nat:=0
noncomputable def PySem.W.Fast.tw13411884217815027686:Nat:=0
noncomputable def PySem.W.Fast.tw8050956449880000784:Nat:=0
noncomputable def PySem.W.Fast.tw9819367333829827143:Nat:=0
noncomputable def PySem.W.Fast.tw11593601593799148256:Nat:=0
noncomputable def PySem.W.Fast.tw12263013431098258118:Nat:=0
noncomputable def PySem.W.Fast.tw13101075218335231815:Nat:=0
noncomputable def PySem.W.Fast.tw14075484579389280499:Nat:=0
noncomputable def PySem.W.Fast.tw10261338888847464712:Nat:=0
noncomputable def PySem.W.Fast.tw8862924500237157069:Nat:=0
noncomputable def PySem.W.Fast.tw7549132079691500665:Nat:=0
noncomputable def PySem.W.Fast.tw2090387440078542892:Nat:=0
noncomputable def PySem.W.Fast.tw8668674169579418978:Nat:=0
noncomputable def PySem.W.Fast.tw13489944836905867042:Nat:=0
noncomputable def PySem.W.Fast.tw11732065305294176702:Nat:=0
noncomputable def PySem.W.Fast.tw3827041924925914961:Nat:=0
noncomputable def PySem.W.Fast.tw1291105001064861147:Nat:=0
noncomputable def PySem.W.Fast.tw4941929698734768399:Nat:=0
noncomputable def PySem.W.Fast.tw12842320143951625583:Nat:=0
noncomputable def PySem.W.Fast.tw16699402256035675397:Nat:=0
noncomputable def PySem.W.Fast.tw12443217799890802947:Nat:=0
noncomputable def PySem.W.Fast.tw17211460338572362482:Nat:=0
noncomputable def PySem.W.Fast.tw13857405237064268082:Nat:=0
noncomputable def PySem.W.Fast.tw6491469710179195159:Nat:=0
noncomputable def PySem.W.Fast.tw9748176845137144085:Nat:=0
noncomputable def PySem.W.Fast.tw16754316355252242410:Nat:=0
noncomputable def PySem.W.Fast.tw13248833861898360029:Nat:=0
noncomputable def PySem.W.Fast.tw13812324338495414212:Nat:=0
noncomputable def PySem.W.Fast.tw3767312676973569245:Nat:=0
noncomputable def PySem.W.Fast.tw7851251060041666412:Nat:=0
noncomputable def PySem.W.Fast.tw8439967602653434973:Nat:=0
noncomputable def PySem.W.Fast.tw16888782564947225961:Nat:=0
noncomputable def PySem.W.Fast.tw18273017153594320862:Nat:=0
noncomputable def PySem.W.Fast.tw1025021625212683242:Nat:=0
noncomputable def PySem.W.Fast.tw9836969766251778563:Nat:=0
noncomputable def PySem.W.Fast.tw14292163824267882731:Nat:=0
noncomputable def PySem.W.Fast.tw18391870982040469850:Nat:=0
noncomputable def PySem.W.Fast.tw18051848973167080601:Nat:=0
noncomputable def PySem.W.Fast.tw1251746603896054158:Nat:=0
noncomputable def PySem.W.Fast.tw14652875251659167719:Nat:=0
noncomputable def PySem.W.Fast.tw4863141525578959017:Nat:=0
noncomputable def PySem.W.Fast.tw14143720398821418517:Nat:=0
noncomputable def PySem.W.Fast.tw18258158393575835163:Nat:=0
noncomputable def PySem.W.Fast.tw11982410666840380445:Nat:=0
noncomputable def PySem.W.Fast.tw3330735481357039502:Nat:=0
noncomputable def PySem.W.Fast.tw7002880034452766453:Nat:=0
noncomputable def PySem.W.Fast.tw9725738556815273199:Nat:=0
noncomputable def PySem.W.Fast.tw10967187508442739613:Nat:=0
noncomputable def PySem.W.Fast.tw7063116557866644767:Nat:=0
noncomputable def PySem.W.Fast.tw12650025796021481539:Nat:=0
noncomputable def PySem.W.Fast.tw15474479300689875553:Nat:=0
noncomputable def PySem.W.Fast.tw11353588384968866091:Nat:=0
noncomputable def PySem.W.Fast.tw17213234221112851386:Nat:=0
noncomputable def PySem.W.Fast.tw14755607875878898016:Nat:=0
noncomputable def PySem.W.Fast.tw15435279566815520079:Nat:=0
noncomputable def PySem.W.Fast.tw13660689796520587792:Nat:=0
noncomputable def PySem.W.Fast.tw9983441866445744950:Nat:=0
noncomputable def PySem.W.Fast.tw17786505605752048230:Nat:=0
noncomputable def PySem.W.Fast.tw9295479283428583423:Nat:=0
noncomputable def PySem.W.Fast.tw14047510574637435711:Nat:=0
open PySem PySem.W PyProof.Rows
set_option maxRecDepth 100000 in
set_option maxHeartbeats 0 in
theorem PySem.Challenge.cw_turnweave_k48_refused_windings_holds : PySem.Challenge.rw_turnweave_k48_refused_windings.Holds := by
 w_on;o_law;k_head;(case hw=>w_witness2)
 k_fill
 refine K48.walk (l:=PySem.Challenge.rw_turnweave_k48_refused_windings) rfl rfl (fun w h Y=>PySem.W.kIn_of Y) ?F
 case F=>
  intro w mg fa h KX G hmg
  refine' K48.all_mk KX G hmg (K48.dfn ?_ ?_ ?_ ?_) (K48.dfn ?_ ?_ ?_ ?_) (K48.dfn ?_ ?_ ?_ ?_) (K48.dfn ?_ ?_ ?_ ?_) (K48.dfn ?_ ?_ ?_ ?_) (K48.dfn ?_ ?_ ?_ ?_) (K48.dfn ?_ ?_ ?_ ?_) (K48.dfn ?_ ?_ ?_ ?_) (K48.dfn ?_ ?_ ?_ ?_) (K48.dfn ?_ ?_ ?_ ?_) (K48.dfn ?_ ?_ ?_ ?_) (K48.dfn ?_ ?_ ?_ ?_) (K48.dfn ?_ ?_ ?_ ?_) (K48.dfn ?_ ?_ ?_ ?_) (K48.dfn ?_ ?_ ?_ ?_) (K48.dfn ?_ ?_ ?_ ?_) (K48.dfn ?_ ?_ ?_ ?_) (K48.dfn ?_ ?_ ?_ ?_) (K48.dfn ?_ ?_ ?_ ?_) (K48.dfn ?_ ?_ ?_ ?_) (K48.dfn ?_ ?_ ?_ ?_) (K48.dfn ?_ ?_ ?_ ?_) (K48.dfn ?_ ?_ ?_ ?_) ?_ ?_ ?_ ?_ ?_ ?_ ?_ ?_ ?_ ?_ ?_ ?_ ?_ ?_ ?_ ?_ ?_ ?_ ?_ ?_ ?_ ?_ ?_ ?_ ?_ ?_ ?_ ?_ ?_ ?_ ?_ ?_ ?_ ?_ ?_ ?_ ?_ ?_ ?_ ?_ ?_ ?_ ?_ ?_<;>first |k_is |kit_is | (dsimp only[List.map];kit_is) |kts_exm | (delta L2.bmV;k_exc) |skip
end
