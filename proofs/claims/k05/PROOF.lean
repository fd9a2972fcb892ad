import PyProof.Rows.All
import Wide.All
import OpenK.AllK
import Wide.FinOn
import Lean
import PyProof.EqAt
import PyProof.EqKinds
import PyProof.TupleCall
import PyProof.NeKinds
import PyProof.ListMulRoad
import PyProof.AttrMissHeap
import KE.KDictOf
import KE.KRevIter
import PyProof.ListRange
import KE.KSortTup
import KE.KMinKey
import PyProof.MinMaxWalk
import PyProof.Rows.CallKwBuiltin
import PyProof.Rows.SetFrom
import PyProof.Rows.SeqMore
import PySem.Challenge.RW_turnweave_k05_read_there_and_back
set_option Elab.async false
set_option compiler.extract_closed false
set_option linter.all false
set_option maxRecDepth 100000
set_option maxHeartbeats 4000000
section
namespace L2
open PySem PySem.Spec PyProof.Rows
noncomputable abbrev Key:=Sum Int Str
noncomputable def zpF:Key→Value→Bool
 | .inl k,v=>Value.isInt k v
 | .inr x,v=>Value.isStrOf x v
noncomputable def zrR (w:World):Key→Int
 | .inl k=>hashInt k
 | .inr x=>hashStr w x
theorem zaO:∀{k:Key}{v:Value},zpF k v=true→(∃i t,k=Sum.inl i∧v=Value.int i t)∨(∃x t,k=Sum.inr x∧v=Value.str x t)
 | .inl i,v,h=>by
  obtain⟨t,e⟩:=Value.isInt_shape (k:=i) (v:=v) h;exact .inl ⟨i,t,rfl,e⟩
 | .inr x,v,h=>by
  obtain⟨t,e⟩:=Value.isStrOf_shape (x:=x) (v:=v) h;exact .inr ⟨x,t,rfl,e⟩
theorem zoZ (a b:Int):decide ((Sum.inl a:Key)=Sum.inl b)=(a == b):=by
 by_cases e:a=b
 ·subst e;simp
 ·have h:¬(Sum.inl a:Key)=Sum.inl b:=fun q=>e (Sum.inl.inj q);rw [decide_eq_false h];exact(beq_eq_false_iff_ne.mpr e).symm
theorem zpo (a b:Str):decide ((Sum.inr a:Key)=Sum.inr b)=decide (a=b):=by
 by_cases e:a=b
 ·subst e;simp
 ·have h:¬(Sum.inr a:Key)=Sum.inr b:=fun q=>e (Sum.inr.inj q);rw [decide_eq_false h,decide_eq_false e]
theorem zoC (a:Int) (b:Str):decide ((Sum.inl a:Key)=Sum.inr b)=false:=decide_eq_false (fun q=>nomatch q)
theorem zps (a:Str) (b:Int):decide ((Sum.inr a:Key)=Sum.inl b)=false:=decide_eq_false (fun q=>nomatch q)
noncomputable def zgH (prog:Program) (w:World):PySem.KeyKind prog w Key where
  is:=zpF
  hash:=zrR w
  inj:=fun v a b ha hb=>by
    rcases zaO ha with⟨i,t,rfl,rfl⟩ |⟨x,t,rfl,rfl⟩
    · rcases zaO hb with⟨j,u,rfl,e⟩ |⟨y,u,rfl,e⟩
      · injection e with e1 _;rw [e1]
      · exact nomatch e
    · rcases zaO hb with⟨j,u,rfl,e⟩ |⟨y,u,rfl,e⟩
      · exact nomatch e
      · injection e with e1 _;rw [e1]
  byValue:=fun k v h=>by
    rcases zaO h with⟨i,t,rfl,rfl⟩ |⟨x,t,rfl,rfl⟩<;>rfl
  pyHash:=fun hv h=>by
    rcases zaO hv with⟨i,t,rfl,rfl⟩ |⟨x,t,rfl,rfl⟩
    · exact wpAny_pyHash_int h
    · exact wpAny_pyHash_str h
  eqBool:=fun hu hv h=>by
    rcases zaO hu with⟨i,t,rfl,rfl⟩ |⟨x,t,rfl,rfl⟩
    · rcases zaO hv with⟨j,u,rfl,rfl⟩ |⟨y,u,rfl,rfl⟩
      · rw [zoZ]at h;exact wpAny_eqBool_int h
      · rw [zoC]at h;exact SeqAt.EqAt.int_str i t y u _ _ _ _ h
    · rcases zaO hv with⟨j,u,rfl,rfl⟩ |⟨y,u,rfl,rfl⟩
      · rw [zps]at h;exact SeqAt.EqAt.str_int x t j u _ _ _ _ h
      · rw [zpo]at h;exact wpAny_eqBool_str h
  «strs» :=fun k x t v h=>by
    rcases zaO h with⟨i,u,rfl,e⟩ |⟨y,u,rfl,e⟩
    · exact nomatch e
    · injection e with e1 _;subst e1;cases v<;>rfl
inductive V where
  |non |bl (b:Bool) |int (i:Int) |str (x:Str) |byt (b:Array UInt8) |flt (b:UInt64) |ref (a:Addr) |ty (n:String)
  deriving DecidableEq
noncomputable def RelV:V→Value→Prop
 | .non,u=>u=Value.none
 | .bl b,u=>u=Value.bool b
 | .int i,u=>∃t,u=Value.int i t
 | .str x,u=>∃t,u=Value.str x t
 | .byt b,u=>∃t,u=Value.bytes b t
 | .flt b,u=>∃t,u=Value.float b t
 | .ref a,u=>u=Value.ref a
 | .ty n,u=>u=Value.type n
noncomputable abbrev Vals:List V→List Value→Prop:=Paired RelV
theorem Vals.length{xs:List V}{us:List Value}(r:Vals xs us):xs.length=us.length:=Paired.length r
theorem Vals.get:∀{xs:List V}{us:List Value}{i:Nat}{x:V},Vals xs us→xs[i]? =some x→ ∃u,us[i]? =some u∧RelV x u
 |_,_,_,_, .nil,e=>by simp at e
 |_,_,0,_, .cons r _,e=>by simp at e;subst e;exact⟨_,rfl,r⟩
 |_,_,i+1,x, .cons _ t,e=>by
  obtain⟨u,h1,h2⟩:=Vals.get (i:=i) (x:=x) t (by simpa using e);exact⟨u,by simpa using h1,h2⟩
theorem Vals.append:∀{xs ys:List V}{us ws:List Value},Vals xs us→Vals ys ws→Vals (xs++ys) (us++ws)
 |_,_,_,_, .nil,s=>s
 |_,_,_,_, .cons r t,s=> .cons r (Vals.append t s)
theorem Vals.take:∀{xs:List V}{us:List Value}(n:Nat),Vals xs us→Vals (xs.take n) (us.take n)
 |_,_,0,_=> .nil
 |_,_,_+1, .nil=> .nil
 |_,_,n+1, .cons r t=> .cons r (Vals.take n t)
theorem Vals.drop:∀{xs:List V}{us:List Value}(n:Nat),Vals xs us→Vals (xs.drop n) (us.drop n)
 |_,_,0,r=>r
 |_,_,_+1, .nil=> .nil
 |_,_,n+1, .cons _ t=>Vals.drop n t
noncomputable def RelO:Option V→Option Value→Prop
 |some v,some u=>RelV v u
 |none,none=>True
 |_,_=>False
noncomputable def KV {κ:Type}:List (κ×V)→List (κ×Value)→Prop:=Paired fun(p:κ×V) (q:κ×Value)=>p.1=q.1∧RelV p.2 q.2
noncomputable def kV:Key→V
 | .inl i=> .int i
 | .inr x=> .str x
inductive HO where
    |lst (xs:List V)
    |tup (xs:List V)
    |dK (kvs:List (Key×V)) |dT (kvs:List (List Key×V))
    |set (S:Int→Bool) (n:Nat)
    |ins (C dx:Addr) (fs:List (Str×V))
    |own (x:Addr)
    |xd (fs:List (Str×V))
    |met (f x:Addr)
    |rng (lo hi:Int)
    |frz (o:Obj) (u:HO)
    |tbl (ps:Array Value)
    |ext (φ:Heap→Prop)
noncomputable abbrev Hp:=Addr→Option HO
noncomputable def upd (H:Hp) (a:Addr) (o:HO):Hp:=fun b=>if b=a then some o else H b
theorem zau{H:Hp}{a:Addr}{o:HO}:upd H a o a=some o:=by unfold upd;rw [if_pos rfl]
theorem zao{H:Hp}{a b:Addr}{o:HO}(h:b≠a):upd H a o b=H b:=by unfold upd;rw [if_neg h]
theorem zlu{H:Hp}{a b:Addr}{o u:HO}(h:H a=some o) (h':H b=some u) (d:o≠u):a≠b:=by
 intro e;subst e;rw [h]at h';exact d (Option.some.inj h')
theorem zam{H:Hp}{a b:Addr}{o:HO}(h:H a=some o) (h':H b=none):a≠b:=by
 intro e;subst e;rw [h]at h';cases h'
section
variable (P:Program) (w:World)
noncomputable def ObjOk (H:Hp) (h:Heap) (a:Addr):HO→Prop
 | .lst xs=>xs.length≤sizeLine∧ ∃(its:List Value) (n:Nat),Vals xs its∧h.get? a=some { cls:= .type "list",data:= .seq its.toArray n }
 | .tup xs=>xs.length≤sizeLine∧ ∃its:List Value,Vals xs its∧IsTup h a its.toArray
 | .dK kvs=>kvs.length≤sizeLine∧(a == sysModules)=false∧ ∃vs,KV kvs vs∧h.DictOf (zgH P w) a vs
 | .dT kvs=>kvs.length≤sizeLine∧(a == sysModules)=false∧ ∃xs:List (List Key×Addr×Value),
   Paired (fun(p:List Key×V) (q:List Key×Addr×Value)=>p.1=q.1∧H q.2.1=some (.tup (p.1.map kV))∧RelV p.2 q.2.2) kvs xs∧
   ∃o es ep,h.get? a=some o∧o.ExactDict∧o.data= .dict es ep∧es.toList=xs.map (entryOfKey (tupleKind (zgH P w)))∧(xs.map (·.1)).Nodup
 | .set S n=>h.SetOf (intKind P w) a S n
 | .ins C dx fs=>H dx=some (.own a)∧fs.length≤1000∧dx≠a∧h.get? a=some (PySem.W.instObj C dx)∧
   ∃mA,h.Ns1 dx mA∧(∀f,RelO (fs.lookup f) (mA f))∧PySem.Within mA (fs.map (·.1))
 | .own _=>∃o,h.get? a=some o
 | .xd fs=>∃mA,h.Ns1 a mA∧ ∀f,RelO (fs.lookup f) (mA f)
 | .rng lo hi=>∃t u v,h.get? a=some { cls:= .type "range",data:= .fields #[.int lo t, .int hi u, .int 1 v] }
 | .frz o u=>h.get? a=some o∧ObjOk H h a u
 | .tbl ps=>h.get? a=some { cls:= .none,data:= .fields ps }
 | .met f x=>h.get? a=some (PySem.W.methodObj (.ref f) (.ref x))
 | .ext φ=>φ h∧(∃o,h.get? a=some o)∧ ∀h1 h2:Heap,φ h1→(∀o,h1.get? a=some o→h2.get? a=some o)→φ h2
noncomputable def HOk (H:Hp) (h:Heap):Prop:=∀a o,H a=some o→ObjOk P w H h a o
end
section
variable {P:Program}{w:World}{H H':Hp}{h h':Heap}{a:Addr}{o:HO}
theorem ObjOk.lt (x:ObjOk P w H h a o):a<h.objs.size:=by
 cases o with
 |lst xs=>obtain⟨_,_,_,_,e⟩:=x;exact Heap.lt_size e
 |tup xs=>obtain⟨_,_,_,p⟩:=x;exact p.lt
 |dK kvs=>obtain⟨_,_,_,_,o,_,_,e,_⟩:=x;exact Heap.lt_size e
 |dT kvs=>obtain⟨_,_,_,_,o,_,_,e,_⟩:=x;exact Heap.lt_size e
 |set S n=>obtain⟨o,_,_,_,e,_⟩:=x;exact Heap.lt_size e
 |ins C dx fs=>obtain⟨_,_,_,e,_⟩:=x;exact Heap.lt_size e
 |own y=>obtain⟨_,e⟩:=x;exact Heap.lt_size e
 |xd fs=>obtain⟨_,⟨_,_,_,e,_⟩,_⟩:=x;exact Heap.lt_size e
 |rng lo hi=>obtain⟨_,_,_,e⟩:=x;exact Heap.lt_size e
 |frz ob u=>obtain⟨e,_⟩:=x;exact Heap.lt_size e
 |tbl ps=>exact Heap.lt_size (show h.get? a=some _ from x)
 |met f y=>exact Heap.lt_size (show h.get? a=some _ from x)
 |ext φ=>obtain⟨_,⟨_,e⟩,_⟩:=x;exact Heap.lt_size e
theorem Paired.mapP{α β:Type}{F G:α→β→Prop}:∀{l₁:List α}{l₂:List β},Paired F l₁ l₂→(∀a b,F a b→G a b)→Paired G l₁ l₂
 |_,_, .nil,_=> .nil
 |_,_, .cons r t,f=> .cons (f _ _ r) (Paired.mapP t f)
theorem ObjOk.stay (x:ObjOk P w H h a o) (k:∀b u,(b=a∨H b=some (.own a))→h.get? b=some u→h'.get? b=some u)
  (ho:∀b,H b=some (.own a)→H' b=some (.own a)) (ht:∀b xs,H b=some (.tup xs)→H' b=some (.tup xs)):ObjOk P w H' h' a o:=by
 induction o with
 |lst xs=>obtain⟨z,its,n,r,e⟩:=x;exact⟨z,its,n,r,k _ _ (.inl rfl) e⟩
 |tup xs=>obtain⟨z,its,r,ob,e,c⟩:=x;exact⟨z,its,r,ob,k _ _ (.inl rfl) e,c⟩
 |dK kvs=>obtain⟨z,y,vs,r,ob,es,ep,e,c⟩:=x;exact⟨z,y,vs,r,ob,es,ep,k _ _ (.inl rfl) e,c⟩
 |dT kvs=>
  obtain⟨z,y,xs,r,ob,es,ep,e,c⟩:=x;exact⟨z,y,xs,Paired.mapP r fun p q z=>⟨z.1,ht _ _ z.2.1,z.2.2⟩,ob,es,ep,k _ _ (.inl rfl) e,c⟩
 |set S n=>obtain⟨ob,es,ep,t,e,c⟩:=x;exact⟨ob,es,ep,t,k _ _ (.inl rfl) e,c⟩
 |ins C dx fs=>
  obtain⟨d,z,ne,e,mA,⟨od,es,ep,e2,c⟩,r⟩:=x;exact⟨ho _ d,z,ne,k _ _ (.inl rfl) e,mA,⟨od,es,ep,k _ _ (.inr d) e2,c⟩,r⟩
 |own y=>obtain⟨ob,e⟩:=x;exact⟨ob,k _ _ (.inl rfl) e⟩
 |xd fs=>obtain⟨mA,⟨od,es,ep,e,c⟩,r⟩:=x;exact⟨mA,⟨od,es,ep,k _ _ (.inl rfl) e,c⟩,r⟩
 |rng lo hi=>obtain⟨t,u,v,e⟩:=x;exact⟨t,u,v,k _ _ (.inl rfl) e⟩
 |frz ob u ih=>obtain⟨e,q⟩:=x;exact⟨k _ _ (.inl rfl) e,ih q⟩
 |tbl ps=>
  have e:h.get? a=some { cls:= .none,data:= .fields ps }:=x;show h'.get? a=some { cls:= .none,data:= .fields ps };exact k a _ (.inl rfl) e
 |met f y=>
  have e:h.get? a=some (PySem.W.methodObj (.ref f) (.ref y)):=x;show h'.get? a=some (PySem.W.methodObj (.ref f) (.ref y));exact k a _ (.inl rfl) e
 |ext φ=>obtain⟨p,⟨o,e⟩,st⟩:=x;exact⟨st _ _ p fun o q=>k _ _ (.inl rfl) q,⟨o,k _ _ (.inl rfl) e⟩,st⟩
theorem HOk.lt (x:HOk P w H h) (e:H a=some o):a<h.objs.size:=(x a o e).lt
theorem HOk.fresh (x:HOk P w H h) (e:h.objs.size≤a):H a=none:=by
 cases q:H a with
 |none=>rfl
 |some u=>exact absurd (Nat.lt_of_lt_of_le (x.lt q) e) (Nat.lt_irrefl _)
theorem HOk.kept (x:HOk P w H h) (k:∀b u,h.get? b=some u→h'.get? b=some u):HOk P w H h':=fun a o e=>
 (x a o e).stay (fun b u _ q=>k b u q) (fun _ q=>q) fun _ _ q=>q
theorem HOk.laid (x:HOk P w H h) (k:∀b u,h.get? b=some u→h'.get? b=some u) (hp:h.objs.size≤a) (new:ObjOk P w (upd H a o) h' a o):HOk P w (upd H a o) h':=fun b u e=>by
 have hn:=x.fresh hp;by_cases hb:b=a
 ·subst hb;rw [zau]at e;cases e;exact new
 ·rw [zao hb]at e;exact(x b u e).stay (fun c v _ q=>k c v q) (fun c q=>by rw [zao (zam q hn)];exact q) fun c xs q=>by rw [zao (zam q hn)];exact q
end
noncomputable def Rd (H:Hp) (a:Addr) (u:HO):Prop:=H a=some u∨ ∃o,H a=some (.frz o u)
theorem Rd.ok{P:Program}{w:World}{H:Hp}{h:Heap}{a:Addr}{u:HO}(r:Rd H a u) (x:HOk P w H h):ObjOk P w H h a u:=by
 rcases r with r |⟨o,r⟩
 ·exact x a u r
 ·obtain⟨_,q⟩:=x a _ r;exact q
noncomputable def Mut:Option HO→Prop
 |some (.lst _)=>True
 |some (.dK _)=>True
 |some (.dT _)=>True
 |some (.set _ _)=>True
 |some (.ins _ _ _)=>True
 |some (.ext _)=>True
 |_=>False
section
variable {P:Program}{w:World}{H:Hp}{h h':Heap}{x e:Addr}{o':HO}
theorem HOk.write (ok:HOk P w H h) (mu:Mut (H x)) (he:e=x∨H e=some (.own x)) (k:∀b u,b≠e→h.get? b=some u→h'.get? b=some u) (heo:∃u,h'.get? e=some u)
  (new:ObjOk P w (upd H x o') h' x o'):HOk P w (upd H x o') h':=fun b u q=>by
 have nown:∀c y,H c=some (.own y)→c≠x:=fun c y r z=>by subst z;rw [r]at mu;exact mu
 have ntup:∀c xs,H c=some (.tup xs)→c≠x:=fun c xs r z=>by subst z;rw [r]at mu;exact mu
 by_cases hb:b=x
 ·subst hb;rw [zau]at q;cases q;exact new
 ·rw [zao hb]at q;by_cases hbe:b=e
  ·have q':H b=some (.own x):=by
    rcases he with z |z
    ·exact absurd (hbe.trans z) hb
    ·rw [hbe];exact z
   rw [q]at q';cases q';obtain⟨v,hv⟩:=heo;exact⟨v,by rw [hbe];exact hv⟩
  ·refine(ok b u q).stay (fun c v hc r=>k c v ?_ r) (fun c r=>by rw [zao (nown c b r)];exact r) fun c xs r=>by rw [zao (ntup c xs r)];exact r
   rcases hc with rfl |hc
   ·exact hbe
   ·rintro rfl;rcases he with z |z
    ·exact nown c b hc z
    ·rw [hc]at z;cases z;exact hb rfl
end
structure Un (fs ex:List Addr) (H H':Hp) (h h':Heap):Prop where
  keep:∀b o,h.get? b=some o→H b=none→b∉fs→b∉ex→h'.get? b=some o
  slot:∀b o,h.get? b=some o→H b=none→b∈fs→b∉ex→ ∃sl,h'.get? b=some { o with slots:=sl }
  free:∀b o,h.get? b=some o→H b=none→b∉ex→H' b=none
  there:∀b o,h.get? b=some o→b∉ex→ ∃o',h'.get? b=some o'
  tups:∀b xs,H b=some (.tup xs)→H' b=some (.tup xs)
  frzs:∀b o u,H b=some (.frz o u)→H' b=some (.frz o u)
  tbls:∀b ps,H b=some (.tbl ps)→ ∃more,H' b=some (.tbl (ps++more))
section
variable {fs ex:List Addr}{H H1 H2:Hp}{h h1 h2 h':Heap}{a x e:Addr}{o:HO}
theorem Un.any (u:Un fs ex H H1 h h1) {b:Addr}{ob:Obj}(q:h.get? b=some ob) (n:H b=none) (hx:b∉ex):∃sl,h1.get? b=some { ob with slots:=sl }:=by
 by_cases hb:b∈fs
 ·exact u.slot b ob q n hb hx
 ·exact⟨ob.slots,u.keep b ob q n hb hx⟩
theorem Un.trans (a:Un fs ex H H1 h h1) (b:Un fs ex H1 H2 h1 h2):Un fs ex H H2 h h2 where
  keep:=fun c ob q n hc hx=>b.keep c ob (a.keep c ob q n hc hx) (a.free c ob q n hx) hc hx
  slot:=fun c ob q n hc hx=>by
    obtain⟨sl,e1⟩:=a.slot c ob q n hc hx;obtain⟨sl',e2⟩:=b.slot c _ e1 (a.free c ob q n hx) hc hx;exact⟨sl',e2⟩
  free:=fun c ob q n hx=>by
    obtain⟨o',e1⟩:=a.there c ob q hx;exact b.free c o' e1 (a.free c ob q n hx) hx
  there:=fun c ob q hx=>by
    obtain⟨o',e1⟩:=a.there c ob q hx;exact b.there c o' e1 hx
  tups:=fun c xs q=>b.tups c xs (a.tups c xs q)
  frzs:=fun c ob xs q=>b.frzs c ob xs (a.frzs c ob xs q)
  tbls:=fun c ps q=>by
    obtain⟨m1,e1⟩:=a.tbls c ps q;obtain⟨m2,e2⟩:=b.tbls c _ e1;exact⟨m1++m2,by rw [e2,Array.append_assoc]⟩
theorem Un.kept (k:∀b u,h.get? b=some u→h'.get? b=some u):Un fs ex H H h h':=
 ⟨fun b ob q _ _ _=>k b ob q,fun b ob q _ _ _=>⟨ob.slots,k b ob q⟩,fun _ _ _ n _=>n,fun b ob q _=>⟨ob,k b ob q⟩,fun _ _ q=>q,fun _ _ _ q=>q,fun _ ps q=>⟨#[],by rw [q];simp⟩⟩
theorem Un.refl:Un fs ex H H h h:=Un.kept fun _ _ q=>q
theorem Un.laid (k:∀b u,h.get? b=some u→h'.get? b=some u) (hp:h.objs.size≤a) (hn:H a=none):Un fs ex H (upd H a o) h h' where
  keep:=fun b u q _ _ _=>k b u q
  slot:=fun b u q _ _ _=>⟨u.slots,k b u q⟩
  free:=fun b u q n _=>by rw [zao (Nat.ne_of_lt (Nat.lt_of_lt_of_le (Heap.lt_size q) hp))];exact n
  there:=fun b u q _=>⟨u,k b u q⟩
  tups:=fun b xs q=>by rw [zao (zam q hn)];exact q
  frzs:=fun b u xs q=>by rw [zao (zam q hn)];exact q
  tbls:=fun b ps q=>⟨#[],by rw [zao (zam q hn),q];simp⟩
theorem Un.write (mu:Mut (H x)) (he:e=x∨H e=some (.own x)) (k:∀b u,b≠e→h.get? b=some u→h'.get? b=some u) (heo:∃u,h'.get? e=some u):Un fs ex H (upd H x o) h h':=by
 have hx:∀b,H b=none→b≠x:=fun b n z=>by subst z;rw [n]at mu;exact mu
 have hb:∀b,H b=none→b≠e:=fun b n z=>by
  subst z;rcases he with r |r
  ·exact hx b n r
  ·rw [n]at r;cases r
 have hm:∀b u,H b=some u→ ¬Mut (some u)→b≠x:=fun b u q nm z=>by subst z;rw [q]at mu;exact nm mu
 refine⟨fun b u q n _ _=>k b u (hb b n) q,fun b u q n _ _=>⟨u.slots,k b u (hb b n) q⟩,fun b u q n _=>by rw [zao (hx b n)];exact n,fun b u q _=>?_,
  fun b xs q=>by rw [zao (hm b _ q fun z=>z)];exact q,fun b u xs q=>by rw [zao (hm b _ q fun z=>z)];exact q,fun b ps q=>⟨#[],by rw [zao (hm b _ q fun z=>z),q];simp⟩⟩
 by_cases hbe:b=e
 ·subst hbe;exact heo
 ·exact⟨u,k b u hbe q⟩
end
noncomputable def trk (h:Heap) (H:Hp):List Addr:=(List.range h.objs.size).filter fun a=>(H a).isSome
noncomputable def zkJ (h:Heap) (H:Hp):Heap:=PySem.W.hideAll h (trk h H)
theorem zjz (h:Heap) (H:Hp):(zkJ h H).objs.size=h.objs.size:=PySem.W.hideAll_size _ _
theorem zkT{h:Heap}{H:Hp}{b:Addr}{o:Obj}(e:h.get? b=some o) (n:H b=none):(zkJ h H).get? b=some o:=
 PySem.W.hideAll_get _ e fun hm=>by
  have q:(H b).isSome=true:=(List.mem_filter.mp hm).2;rw [n]at q;simp at q
theorem znH{h:Heap}{H:Hp}{b:Addr}{o:Obj}(e:(zkJ h H).get? b=some o):h.get? b=some o∧H b=none:=by
 have e':h.get? b=some o:=PySem.W.of_hideAll (trk h H) e;refine⟨e',?_⟩;cases q:H b with
 |none=>rfl
 |some x=>
  have hm:b∈trk h H:=List.mem_filter.mpr ⟨List.mem_range.mpr (Heap.lt_size e'),by simp [q]⟩
  have z:(zkJ h H).get? b=none:=PySem.W.hideAll_none (trk h H) hm;rw [z]at e;cases e
noncomputable def znf (g h:Heap) (L:Addr):List (Addr×Obj):=(List.range h.objs.size).filterMap fun a=>if a=L∨(g.get? a).isSome=true then none else(h.get? a).map fun o=>(a,o)
noncomputable def rest (g h:Heap) (L d:Addr):List (Addr×Obj):=(znf g h L).filter fun p=>decide (p.1≠d)
structure Mod (K:PySem.W.Frag) (mg:Str→Option Value) (base:Heap):Prop where
  kin:K.In base
  glob:base.Ns mainGlobals mg
  blt:∃mb,base.Ns builtinsNs mb∧ ∀x:Str,x≠ "__name__" →mb x=bootBuiltins x
  nolimit:base.NoLimit
structure Cx where
  prog:Program
  w:World
  K:PySem.W.Frag
  mg:Str→Option Value
  base:Heap
  A:Around
  N:List Str
  s₀:Shared
  H₀:Hp
  env:Env
  outer:List Env
  stack:List Env
  ex:List Addr
  fn:Str→Bool
  calm:Bool
  pn:List (Addr×Obj)
  xe:Value→Shared→Prop
noncomputable def frs (l:List Env):List Addr:=l.filterMap (·.frame)
noncomputable abbrev Cx.fs (X:Cx):List Addr:=frs X.outer
noncomputable def Vis (sc:Scope) (x:Str):Prop:=sc.names.lookup x=some .local∨sc.names.lookup x=some .cell∨sc.names.lookup x=some .free
noncomputable def Loc (sc:Scope) (x:Str):Prop:=sc.names.lookup x=some .local∨sc.names.lookup x=some .cell
noncomputable def zrT (env:Env) (h:Heap) (m:Str→Option Value) (x:Str) (u:Value):Prop:=
 (env.kindOf x=some .local∧m x=some u)∨((env.kindOf x=some .cell∨env.kindOf x=some .free)∧ ∃c,env.cells.lookup x=some c∧h.IsCell c (some u))
structure Cx.Ok (X:Cx):Prop where
  mod:Mod X.K X.mg X.base
  kind:X.env.scope.kind= .function
  glob:X.env.globals=mainGlobals
  blt:X.env.builtins=builtinsNs
  above:X.s₀.heap.objs.size≤X.env.locals
  inj:∀x y c,X.env.cells.lookup x=some c→X.env.cells.lookup y=some c→x=y
  has:∀x,(X.env.kindOf x=some .cell∨X.env.kindOf x=some .free)→ ∃c,X.env.cells.lookup x=some c
  cab:∀x c,X.fn x=true→X.env.cells.lookup x=some c→X.s₀.heap.objs.size≤c
  hd:X.calm=true→X.A.handled=none
  frames:X.A.frames=some X.stack
  stk:X.stack=X.outer∨(X.stack=X.env::X.outer∧X.env.frame=some X.env.locals)
  exf:∀b∈X.ex,b≠X.env.locals∧ ∀x c,X.env.cells.lookup x=some c→c≠b
  bs:∀b o,X.base.get? b=some o→X.s₀.heap.get? b=some o∧X.H₀ b=none
  bsz:X.base.objs.size≤X.s₀.heap.objs.size
  noex:∀b o,X.base.get? b=some o→b∉X.ex
  exfs:∀b∈X.ex,b∉X.fs
  funs:X.s₀.heap.FunFrames X.base X.outer
  frf:∀b∈X.fs,X.H₀ b=none
structure Inv (X:Cx) (pins:List (Addr×Obj)) (σ:List (Option V)) (H:Hp) (s:Shared):Prop where
  ok:X.Ok
  os:s.os=X.s₀.os
  bare:AllBare s.gens
  base:Un X.fs X.ex X.H₀ H X.s₀.heap s.heap
  loc:∃m,s.heap.Ns X.env.locals m∧ ∀(i:Nat) (x:Str) (v:V),X.N[i]? =some x→σ[i]? =some (some v)→Vis X.env.scope x→ ∃u,RelV v u∧zrT X.env s.heap m x u
  cell:∀x c,X.env.cells.lookup x=some c→ ∃v,s.heap.IsCell c v
  free:H X.env.locals=none
  freeC:∀x c,X.env.cells.lookup x=some c→H c=none
  pin:∀p∈X.pn++pins,s.heap.get? p.1=some p.2∧H p.1=none∧p.1≠X.env.locals∧p.1∉X.fs∧ ∀v,p.2.data≠ .cell v
  hok:HOk X.prog X.w H s.heap
  len:σ.length=X.N.length
section
variable {X:Cx}{pins:List (Addr×Obj)}{σ:List (Option V)}{H H':Hp}{s:Shared}{h':Heap}
theorem Cx.Ok.nofr (ok:X.Ok) {b:Addr}{o:Obj}(e:X.base.get? b=some o):b∉X.fs:=fun hb=>by
 have:=(ok.funs.mem hb).1;rw [e]at this;cases this
theorem Inv.bs (I:Inv X pins σ H s):∀b o,X.base.get? b=some o→s.heap.get? b=some o∧H b=none:=fun b o e=>
 ⟨I.base.keep b o (I.ok.bs b o e).1 (I.ok.bs b o e).2 (I.ok.nofr e) (I.ok.noex b o e),I.base.free b o (I.ok.bs b o e).1 (I.ok.bs b o e).2 (I.ok.noex b o e)⟩
theorem Inv.bk (I:Inv X pins σ H s):∀b o,X.base.get? b=some o→s.heap.get? b=some o:=fun b o e=>(I.bs b o e).1
theorem Inv.mod (I:Inv X pins σ H s):Mod X.K X.mg X.base:=I.ok.mod
theorem Inv.kIn (I:Inv X pins σ H s):X.K.In s.heap:=I.ok.mod.kin.keeps I.bk
theorem Inv.lt (I:Inv X pins σ H s):X.env.locals<s.heap.objs.size:=let ⟨_,hn,_⟩:=I.loc;hn.lt
theorem Inv.sz (I:Inv X pins σ H s):X.s₀.heap.objs.size≤s.heap.objs.size:=Nat.le_trans I.ok.above (Nat.le_of_lt I.lt)
theorem Inv.nofs (I:Inv X pins σ H s) {a:Addr}(h:s.heap.objs.size≤a):a∉X.fs:=fun hb=>by
 obtain⟨_,o,ho,_⟩:=I.ok.funs.mem hb;exact absurd (Nat.lt_of_lt_of_le (Heap.lt_size ho) (Nat.le_trans I.sz h)) (Nat.lt_irrefl _)
theorem Inv.cne (I:Inv X pins σ H s):∀x c,X.env.cells.lookup x=some c→c≠X.env.locals:=fun x c e z=>by
 obtain⟨v,o,ho,hd⟩:=I.cell x c e;obtain⟨m,⟨o',es,ep,ho',hd',_⟩,_⟩:=I.loc;rw [z,ho']at ho;cases ho;rw [hd']at hd;cases hd
theorem Inv.funs (I:Inv X pins σ H s):s.heap.FunFrames X.base X.outer:=by
 have all:∀(l:List Env),(∀b∈frs l,b∈X.fs)→X.s₀.heap.FunFrames X.base l→s.heap.FunFrames X.base l:=by
  intro l
  induction l with
  |nil=>intro _ _;trivial
  |cons env r ih=>
   intro hs hl;obtain⟨hk,⟨L,o,hf,hn,ho,hd⟩,hr⟩:=hl;have hL:L∈X.fs:=hs L (by unfold frs;rw [List.filterMap_cons,hf];exact List.mem_cons_self);obtain⟨sl,e⟩:=I.base.slot L o ho (I.ok.frf L hL) hL fun z=>I.ok.exfs L z hL;exact⟨hk,⟨L,_,hf,hn,e,hd⟩,ih (fun b hb=>hs b (by unfold frs;rw [List.filterMap_cons,hf];exact List.mem_cons_of_mem _ hb)) hr⟩
 exact all X.outer (fun _ hb=>hb) I.ok.funs
theorem Inv.stack (I:Inv X pins σ H s):s.heap.FunFrames X.base X.stack:=by
 rcases I.ok.stk with e |⟨e,hf⟩
 ·rw [e];exact I.funs
 ·rw [e];obtain⟨m,hn,_⟩:=I.loc;refine .cons (by rw [I.ok.kind];decide) hf hn ?_ I.funs;exact Heap.get?_none_of_le (Nat.le_trans I.ok.bsz I.ok.above)
theorem Inv.stkSub (I:Inv X pins σ H s):∀b∈frs X.stack,b∈X.env.locals::X.fs:=fun b hb=>by
 rcases I.ok.stk with e |⟨e,hf⟩
 ·rw [e]at hb;exact List.mem_cons_of_mem _ hb
 ·rw [e]at hb;unfold frs at hb;rw [List.filterMap_cons,hf]at hb;exact hb
theorem Inv.stkFree (I:Inv X pins σ H s):∀b∈frs X.stack,H b=none:=fun b hb=>by
 rcases List.mem_cons.mp (I.stkSub b hb) with e |hb
 ·rw [e];exact I.free
 ·obtain⟨_,o,ho,_⟩:=I.ok.funs.mem hb;exact I.base.free b o ho (I.ok.frf b hb) fun z=>I.ok.exfs b z hb
theorem Inv.step{g':Array GenState}{t':Nat}{d':Drawn}{ch:List Addr}(I:Inv X pins σ H s)
  (hch:∀b∈ch,(b∈X.ex∨X.s₀.heap.objs.size≤b)∧b≠X.env.locals∧(∀x c,X.env.cells.lookup x=some c→c≠b)∧ ∀p∈X.pn++pins,p.1≠b)
  (keep:∀b o,b≠X.env.locals→b∉X.fs→b∉ch→s.heap.get? b=some o→H b=none→h'.get? b=some o)
  (slot:∀b o,b≠X.env.locals→b∈X.fs→b∉ch→s.heap.get? b=some o→H b=none→ ∃sl,h'.get? b=some { o with slots:=sl }) (free:∀b o,b∉ch→s.heap.get? b=some o→H b=none→H' b=none)
  (there:∀b o,b∉ch→s.heap.get? b=some o→ ∃o',h'.get? b=some o')
  (tups:∀b xs,H b=some (.tup xs)→H' b=some (.tup xs)) (frzs:∀b o u,H b=some (.frz o u)→H' b=some (.frz o u)) (tbls:∀b ps,H b=some (.tbl ps)→ ∃more,H' b=some (.tbl (ps++more)))
  (ns:∀m,s.heap.Ns X.env.locals m→h'.Ns X.env.locals m) (hok:HOk X.prog X.w H' h') (hg:AllBare g') :
  Inv X pins σ H' { s with heap:=h',gens:=g',drawn:=d',toks:=t' }:=by
 have neL:∀b o,X.s₀.heap.get? b=some o→b≠X.env.locals:=fun b o e=>Nat.ne_of_lt (Nat.lt_of_lt_of_le (Heap.lt_size e) I.ok.above);have neC:∀b o,X.s₀.heap.get? b=some o→b∉X.ex→b∉ch:=fun b o e hx hb=>by
  rcases(hch b hb).1 with z |z
  ·exact hx z
  ·exact absurd (Nat.lt_of_lt_of_le (Heap.lt_size e) z) (Nat.lt_irrefl _)
 have cellK:∀x c,X.env.cells.lookup x=some c→ ∀v,s.heap.IsCell c v→h'.IsCell c v:=fun x c e v ⟨o,ho,hd⟩=>by
  have nch:c∉ch:=fun z=>(hch c z).2.2.1 x c e rfl;by_cases hc:c∈X.fs
  ·obtain⟨sl,q⟩:=slot c o (I.cne x c e) hc nch ho (I.freeC x c e);exact⟨_,q,hd⟩
  ·exact⟨o,keep c o (I.cne x c e) hc nch ho (I.freeC x c e),hd⟩
 refine⟨I.ok,I.os,hg,⟨fun b o e n hb hx=>?_,fun b o e n hb hx=>?_,fun b o e n hx=>?_,fun b o e hx=>?_,fun b xs e=>tups b xs (I.base.tups b xs e),fun b o xs e=>frzs b o xs (I.base.frzs b o xs e),fun b ps e=>?_⟩,?_,fun x c e=>?_,?_,fun x c e=>?_,fun p hp=>?_,hok,I.len⟩
 ·exact keep b o (neL b o e) hb (neC b o e hx) (I.base.keep b o e n hb hx) (I.base.free b o e n hx)
 ·obtain⟨sl,e1⟩:=I.base.slot b o e n hb hx;obtain⟨sl',e2⟩:=slot b _ (neL b o e) hb (neC b o e hx) e1 (I.base.free b o e n hx);exact⟨sl',e2⟩
 ·obtain⟨o',e1⟩:=I.base.there b o e hx;exact free b o' (neC b o e hx) e1 (I.base.free b o e n hx)
 ·obtain⟨o',e1⟩:=I.base.there b o e hx;exact there b o' (neC b o e hx) e1
 ·obtain⟨m1,e1⟩:=I.base.tbls b ps e;obtain⟨m2,e2⟩:=tbls b _ e1;exact⟨m1++m2,by rw [e2,Array.append_assoc]⟩
 ·obtain⟨m,hn,hl⟩:=I.loc;refine⟨m,ns m hn,fun i x v e1 e2 e3=>?_⟩;obtain⟨u,r,l⟩:=hl i x v e1 e2 e3;refine⟨u,r,?_⟩;rcases l with l |⟨k,c,e,z⟩
  ·exact .inl l
  ·exact .inr ⟨k,c,e,cellK x c e _ z⟩
 ·obtain⟨v,z⟩:=I.cell x c e;exact⟨v,cellK x c e v z⟩
 ·obtain⟨m,⟨o,_,_,ho,_⟩,_⟩:=I.loc;exact free _ o (fun z=>(hch _ z).2.1 rfl) ho I.free
 ·obtain⟨v,o,ho,hd⟩:=I.cell x c e;exact free c o (fun z=>(hch c z).2.2.1 x c e rfl) ho (I.freeC x c e)
 ·obtain⟨e,n,ne,nf,d⟩:=I.pin p hp;have nch:p.1∉ch:=fun z=>(hch p.1 z).2.2.2 p hp rfl;exact⟨keep p.1 p.2 ne nf nch e n,free p.1 p.2 nch e n,ne,nf,d⟩
theorem Inv.un{t':Nat}(I:Inv X pins σ H s) (u:Un X.fs [] H H' s.heap h') (hok:HOk X.prog X.w H' h'):Inv X pins σ H' { s with heap:=h',toks:=t' }:=by
 obtain⟨m,⟨o,es,ep,ho,r⟩,_⟩:=id I.loc;obtain⟨sl,hL⟩:=u.any ho I.free (by simp);exact I.step (g':=s.gens) (d':=s.drawn) (ch:=[]) (fun _ z=>nomatch z) (fun b o _ hb _ e n=>u.keep b o e n hb (by simp)) (fun b o _ hb _ e n=>u.slot b o e n hb (by simp)) (fun b o _ e n=>u.free b o e n (by simp)) (fun b o _ e=>u.there b o e (by simp)) u.tups u.frzs u.tbls (fun m' hm=>by
  obtain⟨o',es',ep',ho',r'⟩:=hm;rw [ho]at ho';cases ho';exact⟨_,es',ep',hL,r'⟩) hok I.bare
theorem Inv.call{g':Array GenState}{t':Nat}{d':Drawn}{ch:List Addr}(I:Inv X pins σ H s) (u:Un (frs X.stack) ch H H' s.heap h') (hok:HOk X.prog X.w H' h') (hg:AllBare g')
  (hch:∀b∈ch,(b∈X.ex∨X.s₀.heap.objs.size≤b)∧b≠X.env.locals∧(∀x c,X.env.cells.lookup x=some c→c≠b)∧ ∀p∈X.pn++pins,p.1≠b) :
  Inv X pins σ H' { s with heap:=h',gens:=g',drawn:=d',toks:=t' }:=by
 obtain⟨m,⟨o,es,ep,ho,r⟩,_⟩:=id I.loc;obtain⟨sl,hL⟩:=u.any ho I.free fun z=>(hch _ z).2.1 rfl;exact I.step (ch:=ch) hch (fun b o hL hb hc e n=>u.keep b o e n (fun z=>(List.mem_cons.mp (I.stkSub b z)).elim hL hb) hc) (fun b o _ _ hc e n=>u.any e n hc) (fun b o hc e n=>u.free b o e n hc) (fun b o hc e=>u.there b o e hc) u.tups u.frzs u.tbls (fun m' hm=>by
  obtain⟨o',es',ep',ho',r'⟩:=hm;rw [ho]at ho';cases ho';exact⟨_,es',ep',hL,r'⟩) hok hg
theorem Inv.turned{t':Nat}{it:Addr}(I:Inv X pins σ H s) (k:∀b o,b≠it→s.heap.get? b=some o→h'.get? b=some o) (hn:H it=none) (hL:it≠X.env.locals)
  (h1:it∈X.ex∨X.s₀.heap.objs.size≤it) (h2:∀x c,X.env.cells.lookup x=some c→c≠it) (h3:∀p∈X.pn++pins,p.1≠it):Inv X pins σ H { s with heap:=h',toks:=t' }:=by
 have nit:∀b u,H b=some u→b≠it:=fun b u e z=>by rw [z,hn]at e;cases e
 refine I.step (g':=s.gens) (d':=s.drawn) (ch:=[it]) (fun b hb=>?_) (fun b o _ _ hc e _=>k b o (fun z=>hc (by simp [z])) e) (fun b o _ _ hc e _=>⟨o.slots,k b o (fun z=>hc (by simp [z])) e⟩) (fun _ _ _ _ n=>n)
  (fun b o hc e=>⟨o,k b o (fun z=>hc (by simp [z])) e⟩) (fun _ _ e=>e) (fun _ _ _ e=>e) (fun b ps e=>⟨#[],by rw [e];simp⟩) (fun m hm=>?_) (fun b u e=>?_) I.bare
 ·have e:b=it:=by simpa using hb
  subst e;exact⟨h1,hL,h2,h3⟩
 ·obtain⟨o,es,ep,ho,r⟩:=hm;exact⟨o,es,ep,k _ o (Ne.symm hL) ho,r⟩
 ·refine(I.hok b u e).stay (fun c v hc q=>k c v ?_ q) (fun _ q=>q) fun _ _ q=>q;rcases hc with z |z
  ·rw [z];exact nit b u e
  ·exact nit c _ z
theorem Inv.tok (I:Inv X pins σ H s) (t:Nat):Inv X pins σ H { s with toks:=t }:=I.un (h':=s.heap) (t':=t) Un.refl I.hok
theorem Inv.kept{t':Nat}(I:Inv X pins σ H s) (k:∀b u,s.heap.get? b=some u→h'.get? b=some u):Inv X pins σ H { s with heap:=h',toks:=t' }:=I.un (Un.kept k) (I.hok.kept k)
theorem Inv.laid{a:Addr}{o:HO}{t':Nat}(I:Inv X pins σ H s) (k:∀b u,s.heap.get? b=some u→h'.get? b=some u) (hp:s.heap.objs.size≤a) (new:ObjOk X.prog X.w (upd H a o) h' a o) :
  Inv X pins σ (upd H a o) { s with heap:=h',toks:=t' }:=I.un (Un.laid k hp (I.hok.fresh hp)) (I.hok.laid k hp new)
theorem Inv.write{x e:Addr}{o:HO}{t':Nat}(I:Inv X pins σ H s) (mu:Mut (H x)) (he:e=x∨H e=some (.own x)) (k:∀b u,b≠e→s.heap.get? b=some u→h'.get? b=some u) (heo:∃u,h'.get? e=some u)
  (new:ObjOk X.prog X.w (upd H x o) h' x o):Inv X pins σ (upd H x o) { s with heap:=h',toks:=t' }:=I.un (Un.write mu he k heo) (I.hok.write mu he k heo new)
theorem Inv.pins_of{pins':List (Addr×Obj)}(I:Inv X pins σ H s) (h:∀p∈pins',s.heap.get? p.1=some p.2∧H p.1=none∧p.1≠X.env.locals∧p.1∉X.fs∧ ∀v,p.2.data≠ .cell v):Inv X pins' σ H s:=
 ⟨I.ok,I.os,I.bare,I.base,I.loc,I.cell,I.free,I.freeC,fun p hp=>(List.mem_append.mp hp).elim (fun z=>I.pin p (List.mem_append_left _ z)) (h p),I.hok,I.len⟩
theorem zhw{N:List Str}(hN:N.Nodup) {i j:Nat}{x:Str}(a:N[i]? =some x) (b:N[j]? =some x):i=j:=by
 obtain⟨h1,e1⟩:=List.getElem?_eq_some_iff.mp a;obtain⟨h2,e2⟩:=List.getElem?_eq_some_iff.mp b;exact(List.getElem_inj hN).mp (e1.trans e2.symm)
theorem zja{M:Model}{A:Around}{E:Value→Shared→Prop}{i:Nat}{x:Str}{v:V}{u:Value}{Q:Unit→Shared→Prop}(I:Inv X pins σ H s) (hN:X.N.Nodup) (hi:X.N[i]? =some x) (hx:Loc X.env.scope x) (r:RelV v u)
  (h:∀s',Inv X pins (σ.set i (some v)) H s'→(∃a,Heap.SameBut a s.heap s'.heap∧(a=X.env.locals∨X.env.cells.lookup x=some a))→Q () s') (hf:X.fn x=true∨X.env.scope.names.lookup x=some .local:=by first |exact .inl rfl |exact .inr rfl |assumption):wpAny M A (storeName X.env x u) Q E s:=by
 obtain⟨m,hn,hl⟩:=id I.loc;have hcls:(X.env.scope.kind == .class || (X.env.scope.kind == .module&&X.env.locals != X.env.globals))=false:=by rw [I.ok.kind];rfl
 have hiσ:i<σ.length:=by rw [I.len];exact(List.getElem?_eq_some_iff.mp hi).1
 have cne:=I.cne;have tracked:∀{a:Addr}{h':Heap},(∃o,s.heap.get? a=some o∧H a=none)→Heap.SameBut a s.heap h'→HOk X.prog X.w H h':=fun {a h'} ha hs b ob e=>by
  obtain⟨_,_,hfree⟩:=ha;refine(I.hok b ob e).stay (fun c w' hc q=>(hs.2 c ?_).trans q) (fun _ q=>q) fun _ _ q=>q;rintro rfl;rcases hc with rfl |hc
  ·rw [hfree]at e;cases e
  ·rw [hfree]at hc;cases hc
 rcases hx with hk |hk
 ·refine wpAny_storeName_local hk hn (fun h' hn' hs=>?_) hcls;obtain⟨oL,_,_,hoL,_⟩:=id hn;refine h _ ⟨I.ok,I.os,I.bare,⟨fun b o e n hb hx=>?_,fun b o e n hb hx=>?_,I.base.free,fun b o e hx=>?_,I.base.tups,I.base.frzs,I.base.tbls⟩,⟨_,hn',fun j y v' e1 e2 e3=>?_⟩,fun y c e=>?_,I.free,I.freeC,fun p hp=>?_,tracked ⟨oL,hoL,I.free⟩ hs,by simpa using I.len⟩ ⟨_,hs, .inl rfl⟩
  ·exact(hs.2 b (Nat.ne_of_lt (Nat.lt_of_lt_of_le (Heap.lt_size e) I.ok.above))).trans (I.base.keep b o e n hb hx)
  ·obtain⟨sl,e1⟩:=I.base.slot b o e n hb hx;exact⟨sl,(hs.2 b (Nat.ne_of_lt (Nat.lt_of_lt_of_le (Heap.lt_size e) I.ok.above))).trans e1⟩
  ·obtain⟨o',e1⟩:=I.base.there b o e hx;exact⟨o',(hs.2 b (Nat.ne_of_lt (Nat.lt_of_lt_of_le (Heap.lt_size e) I.ok.above))).trans e1⟩
  ·by_cases hj:j=i
   ·subst hj;rw [hi]at e1;cases e1;rw [List.getElem?_set_self hiσ]at e2;cases e2;exact⟨u,r, .inl ⟨hk,by simp⟩⟩
   ·rw [List.getElem?_set_ne (Ne.symm hj)]at e2;obtain⟨u',r',q⟩:=hl j y v' e1 e2 e3;refine⟨u',r',?_⟩;rcases q with⟨k,e⟩ |⟨k,c,e,z⟩
    ·refine .inl ⟨k,?_⟩;have:y≠x:=fun e=>hj (zhw hN e1 (e▸hi));simp [this,e]
    ·exact .inr ⟨k,c,e,z.sameBut hs (cne y c e)⟩
  ·obtain⟨w',z⟩:=I.cell y c e;exact⟨w',z.sameBut hs (cne y c e)⟩
  ·obtain⟨e,n,ne,nf,d⟩:=I.pin p hp;exact⟨(hs.2 p.1 ne).trans e,n,ne,nf,d⟩
 ·have hfn:X.fn x=true:=by
   rcases hf with z |z
   ·exact z
   ·rw [z]at hk;cases hk
  obtain⟨c,hc⟩:=I.ok.has x (.inl hk);obtain⟨w',z⟩:=I.cell x c hc;refine wpAny_storeName_cell I.ok.kind hk hc z (fun h' hc' hs=>?_);obtain⟨oc,hoc,hocd⟩:=id z;refine h { s with heap:=h' } ⟨I.ok,I.os,I.bare,⟨fun b o e n hb hx=>?_,fun b o e n hb hx=>?_,I.base.free,fun b o e hx=>?_,I.base.tups,I.base.frzs,I.base.tbls⟩,⟨m,hn.sameBut hs (Ne.symm (cne x c hc)),fun j y v' e1 e2 e3=>?_⟩,fun y c' e=>?_,I.free,I.freeC,fun p hp=>?_,tracked ⟨oc,hoc,I.freeC x c hc⟩ hs,by simpa using I.len⟩ ⟨c,hs, .inr hc⟩
  ·exact(hs.2 b (Nat.ne_of_lt (Nat.lt_of_lt_of_le (Heap.lt_size e) (I.ok.cab x c hfn hc)))).trans (I.base.keep b o e n hb hx)
  ·obtain⟨sl,e1⟩:=I.base.slot b o e n hb hx;exact⟨sl,(hs.2 b (Nat.ne_of_lt (Nat.lt_of_lt_of_le (Heap.lt_size e) (I.ok.cab x c hfn hc)))).trans e1⟩
  ·obtain⟨o',e1⟩:=I.base.there b o e hx;exact⟨o',(hs.2 b (Nat.ne_of_lt (Nat.lt_of_lt_of_le (Heap.lt_size e) (I.ok.cab x c hfn hc)))).trans e1⟩
  ·by_cases hj:j=i
   ·subst hj;rw [hi]at e1;cases e1;rw [List.getElem?_set_self hiσ]at e2;cases e2;exact⟨u,r, .inr ⟨.inl hk,c,hc,hc'⟩⟩
   ·rw [List.getElem?_set_ne (Ne.symm hj)]at e2;obtain⟨u',r',q⟩:=hl j y v' e1 e2 e3;refine⟨u',r',?_⟩;rcases q with q |⟨k,c',e,z'⟩
    ·exact .inl q
    ·refine .inr ⟨k,c',e,z'.sameBut hs ?_⟩;rintro rfl;exact hj (zhw hN e1 (I.ok.inj _ _ _ e hc▸hi))
  ·by_cases hcc:c'=c
   ·subst hcc;exact⟨_,hc'⟩
   ·obtain⟨w2,z2⟩:=I.cell y c' e;exact⟨w2,z2.sameBut hs hcc⟩
  ·obtain⟨e,n,ne,nf,d⟩:=I.pin p hp;refine⟨(hs.2 p.1 ?_).trans e,n,ne,nf,d⟩;intro q;rw [q,hoc]at e;have q':oc=p.2:=Option.some.inj e;exact d w' (by rw [←q'];exact hocd)
theorem zeZ{M:Model}{A:Around}{E:Value→Shared→Prop}{i:Nat}{x:Str}{v:V}{u:Value}{Q:Unit→Shared→Prop}(I:Inv X pins σ H s) (hN:X.N.Nodup) (hi:X.N[i]? =some x) (hx:Loc X.env.scope x) (r:RelV v u)
  (h:∀s',Inv X pins (σ.set i (some v)) H s'→Q () s') (hf:X.fn x=true∨X.env.scope.names.lookup x=some .local:=by first |exact .inl rfl |exact .inr rfl |assumption):wpAny M A (storeName X.env x u) Q E s:=
 zja I hN hi hx r (fun s' I' _=>h s' I') hf
theorem Inv.call'{s':Shared}{ch:List Addr}(I:Inv X pins σ H s) (ho:s'.os=s.os) (u:Un (frs X.stack) ch H H' s.heap s'.heap) (hok:HOk X.prog X.w H' s'.heap) (hg:AllBare s'.gens)
  (hch:∀b∈ch,(b∈X.ex∨X.s₀.heap.objs.size≤b)∧b≠X.env.locals∧(∀x c,X.env.cells.lookup x=some c→c≠b)∧ ∀p∈X.pn++pins,p.1≠b):Inv X pins σ H' s':=by
 obtain⟨h',g',d',t',o'⟩:=s';have e:o'=s.os:=ho;subst e;exact I.call (g':=g') (t':=t') (d':=d') u hok hg hch
end
noncomputable abbrev XK:=Value→Option Addr→Hp→Prop
noncomputable abbrev St:=List (Option V)
noncomputable abbrev VK:=V→Hp→Prop
noncomputable abbrev TE:=St→Hp→VK→Prop
noncomputable abbrev TT:=St→Hp→(Bool→Hp→Prop)→Prop
noncomputable abbrev TA:=St→Hp→(List V→Hp→Prop)→Prop
structure Ends where
  nx:St→Hp→Prop
  rt:VK
  bk:St→Hp→Prop:=fun _ _=>False
  ct:St→Hp→Prop:=fun _ _=>False
noncomputable abbrev TS:=Ends→St→Hp→Prop
noncomputable def EP (X:Cx) (pins:List (Addr×Obj)) (σ:St) (Q:VK) (u:Value) (s':Shared):Prop:=∃v H',Inv X pins σ H' s'∧RelV v u∧Q v H'
noncomputable def TP (X:Cx) (pins:List (Addr×Obj)) (σ:St) (Q:Bool→Hp→Prop) (b:Bool) (s':Shared):Prop:=∃H',Inv X pins σ H' s'∧Q b H'
noncomputable def AP (X:Cx) (pins:List (Addr×Obj)) (σ:St) (Q:List V→Hp→Prop) (us:List Value) (s':Shared):Prop:=∃vs H',Inv X pins σ H' s'∧Vals vs us∧Q vs H'
noncomputable def SP (X:Cx) (pins:List (Addr×Obj)) (D:Ends) (f:Flow) (s':Shared):Prop:=
 match f with
 | .next=>∃σ' H',Inv X pins σ' H' s'∧D.nx σ' H'
 | .brk=>∃σ' H',Inv X pins σ' H' s'∧D.bk σ' H'
 | .cont=>∃σ' H',Inv X pins σ' H' s'∧D.ct σ' H'
 | .ret u=>∃v σ' H',Inv X pins σ' H' s'∧RelV v u∧D.rt v H'
noncomputable def PE (X:Cx) (e:Expr) (t:TE):Prop:=
 ∀(pins:List (Addr×Obj)) (s:Shared) (σ:St) (H:Hp) (Q:VK),Inv X pins σ H s→t σ H Q→wpAny (model X.prog X.w) X.A (eval e X.env) (EP X pins σ Q) X.xe s
noncomputable def PT (X:Cx) (e:Expr) (t:TT):Prop:=
 ∀(pins:List (Addr×Obj)) (s:Shared) (σ:St) (H:Hp) (Q:Bool→Hp→Prop),Inv X pins σ H s→t σ H Q→wpAny (model X.prog X.w) X.A (isTrue e X.env (eval e X.env)) (TP X pins σ Q) X.xe s
noncomputable def PW (X:Cx) (e:Expr) (t:TT):Prop:=
 ∀(whole:Sem Value) (pins:List (Addr×Obj)) (s:Shared) (σ:St) (H:Hp) (Q:Bool→Hp→Prop),Inv X pins σ H s→t σ H Q→wpAny (model X.prog X.w) X.A (isTrue e X.env whole) (TP X pins σ Q) X.xe s
theorem PW.pt{X:Cx}{e:Expr}{t:TT}(h:PW X e t):PT X e t:=h _
noncomputable def PA (X:Cx) (es:List Expr) (t:TA):Prop:=
 ∀(pos:Pos) (pins:List (Addr×Obj)) (s:Shared) (σ:St) (H:Hp) (Q:List V→Hp→Prop),Inv X pins σ H s→t σ H Q→wpAny (model X.prog X.w) X.A (spliced (backTo pos (starEach es X.env))) (AP X pins σ Q) X.xe s
noncomputable def PS (X:Cx) (st:Stmt) (t:TS):Prop:=
 ∀(pins:List (Addr×Obj)) (s:Shared) (σ:St) (H:Hp) (D:Ends),Inv X pins σ H s→t D σ H→wpAny (model X.prog X.w) X.A (exec st X.env) (SP X pins D) X.xe s
noncomputable def PSs (X:Cx) (st:List Stmt) (t:TS):Prop:=
 ∀(pins:List (Addr×Obj)) (s:Shared) (σ:St) (H:Hp) (D:Ends),Inv X pins σ H s→t D σ H→wpAny (model X.prog X.w) X.A (execs st X.env) (SP X pins D) X.xe s
theorem thn{α:Type}{t:Sem α}{Q Q':α→Shared→Prop}{M:Model}{A:Around}{E:Value→Shared→Prop}{s:Shared}(h:wpAny M A t Q E s) (hQ:∀a s,Q a s→Q' a s):wpAny M A t Q' E s:=wpAny_mono h hQ fun _ _ x=>x
section
variable {X:Cx}
noncomputable def zrL (i:Nat):TE:=fun σ H Q=>∃v,σ[i]? =some (some v)∧Q v H
noncomputable def tC (v:V):TE:=fun _ H Q=>Q v H
theorem zmi{i:Nat}{x:Str}{pos:Pos}(hN:X.N[i]? =some x) (hv:Vis X.env.scope x) (hd:(x == ("__debug__" :Str))=false:=by decide) (hcd:(x == ("__classdict__" :Str))=false:=by decide):PE X (.Name x pos) (zrL i):=by
 intro pins s σ H Q I h;obtain⟨v,e,h⟩:=h;obtain⟨m,hn,hl⟩:=I.loc;obtain⟨u,r,l⟩:=hl i x v hN e hv;have fin:EP X pins σ Q u s:=⟨v,H,I,r,h⟩;rcases l with⟨hk,hm⟩ |⟨hk,c,hc,hcell⟩
 ·exact wpAny_Name (wpAny_loadName_local I.ok.kind hk hn hm fin) hd
 ·rcases hk with hk |hk
  ·exact wpAny_Name (wpAny_loadName_cell I.ok.kind hk hc hcell fin) hd
  ·exact wpAny_Name (wpAny_loadName_free I.ok.kind hk hc hcell fin hcd) hd
theorem zoj{i j pos}:PE X (.Constant (.int i) j pos) (tC (.int i)):=fun _ _ _ H _ I h=>wpAny_Constant_int ⟨.int i,H,I.tok _,⟨_,rfl⟩,h⟩
theorem zqz{b j pos}:PE X (.Constant (.bool b) j pos) (tC (.bl b)):=fun _ _ _ H _ I h=>Constant_bool ⟨.bl b,H,I,rfl,h⟩
theorem zoK{x j pos}:PE X (.Constant (.str x) j pos) (tC (.str x)):=fun _ _ _ H _ I h=>Calls.Constant_str ⟨.str x,H,I.tok _,⟨_,rfl⟩,h⟩
noncomputable def Gl (X:Cx) (x:Str):Prop:=X.env.kindOf x=some .globalImplicit
theorem zfd{E:Value→Shared→Prop}{pins:List (Addr×Obj)}{s:Shared}{σ:St}{H:Hp}{x:Str}{u:Value}{pos:Pos}{Q:Value→Shared→Prop}(I:Inv X pins σ H s) (hg:Gl X x) (hm:X.mg x=some u) (h:Q u s)
  (hd:(x == ("__debug__" :Str))=false:=by decide):wpAny (model X.prog X.w) X.A (eval (.Name x pos) X.env) Q E s:=
 Calls.Name_function_global I.ok.kind hg (Calls.loadGlobal_global (by rw [I.ok.glob];exact I.mod.glob.keeps I.bk) hm h) hd
theorem zfX{E:Value→Shared→Prop}{pins:List (Addr×Obj)}{s:Shared}{σ:St}{H:Hp}{x:Str}{u:Value}{pos:Pos}{Q:Value→Shared→Prop}(I:Inv X pins σ H s) (hg:Gl X x) (hm:X.mg x=none) (hv:bootBuiltins x=some u) (h:Q u s)
  (hn:x≠ "__name__" :=by decide) (hd:(x == ("__debug__" :Str))=false:=by decide):wpAny (model X.prog X.w) X.A (eval (.Name x pos) X.env) Q E s:=by
 obtain⟨mb,h1,h2⟩:=I.mod.blt;exact Calls.Name_function_global I.ok.kind hg (Calls.loadGlobal_builtin (by rw [I.ok.glob];exact I.mod.glob.keeps I.bk) hm (by rw [I.ok.blt];exact h1.keeps I.bk) ((h2 x hn).trans hv) h) hd
theorem znB{x:Str}{v:V}{u:Value}{pos:Pos}(hg:Gl X x) (hm:X.mg x=some u) (r:RelV v u) (hd:(x == ("__debug__" :Str))=false:=by decide):PE X (.Name x pos) (tC v):=
 fun _ _ _ H _ I h=>zfd I hg hm ⟨v,H,I,r,h⟩ hd
theorem zmu{x:Str}{v:V}{u:Value}{pos:Pos}(hg:Gl X x) (hm:X.mg x=none) (hv:bootBuiltins x=some u) (r:RelV v u) (hn:x≠ "__name__" :=by decide) (hd:(x == ("__debug__" :Str))=false:=by decide):PE X (.Name x pos) (tC v):=
 fun _ _ _ H _ I h=>zfX I hg hm hv ⟨v,H,I,r,h⟩ hn hd
variable {a b:Expr}{ta tb:TE}{pos:Pos}
variable {tA tB':TT}{rest:List Expr}
noncomputable def zsi (t u:TT):TT:=fun σ H Q=>t σ H fun c H1=>if c=true then u σ H1 Q else Q false H1
noncomputable def tOr (t u:TT):TT:=fun σ H Q=>t σ H fun c H1=>if c=true then Q true H1 else u σ H1 Q
noncomputable def zrO (t:TT):TT:=fun σ H Q=>t σ H fun c H1=>Q (!c) H1
theorem zna (ha:PT X a tA):PW X (.BoolOp .And [a] pos) tA:=by
 intro wh pins s σ H Q I h;refine isTrue_and (thn (ha pins s σ H Q I h) fun c s1 e=>?_);cases c with
 |true=>exact isTrue_and_nil e
 |false=>exact e
theorem znX (ha:PT X a tA):PW X (.BoolOp .Or [a] pos) tA:=by
 intro wh pins s σ H Q I h;refine isTrue_or (thn (ha pins s σ H Q I h) fun c s1 e=>?_);cases c with
 |false=>exact isTrue_or_nil e
 |true=>exact e
theorem zqb (ha:PT X a tA) (hb:PW X (.BoolOp .And (b::rest) pos) tB'):PW X (.BoolOp .And (a::b::rest) pos) (zsi tA tB'):=by
 intro wh pins s σ H Q I h;refine isTrue_and (thn (ha pins s σ H _ I h) fun c s1 ⟨H1,I1,q1⟩=>?_);cases c with
 |true=>exact hb wh pins s1 σ H1 Q I1 q1
 |false=>exact⟨H1,I1,q1⟩
theorem zqS (ha:PT X a tA) (hb:PW X (.BoolOp .Or (b::rest) pos) tB'):PW X (.BoolOp .Or (a::b::rest) pos) (tOr tA tB'):=by
 intro wh pins s σ H Q I h;refine isTrue_or (thn (ha pins s σ H _ I h) fun c s1 ⟨H1,I1,q1⟩=>?_);cases c with
 |true=>exact⟨H1,I1,q1⟩
 |false=>exact hb wh pins s1 σ H1 Q I1 q1
theorem zoY (ha:PT X a tA):PT X (.UnaryOp .Not a pos) (zrO tA):=by
 intro pins s σ H Q I h;exact isTrue_not (ha pins s σ H (fun c H1=>Q (!c) H1) I h)
noncomputable def zrf (ta tb:TE):TE:=fun σ H Q=>ta σ H fun x H1=>∃c,x= .bl c∧if c=true then tb σ H1 Q else Q (.bl false) H1
noncomputable def zst (ta tb:TE):TE:=fun σ H Q=>ta σ H fun x H1=>∃c,x= .bl c∧if c=true then Q (.bl true) H1 else tb σ H1 Q
noncomputable def zrm (ta:TE):TE:=fun σ H Q=>ta σ H fun x H1=>∃c,x= .bl c∧Q (.bl (!c)) H1
theorem zqh{op}{t:TE}(h:PE X a t):PE X (.BoolOp op [a] pos) t:=fun pins s σ H Q I hw=>BoolOp_one (h pins s σ H Q I hw)
theorem zoJ (ha:PE X a ta) (hb:PE X (.BoolOp .And (b::rest) pos) tb):PE X (.BoolOp .And (a::b::rest) pos) (zrf ta tb):=by
 intro pins s σ H Q I h;refine BoolOp_and (thn (ha pins s σ H _ I h) fun v s1 ⟨x,H1,I1,r1,q1⟩=>?_);obtain⟨c,rfl,q1⟩:=q1;cases r1;refine wpAny_truthy_bool ?_;cases c with
 |true=>exact hb pins s1 σ H1 Q I1 q1
 |false=>exact⟨.bl false,H1,I1,rfl,q1⟩
theorem zqA (ha:PE X a ta) (hb:PE X (.BoolOp .Or (b::rest) pos) tb):PE X (.BoolOp .Or (a::b::rest) pos) (zst ta tb):=by
 intro pins s σ H Q I h;refine BoolOp_or (thn (ha pins s σ H _ I h) fun v s1 ⟨x,H1,I1,r1,q1⟩=>?_);obtain⟨c,rfl,q1⟩:=q1;cases r1;refine wpAny_truthy_bool ?_;cases c with
 |false=>exact hb pins s1 σ H1 Q I1 q1
 |true=>exact⟨.bl true,H1,I1,rfl,q1⟩
theorem zqc (ha:PE X a ta):PE X (.UnaryOp .Not a pos) (zrm ta):=by
 intro pins s σ H Q I h;refine UnaryOp_ (thn (ha pins s σ H _ I h) fun v s1 ⟨x,H1,I1,r1,q1⟩=>?_);obtain⟨c,rfl,q1⟩:=q1;cases r1;exact not_of (wpAny_truthy_bool ⟨.bl (!c),H1,I1,rfl,q1⟩)
end
noncomputable def SqL (K:PySem.W.Frag) (H:Hp) (a:Addr) (xs:List V):Prop:=
 Rd H a (.lst xs)∨
  ∃(o:Obj) (its:Array Value) (n:Nat),K.lookup a=some o∧o.cls= .type "list" ∧o.dict=none∧o.data= .seq its n∧its.size≤sizeLine∧Vals xs its.toList
noncomputable def SqT (K:PySem.W.Frag) (H:Hp) (a:Addr) (xs:List V):Prop:=
 Rd H a (.tup xs)∨
  ∃(o:Obj) (its:Array Value) (n:Nat),K.lookup a=some o∧o.cls= .type "tuple" ∧o.data= .seq its n∧its.size≤sizeLine∧Vals xs its.toList
noncomputable def zsm:Value→Option V
 | .none=>some .non
 | .bool b=>some (.bl b)
 | .int i _=>some (.int i)
 | .str x _=>some (.str x)
 | .bytes b _=>some (.byt b)
 | .float b _=>some (.flt b)
 | .ref a=>some (.ref a)
 | .type n=>some (.ty n)
 |_=>none
theorem RelV.abs{x:V}{u:Value}(r:RelV x u):zsm u=some x:=by
 cases x with
 |non=>cases r;rfl
 |bl _=>cases r;rfl
 |int _=>obtain⟨t,rfl⟩:=r;rfl
 |str _=>obtain⟨t,rfl⟩:=r;rfl
 |byt _=>obtain⟨t,rfl⟩:=r;rfl
 |flt _=>obtain⟨t,rfl⟩:=r;rfl
 |ref _=>cases r;rfl
 |ty _=>cases r;rfl
theorem RelV.inj{x y:V}{u:Value}(r:RelV x u) (q:RelV y u):x=y:=Option.some.inj (r.abs.symm.trans q.abs)
theorem Vals.inj:∀{xs ys:List V}{us:List Value},Vals xs us→Vals ys us→xs=ys
 |_,_,_, .nil, .nil=>rfl
 |_,_,_, .cons r t, .cons r' t'=>by rw [r.inj r',Vals.inj t t']
section
variable {X:Cx}{pins:List (Addr×Obj)}{σ:St}{H:Hp}{s:Shared}{a:Addr}{xs ys:List V}
theorem SqL.of{K:PySem.W.Frag}(h:H a=some (.lst xs)):SqL K H a xs:= .inl (.inl h)
theorem SqT.of{K:PySem.W.Frag}(h:H a=some (.tup xs)):SqT K H a xs:= .inl (.inl h)
theorem Inv.list (I:Inv X pins σ H s) (h:SqL X.K H a xs):∃its:List Value,Vals xs its∧PlainL s.heap a its.toArray∧xs.length≤sizeLine:=by
 rcases h with h |⟨o,its,n,hk,hc,hd,hs,hz,r⟩
 ·obtain⟨z,its,n,r,e⟩:=h.ok I.hok;exact⟨its,r,⟨_,n,e,rfl,rfl,rfl⟩,z⟩
 ·refine⟨its.toList,r,⟨o,n,I.kIn a o hk,hc,hd,by simpa using hs⟩,?_⟩
  have e:=r.length;simp only[Array.length_toList]at e;omega
theorem Inv.tuple (I:Inv X pins σ H s) (h:SqT X.K H a xs):∃its:List Value,Vals xs its∧IsTup s.heap a its.toArray∧xs.length≤sizeLine:=by
 rcases h with h |⟨o,its,n,hk,hc,hs,hz,r⟩
 ·obtain⟨z,its,r,p⟩:=h.ok I.hok;exact⟨its,r,p,z⟩
 ·refine⟨its.toList,r,⟨o,I.kIn a o hk,hc,n,by simpa using hs⟩,?_⟩
  have e:=r.length;simp only[Array.length_toList]at e;omega
theorem Inv.list_inj (I:Inv X pins σ H s) (h:SqL X.K H a xs) (h':SqL X.K H a ys):xs=ys:=by
 obtain⟨its,r,⟨o,n,e,_,_,d⟩,_⟩:=I.list h;obtain⟨its',r',⟨o',n',e',_,_,d'⟩,_⟩:=I.list h';rw [e]at e';cases e';rw [d]at d';injection d' with d1 _;have:its=its':=by simpa using congrArg Array.toList d1
 subst this;exact r.inj r'
theorem Inv.tuple_inj (I:Inv X pins σ H s) (h:SqT X.K H a xs) (h':SqT X.K H a ys):xs=ys:=by
 obtain⟨its,r,⟨o,e,_,n,d⟩,_⟩:=I.tuple h;obtain⟨its',r',⟨o',e',_,n',d'⟩,_⟩:=I.tuple h';rw [e]at e';cases e';rw [d]at d';injection d' with d1 _;have:its=its':=by simpa using congrArg Array.toList d1
 subst this;exact r.inj r'
end
noncomputable abbrev Cx.wish (X:Cx) (E:Value→Shared→Prop):Cx:={ X with xe:=E }
noncomputable abbrev Cx.nox (X:Cx):Cx:=X.wish fun _ _=>False
theorem Cx.Ok.wish{X:Cx}(ok:X.Ok) (E:Value→Shared→Prop):(X.wish E).Ok:=
 ⟨ok.mod,ok.kind,ok.glob,ok.blt,ok.above,ok.inj,ok.has,ok.cab,ok.hd,ok.frames,ok.stk,ok.exf,ok.bs,ok.bsz,ok.noex,ok.exfs,ok.funs,ok.frf⟩
theorem Cx.Ok.unwish{X:Cx}{E:Value→Shared→Prop}(ok:(X.wish E).Ok):X.Ok:=
 ⟨ok.mod,ok.kind,ok.glob,ok.blt,ok.above,ok.inj,ok.has,ok.cab,ok.hd,ok.frames,ok.stk,ok.exf,ok.bs,ok.bsz,ok.noex,ok.exfs,ok.funs,ok.frf⟩
section
variable {X:Cx}{pins:List (Addr×Obj)}{σ:St}{H:Hp}{s:Shared}{E:Value→Shared→Prop}
theorem Inv.wish (I:Inv X pins σ H s) (E:Value→Shared→Prop):Inv (X.wish E) pins σ H s:=⟨I.ok.wish E,I.os,I.bare,I.base,I.loc,I.cell,I.free,I.freeC,I.pin,I.hok,I.len⟩
theorem Inv.unwish (I:Inv (X.wish E) pins σ H s):Inv X pins σ H s:=⟨I.ok.unwish,I.os,I.bare,I.base,I.loc,I.cell,I.free,I.freeC,I.pin,I.hok,I.len⟩
theorem PE.nox{e:Expr}{t:TE}(h:PE X.nox e t):PE X e t:=fun pins s σ H Q I hw=>
 wpAny_mono (h pins s σ H Q (I.wish _) hw) (fun _ _ ⟨v,H',I',r,q⟩=>⟨v,H',I'.unwish,r,q⟩) fun _ _ z=>False.elim z
end
section
variable {X:Cx}{st:Stmt}{rest:List Stmt}{t u:TS}{e:Expr}{te:TE}{pos:Pos}
noncomputable def zra:TS:=fun D σ H=>D.nx σ H
noncomputable def zsA (t u:TS):TS:=fun D σ H=>t { D with nx:=u D } σ H
theorem pss_nil:PSs X [] zra:=fun _ _ σ H _ I h=>wpAny_execs_nil ⟨σ,H,I,h⟩
theorem zlJ (h1:PS X st t) (h2:PSs X rest u):PSs X (st::rest) (zsA t u):=by
 intro pins s σ H D I h;refine wpAny_execs_cons (thn (h1 pins s σ H { D with nx:=u D } I h) fun f s1 q=>?_);cases f with
 |next=>
  obtain⟨σ',H',I',q⟩:=q;exact h2 pins s1 σ' H' D I' q
 |ret v=>exact q
 |brk=>exact q
 |cont=>exact q
theorem zmN (h1:PS X st t):PSs X [st] t:=by
 intro pins s σ H D I h;refine wpAny_execs_cons (thn (h1 pins s σ H D I h) fun f s1 q=>?_);cases f with
 |next=>exact wpAny_execs_nil q
 |ret v=>exact q
 |brk=>exact q
 |cont=>exact q
theorem Inv.quiet{pins:List (Addr×Obj)}{σ:St}{H:Hp}{s:Shared}(I:Inv X pins σ H s):interactive X.env=false:=by simp [interactive,I.ok.kind]
noncomputable def zro (te:TE):TS:=fun D σ H=>te σ H fun _ H1=>D.nx σ H1
theorem zmE (he:PE X e te) (hs:swapsWith e none pos.line X.env=pure false:=by rfl):PS X (.Expr e pos) (zro te):=by
 intro pins s σ H D I h;exact wpAny_Expr_any (thn (he pins s σ H _ I h) fun v s1 ⟨x,H1,I1,r1,q1⟩=>⟨σ,H1,I1,q1⟩) I.quiet hs
noncomputable def zsu (te:TE):TS:=fun D σ H=>te σ H D.rt
theorem zpZ (he:PE X e te):PS X (.Return (some e) pos) (zsu te):=by
 intro pins s σ H D I h;exact wpAny_Return_some (thn (he pins s σ H _ I h) fun v s1 ⟨x,H1,I1,r1,q1⟩=>⟨x,σ,H1,I1,r1,q1⟩)
noncomputable def zrU (c:TT) (t u:TS):TS:=fun D σ H=>c σ H fun b H1=>if b=true then t D σ H1 else u D σ H1
theorem zqu{c:Expr}{a b:List Stmt}{tc:TT}(hc:PT X c tc) (ha:PSs X a t) (hb:PSs X b u):PS X (.If c a b pos) (zrU tc t u):=by
 intro pins s σ H D I h;refine wpAny_If (thn (hc pins s σ H _ I h) fun d s1 ⟨H1,I1,q1⟩=>?_);cases d with
 |true=>exact ha pins s1 σ H1 D I1 q1
 |false=>exact hb pins s1 σ H1 D I1 q1
noncomputable def zoi:TS:=fun _ _ _=>False
theorem ps_never:PS X st zoi:=fun _ _ _ _ _ _ h=>h.elim
end
noncomputable abbrev TG:=V→St→Hp→(St→Hp→Prop)→Prop
noncomputable abbrev TGs:=List V→St→Hp→(St→Hp→Prop)→Prop
noncomputable def PG (X:Cx) (target:Expr) (t:TG):Prop:=
 ∀(pins:List (Addr×Obj)) (s:Shared) (σ:St) (H:Hp) (v:V) (u:Value) (Q:St→Hp→Prop),Inv X pins σ H s→RelV v u→t v σ H Q→
  wpAny (model X.prog X.w) X.A (assign target X.env u) (fun _ s'=>∃σ' H',Inv X pins σ' H' s'∧Q σ' H') X.xe s
noncomputable def PGs (X:Cx) (ts:List Expr) (t:TGs):Prop:=
 ∀(pins:List (Addr×Obj)) (s:Shared) (σ:St) (H:Hp) (vs:List V) (us:List Value) (Q:St→Hp→Prop),Inv X pins σ H s→Vals vs us→t vs σ H Q→
  wpAny (model X.prog X.w) X.A (assignInOrder ((assignEach ts X.env).map (·.2)) us) (fun _ s'=>∃σ' H',Inv X pins σ' H' s'∧Q σ' H') X.xe s
noncomputable abbrev TIp:=V→V→Hp→VK→Prop
noncomputable def PIp (X:Cx) (op:Operator) (t:TIp):Prop:=
 ∀(pins:List (Addr×Obj)) (s:Shared) (σ:St) (H:Hp) (x y:V) (v u:Value) (Q:VK),Inv X pins σ H s→RelV x v→RelV y u→t x y H Q→
  wpAny (model X.prog X.w) X.A (inplaceOp op v u) (EP X pins σ Q) X.xe s
section
variable {X:Cx}{pos:Pos}
noncomputable def zpT (i:Nat):TG:=fun v σ H Q=>Q (σ.set i (some v)) H
theorem zmA{i:Nat}{x:Str}(hN:X.N.Nodup) (hi:X.N[i]? =some x) (hx:Loc X.env.scope x) (hf:X.fn x=true∨X.env.scope.names.lookup x=some .local:=by first |exact .inl rfl |exact .inr rfl |assumption):PG X (.Name x pos) (zpT i):=by
 intro pins s σ H v u Q I r h;exact wpAny_assign_Name (zeZ I hN hi hx r (fun s' I'=>⟨_,H,I',h⟩) hf)
noncomputable def zsn:TGs:=fun vs σ H Q=>vs=[]∧Q σ H
noncomputable def zrg (t:TG) (u:TGs):TGs:=fun vs σ H Q=>∃v r,vs=v::r∧t v σ H fun σ' H'=>u r σ' H' Q
theorem zmT:PGs X [] zsn:=by
 intro pins s σ H vs us Q I r h;obtain⟨e,h⟩:=h;subst e;cases r;exact assignInOrder_nil ⟨σ,H,I,h⟩
theorem zkt{e:Expr}{es:List Expr}{t:TG}{u:TGs}(h1:PG X e t) (h2:PGs X es u)
  (hs:(assignEach (e::es) X.env).map (·.2)=assign e X.env::(assignEach es X.env).map (·.2):=by rfl):PGs X (e::es) (zrg t u):=by
 intro pins s σ H vs us Q I r h;obtain⟨v,vr,e1,h⟩:=h;subst e1;cases r with
 |cons r rr=>
  rw [hs];refine assignInOrder_cons (thn (h1 pins s σ H _ _ _ I r h) fun _ s1 ⟨σ1,H1,I1,q1⟩=>?_);exact h2 pins s1 σ1 H1 _ _ Q I1 rr q1
noncomputable def zsc (K:PySem.W.Frag) (n:Nat) (t:TGs):TG:=fun v σ H Q=>∃a xs,v= .ref a∧SqT K H a xs∧xs.length=n∧t xs σ H Q
theorem zpS{es:List Expr}{k:Nat}{t:TGs}{n:Nat}(hc:X.calm=true) (h:PGs X es t)
  (hn:(assignEach es X.env).length=n:=by rfl) (hst:(assignEach es X.env).findIdx? (·.1)=none:=by rfl):PG X (.Tuple es k pos) (zsc X.K n t):=by
 intro pins s σ H v u Q I r hw;obtain⟨a,xs,e1,hq,hl,hw⟩:=hw;subst e1;cases r;obtain⟨its,rv,ht,hz⟩:=I.tuple hq;refine assign_Tuple_tuple (I.ok.hd hc) ht (by simp [hn,←hl,rv.length]) hst fun h' hx=>?_;have I1:Inv X pins σ H { s with heap:=h' }:=I.kept (t':=s.toks) fun b o e=>hx b o (Nat.ne_of_lt (Heap.lt_size e)) e;exact h pins _ σ H xs _ Q I1 (by simpa using rv) hw
noncomputable def zso (te:TE) (g:TG):TS:=fun D σ H=>te σ H fun x H1=>g x σ H1 D.nx
theorem zou{i:Nat}{x:Str}{e:Expr}{te:TE}{pos':Pos}(hN:X.N.Nodup) (hi:X.N[i]? =some x) (hx:Loc X.env.scope x) (he:PE X e te) (hs:swapsWith e (some (.Name x pos')) pos.line X.env=pure false:=by rfl) (hf:X.fn x=true∨X.env.scope.names.lookup x=some .local:=by first |exact .inl rfl |exact .inr rfl |assumption) :
  PS X (.Assign [.Name x pos'] e pos) (zso te (zpT i)):=by
 intro pins s σ H D I h;refine wpAny_Assign_Name (thn (he pins s σ H _ I h) fun v s1 ⟨y,H1,I1,r1,q1⟩=>?_) hs;exact zeZ I1 hN hi hx r1 (fun s2 I2=>⟨_,H1,I2,q1⟩) hf
noncomputable def zsh (i:Nat) (te:TE) (ti:TIp):TS:=fun D σ H=>∃x,σ[i]? =some (some x)∧te σ H fun y H1=>ti x y H1 fun z H2=>D.nx (σ.set i (some z)) H2
theorem zpN{i:Nat}{x:Str}{e:Expr}{te:TE}{op:Operator}{ti:TIp}{pos':Pos}(hN:X.N.Nodup) (hi:X.N[i]? =some x) (hx:Loc X.env.scope x) (he:PE X e te) (ho:PIp X op ti) (hf:X.fn x=true∨X.env.scope.names.lookup x=some .local:=by first |exact .inl rfl |exact .inr rfl |assumption) :
  PS X (.AugAssign (.Name x pos') op e pos) (zsh i te ti):=by
 intro pins s σ H D I h;obtain⟨v,e1,h⟩:=h;obtain⟨m,hn,hl⟩:=I.loc;have vis:Vis X.env.scope x:=by rcases hx with k |k;exact .inl k;exact .inr (.inl k)
 obtain⟨u,r,l⟩:=hl i x v hi e1 vis;refine wpAny_AugAssign_Name ?_;have go:wpAny (model X.prog X.w) X.A (eval e X.env) (fun w s₂=>wpAny (model X.prog X.w) X.A (inplaceOp op u w) (fun r s₃=>wpAny (model X.prog X.w) X.A (storeName X.env x r) (fun _=>SP X pins D .next) X.xe s₃) X.xe s₂) X.xe s:=by
  refine thn (he pins s σ H _ I h) fun w s1 ⟨y,H1,I1,r1,q1⟩=>?_;refine thn (ho pins s1 σ H1 v y u w _ I1 r r1 q1) fun z s2 ⟨zv,H2,I2,r2,q2⟩=>?_;exact zeZ I2 hN hi hx r2 (fun s3 I3=>⟨_,H2,I3,q2⟩) hf
 rcases l with⟨hk,hm⟩ |⟨hk,c,hc,hcell⟩
 ·exact wpAny_loadName_local I.ok.kind hk hn hm go
 ·rcases hk with hk |hk
  ·exact wpAny_loadName_cell I.ok.kind hk hc hcell go
  ·rcases hx with k |k
   ·have:X.env.scope.names.lookup x=some .free:=hk;rw [k]at this;cases this
   ·have:X.env.scope.names.lookup x=some .free:=hk;rw [k]at this;cases this
noncomputable def ipI (f:Int→Int→Int):TIp:=fun x y H Q=>∃i j,x= .int i∧y= .int j∧Q (.int (f i j)) H
theorem zor:PIp X .Add (ipI fun i j=>i+j):=by
 intro pins s σ H x y v u Q I r1 r2 h;obtain⟨i,j,e1,e2,q⟩:=h;subst e1;subst e2;obtain⟨t,rfl⟩:=r1;obtain⟨t',rfl⟩:=r2;exact iadd_int ⟨.int _,H,I.tok _,⟨_,rfl⟩,q⟩
end
section
variable {X:Cx}{pos:Pos}
noncomputable def zoB (c:TT) (tb:TS):TS:=fun D σ H=>∃W:Nat→St→Hp→Prop,(∃m,W m σ H)∧ ∀m σ H,W m σ H→
 c σ H fun b H1=>if b=true then ∃N:St→Hp→Prop,(∀σ' H',N σ' H'→ ∃m',m'<m∧W m' σ' H')∧tb { D with nx:=N,ct:=N,bk:=D.nx } σ H1 else D.nx σ H1
theorem zlc{c:Expr}{body:List Stmt}{tc:TT}{tb:TS}(hp:PassesOwn (model X.prog X.w) X.A X.env X.xe) (hc:PT X c tc) (hb:PSs X body tb):PS X (.While c body [] pos) (zoB tc tb):=by
 intro pins s σ H D I h;obtain⟨W,⟨m0,w0⟩,turn⟩:=h;refine wpAny_While (codeAny_whileLoop (fun n s'=>∃σ' H',Inv X pins σ' H' s'∧W n σ' H') ?_ m0 ⟨σ,H,I,w0⟩);rintro n s1 ⟨σ1,H1,I1,w1⟩;refine wpAny_passesOwn hp (thn (hc pins s1 σ1 H1 _ I1 (turn n σ1 H1 w1)) fun b s2 ⟨H2,I2,q2⟩=>?_);cases b with
 |true=>
  obtain⟨N,hN,q2⟩:=q2;rw [if_pos rfl];refine wpAny_passesOwn hp (thn (hb pins s2 σ1 H2 _ I2 q2) fun f s3 q3=>?_);cases f with
  |next=>
   obtain⟨σ3,H3,I3,n3⟩:=q3;obtain⟨m',hm,w3⟩:=hN σ3 H3 n3;exact⟨m',hm,σ3,H3,I3,w3⟩
  |cont=>
   obtain⟨σ3,H3,I3,n3⟩:=q3;obtain⟨m',hm,w3⟩:=hN σ3 H3 n3;exact⟨m',hm,σ3,H3,I3,w3⟩
  |brk=>exact q3
  |ret v=>exact q3
 |false=>
  rw [if_neg Bool.false_ne_true];exact wpAny_execs_nil ⟨σ1,H2,I2,q2⟩
end
structure It where
  go:Nat→Hp→Prop
  yld:Nat→Hp→V→Hp→Prop
  stop:Nat→Hp→Prop
noncomputable def zfo (X:Cx) (pins:List (Addr×Obj)) (H:Hp) (b:Addr):Prop:=
 H b=none∧b≠X.env.locals∧b∉X.fs∧(b∈X.ex∨X.s₀.heap.objs.size≤b)∧(∀x c,X.env.cells.lookup x=some c→c≠b)∧ ∀p∈X.pn++pins,p.1≠b
theorem Inv.fpOk{X:Cx}{pins:List (Addr×Obj)}{σ:St}{H H':Hp}{s:Shared}{b:Addr}(I:Inv X pins σ H s) (hb:s.heap.objs.size≤b) (hn:H' b=none):zfo X pins H' b:=by
 refine⟨hn,Nat.ne_of_gt (Nat.lt_of_lt_of_le I.lt hb),I.nofs hb, .inr (Nat.le_trans I.sz hb),fun x c e z=>?_,fun p hp z=>?_⟩
 ·obtain⟨v,q⟩:=I.cell x c e;exact absurd (Nat.lt_of_lt_of_le q.lt (by rw [z];exact hb)) (Nat.lt_irrefl _)
 ·exact absurd (Nat.lt_of_lt_of_le (Heap.lt_size (I.pin p hp).1) (by rw [z];exact hb)) (Nat.lt_irrefl _)
structure Turn (P:Program) (w:World) (K:PySem.W.Frag) (tg:Expr) (J:It) (fp:List Addr) (it:Addr) (tn:Nat→Heap→Prop):Prop where
  mem:it∈fp
  obj:∀i h,tn i h→ ∀b∈fp,∃o,h.get? b=some o∧ ∀v,o.data≠ .cell v
  keep:∀i h h',tn i h→(∀b∈fp,∀o,h.get? b=some o→h'.get? b=some o)→tn i h'
  item:∀(X:Cx),X.prog=P→X.w=w→X.K=K→X.calm=true→ ∀(i:Nat) (pins:List (Addr×Obj)) (s:Shared) (σ:St) (H:Hp) (E:Value→Shared→Prop),Inv X pins σ H s→(∀b∈fp,zfo X pins H b)→tn i s.heap→J.go i H→
    wpAny (model P w) X.A (pyNext (.ref it)) (fun r s1=>∃u,r=some u∧
      wpAny (model P w) X.A (letOwnedTupleGo tg (.ref it) u) (fun _ s2=>∃x H',Inv X pins σ H' s2∧RelV x u∧J.yld i H x H'∧tn (i+1) s2.heap∧ ∀b∈fp,H' b=none) E s1) E s
  done:∀(X:Cx),X.prog=P→X.w=w→X.K=K→X.calm=true→ ∀(i:Nat) (pins:List (Addr×Obj)) (s:Shared) (σ:St) (H:Hp) (E:Value→Shared→Prop),Inv X pins σ H s→(∀b∈fp,zfo X pins H b)→tn i s.heap→J.stop i H→
    wpAny (model P w) X.A (pyNext (.ref it)) (fun r s1=>r=none∧Inv X pins σ H s1) E s
  self:∀(A:Around) (i:Nat) (s:Shared) (Q:Value→Shared→Prop) (E:Value→Shared→Prop),tn i s.heap→Q (.ref it) s→wpAny (model P w) A (pyIter (.ref it)) Q E s
noncomputable abbrev TI:=St→Hp→(It→Hp→Prop)→Prop
noncomputable def PIE (X:Cx) (pins:List (Addr×Obj)) (σ:St) (tg:Expr) (R:It→Hp→Prop) (itv:Value) (s2:Shared):Prop:=
 ∃(it:Addr) (fp:List Addr) (tn:Nat→Heap→Prop) (J:It) (H':Hp),itv= .ref it∧Inv X pins σ H' s2∧Turn X.prog X.w X.K tg J fp it tn∧tn 0 s2.heap∧(∀b∈fp,zfo X pins H' b)∧R J H'
noncomputable def PI (X:Cx) (tg iter:Expr) (wi:TI):Prop:=
 ∀(pins:List (Addr×Obj)) (s:Shared) (σ:St) (H:Hp) (R:It→Hp→Prop),Inv X pins σ H s→wi σ H R→
  wpAny (model X.prog X.w) X.A (eval iter X.env) (fun v s1=>wpAny (model X.prog X.w) X.A (pyIter v) (PIE X pins σ tg R) X.xe s1) X.xe s
theorem zlp{M:Model}{A:Around}{E:Value→Shared→Prop}{s:Shared}{tg:Expr}{it:Addr}{u:Value}{o:Obj}{n:String}{vs:Array Value}{Q:Unit→Shared→Prop}(ho:s.heap.get? it=some o) (hc:o.cls= .type n) (hd:o.data= .fields vs)
    (hn: ["enumerate", "zip", "dict_itemiterator", "dict_reverseitemiterator", "odict_iterator", "itertools.zip_longest", "itertools.pairwise"].contains n=false) (hQ:Q () s):wpAny M A (letOwnedTupleGo tg (.ref it) u) Q E s:=by
  unfold letOwnedTupleGo;cases tg<;>first
    |exact wpAny_pure hQ
    | (cases u<;>first
        |exact wpAny_pure hQ
        | (refine wpAny_bind (wpAny_load ho ?_)
           rw [hc,hd];show wpAny M A (if(["enumerate", "zip", "dict_itemiterator", "dict_reverseitemiterator", "odict_iterator", "itertools.zip_longest", "itertools.pairwise"].contains n&&vs[0]? == some (rawInt _))=true then _ else _) Q E s;rw [if_neg (by intro h;rw [hn,Bool.false_and]at h;cases h)];exact wpAny_pure hQ))
noncomputable def Itl (K:PySem.W.Frag) (a:Addr):It:=
 ⟨fun i H=>∃xs x,SqL K H a xs∧xs[i]? =some x,fun i H x H'=>H'=H∧ ∀xs,SqL K H a xs→xs[i]? =some x,fun i H=>∃xs,SqL K H a xs∧xs.length≤i⟩
noncomputable def Itt (K:PySem.W.Frag) (a:Addr):It:=
 ⟨fun i H=>∃xs x,SqT K H a xs∧xs[i]? =some x,fun i H x H'=>H'=H∧ ∀xs,SqT K H a xs→xs[i]? =some x,fun i H=>∃xs,SqT K H a xs∧xs.length≤i⟩
noncomputable def Itr (lo:Int) (n:Nat):It:=⟨fun i _=>i<n,fun i H x H'=>H'=H∧x= .int (lo+i),fun i _=>n≤i⟩
theorem ziL{P:Program}{w:World}{K:PySem.W.Frag}{tg:Expr}(a it:Addr):Turn P w K tg (Itl K a) [it] it (fun i h=>h.IsListIter it a i) where
  mem:=by simp
  obj:=fun i h st b hb=>by
    have e:b=it:=by simpa using hb
    subst e;obtain⟨o,e,c,d⟩:=st;exact⟨o,e,fun v z=>by rw [d]at z;cases z⟩
  keep:=fun i h h' st k=>st.at fun o e=>k it (by simp) o e
  item:=by
    intro X hP hw hK hc i pins s σ H E I hf st hg;subst hP hw hK;obtain⟨xs,x,hq,hx⟩:=hg;obtain⟨its,rv,p,hz⟩:=I.list hq;obtain⟨u,hu,ru⟩:=rv.get hx;obtain⟨f0,f1,f2,f3,f4,f5⟩:=hf it (by simp);refine wpAny_pyNext_list_item st p.isList (x:=u) (by simpa using hu) fun h' st' sb=>?_;have I1:Inv X pins σ H { s with heap:=h' }:=I.turned (t':=s.toks) (fun b o hb e=>(sb.2 b hb).trans e) f0 f1 f3 f4 f5;obtain⟨o,e,c,d⟩:=id st';exact⟨u,rfl,zlp (s:={ s with heap:=h' }) e c d (by decide) ⟨x,H,I1,ru,⟨rfl,fun ys hy=>by rw [I.list_inj hy hq];exact hx⟩,st',fun b hb=>(hf b hb).1⟩⟩
  done:=by
    intro X hP hw hK hc i pins s σ H E I hf st hg;subst hP hw hK;obtain⟨xs,hq,hx⟩:=hg;obtain⟨its,rv,p,hz⟩:=I.list hq;obtain⟨f0,f1,f2,f3,f4,f5⟩:=hf it (by simp);have hl:=rv.length;exact wpAny_pyNext_list_end (I.ok.hd hc) st p.isList (by simp;omega) fun h' eb=>⟨rfl,I.turned (t':=s.toks) (fun b o hb e=>eb b o hb e) f0 f1 f3 f4 f5⟩
  self:=fun _ _ _ _ _ st h=>wpAny_pyIter_listiter st h
theorem zid{P:Program}{w:World}{K:PySem.W.Frag}{tg:Expr}(a it:Addr):Turn P w K tg (Itt K a) [it] it (fun i h=>h.IsTupleIter it a i) where
  mem:=by simp
  obj:=fun i h st b hb=>by
    have e:b=it:=by simpa using hb
    subst e;obtain⟨o,e,c,d⟩:=st;exact⟨o,e,fun v z=>by rw [d]at z;cases z⟩
  keep:=fun i h h' st k=>st.at fun o e=>k it (by simp) o e
  item:=by
    intro X hP hw hK hc i pins s σ H E I hf st hg;subst hP hw hK;obtain⟨xs,x,hq,hx⟩:=hg;obtain⟨its,rv,p,hz⟩:=I.tuple hq;obtain⟨u,hu,ru⟩:=rv.get hx;obtain⟨f0,f1,f2,f3,f4,f5⟩:=hf it (by simp);refine wpAny_pyNext_tuple_item st (show s.heap.IsTuple a its.toArray from p) (x:=u) (by simpa using hu) fun h' st' sb=>?_;have I1:Inv X pins σ H { s with heap:=h' }:=I.turned (t':=s.toks) (fun b o hb e=>(sb.2 b hb).trans e) f0 f1 f3 f4 f5;obtain⟨o,e,c,d⟩:=id st';exact⟨u,rfl,zlp (s:={ s with heap:=h' }) e c d (by decide) ⟨x,H,I1,ru,⟨rfl,fun ys hy=>by rw [I.tuple_inj hy hq];exact hx⟩,st',fun b hb=>(hf b hb).1⟩⟩
  done:=by
    intro X hP hw hK hc i pins s σ H E I hf st hg;subst hP hw hK;obtain⟨xs,hq,hx⟩:=hg;obtain⟨its,rv,p,hz⟩:=I.tuple hq;obtain⟨f0,f1,f2,f3,f4,f5⟩:=hf it (by simp);have hl:=rv.length;exact wpAny_pyNext_tuple_end (I.ok.hd hc) st (show s.heap.IsTuple a its.toArray from p) (by simp;omega) fun h' eb=>⟨rfl,I.turned (t':=s.toks) (fun b o hb e=>eb b o hb e) f0 f1 f3 f4 f5⟩
  self:=fun _ _ _ _ _ st h=>wpAny_pyIter_tupleiter st h
theorem zig{P:Program}{w:World}{K:PySem.W.Frag}{tg:Expr}(it:Addr) (lo:Int) (n:Nat):Turn P w K tg (Itr lo n) [it] it (fun i h=>IsRangeIter h it (lo+(i:Nat)*1) ((n:Int) - (i:Nat)) 1) where
  mem:=by simp
  obj:=fun i h st b hb=>by
    have e:b=it:=by simpa using hb
    subst e;exact⟨_,st,fun v z=>by
      have z':Data.fields _=Data.cell v:=z;cases z'⟩
  keep:=fun i h h' st k=>k it (by simp) _ st
  item:=by
    intro X hP hw hK hc i pins s σ H E I hf st hg;subst hP hw hK;obtain⟨f0,f1,f2,f3,f4,f5⟩:=hf it (by simp);have W:=Walks.range (prog:=X.prog) (w:=X.w) (I.ok.hd hc) it lo 1 n;refine W.item i s _ _ hg st fun v h' tk hv st' kk=>?_;obtain⟨t,rfl⟩:=hv;have I1:Inv X pins σ H { s with heap:=h',toks:=tk }:=I.turned (fun b o hb e=>kk b o (by simpa using hb) e) f0 f1 f3 f4 f5;refine⟨_,rfl,zlp (s:={ s with heap:=h',toks:=tk }) (n:= "range_iterator") st' rfl rfl (by decide) ⟨.int (lo+i),H,I1,⟨t,?_⟩,⟨rfl,rfl⟩,st',fun b hb=>(hf b hb).1⟩⟩;rw [Int.mul_one]
  done:=by
    intro X hP hw hK hc i pins s σ H E I hf st hg;subst hP hw hK;obtain⟨f0,f1,f2,f3,f4,f5⟩:=hf it (by simp);exact wpAny_pyNext_range_end (I.ok.hd hc) st (by have:n≤i:=hg;omega) fun h' eb=>⟨rfl,I.turned (t':=s.toks) (fun b o hb e=>eb b o hb e) f0 f1 f3 f4 f5⟩
  self:=fun _ _ _ _ _ st h=>wpAny_pyIter_rangeiter st h
section
variable {X:Cx}{tg:Expr}
theorem zlw{pins:List (Addr×Obj)}{σ:St}{H:Hp}{s:Shared}{R:It→Hp→Prop}{E:Value→Shared→Prop}{lo hi:Int}{t u v:Tok}{tk:Nat}(I:Inv X pins σ H s) (h1: -(2 ^ 62)≤lo) (h2:lo<2 ^ 62) (h3: -(2 ^ 62)≤hi) (h4:hi<2 ^ 62)
  (q:R (Itr lo (hi - lo).toNat) H):wpAny (model X.prog X.w) X.A (pyIter (.ref s.heap.objs.size)) (PIE X pins σ tg R) E { s with heap:=s.heap.push { cls:= .type "range",data:= .fields #[.int lo t, .int hi u, .int 1 v] },toks:=tk }:=by
 refine wpAny_pyIter_range (IsRange.new ..) (small_one h1 h2 h3 h4) ?_;have I1:Inv X pins σ H { s with heap:=s.heap.push { cls:= .type "range",data:= .fields #[.int lo t, .int hi u, .int 1 v] },toks:=tk }:=I.kept fun b o e=>Heap.get?_push_of_some _ e;refine⟨(s.heap.push { cls:= .type "range",data:= .fields #[.int lo t, .int hi u, .int 1 v] }).objs.size,[(s.heap.push { cls:= .type "range",data:= .fields #[.int lo t, .int hi u, .int 1 v] }).objs.size],_,_,H,rfl,
  I1.kept (t':=tk) fun b o e=>Heap.get?_push_of_some _ e,zig _ lo (hi - lo).toNat,?_,fun b hb=>?_,q⟩
 ·have e1:lo+((0:Nat):Int)*1=lo:=by simp
  have e2:(((hi - lo).toNat:Nat):Int) - ((0:Nat):Int)=Builtin.Range.rangeSize lo hi 1:=by rw [rangeSize_one];split<;>omega
  show IsRangeIter _ _ (lo+((0:Nat):Int)*1) ((((hi - lo).toNat:Nat):Int) - ((0:Nat):Int)) 1;rw [e1,e2];exact Heap.get?_push_size _ rfl
 ·have e:b=(s.heap.push { cls:= .type "range",data:= .fields #[.int lo t, .int hi u, .int 1 v] }).objs.size:=by simpa using hb
  subst e;exact I1.fpOk (Nat.le_refl _) (I1.hok.fresh (Nat.le_refl _))
noncomputable def zqF (ta:TA):TI:=fun σ H R=>ta σ H fun vs H1=>∃j:Int,vs=[.int j]∧ -(2 ^ 62)≤j∧j<2 ^ 62∧R (Itr 0 j.toNat) H1
theorem zjm{a:Expr}{ta:TA}{p pos:Pos}(hg:Gl X "range") (hm:X.mg "range" =none) (ha:PA X [a] ta) (hs:starEach [a] X.env=[(false,eval a X.env)]:=by rfl):PI X tg (.Call (.Name "range" p) [a] [] pos) (zqF ta):=by
 intro pins s σ H R I h;refine Call_ (zfX I hg hm boot_range (PyProof.Rows.callWith_type1 (thn (ha pos pins s σ H _ I h) fun us s1 ⟨vs,H1,I1,r1,q1⟩=>?_) hs rfl));obtain⟨j,e,q1,q2,q⟩:=q1;subst e;cases r1 with
 |cons r rr=>
  cases rr;obtain⟨t,rfl⟩:=r;exact call_range_1 (zlw I1 (by omega) (by omega) q1 q2 (by simpa using q))
noncomputable def zrY (wi:TI) (g:TG) (tb:TS):TS:=fun D σ H=>wi σ H fun J H1=>∃W:Nat→Nat→St→Hp→Prop,(∃m,W 0 m σ H1)∧ ∀i m σ H,W i m σ H→
 (J.stop i H∧D.nx σ H)∨(J.go i H∧ ∃N:St→Hp→Prop,(∀σ' H',N σ' H'→ ∃m',m'<m∧W (i+1) m' σ' H')∧ ∀x H',J.yld i H x H'→g x σ H' fun σ2 H2=>tb { D with nx:=N,ct:=N,bk:=D.nx } σ2 H2)
noncomputable def zfx (fp:List Addr) (h:Heap):List (Addr×Obj):=fp.filterMap fun b=>(h.get? b).map fun o=>(b,o)
theorem zcF{fp:List Addr}{h:Heap}{b:Addr}{o:Obj}(hb:b∈fp) (e:h.get? b=some o):(b,o)∈zfx fp h:=List.mem_filterMap.mpr ⟨b,hb,by rw [e];rfl⟩
theorem zjS{fp:List Addr}{h:Heap}{p:Addr×Obj}(hp:p∈zfx fp h):p.1∈fp∧h.get? p.1=some p.2:=by
 obtain⟨b,hb,e⟩:=List.mem_filterMap.mp hp;cases q:h.get? b with
 |none=>rw [q]at e;cases e
 |some o=>
  rw [q]at e;have e':(b,o)=p:=Option.some.inj e;subst e';exact⟨hb,q⟩
theorem Inv.pinned{pins:List (Addr×Obj)}{σ:St}{H:Hp}{s:Shared}{fp:List Addr}(I:Inv X pins σ H s) (hf:∀b∈fp,zfo X pins H b) (ho:∀b∈fp,∃o,s.heap.get? b=some o∧ ∀v,o.data≠ .cell v):Inv X (pins++zfx fp s.heap) σ H s:=
 I.pins_of fun p hp=>(List.mem_append.mp hp).elim (fun z=>I.pin p (List.mem_append_right _ z)) fun z=>by
  obtain⟨hb,e⟩:=zjS z;obtain⟨f0,f1,f2,_⟩:=hf p.1 hb;obtain⟨o,e',d⟩:=ho p.1 hb;rw [e]at e';cases e';exact⟨e,f0,f1,f2,d⟩
theorem Inv.unpinned{pins pl:List (Addr×Obj)}{σ:St}{H:Hp}{s:Shared}(I:Inv X (pins++pl) σ H s):Inv X pins σ H s:=I.pins_of fun p hp=>I.pin p (List.mem_append_right _ (List.mem_append_left _ hp))
theorem zoX{iter:Expr}{body:List Stmt}{wi:TI}{g:TG}{tb:TS}{pos:Pos}(hp:PassesOwn (model X.prog X.w) X.A X.env X.xe) (hc:X.calm=true) (hi:PI X tg iter wi) (hg:PG X tg g) (hb:PSs X body tb)
  (hs:∀x,foldedSetIterable iter X.env x=pure x:=by intro _;rfl):PS X (.For tg iter body [] pos) (zrY wi g tb):=by
 intro pins s σ H D I h;refine wpAny_For (thn (hi pins s σ H _ I h) fun v s1 h1=>thn h1 fun itv s2 h2=>?_) hs;obtain⟨it,fp,tn,J,H2,e,I2,T,st2,f2,W,⟨m0,w0⟩,turn⟩:=h2;subst e;have stat:∀{H':Hp},(∀b∈fp,H' b=none)→ ∀b∈fp,zfo X pins H' b:=fun hn b hb=>⟨hn b hb,(f2 b hb).2⟩;refine codeAny_forLoop_any (fun n s'=>∃i σ' H',Inv X pins σ' H' s'∧tn i s'.heap∧(∀b∈fp,H' b=none)∧W i n σ' H') ?_ m0 ⟨0,σ,H2,I2,st2,fun b hb=>(f2 b hb).1,w0⟩;rintro n s3 ⟨i,σ3,H3,I3,st3,fr3,w3⟩;rcases turn i n σ3 H3 w3 with⟨stop,qn⟩ |⟨go,N,hN,step⟩
 ·refine wpAny_passesOwn hp (thn (T.done X rfl rfl rfl hc i pins s3 σ3 H3 X.xe I3 (stat fr3) st3 stop) fun r s4 ⟨hr,I4⟩=>?_);subst hr;exact wpAny_execs_nil ⟨σ3,H3,I4,qn⟩
 ·refine wpAny_passesOwn hp (thn (T.item X rfl rfl rfl hc i pins s3 σ3 H3 X.xe I3 (stat fr3) st3 go) fun r s4 ⟨u,hr,h4⟩=>?_);subst hr;refine wpAny_passesOwn hp (thn h4 fun _ s5 ⟨x,H5,I5,r5,y5,st5,fr5⟩=>?_);have I5':=I5.pinned (stat fr5) (T.obj _ _ st5);refine wpAny_passesOwn hp (thn (hg _ s5 σ3 H5 x u _ I5' r5 (step x H5 y5)) fun _ s6 ⟨σ6,H6,I6,q6⟩=>?_);refine wpAny_passesOwn hp (thn (hb _ s6 σ6 H6 _ I6 q6) fun f s7 q7=>?_);have again:∀{σ7:St}{H7:Hp},Inv X (pins++zfx fp s5.heap) σ7 H7 s7→N σ7 H7→ ∃m,m<n∧ ∃i σ' H',Inv X pins σ' H' s7∧tn i s7.heap∧(∀b∈fp,H' b=none)∧W i m σ' H':=fun {σ7 H7} I7 n7=>by
   obtain⟨m',hm,w7⟩:=hN σ7 H7 n7;refine⟨m',hm,i+1,σ7,H7,I7.unpinned,T.keep _ _ _ st5 fun b hb o e=>(I7.pin (b,o) (List.mem_append_right _ (List.mem_append_right _ (zcF hb e)))).1,fun b hb=>?_,w7⟩;obtain⟨o,e,d⟩:=T.obj _ _ st5 b hb;exact(I7.pin (b,o) (List.mem_append_right _ (List.mem_append_right _ (zcF hb e)))).2.1
  cases f with
  |next=>obtain⟨σ7,H7,I7,n7⟩:=q7;exact again I7 n7
  |cont=>obtain⟨σ7,H7,I7,n7⟩:=q7;exact again I7 n7
  |brk=>obtain⟨σ7,H7,I7,q7⟩:=q7;exact⟨σ7,H7,I7.unpinned,q7⟩
  |ret v=>obtain⟨x7,σ7,H7,I7,r7,q7⟩:=q7;exact⟨x7,σ7,H7,I7.unpinned,r7,q7⟩
end
noncomputable abbrev R2:=V→V→Hp→VK→Prop
noncomputable def OpR (X:Cx) (f:Value→Value→Sem Value) (r:R2):Prop:=
 ∀(pins:List (Addr×Obj)) (s:Shared) (σ:St) (H:Hp) (x y:V) (v u:Value) (Q:VK),Inv X pins σ H s→RelV x v→RelV y u→r x y H Q→
  wpAny (model X.prog X.w) X.A (f v u) (EP X pins σ Q) X.xe s
noncomputable def UnR (X:Cx) (f:Value→Sem Value) (r:V→Hp→VK→Prop):Prop:=
 ∀(pins:List (Addr×Obj)) (s:Shared) (σ:St) (H:Hp) (x:V) (v:Value) (Q:VK),Inv X pins σ H s→RelV x v→r x H Q→
  wpAny (model X.prog X.w) X.A (f v) (EP X pins σ Q) X.xe s
noncomputable def CallR (X:Cx) (f:Value) (r:List V→Hp→VK→Prop):Prop:=
 ∀(pins:List (Addr×Obj)) (s:Shared) (σ:St) (H:Hp) (xs:List V) (us:List Value) (Q:VK),Inv X pins σ H s→Vals xs us→r xs H Q→
  wpAny (model X.prog X.w) X.A (call f us) (EP X pins σ Q) X.xe s
noncomputable def zsd (X:Cx) (r:V→Hp→(Bool→Hp→Prop)→Prop):Prop:=
 ∀(pins:List (Addr×Obj)) (s:Shared) (σ:St) (H:Hp) (x:V) (v:Value) (Q:Bool→Hp→Prop),Inv X pins σ H s→RelV x v→r x H Q→
  wpAny (model X.prog X.w) X.A (truthy v) (TP X pins σ Q) X.xe s
noncomputable def tOp (r:R2) (ta tb:TE):TE:=fun σ H Q=>ta σ H fun x H1=>tb σ H1 fun y H2=>r x y H2 Q
noncomputable def tUn (r:V→Hp→VK→Prop) (ta:TE):TE:=fun σ H Q=>ta σ H fun x H1=>r x H1 Q
noncomputable def rI (C:Int→Int→Prop) (g:Int→Int→V):R2:=fun x y H Q=>∃i j,x= .int i∧y= .int j∧C i j∧Q (g i j) H
noncomputable def rI0 (g:Int→Int→V):R2:=fun x y H Q=>∃i j,x= .int i∧y= .int j∧Q (g i j) H
noncomputable def rU (g:Int→V):V→Hp→VK→Prop:=fun x H Q=>∃i,x= .int i∧Q (g i) H
section
variable {X:Cx}{a b:Expr}{ta tb:TE}{pos:Pos}
theorem zqU (ha:PE X a ta) (hb:PE X b tb) {pins:List (Addr×Obj)}{s:Shared}{σ:St}{H:Hp}{R:V→V→Hp→Prop}(I:Inv X pins σ H s)
  (h:ta σ H fun x H1=>tb σ H1 fun y H2=>R x y H2) {Q:Value→Shared→Prop}{f:Value→Value→Sem Value}
  (hf:∀v u s2 x y H2,Inv X pins σ H2 s2→RelV x v→RelV y u→R x y H2→wpAny (model X.prog X.w) X.A (f v u) Q X.xe s2) :
  wpAny (model X.prog X.w) X.A (eval a X.env) (fun v s₁=>wpAny (model X.prog X.w) X.A (eval b X.env) (fun u s₂=>wpAny (model X.prog X.w) X.A (f v u) Q X.xe s₂) X.xe s₁) X.xe s:=by
 refine thn (ha pins s σ H _ I h) fun v s1 ⟨x,H1,I1,r1,q1⟩=>?_;refine thn (hb pins s1 σ H1 _ I1 q1) fun u s2 ⟨y,H2,I2,r2,q2⟩=>?_;exact hf v u s2 x y H2 I2 r1 r2 q2
theorem znL{op:Operator}{r:R2}(ho:OpR X (binaryOp op) r) (ha:PE X a ta) (hb:PE X b tb):PE X (.BinOp a op b pos) (tOp r ta tb):=by
 intro pins s σ H Q I h;exact wpAny_BinOp (zqU ha hb I h fun v u s2 x y H2 I2 rx ry q=>ho pins s2 σ H2 x y v u Q I2 rx ry q)
theorem zqC{op:UnaryOp}{r:V→Hp→VK→Prop}(ho:UnR X (unaryOp op) r) (ha:PE X a ta):PE X (.UnaryOp op a pos) (tUn r ta):=by
 intro pins s σ H Q I h;exact UnaryOp_ (thn (ha pins s σ H _ I h) fun v s1 ⟨x,H1,I1,r1,q1⟩=>ho pins s1 σ H1 x v Q I1 r1 q1)
theorem opI{f:Value→Value→Sem Value}{C:Int→Int→Prop}{g:Int→Int→Int}
  (rule:∀(i j:Int) (t u:Tok) (s:Shared) (Q:Value→Shared→Prop) (E:Value→Shared→Prop),C i j→Q (.int (g i j) s.toks) { s with toks:=s.toks+1 }→wpAny (model X.prog X.w) X.A (f (.int i t) (.int j u)) Q E s) :
  OpR X f (rI C fun i j=> .int (g i j)):=by
 intro pins s σ H x y v u Q I rx ry h;obtain⟨i,j,rfl,rfl,hc,q⟩:=h;obtain⟨t,rfl⟩:=rx;obtain⟨t',rfl⟩:=ry;exact rule i j t t' s _ _ hc ⟨.int (g i j),H,I.tok _,⟨_,rfl⟩,q⟩
theorem zrI{f:Value→Value→Sem Value}{g:Int→Int→Int}
  (rule:∀(i j:Int) (t u:Tok) (s:Shared) (Q:Value→Shared→Prop) (E:Value→Shared→Prop),Q (.int (g i j) s.toks) { s with toks:=s.toks+1 }→wpAny (model X.prog X.w) X.A (f (.int i t) (.int j u)) Q E s) :
  OpR X f (rI0 fun i j=> .int (g i j)):=by
 intro pins s σ H x y v u Q I rx ry h;obtain⟨i,j,rfl,rfl,q⟩:=h;obtain⟨t,rfl⟩:=rx;obtain⟨t',rfl⟩:=ry;exact rule i j t t' s _ _ ⟨.int (g i j),H,I.tok _,⟨_,rfl⟩,q⟩
theorem zqj{f:Value→Value→Sem Value}{g:Int→Int→Bool}
  (rule:∀(i j:Int) (t u:Tok) (s:Shared) (Q:Value→Shared→Prop) (E:Value→Shared→Prop),Q (.bool (g i j)) s→wpAny (model X.prog X.w) X.A (f (.int i t) (.int j u)) Q E s) :
  OpR X f (rI0 fun i j=> .bl (g i j)):=by
 intro pins s σ H x y v u Q I rx ry h;obtain⟨i,j,rfl,rfl,q⟩:=h;obtain⟨t,rfl⟩:=rx;obtain⟨t',rfl⟩:=ry;exact rule i j t t' s _ _ ⟨.bl (g i j),H,I,rfl,q⟩
noncomputable def zlS (i j:Int):Prop:=0<j∧j<1073741824
noncomputable def zmW (i j:Int):Prop:=0≤j∧j≤1000000∧i.natAbs<2 ^ 64
noncomputable def CMul (i j:Int):Prop:=(-(2 ^ 64)<i∧i<2 ^ 64)∨(-(2 ^ 64)<j∧j<2 ^ 64)
theorem CMul.ok{i j:Int}(h:CMul i j):IntMulOk i j:=by
 rcases h with⟨h1,h2⟩ |⟨h1,h2⟩
 ·exact .of_left (intBits_le_64 h1 h2)
 ·exact .of_right (intBits_le_64 h1 h2)
theorem op_add:OpR X (binaryOp .Add) (rI0 fun i j=> .int (i+j)):=zrI fun _ _ _ _ _ _ _ q=>add_int q
theorem zpQ:OpR X (binaryOp .Sub) (rI0 fun i j=> .int (i - j)):=zrI fun _ _ _ _ _ _ _ q=>sub_int q
theorem zpK:OpR X (binaryOp .Mult) (rI CMul fun i j=> .int (i*j)):=opI fun _ _ _ _ _ _ _ hc q=>mul_int q hc.ok
theorem znC:OpR X (binaryOp .FloorDiv) (rI zlS fun i j=> .int (i / j)):=opI fun i j _ _ _ _ _ hc q=>by
 have h1:(0:Int)<j:=hc.1;have h2:j<1073741824:=hc.2;exact floordiv_int (by omega) (by rw [Int.fdiv_eq_ediv_of_nonneg i (by omega)];exact q) (.inl (PyProof.noPylong_small (by omega)))
theorem zpm:OpR X (binaryOp .Mod) (rI (fun _ j=>0<j) fun i j=> .int (i % j)):=opI fun i j _ _ _ _ _ hc q=>by
 have h1:(0:Int)<j:=hc;exact mod_int' (by omega) (by rw [Int.fmod_eq_emod_of_nonneg i (by omega)];exact q)
theorem zpB:OpR X (binaryOp .Pow) (rI zmW fun i j=> .int (i ^ j.toNat)):=opI fun _ _ _ _ _ _ _ hc q=>pow_int_small hc.1 hc.2.1 hc.2.2 q
theorem unI{f:Value→Sem Value}{g:Int→Int}
  (rule:∀(i:Int) (t:Tok) (s:Shared) (Q:Value→Shared→Prop) (E:Value→Shared→Prop),Q (.int (g i) s.toks) { s with toks:=s.toks+1 }→wpAny (model X.prog X.w) X.A (f (.int i t)) Q E s) :
  UnR X f (rU fun i=> .int (g i)):=by
 intro pins s σ H x v Q I rx h;obtain⟨i,rfl,q⟩:=h;obtain⟨t,rfl⟩:=rx;exact rule i t s _ _ ⟨.int (g i),H,I.tok _,⟨_,rfl⟩,q⟩
theorem zop:UnR X (unaryOp .USub) (rU fun i=> .int (-i)):=unI fun _ _ _ _ _ q=>neg_int q
end
section
variable {X:Cx}{a b c:Expr}{ta tb tc:TE}{pos:Pos}
theorem zmg{pins:List (Addr×Obj)}{σ:St}{H:Hp}{s:Shared}{Q:VK}{k k':Bool}(I:Inv X pins σ H s) (q:Q (.bl k) H) (e:k=k'):EP X pins σ Q (.bool k') s:=by
 subst e;exact⟨.bl k,H,I,rfl,q⟩
theorem zqJ:OpR X (compareOp .Lt) (rI0 fun i j=> .bl (decide (i<j))):=zqj fun _ _ _ _ _ _ _ q=>lt_int q
theorem op_le:OpR X (compareOp .LtE) (rI0 fun i j=> .bl (decide (i≤j))):=zqj fun _ _ _ _ _ _ _ q=>le_int q
theorem zqY:OpR X (compareOp .Gt) (rI0 fun i j=> .bl (decide (j<i))):=zqj fun _ _ _ _ _ _ _ q=>gt_int q
theorem zrc:OpR X (compareOp .GtE) (rI0 fun i j=> .bl (decide (j≤i))):=zqj fun _ _ _ _ _ _ _ q=>ge_int q
theorem op_notin_str:OpR X (compareOp .NotIn) (fun x y H Q=>∃i j,x= .str i∧y= .str j∧Q (.bl (!(!(Builtin.Str.occurrences j i 0 j.length 1).isEmpty))) H):=by
 intro pins s σ H x y v u Q I rx ry h;obtain⟨i,j,rfl,rfl,q⟩:=h;obtain⟨t,rfl⟩:=rx;obtain⟨t',rfl⟩:=ry;exact notIn_str (zmg I q rfl)
theorem OpR.or{f:Value→Value→Sem Value}{r r':R2}(h:OpR X f r) (h':OpR X f r'):OpR X f (fun x y H Q=>r x y H Q∨r' x y H Q):=by
 intro pins s σ H x y v u Q I rx ry q;rcases q with q |q
 ·exact h pins s σ H x y v u Q I rx ry q
 ·exact h' pins s σ H x y v u Q I rx ry q
theorem nomark (b:Expr) {op:CmpOp}(h:op≠ .In:=by decide) (h2:op≠ .NotIn:=by decide):behindInMarks op b=false:=by
 have e1:(op == CmpOp.In)=false:=by cases op<;>first |rfl |exact absurd rfl h
 have e2:(op == CmpOp.NotIn)=false:=by cases op<;>first |rfl |exact absurd rfl h2
 cases b<;>simp [behindInMarks,e1,e2]
theorem zne{op:CmpOp}{r:R2}(ho:OpR X (compareOp op) r) (ha:PE X a ta) (hb:PE X b tb) (hm:behindInMarks op b=false):PE X (.Compare a [op] [b] pos) (tOp r ta tb):=by
 intro pins s σ H Q I h;exact wpAny_Compare1 (zqU ha hb I h fun v u s2 x y H2 I2 rx ry q=>ho pins s2 σ H2 x y v u Q I2 rx ry q) hm
noncomputable def zqB (t:TE):TT:=fun σ H Q=>t σ H fun x H'=>∃k,x= .bl k∧Q k H'
theorem zno{op:CmpOp}{r:R2}(ho:OpR X (compareOp op) r) (ha:PE X a ta) (hb:PE X b tb) (hm:behindInMarks op b=false):PT X (.Compare a [op] [b] pos) (zqB (tOp r ta tb)):=by
 intro pins s σ H Q I h;refine wpAny_isTrue_Compare1 (thn (ha pins s σ H _ I h) fun v s1 ⟨x,H1,I1,r1,q1⟩=>thn (hb pins s1 σ H1 _ I1 q1) fun u s2 ⟨y,H2,I2,r2,q2⟩=>
  thn (ho pins s2 σ H2 x y v u _ I2 r1 r2 q2) fun c s3 ⟨z,H3,I3,r3,k,e,q3⟩=>?_) hm
 subst e;cases r3;exact wpAny_truthy_bool ⟨H3,I3,q3⟩
noncomputable def zoS (r r':R2) (ta tb tc:TE):TE:=fun σ H Q=>ta σ H fun x H1=>tb σ H1 fun y H2=>r x y H2 fun z H3=>∃k,z= .bl k∧
 (if k=true then tc σ H3 fun w' H4=>r' y w' H4 Q else Q (.bl false) H3)
theorem zkx{op op':CmpOp}{r r':R2}(ho:OpR X (compareOp op) r) (ho':OpR X (compareOp op') r') (ha:PE X a ta) (hb:PE X b tb) (hc:PE X c tc)
  (hm:lastMarks [op,op'] [b,c]=false:=by with_unfolding_all rfl):PE X (.Compare a [op,op'] [b,c] pos) (zoS r r' ta tb tc):=by
 intro pins s σ H Q I h;refine Compare_chain (thn (ha pins s σ H _ I h) fun v s1 ⟨x,H1,I1,r1,q1⟩=>chain_link (thn (hb pins s1 σ H1 _ I1 q1) fun u s2 ⟨y,H2,I2,r2,q2⟩=>
  thn (ho pins s2 σ H2 x y v u _ I2 r1 r2 q2) fun d s3 ⟨z,H3,I3,r3,k,e,q3⟩=>?_)) hm
 subst e;cases r3;refine wpAny_truthy_bool ?_;cases k with
 |false=>exact ite_ff ⟨.bl false,H3,I3,rfl,q3⟩
 |true=>exact ite_tt (chain_last (thn (hc pins s3 σ H3 _ I3 q3) fun w' s4 ⟨z',H4,I4,r4,q4⟩=>ho' pins s4 σ H4 y z' u w' Q I4 r2 r4 q4))
noncomputable def zqQ (K:PySem.W.Frag) (x:V) (H:Hp) (k:Bool):Prop:=
 match x with
 | .non=>k=false
 | .bl b=>k=b
 | .int i=>k=(i != 0)
 | .str y=>y.length≤sizeLine∧k=((y.length:Int) != 0)
 | .byt y=>y.size≤sizeLine∧k=((y.size:Int) != 0)
 | .ref p=>(∃xs,SqL K H p xs∧k= !xs.isEmpty)∨(∃xs,SqT K H p xs∧k= !xs.isEmpty)∨ ∃kvs,H p=some (.dK kvs)∧k= !kvs.isEmpty
 |_=>False
theorem zir{κ:Type}{kvs:List (κ×V)}{vs:List (κ×Value)}(r:KV kvs vs):(!vs.isEmpty)= !kvs.isEmpty:=by
 cases r<;>rfl
theorem zeA{xs:List V}{its:List Value}(r:Vals xs its):(!its.toArray.isEmpty)= !xs.isEmpty:=by
 cases r<;>simp
theorem zez:(sizeLine:Nat)<2 ^ 63:=by rw [sizeLine_eq];decide
theorem zoh:zsd X (fun x H Q=>∃k,zqQ X.K x H k∧Q k H):=by
 intro pins s σ H x v Q I rx h;obtain⟨k,e,q⟩:=h;have hl:=zez;have hs:sizeLine=16777216:=sizeLine_eq;cases x with
 |non=>
  cases rx;have e':k=false:=e;subst e';exact truthy_none ⟨H,I,q⟩
 |bl b=>
  cases rx;have e':k=b:=e;subst e';exact wpAny_truthy_bool ⟨H,I,q⟩
 |int i=>
  obtain⟨t,rfl⟩:=rx;have e':k=(i != 0):=e;subst e';exact PySem.P.truthy_int ⟨H,I,q⟩
 |str y=>
  obtain⟨t,rfl⟩:=rx;obtain⟨hy,e'⟩:y.length≤sizeLine∧k=((y.length:Int) != 0):=e;subst e';exact PySem.P.truthy_str (by omega) ⟨H,I.tok _,q⟩
 |byt y=>
  obtain⟨t,rfl⟩:=rx;obtain⟨hy,e'⟩:y.size≤sizeLine∧k=((y.size:Int) != 0):=e;subst e';exact PySem.W.truthy_bytes (by omega) ⟨H,I.tok _,q⟩
 |ref p=>
  cases rx;have e':(∃xs,SqL X.K H p xs∧k= !xs.isEmpty)∨(∃xs,SqT X.K H p xs∧k= !xs.isEmpty)∨ ∃kvs,H p=some (.dK kvs)∧k= !kvs.isEmpty:=e;rcases e' with⟨xs,hx,e'⟩ |⟨xs,hx,e'⟩ |⟨kvs,hx,e'⟩
  ·subst e';obtain⟨its,r,pl,hz⟩:=I.list hx;have hlen:=r.length;exact wpAny_truthy_list pl.isList (by simp only[List.size_toArray];omega) ⟨H,I.tok _,by rw [zeA r];exact q⟩
  ·subst e';obtain⟨its,r,pl,hz⟩:=I.tuple hx;have hlen:=r.length;exact truthy_tuple pl (by simp only[List.size_toArray];omega) ⟨H,I.tok _,by rw [zeA r];exact q⟩
  ·subst e';obtain⟨hz,hS,vs,r,m⟩:kvs.length≤sizeLine∧(p == sysModules)=false∧ ∃vs,KV kvs vs∧s.heap.DictOf (zgH X.prog X.w) p vs:=I.hok p _ hx;have hlen:kvs.length=vs.length:=Paired.length r;exact wpAny_truthy_dict hS m (by omega) ⟨H,I.tok _,by rw [zir r];exact q⟩
 |_=>exact(show False from e).elim
theorem zlt (ha:PE X a ta) (he:∀whole,isTrue a X.env whole=(do let v ←whole;standAt a.pos;holding [v] (truthy v))) :
  PT X a (fun σ H Q=>ta σ H fun x H'=>∃k,zqQ X.K x H' k∧Q k H'):=by
 intro pins s σ H Q I h;exact isTrue_plain (thn (ha pins s σ H _ I h) fun v s1 ⟨x,H1,I1,r1,q1⟩=>zoh pins s1 σ H1 x v Q I1 r1 q1) (he _)
theorem op_add_str:OpR X (binaryOp .Add) (fun x y H Q=>∃i j,x= .str i∧y= .str j∧i.length+j.length≤sizeLine∧Q (.str (i++j)) H):=by
 intro pins s σ H x y v u Q I rx ry h;obtain⟨i,j,rfl,rfl,hz,q⟩:=h;obtain⟨t,rfl⟩:=rx;obtain⟨t',rfl⟩:=ry;exact add_str (fun t' tk=>⟨.str (i++j),H,I.tok _,⟨_,rfl⟩,q⟩) hz
theorem zfj{x:V}{us:List Value}(r:Vals [x] us):∃u,us=[u]∧RelV x u:=by
 cases r with
 |cons r1 r2=>cases r2;exact⟨_,rfl,r1⟩
theorem zrb{x y:V}{us:List Value}(r:Vals [x,y] us):∃u w',us=[u,w']∧RelV x u∧RelV y w':=by
 cases r with
 |cons r1 r2=>
  cases r2 with
  |cons r3 r4=>cases r4;exact⟨_,_,rfl,r1,r3⟩
theorem zjO:CallR X (.type "int") (fun xs H Q=>(∃i,xs=[.int i]∧Q (.int i) H)∨ ∃k,xs=[.bl k]∧Q (.int (if k then 1 else 0)) H):=by
 intro pins s σ H xs us Q I r h;rcases h with⟨i,rfl,q⟩ |⟨k,rfl,q⟩
 ·obtain⟨u,rfl,t,rfl⟩:=zfj r;exact call_int_int ⟨.int i,H,I,⟨_,rfl⟩,q⟩
 ·obtain⟨u,rfl,r1⟩:=zfj r;cases r1;exact call_int_bool ⟨.int (if k then 1 else 0),H,I.tok _,⟨_,rfl⟩,q⟩
theorem zfF:CallR X (.type "str") (fun xs H Q=>∃i,xs=[.int i]∧i.natAbs.log2<1920∧Q (.str (toString i)) H):=by
 intro pins s σ H xs us Q I r h;obtain⟨i,rfl,hz,q⟩:=h;obtain⟨u,rfl,t,rfl⟩:=zfj r;exact PySem.P.str_of_int hz ⟨.str _,H,I.tok _,⟨_,rfl⟩,q⟩
end
structure ObjM (h:Heap) (x dx C:Addr) (mA:Str→Option Value):Prop where
  obj:h.get? x=some (PySem.W.instObj C dx)
  ns:h.Ns1 dx mA
  ne:dx≠x
theorem zkf{h:Heap}{dx:Addr}{mA:Str→Option Value}(n:h.Ns1 dx mA):∃od,h.get? dx=some od∧ ∀name,PySem.W.lookIn name od=some (mA name):=by
 obtain⟨o,es,ep,ho,hd,hk,_,hm⟩:=n;refine⟨o,ho,fun name=>?_⟩;have e:=hm name;unfold nsFind findBy at e;rw [←Array.find?_toList]at e;unfold PySem.W.lookIn;rw [hd];dsimp only;split
 ·rename_i y q;rw [q]at e;exact congrArg some e
 ·rename_i q;rw [q]at e;have a:es.toList.any (·.refKey)=false:=by
   rw [List.any_eq_false];intro y hy;obtain⟨z,t,hkey⟩:=hk y (Array.mem_toList_iff.mp hy);simp [DictEntry.refKey,hkey]
  have a':¬es.toList.any (·.refKey)=true:=by rw [a];exact Bool.false_ne_true
  rw [if_neg a'];exact congrArg some e
theorem ObjM.look{h:Heap}{x dx C:Addr}{mA:Str→Option Value}(I:ObjM h x dx C mA):∃od,PySem.W.InstAt h x (PySem.W.instObj C dx) C (some od)∧ ∀name,PySem.W.lookIn name od=some (mA name):=
 let ⟨od,ho,hl⟩:=zkf I.ns
 ⟨od,⟨I.obj,rfl,rfl,ho⟩,hl⟩
section
variable {prog:Program}{w:World}{A:Around}{E:Value→Shared→Prop}{s:Shared}{K:PySem.W.Frag}{x dx C f:Addr}{mA:Str→Option Value}{name:Str}{v:Value}
theorem zmX{expr:Bool}{Q:Value→Shared→Prop}(X:K.In s.heap) (I:ObjM s.heap x dx C mA) (hg:PySem.W.plainGet K C name=true) (hh:PySem.W.hasDictIn K C=true)
  (ha:PySem.W.findIn K (.ref C) name=some none) (hv:mA name=some v) (hv':PySem.W.handedIn v=true) (h:Q v { s with toks:=s.toks+1 }) :
  wpAny (model prog w) A (getAttr (.ref x) name expr) Q E s:=by
 obtain⟨od,J,hl⟩:=I.look;exact PySem.W.get_value X J (PySem.W.plainGet_of hg).1 (PySem.W.findObj_own hh ha rfl (by rw [hl,hv])) hv' h
theorem zks{pl:Sem Bool}{Q:Value×List Value→Shared→Prop}(X:K.In s.heap) (I:ObjM s.heap x dx C mA) (hg:PySem.W.plainGet K C name=true)
  (hf:PySem.W.findIn K (.ref C) name=some (some (.ref f))) (ht:PySem.W.isFn K (.ref f)=true) (hv:mA name=none) (h:Q (.ref f,[.ref x]) s) :
  wpAny (model prog w) A (getMethod (.ref x) name pl) Q E s:=by
 obtain⟨od,J,hl⟩:=I.look;exact PySem.W.method_fn X J (PySem.W.plainGet_of hg).1 (PySem.W.plainGet_of hg).2 hf (beq_iff_eq.mp ht) (by show(PySem.W.lookIn name od).map (·.isSome)=some false;rw [hl,hv];rfl) h
theorem zni{ns:List Str}{Q:Unit→Shared→Prop}(X:K.In s.heap) (I:ObjM s.heap x dx C mA)
  (hs:PySem.W.findIn K (.ref C) "__setattr__" =some (some (.builtin "object.__setattr__"))) (hp:PySem.W.plainOver K C=true) (ht:PySem.W.takerIn K C name=some none) (hh:PySem.W.hasDictIn K C=true)
  (hw:PySem.Within mA ns) (hsz:ns.length≤sizeLine)
  (h:∀h',ObjM h' x dx C (fun y=>if y=name then some v else mA y)→Heap.SameBut dx s.heap h'→Q () { s with heap:=h',toks:=s.toks+2 }) :
  wpAny (model prog w) A (setAttr (.ref x) name v) Q E s:=by
 obtain⟨od,J,hl⟩:=I.look;refine PySem.W.set_plain X J hs (PySem.W.osa_open (s:={ s with toks:=s.toks+1 }) (r:=none) X J hp ht fun b=>?_);obtain⟨cd,hc,hd'⟩:=PySem.W.any_some hh;have hx:s.heap.get? x=some ⟨.ref C,some dx, .plain, #[]⟩:=I.obj;refine wpAny_bind (wpAny_pure (wpAny_bind (wpAny_bind (wpAny_loadPart hx (wpAny_bind (PySem.W.Looks.here (s:={ s with toks:=s.toks+1 }) (PySem.W.looks_clsIn X hc) ?_))))));rw [hd'];refine wpAny_pure (a:=some dx) (wpAny_bind (wpAny_pure (wpAny_bind ?_)));refine wpAny_nsSet1 (s:={ s with toks:=s.toks+1 }) I.ns fun h' hn2 hs2=>?_;obtain⟨oD,esD,epD,hoD,hdD,hcD⟩:=hn2.count (PySem.Within.cons name v hw);refine wpAny_bind (wpAny_lookBehind hoD (by rw [hdD];exact pastItsLine_dict (Nat.le_trans hcD (by rw [List.length_cons];omega))) ?_)
 exact wpAny_pure (h _ ⟨(hs2.2 _ (Ne.symm I.ne)).trans I.obj,hn2,I.ne⟩ hs2)
theorem zkG{R:Result→Shared→Prop}{vs:List Value}{kw:List (Str×Value)}(X:K.In s.heap) (hm:PySem.W.makesIn K C=true)
  (hi:PySem.W.findIn K (.ref C) "__init__" =some (some (.ref f))) (hf:PySem.W.typeIn K (.ref f)=some (.type "function"))
  (h:codeAny (model prog w) (A.under (.builtin "type.__call__" ⟨.ref C::vs,kw⟩)) (.call (.ref f) ⟨.ref (s.heap.objs.size+1)::vs,kw⟩) (PySem.W.InitBack (s.heap.objs.size+1) R)
   { s with heap:=(s.heap.push PySem.W.emptyDict).push (PySem.W.instObj C s.heap.objs.size) }) :
  codeAny (model prog w) A (.call (.ref C) ⟨vs,kw⟩) R s:=by
 obtain⟨hh,g,d,t,os⟩:=s;exact PySem.W.make_core (PySem.W.makes_of X hm) (PySem.W.looks_findIn X hi) (fun self=>PySem.W.bind_fn X self hf) (.inl rfl) h
end
noncomputable def zeV (f:Str) (v:V):List (Str×V)→List (Str×V)
 | []=>[(f,v)]
 | (g,x)::r=>if g=f then(g,v)::r else(g,x)::zeV f v r
theorem zec (f g:Str) (v:V):∀fs:List (Str×V),(zeV f v fs).lookup g=if g=f then some v else fs.lookup g
 | []=>by
  show List.lookup g [(f,v)]=_;by_cases h:g=f
  ·have hb:(g == f)=true:=beq_iff_eq.mpr h;simp only[List.lookup,hb,if_pos h]
  ·have hb:(g == f)=false:=beq_eq_false_iff_ne.mpr h;simp only[List.lookup,hb,if_neg h]
 | (k,x)::r=>by
  have ih:=zec f g v r;rw [show zeV f v ((k,x)::r)=(if k=f then(k,v)::r else(k,x)::zeV f v r) from rfl];by_cases hk:k=f
  ·rw [if_pos hk];by_cases h:g=k
   ·have hb:(g == k)=true:=beq_iff_eq.mpr h;simp only[List.lookup,hb,if_pos (h.trans hk)]
   ·have hb:(g == k)=false:=beq_eq_false_iff_ne.mpr h;simp only[List.lookup,hb,if_neg (fun e:g=f=>h (e.trans hk.symm))]
  ·rw [if_neg hk];by_cases h:g=k
   ·have hb:(g == k)=true:=beq_iff_eq.mpr h;simp only[List.lookup,hb,if_neg (fun e:g=f=>hk (h.symm.trans e))]
   ·have hb:(g == k)=false:=beq_eq_false_iff_ne.mpr h;simp only[List.lookup,hb];exact ih
theorem zeg (f:Str) (v:V):∀fs:List (Str×V),f∈(zeV f v fs).map (·.1)∧ ∀g,g∈fs.map (·.1)→g∈(zeV f v fs).map (·.1)
 | []=>⟨by simp [zeV],fun g h=>by simp at h⟩
 | (k,x)::r=>by
  obtain⟨i1,i2⟩:=zeg f v r;rw [show zeV f v ((k,x)::r)=(if k=f then(k,v)::r else(k,x)::zeV f v r) from rfl];by_cases hk:k=f
  ·rw [if_pos hk];subst hk;exact⟨by simp,fun g h=>by simpa using h⟩
  ·rw [if_neg hk];refine⟨?_,fun g h=>?_⟩
   ·rw [List.map_cons];exact List.mem_cons_of_mem _ i1
   ·rw [List.map_cons]at h⊢;rcases List.mem_cons.mp h with e |e
    ·exact List.mem_cons.mpr (.inl e)
    ·exact List.mem_cons_of_mem _ (i2 g e)
theorem zdS (f:Str) (v:V):∀fs:List (Str×V),(zeV f v fs).length≤fs.length+1
 | []=>by simp [zeV]
 | (k,x)::r=>by
  have ih:=zdS f v r;rw [show zeV f v ((k,x)::r)=(if k=f then(k,v)::r else(k,x)::zeV f v r) from rfl];by_cases hk:k=f
  ·rw [if_pos hk,List.length_cons,List.length_cons];omega
  ·rw [if_neg hk,List.length_cons,List.length_cons];omega
theorem RelO.some_of{v:V}{o:Option Value}(r:RelO (some v) o):∃u,o=some u∧RelV v u:=by
 cases o with
 |none=>exact(show False from r).elim
 |some u=>exact⟨u,rfl,r⟩
theorem RelO.none_of{o:Option Value}(r:RelO none o):o=none:=by
 cases o with
 |none=>rfl
 |some u=>exact(show False from r).elim
theorem zjI{v:V}{u:Value}(r:RelV v u):PySem.W.handedIn u=true:=by
 cases v with
 |non=>cases(show u=Value.none from r);rfl
 |bl b=>cases(show u=Value.bool b from r);rfl
 |int i=>obtain⟨t,e⟩:=(show ∃t,u=Value.int i t from r);cases e;rfl
 |str x=>obtain⟨t,e⟩:=(show ∃t,u=Value.str x t from r);cases e;rfl
 |byt b=>obtain⟨t,e⟩:=(show ∃t,u=Value.bytes b t from r);cases e;rfl
 |flt b=>obtain⟨t,e⟩:=(show ∃t,u=Value.float b t from r);cases e;rfl
 |ref a=>cases(show u=Value.ref a from r);rfl
 |ty n=>cases(show u=Value.type n from r);rfl
section
variable {P:Program}{w:World}{H:Hp}{h:Heap}{a C dx:Addr}{fs:List (Str×V)}
theorem zfe (hok:HOk P w H h) (e:H a=some (.ins C dx fs)):∃mA,ObjM h a dx C mA∧(∀f,RelO (fs.lookup f) (mA f))∧PySem.Within mA (fs.map (·.1))∧fs.length≤1000∧H dx=some (.own a):=by
 obtain⟨d,z,ne,ob,mA,n,r,q⟩:=(show ObjOk P w H h a (.ins C dx fs) from hok a _ e);exact⟨mA,⟨ob,n,ne⟩,r,q,z,d⟩
end
structure Cls (K:PySem.W.Frag) (C:Addr):Prop where
  pg:PySem.W.plainGet K C Str.empty=true
  hd:PySem.W.hasDictIn K C=true
  po:PySem.W.plainOver K C=true
  sa:PySem.W.findIn K (.ref C) "__setattr__" =some (some (.builtin "object.__setattr__"))
theorem Cls.get{K:PySem.W.Frag}{C:Addr}(c:Cls K C) (f:Str):PySem.W.plainGet K C f=true:=c.pg
noncomputable def NoAttr (K:PySem.W.Frag) (C:Addr) (f:Str):Prop:=PySem.W.findIn K (.ref C) f=some none
theorem NoAttr.taker{K:PySem.W.Frag}{C:Addr}{f:Str}(n:NoAttr K C f):PySem.W.takerIn K C f=some none:=by
 unfold PySem.W.takerIn;rw [show PySem.W.findIn K (.ref C) f=some none from n];rfl
structure Meth (K:PySem.W.Frag) (C:Addr) (m:Str) (f:Addr):Prop where
  at_:PySem.W.findIn K (.ref C) m=some (some (.ref f))
  fn:PySem.W.isFn K (.ref f)=true
  kp:PySem.W.keepIn K (.ref f)=true
section
variable {X:Cx}{pins:List (Addr×Obj)}{σ:St}{H:Hp}{s:Shared}{a C dx:Addr}{fs:List (Str×V)}{f:Str}{v:V}{A:Around}{E:Value→Shared→Prop}
theorem zeC{b:Bool}{Q:Value→Shared→Prop}(I:Inv X pins σ H s) (e:H a=some (.ins C dx fs)) (c:Cls X.K C) (n:NoAttr X.K C f) (l:fs.lookup f=some v)
  (h:∀u s',Inv X pins σ H s'→RelV v u→Q u s'):wpAny (model X.prog X.w) A (getAttr (.ref a) f b) Q E s:=by
 obtain⟨mA,O,r,_,_,_⟩:=zfe I.hok e;obtain⟨u,hu,ru⟩:=RelO.some_of (v:=v) (o:=mA f) (by rw [←l];exact r f);exact zmX I.kIn O (c.get f) c.hd n hu (zjI ru) (h u _ (I.tok _) ru)
theorem zeD{m:Str}{g:Addr}{pl:Sem Bool}{Q:Value×List Value→Shared→Prop}(I:Inv X pins σ H s) (e:H a=some (.ins C dx fs)) (c:Cls X.K C) (k:Meth X.K C m g) (l:fs.lookup m=none)
  (h:Q (.ref g,[.ref a]) s):wpAny (model X.prog X.w) A (getMethod (.ref a) m pl) Q E s:=by
 obtain⟨mA,O,r,_,_,_⟩:=zfe I.hok e;have hn:mA m=none:=RelO.none_of (by rw [←l];exact r m);exact zks I.kIn O (c.get m) k.at_ k.fn hn h
theorem zeu{y:V}{u:Value}{Q:Unit→Shared→Prop}(I:Inv X pins σ H s) (e:H a=some (.ins C dx fs)) (c:Cls X.K C) (n:NoAttr X.K C f) (hl:fs.length<1000) (ry:RelV y u)
  (h:∀s',Inv X pins σ (upd H a (.ins C dx (zeV f y fs))) s'→Q () s'):wpAny (model X.prog X.w) A (setAttr (.ref a) f u) Q E s:=by
 obtain⟨mA,O,r,wi,_,ho⟩:=zfe I.hok e;have hz:(fs.map (·.1)).length≤sizeLine:=by rw [List.length_map,sizeLine_eq];omega
 refine zni I.kIn O c.sa c.po n.taker c.hd wi hz fun h' O' sb=>h _ ?_;have hd:∃o,h'.get? dx=some o:=let ⟨o,_,_,e',_⟩:=O'.ns;⟨o,e'⟩;refine I.write (x:=a) (e:=dx) (by rw [e];exact True.intro) (.inr ho) (fun b q hb z=>(sb.2 b hb).trans z) hd ?_;refine⟨by rw [zao O.ne];exact ho,?_,O.ne,O'.obj,_,O'.ns,fun g=>?_,fun g hg=>?_⟩
 ·have:=zdS f y fs;omega
 ·show RelO ((zeV f y fs).lookup g) (if g=f then some u else mA g);rw [zec];by_cases q:g=f
  ·rw [if_pos q,if_pos q];exact ry
  ·rw [if_neg q,if_neg q];exact r g
 ·by_cases q:g=f
  ·rw [q];exact(zeg f y fs).1
  ·refine(zeg f y fs).2 g (wi g fun z=>hg ?_);show(if g=f then some u else mA g)=none;rw [if_neg q];exact z
theorem Inv.made (I:Inv X pins σ H s):Inv X pins σ (upd (upd H s.heap.objs.size (.own (s.heap.objs.size+1))) (s.heap.objs.size+1) (.ins C s.heap.objs.size []))
  { s with heap:=(s.heap.push PySem.W.emptyDict).push (PySem.W.instObj C s.heap.objs.size) }:=by
 have e1:(s.heap.push PySem.W.emptyDict).get? s.heap.objs.size=some PySem.W.emptyDict:=Heap.get?_push_size s.heap rfl;have e2:((s.heap.push PySem.W.emptyDict).push (PySem.W.instObj C s.heap.objs.size)).get? (s.heap.objs.size+1)=some (PySem.W.instObj C s.heap.objs.size):=by
  have:=Heap.get?_push_size (s.heap.push PySem.W.emptyDict) (o:=PySem.W.instObj C s.heap.objs.size) rfl;rwa [Heap.size_push]at this
 have e3:(s.heap.push PySem.W.emptyDict).Ns s.heap.objs.size (fun _=>none):=⟨PySem.W.emptyDict, #[],_,e1,rfl,(fun e he=>absurd he (by simp)),fun _=>rfl⟩;have I1:=I.laid (a:=s.heap.objs.size) (o:= .own (s.heap.objs.size+1)) (h':=s.heap.push PySem.W.emptyDict) (t':=s.toks) (fun b u q=>Heap.get?_push_of_some _ q) (Nat.le_refl _) ⟨_,e1⟩;refine I1.laid (a:=s.heap.objs.size+1) (o:= .ins C s.heap.objs.size []) (t':=s.toks) (fun b u q=>Heap.get?_push_of_some _ q) (Nat.le_of_eq (Heap.size_push _ _)) ?_;have ne:s.heap.objs.size≠s.heap.objs.size+1:=Nat.ne_of_lt (Nat.lt_succ_self _);refine⟨by rw [zao ne,zau],Nat.zero_le _,ne,e2,fun _=>none,(Heap.Ns1.of_empty e3).at fun o q=>Heap.get?_push_of_some _ q,fun _=>True.intro,fun y hy=>absurd rfl hy⟩
theorem zms{prog:Program}{w:World}{env:Env}{e:Expr}{f:Str}{pos:Pos}{s:Shared}{Q:Value→Shared→Prop}(hb:attributeBase e f env (eval e env)=eval e env)
  (h:wpAny (model prog w) A (eval e env) (fun o s₁=>wpAny (model prog w) A (getAttr o f true) Q E s₁) E s):wpAny (model prog w) A (eval (.Attribute e f pos) env) Q E s:=
 Attribute_any_ h (by rw [arm_eval_Attribute,hb])
end
noncomputable def zsa (K:PySem.W.Frag) (ta:TE) (f:Str):TE:=fun σ H Q=>ta σ H fun x H1=>∃a C dx fs v,x= .ref a∧H1 a=some (.ins C dx fs)∧Cls K C∧NoAttr K C f∧fs.lookup f=some v∧Q v H1
noncomputable def zsz (K:PySem.W.Frag) (ta tv:TE) (f:Str):TS:=fun D σ H=>tv σ H fun y H1=>ta σ H1 fun x H2=>∃a C dx fs,x= .ref a∧H2 a=some (.ins C dx fs)∧Cls K C∧NoAttr K C f∧fs.length<1000∧
 D.nx σ (upd H2 a (.ins C dx (zeV f y fs)))
noncomputable def zrJ (X:Cx) (op:Operator) (rd:V→V→Hp→VK→Prop):Prop:=
 ∀(pins:List (Addr×Obj)) (s:Shared) (σ:St) (H:Hp) (x y:V) (u v:Value) (Q:VK),Inv X pins σ H s→RelV x u→RelV y v→rd x y H Q→wpAny (model X.prog X.w) X.A (inplaceOp op u v) (EP X pins σ Q) X.xe s
noncomputable def zmp (K:PySem.W.Frag) (ta tv:TE) (rd:V→V→Hp→VK→Prop) (f:Str):TS:=fun D σ H=>ta σ H fun x H1=>∃a C dx fs v,x= .ref a∧H1 a=some (.ins C dx fs)∧Cls K C∧NoAttr K C f∧fs.lookup f=some v∧
 tv σ H1 fun y H2=>rd v y H2 fun z H3=>∃dx' fs',H3 a=some (.ins C dx' fs')∧fs'.length<1000∧D.nx σ (upd H3 a (.ins C dx' (zeV f z fs')))
section
variable {X:Cx}{o e value:Expr}{f:Str}{pos pos' tpos:Pos}{ta tv:TE}
theorem znT (he:PE X e ta) (hb:attributeBase e f X.env (eval e X.env)=eval e X.env):PE X (.Attribute e f pos) (zsa X.K ta f):=by
 intro pins s σ H Q I h;refine zms hb (thn (he pins s σ H _ I h) fun u s1 ⟨x,H1,I1,rx,a,C,dx,fs,v,ex,ea,c,n,l,q⟩=>?_);subst ex;obtain rfl:u=Value.ref a:=rx;exact zeC I1 ea c n l fun u' s2 I2 ru=>⟨v,H1,I2,ru,q⟩
theorem zoT (ha:PE X o ta) (hv:PE X value tv) (hs:swapsWith value (some (.Attribute o f pos')) pos.line X.env=pure false):PS X (.Assign [.Attribute o f pos'] value pos) (zsz X.K ta tv f):=by
 intro pins s σ H D I h;refine plainObj_wpAny_Assign_Attribute (thn (hv pins s σ H _ I h) fun u s1 ⟨y,H1,I1,ry,q⟩=>thn (ha pins s1 σ H1 _ I1 q) fun ov s2 ⟨x,H2,I2,rx,a,C,dx,fs,ex,ea,c,n,l,q2⟩=>?_) hs;subst ex;obtain rfl:ov=Value.ref a:=rx;exact zeu I2 ea c n l ry fun s3 I3=>⟨σ,_,I3,q2⟩
theorem zjM{op:Operator}{rd:V→V→Hp→VK→Prop}(ha:PE X o ta) (hv:PE X value tv) (hop:zrJ X op rd):PS X (.AugAssign (.Attribute o f tpos) op value pos) (zmp X.K ta tv rd f):=by
 intro pins s σ H D I h;refine wpAny_AugAssign_AttributeAny (thn (ha pins s σ H _ I h) fun ov s1 ⟨x,H1,I1,rx,a,C,dx,fs,v,ex,ea,c,n,l,q⟩=>?_);subst ex;obtain rfl:ov=Value.ref a:=rx;refine zeC I1 ea c n l fun u s2 I2 ru=>thn (hv pins s2 σ H1 _ I2 q) fun w3 s3 ⟨y,H2,I3,ry,q3⟩=>thn (hop pins s3 σ H2 v y u w3 _ I3 ru ry q3) fun w4 s4 ⟨z,H3,I4,rz,dx',fs',ea',l',q4⟩=>?_;exact zeu I4 ea' c n l' rz fun s5 I5=>⟨σ,_,I5,q4⟩
noncomputable def zsg:V→V→Hp→VK→Prop:=fun x y H Q=>∃i j,x= .int i∧y= .int j∧Q (.int (i+j)) H
theorem zok:zrJ X .Add zsg:=by
 rintro pins s σ H x y u v Q I rx ry ⟨i,j,rfl,rfl,q⟩;obtain⟨t,rfl⟩:=(show ∃t,u=Value.int i t from rx);obtain⟨t',rfl⟩:=(show ∃t',v=Value.int j t' from ry);exact PyProof.Rows.iadd_int ⟨.int (i+j),H,I.tok _,⟨_,rfl⟩,q⟩
end
section
variable {X:Cx}{pins:List (Addr×Obj)}{σ:St}{H:Hp}{s:Shared}{A:Around}{E:Value→Shared→Prop}{Q:Value→Shared→Prop}{c:Value}{b:Bool}
inductive TyOf (K:PySem.W.Frag) (H:Hp):V→Value→Prop where
  |non:TyOf K H .non (.type "NoneType")
  |bl (x:Bool):TyOf K H (.bl x) (.type "bool")
  |int (i:Int):TyOf K H (.int i) (.type "int")
  |str (x:Str):TyOf K H (.str x) (.type "str")
  |flt (x:UInt64):TyOf K H (.flt x) (.type "float")
  |lst {a:Addr}{xs:List V}(e:H a=some (.lst xs)):TyOf K H (.ref a) (.type "list")
  |frz {a:Addr}{o:Obj}{xs:List V}(e:H a=some (.frz o (.lst xs))):TyOf K H (.ref a) (.type "list")
  |tup {a:Addr}{xs:List V}(e:H a=some (.tup xs)):TyOf K H (.ref a) (.type "tuple")
  |dK {a:Addr}{kvs:List (Key×V)}(e:H a=some (.dK kvs)):TyOf K H (.ref a) (.type "dict")
  |dT {a:Addr}{kvs:List (List Key×V)}(e:H a=some (.dT kvs)):TyOf K H (.ref a) (.type "dict")
  |ins {a C dx:Addr}{fs:List (Str×V)}(e:H a=some (.ins C dx fs)) (cl:Cls K C) (ha:PySem.W.findIn K (.ref C) "__class__" =some (some (.builtin "object.__class__")))
      (hn:PySem.W.specialIn K (.builtin "object.__class__") "__get__" =some (some (.builtin "getset_descriptor.__get__"))) (htk:PySem.W.takesIn K (.builtin "object.__class__")=some true)
      (hm:PySem.W.mroIn K C (.type "object")=some true):TyOf K H (.ref a) (.ref C)
theorem zjj{x:V}{u t:Value}(I:Inv X pins σ H s) (rx:RelV x u) (ty:TyOf X.K H x t) (e:PySem.W.kitOne X.K t c=some b) (h:∀tk,Q (.bool b) { s with toks:=tk }) :
  wpAny (model X.prog X.w) A (call (.builtin "isinstance") [u,c]) Q E s:=by
 cases ty with
 |non=>cases(show u=Value.none from rx);exact PySem.W.kia_one PySem.W.kitx_none I.kIn True.intro e (fun z=>nomatch z) h
 |bl y=>cases(show u=Value.bool y from rx);exact PySem.W.kia_one PySem.W.kitx_bool I.kIn True.intro e (fun z=>nomatch z) h
 |int i=>obtain⟨t,q⟩:=(show ∃t,u=Value.int i t from rx);cases q;exact PySem.W.kia_one PySem.W.kitx_int I.kIn True.intro e (fun z=>nomatch z) h
 |str y=>obtain⟨t,q⟩:=(show ∃t,u=Value.str y t from rx);cases q;exact PySem.W.kia_one PySem.W.kitx_str I.kIn True.intro e (fun z=>nomatch z) h
 |flt y=>obtain⟨t,q⟩:=(show ∃t,u=Value.float y t from rx);cases q;exact PySem.W.kia_one PySem.W.kitx_float I.kIn True.intro e (fun z=>nomatch z) h
 | @lst a xs ea=>
  cases(show u=Value.ref a from rx);obtain⟨_,_,n,_,h1⟩:=(show ObjOk X.prog X.w H s.heap a (.lst xs) from I.hok a _ ea);exact PySem.W.kia_one PySem.W.kitx_list I.kIn ⟨_,h1,rfl⟩ e (fun z=>nomatch z) h
 | @frz a ob xs ea=>
  cases(show u=Value.ref a from rx);obtain⟨_,_,_,n,_,h1⟩:=(show ObjOk X.prog X.w H s.heap a (.frz ob (.lst xs)) from I.hok a _ ea);exact PySem.W.kia_one PySem.W.kitx_list I.kIn ⟨_,h1,rfl⟩ e (fun z=>nomatch z) h
 | @tup a xs ea=>
  cases(show u=Value.ref a from rx);obtain⟨_,_,_,p⟩:=(show ObjOk X.prog X.w H s.heap a (.tup xs) from I.hok a _ ea);obtain⟨o,h1,h2,_⟩:=p;exact PySem.W.kia_one PySem.W.kitx_tuple I.kIn ⟨o,h1,h2⟩ e (fun z=>nomatch z) h
 | @dK a kvs ea=>
  cases(show u=Value.ref a from rx);obtain⟨_,_,vs,_,p⟩:=(show ObjOk X.prog X.w H s.heap a (.dK kvs) from I.hok a _ ea);obtain⟨o,es,ep,h1,h2,_⟩:=p;exact PySem.W.kia_one PySem.W.kitx_dict I.kIn ⟨o,h1,h2.1⟩ e (fun z=>nomatch z) h
 | @dT a kvs ea=>
  cases(show u=Value.ref a from rx);obtain⟨_,_,xs,_,o,es,ep,h1,h2,_⟩:=(show ObjOk X.prog X.w H s.heap a (.dT kvs) from I.hok a _ ea);exact PySem.W.kia_one PySem.W.kitx_dict I.kIn ⟨o,h1,h2.1⟩ e (fun z=>nomatch z) h
 | @ins a C dx fs ea cl ha hn htk hm=>
  cases(show u=Value.ref a from rx);obtain⟨mA,O,_⟩:=zfe I.hok ea;obtain⟨od,J,_⟩:=O.look;exact PySem.W.kia_one (PySem.W.kitx_own (cl.get _) cl.hd ha hn htk hm) I.kIn J e (fun z=>nomatch z) h
end
structure Room (k:Nat) (A:Around):Prop where
  hd:A.handled=none
  dp:A.depth+3*k+5<recursionLimit
  un:A.units+16*k+200<cLine
theorem Room.deeper{k:Nat}{A:Around}(r:Room (k+1) A) (env:Env):Room k (A.deeper env):=
 ⟨r.hd,by have:=r.dp;show A.depth+1+3*k+5<_;omega,by have:=r.un;show A.units+3+16*k+200<_;omega⟩
theorem ziu{A:Around}{C:Addr}{us:List Value}{kw:List (Str×Value)}:(A.under (.builtin "type.__call__" ⟨.ref C::us,kw⟩)).depth=A.depth+1:=by
 first |rfl |simp [Around.under,Code.weight,Code.isCreation,Code.isGuard,Code.isCaller,Code.frames,Code.isFrame,guardIds]
theorem zin{A:Around}{C:Addr}{us:List Value}{kw:List (Str×Value)}:(A.under (.builtin "type.__call__" ⟨.ref C::us,kw⟩)).units=A.units+1:=by
 first |rfl |simp [Around.under,Code.cUnits,Code.frames,Code.isFrame]
theorem Room.make{k:Nat}{A:Around}(r:Room (k+1) A) (C:Addr) (us:List Value) (kw:List (Str×Value)):Room k (A.under (.builtin "type.__call__" ⟨.ref C::us,kw⟩)):=
 ⟨r.hd,by have:=r.dp;rw [ziu];omega,by have:=r.un;rw [zin];omega⟩
theorem Room.depth{k:Nat}{A:Around}(r:Room k A):A.depth<recursionLimit:=by have:=r.dp;omega
theorem Room.units{k:Nat}{A:Around}(r:Room k A):A.units+64<cLine:=by have:=r.un;omega
noncomputable def zsf:TA:=fun _ H Q=>Q [] H
noncomputable def zri (ta:TE) (tr:TA):TA:=fun σ H Q=>ta σ H fun x H1=>tr σ H1 fun xs H2=>Q (x::xs) H2
section
variable {X:Cx}{e:Expr}{es:List Expr}{te:TE}{t:TA}{pos:Pos}
theorem pa_nil:PA X [] zsf:=fun _ _ _ _ H Q I h=>Calls.spliced_nil ⟨[],H,I, .nil,h⟩
theorem zcp (ha:PE X e te) (hr:PA X es t) (hs:starEach (e::es) X.env=(false,eval e X.env)::starEach es X.env:=by rfl):PA X (e::es) (zri te t):=by
 intro pos pins s σ H Q I h;rw [hs];show wpAny _ _ (spliced ((false,eval e X.env)::backTo pos (starEach es X.env))) _ _ s;refine Calls.spliced_cons (thn (ha pins s σ H _ I h) fun u s1 ⟨x,H1,I1,r1,q1⟩=>?_);exact thn (hr pos pins s1 σ H1 _ I1 q1) fun us s2 ⟨xs,H2,I2,r2,q2⟩=>⟨x::xs,H2,I2, .cons r1 r2,q2⟩
noncomputable def zss (t:TA):TE:=fun σ H Q=>t σ H fun xs H1=>xs.length≤sizeLine∧ ∀p,H1 p=none→Q (.ref p) (upd H1 p (.tup xs))
noncomputable def zrS (t:TA):TE:=fun σ H Q=>t σ H fun xs H1=>xs.length≤sizeLine∧ ∀p,H1 p=none→Q (.ref p) (upd H1 p (.lst xs))
theorem zoD{x1}(h:PA X es t):PE X (.Tuple es x1 pos) (zss t):=by
 intro pins s σ H Q I hq;refine wpAny_Tuple_spliced (thn (h pos pins s σ H _ I hq) fun us s1 ⟨xs,H1,I1,r,z,q⟩=>⟨by rw [←r.length];exact z,?_⟩);have hf:H1 s1.heap.objs.size=none:=I1.hok.fresh (Nat.le_refl _);refine⟨.ref s1.heap.objs.size,upd H1 s1.heap.objs.size (.tup xs),I1.laid (t':=s1.toks) (fun b u e=>Heap.get?_push_of_some _ e) (Nat.le_refl _) ?_,rfl,q _ hf⟩;exact⟨z,us,r,⟨_,Heap.get?_push_size _ rfl,rfl,_,rfl⟩⟩
theorem zoo (h:PA X es t):PE X (.List es pos) (zrS t):=by
 intro pins s σ H Q I hq;refine wpAny_List_spliced (thn (h pos pins s σ H _ I hq) fun us s1 ⟨xs,H1,I1,r,z,q⟩=>⟨by rw [←r.length];exact z,?_⟩);have hf:H1 s1.heap.objs.size=none:=I1.hok.fresh (Nat.le_refl _);refine⟨.ref s1.heap.objs.size,upd H1 s1.heap.objs.size (.lst xs),I1.laid (t':=s1.toks) (fun b u e=>Heap.get?_push_of_some _ e) (Nat.le_refl _) ?_,rfl,q _ hf⟩;exact⟨z,us,0,r,Heap.get?_push_size _ rfl⟩
end
noncomputable abbrev Sp:=List V→Hp→VK→XK→Prop
noncomputable abbrev CXT:=List Env→Hp→Shared→XK→Value→Shared→Prop
structure Env0 (P:Program) (w:World) (K:PySem.W.Frag) (mg:Str→Option Value) (base:Heap) (A:Around) (outer:List Env) (s:Shared) (H:Hp):Prop where
  frames:A.frames=some outer
  mod:Mod K mg base
  bs:∀b o,base.get? b=some o→s.heap.get? b=some o∧H b=none
  bsz:base.objs.size≤s.heap.objs.size
  funs:s.heap.FunFrames base outer
  frf:∀b∈frs outer,H b=none
  hok:HOk P w H s.heap
  bare:AllBare s.gens
noncomputable def CE (outer:List Env) (P:Program) (w:World) (H:Hp) (s:Shared) (Q:VK) (u:Value) (s':Shared):Prop:=
 ∃v H',s'.os=s.os∧AllBare s'.gens∧Un (frs outer) [] H H' s.heap s'.heap∧HOk P w H' s'.heap∧RelV v u∧Q v H'
noncomputable def CR (CX:CXT) (outer:List Env) (P:Program) (w:World) (H:Hp) (s:Shared) (Q:VK) (E:XK) (r:Result) (s':Shared):Prop:=
 match r with
 | .ok (.ret u)=>CE outer P w H s Q u s'
 | .ok _=>False
 | .error e=>CX outer H s E e s'
structure FnOk (P:Program) (w:World) (K:PySem.W.Frag) (mg:Str→Option Value) (base:Heap) (CX:CXT) (k:Nat) (f:Addr) (fd:FuncData) (ps:List Str) (sp:Sp):Prop where
  len:∀vs H Q E,sp vs H Q E→vs.length=ps.length
  run:∀(A:Around) (outer:List Env) (s:Shared) (H:Hp) (args:Args) (us:List Value) (vs:List V) (Q:VK) (E:XK),Room k A→Env0 P w K mg base A outer s H→BindsTo s fd args (ps.zip us)→Vals vs us→sp vs H Q E→
    codeAny (model P w) A (.call (.ref f) args) (CR CX outer P w H s Q E) s
theorem Env0.make{P:Program}{w:World}{K:PySem.W.Frag}{mg:Str→Option Value}{base:Heap}{A:Around}{outer:List Env}{s:Shared}{H:Hp}(e:Env0 P w K mg base A outer s H) (C:Addr) (us:List Value) (kw:List (Str×Value)) :
  Env0 P w K mg base (A.under (.builtin "type.__call__" ⟨.ref C::us,kw⟩)) outer s H:=⟨by first |exact e.frames | (simpa [Around.under,Code.envs,Code.isFrame,pushEnvs]using e.frames),e.mod,e.bs,e.bsz,e.funs,e.frf,e.hok,e.bare⟩
section
variable {X:Cx}{pins:List (Addr×Obj)}{σ:St}{H:Hp}{s:Shared}
theorem Inv.env0 (I:Inv X pins σ H s):Env0 X.prog X.w X.K X.mg X.base X.A X.stack s H:=
 ⟨I.ok.frames,I.ok.mod,I.bs,Nat.le_trans I.ok.bsz I.sz,I.stack,I.stkFree,I.hok,I.bare⟩
end
noncomputable def Binds (K:PySem.W.Frag) (fd:FuncData) (ps:List Str) (ds:List Value):Prop:=
 ∀(s:Shared) (us:List Value),K.In s.heap→(us++ds).length=ps.length→BindsTo s fd ⟨us,[]⟩ (ps.zip (us++ds))
theorem Binds.all{K:PySem.W.Frag}{fd:FuncData}{ps:List Str}(h:∀us:List Value,us.length=ps.length→bindArgs fd ⟨us,[]⟩=pure (ps.zip us)):Binds K fd ps []:=fun s us _ hl=>by
 rw [List.append_nil]at hl⊢;exact .of_eq (h us hl)
section
variable {f C:Addr}
structure Mk (K:PySem.W.Frag) (C f:Addr):Prop where
  makes:PySem.W.makesIn K C=true
  init:PySem.W.findIn K (.ref C) "__init__" =some (some (.ref f))
  fn:PySem.W.isFn K (.ref f)=true
  kp:PySem.W.keepIn K (.ref C)=true
end
structure FnScope (N P:List Str) (sc:Scope):Prop where
  kind:sc.kind= .function
  co:sc.isCoroutine=false
  gen:sc.isGenerator=false
  nd:N.Nodup
  pre:N.take P.length=P
  par:∀x∈P,sc.names.lookup x=some .local∨sc.names.lookup x=some .cell
  nofree:∀y∈sc.names,y.2≠ .free
theorem zgo{kindOf:Str→Option NameKind}{x:Str}:∀{binds:List (Str×Value)}{m:Str→Option Value},(∀v,(x,v)∉binds)→bindL kindOf binds m x=m x
 | [],_,_=>rfl
 | (n,v)::r,m,h=>by
  unfold bindL;rw [zgo fun w hw=>h w (List.mem_cons_of_mem _ hw)];split
  ·have:x≠n:=by rintro rfl;exact h v List.mem_cons_self
   simp [this]
  ·rfl
theorem zfS{kindOf:Str→Option NameKind}{x:Str}:∀{binds:List (Str×Value)}{m:Str→Option Value},(∀v,(x,v)∉binds)→bindC kindOf binds m x=m x
 | [],_,_=>rfl
 | (n,v)::r,m,h=>by
  unfold bindC;rw [zfS fun w hw=>h w (List.mem_cons_of_mem _ hw)];split
  ·rfl
  ·have:x≠n:=by rintro rfl;exact h v List.mem_cons_self
   simp [this]
theorem zfu{kindOf:Str→Option NameKind}{x:Str}{v:Value}:∀{P:List Str}{vs:List Value}{i:Nat}{m:Str→Option Value},P.Nodup→P[i]? =some x→vs[i]? =some v→kindOf x=some .local→
  bindL kindOf (P.zip vs) m x=some v
 | [],_,_,_,_,h,_,_=>by simp at h
 |_::_,[],_,_,_,_,h,_=>by simp at h
 |p::P,w::vs,0,m,nd,h1,h2,hk=>by
  simp at h1 h2;subst h1;subst h2;show bindL kindOf ((p,w)::P.zip vs) m p=_;unfold bindL;rw [zgo fun v hv=>(List.nodup_cons.mp nd).1 (List.of_mem_zip hv).1,if_pos hk];simp
 |p::P,w::vs,i+1,m,nd,h1,h2,hk=>by
  show bindL kindOf ((p,w)::P.zip vs) m x=_;unfold bindL;exact zfu (i:=i) (List.nodup_cons.mp nd).2 (by simpa using h1) (by simpa using h2) hk
theorem zgj{kindOf:Str→Option NameKind}{x:Str}{v:Value}:∀{P:List Str}{vs:List Value}{i:Nat}{m:Str→Option Value},P.Nodup→P[i]? =some x→vs[i]? =some v→kindOf x≠some .local→
  bindC kindOf (P.zip vs) m x=some v
 | [],_,_,_,_,h,_,_=>by simp at h
 |_::_,[],_,_,_,_,h,_=>by simp at h
 |p::P,w::vs,0,m,nd,h1,h2,hk=>by
  simp at h1 h2;subst h1;subst h2;show bindC kindOf ((p,w)::P.zip vs) m p=_;unfold bindC;rw [zfS fun v hv=>(List.nodup_cons.mp nd).1 (List.of_mem_zip hv).1,if_neg hk];simp
 |p::P,w::vs,i+1,m,nd,h1,h2,hk=>by
  show bindC kindOf ((p,w)::P.zip vs) m x=_;unfold bindC;exact zgj (i:=i) (List.nodup_cons.mp nd).2 (by simpa using h1) (by simpa using h2) hk
noncomputable def zel (N:List Str) (vs:List V):St:=vs.map some++List.replicate (N.length - vs.length) none
noncomputable def zmJ (CX:CXT) (P:Program) (w:World) (K:PySem.W.Frag) (mg:Str→Option Value) (base:Heap) (N:List Str) (qual:Str) (scope:Scope) (f:Addr) (cd:Value) (A:Around) (outer:List Env) (s:Shared) (H:Hp) (E:XK):Cx where
  prog:=P
  w:=w
  K:=K
  mg:=mg
  base:=base
  A:=A.deeper (envOfC qual scope s.heap.objs.size f cd)
  N:=N
  s₀:=s
  H₀:=H
  env:=envOfC qual scope s.heap.objs.size f cd
  outer:=outer
  stack:=envOfC qual scope s.heap.objs.size f cd::outer
  ex:=[]
  calm:=true
  fn:=fun _=>true
  pn:=[]
  xe:=fun e s'=>wpAny (model P w) (A.deeper (envOfC qual scope s.heap.objs.size f cd)) (leaving (envOfC qual scope s.heap.objs.size f cd) e) (fun _ s''=>CX outer H s E e s'') (fun e' s''=>CX outer H s E e' s'') s'
theorem zhQ{sc:Scope}{n:Nat}{x:Str}(h:sc.names.lookup x=some .cell):∃c,(cellsFrom n sc.names []).lookup x=some c:=by
 have q:=PySem.W.cellsFrom_some sc.names n [] (.inl h);exact Option.isSome_iff_exists.mp q
theorem zjh{CX:CXT}{P:Program}{w:World}{K:PySem.W.Frag}{mg:Str→Option Value}{base:Heap}{N ps:List Str}{qual:Str}{scope:Scope}{f:Addr}{cd:Value}{A:Around}{outer:List Env}{s s1:Shared}{H:Hp}{E:XK}{us:List Value}{vs:List V}
  (S:FnScope N ps scope) (hd:A.handled=none) (e0:Env0 P w K mg base A outer s H) (hl:vs.length=ps.length) (r:Vals vs us)
  (x:InCallC s s.heap.objs.size (bindL (envOfC qual scope s.heap.objs.size f cd).kindOf (ps.zip us) fun _=>none) (cellsFrom (s.heap.objs.size+1) scope.names []) (bindC (envOfC qual scope s.heap.objs.size f cd).kindOf (ps.zip us) fun _=>none) s1) :
  Inv (zmJ CX P w K mg base N qual scope f cd A outer s H E) [] (zel N vs) H s1:=by
 have hpl:ps.length≤N.length:=by have:=congrArg List.length S.pre;rw [List.length_take]at this;omega
 obtain⟨h1,tk,rfl,hk⟩:=x.done;have noA:∀b:Addr,b∉(zmJ CX P w K mg base N qual scope f cd A outer s H E).ex:=fun b z=>absurd (show b∈([]:List Addr) from z) (by simp);refine⟨⟨e0.mod,S.kind,rfl,rfl,Nat.le_refl _,fun y z c h1 h2=>?_,fun y hy=>?_,fun y c _ h=>?_,fun _=>hd,Around.frames_deeper e0.frames, .inr ⟨rfl,rfl⟩,fun b z=>absurd z (noA b),e0.bs,e0.bsz,fun b _ _=>noA b,fun b z=>absurd z (noA b),e0.funs,e0.frf⟩,
  rfl,e0.bare,Un.kept hk,⟨_,x.toInCall.ns,fun i y v h1 h2 h3=>?_⟩,fun y c h=>⟨_,x.cell y c h⟩,e0.hok.fresh (Nat.le_refl _),fun y c h=>?_,fun p hp=>absurd (show p∈([]:List (Addr×Obj)) from hp) (by simp),e0.hok.kept hk,?_⟩
 ·exact name_of_addr x.apart (PySem.mem_of_lookup h1) (PySem.mem_of_lookup h2)
 ·have hy:scope.names.lookup y=some .cell∨scope.names.lookup y=some .free:=hy;rcases hy with hy |hy
  ·exact zhQ hy
  ·exact absurd rfl (S.nofree _ (PySem.mem_of_lookup hy))
 ·exact Nat.le_of_lt (x.above y c (PySem.mem_of_lookup h))
 ·have hi:i<vs.length:=by
   unfold zel at h2;by_cases hi:i<vs.length
   ·exact hi
   ·rw [List.getElem?_append_right (by simpa using hi)]at h2;rw [List.getElem?_replicate]at h2;split at h2<;>cases h2
  have ha:vs[i]? =some v:=by
   unfold zel at h2;rw [List.getElem?_append_left (by simpa using hi),List.getElem?_map]at h2;cases e:vs[i]? with
   |none=>rw [e]at h2;cases h2
   |some a=>rw [e]at h2;cases h2;rfl
  obtain⟨u,hu,rv⟩:=r.get ha;have hp:ps[i]? =some y:=by
   rw [←S.pre,List.getElem?_take_of_lt (by omega)];exact h1
  have ndP:ps.Nodup:=by rw [←S.pre];exact S.nd.sublist (List.take_sublist _ _)
  refine⟨u,rv,?_⟩;rcases S.par y (List.mem_of_getElem? hp) with k |k
  ·exact .inl ⟨k,zfu ndP hp hu k⟩
  ·obtain⟨c,e⟩:=zhQ (n:=s.heap.objs.size+1) k;refine .inr ⟨.inl k,c,e,?_⟩;have q:=x.cell y c e;rw [zgj ndP hp hu (by show scope.names.lookup y≠_;rw [k];decide)]at q;exact q
 ·exact e0.hok.fresh (Nat.le_of_lt (x.above y c (PySem.mem_of_lookup h)))
 ·unfold zel;show _=N.length;rw [List.length_append,List.length_map,List.length_replicate];omega
theorem zqE{CX:CXT}{P:Program}{w:World}{K:PySem.W.Frag}{mg:Str→Option Value}{base:Heap}{k:Nat}{f:Addr}{name qual:Str}{params:Arguments}{body:List Stmt}{scope:Scope}{dV kV doc pm cdv ct oc:Value}{an od:Option Addr}
  {osl:Array (Option Value)}{N ps:List Str}{sp:Sp}(lk:K.lookup f=some ⟨oc,od, .func (PySem.W.fnOf name qual params body scope dV kV doc pm an cdv ct),osl⟩) (hcd:PySem.W.codeIn K cdv qual=true) (S:FnScope N ps scope)
  (len:∀vs H Q E,sp vs H Q E→vs.length=ps.length)
  (hbody:∀(A:Around) (outer:List Env) (s:Shared) (H:Hp) (vs:List V) (Q:VK) (E:XK),Room k (A.deeper (envOfC qual scope s.heap.objs.size f cdv))→sp vs H Q E→
   ∃t,PSs (zmJ CX P w K mg base N qual scope f cdv A outer s H E) body t∧t { nx:=fun _ H'=>Q .non H',rt:=Q } (zel N vs) H) :
  FnOk P w K mg base CX (k+1) f (PySem.W.fnOf name qual params body scope dV kV doc pm an cdv ct) ps sp:=by
 refine⟨len,fun A outer s H args us vs Q E hr e0 hb r hsp=>?_⟩;have hl:=len _ _ _ _ hsp;have KX:K.In s.heap:=e0.mod.kin.keeps fun b o e=>(e0.bs b o e).1;have lim:s.heap.NoLimit:=e0.mod.nolimit.keeps fun b o e=>(e0.bs b o e).1;have hkind:∀y∈ps.zip us,scope.names.lookup y.1=some .local∨(scope.names.lookup y.1=some .cell∧((cellsFrom (s.heap.objs.size+1) scope.names []).lookup y.1).isSome=true):=fun⟨n,v⟩ hy=>by
  rcases S.par n (List.of_mem_zip hy).1 with q |q
  ·exact .inl q
  ·exact .inr ⟨q,PySem.W.cellsFrom_some _ _ _ (.inl q)⟩
 refine codeAny_call_function hr.depth (KX _ _ lk) rfl S.co S.gen rfl (PySem.W.codeRec_of KX hcd) (hb _ _ _ _ ?_);refine wpAny_newFunctionEnv_cells S.kind hkind fun env he s1 x=>?_;subst he;refine⟨lim.keeps x.toInCall.keep,codeAny_func ?_⟩;obtain⟨t,ht,hq⟩:=hbody A outer s H vs Q E (hr.deeper _) hsp;have I:Inv (zmJ CX P w K mg base N qual scope f cdv A outer s H E) [] (zel N vs) H s1:=zjh S hr.hd e0 hl r x;refine wpAny_mono (ht [] s1 (zel N vs) H _ I hq) (fun fl s' hs=>?_) fun e s' hs=>hs;have fin:∀{σ':St}{H':Hp}{v:V}{u:Value},Inv (zmJ CX P w K mg base N qual scope f cdv A outer s H E) [] σ' H' s'→RelV v u→Q v H'→CE outer P w H s Q u s':=
  fun {σ' H' v u} J rv q=>⟨v,H',J.os,J.bare,J.base,J.hok,rv,q⟩
 cases fl with
 |ret u=>
  obtain⟨v,σ',H',J,rv,q⟩:=hs;exact fin J rv q
 |next=>
  obtain⟨σ',H',J,q⟩:=hs;exact fin (v:=V.non) (u:=Value.none) J rfl q
 |brk=>
  obtain⟨_,_,_,q⟩:=hs;exact False.elim q
 |cont=>
  obtain⟨_,_,_,q⟩:=hs;exact False.elim q
section
variable {X:Cx}{x:Str}{p pos:Pos}{e:Expr}{es:List Expr}{t:TA}{id T:String}{r:List V→Hp→VK→Prop}
noncomputable def tCB (r:List V→Hp→VK→Prop) (t:TA):TE:=fun σ H Q=>t σ H fun vs H1=>r vs H1 Q
theorem zeG (hc:CallR X (.builtin id) r) (hg:Gl X x) (hm:X.mg x=none) (hv:bootBuiltins x=some (.builtin id)) (ha:PA X (e::es) t) (hn:x≠ "__name__" :=by decide) (hdb:(x == ("__debug__" :Str))=false:=by decide)
  (he:starEach (e::es) X.env=(false,eval e X.env)::starEach es X.env:=by rfl) (hpl:(backTo pos (starEach es X.env)).any (·.1)=false:=by rfl):PE X (.Call (.Name x p) (e::es) [] pos) (tCB r t):=by
 intro pins s σ H Q I h;refine wpAny_Call_Name_kw (zfX I hg hm hv ?_ hn hdb);exact PyProof.Rows.callWith_builtin1 (thn (ha pos pins s σ H _ I h) fun us s1 ⟨vs,H1,I1,r1,q1⟩=>hc pins s1 σ H1 vs us Q I1 r1 q1) he hpl
theorem zgd (hc:CallR X (.type T) r) (hg:Gl X x) (hm:X.mg x=none) (hv:bootBuiltins x=some (.type T)) (ha:PA X (e::es) t) (hn:x≠ "__name__" :=by decide) (hdb:(x == ("__debug__" :Str))=false:=by decide)
  (he:starEach (e::es) X.env=(false,eval e X.env)::starEach es X.env:=by rfl) (hpl:(backTo pos (starEach es X.env)).any (·.1)=false:=by rfl):PE X (.Call (.Name x p) (e::es) [] pos) (tCB r t):=by
 intro pins s σ H Q I h;refine wpAny_Call_Name_kw (zfX I hg hm hv ?_ hn hdb);exact PyProof.Rows.callWith_type1 (thn (ha pos pins s σ H _ I h) fun us s1 ⟨vs,H1,I1,r1,q1⟩=>hc pins s1 σ H1 vs us Q I1 r1 q1) he hpl
end
end L2
namespace HT
open PySem PyProof.Rows
section
variable {prog:Program}{w:World}{A:Around}{E:Value→Shared→Prop}{s:Shared}
theorem cat_tup{t b:Addr}{vs ws:List Value}{Q:Value→Shared→Prop}(ht:IsTup s.heap t vs.toArray) (hb:IsTup s.heap b ws.toArray) (hv:vs≠ [])
  (h1:ws=[]→Q (.ref t) s) (h2:ws≠ []→Q (.ref s.heap.objs.size) { s with heap:=s.heap.push { cls:= .type "tuple",data:= .seq (vs++ws).toArray } })
  (hsz:vs.length+ws.length≤sizeLine):wpAny (model prog w) A (binaryOp .Add (.ref t) (.ref b)) Q E s:=by
 obtain⟨⟨cls,dd,data,sl⟩,ho,hc,n,hd⟩:=id ht;obtain⟨⟨cls2,dd2,data2,sl2⟩,ho2,hc2,n2,hd2⟩:=id hb;simp only at hc hd hc2 hd2;subst hc hd hc2 hd2;have e:vs.toArray++ws.toArray=(vs++ws).toArray:=by simp
 by_cases hw:ws=[]
 ·exact concat_meets ⟨_,ho,rfl⟩ ⟨_,ho2,rfl⟩ noFill_tuple_add seq_tuple_add PySem.F.slot_tuple_add PySem.F.entry_tuple_add (PySem.F.args_tuple_add_2 _ _)
   (tuple_addW1 t b vs.toArray ws.toArray n n2 dd dd2 sl sl2 (by simpa using hv) (by simp [hw])) ⟨ho,ho2,h1 hw⟩
 ·refine concat_meets ⟨_,ho,rfl⟩ ⟨_,ho2,rfl⟩ noFill_tuple_add seq_tuple_add PySem.F.slot_tuple_add PySem.F.entry_tuple_add (PySem.F.args_tuple_add_2 _ _)
   (tuple_addW2 t b vs.toArray ws.toArray n n2 dd dd2 sl sl2 (by simpa using hv) (by simpa using hw) (by rw [List.size_toArray,List.size_toArray];exact hsz)) ⟨ho,ho2,?_⟩
  rw [e];exact h2 hw
noncomputable def sIx (n d:Nat):Option Int→Nat
 |none=>d
 |some v=>if v<0 then(v+(n:Int)).toNat else min v.toNat n
theorem sIx_none (n d:Nat):sIx n d none=d:=rfl
theorem sIx_nat (n d k:Nat):sIx n d (some (k:Int))=min k n:=by
 show(if(k:Int)<0 then((k:Int)+(n:Int)).toNat else min (k:Int).toNat n)=min k n;rw [if_neg (by omega),Int.toNat_natCast]
theorem sIx_le (n d:Nat) (hd:d≤n) (o:Option Int):sIx n d o≤n:=by
 cases o with
 |none=>exact hd
 |some v=>
  show(if v<0 then(v+(n:Int)).toNat else min v.toNat n)≤n;by_cases hv:v<0
  ·rw [if_pos hv];omega
  ·rw [if_neg hv];exact Nat.min_le_right _ _
theorem zjb (v:Int) (n d:Nat):(if v<0 then max (v+(n:Int)) 0 else min v (n:Int))=((sIx n d (some v):Nat):Int):=by
 show(if v<0 then max (v+(n:Int)) 0 else min v (n:Int))=(((if v<0 then(v+(n:Int)).toNat else min v.toNat n):Nat):Int);by_cases hv:v<0
 ·simp only[if_pos hv];omega
 ·simp only[if_neg hv];omega
theorem zij (lo hi:Option Int) (n:Nat):Builtin.Slice.sliceAdjust lo hi 1 (n:Int)=(((sIx n 0 lo:Nat):Int),((sIx n n hi:Nat):Int)):=by
 have h1:¬((1:Int)<0):=by omega
 unfold Builtin.Slice.sliceAdjust;simp only[h1,if_false];refine Prod.ext ?_ ?_
 ·cases lo with
  |none=>rfl
  |some v=>exact zjb v n 0
 ·cases hi with
  |none=>rfl
  |some v=>exact zjb v n n
theorem zit (i j:Nat):Builtin.Slice.slicePlaces (i:Int) (j:Int) 1=j - i:=by
 unfold Builtin.Slice.slicePlaces;have h1:(1:Int) > 0:=by omega
 simp only[h1,if_true,Int.ediv_one];split<;>omega
theorem zey{v:Value}{o:Option Int}{Q:Option Int→Shared→Prop}(p:IsPart v o) (h:Q o s):wpAny (model prog w) A (Builtin.Slice.slicePartIndex v) Q E s:=by
 cases p with
 |none=>exact slicePart_none h
 |int i t=>exact slicePart_int h
theorem sliceApplied_gen{sl:Addr}{vl vu:Value}{lo hi:Option Int}{n:Nat}{Q:Int×Int×Nat→Shared→Prop}(hs:s.heap.IsSliceOf sl vl vu .none) (pl:IsPart vl lo) (pu:IsPart vu hi)
  (h:Q (((sIx n 0 lo:Nat):Int),1,sIx n n hi - sIx n 0 lo) s):wpAny (model prog w) A (Builtin.Slice.sliceApplied (.ref sl) (pure (n:Int))) Q E s:=by
 obtain⟨os,hos,hcs,hds⟩:=id hs;unfold Builtin.Slice.sliceApplied Builtin.Slice.sliceFields;refine wpAny_bind (wpAny_bind (wpAny_field hos hds (x:=vl) rfl (wpAny_bind (wpAny_field hos hds (x:=vu) rfl (wpAny_bind (wpAny_field hos hds (x:= .none) rfl (wpAny_pure ?_)))))));refine wpAny_bind (slicePart_none ?_);show wpAny _ _ (if((1:Int) == 0)=true then _ else _) _ _ s;rw [if_neg (by decide)];refine wpAny_bind (zey pl (wpAny_bind (zey pu (wpAny_bind (wpAny_pure ?_)))));show wpAny _ _ (match Builtin.Slice.sliceAdjust lo hi 1 (n:Int) with | (lo,hi)=>pure (lo,(1:Int),Builtin.Slice.slicePlaces lo hi 1)) _ _ s;rw [zij lo hi n];show wpAny _ _ (pure (((sIx n 0 lo:Nat):Int),(1:Int),Builtin.Slice.slicePlaces ((sIx n 0 lo:Nat):Int) ((sIx n n hi:Nat):Int) 1)) _ _ s;rw [zit];exact wpAny_pure h
theorem zld (xs:Array Value) (i k:Nat):((List.range k).filterMap fun(m:Nat)=>xs[((i:Int)+(m:Int)*1).toNat]?).toArray=((xs.toList.drop i).take k).toArray:=by
 have e:(fun(m:Nat)=>xs[((i:Int)+(m:Int)*1).toNat]?)=fun m=>xs[i+m]? :=by
  funext m;have:((i:Int)+(m:Int)*1).toNat=i+m:=by omega
  rw [this]
 rw [e];have:=pick_run xs i k;rw [List.filterMap_map]at this;have e2:((fun x=>xs[x]?)∘fun x=>i+x)=fun m=>xs[i+m]? :=rfl;rw [e2]at this;rw [this]
theorem getItem_tuple_cut{t sl:Addr}{items:Array Value}{vl vu:Value}{lo hi:Option Int}{Q:Value→Shared→Prop}(ht:IsTup s.heap t items) (hs:s.heap.IsSliceOf sl vl vu .none) (pl:IsPart vl lo) (pu:IsPart vu hi)
  (hw:¬(sIx items.size 0 lo=0∧sIx items.size items.size hi=items.size))
  (h:Q (.ref s.heap.objs.size) { s with heap:=s.heap.push { cls:= .type "tuple",data:= .seq ((items.toList.drop (sIx items.size 0 lo)).take (sIx items.size items.size hi - sIx items.size 0 lo)).toArray } })
  (hsz:items.size≤sizeLine):wpAny (model prog w) A (getItem (.ref t) (.ref sl)) Q E s:=by
 have htake:sizeOk (.seq ((items.toList.drop (sIx items.size 0 lo)).take (sIx items.size items.size hi - sIx items.size 0 lo)).toArray):=by
  show((items.toList.drop (sIx items.size 0 lo)).take (sIx items.size items.size hi - sIx items.size 0 lo)).toArray.size≤sizeLine;rw [List.size_toArray,List.length_take,List.length_drop,Array.length_toList];omega
 have hj:sIx items.size items.size hi≤items.size:=sIx_le _ _ (Nat.le_refl _) hi;obtain⟨os,hos,hcs,hds⟩:=id hs;have hTs:s.TypeIs (.ref sl) "slice" :=⟨os,hos,hcs⟩;unfold getItem
 try with_reducible refine wpAny_holding ?_
 first |refine wpAny_bind (wpAny_pure ?_) |skip
 refine wpAny_bind (wpAny_sequenceKey ht.typeIs (by decide) ?_);refine wpAny_bind (wpAny_callSpecial?_slot (name:=Str.ofString "__getitem__") ht.typeIs PyProof.Rows.slot_tuple_getitem
  (wpAny_call_entry PyProof.Rows.slot_tuple_getitem ht.typeIs entry_tuple_getitem ?_ (args_tuple_getitem _ _)))
 show wpAny _ _ (Builtin.Tuple.tupleItemsOf (.ref t) >>= _) _ _ s;refine wpAny_bind (tupleItemsOf_ ht ?_);refine wpAny_bind (wpAny_typeOf hTs ?_);rw [if_pos (by decide)];refine wpAny_bind (sliceApplied_gen hs pl pu ?_);have hno:¬((((sIx items.size 0 lo:Nat):Int) == 0&&(1:Int) == 1&&(sIx items.size items.size hi - sIx items.size 0 lo) == items.size)=true):=by
  intro q;rw [Bool.and_eq_true,Bool.and_eq_true]at q;have q1:((sIx items.size 0 lo:Nat):Int)=0:=eq_of_beq q.1.1;have q2:sIx items.size items.size hi - sIx items.size 0 lo=items.size:=eq_of_beq q.2;exact hw ⟨by omega,by omega⟩
 show wpAny _ _ (if(((sIx items.size 0 lo:Nat):Int) == 0&&(1:Int) == 1&&(sIx items.size items.size hi - sIx items.size 0 lo) == items.size)=true then _ else _) _ _ s;rw [if_neg hno,zld]
 first
  |exact wpAny_bind (m:=Builtin.Tuple.tupleExact _) (wpAny_newObj_type (wpAny_pure ⟨_,rfl,wpAny_pure h⟩) htake)
  |exact wpAny_bind (m:=Builtin.Tuple.tupleExact _) (wpAny_newObj_type (wpAny_bind (wpAny_pure (wpAny_pure ⟨_,rfl,wpAny_pure h⟩))) htake)
  |exact wpAny_bind (wpAny_bind (m:=Builtin.Tuple.tupleExact _) (wpAny_newObj_type (wpAny_pure (wpAny_pure ⟨_,rfl,wpAny_pure h⟩)) htake))
  |exact wpAny_bind (wpAny_bind (m:=Builtin.Tuple.tupleExact _) (wpAny_newObj_type (wpAny_pure ⟨_,rfl,wpAny_pure h⟩) htake))
end
end HT
namespace L2
open PySem PySem.Spec PyProof.Rows
noncomputable abbrev TO:=St→Hp→(Option Int→Hp→Prop)→Prop
noncomputable def PO (X:Cx) (e:Option Expr) (t:TO):Prop:=
 ∀(pins:List (Addr×Obj)) (s:Shared) (σ:St) (H:Hp) (Q:Option Int→Hp→Prop),Inv X pins σ H s→t σ H Q→
  wpAny (model X.prog X.w) X.A (evalPart e X.env) (fun u s'=>∃o H',Inv X pins σ H' s'∧IsPart u o∧Q o H') X.xe s
noncomputable def zmP:TO:=fun _ H Q=>Q none H
noncomputable def zrk (t:TE):TO:=fun σ H Q=>t σ H fun x H1=>∃i,x= .int i∧Q (some i) H1
section
variable {X:Cx}{e:Expr}{te:TE}{lo hi:Option Expr}{tl th:TO}{pos p2:Pos}
theorem po_none:PO X none zmP:=by
 intro pins s σ H Q I h;rw [evalPart_none];exact wpAny_pure ⟨none,H,I, .none,h⟩
theorem zmv (h:PE X e te):PO X (some e) (zrk te):=by
 intro pins s σ H Q I hw;rw [evalPart_some];refine thn (h pins s σ H _ I hw) fun u s1 ⟨x,H1,I1,r1,q1⟩=>?_;obtain⟨i,rfl,q⟩:=q1;obtain⟨t,rfl⟩:=r1;exact⟨some i,H1,I1, .int i t,q⟩
noncomputable def SlR (X:Cx) (r:V→Option Int→Option Int→Hp→VK→Prop):Prop:=
 ∀(pins:List (Addr×Obj)) (s:Shared) (σ:St) (H:Hp) (x:V) (v vl vu:Value) (lo hi:Option Int) (sl:Addr) (Q:VK),Inv X pins σ H s→RelV x v→s.heap.IsSliceOf sl vl vu .none→IsPart vl lo→IsPart vu hi→r x lo hi H Q→
  ∃T id,typeLookup (.type T) "__getitem__" =pure (some (.builtin id))∧s.TypeIs v T∧wpAny (model X.prog X.w) X.A (getItem v (.ref sl)) (EP X pins σ Q) X.xe s
theorem SlR.or{r r':V→Option Int→Option Int→Hp→VK→Prop}(h:SlR X r) (h':SlR X r'):SlR X (fun x lo hi H Q=>r x lo hi H Q∨r' x lo hi H Q):=by
 intro pins s σ H x v vl vu lo hi sl Q I rx hs pl pu q;rcases q with q |q
 ·exact h pins s σ H x v vl vu lo hi sl Q I rx hs pl pu q
 ·exact h' pins s σ H x v vl vu lo hi sl Q I rx hs pl pu q
noncomputable def tSl (r:V→Option Int→Option Int→Hp→VK→Prop) (te:TE) (tl th:TO):TE:=fun σ H Q=>te σ H fun x H1=>tl σ H1 fun l H2=>th σ H2 fun u H3=>r x l u H3 Q
theorem zhy{r:V→Option Int→Option Int→Hp→VK→Prop}(hr:SlR X r) (he:PE X e te) (hl:PO X lo tl) (hu:PO X hi th):PE X (.Subscript e (.Slice lo hi none p2) pos) (tSl r te tl th):=by
 intro pins s σ H Q I h;refine Subscript_ (thn (he pins s σ H _ I h) fun v s1 ⟨x,H1,I1,r1,q1⟩=>?_);refine wpAny_Slice (thn (hl pins s1 σ H1 _ I1 q1) fun vl s2 ⟨l,H2,I2,pl,q2⟩=>thn (hu pins s2 σ H2 _ I2 q2) fun vu s3 ⟨u,H3,I3,pu,q3⟩=>?_);rw [evalPart_none];refine wpAny_pure ?_;have I4:Inv X pins σ H3 { s3 with heap:=s3.heap.push { cls:= .type "slice",data:= .fields #[vl,vu, .none] } }:=I3.kept (t':=s3.toks) fun b ob q=>Heap.get?_push_of_some _ q;obtain⟨T,id,hT,ht,hg⟩:=hr pins { s3 with heap:=s3.heap.push { cls:= .type "slice",data:= .fields #[vl,vu, .none] } } σ H3 x v vl vu l u s3.heap.objs.size Q I4 r1 (Heap.IsSliceOf.new ..) pl pu q3;show wpAny (model X.prog X.w) X.A (subscriptTail e (.Slice lo hi none p2) v (.ref s3.heap.objs.size)) (EP X pins σ Q) X.xe { s3 with heap:=s3.heap.push { cls:= .type "slice",data:= .fields #[vl,vu, .none] } };exact tail_any (ops:=[.ref s3.heap.objs.size,v]) ht hT hg (by with_unfolding_all rfl)
noncomputable def zje (xs:List V) (lo hi:Option Int):List V:=(xs.drop (HT.sIx xs.length 0 lo)).take (HT.sIx xs.length xs.length hi - HT.sIx xs.length 0 lo)
theorem zdR (xs:List V) (lo hi:Option Int):(zje xs lo hi).length≤xs.length:=by
 unfold zje;rw [List.length_take,List.length_drop];omega
noncomputable def zsq (K:PySem.W.Frag):V→Option Int→Option Int→Hp→VK→Prop:=fun x lo hi H Q=>∃a xs,x= .ref a∧SqT K H a xs∧
 ¬(HT.sIx xs.length 0 lo=0∧HT.sIx xs.length xs.length hi=xs.length)∧ ∀p,H p=none→Q (.ref p) (upd H p (.tup (zje xs lo hi)))
theorem zot:SlR X (zsq X.K):=by
 intro pins s σ H x v vl vu lo hi sl Q I rx hs pl pu h;obtain⟨a,xs,rfl,hx,hw,q⟩:=h;cases rx;obtain⟨its,r,ht,hz⟩:=I.tuple hx;have hlen:its.toArray.size=xs.length:=by rw [List.size_toArray];exact r.length.symm
 refine⟨"tuple",_,PyProof.Rows.slot_tuple_getitem.lookup,ht.typeIs,?_⟩;refine HT.getItem_tuple_cut ht hs pl pu (by rw [hlen];exact hw) ?_ (by rw [hlen];exact hz);rw [hlen];refine⟨.ref s.heap.objs.size,_,I.laid (t':=s.toks) (o:= .tup (zje xs lo hi)) (fun b ob q=>Heap.get?_push_of_some _ q) (Nat.le_refl _) ?_,rfl,q _ (I.hok.fresh (Nat.le_refl _))⟩;exact⟨Nat.le_trans (zdR xs lo hi) hz,_,(r.drop (HT.sIx xs.length 0 lo)).take (HT.sIx xs.length xs.length hi - HT.sIx xs.length 0 lo),IsTup.new _ _⟩
noncomputable def zmL (K:PySem.W.Frag):R2:=fun x y H Q=>∃a b xs ys,x= .ref a∧y= .ref b∧SqT K H a xs∧SqT K H b ys∧xs≠ []∧xs.length+ys.length≤sizeLine∧
 (ys=[]→Q (.ref a) H)∧(ys≠ []→ ∀p,H p=none→Q (.ref p) (upd H p (.tup (xs++ys))))
theorem Vals.nil_iff{xs:List V}{us:List Value}(r:Vals xs us):us=[]↔xs=[]:=by
 cases r with
 |nil=>simp
 |cons _ _=>simp
theorem op_catT:OpR X (binaryOp .Add) (zmL X.K):=by
 intro pins s σ H x y v u Q I rx ry h;obtain⟨a,b,xs,ys,rfl,rfl,ha,hb,hx,hz,q1,q2⟩:=h;cases rx;cases ry;obtain⟨its,r1,p1,_⟩:=I.tuple ha;obtain⟨its2,r2,p2,_⟩:=I.tuple hb;refine HT.cat_tup p1 p2 (fun z=>hx (r1.nil_iff.mp z)) (fun z=>⟨.ref a,H,I,rfl,q1 (r2.nil_iff.mp z)⟩) (fun z=>?_) (by rw [←r1.length,←r2.length];exact hz);refine⟨.ref s.heap.objs.size,_,I.laid (t':=s.toks) (o:= .tup (xs++ys)) (fun b ob q=>Heap.get?_push_of_some _ q) (Nat.le_refl _) ?_,rfl,q2 (fun w=>z (r2.nil_iff.mpr w)) _ (I.hok.fresh (Nat.le_refl _))⟩;exact⟨by rw [List.length_append];exact hz,_,r1.append r2,IsTup.new _ _⟩
end
noncomputable def ixN (n:Nat) (i:Int):Option Nat:=if 0≤i then(if i<n then some i.toNat else none) else if -(n:Int)≤i then some (i+n).toNat else none
noncomputable def atI {α:Type}(xs:List α) (i:Int):Option α:=(ixN xs.length i).bind fun j=>xs[j]?
theorem zmz{n:Nat}{i:Int}{j:Nat}(h:ixN n i=some j):seqIndex? i n=some j∧j<n∧ -(n:Int)≤i∧i<n:=by
 unfold ixN at h;by_cases h0:0≤i
 ·rw [if_pos h0]at h;by_cases h1:i<n
  ·rw [if_pos h1]at h;have e:i.toNat=j:=Option.some.inj h;exact⟨by rw [seqIndex_of h0 h1,e],by omega,by omega,h1⟩
  ·rw [if_neg h1]at h;cases h
 ·rw [if_neg h0]at h;by_cases h1: -(n:Int)≤i
  ·rw [if_pos h1]at h;have e:(i+n).toNat=j:=Option.some.inj h;exact⟨by rw [seqIndex_neg (by omega) h1,e],by omega,h1,by omega⟩
  ·rw [if_neg h1]at h;cases h
theorem zgx{α:Type}{xs:List α}{i:Int}{v:α}(h:atI xs i=some v):∃j,seqIndex? i xs.length=some j∧xs[j]? =some v∧j<xs.length∧ -(xs.length:Int)≤i∧i<xs.length:=by
 unfold atI at h;cases e:ixN xs.length i with
 |none=>rw [e]at h;cases h
 |some j=>
  rw [e]at h;obtain⟨h1,h2,h3,h4⟩:=zmz e;exact⟨j,h1,h,h2,h3,h4⟩
theorem zhb{α:Type}{xs:List α}{j:Nat}{v:α}(h:xs[j]? =some v):atI xs (j:Int)=some v:=by
 have hj:j<xs.length:=(List.getElem?_eq_some_iff.mp h).1;have e:ixN xs.length (j:Int)=some j:=by
  unfold ixN;rw [if_pos (by omega),if_pos (by omega)];simp
 unfold atI;rw [e];exact h
noncomputable def zhh (b:Expr):Prop:=∀o i,subscripted b false o i=operate [o,i] (getItem o i)
noncomputable def IxR (X:Cx) (r:R2):Prop:=
 ∀(value slice:Expr) (pins:List (Addr×Obj)) (s:Shared) (σ:St) (H:Hp) (x y:V) (v u:Value) (Q:VK),Inv X pins σ H s→RelV x v→RelV y u→r x y H Q→
  subscripted slice false v u=operate [v,u] (getItem v u)→wpAny (model X.prog X.w) X.A (subscriptTail value slice v u) (EP X pins σ Q) X.xe s
noncomputable def MtR (X:Cx) (id:String) (r:V→List V→Hp→VK→Prop):Prop:=
 ∀(pins:List (Addr×Obj)) (s:Shared) (σ:St) (H:Hp) (x:V) (xs:List V) (v:Value) (us:List Value) (Q:VK),Inv X pins σ H s→RelV x v→Vals xs us→r x xs H Q→
  wpAny (model X.prog X.w) X.A (call (.builtin id) (v::us)) (EP X pins σ Q) X.xe s
section
variable {X:Cx}{a b:Expr}{ta tb:TE}{pos:Pos}
theorem IxR.or{r r':R2}(h:IxR X r) (h':IxR X r'):IxR X (fun x y H Q=>r x y H Q∨r' x y H Q):=by
 intro value slice pins s σ H x y v u Q I rx ry q hs;rcases q with q |q
 ·exact h value slice pins s σ H x y v u Q I rx ry q hs
 ·exact h' value slice pins s σ H x y v u Q I rx ry q hs
theorem MtR.or{id:String}{r r':V→List V→Hp→VK→Prop}(h:MtR X id r) (h':MtR X id r'):MtR X id (fun x xs H Q=>r x xs H Q∨r' x xs H Q):=by
 intro pins s σ H x xs v us Q I rx rs q;rcases q with q |q
 ·exact h pins s σ H x xs v us Q I rx rs q
 ·exact h' pins s σ H x xs v us Q I rx rs q
theorem zpq{r:R2}(hr:IxR X r) (ha:PE X a ta) (hb:PE X b tb) (hs:zhh b):PE X (.Subscript a b pos) (tOp r ta tb):=by
 intro pins s σ H Q I h;exact Subscript_ (zqU ha hb I h fun v u s2 x y H2 I2 rx ry q=>hr a b pins s2 σ H2 x y v u Q I2 rx ry q (hs _ _))
noncomputable def zrK (K:PySem.W.Frag):R2:=fun x y H Q=>∃p xs i v,x= .ref p∧y= .int i∧SqL K H p xs∧atI xs i=some v∧Q v H
noncomputable def zrG (K:PySem.W.Frag):R2:=fun x y H Q=>∃p xs i v,x= .ref p∧y= .int i∧SqT K H p xs∧atI xs i=some v∧Q v H
noncomputable def zrH:R2:=fun x y H Q=>∃z i c,x= .str z∧y= .int i∧z.length≤sizeLine∧atI z.cps.toList i=some c∧Q (.str ⟨#[c]⟩) H
theorem ix_list:IxR X (zrK X.K):=by
 intro value slice pins s σ H x y v u Q I rx ry h hs;obtain⟨p,xs,i,z,rfl,rfl,hq,he,q⟩:=h;cases rx;obtain⟨t,rfl⟩:=ry;obtain⟨its,r,pl,hz⟩:=I.list hq;obtain⟨j,h1,h2,h3,h4,h5⟩:=zgx he;obtain⟨w,ew,rw'⟩:=r.get h2;have hl:=r.length;have hn:=zez;have fin:EP X pins σ Q w s:=⟨z,H,I,rw',q⟩;by_cases h0:0≤i
 ·have hj:i.toNat=j:=by
   rw [seqIndex_of h0 h5]at h1;exact Option.some.inj h1
  exact item_listR pl.isList h0 (by omega) (by rw [hj];simpa using ew) fin hs
 ·have hj:(i+(its.toArray.size:Int)).toNat=j:=by
   rw [seqIndex_neg (by omega) h4]at h1;rw [List.size_toArray,←hl];exact Option.some.inj h1
  exact subscriptTail_builtinR (x:=w) pl.isList.typeIs slot_list_getitem.lookup
   (wpAny_getItem_list_neg (Q:=fun r s'=>r=w∧EP X pins σ Q r s') pl.isList (by omega) (by rw [List.size_toArray]<;>omega) (by omega) (by rw [hj];simpa using ew) ⟨rfl,fin⟩) hs
theorem ix_tup:IxR X (zrG X.K):=by
 intro value slice pins s σ H x y v u Q I rx ry h hs;obtain⟨p,xs,i,z,rfl,rfl,hq,he,q⟩:=h;cases rx;obtain⟨t,rfl⟩:=ry;obtain⟨its,r,pl,hz⟩:=I.tuple hq;obtain⟨j,h1,h2,h3,h4,h5⟩:=zgx he;obtain⟨w,ew,rw'⟩:=r.get h2;have hl:=r.length;have hn:=zez;have fin:EP X pins σ Q w s:=⟨z,H,I,rw',q⟩;exact subscriptTail_builtinR (x:=w) pl.typeIs slot_tuple_getitem.lookup
  (getItem_tuple (j:=j) (Q:=fun r s'=>r=w∧EP X pins σ Q r s') pl (by omega) (by omega) (by rw [List.size_toArray,←hl];exact h1) (by simpa using ew) ⟨rfl,fin⟩) hs
theorem zpY:IxR X zrH:=by
 intro value slice pins s σ H x y v u Q I rx ry h hs;obtain⟨z,i,c,rfl,rfl,hz,he,q⟩:=h;obtain⟨t,rfl⟩:=rx;obtain⟨t',rfl⟩:=ry;obtain⟨j,h1,h2,h3,h4,h5⟩:=zgx he;have hl:z.cps.toList.length=z.length:=by simp [Str.length]
 rw [hl]at h1 h4 h5;have hn:=zez;exact tail_any (typeIs_str s z t) slot_str_getitem.lookup (getItem_str (c:=c) (by
  have e1:decide (i< -(2 ^ 63:Int))=false:=decide_eq_false (by omega);have e2:decide (i≥2 ^ 63)=false:=decide_eq_false (by omega);rw [e1,e2,Bool.or_false]) (by rw [h1];simpa using h2) ⟨.str ⟨#[c]⟩,H,I.tok _,⟨_,rfl⟩,q⟩) hs
noncomputable def rIx (K:PySem.W.Frag):R2:=fun x y H Q=>zrK K x y H Q∨zrG K x y H Q∨zrH x y H Q
theorem zmf:IxR X (rIx X.K):=ix_list.or (ix_tup.or zpY)
theorem zfy (lo hi:Option Int) (n:Nat):(sliceBounds lo hi none n).1=((HT.sIx n 0 lo:Nat):Int)∧(sliceBounds lo hi none n).2.1=((HT.sIx n n hi:Nat):Int)∧(sliceBounds lo hi none n).2.2=1:=by
 refine⟨?_,?_,rfl⟩
 ·cases lo with
  |none=>simp [sliceBounds,HT.sIx]
  |some i=>
   simp only[sliceBounds,HT.sIx,Option.getD_none,show(1:Int) > 0 by decide,if_true]
   by_cases h:i<0
   ·simp only[h,if_true]<;>omega
   ·simp only[h,if_false]<;>omega
 ·cases hi with
  |none=>simp [sliceBounds,HT.sIx]
  |some i=>
   simp only[sliceBounds,HT.sIx,Option.getD_none,show(1:Int) > 0 by decide,if_true]
   by_cases h:i<0
   ·simp only[h,if_true]<;>omega
   ·simp only[h,if_false]<;>omega
theorem zeL (its:List Value) (lo hi:Option Int):slicePick its.toArray lo hi none=((its.drop (HT.sIx its.length 0 lo)).take (HT.sIx its.length its.length hi - HT.sIx its.length 0 lo)).toArray:=by
 obtain⟨h1,h2,h3⟩:=zfy lo hi its.toArray.size;unfold slicePick;rw [h1,h2,h3];simp only[sliceRange_one,pick_run,List.size_toArray]<;>rfl
noncomputable def zrX (K:PySem.W.Frag):V→Option Int→Option Int→Hp→VK→Prop:=fun x lo hi H Q=>∃a xs,x= .ref a∧SqL K H a xs∧ ∀p,H p=none→Q (.ref p) (upd H p (.lst (zje xs lo hi)))
theorem ziP:SlR X (zrX X.K):=by
 intro pins s σ H x v vl vu lo hi sl Q I rx hs pl pu h;obtain⟨a,xs,rfl,hx,q⟩:=h;cases rx;obtain⟨its,r,ht,hz⟩:=I.list hx;have hlen:=r.length;refine⟨"list",_,slot_list_getitem.lookup,ht.isList.typeIs,?_⟩;refine wpAny_getItem_list_slice ht.isList hs pl pu .none (by simp) ?_ (by rw [List.size_toArray]<;>omega);rw [zeL,←hlen];refine⟨.ref s.heap.objs.size,_,I.laid (t':=s.toks) (o:= .lst (zje xs lo hi)) (fun b ob q=>Heap.get?_push_of_some _ q) (Nat.le_refl _) ?_,rfl,q _ (I.hok.fresh (Nat.le_refl _))⟩;exact⟨Nat.le_trans (zdR xs lo hi) hz,_,0,(r.drop (HT.sIx xs.length 0 lo)).take (HT.sIx xs.length xs.length hi - HT.sIx xs.length 0 lo),Heap.get?_push_size _ rfl⟩
theorem call_len_seq:CallR X (.builtin "len") (fun xs H Q=>∃p ys,xs=[.ref p]∧(SqL X.K H p ys∨SqT X.K H p ys)∧Q (.int ys.length) H):=by
 intro pins s σ H xs us Q I r h;obtain⟨p,ys,rfl,hq,q⟩:=h;obtain⟨u,rfl,rx⟩:=zfj r;cases rx;have hn:=zez;rcases hq with hq |hq
 ·obtain⟨its,r',pl,hz⟩:=I.list hq;have hlen:=r'.length;exact Calls.call_len_list pl.isList (by simp only[List.size_toArray]<;>omega) ⟨.int ys.length,H,I.tok _,⟨s.toks+1,by rw [List.size_toArray,hlen]⟩,q⟩
 ·obtain⟨its,r',pl,hz⟩:=I.tuple hq;have hlen:=r'.length;exact len_tuple pl (by simp only[List.size_toArray]<;>omega) ⟨.int ys.length,H,I.tok _,⟨s.toks+1,by rw [List.size_toArray,hlen]⟩,q⟩
theorem zfC:CallR X (.builtin "len") (fun xs H Q=>∃z,xs=[.str z]∧z.length≤sizeLine∧Q (.int z.length) H):=by
 intro pins s σ H xs us Q I r h;obtain⟨z,rfl,hz,q⟩:=h;obtain⟨u,rfl,t,rfl⟩:=zfj r;have hn:=zez;exact len_str (by omega) ⟨.int z.length,H,I.tok _,⟨_,rfl⟩,q⟩
theorem CallR.or{f:Value}{r r':List V→Hp→VK→Prop}(h:CallR X f r) (h':CallR X f r'):CallR X f (fun xs H Q=>r xs H Q∨r' xs H Q):=by
 intro pins s σ H xs us Q I rs q;rcases q with q |q
 ·exact h pins s σ H xs us Q I rs q
 ·exact h' pins s σ H xs us Q I rs q
theorem zdb:CallR X (.type "tuple") (fun xs H Q=>∃p ys,xs=[.ref p]∧((SqL X.K H p ys∧ ∀l,H l=none→Q (.ref l) (upd H l (.tup ys)))∨(SqT X.K H p ys∧Q (.ref p) H))):=by
 intro pins s σ H xs us Q I r h;obtain⟨p,ys,rfl,h⟩:=h;obtain⟨u,rfl,rx⟩:=zfj r;cases rx;rcases h with⟨hq,q⟩ |⟨hq,q⟩
 ·obtain⟨its,r',pl,hz⟩:=I.list hq;have hlen:=r'.length;refine call_tuple_list pl.isList (fun h' kp=>?_) (by simp only[List.size_toArray]<;>omega);have I1:Inv X pins σ H { s with heap:=h' }:=I.kept (t':=s.toks) kp;have I2:Inv X pins σ (upd H h'.objs.size (.tup ys)) { s with heap:=h'.push { cls:= .type "tuple",data:= .seq its.toArray } }:=
   I1.laid (t':=s.toks) (fun b o e=>Heap.get?_push_of_some _ e) (Nat.le_refl _) (show ObjOk X.prog X.w _ _ _ (.tup ys) from⟨hz,its,r',IsTup.new _ _⟩)
  exact⟨.ref h'.objs.size,_,I2,rfl,q _ (I1.hok.fresh (Nat.le_refl _))⟩
 ·obtain⟨its,r',pl,hz⟩:=I.tuple hq;exact call_tuple_same pl ⟨.ref p,H,I,rfl,q⟩
noncomputable def tyV (K:PySem.W.Frag) (T:String) (x:V) (H:Hp):Prop:=match x with
 | .str _=>T= "str"
 | .int _=>T= "int"
 | .ref p=>(T= "list" ∧ ∃xs,SqL K H p xs)∨(T= "tuple" ∧ ∃o,K.lookup p=some o∧o.cls= .type "tuple" ∧o.dict=none)∨
   (T= "dict" ∧((∃kvs,H p=some (.dK kvs))∨ ∃kvs,H p=some (.dT kvs)))∨(T= "set" ∧ ∃S n,H p=some (.set S n))
 |_=>False
theorem znZ{pins:List (Addr×Obj)}{σ:St}{H:Hp}{s:Shared}{T:String}{x:V}{v:Value}(I:Inv X pins σ H s) (r:RelV x v) (ty:tyV X.K T x H) :
  s.TypeIs v T∧ ∀a,v= .ref a→ ∃ob,s.heap.get? a=some ob∧ob.dict=none:=by
 cases x with
 |str z=>
  obtain⟨t,rfl⟩:=r;cases(show T= "str" from ty);exact⟨typeIs_str s z t,fun _ e=>nomatch e⟩
 |int i=>
  obtain⟨t,rfl⟩:=r;cases(show T= "int" from ty);exact⟨typeIs_int s i t,fun _ e=>nomatch e⟩
 |ref p=>
  cases r;rcases ty with⟨rfl,xs,hq⟩ |⟨rfl,o,hk,hc,hd⟩ |⟨rfl,hk⟩ |⟨rfl,S,n,hk⟩
  ·obtain⟨its,_,pl,_⟩:=I.list hq;refine⟨pl.isList.typeIs,fun a e=>?_⟩;cases e;obtain⟨o,n,e,c,hd,_⟩:=pl;exact⟨o,e,hd⟩
  ·refine⟨⟨o,I.kIn p o hk,hc⟩,fun a e=>?_⟩;cases e;exact⟨o,I.kIn _ o hk,hd⟩
  ·have z:∃o,s.heap.get? p=some o∧o.ExactDict:=by
    rcases hk with⟨kvs,hk⟩ |⟨kvs,hk⟩
    ·obtain⟨_,_,_,_,o,_,_,e,ex,_⟩:=I.hok p _ hk;exact⟨o,e,ex⟩
    ·obtain⟨_,_,_,_,o,_,_,e,ex,_⟩:=I.hok p _ hk;exact⟨o,e,ex⟩
   obtain⟨o,e,ex⟩:=z;refine⟨⟨o,e,ex.1⟩,fun a e2=>?_⟩;cases e2;exact⟨o,e,ex.2.1⟩
  ·obtain⟨o,_,_,_,e,ex,_⟩:=I.hok p _ hk;refine⟨⟨o,e,ex.1⟩,fun a e2=>?_⟩;cases e2;exact⟨o,e,ex.2.1⟩
 |_=>exact False.elim ty
noncomputable def tBM (K:PySem.W.Frag) (T:String) (r:V→List V→Hp→VK→Prop) (to:TE) (t:TA):TE:=fun σ H Q=>to σ H fun x H1=>tyV K T x H1∧t σ H1 fun xs H2=>r x xs H2 Q
variable {o e:Expr}{es:List Expr}{to:TE}{t:TA}{name:Str}{apos cpos:Pos}{T id:String}{r:V→List V→Hp→VK→Prop}
theorem zod (pa:PlainAttrs T) (slot:Slot T name id) (hty:typeOf (.builtin id)=pure (.type "method_descriptor")) (hm:MtR X id r) (ho:PE X o to) (ha:PA X (e::es) t)
  (hbase:attributeBase o name X.env (eval o X.env)=eval o X.env:=by rfl)
  (hfew:((backTo cpos (starEach (e::es) X.env)).all (fun x=> !x.1)&&(backToKw cpos (keywordEach [] X.env)).all (fun x=>x.1.isSome)
   &&decide ((e::es).length+([]:List Keyword).length+(if([]:List Keyword).isEmpty then 0 else 1)<30))=true:=by rfl)
  (hline:(apos.endLine == cpos.line)=true:=by rfl) (hs:starEach (e::es) X.env=(false,eval e X.env)::starEach es X.env:=by rfl) (hplain:(backTo cpos (starEach es X.env)).any (·.1)=false:=by rfl) :
  PE X (.Call (.Attribute o name apos) (e::es) [] cpos) (tBM X.K T r to t):=by
 intro pins s σ H Q I h;refine wpAny_Call_method_late hbase hfew hline rfl (thn (ho pins s σ H _ I h) fun v s1 ⟨x,H1,I1,r1,ty,q1⟩=>?_);obtain⟨h1,h2⟩:=znZ I1 r1 ty;refine⟨T,id,pa,slot,hty,h1,h2,?_⟩;have hA:=ha cpos pins s1 σ H1 _ I1 q1;rw [hs]at hA⊢;refine Calls.callWith_builtin (by show(false || (backTo cpos (starEach es X.env)).any (·.1))=false;rw [hplain]<;>rfl) (Calls.evalArgs_plain ?_)
 exact thn hA fun us s2 ⟨vs,H2,I2,r2,q2⟩=>hm pins s2 σ H2 x vs v us Q I2 r1 r2 q2
end
noncomputable def MtM (X:Cx) (id:String) (r:V→List V→Hp→VK→Prop):Prop:=
 ∀(pins:List (Addr×Obj)) (s:Shared) (σ:St) (H:Hp) (x:V) (xs:List V) (v:Value) (us:List Value) (Q:VK),Inv X pins σ H s→RelV x v→Vals xs us→r x xs H Q→
  wpAny (model X.prog X.w) X.A (call (.builtin id) (v::us)) (EP X pins σ Q) X.xe s
theorem Vals.one:∀{x:V}{us:List Value},Vals [x] us→ ∃u,us=[u]∧RelV x u
 |_,_, .cons r .nil=>⟨_,rfl,r⟩
section
variable {X:Cx}{pins:List (Addr×Obj)}{σ:St}{H:Hp}{s:Shared}{l:Addr}{xs ys:List V}
theorem Inv.lset{its its':List Value}{n:Nat}{f:Array Value→Array Value}{t':Nat}(I:Inv X pins σ H s) (hH:H l=some (.lst xs))
  (e:s.heap.get? l=some { cls:= .type "list",data:= .seq its.toArray n }) (hf:f its.toArray=its'.toArray) (hv:Vals ys its') (hz:ys.length≤sizeLine) :
  Inv X pins σ (upd H l (.lst ys)) { s with heap:=s.heap.update l (Obj.mapSeq f),toks:=t' }:=by
 have q:=PySem.IsL.update e f;rw [hf]at q;refine I.write (x:=l) (e:=l) (by rw [hH];exact trivial) (.inl rfl) (fun b' u hb hu=>(Heap.get?_update_other s.heap (Obj.mapSeq f) (Ne.symm hb)).trans hu) ⟨_,q⟩ ?_;exact⟨hz,its',_,hv,q⟩
theorem Inv.lnew{its:List Value}{t':Nat}(I:Inv X pins σ H s) (hv:Vals ys its) (hz:ys.length≤sizeLine) :
  Inv X pins σ (upd H s.heap.objs.size (.lst ys)) { s with heap:=s.heap.push { cls:= .type "list",data:= .seq its.toArray },toks:=t' }:=
 I.laid (fun _ _ q=>Heap.get?_push_of_some _ q) (Nat.le_refl _) ⟨hz,its,0,hv,Heap.get?_push_size _ rfl⟩
theorem Inv.fresh (I:Inv X pins σ H s):H s.heap.objs.size=none:=I.hok.fresh (Nat.le_refl _)
theorem Inv.lstM (I:Inv X pins σ H s) (hH:H l=some (.lst xs)):xs.length≤sizeLine∧ ∃(its:List Value) (n:Nat),Vals xs its∧xs.length=its.length∧s.heap.get? l=some { cls:= .type "list",data:= .seq its.toArray n }:=by
 obtain⟨z,its,n,r,e⟩:=I.hok l _ hH;exact⟨z,its,n,r,r.length,e⟩
theorem zht{n:Nat}(h:n≤sizeLine):Builtin.List.listTooLong n=false:=by
 unfold Builtin.List.listTooLong;exact decide_eq_false (by omega)
end
section
variable {X:Cx}
noncomputable def zjN:V→List V→Hp→VK→Prop:=fun x vs H Q=>∃l xs y,x= .ref l∧vs=[y]∧H l=some (.lst xs)∧xs.length<sizeLine∧Q .non (upd H l (.lst (xs++[y])))
theorem zfA:MtM X "list.append" zjN:=by
 intro pins s σ H x vs v us Q I rx rv h;obtain⟨l,xs,y,rfl,rfl,hH,hz,q⟩:=h;cases rx;obtain⟨u,rfl,ru⟩:=rv.one;obtain⟨z,its,n,r,hl,e⟩:=I.lstM hH;refine call_meets F.slot_list_append ⟨_,e,rfl⟩ F.entry_list_append (F.args_list_append_2 _ _) (PySem.list_append l its.toArray n u (by rw [List.size_toArray];omega)) ⟨e,?_⟩;refine⟨.non,_,I.lset (its':=its++[u]) hH e (by simp) (r.append (.cons ru .nil)) ?_,rfl,q⟩;rw [List.length_append,List.length_singleton];omega
noncomputable def zjf:V→List V→Hp→VK→Prop:=fun x vs H Q=>∃l b xs zs,x= .ref l∧vs=[.ref b]∧H l=some (.lst xs)∧H b=some (.lst zs)∧xs.length+zs.length≤sizeLine∧Q .non (upd H l (.lst (xs++zs)))
theorem zjq:MtM X "list.extend" zjf:=by
 intro pins s σ H x vs v us Q I rx rv h;obtain⟨l,b,xs,zs,rfl,rfl,hH,hB,hz,q⟩:=h;cases rx;obtain⟨u,rfl,ru⟩:=rv.one;cases ru;obtain⟨z,its,n,r,hl,e⟩:=I.lstM hH;obtain⟨z2,its2,n2,r2,hl2,e2⟩:=I.lstM hB;have hsz:its.toArray.size+its2.toArray.size≤sizeLine:=by rw [List.size_toArray,List.size_toArray];omega
 have hlong:¬(!its.toArray.isEmpty&&Builtin.List.listTooLong (its.toArray.size+its2.toArray.size))=true:=by
  rw [zht hsz,Bool.and_false];exact Bool.false_ne_true
 refine call_meets F.slot_list_extend ⟨_,e,rfl⟩ F.entry_list_extend (F.args_list_extend_2 _ _)
  (AutoSeq1.list_extend_list_list_0 l its.toArray n b its2.toArray n2 hlong (by rw [List.size_toArray];omega) (by omega)) ⟨e,e2,?_⟩
 refine⟨.non,_,I.lset (its':=its++its2) hH e (by simp) (r.append r2) ?_,rfl,q⟩;rw [List.length_append];omega
noncomputable def zqq:R2:=fun x y H Q=>∃l b xs zs,x= .ref l∧y= .ref b∧H l=some (.lst xs)∧H b=some (.lst zs)∧xs.length+zs.length≤sizeLine∧ ∀p,H p=none→Q (.ref p) (upd H p (.lst (xs++zs)))
theorem ziS:OpR X (binaryOp .Add) zqq:=by
 intro pins s σ H x y v u Q I rx ry h;obtain⟨l,b,xs,zs,rfl,rfl,hH,hB,hz,q⟩:=h;cases rx;cases ry;obtain⟨z,its,n,r,hl,e⟩:=I.lstM hH;obtain⟨z2,its2,n2,r2,hl2,e2⟩:=I.lstM hB;refine PySem.P.add_list e e2 ?_ (by rw [List.size_toArray,List.size_toArray];omega);have ea:its.toArray++its2.toArray=(its++its2).toArray:=by simp
 rw [ea];exact⟨.ref _,_,I.lnew (t':=s.toks) (r.append r2) (by rw [List.length_append];omega),rfl,q _ I.fresh⟩
end
end L2
namespace Att
open PySem PySem.W PySem.Calls PyProof.Rows
theorem zef{P:Params}{h:Heap}:∀(ns:List Int) (vs:List Value),WellAll P h vs (ns.map WData.int)→IntsAre vs ns:=by
 intro ns
 induction ns with
 |nil=>
  intro vs w;rw [List.map_nil]at w;cases w;exact .nil
 |cons n ns ih=>
  intro vs w;rw [List.map_cons]at w;cases w with
  |cons a b=>
   cases a;exact .cons _ _ (ih _ b)
theorem zji{l:OpenLaw}{n:Nat}(hn:l.most=some n) {P:Params}{h:Heap}{args:List WData}{vals:List Value}
  (hpre:l.row.toRowW.claim.pre args=true) (hwl:WellAll P h vals args) :
  ∃a vs ns,vals=[Value.ref a]∧args=[WData.list (ns.map WData.int)]∧h.get? a=some { cls:= .type "list",data:= .seq vs.toArray }∧IntsAre vs ns∧ns.length≤n:=by
 have hsh:WShape.hasAll [] args [.list .int]=true:=(pre_splitW hpre).1;have hc:l.pre.holds [] { args:=args }=true:=(pre_splitW hpre).2;obtain⟨d,r,rfl,h1,h2⟩:=hasAllW_cons hsh;obtain rfl:=hasAllW_nil h2;obtain⟨xs,rfl,h3⟩:=hasW_list h1;obtain⟨ns,rfl⟩:=items_int h3;have hlen:ns.length≤n:=by
  unfold OpenLaw.pre at hc;have h4:(WTm.not (.lt (.lit (.int (n:Int))) (.len (.arg 0)))).holds [] { args:=[.list (ns.map .int)] }=true:=by
   have h4:=(holds_andW hc).1;rw [hn]at h4;exact h4
  have h5:=condW_of h4 (w_not (w_lt w_lit (w_len_list (w_arg rfl))));rw [List.length_map]at h5;refine Nat.le_of_not_lt fun q=>?_;have q':(n:Int)<((ns.length:Nat):Int):=by omega
  first
   | (rw [decide_eq_true q']at h5;exact absurd h5 (by decide))
   | (simp at h5;omega)
 cases hwl with
 |cons w1 w2=>
  cases w2;cases w1 with
  |list ho hall=>exact⟨_,_,ns,rfl,rfl,ho,zef ns _ hall,hlen⟩
theorem ziz (l:OpenLaw) (args:List WData):l.row.toRowW.claim.post args (.bool true) args=true:=
 postW_of (r:=l.row.toRowW) (X:=(true == true))
  (show WShape.has [] (.bool true) .bool=true by first |rfl |decide |simp [WShape.has,WShape.arms,WShape.armsAll])
  (show(WTm.eq .res (.lit (.bool true))).value [] { args:=args,res:=some (.bool true),after:=args }=some (.bool (true == true)) from w_eq_bool (w_res rfl) w_lit) rfl
theorem attach_call{l:OpenLaw}{n:Nat}{q:Program}{loose:List Str}{XP:(Str→Option Value)→Heap→Prop}{YP:World→Heap→Prop}{d:DefRec}
  (hn:l.most=some n) (hdf:d.params.defaults=[])
  (call:∀(w:World) (s₀ s₁:Shared) (mg mb:Str→Option Value) (fa:Addr) (o:Obj) (pm cd doc:Value) (a:Addr) (vs:List Value) (ns:List Int),
   Ground q loose [] XP w s₀ mg mb s₁.heap→YP w s₁.heap→
   s₁.heap.get? fa=some o→o.data= .func (docDef d.name d.params d.body d.scope pm cd doc)→s₁.heap.CodeRec cd d.name→mg d.name=some (.ref fa)→
   s₁.heap.get? a=some { cls:= .type "list",data:= .seq vs.toArray }→IntsAre vs ns→ns.length≤n→s₁.gens= #[]→
   codeAny (model l.prog w) callerA (.call (.ref fa) ⟨[.ref a],[]⟩) (fun r s'=>r= .ok (.ret (.bool true))∧OldK s₁.heap s'.heap∧s'.os=s₁.os∧AllBare s'.gens) s₁) :
  WalkO q loose XP YP l.row.toRowW d [] (fun f vs=>PySem.call f vs):=by
 intro w s₀ s₁ mg mb G Y fa o pm cd doc dV kV ho hd hcd hD hmg hg args vals as hpre hlay hrd hwl hlo;obtain rfl:dV= .none:=Dflts.none hD hdf;obtain rfl:kV= .none:=Dflts.noKw hD;obtain⟨a,vs,ns,rfl,rfl,hobj,hints,hlen⟩:=zji hn hpre hwl;refine enter_call (codeAny_mono (call w s₀ s₁ mg mb fa o pm cd doc a vs ns G Y ho (fd_plain hd) hcd hmg hobj hints hlen hg) fun r s' hq=>?_);obtain⟨rfl,h2,h3,h4⟩:=hq;exact⟨.inl ⟨.bool true, .bool true,[],rfl,fun _=>rfl, .bool true,ziz l _,fun _=>⟨List.Pairwise.nil,fun _ hm=>(nomatch hm)⟩⟩,h2,h3,h4⟩
end Att
namespace L2
open PySem PySem.Spec PyProof.Rows
theorem zgs:∀{vs:List Value}{ns:List Int},IntsAre vs ns→Vals (ns.map V.int) vs
 |_,_, .nil=> .nil
 |_,_, .cons n t h=> .cons ⟨t,rfl⟩ (zgs h)
noncomputable def zql (H:Hp):Prop:=∀b,H b=none∨ ∃o xs,H b=some (.frz o (.lst xs))
theorem zkM{P:Program}{w:World}{K:PySem.W.Frag}{mg mb:Str→Option Value}{CX:CXT}{k:Nat}{fa a:Addr}{fd:FuncData}{x:Str}{sp:Sp}{s₁:Shared}{vs:List Value}{ns:List Int}
  (KX:K.In s₁.heap) (hns:s₁.heap.Ns mainGlobals mg) (hb:s₁.heap.Ns builtinsNs mb) (hbb:∀x:Str,x≠ "__name__" →mb x=bootBuiltins x) (hlim:s₁.heap.NoLimit) (hg:s₁.gens= #[])
  (ha:s₁.heap.get? a=some { cls:= .type "list",data:= .seq vs.toArray }) (hi:IntsAre vs ns) (hl:ns.length≤sizeLine) (hr:Room k callerA)
  (F:∀base:Heap,K.In base→base.Ns mainGlobals mg→FnOk P w K mg base CX k fa fd [x] sp) (hbind:∀(s:Shared) (u:Value),BindsTo s fd ⟨[u],[]⟩ [(x,u)])
  (hsp:∀H:Hp,zql H→SqL K H a (ns.map V.int)→sp [.ref a] H (fun v _=>v= .bl true) fun _ _ _=>False)
  (hCX:∀H e s',CX [] H s₁ (fun _ _ _=>False) e s'→False) :
  codeAny (model P w) callerA (.call (.ref fa) ⟨[.ref a],[]⟩) (fun r s'=>r= .ok (.ret (.bool true))∧OldK s₁.heap s'.heap∧s'.os=s₁.os∧AllBare s'.gens) s₁:=by
 have rv:=zgs hi;have lenV:=hi.length;have core:∀H:Hp,zql H→SqL K H a (ns.map V.int)→HOk P w H s₁.heap→(∀b,H b≠none→b=a)→(H a≠none→K.lookup a=none)→
   codeAny (model P w) callerA (.call (.ref fa) ⟨[.ref a],[]⟩) (fun r s'=>r= .ok (.ret (.bool true))∧OldK s₁.heap s'.heap∧s'.os=s₁.os∧AllBare s'.gens) s₁:=by
  intro H hO hS hok hA hK;have base_of:∀{b:Addr}{o:Obj},s₁.heap.get? b=some o→H b=none→(zkJ s₁.heap H).get? b=some o:=fun e n=>zkT e n;have noA:∀{b:Addr}{o:Obj}{es:Array DictEntry}{ep:Nat},s₁.heap.get? b=some o→o.data= .dict es ep→H b=none:=fun {b o es ep} e d=>by
   cases q:H b with
   |none=>rfl
   |some u=>
    have e':b=a:=hA b (by rw [q];simp);subst e';rw [ha]at e;cases e;have d':Data.seq vs.toArray _=Data.dict es ep:=d;cases d'
  have nsK:∀{b:Addr}{m:Str→Option Value},s₁.heap.Ns b m→(zkJ s₁.heap H).Ns b m:=fun {b m} ⟨o,es,ep,e,d,r⟩=>⟨o,es,ep,base_of e (noA e d),d,r⟩;have hKb:K.In (zkJ s₁.heap H):=fun b o e=>base_of (KX b o e) (by
   cases q:H b with
   |none=>rfl
   |some u=>
    have e':b=a:=hA b (by rw [q];simp);subst e';rw [hK (by rw [q];simp)]at e;cases e)
  have hM:Mod K mg (zkJ s₁.heap H):=⟨hKb,nsK hns,⟨mb,nsK hb,hbb⟩,let ⟨mc,h1,h2⟩:=hlim;⟨mc,nsK h1,h2⟩⟩;have e0:Env0 P w K mg (zkJ s₁.heap H) callerA [] s₁ H:=⟨rfl,hM,fun b o e=>znH e,Nat.le_of_eq (zjz _ _),trivial,fun b hb=>absurd (show b∈([]:List Addr) from hb) (by simp),hok, .of_eq hg⟩;refine codeAny_mono ((F _ hKb (nsK hns)).run callerA [] s₁ H ⟨[.ref a],[]⟩ [.ref a] [.ref a] _ _ hr e0 (hbind s₁ (.ref a)) (.cons rfl .nil) (hsp H hO hS)) fun r s' h=>?_;cases r with
  |error e=>exact(hCX H e s' h).elim
  |ok fl=>
   cases fl with
   |next=>exact False.elim h
   |brk=>exact False.elim h
   |cont=>exact False.elim h
   |ret u=>
    obtain⟨v,H',os,bare,un,hok',r',q⟩:=h;have q':v= .bl true:=q;subst q';obtain rfl:u=Value.bool true:=r';refine⟨rfl,OldK.of_keep fun b o e=>?_,os,bare⟩;cases q:H b with
    |none=>exact un.keep b o e q (by intro z;exact absurd (show b∈([]:List Addr) from z) (by simp)) (by simp)
    |some u=>
     rcases hO b with z |⟨ob,xs,z⟩
     ·rw [q]at z;cases z
     ·have z2:=un.frzs b ob _ z;obtain⟨e1,_⟩:=hok b _ z;obtain⟨e2,_⟩:=hok' b _ z2;rw [e]at e1;cases e1;exact e2
 cases hk:K.lookup a with
 |some o=>
  have e:=KX a o hk;rw [ha]at e;cases e;refine core (fun _=>none) (fun _=> .inl rfl) (.inr ⟨_,vs.toArray,_,hk,rfl,rfl,rfl,by rw [List.size_toArray,lenV];exact hl,by simpa using rv⟩) (fun b u z=>by have z':(none:Option HO)=some u:=z;cases z') (fun b z=>absurd rfl z) fun z=>absurd rfl z
 |none=>
  refine core (fun b=>if b=a then some (.frz { cls:= .type "list",data:= .seq vs.toArray } (.lst (ns.map V.int))) else none) (fun b=>?_) (.inl (.inr ⟨{ cls:= .type "list",data:= .seq vs.toArray },if_pos rfl⟩)) (fun b u z=>?_) (fun b z=>?_) fun _=>hk
  ·by_cases hb:b=a
   ·exact .inr ⟨_,_,if_pos hb⟩
   ·exact .inl (if_neg hb)
  ·by_cases hb:b=a
   ·have z':=(if_pos hb).symm.trans z;cases z';subst hb;exact⟨ha,by rw [List.length_map];exact hl,vs,_,rv,ha⟩
   ·have z':=(if_neg hb).symm.trans z;cases z'
  ·by_cases hb:b=a
   ·exact hb
   ·exact absurd (if_neg hb) z
theorem zmU{l:PySem.W.OpenLaw}{n k:Nat}{q:Program}{loose:List Str}{XP:(Str→Option Value)→Heap→Prop}{YP:World→Heap→Prop}{d:DefRec}{K:Params→PySem.W.Frag}{CX:World→CXT}{sp:World→Sp}{x:Str}
  (hn:l.most=some n) (hn2:n≤sizeLine) (hdf:d.params.defaults=[]) (hr:Room k callerA)
  (hY:∀(w:World) (h:Heap),YP w h→(K w.params).In h)
  (F:∀(w:World) (mg:Str→Option Value) (fa:Addr) (h:Heap),(K w.params).In h→h.Ns mainGlobals mg→mg d.name=some (.ref fa)→
   ∃fd:FuncData,(∀(s:Shared) (u:Value),BindsTo s fd ⟨[u],[]⟩ [(x,u)])∧
    ∀base:Heap,(K w.params).In base→base.Ns mainGlobals mg→FnOk l.prog w (K w.params) mg base (CX w) k fa fd [x] (sp w))
  (hsp:∀(w:World) (H:Hp) (a:Addr) (ns:List Int),ns.length≤n→zql H→SqL (K w.params) H a (ns.map V.int)→sp w [.ref a] H (fun v _=>v= .bl true) fun _ _ _=>False)
  (hCX:∀(w:World) (H:Hp) (s:Shared) (e:Value) (s':Shared),CX w [] H s (fun _ _ _=>False) e s'→False) :
  PySem.W.WalkO q loose XP YP l.row.toRowW d [] (fun f vs=>PySem.call f vs):=by
 refine Att.attach_call hn hdf fun w s₀ s₁ mg mb fa o pm cd doc a vs ns G Y ho hd hcd hmg hobj hints hlen hg=>?_;have KX:=hY w _ Y;obtain⟨fd,hb,hF⟩:=F w mg fa _ KX G.T.g hmg;exact zkM KX G.T.g G.T.b G.T.builtins G.T.nolimit hg hobj hints (Nat.le_trans hlen hn2) hr hF hb (fun H hO hS=>hsp w H a ns hlen hO hS) fun H e s'=>hCX w H s₁ e s'
noncomputable def zeb (s:Stmt) (j:Nat):Stmt:=match s with
 | .ClassDef _ _ _ body _ _ _ _ _ _ _=>body.getD j (.Pass ⟨0,0,0,0⟩)
 |_=> .Pass ⟨0,0,0,0⟩
noncomputable def zdu (s:Stmt):Arguments:=match s with
 | .FunctionDef _ a _ _ _ _ _ _ _ _=>a
 |_=>{ posonlyargs:=[],args:=[],vararg:=none,kwonlyargs:=[],kw_defaults:=[],kwarg:=none,defaults:=[] }
noncomputable def zcW (s:Stmt):List Stmt:=match s with
 | .FunctionDef _ _ b _ _ _ _ _ _ _=>b
 |_=>[]
noncomputable def zaj (s:Stmt):Scope:=match s with
 | .FunctionDef _ _ _ _ _ _ sc _ _ _=>sc
 |_=>{ kind:= .function,names:=[],isGenerator:=false,isCoroutine:=false }
structure Fun (K:PySem.W.Frag) (x qual:Str) (st:Stmt) (f:Addr) (fd:FuncData):Prop where
  ex:∃(oc:Value) (od:Option Addr) (kV doc pm:Value) (an:Option Addr) (cdv ct:Value) (osl:Array (Option Value)),
    fd=PySem.W.fnOf x qual (zdu st) (zcW st) (zaj st) .none kV doc pm an cdv ct∧K.lookup f=some ⟨oc,od, .func fd,osl⟩∧PySem.W.codeIn K cdv qual=true
  kp:PySem.W.keepIn K (.ref f)=true
section
variable {K:PySem.W.Frag}
theorem Fun.binds{x qual:Str}{st:Stmt}{f:Addr}{fd:FuncData}{ps:List Str}(F:Fun K x qual st f fd)
  (h:∀(kV doc pm:Value) (an:Option Addr) (cdv ct:Value) (us:List Value),us.length=ps.length→bindArgs (PySem.W.fnOf x qual (zdu st) (zcW st) (zaj st) .none kV doc pm an cdv ct) ⟨us,[]⟩=pure (ps.zip us)):Binds K fd ps []:=by
 obtain⟨oc,od,kV,doc,pm,an,cdv,ct,osl,rfl,lk,hcd⟩:=F.ex;exact .all (h kV doc pm an cdv ct)
theorem zlZ{x qual:Str}{st:Stmt}{f:Addr}{oc:Value}{od an:Option Addr}{osl:Array (Option Value)}{kV doc pm cdv ct:Value}(l:K.lookup f=some ⟨oc,od, .func (PySem.W.fnOf x qual (zdu st) (zcW st) (zaj st) .none kV doc pm an cdv ct),osl⟩)
  (c:PySem.W.codeIn K cdv qual=true) (k:PySem.W.keepIn K (.ref f)=true):Fun K x qual st f (PySem.W.fnOf x qual (zdu st) (zcW st) (zaj st) .none kV doc pm an cdv ct):=⟨⟨oc,od,kV,doc,pm,an,cdv,ct,osl,rfl,l,c⟩,k⟩
end
section
variable {X:Cx}
theorem pv (i:Nat) {x:Str}{pos:Pos}(hN:X.N[i]? =some x:=by rfl) (hv:Vis X.env.scope x:=by first |exact Or.inl rfl |exact Or.inr (Or.inl rfl) |exact Or.inr (Or.inr rfl)) (hd:(x == ("__debug__" :Str))=false:=by decide)
  (hcd:(x == ("__classdict__" :Str))=false:=by decide):PE X (.Name x pos) (zrL i):=zmi hN hv hd hcd
end
theorem zrP{A B:Prop}(h:B):if false=true then A else B:=by
 rw [if_neg Bool.false_ne_true];exact h
theorem zsv{A B:Prop}(h:A):if true=true then A else B:=by
 rw [if_pos rfl];exact h
noncomputable def Same (H H':Hp):Prop:=∀b o,H b=some o→H' b=some o
theorem Same.trans{H H1 H2:Hp}(a:Same H H1) (b:Same H1 H2):Same H H2:=fun c o h=>b c o (a c o h)
section
variable {κ:Type} [DecidableEq κ]
theorem RelO.getD{o:Option V}{u:Option Value}{d:V}{d':Value}(r:RelO o u) (rd:RelV d d'):RelV (o.getD d) (u.getD d'):=by
 cases o with
 |none=>cases u with
  |none=>exact rd
  |some _=>exact(show False from r).elim
 |some _=>cases u with
  |none=>exact(show False from r).elim
  |some _=>exact r
theorem KV.length{kvs:List (κ×V)}{vs:List (κ×Value)}(r:KV kvs vs):kvs.length=vs.length:=Paired.length r
end
end L2
namespace Att
open PySem PySem.W PySem.Calls PyProof.Rows
end Att
namespace L2
open PySem PySem.Spec PyProof.Rows
section
variable {prog:Program}{w:World}{A:Around}{R:Result→Shared→Prop}{s:Shared}
theorem zfz{elt target iter:Expr}{ifs:List Expr}{scope:Scope}{pos:Pos}{it acc:Value}{env:Env}(I:Nat→Shared→Prop)
  (turn:∀n s,I n s→wpAny (model prog w) A (pyNext it) (fun r s₁=>match r with
   |none=>R (.ok .next) s₁
   |some v=>wpAny (model prog w) A (letOwnedTupleGo target it v) (fun _ s₀=>wpAny (model prog w) A (assign target env v) (fun _ s₂=>
     wpAny (model prog w) A (forIn ifs true fun c r=>if r=true then do let ok ←isTrue c env (eval c env);pure (ForInStep.yield ok) else pure (ForInStep.yield r)) (fun ok s₃=>
      if ok=true then wpAny (model prog w) A (eval elt env) (fun x s₄=>
       wpAny (model prog w) A (call (.builtin "list.append") [acc,x]) (fun _ s₅=>∃m,m<n∧I m s₅) (fun _ _=>False) s₄) (fun _ _=>False) s₃
      else ∃m,m<n∧I m s₃) (fun _ _=>False) s₂) (fun _ _=>False) s₀) (fun _ _=>False) s₁) (fun _ _=>False) s)
  (n:Nat) (h:I n s) :
  codeAny (model prog w) A (.compLoop (.ListComp elt [⟨target,iter,ifs,0⟩] scope pos) 0 it acc env) R s:=by
 refine codeAny_loop rfl I (fun n s hI=>?_) n h;show wpAny _ A ((compTurn (.ListComp elt [⟨target,iter,ifs,0⟩] scope pos) 0 it acc env).onRaise (fun x=>do noteFrame x env;theTreesLotGoes x)) _ _ s;refine wpAny_noted ?_;rw [compTurn_list];refine wpAny_bind (wpAny_standAt (wpAny_bind (wpAny_mono (turn n s hI) (fun r s₁ h₁=>?_) fun _ _ h'=>h'.elim)));cases r with
 |none=>exact wpAny_pure h₁
 |some v=>
  refine wpAny_bind (wpAny_mono h₁ (fun _ s₀ h₀=>?_) fun _ _ h'=>h'.elim);refine wpAny_bind (wpAny_mono h₀ (fun _ s₂ h₂=>wpAny_bind (wpAny_mono h₂ (fun ok s₃ h₃=>?_) fun _ _ h'=>h'.elim)) fun _ _ h'=>h'.elim);cases ok with
  |false=>exact wpAny_pure ⟨rfl,h₃⟩
  |true=>
   exact wpAny_bind (wpAny_bind (wpAny_mono h₃ (fun x s₄ h₄=>wpAny_bind (wpAny_mono h₄ (fun _ s₅ h₅=>wpAny_pure (wpAny_pure ⟨rfl,h₅⟩)) fun _ _ h'=>h'.elim)) fun _ _ h'=>h'.elim))
end
noncomputable def zei (cells:List (Str×Addr)):List (Str×NameKind)→List (Str×Addr)→List (Str×Addr)
 | [],acc=>acc
 | (n,k)::r,acc=>if(k == NameKind.free)=true then zei cells r ((n,(cells.lookup n).getD 0)::acc) else zei cells r acc
theorem zia{scope:Scope}{env:Env}(h:∀y∈scope.names,y.2= .free→ ∃c,env.cells.lookup y.1=some c) :
  closureFor scope env=pure (zei env.cells scope.names []):=by
 have go:∀(l:List (Str×NameKind)) (acc:List (Str×Addr)),(∀y∈l,y.2= .free→ ∃c,env.cells.lookup y.1=some c)→
   (forIn l acc fun(x:Str×NameKind) (cs:List (Str×Addr))=>(if(x.2 == NameKind.free)=true then(do let a ←cellOf env x.1;pure (ForInStep.yield ((x.1,a)::cs))) else pure (ForInStep.yield cs):Sem (ForInStep (List (Str×Addr)))))=(pure (zei env.cells l acc):Sem (List (Str×Addr))):=by
  intro l
  induction l with
  |nil=>intro acc _;rfl
  |cons x l ih=>
   intro acc hl;obtain⟨n,k⟩:=x;have hr:=fun y hy=>hl y (List.mem_cons_of_mem _ hy);rw [List.forIn_cons];by_cases hk:k= .free
   ·subst hk;obtain⟨c,hc⟩:=hl (n, .free) List.mem_cons_self rfl;have hc':env.cells.lookup n=some c:=hc;have e:cellOf env n=pure c:=by unfold cellOf;rw [hc']
    have e2:zei env.cells ((n,NameKind.free)::l) acc=zei env.cells l ((n,c)::acc):=by
     show(if(NameKind.free == NameKind.free)=true then zei env.cells l ((n,(env.cells.lookup n).getD 0)::acc) else zei env.cells l acc)=_;rw [if_pos (by rfl),hc'];rfl
    dsimp only;rw [if_pos (by rfl),e,pure_bind,pure_bind,e2];exact ih _ hr
   ·have hb:¬(k == NameKind.free)=true:=by simpa using hk
    have e2:zei env.cells ((n,k)::l) acc=zei env.cells l acc:=by
     show(if(k == NameKind.free)=true then zei env.cells l ((n,(env.cells.lookup n).getD 0)::acc) else zei env.cells l acc)=_;rw [if_neg hb]
    dsimp only;rw [if_neg hb,pure_bind,e2];exact ih _ hr
 have q:=go scope.names [] h;unfold closureFor
 first
  |exact(bind_pure _).trans q
  | (simp only[bind_pure];exact q)
  | (simp only[pure_bind,bind_assoc,bind_pure];exact q)
theorem zfk{cells:List (Str×Addr)}{x:Str}{c:Addr}:∀(l:List (Str×NameKind)) (acc:List (Str×Addr)),(∀y∈l,y.2= .free→ ∃c,cells.lookup y.1=some c)→
  (zei cells l acc).lookup x=some c→acc.lookup x=some c∨cells.lookup x=some c
 | [],acc,_,h=> .inl h
 | (n,k)::r,acc,hl,h=>by
  have hr:=fun y hy=>hl y (List.mem_cons_of_mem (n,k) hy);by_cases hk:k= .free
  ·subst hk;have h':(zei cells r ((n,(cells.lookup n).getD 0)::acc)).lookup x=some c:=h;rcases zfk r _ hr h' with q |q
   ·rw [List.lookup_cons]at q;cases e:x == n with
    |true=>
     rw [e]at q;obtain⟨d,hd⟩:=hl (n, .free) List.mem_cons_self rfl;have hd':cells.lookup n=some d:=hd;have e1:x=n:=eq_of_beq e;rw [hd']at q;have q':d=c:=Option.some.inj q;exact .inr (by rw [e1,hd',q'])
    |false=>
     rw [e]at q;exact .inl q
   ·exact .inr q
  ·have hb:¬(k == NameKind.free)=true:=by simpa using hk
   have h':(if(k == NameKind.free)=true then zei cells r ((n,(cells.lookup n).getD 0)::acc) else zei cells r acc).lookup x=some c:=h;rw [if_neg hb]at h';exact zfk r acc hr h'
theorem zdL{cells:List (Str×Addr)}{x:Str}:∀(l:List (Str×NameKind)) (acc:List (Str×Addr)),((x,NameKind.free)∈l∨ ∃c,acc.lookup x=some c)→ ∃c,(zei cells l acc).lookup x=some c
 | [],acc,h=>by
  rcases h with h |h
  ·cases h
  ·exact h
 | (n,k)::r,acc,h=>by
  by_cases hk:k= .free
  ·subst hk;refine zdL r ((n,(cells.lookup n).getD 0)::acc) ?_;cases e:x == n with
   |true=>exact .inr ⟨_,by rw [List.lookup_cons,e]⟩
   |false=>
    rcases h with h |⟨c,h⟩
    ·rcases List.mem_cons.mp h with q |q
     ·have:x=n:=congrArg Prod.fst q;rw [this]at e;simp at e
     ·exact .inl q
    ·exact .inr ⟨c,by rw [List.lookup_cons,e];exact h⟩
  ·have hb:¬(k == NameKind.free)=true:=by simpa using hk
   show ∃c,(if(k == NameKind.free)=true then zei cells r ((n,(cells.lookup n).getD 0)::acc) else zei cells r acc).lookup x=some c;rw [if_neg hb];refine zdL r acc ?_;rcases h with h |h
   ·rcases List.mem_cons.mp h with q |q
    ·exact absurd (congrArg Prod.snd q).symm hk
    ·exact .inl q
   ·exact .inr h
theorem zbM{env:Env}{x:Str}{k:NameKind}:∀{names:List (Str×NameKind)},(∀y∈names,y.2≠ .cell)→
  (names.map fun(n,k)=>if(k == NameKind.free&&env.scope.kind == .function&&env.kindOf n == some .cell) then(n,NameKind.cell) else(n,k)).lookup x=some k→(k= .cell∨k= .free)→(x,NameKind.free)∈names
 | [],_,h,_=>by simp at h
 | (n,j)::r,hc,h,hk=>by
  have h':List.lookup x ((if(j == NameKind.free&&env.scope.kind == .function&&env.kindOf n == some .cell)=true then(n,NameKind.cell) else(n,j)) ::
   (r.map fun(n,k)=>if(k == NameKind.free&&env.scope.kind == .function&&env.kindOf n == some .cell) then(n,NameKind.cell) else(n,k)))=some k:=h
  have hr:=fun y hy=>hc y (List.mem_cons_of_mem (n,j) hy);have hj:j≠ .cell:=hc (n,j) List.mem_cons_self;cases e:x == n with
  |true=>
   have e1:x=n:=eq_of_beq e;subst e1;by_cases c:(j == NameKind.free&&env.scope.kind == .function&&env.kindOf x == some .cell)=true
   ·have c1:(j == NameKind.free)=true:=by
     cases q:(j == NameKind.free) with
     |true=>rfl
     |false=>rw [q]at c;simp at c
    have c2:j= .free:=by simpa using c1
    rw [c2];exact List.mem_cons_self
   ·rw [if_neg c]at h';simp only[List.lookup_cons,beq_self_eq_true]at h';have h2:j=k:=Option.some.inj h';rcases hk with z |z
    ·exact absurd (h2.trans z) hj
    ·rw [h2,z];exact List.mem_cons_self
  |false=>
   by_cases c:(j == NameKind.free&&env.scope.kind == .function&&env.kindOf n == some .cell)=true
   ·rw [if_pos c]at h';simp only[List.lookup_cons,e]at h';exact List.mem_cons_of_mem _ (zbM hr h' hk)
   ·rw [if_neg c]at h';simp only[List.lookup_cons,e]at h';exact List.mem_cons_of_mem _ (zbM hr h' hk)
theorem zcz{env:Env}{x:Str}:∀{names:List (Str×NameKind)},names.lookup x=some .free→
  (names.map fun(n,k)=>if(k == NameKind.free&&env.scope.kind == .function&&env.kindOf n == some .cell) then(n,NameKind.cell) else(n,k)).lookup x=some .cell∨
  (names.map fun(n,k)=>if(k == NameKind.free&&env.scope.kind == .function&&env.kindOf n == some .cell) then(n,NameKind.cell) else(n,k)).lookup x=some .free
 | [],h=>by simp at h
 | (n,j)::r,h=>by
  show List.lookup x ((if(j == NameKind.free&&env.scope.kind == .function&&env.kindOf n == some .cell)=true then(n,NameKind.cell) else(n,j)) ::
   (r.map fun(n,k)=>if(k == NameKind.free&&env.scope.kind == .function&&env.kindOf n == some .cell) then(n,NameKind.cell) else(n,k)))=_∨
   List.lookup x ((if(j == NameKind.free&&env.scope.kind == .function&&env.kindOf n == some .cell)=true then(n,NameKind.cell) else(n,j)) ::
   (r.map fun(n,k)=>if(k == NameKind.free&&env.scope.kind == .function&&env.kindOf n == some .cell) then(n,NameKind.cell) else(n,k)))=_
  cases e:x == n with
  |true=>
   simp only[List.lookup_cons,e]at h;have h2:j= .free:=Option.some.inj h;subst h2;by_cases c:(NameKind.free == NameKind.free&&env.scope.kind == .function&&env.kindOf n == some .cell)=true
   ·rw [if_pos c];simp only[List.lookup_cons,e];exact .inl trivial
   ·rw [if_neg c];simp only[List.lookup_cons,e];exact .inr trivial
  |false=>
   simp only[List.lookup_cons,e]at h;by_cases c:(j == NameKind.free&&env.scope.kind == .function&&env.kindOf n == some .cell)=true
   ·rw [if_pos c];simp only[List.lookup_cons,e];exact zcz h
   ·rw [if_neg c];simp only[List.lookup_cons,e];exact zcz h
noncomputable def zaV (X:Cx) (scope:Scope) (N:List Str) (s:Shared) (H:Hp) (fp:List Addr) (pins:List (Addr×Obj)):Cx:=
 { X with N:=N,s₀:=s,H₀:=H,env:=compEnvC scope (zei X.env.cells scope.names []) s.heap.objs.size X.env,outer:=X.stack,stack:=X.stack,ex:=fp,fn:=fun _=>false,pn:=X.pn++pins,xe:=fun _ _=>False }
structure CompSc (X:Cx) (scope:Scope) (N:List Str) (k:Nat) (fr:List Nat):Prop where
  kind:scope.kind= .function
  nd:N.Nodup
  len:N.length=k+fr.length
  cell:(scope.names.all fun y=>y.2 != NameKind.cell)=true
  loc:(scope.names.all fun y=>y.2 != NameKind.local || scope.names.lookup y.1 == some NameKind.local)=true
  free:(scope.names.all fun y=>y.2 != NameKind.free || X.env.kindOf y.1 == some NameKind.cell || X.env.kindOf y.1 == some NameKind.free)=true
  frs:((N.drop k).all fun x=>scope.names.lookup x == some NameKind.free)=true
  pl:N.drop k=fr.map fun j=>X.N.getD j Str.empty
  plen:(fr.all fun j=>decide (j<X.N.length))=true
noncomputable def zdX (σ:St) (fr:List Nat):St:=fr.map fun j=>(σ[j]?).join
noncomputable def zhN (σ:St) (k:Nat) (fr:List Nat):St:=List.replicate k none++zdX σ fr
section
variable {X:Cx}{scope:Scope}{N:List Str}{k:Nat}{fr:List Nat}
theorem CompSc.cell' (S:CompSc X scope N k fr):∀y∈scope.names,y.2≠ .cell:=fun y hy=>by
 have q:=List.all_eq_true.mp S.cell y hy;simpa using q
theorem CompSc.loc' (S:CompSc X scope N k fr):∀y∈scope.names,y.2= .local→scope.names.lookup y.1=some .local:=fun y hy e=>by
 have q:=List.all_eq_true.mp S.loc y hy;rw [e]at q;simpa using q
theorem CompSc.kinds (S:CompSc X scope N k fr):∀y∈scope.names,y.2= .free→X.env.kindOf y.1=some .cell∨X.env.kindOf y.1=some .free:=fun y hy e=>by
 have q:=List.all_eq_true.mp S.free y hy;rw [e]at q;simpa using q
theorem CompSc.hasCell (S:CompSc X scope N k fr) (ok:X.Ok):∀y∈scope.names,y.2= .free→ ∃c,X.env.cells.lookup y.1=some c:=fun y hy e=>ok.has y.1 (S.kinds y hy e)
theorem CompSc.sub (S:CompSc X scope N k fr) (ok:X.Ok) {x:Str}{c:Addr}(h:(zei X.env.cells scope.names []).lookup x=some c):X.env.cells.lookup x=some c:=by
 rcases zfk scope.names [] (S.hasCell ok) h with q |q
 ·simp at q
 ·exact q
end
section
variable {X:Cx}{pins:List (Addr×Obj)}{σ:St}{H:Hp}{s:Shared}{scope:Scope}{N:List Str}{k:Nat}{fr:List Nat}{fp:List Addr}
theorem znM (I:Inv X pins σ H s) (S:CompSc X scope N k fr) (hfp:∀b∈fp,zfo X pins H b) (hob:∀b∈fp,∃o,s.heap.get? b=some o):(zaV X scope N s H fp pins).Ok where
  mod:=I.ok.mod
  kind:=S.kind
  glob:=I.ok.glob
  blt:=I.ok.blt
  above:=Nat.le_refl _
  inj:=fun x y c h1 h2=>I.ok.inj x y c (S.sub I.ok h1) (S.sub I.ok h2)
  has:=fun x hx=>zdL scope.names [] (.inl (by
    rcases hx with hx |hx
    · exact zbM S.cell' hx (.inl rfl)
    · exact zbM S.cell' hx (.inr rfl)))
  cab:=fun x c h _=>absurd h (by show ¬(false=true);decide)
  hd:=I.ok.hd
  frames:=I.ok.frames
  stk:= .inl rfl
  exf:=fun b hb=>⟨by
    obtain⟨o,e⟩:=hob b hb;exact Nat.ne_of_lt (Heap.lt_size e),fun x c h=>(hfp b hb).2.2.2.2.1 x c (S.sub I.ok h)⟩
  bs:=I.bs
  bsz:=Nat.le_trans I.ok.bsz I.sz
  noex:=fun b o e hb=>by
    rcases(hfp b hb).2.2.2.1 with z |z
    · exact I.ok.noex b o e z
    · exact absurd (Nat.lt_of_lt_of_le (Heap.lt_size (I.ok.bs b o e).1) z) (Nat.lt_irrefl _)
  exfs:=fun b hb z=>by
    rcases List.mem_cons.mp (I.stkSub b z) with q |q
    · exact(hfp b hb).2.1 q
    · exact(hfp b hb).2.2.1 q
  funs:=I.stack
  frf:=I.stkFree
theorem znN (I:Inv X pins σ H s) (S:CompSc X scope N k fr) {H':Hp}{b:Addr}(hb:b∈fp) (hf:zfo X pins H b) (hob:∃o,s.heap.get? b=some o) (hn:H' b=none):zfo (zaV X scope N s H fp pins) [] H' b:=by
 refine⟨hn,?_,fun z=>?_, .inl hb,fun x c h=>hf.2.2.2.2.1 x c (S.sub I.ok h),fun p hp=>?_⟩
 ·obtain⟨o,e⟩:=hob;exact Nat.ne_of_lt (Heap.lt_size e)
 ·rcases List.mem_cons.mp (I.stkSub b z) with q |q
  ·exact hf.2.1 q
  ·exact hf.2.2.1 q
 ·rcases List.mem_append.mp hp with z |z
  ·exact hf.2.2.2.2.2 p z
  ·cases z
theorem zhZ{j:Nat}{v:V}(h:(zdX σ fr)[j]? =some (some v)):∃i,fr[j]? =some i∧σ[i]? =some (some v):=by
 unfold zdX at h;rw [List.getElem?_map]at h;cases e:fr[j]? with
 |none=>rw [e]at h;cases h
 |some i=>
  rw [e]at h;have h':(σ[i]?).join=some v:=Option.some.inj h;refine⟨i,rfl,?_⟩;cases q:σ[i]? with
  |none=>rw [q]at h';cases h'
  |some o=>
   rw [q]at h';have h2:o=some v:=h';rw [h2]
theorem zkP (I:Inv X pins σ H s) (S:CompSc X scope N k fr) (hfp:∀b∈fp,zfo X pins H b) (hob:∀b∈fp,∃o,s.heap.get? b=some o) {h1:Heap}{tk:Nat}{m:Str→Option Value}
    (hns:h1.Ns s.heap.objs.size m) (hk:∀b o,s.heap.get? b=some o→h1.get? b=some o):Inv (zaV X scope N s H fp pins) [] (zhN σ k fr) H { s with heap:=h1,toks:=tk } where
  ok:=znM I S hfp hob
  os:=rfl
  bare:=I.bare
  base:=Un.kept hk
  loc:=⟨m,hns,fun i x v e1 e2 e3=>by
    have e2':(List.replicate k (none:Option V)++zdX σ fr)[i]? =some (some v):=e2;have hi:k≤i:=by
      refine Nat.le_of_not_lt fun z=>?_;rw [List.getElem?_append_left (by simpa using z),List.getElem?_replicate]at e2';split at e2'<;>cases e2'
    rw [List.getElem?_append_right (by simpa using hi),List.length_replicate]at e2';obtain⟨j,f1,f2⟩:=zhZ e2';have e1':N[i]? =some x:=e1;have d1:(N.drop k)[i - k]? =some x:=by
      rw [List.getElem?_drop];have:k+(i - k)=i:=by omega
      rw [this];exact e1'
    have d2:=d1;rw [S.pl,List.getElem?_map,f1]at d2;have d3:X.N.getD j Str.empty=x:=Option.some.inj d2;have jl:j<X.N.length:=of_decide_eq_true (List.all_eq_true.mp S.plen j (List.mem_of_getElem? f1));have d4:X.N[j]? =some x:=by
      rw [List.getD_eq_getElem?_getD,List.getElem?_eq_getElem jl]at d3;rw [List.getElem?_eq_getElem jl];exact congrArg some d3
    have fk:scope.names.lookup x=some .free:=by
      have q:=List.all_eq_true.mp S.frs x (List.mem_of_getElem? d1);simpa using q
    have hmem:(x,NameKind.free)∈scope.names:=PySem.mem_of_lookup fk;have kd:=S.kinds _ hmem rfl;have vis:Vis X.env.scope x:=by
      rcases kd with z |z
      · exact .inr (.inl z)
      · exact .inr (.inr z)
    obtain⟨m0,_,hl⟩:=I.loc;obtain⟨u,ru,lk⟩:=hl j x v d4 f2 vis;refine⟨u,ru, .inr ⟨zcz fk,?_⟩⟩;have kd':X.env.kindOf x=some .cell∨X.env.kindOf x=some .free:=kd;rcases lk with⟨z,_⟩ |⟨_,c,hc,hcell⟩
    · rcases kd' with q |q<;>(rw [z]at q;cases q)
    · obtain⟨c',hc'⟩:=zdL (cells:=X.env.cells) scope.names [] (.inl hmem);have e:=S.sub I.ok hc';rw [hc]at e;cases e;exact⟨c,hc',hcell.keeps hk⟩⟩
  cell:=fun x c h=>by
    obtain⟨v,z⟩:=I.cell x c (S.sub I.ok h);exact⟨v,z.keeps hk⟩
  free:=I.hok.fresh (Nat.le_refl _)
  freeC:=fun x c h=>I.freeC x c (S.sub I.ok h)
  pin:=fun p hp=>by
    have hp':p∈X.pn++pins:=by
      rcases List.mem_append.mp hp with z |z
      · exact z
      · cases z
    obtain⟨e,n,ne,nf,d⟩:=I.pin p hp';refine⟨hk _ _ e,n,Nat.ne_of_lt (Heap.lt_size e),fun z=>?_,d⟩;rcases List.mem_cons.mp (I.stkSub p.1 z) with q |q
    · exact ne q
    · exact nf q
  hok:=I.hok.kept hk
  len:=by
    show(List.replicate k (none:Option V)++zdX σ fr).length=N.length;rw [List.length_append,List.length_replicate,S.len];unfold zdX;rw [List.length_map]
theorem zjs{σ':St}{H':Hp}{s':Shared}{h':Heap}(I:Inv X pins σ H s) (hfp:∀b∈fp,zfo X pins H b) (J:Inv (zaV X scope N s H fp pins) [] σ' H' s') (sb:Heap.SameBut s.heap.objs.size s'.heap h'):Inv X pins σ H' { s' with heap:=h' }:=by
 have neC:∀b o,s.heap.get? b=some o→b≠s.heap.objs.size:=fun b o e=>Nat.ne_of_lt (Heap.lt_size e);have frC:H' s.heap.objs.size=none:=J.free;refine Inv.call' (s':={ s' with heap:=h' }) (ch:=fp) I J.os ⟨fun b o e n hf hx=>?_,fun b o e n hf hx=>?_,fun b o e n hx=>J.base.free b o e n hx,fun b o e hx=>?_,J.base.tups,J.base.frzs,J.base.tbls⟩ (fun b o e=>?_) J.bare fun b hb=>⟨(hfp b hb).2.2.2.1,(hfp b hb).2.1,(hfp b hb).2.2.2.2.1,(hfp b hb).2.2.2.2.2⟩
 ·exact(sb.2 b (neC b o e)).trans (J.base.keep b o e n hf hx)
 ·obtain⟨sl,q⟩:=J.base.slot b o e n hf hx;exact⟨sl,(sb.2 b (neC b o e)).trans q⟩
 ·obtain⟨o',q⟩:=J.base.there b o e hx;exact⟨o',(sb.2 b (neC b o e)).trans q⟩
 ·refine(J.hok b o e).stay (fun c v hc q=>(sb.2 c ?_).trans q) (fun _ q=>q) fun _ _ q=>q;rintro rfl;rcases hc with rfl |hc
  ·rw [frC]at e;cases e
  ·rw [frC]at hc;cases hc
end
noncomputable def PTs (X:Cx) (ifs:List Expr) (t:TT):Prop:=
 ∀(pins:List (Addr×Obj)) (s:Shared) (σ:St) (H:Hp) (Q:Bool→Hp→Prop),Inv X pins σ H s→t σ H Q→
  wpAny (model X.prog X.w) X.A (forIn ifs true fun c r=>if r=true then do let ok ←isTrue c X.env (eval c X.env);pure (ForInStep.yield ok) else pure (ForInStep.yield r)) (TP X pins σ Q) X.xe s
noncomputable def zrW:TT:=fun _ H Q=>Q true H
theorem zng{X:Cx}:PTs X [] zrW:=fun _ _ _ H _ I h=>wpAny_tests_nil ⟨H,I,h⟩
noncomputable def zrA (X:Cx) (scope:Scope) (N:List Str) (tg:Expr) (ifs:List Expr) (elt:Expr) (l:Addr) (x:V) (σ:St) (H:Hp) (M:St→Hp→Prop):Prop:=
 ∀(s₀:Shared) (H₀:Hp) (fp:List Addr) (pn:List (Addr×Obj)),∃(g:TG) (tt:TT) (te:TE),PG (zaV X scope N s₀ H₀ fp pn) tg g∧PTs (zaV X scope N s₀ H₀ fp pn) ifs tt∧PE (zaV X scope N s₀ H₀ fp pn) elt te∧
  g x σ H fun σ2 H2=>tt σ2 H2 fun b H3=>if b=true then te σ2 H3 fun y H4=>∃ys,H4 l=some (.lst ys)∧ys.length<sizeLine∧M σ2 (upd H4 l (.lst (ys++[y]))) else M σ2 H3
noncomputable def zmY (X:Cx) (scope:Scope) (N:List Str) (k:Nat) (fr:List Nat) (tg:Expr) (ifs:List Expr) (elt:Expr) (σ:St) (Q:VK) (J:It) (H1:Hp):Prop:=∀l,H1 l=none→
 ∃W:Nat→Nat→St→Hp→Prop,(∃m,W 0 m (zhN σ k fr) (upd H1 l (.lst [])))∧ ∀i m σ' H',W i m σ' H'→
  (J.stop i H'∧Q (.ref l) H')∨(J.go i H'∧ ∃M:St→Hp→Prop,(∀σ'' H'',M σ'' H''→ ∃m',m'<m∧W (i+1) m' σ'' H'')∧ ∀x H2,J.yld i H' x H2→zrA X scope N tg ifs elt l x σ' H2 M)
noncomputable def zmk (X:Cx) (scope:Scope) (N:List Str) (k:Nat) (fr:List Nat) (tg:Expr) (ifs:List Expr) (elt:Expr) (wi:TI):TE:=fun σ H Q=>wi σ H fun J H1=>zmY X scope N k fr tg ifs elt σ Q J H1
theorem ziF{X:Cx}{use:Option (Value→Sem Unit)}{Qf:Value→Shared→Prop}{pins:List (Addr×Obj)}{s:Shared}{σ:St}{H:Hp}{Q:VK}{scope:Scope}{N:List Str}{k:Nat}{fr:List Nat}{tg iter elt:Expr}{ifs:List Expr}{wi:TI}{pos:Pos}(hx:X.xe=fun _ _=>False) (hc:X.calm=true) (S:CompSc X scope N k fr) (hi:PI X tg iter wi) (I:Inv X pins σ H s)
  (fin:∀{s3 s6:Shared}{H3 H5:Hp}{fp:List Addr}{σ5:St}{l:Addr}{a:Flow},Inv X pins σ H3 s3→(∀b∈fp,zfo X pins H3 b)→Inv (zaV X scope N s3 H3 fp pins) [] σ5 H5 s6→Q (.ref l) H5→compPost (model X.prog X.w) X.A X.xe use Qf (.ref l) s3.heap.objs.size (.ok a) s6)
  (h:zmk X scope N k fr tg ifs elt wi σ H Q)
  (hs:∀x,foldedSetIterable iter X.env x=pure x:=by intro _;rfl):wpAny (model X.prog X.w) X.A (comprehension (.ListComp elt [⟨tg,iter,ifs,0⟩] scope pos) scope X.env (firstIterPos [⟨tg,iter,ifs,0⟩] pos) (newList []) (firstAsync [⟨tg,iter,ifs,0⟩]) (firstIter [⟨tg,iter,ifs,0⟩] X.env) use) Qf X.xe s:=by
 refine wpAny_comprehension_free (use:=use) rfl hs (zia (S.hasCell I.ok)) S.kind S.loc' (thn (hi pins s σ H _ I h) fun v s1 h1=>thn h1 fun itv s2 h2=>?_);obtain⟨it,fp,tn,J,H2,e,I2,T,st2,f2,h2⟩:=h2;subst e;have fr2:H2 s2.heap.objs.size=none:=I2.hok.fresh (Nat.le_refl _);obtain⟨W,⟨m0,w0⟩,turn⟩:=h2 s2.heap.objs.size fr2;refine wpAny_newList ?_ (by show 0≤sizeLine;exact Nat.zero_le _);have I3:Inv X pins σ (upd H2 s2.heap.objs.size (.lst [])) { s2 with heap:=s2.heap.push { cls:= .type "list",data:= .seq ([]:List Value).toArray } }:=I2.lnew (t':=s2.toks) (ys:=[]) .nil (Nat.zero_le _);have old:∀b o,s2.heap.get? b=some o→(s2.heap.push { cls:= .type "list",data:= .seq ([]:List Value).toArray }).get? b=some o:=fun b o e=>Heap.get?_push_of_some _ e;have fpo2:∀b∈fp,∃o,s2.heap.get? b=some o:=fun b hb=>by
  obtain⟨o,e,_⟩:=T.obj _ _ st2 b hb;exact⟨o,e⟩
 have fpo:∀b∈fp,∃o,(s2.heap.push { cls:= .type "list",data:= .seq ([]:List Value).toArray }).get? b=some o:=fun b hb=>by
  obtain⟨o,e⟩:=fpo2 b hb;exact⟨o,old b o e⟩
 have f3:∀b∈fp,zfo X pins (upd H2 s2.heap.objs.size (.lst [])) b:=fun b hb=>by
  obtain⟨o,e⟩:=fpo2 b hb;refine⟨?_,(f2 b hb).2⟩;rw [zao (Nat.ne_of_lt (Heap.lt_size e))];exact(f2 b hb).1
 generalize hs3:({ s2 with heap:=s2.heap.push { cls:= .type "list",data:= .seq ([]:List Value).toArray } }:Shared)=s3 at I3⊢;have st3:tn 0 s3.heap:=by
  rw [←hs3];exact T.keep _ _ _ st2 fun b _ o e=>old b o e
 have fpo3:∀b∈fp,∃o,s3.heap.get? b=some o:=by rw [←hs3];exact fpo
 clear fpo old hs3;refine wpAny_newFunctionEnv S.cell' (by intro y hy;simp at hy) (fun h1 hns1 hsb1=>?_) S.kind;have hk1:∀b o,s3.heap.get? b=some o→h1.get? b=some o:=fun b o e=>hsb1.extBut b o (Nat.ne_of_lt (Heap.lt_size e)) (Heap.get?_push_of_some _ e);have I4:=zkP (tk:=s3.toks+([]:List (Str×Value)).length) I3 S f3 fpo3 hns1 hk1;have st4:tn 0 h1:=T.keep _ _ _ st3 fun b _ o e=>hk1 b o e;have stat:∀{H':Hp},(∀b∈fp,H' b=none)→ ∀b∈fp,zfo (zaV X scope N s3 (upd H2 s2.heap.objs.size (.lst [])) fp pins) [] H' b:=fun hn b hb=>znN I3 S hb (f3 b hb) (fpo3 b hb) (hn b hb);have loop:∀s4:Shared,s4={ s3 with heap:=h1,toks:=s3.toks+([]:List (Str×Value)).length }→
   codeAny (model X.prog X.w) X.A (.compLoop (.ListComp elt [⟨tg,iter,ifs,0⟩] scope pos) 0 (.ref it) (.ref s2.heap.objs.size) (compEnvC scope (zei X.env.cells scope.names []) s3.heap.objs.size X.env))
    (compPost (model X.prog X.w) X.A X.xe use Qf (.ref s2.heap.objs.size) s3.heap.objs.size) s4:=by
  rintro s4 rfl;refine zfz (fun n s'=>∃i σ' H',Inv (zaV X scope N s3 (upd H2 s2.heap.objs.size (.lst [])) fp pins) [] σ' H' s'∧tn i s'.heap∧(∀b∈fp,H' b=none)∧W i n σ' H') ?_ m0 ⟨0,_,_,I4,st4,fun b hb=>(f3 b hb).1,w0⟩;rintro n s5 ⟨i,σ5,H5,I5,st5,fr5,w5⟩;rcases turn i n σ5 H5 w5 with⟨stop,qn⟩ |⟨go,M,hM,step⟩
  ·refine thn (T.done (zaV X scope N s3 (upd H2 s2.heap.objs.size (.lst [])) fp pins) rfl rfl rfl hc i [] s5 σ5 H5 _ I5 (stat fr5) st5 stop) fun r s6 ⟨hr,I6⟩=>?_;subst hr;exact fin I3 f3 I6 qn
  ·refine thn (T.item (zaV X scope N s3 (upd H2 s2.heap.objs.size (.lst [])) fp pins) rfl rfl rfl hc i [] s5 σ5 H5 _ I5 (stat fr5) st5 go) fun r s6 ⟨u,hr,h6⟩=>?_;subst hr;refine thn h6 fun _ s7 ⟨x,H7,I7,r7,y7,st7,fr7⟩=>?_;have I7':=I7.pinned (stat fr7) (T.obj _ _ st7);obtain⟨g,tt,te,hg,ht,he,q⟩:=step x H7 y7 s3 (upd H2 s2.heap.objs.size (.lst [])) fp pins;have again:∀{s8:Shared}{σ8:St}{H8:Hp},Inv (zaV X scope N s3 (upd H2 s2.heap.objs.size (.lst [])) fp pins) ([]++zfx fp s7.heap) σ8 H8 s8→M σ8 H8→
     ∃m,m<n∧ ∃i σ' H',Inv (zaV X scope N s3 (upd H2 s2.heap.objs.size (.lst [])) fp pins) [] σ' H' s8∧tn i s8.heap∧(∀b∈fp,H' b=none)∧W i m σ' H':=fun {s8 σ8 H8} I8 n8=>by
    obtain⟨m',hm,w8⟩:=hM σ8 H8 n8;refine⟨m',hm,i+1,σ8,H8,I8.unpinned,T.keep _ _ _ st7 fun b hb o e=>(I8.pin (b,o) (List.mem_append_right _ (List.mem_append_right _ (zcF hb e)))).1,fun b hb=>?_,w8⟩;obtain⟨o,e,d⟩:=T.obj _ _ st7 b hb;exact(I8.pin (b,o) (List.mem_append_right _ (List.mem_append_right _ (zcF hb e)))).2.1
   refine thn (hg _ s7 σ5 H7 x u _ I7' r7 q) fun _ s8 ⟨σ8,H8,I8,q8⟩=>?_;refine thn (ht _ s8 σ8 H8 _ I8 q8) fun b s9 ⟨H9,I9,q9⟩=>?_;cases b with
   |false=>exact again I9 q9
   |true=>
    refine thn (he _ s9 σ8 H9 _ I9 q9) fun y s10 ⟨yv,H10,I10,r10,ys,hl,hz,qM⟩=>?_;exact thn (zfA _ s10 σ8 H10 (.ref s2.heap.objs.size) [yv] (.ref s2.heap.objs.size) [y] (fun _ H'=>M σ8 H') I10 rfl (.cons r10 .nil) ⟨_,ys,yv,rfl,rfl,hl,hz,qM⟩) fun _ s11 ⟨_,H11,I11,_,q11⟩=>again I11 q11
 exact codeAny_compStart_list (loop _ rfl) (T.self _ 0 _ _ _ st4 (loop _ rfl))
theorem znj{X:Cx}{scope:Scope}{N:List Str}{k:Nat}{fr:List Nat}{tg iter elt:Expr}{ifs:List Expr}{wi:TI}{pos:Pos}(hx:X.xe=fun _ _=>False) (hc:X.calm=true) (S:CompSc X scope N k fr) (hi:PI X tg iter wi)
  (hs:∀x,foldedSetIterable iter X.env x=pure x:=by intro _;rfl):PE X (.ListComp elt [⟨tg,iter,ifs,0⟩] scope pos) (zmk X scope N k fr tg ifs elt wi):=by
 intro pins s σ H Q I h;rw [eval_ListComp];refine ziF hx hc S hi I (fun {s3 s6 H3 H5 fp σ5 l a} I3 f3 I6 qn=>?_) h hs;obtain⟨m6,ns6,_⟩:=I6.loc;exact⟨m6,ns6,fun h' sb=>⟨.ref l,H5,zjs I3 f3 I6 sb,rfl,qn⟩⟩
noncomputable def Its (x:Str):It:=⟨fun i _=>i<x.cps.size,fun i H v H'=>H'=H∧ ∃c,x.cps[i]? =some c∧v= .str ⟨#[c]⟩,fun i _=>i=x.cps.size⟩
theorem zhK{P:Program}{w:World}{K:PySem.W.Frag}{tg:Expr}(it:Addr) (x:Str) (t:Tok) (ty:String)
    (hn: ["enumerate", "zip", "dict_itemiterator", "dict_reverseitemiterator", "odict_iterator", "itertools.zip_longest", "itertools.pairwise"].contains ty=false)
    (hW:∀A':Around,A'.handled=none→Walks P w A' it [it] [it] x.cps.size (SignAt x) (fun i h=>h.IsStrIter it ty x t i))
    (hself:∀(A:Around) (i:Nat) (s:Shared) (Q:Value→Shared→Prop) (E:Value→Shared→Prop),s.heap.IsStrIter it ty x t i→Q (.ref it) s→wpAny (model P w) A (pyIter (.ref it)) Q E s) :
    Turn P w K tg (Its x) [it] it (fun i h=>h.IsStrIter it ty x t i) where
  mem:=by simp
  obj:=fun i h st b hb=>by
    have e:b=it:=by simpa using hb
    subst e;obtain⟨o,e,c,d⟩:=st;exact⟨o,e,fun v z=>by rw [d]at z;cases z⟩
  keep:=fun i h h' st k=>by
    obtain⟨o,e,r⟩:=st;exact⟨o,k it (by simp) o e,r⟩
  item:=by
    intro X hP hw hK hc i pins s σ H E I hf st hg;subst hP hw hK;obtain⟨f0,f1,f2,f3,f4,f5⟩:=hf it (by simp);refine(hW X.A (I.ok.hd hc)).item i s _ _ hg st fun v h' tk hv st' kk=>?_;obtain⟨c,u,hc',rfl⟩:=hv;have I1:Inv X pins σ H { s with heap:=h',toks:=tk }:=I.turned (fun b o hb e=>kk b o (by simpa using hb) e) f0 f1 f3 f4 f5;obtain⟨o,e,c',d⟩:=id st';exact⟨_,rfl,zlp (s:={ s with heap:=h',toks:=tk }) e c' d hn ⟨.str ⟨#[c]⟩,H,I1,⟨u,rfl⟩,⟨rfl,c,hc',rfl⟩,st',fun b hb=>(hf b hb).1⟩⟩
  done:=by
    intro X hP hw hK hc i pins s σ H E I hf st hg;subst hP hw hK;obtain⟨f0,f1,f2,f3,f4,f5⟩:=hf it (by simp);have hi:i=x.cps.size:=hg;subst hi;exact(hW X.A (I.ok.hd hc)).done s _ _ st fun h' tk kk=>⟨rfl,I.turned (fun b o hb e=>kk b o (by simpa using hb) e) f0 f1 f3 f4 f5⟩
  self:=hself
noncomputable def TupsOn (H H':Hp):Prop:=∀b xs,H b=some (.tup xs)→H' b=some (.tup xs)
theorem TupsOn.trans{H H1 H2:Hp}(a:TupsOn H H1) (b:TupsOn H1 H2):TupsOn H H2:=fun c xs h=>b c xs (a c xs h)
section
variable {X:Cx}
theorem zfH:OpR X (compareOp .LtE) (fun x y H Q=>∃i j,x= .str i∧y= .str j∧Q (.bl (!decide (j.cps.toList<i.cps.toList))) H):=by
 intro pins s σ H x y v u Q I rx ry h;obtain⟨i,j,rfl,rfl,q⟩:=h;obtain⟨t,rfl⟩:=rx;obtain⟨t',rfl⟩:=ry;exact PySem.P.le_str (zmg I q rfl)
theorem zhv (a b:Nat):(([a]:List Nat)< [b])↔a<b:=by
 rw [List.cons_lt_cons_iff];constructor
 ·rintro(h |⟨_,h⟩)
  ·exact h
  ·exact absurd h (List.lt_irrefl _)
 ·exact .inl
noncomputable def rSlS:V→Option Int→Option Int→Hp→VK→Prop:=fun x lo hi H Q=>∃z,x= .str z∧z.length≤sizeLine∧Q (.str (Txt.slice z lo hi)) H
theorem sl_str:SlR X rSlS:=by
 intro pins s σ H x v vl vu lo hi sl Q I rx hs pl pu h;obtain⟨z,rfl,hz,q⟩:=h;obtain⟨t,rfl⟩:=rx;refine⟨"str",_,F.slot_str_getitem.lookup,typeIs_str _ _ _,?_⟩;obtain⟨o,ho,hc,hd⟩:=hs;have fin:∀t' k,EP X pins σ Q (.str (Txt.slice z lo hi) t') { s with toks:=k }:=fun t' k=>⟨.str _,H,I.tok _,⟨t',rfl⟩,q⟩;have le:=Nat.le_trans (Txt.slice_le z lo hi) hz;cases pl with
 |none=>
  cases pu with
  |none=>exact wpAny_getItem_str_slice (l:=none) (u:=none) (st:=none) ⟨o,ho,hc,hd⟩ rfl (post_val_or_str ⟨le,fin⟩)
  |int j u=>exact wpAny_getItem_str_slice (l:=none) (u:=some (j,u)) (st:=none) ⟨o,ho,hc,hd⟩ rfl (post_val_or_str ⟨le,fin⟩)
 |int i w=>
  cases pu with
  |none=>exact wpAny_getItem_str_slice (l:=some (i,w)) (u:=none) (st:=none) ⟨o,ho,hc,hd⟩ rfl (post_val_or_str ⟨le,fin⟩)
  |int j u=>exact wpAny_getItem_str_slice (l:=some (i,w)) (u:=some (j,u)) (st:=none) ⟨o,ho,hc,hd⟩ rfl (post_val_or_str ⟨le,fin⟩)
noncomputable def zmb (xs:List Nat) (lo hi:Option Int):List Nat:=(xs.drop (HT.sIx xs.length 0 lo)).take (HT.sIx xs.length xs.length hi - HT.sIx xs.length 0 lo)
theorem zlN (lo hi:Option Int) (n:Nat):Builtin.Str.strSliceIndices lo hi 1 n=sliceRange ((HT.sIx n 0 lo:Nat):Int) ((HT.sIx n n hi:Nat):Int) 1:=by
 have one:(1:Int) > 0:=by decide
 have a:∀(v:Option Int) (d:Nat),(match v with |none=>(d:Int) |some i=>(if(1:Int) > 0 then max 0 (min (if i<0 then i+(n:Int) else i) (n:Int)) else max (-1) (min (if i<0 then i+(n:Int) else i) ((n:Int) - 1))))=((HT.sIx n d v:Nat):Int):=by
  intro v d;cases v with
  |none=>rfl
  |some i=>
   simp only[HT.sIx,one,if_true];by_cases h:i<0
   ·simp only[h,if_true];omega
   ·simp only[h,if_false];omega
 have l:=a lo 0;have u:=a hi n;unfold Builtin.Str.strSliceIndices;simp only[one,if_true]at l u⊢
 first
  |rw [l,u]
  | (cases lo<;>cases hi<;>simp_all)
theorem zcr (z:Str) (lo hi:Option Int):(Txt.slice z lo hi).cps.toList=zmb z.cps.toList lo hi:=by
 have hn:z.length=z.cps.toList.length:=by simp [Str.length]
 have hp:(Builtin.Str.strSliceIndices lo hi 1 z.length).filterMap (z.cps[·]?)=zmb z.cps.toList lo hi:=by
  rw [zlN,sliceRange_one,pick_run,hn];rfl
 unfold Txt.slice;split
 ·rename_i h;have h1:(Builtin.Str.strSliceIndices lo hi 1 z.length).length=z.length:=by simpa using h
  rw [zlN,sliceRange_one,List.length_map,List.length_range]at h1;have le1:=HT.sIx_le z.length z.length (Nat.le_refl _) hi;unfold zmb;rw [←hn];have e0:HT.sIx z.length 0 lo=0∨z.length=0:=by omega
  have hz:z.cps.toList.length=z.length:=hn.symm;rcases e0 with e0 |e0
  ·rw [e0,List.drop_zero,List.take_of_length_le (by omega)]
  ·have:z.cps.toList=[]:=List.eq_nil_of_length_eq_zero (by omega);rw [this];simp
 ·show(List.filterMap _ _).toArray.toList=_;rw [hp]
theorem zlF (hc:X.calm=true):CallR X (.builtin "all") (fun xs H Q=>∃(p:Addr) (bs:List Bool),xs=[.ref p]∧SqL X.K H p (bs.map V.bl)∧Q (.bl (bs.all id)) H):=by
 intro pins s σ H xs us Q I r h;obtain⟨p,bs,rfl,hq,q⟩:=h;obtain⟨u,rfl,rx⟩:=zfj r;cases rx;obtain⟨its,r',pl,hz⟩:=I.list hq;have hlen:bs.length=its.length:=by have:=r'.length;rw [List.length_map]at this;exact this
 have hp:p<s.heap.objs.size:=by obtain⟨o,n,e,_⟩:=pl;exact Heap.lt_size e
 have hd:X.A.in1.handled=none:=I.ok.hd hc;have get:∀(i:Nat) (v:Value),its.toArray[i]? =some v→v= .bool (bs.getD i false):=fun i v e=>by
  have e':its[i]? =some v:=by simpa using e
  have hi:i<bs.length:=by rw [hlen];exact(List.getElem?_eq_some_iff.mp e').1
  obtain⟨u,hu,ru⟩:=r'.get (i:=i) (x:= .bl (bs.getD i false)) (by rw [List.getElem?_map,List.getElem?_eq_getElem hi,List.getD_eq_getElem?_getD,List.getElem?_eq_getElem hi];rfl);rw [e']at hu;cases hu;exact ru
 refine call_all_walk (wpAny_pyIter_list pl.isList ?_);refine⟨s.heap.objs.size,_,_,_,_,_,fun i=>bs.getD i false,rfl,Walks.list hd _ p (Nat.ne_of_lt hp) its.toArray,⟨⟨_,Heap.get?_push_size _ rfl,rfl,rfl⟩,pl.isList.push _⟩,fun i v s' Q' E' hP hQ=>?_,fun h' tk hk=>?_⟩
 ·rw [get i v hP];exact wpAny_truthy_bool hQ
 ·have e:(List.range its.toArray.size).all (fun i=>bs.getD i false)=bs.all id:=by
   rw [List.size_toArray,←hlen];have:bs=(List.range bs.length).map fun i=>bs.getD i false:=by
    apply List.ext_getElem?;intro i;rw [List.getElem?_map];by_cases hi:i<bs.length
    ·rw [List.getElem?_range hi,List.getElem?_eq_getElem hi];show some bs[i]=some (bs.getD i false);rw [List.getD_eq_getElem?_getD,List.getElem?_eq_getElem hi];rfl
    ·rw [List.getElem?_eq_none (by omega),List.getElem?_eq_none (by simpa using hi)];rfl
   conv=>rhs;rw [this]
   rw [List.all_map];rfl
  have I1:Inv X pins σ H { s with heap:=h',toks:=tk }:=I.kept fun b o e=>hk b o (fun z=>by
   have z':b=s.heap.objs.size:=by simpa using z
   rw [z']at e;exact absurd (Heap.lt_size e) (Nat.lt_irrefl _)) (Heap.get?_push_of_some _ e)
  exact⟨.bl _,H,I1,by rw [e];exact rfl,q⟩
theorem zlo:CallR X (.builtin "isinstance") (fun xs H Q=>∃x t c b,xs=[x, .ty c]∧TyOf X.K H x t∧PySem.W.kitOne X.K t (.type c)=some b∧Q (.bl b) H):=by
 intro pins s σ H xs us Q I r h;obtain⟨x,t,c,b,rfl,ty,e,q⟩:=h;obtain⟨u,v,rfl,rx,ry⟩:=zrb r;cases(show v=Value.type c from ry);exact zjj I rx ty e fun tk=>⟨.bl b,H,I.tok _,rfl,q⟩
end
section
variable {X:Cx}
theorem zcX (l:Addr) (items:Array Value) (n:Nat) (b:Addr) (items2:Array Value) (n2:Nat) (dd:Option Addr) (sl:Array (Option Value)) (hs0:¬(!items.isEmpty&&Builtin.List.listTooLong (items.size+items2.size))=true) (hs1:items.size≤sizeLine) (hs2:items.size+items2.size≤sizeLine+1) :
  Meets (Builtin.«list.extend» ⟨[.ref l, .ref b],[]⟩) (fun _ R s=>s.heap.get? l=some { cls:= .type "list",dict:=none,data:= .seq items n,slots:= #[] }∧s.heap.get? b=some { cls:= .type "tuple",dict:=dd,data:= .seq items2 n2,slots:=sl }∧R (.ok (.ret Value.none)) { s with heap:=s.heap.update l (Obj.mapSeq fun x=>x++items2),toks:=s.toks }):=
 .of_wp fun prog w A R s h=>by
  obtain⟨hp,g,d,tk,os⟩:=s;obtain⟨hl,hb,h⟩:=h;have f1:=AutoSeq1.idx_int;have f2:=AutoSeq1.sub_tuple_tuple;have f3:=AutoSeq1.sub_list_list;have f4:=AutoSeq1.sub_tuple_list;have f5:=AutoSeq1.sub_list_tuple;have hz':(items++items2).size≤sizeLine+1:=by rw [Array.size_append];exact hs2
  wp_walk using(wpAny_updateSeq hl rfl (hz:=hs1) (_hz':=hz')),AutoSeq1.wpAny_loadPart' hl,AutoSeq1.wpAny_loadPart' hb;exact⟨_,rfl,h⟩
noncomputable def zhH (K:PySem.W.Frag):V→List V→Hp→VK→Prop:=fun x vs H Q=>∃l b xs zs,x= .ref l∧vs=[.ref b]∧H l=some (.lst xs)∧SqT K H b zs∧xs.length+zs.length≤sizeLine∧Q .non (upd H l (.lst (xs++zs)))
theorem zii:MtM X "list.extend" (zhH X.K):=by
 intro pins s σ H x vs v us Q I rx rv h;obtain⟨l,b,xs,zs,rfl,rfl,hH,hB,hz,q⟩:=h;cases rx;obtain⟨u,rfl,ru⟩:=rv.one;cases ru;obtain⟨z,its,n,r,hl,e⟩:=I.lstM hH;obtain⟨its2,r2,ht,hz2⟩:=I.tuple hB;obtain⟨⟨cls,dd,data,sl⟩,e2,hc,n2,hd⟩:=ht;simp only at hc hd;subst hc hd;have hl2:=r2.length;have hsz:its.toArray.size+its2.toArray.size≤sizeLine:=by rw [List.size_toArray,List.size_toArray];omega
 have hlong:¬(!its.toArray.isEmpty&&Builtin.List.listTooLong (its.toArray.size+its2.toArray.size))=true:=by
  rw [zht hsz,Bool.and_false];exact Bool.false_ne_true
 refine call_meets F.slot_list_extend ⟨_,e,rfl⟩ F.entry_list_extend (F.args_list_extend_2 _ _)
  (zcX l its.toArray n b its2.toArray n2 dd sl hlong (by rw [List.size_toArray];omega) (by omega)) ⟨e,e2,?_⟩
 refine⟨.non,_,I.lset (its':=its++its2) hH e (by simp) (r.append r2) ?_,rfl,q⟩;rw [List.length_append];omega
noncomputable def zoz (K:PySem.W.Frag):V→List V→Hp→VK→Prop:=fun x vs H Q=>∃(z:Str) (b:Addr) (ys:List Str),x= .str z∧vs=[.ref b]∧SqL K H b (ys.map V.str)∧(ys.map (·.length)).sum+ys.length*z.length≤16777216∧Q (.str (Str.join z ys)) H
theorem znh{ys:List Str}:∀{us:List Value},Vals (ys.map V.str) us→StrsAre us ys:=by
 induction ys with
 |nil=>
  intro us r;cases r;exact .nil
 |cons y ys ih=>
  intro us r;cases r with
  |cons a b=>
   obtain⟨t,rfl⟩:=a;exact .cons y t (ih b)
theorem zmr:MtM X "str.join" (zoz X.K):=by
 intro pins s σ H x vs v us Q I rx rv h;obtain⟨z,b,ys,rfl,rfl,hB,hz,q⟩:=h;obtain⟨t,rfl⟩:=rx;obtain⟨u,rfl,ru⟩:=rv.one;cases ru;obtain⟨its,r,pl,_⟩:=I.list hB;refine join_list pl.isList (by simpa using znh r) hz fun t' k=>⟨.str (Str.join z ys),H,I.tok _,⟨t',?_⟩,q⟩;show Value.str (Builtin.Str.glued z ys) t'=_;rw [StrLaws.glued_eq_join]
noncomputable def zme:V→List V→Hp→VK→Prop:=fun x vs H Q=>∃(z y:Str) (i:Nat) (rest:List Nat),x= .str z∧vs=[.str y]∧Builtin.Str.occurrences z y 0 z.length 1=i::rest∧Q (.int i) H
theorem zlD:MtM X "str.index" zme:=by
 intro pins s σ H x vs v us Q I rx rv h;obtain⟨z,y,i,rest,rfl,rfl,ho,q⟩:=h;obtain⟨t,rfl⟩:=rx;obtain⟨u,rfl,ru⟩:=rv.one;obtain⟨t2,rfl⟩:=ru;exact SC.index ho ⟨.int i,H,I.tok _,⟨_,rfl⟩,q⟩
end
inductive W where
  |non |bl (b:Bool) |int (i:Int) |str (x:Str) |tup (ws:List W) |ref (a:Addr) |scr (ns:List Int)
inductive Ob where
  |lst (ws:List W)
  |dct (kvs:List (List Int×W))
  |dk (kvs:List (Key×W))
  |ins (cl:Str) (fs:List (Str×W))
noncomputable abbrev Sto:=Addr→Option Ob
noncomputable def put (S:Sto) (a:Addr) (o:Ob):Sto:=fun b=>if b=a then some o else S b
noncomputable def FzL (K:PySem.W.Frag) (H:Hp) (a:Addr) (xs:List V):Prop:=
 (∃o,H a=some (.frz o (.lst xs)))∨
  ∃(o:Obj) (its:Array Value) (n:Nat),K.lookup a=some o∧o.cls= .type "list" ∧o.dict=none∧o.data= .seq its n∧its.size≤sizeLine∧Vals xs its.toList
mutual
inductive Rep (K:PySem.W.Frag) (H:Hp):W→V→Prop
 |non:Rep K H .non .non
 |bl (b:Bool):Rep K H (.bl b) (.bl b)
 |int (i:Int):Rep K H (.int i) (.int i)
 |str (x:Str):Rep K H (.str x) (.str x)
 |ref (a:Addr):Rep K H (.ref a) (.ref a)
 |scr {a:Addr}{ns:List Int}:FzL K H a (ns.map V.int)→Rep K H (.scr ns) (.ref a)
 |tup {a:Addr}{vs:List V}{ws:List W}:H a=some (.tup vs)→Reps K H ws vs→Rep K H (.tup ws) (.ref a)
inductive Reps (K:PySem.W.Frag) (H:Hp):List W→List V→Prop
 |nil:Reps K H [] []
 |cons {w:W}{v:V}{ws:List W}{vs:List V}:Rep K H w v→Reps K H ws vs→Reps K H (w::ws) (v::vs)
end
structure Ext (H:Hp) (S:Sto) (H':Hp) (S':Sto):Prop where
  tup:∀b xs,H b=some (.tup xs)→H' b=some (.tup xs)
  frz:∀b o u,H b=some (.frz o u)→H' b=some (.frz o u)
  fr:∀b xs,H b=some (.lst xs)→S b=none→H' b=some (.lst xs)∧S' b=none
  all:∀b o,H b=some o→ ∃o',H' b=some o'
noncomputable def Sub (S S':Sto):Prop:=∀a o,S a=some o→S' a=some o
section
variable {K:PySem.W.Frag}{H H' H1 H2:Hp}{S S' S1 S2:Sto}
theorem zag{a:Addr}{o:Ob}:put S a o a=some o:=by unfold put;rw [if_pos rfl]
theorem zaU{a b:Addr}{o:Ob}(h:b≠a):put S a o b=S b:=by unfold put;rw [if_neg h]
theorem zbQ{a:Addr}{o o':Ob}:put (put S a o) a o'=put S a o':=by funext b;unfold put;split<;>rfl
theorem Ext.refl:Ext H S H S:=⟨fun _ _ h=>h,fun _ _ _ h=>h,fun _ _ h g=>⟨h,g⟩,fun _ o h=>⟨o,h⟩⟩
theorem Ext.trans (a:Ext H S H1 S1) (b:Ext H1 S1 H2 S2):Ext H S H2 S2:=⟨fun c xs h=>b.tup c xs (a.tup c xs h),fun c o u h=>b.frz c o u (a.frz c o u h),
 fun c o h g=>by
  obtain⟨h1,g1⟩:=a.fr c o h g;exact b.fr c o h1 g1,fun c o h=>by
  obtain⟨o1,h1⟩:=a.all c o h;exact b.all c o1 h1⟩
theorem Ext.new{p:Addr}{o:HO}(h:H p=none):Ext H S (upd H p o) S:=
  ⟨fun b xs e=>by rw [zao (zam e h)];exact e,fun b ob u e=>by rw [zao (zam e h)];exact e,
   fun b ob e g=>⟨by rw [zao (zam e h)];exact e,g⟩,fun b ob e=>⟨ob,by rw [zao (zam e h)];exact e⟩⟩
theorem Ext.newS{p:Addr}{o:HO}{ob:Ob}(h:H p=none):Ext H S (upd H p o) (put S p ob):=
  ⟨fun b xs e=>by rw [zao (zam e h)];exact e,fun b ob u e=>by rw [zao (zam e h)];exact e,
   fun b ob e g=>⟨by rw [zao (zam e h)];exact e,by rw [zaU (zam e h)];exact g⟩,fun b ob e=>⟨ob,by rw [zao (zam e h)];exact e⟩⟩
theorem Ext.mut{p:Addr}{o u:HO}{ob ob0:Ob}(h:H p=some u) (hs:S p=some ob0) (ht:∀xs,u≠ .tup xs) (hf:∀ob q,u≠ .frz ob q):Ext H S (upd H p o) (put S p ob):=
  ⟨fun b xs e=>by rw [zao (zlu e h fun z=>ht xs z.symm)];exact e,fun b ob q e=>by rw [zao (zlu e h fun z=>hf ob q z.symm)];exact e,
   fun b ob e g=>by
     have hb:b≠p:=by rintro rfl;rw [hs]at g;cases g
     exact⟨by rw [zao hb];exact e,by rw [zaU hb];exact g⟩,fun b ob e=>by
     by_cases hb:b=p
     · subst hb;exact⟨o,zau⟩
     · exact⟨ob,by rw [zao hb];exact e⟩⟩
theorem Ext.lst{p:Addr}{o:HO}{ob ob0:Ob}{xs:List V}(h:H p=some (.lst xs)) (hs:S p=some ob0):Ext H S (upd H p o) (put S p ob):= .mut h hs (fun _ z=>nomatch z) fun _ _ z=>nomatch z
theorem Ext.drop (h:Sub S' S):Ext H S H S':=⟨fun _ _ h=>h,fun _ _ _ h=>h,fun b o e g=>⟨e,by
 cases q:S' b with
 |none=>rfl
 |some z=>rw [h b z q]at g;cases g⟩,fun _ o h=>⟨o,h⟩⟩
theorem Ext.free (e:Ext H S H' S') {p:Addr}(h:H' p=none):H p=none:=by
 cases q:H p with
 |none=>rfl
 |some o=>obtain⟨o',z⟩:=e.all p o q;rw [h]at z;cases z
theorem Ext.fz{a:Addr}{xs:List V}(e:Ext H S H' S') (h:FzL K H a xs):FzL K H' a xs:=by
 rcases h with⟨o,h⟩ |h
 ·exact .inl ⟨o,e.frz _ _ _ h⟩
 ·exact .inr h
theorem FzL.sq{a:Addr}{xs:List V}(h:FzL K H a xs):SqL K H a xs:=by
 rcases h with⟨o,h⟩ |h
 ·exact .inl (.inr ⟨o,h⟩)
 ·exact .inr h
mutual
theorem Rep.ext (e:Ext H S H' S') {w:W}{v:V}:Rep K H w v→Rep K H' w v
 | .non=> .non
 | .bl b=> .bl b
 | .int i=> .int i
 | .str x=> .str x
 | .ref a=> .ref a
 | .scr h=> .scr (e.fz h)
 | .tup h hs=> .tup (e.tup _ _ h) (Reps.ext e hs)
theorem Reps.ext (e:Ext H S H' S') {ws:List W}{vs:List V}:Reps K H ws vs→Reps K H' ws vs
 | .nil=> .nil
 | .cons h hs=> .cons (Rep.ext e h) (Reps.ext e hs)
end
theorem Reps.length:∀{ws:List W}{vs:List V},Reps K H ws vs→ws.length=vs.length
 |_,_, .nil=>rfl
 |_,_, .cons _ hs=>congrArg (· +1) (Reps.length hs)
theorem Reps.get:∀{ws:List W}{vs:List V}{i:Nat}{w:W},Reps K H ws vs→ws[i]? =some w→ ∃v,vs[i]? =some v∧Rep K H w v
 |_,_,_,_, .nil,e=>by simp at e
 |_,_,0,_, .cons h _,e=>by simp at e;subst e;exact⟨_,rfl,h⟩
 |_,_,i+1,w, .cons _ hs,e=>by
  obtain⟨v,h1,h2⟩:=Reps.get (i:=i) (w:=w) hs (by simpa using e);exact⟨v,by simpa using h1,h2⟩
theorem Reps.append:∀{ws us:List W}{vs xs:List V},Reps K H ws vs→Reps K H us xs→Reps K H (ws++us) (vs++xs)
 |_,_,_,_, .nil,h=>h
 |_,_,_,_, .cons r t,h=> .cons r (Reps.append t h)
theorem Reps.take:∀{ws:List W}{vs:List V}(n:Nat),Reps K H ws vs→Reps K H (ws.take n) (vs.take n)
 |_,_,0,_=> .nil
 |_,_,_+1, .nil=> .nil
 |_,_,n+1, .cons r t=> .cons r (Reps.take n t)
theorem Reps.drop:∀{ws:List W}{vs:List V}(n:Nat),Reps K H ws vs→Reps K H (ws.drop n) (vs.drop n)
 |_,_,0,r=>r
 |_,_,_+1, .nil=> .nil
 |_,_,n+1, .cons _ t=>Reps.drop n t
theorem Reps.one{w:W}{v:V}(h:Rep K H w v):Reps K H [w] [v]:= .cons h .nil
theorem Reps.ofInts:∀(ns:List Int),Reps K H (ns.map W.int) (ns.map V.int)
 | []=> .nil
 |n::ns=> .cons (.int n) (Reps.ofInts ns)
end
noncomputable def RepO (K:PySem.W.Frag) (H:Hp) (a:Addr):Ob→Prop
 | .lst ws=>∃vs,H a=some (.lst vs)∧Reps K H ws vs
 | .dct kvs=>∃ps:List (List Key×V),H a=some (.dT ps)∧Paired (fun q p=>p.1=q.1.map Sum.inl∧Rep K H q.2 p.2) kvs ps
 | .dk kvs=>∃ps:List (Key×V),H a=some (.dK ps)∧Paired (fun q p=>p.1=q.1∧Rep K H q.2 p.2) kvs ps
 | .ins cl fs=>∃(C dx:Addr) (ps:List (Str×V)),PySem.W.nsIn K mainGlobals cl=some (some (.ref C))∧H a=some (.ins C dx ps)∧Paired (fun q p=>p.1=q.1∧Rep K H q.2 p.2) fs ps
noncomputable def RepS (K:PySem.W.Frag) (H:Hp) (S:Sto):Prop:=∀a o,S a=some o→RepO K H a o
section
variable {K:PySem.W.Frag}{H H':Hp}{S S' S0 S0':Sto}{a b p:Addr}{o:Ob}
theorem Sub.refl:Sub S S:=fun _ _ h=>h
theorem Sub.trans{S1 S2 S3:Sto}(h:Sub S1 S2) (g:Sub S2 S3):Sub S1 S3:=fun a o e=>g a o (h a o e)
theorem RepS.sub (h:RepS K H S') (q:Sub S S'):RepS K H S:=fun a o e=>h a o (q a o e)
theorem RepO.some (h:RepO K H a o):∃u,H a=some u:=by
 cases o with
 |lst ws=>obtain⟨vs,e,_⟩:=h;exact⟨_,e⟩
 |dct kvs=>obtain⟨vs,e,_⟩:=h;exact⟨_,e⟩
 |dk kvs=>obtain⟨vs,e,_⟩:=h;exact⟨_,e⟩
 |ins C fs=>obtain⟨_,_,vs,_,e,_⟩:=h;exact⟨_,e⟩
theorem RepS.free (h:RepS K H S) (e:H p=none):S p=none:=by
 cases q:S p with
 |none=>rfl
 |some o=>obtain⟨u,z⟩:=(h p o q).some;rw [e]at z;cases z
theorem RepO.keep (e:Ext H S0 H' S0') (k:∀u,H a=Option.some u→H' a=Option.some u) (h:RepO K H a o):RepO K H' a o:=by
 cases o with
 |lst ws=>obtain⟨vs,e1,r⟩:=h;exact⟨vs,k _ e1,r.ext e⟩
 |dct kvs=>obtain⟨vs,e1,r⟩:=h;exact⟨vs,k _ e1,Paired.mapP r fun _ _ z=>⟨z.1,z.2.ext e⟩⟩
 |dk kvs=>obtain⟨vs,e1,r⟩:=h;exact⟨vs,k _ e1,Paired.mapP r fun _ _ z=>⟨z.1,z.2.ext e⟩⟩
 |ins C fs=>obtain⟨C,dx,vs,e0,e1,r⟩:=h;exact⟨C,dx,vs,e0,k _ e1,Paired.mapP r fun _ _ z=>⟨z.1,z.2.ext e⟩⟩
theorem RepS.new{u:HO}(h:RepS K H S) (e:H p=none):RepS K (upd H p u) S:=fun a o q=>
 (h a o q).keep (.new (S:=S) e) fun v z=>by rw [zao (zam z e)];exact z
theorem RepS.put_lst{ws:List W}{vs:List V}(h:RepS K H S) (e:H p=none) (r:Reps K (upd H p (.lst vs)) ws vs):RepS K (upd H p (.lst vs)) (put S p (.lst ws)):=fun a o q=>by
 by_cases ha:a=p
 ·subst ha;rw [zag]at q;cases q;exact⟨vs,zau,r⟩
 ·rw [zaU ha]at q;exact h.new e a o q
theorem RepS.set_lst{ws0 ws:List W}{vs:List V}(h:RepS K H S) (e:S a=some (.lst ws0)) (r:Reps K H ws vs):Ext H S (upd H a (.lst vs)) (put S a (.lst ws))∧RepS K (upd H a (.lst vs)) (put S a (.lst ws)):=by
 obtain⟨vs0,e0,_⟩:=h a _ e;have x:Ext H S (upd H a (.lst vs)) (put S a (.lst ws)):= .lst e0 e;refine⟨x,fun b o q=>?_⟩;by_cases hb:b=a
 ·subst hb;rw [zag]at q;cases q;exact⟨vs,zau,r.ext x⟩
 ·rw [zaU hb]at q;exact(h b o q).keep x fun u z=>by rw [zao hb];exact z
end
noncomputable abbrev WSt:=List (Option W)
noncomputable abbrev WK:=W→Sto→Prop
noncomputable abbrev WX:=Str→WSt→Sto→Prop
noncomputable abbrev WE:=WX→WSt→Sto→WK→Prop
noncomputable abbrev WT:=WX→WSt→Sto→(Bool→Sto→Prop)→Prop
noncomputable abbrev WA:=WX→WSt→Sto→(List W→Sto→Prop)→Prop
structure WEnds where
  nx:WSt→Sto→Prop
  rt:WK
  bk:WSt→Sto→Prop:=fun _ _=>False
  ct:WSt→Sto→Prop:=fun _ _=>False
noncomputable abbrev WS:=WX→WEnds→WSt→Sto→Prop
noncomputable abbrev WG:=W→WSt→Sto→(WSt→Sto→Prop)→Prop
noncomputable abbrev WSp:=List W→Sto→WK→(Str→Sto→Prop)→Prop
noncomputable abbrev WI:=WX→WSt→Sto→(List W→(Sto→Prop)→Sto→Prop)→Prop
noncomputable abbrev WL:=WX→WSt→Sto→(List W→Sto→Prop)→Prop
noncomputable def RpO (K:PySem.W.Frag) (H:Hp):Option W→Option V→Prop
 |none,_=>True
 |some w,some v=>Rep K H w v
 |some _,none=>False
noncomputable def RpSt (K:PySem.W.Frag) (H:Hp) (σW:WSt) (σ:St):Prop:=Paired (RpO K H) σW σ
section
variable {K:PySem.W.Frag}{H H':Hp}{S S':Sto}
theorem RpO.ext (e:Ext H S H' S'):∀{w:Option W}{v:Option V},RpO K H w v→RpO K H' w v
 |none,_,_=>trivial
 |some _,some _,h=>Rep.ext e h
 |some _,none,h=>h.elim
theorem RpSt.ext (e:Ext H S H' S') {σW:WSt}{σ:St}(h:RpSt K H σW σ):RpSt K H' σW σ:=Paired.mapP h fun _ _ r=>RpO.ext e r
theorem RpSt.get:∀{σW:WSt}{σ:St}{i:Nat}{w:W},RpSt K H σW σ→σW[i]? =some (some w)→ ∃v,σ[i]? =some (some v)∧Rep K H w v
 |_,_,_,_, .nil,e=>by simp at e
 |_,_,0,_, .cons (b:=b) h _,e=>by
  simp at e;subst e;cases b with
  |none=>exact(show False from h).elim
  |some v=>exact⟨v,rfl,h⟩
 |_,_,i+1,w, .cons _ hs,e=>by
  obtain⟨v,h1,h2⟩:=RpSt.get (i:=i) (w:=w) hs (by simpa using e);exact⟨v,by simpa using h1,h2⟩
theorem RpSt.set{w:W}{v:V}(h:Rep K H w v):∀{σW:WSt}{σ:St}(i:Nat),RpSt K H σW σ→RpSt K H (σW.set i (some w)) (σ.set i (some v))
 |_,_,_, .nil=> .nil
 |_,_,0, .cons _ t=> .cons h t
 |_,_,i+1, .cons q t=> .cons q (RpSt.set h i t)
end
noncomputable def Wish (K:PySem.W.Frag) (H:Hp) (S:Sto) (QW:WK) (Q:VK):Prop:=∀w S' v H',Ext H S H' S'→Rep K H' w v→RepS K H' S'→QW w S'→Q v H'
noncomputable def zqk (K:PySem.W.Frag) (t:WSt→Sto→WK→Prop):TE:=fun σ H Q=>∃σW S QW,RpSt K H σW σ∧RepS K H S∧t σW S QW∧Wish K H S QW Q
noncomputable def znb (K:PySem.W.Frag) (t:WSt→Sto→(Bool→Sto→Prop)→Prop):TT:=fun σ H Q=>∃σW S QW,RpSt K H σW σ∧RepS K H S∧t σW S QW∧ ∀b S' H',Ext H S H' S'→RepS K H' S'→QW b S'→Q b H'
noncomputable def zrj (K:PySem.W.Frag) (t:WSt→Sto→(List W→Sto→Prop)→Prop):TA:=fun σ H Q=>∃σW S QW,RpSt K H σW σ∧RepS K H S∧t σW S QW∧ ∀ws S' vs H',Ext H S H' S'→Reps K H' ws vs→RepS K H' S'→QW ws S'→Q vs H'
noncomputable def Goes (K:PySem.W.Frag) (H:Hp) (S:Sto) (P:WSt→Sto→Prop) (Q:St→Hp→Prop):Prop:=∀σW S' σ H',Ext H S H' S'→RpSt K H' σW σ→RepS K H' S'→P σW S'→Q σ H'
structure Meets (K:PySem.W.Frag) (H:Hp) (S:Sto) (DW:WEnds) (D:Ends):Prop where
  nx:Goes K H S DW.nx D.nx
  rt:Wish K H S DW.rt D.rt
  bk:Goes K H S DW.bk D.bk
  ct:Goes K H S DW.ct D.ct
noncomputable def zpG (K:PySem.W.Frag) (t:WEnds→WSt→Sto→Prop):TS:=fun D σ H=>∃σW S DW,RpSt K H σW σ∧RepS K H S∧t DW σW S∧Meets K H S DW D
noncomputable def zqH (K:PySem.W.Frag) (t:WG):TG:=fun v σ H Q=>∃w σW S P,Rep K H w v∧RpSt K H σW σ∧RepS K H S∧t w σW S P∧Goes K H S P Q
noncomputable def ItW (K:PySem.W.Frag) (J:It) (ws:List W) (G:Sto→Prop) (H0:Hp) (S0:Sto):Prop:=∀i S H,Ext H0 S0 H S→RepS K H S→G S→
 (∀w,ws[i]? =some w→J.go i H∧ ∀x H',J.yld i H x H'→Ext H S H' S∧RepS K H' S∧Rep K H' w x)∧(i=ws.length→J.stop i H)
noncomputable def znS (K:PySem.W.Frag) (t:WSt→Sto→(List W→(Sto→Prop)→Sto→Prop)→Prop):TI:=fun σ H R=>∃σW S QW,RpSt K H σW σ∧RepS K H S∧t σW S QW∧
 ∀ws G S' J H',Ext H S H' S'→RepS K H' S'→G S'→ItW K J ws G H' S'→QW ws G S'→R J H'
noncomputable def zoP (K:PySem.W.Frag) (t:WSt→Sto→(List W→Sto→Prop)→Prop):TE:=fun σ H Q=>∃σW S QW,RpSt K H σW σ∧RepS K H S∧t σW S QW∧
 ∀ws S' vs a H',Ext H S H' S'→H a=none→H' a=some (.lst vs)→S' a=none→Reps K H' ws vs→RepS K H' S'→QW ws S'→Q (.ref a) H'
noncomputable def zaK (K:PySem.W.Frag) (sp:WSp):Sp:=fun vs H Q E=>∃ws S QW EW,Reps K H ws vs∧RepS K H S∧sp ws S QW EW∧Wish K H S QW Q∧
 ∀cl C S' H',PySem.W.nsIn K mainGlobals cl=some (some (.ref C))→RepS K H' S'→EW cl S'→E (.ref C) none H'
noncomputable def Fly (g h:Heap) (H:Hp) (a C:Addr):Prop:=g.get? a=none∧H a=none∧ ∃oe vs T oT ts,h.get? a=some oe∧oe.cls= .ref C∧oe.data= .fields vs∧vs[1]? =some (.ref T)∧
 g.get? T=none∧H T=none∧T≠a∧h.get? T=some oT∧oT.data= .fields ts∧ts[3]? =some .none
noncomputable def CX1 (P:Program) (w:World):CXT:=fun outer H s E e s'=>∃a C H',e= .ref a∧s'.os=s.os∧AllBare s'.gens∧Un (frs outer) [] H H' s.heap s'.heap∧HOk P w H' s'.heap∧Fly s.heap s'.heap H' a C∧E (.ref C) none H'
structure Hook (X:Cx) (E:WX):Prop where
  own:PassesOwn (model X.prog X.w) X.A X.env X.xe
  far:∀(pins:List (Addr×Obj)) (σ:St) (H:Hp) (s:Shared) (σW:WSt) (cl:Str) (C a:Addr) (H':Hp) (S':Sto) (s':Shared),Inv X pins σ H s→RpSt X.K H σW σ→PySem.W.nsIn X.K mainGlobals cl=some (some (.ref C))→
    s'.os=s.os→AllBare s'.gens→Un (frs X.stack) [] H H' s.heap s'.heap→HOk X.prog X.w H' s'.heap→Fly s.heap s'.heap H' a C→RepS X.K H' S'→E cl σW S'→X.xe (.ref a) s'
  near:∀(pins:List (Addr×Obj)) (σ:St) (H:Hp) (s:Shared) (σW:WSt) (cl:Str) (C a:Addr) (S:Sto) (h':Heap) (args:List Value),Inv X pins σ H s→RpSt X.K H σW σ→PySem.W.nsIn X.K mainGlobals cl=some (some (.ref C))→
    Heap.MadeExcOf s.heap h' a (.ref C) args→RepS X.K H S→E cl σW S→X.xe (.ref a) { s with heap:=h' }
noncomputable def JE (X:Cx) (e:Expr) (t:WE):Prop:=∀E,Hook X E→PE X e (zqk X.K (t E))
noncomputable def JT (X:Cx) (e:Expr) (t:WT):Prop:=∀E,Hook X E→PT X e (znb X.K (t E))
noncomputable def JW (X:Cx) (e:Expr) (t:WT):Prop:=∀E,Hook X E→PW X e (znb X.K (t E))
noncomputable def JA (X:Cx) (es:List Expr) (t:WA):Prop:=∀E,Hook X E→PA X es (zrj X.K (t E))
noncomputable def JS (X:Cx) (st:Stmt) (t:WS):Prop:=∀E,Hook X E→PS X st (zpG X.K (t E))
noncomputable def JSs (X:Cx) (st:List Stmt) (t:WS):Prop:=∀E,Hook X E→PSs X st (zpG X.K (t E))
noncomputable def JG (X:Cx) (tg:Expr) (t:WG):Prop:=∀E,Hook X E→PG X tg (zqH X.K t)
noncomputable def JI (X:Cx) (tg iter:Expr) (t:WI):Prop:=∀E,Hook X E→PI X tg iter (znS X.K (t E))
noncomputable def JL (X:Cx) (e:Expr) (t:WL):Prop:=∀E,Hook X E→PE X e (zoP X.K (t E))
theorem PE.mono{X:Cx}{e:Expr}{t t':TE}(h:PE X e t) (q:∀σ H Q,t' σ H Q→t σ H Q):PE X e t':=fun pins s σ H Q I z=>h pins s σ H Q I (q σ H Q z)
theorem PT.mono{X:Cx}{e:Expr}{t t':TT}(h:PT X e t) (q:∀σ H Q,t' σ H Q→t σ H Q):PT X e t':=fun pins s σ H Q I z=>h pins s σ H Q I (q σ H Q z)
theorem PW.mono{X:Cx}{e:Expr}{t t':TT}(h:PW X e t) (q:∀σ H Q,t' σ H Q→t σ H Q):PW X e t':=fun wh pins s σ H Q I z=>h wh pins s σ H Q I (q σ H Q z)
theorem PA.mono{X:Cx}{e:List Expr}{t t':TA}(h:PA X e t) (q:∀σ H Q,t' σ H Q→t σ H Q):PA X e t':=fun pos pins s σ H Q I z=>h pos pins s σ H Q I (q σ H Q z)
theorem PS.mono{X:Cx}{e:Stmt}{t t':TS}(h:PS X e t) (q:∀D σ H,t' D σ H→t D σ H):PS X e t':=fun pins s σ H D I z=>h pins s σ H D I (q D σ H z)
theorem PSs.mono{X:Cx}{e:List Stmt}{t t':TS}(h:PSs X e t) (q:∀D σ H,t' D σ H→t D σ H):PSs X e t':=fun pins s σ H D I z=>h pins s σ H D I (q D σ H z)
theorem PG.mono{X:Cx}{e:Expr}{t t':TG}(h:PG X e t) (q:∀v σ H Q,t' v σ H Q→t v σ H Q):PG X e t':=fun pins s σ H v u Q I r z=>h pins s σ H v u Q I r (q v σ H Q z)
theorem PI.mono{X:Cx}{tg e:Expr}{t t':TI}(h:PI X tg e t) (q:∀σ H R,t' σ H R→t σ H R):PI X tg e t':=fun pins s σ H R I z=>h pins s σ H R I (q σ H R z)
noncomputable def zaf (i:Nat):WE:=fun _ σ S Q=>match σ[i]? with
 |some (some w)=>Q w S
 |_=>False
noncomputable def wC (w:W):WE:=fun _ _ S Q=>Q w S
section
variable {X:Cx}
theorem jv (i:Nat) {x:Str}{pos:Pos}(hN:X.N[i]? =some x:=by rfl) (hv:Vis X.env.scope x:=by first |exact Or.inl rfl |exact Or.inr (Or.inl rfl) |exact Or.inr (Or.inr rfl)) (hd:(x == ("__debug__" :Str))=false:=by decide)
  (hcd:(x == ("__classdict__" :Str))=false:=by decide):JE X (.Name x pos) (zaf i):=fun E hE=>(zmi hN hv hd hcd).mono fun σ H Q ⟨σW,S,QW,hσ,hS,ht,hQ⟩=>by
 unfold zaf at ht;split at ht
 ·rename_i w e;obtain⟨v,e',r⟩:=hσ.get e;exact⟨v,e',hQ w S v H .refl r hS ht⟩
 ·exact ht.elim
theorem zkI{e:Expr}{v:V}{w:W}(h:PE X e (tC v)) (r:∀K H,Rep K H w v):JE X e (wC w):=fun E hE=>h.mono fun σ H Q ⟨σW,S,QW,hσ,hS,ht,hQ⟩=>hQ w S v H .refl (r _ _) hS ht
theorem zae{i j pos}:JE X (.Constant (.int i) j pos) (wC (.int i)):=zkI zoj fun _ _=> .int i
theorem zen{b j pos}:JE X (.Constant (.bool b) j pos) (wC (.bl b)):=zkI zqz fun _ _=> .bl b
theorem zar{x j pos}:JE X (.Constant (.str x) j pos) (wC (.str x)):=zkI zoK fun _ _=> .str x
theorem zdo{x:Str}{i:Int}{u:Tok}{pos:Pos}(hg:Gl X x) (hm:X.mg x=some (.int i u)) (hd:(x == ("__debug__" :Str))=false:=by decide):JE X (.Name x pos) (wC (.int i)):=zkI (v:= .int i) (znB hg hm ⟨u,rfl⟩ hd) fun _ _=> .int i
end
noncomputable abbrev W2:=W→W→Sto→WK→Prop
noncomputable def wOp (r:W2) (a b:WE):WE:=fun E σ S Q=>a E σ S fun x S1=>b E σ S1 fun y S2=>r x y S2 Q
noncomputable def OpW (K:PySem.W.Frag) (r:R2) (wr:W2):Prop:=∀H x y wx wy S (Q:VK) (QW:WK),Rep K H wx x→Rep K H wy y→RepS K H S→wr wx wy S QW→Wish K H S QW Q→r x y H Q
theorem Wish.from{K:PySem.W.Frag}{H H':Hp}{S S':Sto}{QW:WK}{Q:VK}(h:Wish K H S QW Q) (e:Ext H S H' S'):Wish K H' S' QW Q:=fun w S v H'' e' r hS q=>h w S v H'' (e.trans e') r hS q
theorem Goes.from{K:PySem.W.Frag}{H H':Hp}{S S':Sto}{P:WSt→Sto→Prop}{Q:St→Hp→Prop}(h:Goes K H S P Q) (e:Ext H S H' S'):Goes K H' S' P Q:=fun σW S σ H'' e' r hS q=>h σW S σ H'' (e.trans e') r hS q
theorem Meets.from{K:PySem.W.Frag}{H H':Hp}{S S':Sto}{DW:WEnds}{D:Ends}(h:Meets K H S DW D) (e:Ext H S H' S'):Meets K H' S' DW D:=⟨h.nx.from e,h.rt.from e,h.bk.from e,h.ct.from e⟩
section
variable {X:Cx}{a b:Expr}{pos:Pos}
theorem zdH{K:PySem.W.Frag}{ta tb:WSt→Sto→WK→Prop}{wr:W→W→Sto→WK→Prop}{σ:St}{H:Hp}{Q:VK}{R:V→V→Hp→Prop}
  (h:zqk K (fun σ S Q=>ta σ S fun x S1=>tb σ S1 fun y S2=>wr x y S2 Q) σ H Q)
  (hR:∀H2 x y wx wy S (QW:WK),Rep K H2 wx x→Rep K H2 wy y→RepS K H2 S→wr wx wy S QW→Wish K H2 S QW Q→R x y H2) :
  zqk K ta σ H fun x H1=>zqk K tb σ H1 fun y H2=>R x y H2:=by
 obtain⟨σW,S,QW,hσ,hS,ht,hQ⟩:=h;refine⟨σW,S,_,hσ,hS,ht,fun w1 S1 v1 H1 e1 r1 hS1 h1=>?_⟩;refine⟨σW,S1,_,hσ.ext e1,hS1,h1,fun w2 S2 v2 H2 e2 r2 hS2 h2=>?_⟩;exact hR H2 v1 v2 w1 w2 S2 QW (r1.ext e2) r2 hS2 h2 (hQ.from (e1.trans e2))
theorem ziw{op:Operator}{r:R2}{wr:W2}{ta tb:WE}(ho:OpR X (binaryOp op) r) (hw:OpW X.K r wr) (ha:JE X a ta) (hb:JE X b tb):JE X (.BinOp a op b pos) (wOp wr ta tb):=fun E hE=>
 (znL ho (ha E hE) (hb E hE)).mono fun σ H Q h=>zdH h fun H2 x y wx wy S QW rx ry hS q hQ=>hw H2 x y wx wy S Q QW rx ry hS q hQ
theorem zlT{op:CmpOp}{r:R2}{wr:W2}{ta tb:WE}(ho:OpR X (compareOp op) r) (hw:OpW X.K r wr) (ha:JE X a ta) (hb:JE X b tb) (hm:behindInMarks op b=false):JE X (.Compare a [op] [b] pos) (wOp wr ta tb):=fun E hE=>
 (zne ho (ha E hE) (hb E hE) hm).mono fun σ H Q h=>zdH h fun H2 x y wx wy S QW rx ry hS q hQ=>hw H2 x y wx wy S Q QW rx ry hS q hQ
end
theorem ObjOk.ex{P:Program}{w:World}{H:Hp}{h:Heap}{a:Addr}{o:HO}(x:ObjOk P w H h a o):∃u,h.get? a=some u:=by
 cases o with
 |lst xs=>obtain⟨_,_,_,_,e⟩:=x;exact⟨_,e⟩
 |tup xs=>obtain⟨_,_,_,o,e,_⟩:=x;exact⟨_,e⟩
 |dK kvs=>obtain⟨_,_,_,_,o,_,_,e,_⟩:=x;exact⟨_,e⟩
 |dT kvs=>obtain⟨_,_,_,_,o,_,_,e,_⟩:=x;exact⟨_,e⟩
 |set S n=>obtain⟨o,_,_,_,e,_⟩:=x;exact⟨_,e⟩
 |ins C dx fs=>obtain⟨_,_,_,e,_⟩:=x;exact⟨_,e⟩
 |own y=>exact x
 |xd fs=>obtain⟨_,⟨_,_,_,e,_⟩,_⟩:=x;exact⟨_,e⟩
 |rng lo hi=>obtain⟨_,_,_,e⟩:=x;exact⟨_,e⟩
 |frz ob u=>obtain⟨e,_⟩:=x;exact⟨_,e⟩
 |tbl ps=>exact⟨_,show h.get? a=some _ from x⟩
 |met f y=>exact⟨_,show h.get? a=some _ from x⟩
 |ext φ=>exact x.2.1
noncomputable def unt (H:Hp) (S:Sto):Hp:=fun b=>match H b with
 |some (.lst xs)=>match S b with
  |none=>none
  |some _=>some (.lst xs)
 |o=>o
noncomputable def rtk (H:Hp) (S:Sto) (H':Hp):Hp:=fun b=>match unt H S b with
 |none=>match H b with
  |some o=>some o
  |none=>H' b
 |some _=>match H' b with
  |some o=>some o
  |none=>some (.ext fun h=>∃o,h.get? b=some o)
section
variable {w:World}{K:PySem.W.Frag}{H:Hp}{S:Sto}{h:Heap}{b:Addr}{o:HO}
theorem zhJ (e:unt H S b=some o):H b=some o:=by
 unfold unt at e;split at e
 ·rename_i xs q;split at e
  ·cases e
  ·rw [q];exact e
 ·exact e
theorem zbS (e:H b=none):unt H S b=none:=by unfold unt;rw [e]
theorem zhp (e:H b=some o) (n:∀xs,o≠ .lst xs):unt H S b=some o:=by
 unfold unt;rw [e];cases o<;>first |rfl |exact absurd rfl (n _)
theorem zhs{u:Ob}(e:H b=some o) (hs:S b=some u):unt H S b=some o:=by
 unfold unt;rw [e];cases o<;>first |rfl | (dsimp only;rw [hs])
theorem ziA{xs:List V}(e:H b=some (.lst xs)) (hs:S b=none):unt H S b=none:=by
 unfold unt;rw [e];dsimp only;rw [hs]
theorem zoN (e:unt H S b=none) (q:H b=some o):(∃xs,o= .lst xs)∧S b=none:=by
 unfold unt at e;rw [q]at e;cases o<;>first |cases e |skip;rename_i xs;dsimp only at e;split at e
 ·exact⟨⟨xs,rfl⟩, ‹_›⟩
 ·cases e
mutual
theorem Rep.mv{H1:Hp}(t:∀b xs,H b=some (.tup xs)→H1 b=some (.tup xs)) (f:∀b o u,H b=some (.frz o u)→H1 b=some (.frz o u)) {w:W}{v:V}:Rep K H w v→Rep K H1 w v
 | .non=> .non
 | .bl b=> .bl b
 | .int i=> .int i
 | .str x=> .str x
 | .ref a=> .ref a
 | .scr h=> .scr (by
  rcases h with⟨o,h⟩ |h
  ·exact .inl ⟨o,f _ _ _ h⟩
  ·exact .inr h)
 | .tup h hs=> .tup (t _ _ h) (Reps.mv t f hs)
theorem Reps.mv{H1:Hp}(t:∀b xs,H b=some (.tup xs)→H1 b=some (.tup xs)) (f:∀b o u,H b=some (.frz o u)→H1 b=some (.frz o u)) {ws:List W}{vs:List V}:Reps K H ws vs→Reps K H1 ws vs
 | .nil=> .nil
 | .cons h hs=> .cons (Rep.mv t f h) (Reps.mv t f hs)
end
theorem zcv:∀b xs,H b=some (.tup xs)→unt H S b=some (.tup xs):=fun b xs e=>zhp e fun _ z=>nomatch z
theorem zcS:∀b o u,H b=some (.frz o u)→unt H S b=some (.frz o u):=fun b o u e=>zhp e fun _ z=>nomatch z
theorem RepS.unt (r:RepS K H S):RepS K (unt H S) S:=fun a o e=>by
 have q:=r a o e;cases o with
 |lst ws=>obtain⟨vs,z,rs⟩:=q;exact⟨vs,zhs z e,Reps.mv zcv zcS rs⟩
 |dct kvs=>obtain⟨ps,z,rs⟩:=q;exact⟨ps,zhs z e,Paired.mapP rs fun _ _ z=>⟨z.1,Rep.mv zcv zcS z.2⟩⟩
 |dk kvs=>obtain⟨ps,z,rs⟩:=q;exact⟨ps,zhs z e,Paired.mapP rs fun _ _ z=>⟨z.1,Rep.mv zcv zcS z.2⟩⟩
 |ins C fs=>obtain⟨C,dx,ps,z0,z,rs⟩:=q;exact⟨C,dx,ps,z0,zhs z e,Paired.mapP rs fun _ _ z=>⟨z.1,Rep.mv zcv zcS z.2⟩⟩
theorem HOk.unt (x:HOk P w H h):HOk P w (unt H S) h:=fun a o e=>
 (x a o (zhJ e)).stay (fun _ _ _ q=>q) (fun b q=>zhp q fun _ z=>nomatch z) fun b xs q=>zcv b xs q
theorem zcI (ok:HOk P w H h) (un:Un fs [] (unt H S) H' h h') (e:H' b=some o):rtk H S H' b=some o:=by
 unfold rtk;split
 ·rename_i q;split
  ·rename_i u z;obtain⟨ob,eo⟩:=(ok b u z).ex;rw [un.free b ob eo q (by simp)]at e;cases e
  ·exact e
 ·rw [e]
theorem zet (un:Un fs [] (unt H S) H' h h') (ok:HOk P w H h):Un fs [] H (rtk H S H') h h' where
  keep:=fun b o e n hb hx=>un.keep b o e (zbS n) hb hx
  slot:=fun b o e n hb hx=>un.slot b o e (zbS n) hb hx
  free:=fun b o e n hx=>by
    unfold rtk;rw [zbS n,n];exact un.free b o e (zbS n) hx
  there:=un.there
  tups:=fun b xs e=>zcI ok un (un.tups b xs (zcv b xs e))
  frzs:=fun b o u e=>zcI ok un (un.frzs b o u (zcS b o u e))
  tbls:=fun b ps e=>by
    obtain⟨m,z⟩:=un.tbls b ps (zhp e fun _ z=>nomatch z);exact⟨m,zcI ok un z⟩
theorem zhL (un:Un fs [] (unt H S) H' h h') (ok:HOk P w H h) (ok':HOk P w H' h') (hf:∀b∈fs,H b=none):HOk P w (rtk H S H') h':=fun b o e=>by
 have back:∀{o},H' b=some o→ObjOk P w (rtk H S H') h' b o:=fun {o} q=>(ok' b o q).stay (fun _ _ _ z=>z) (fun c z=>zcI ok un z) fun c xs z=>zcI ok un z;unfold rtk at e;split at e
 ·rename_i q;split at e
  ·rename_i u z;cases e;obtain⟨⟨xs,rfl⟩,_⟩:=zoN q z;obtain⟨l,its,n,r,g⟩:=ok b _ z;exact⟨l,its,n,r,un.keep b _ g q (fun hb=>by rw [hf b hb]at z;cases z) (by simp)⟩
  ·exact back e
 ·rename_i u q;split at e
  ·rename_i u' z;cases e;exact back z
  ·rename_i z;cases e;obtain⟨ob,eo⟩:=(ok b u (zhJ q)).ex;obtain⟨ob',eo'⟩:=un.there b ob eo (by simp);exact⟨⟨ob',eo'⟩,⟨ob',eo'⟩,fun h1 h2 ⟨o,z⟩ k=>⟨o,k o z⟩⟩
theorem zmt (e:H b=some o):∃o',rtk H S H' b=some o':=by
 unfold rtk;split
 ·rw [e];exact⟨_,rfl⟩
 ·split
  ·exact⟨_,rfl⟩
  ·exact⟨_,rfl⟩
theorem zgM (un:Un fs [] (unt H S) H' h h') (ok:HOk P w H h) (r:RepS K H' S'):Ext H S (rtk H S H') S' where
  tup:=fun b xs e=>(zet un ok).tups b xs e
  frz:=fun b o u e=>(zet un ok).frzs b o u e
  fr:=fun b xs e hs=>by
    refine⟨?_,?_⟩
    · unfold rtk;rw [ziA e hs,e]
    · cases q:S' b with
      |none=>rfl
      |some u=>
        obtain⟨v,z⟩:=(r b u q).some;obtain⟨ob,eo⟩:=(ok b _ e).ex;rw [un.free b ob eo (ziA e hs) (by simp)]at z;cases z
  all:=fun b o e=>zmt e
theorem zlV (un:Un fs [] (unt H S) H' h h') (ok:HOk P w H h):Ext H' S' (rtk H S H') S' where
  tup:=fun b xs e=>zcI ok un e
  frz:=fun b o u e=>zcI ok un e
  fr:=fun b xs e hs=>⟨zcI ok un e,hs⟩
  all:=fun b o e=>⟨o,zcI ok un e⟩
theorem zlr (un:Un fs [] (unt H S) H' h h') (ok:HOk P w H h) (r:RepS K H' S'):RepS K (rtk H S H') S':=fun a o e=>(r a o e).keep (zlV (S':=S') un ok) fun u z=>zcI ok un z
end
theorem zqP{X:Cx}{k:Nat}{f:Addr}{fd:FuncData}{ps:List Str}{c:WSp}{E:WX}{pins:List (Addr×Obj)}{σ:St}{σW:WSt}{H:Hp}{S:Sto}{s:Shared}{Q:VK}{QW:WK}{us:List Value}{vs:List V}{ws:List W}
  (F:FnOk X.prog X.w X.K X.mg X.base (CX1 X.prog X.w) k f fd ps (zaK X.K c)) (hr:Room k X.A) (hb:Binds X.K fd ps []) (I:Inv X pins σ H s) (r:Vals vs us) (rs:Reps X.K H ws vs) (hσ:RpSt X.K H σW σ) (hS:RepS X.K H S)
  (h:c ws S QW fun cl S'=>E cl σW S') (hQ:Wish X.K H S QW Q)
  (hx:∀(cl:Str) (C a:Addr) (H':Hp) (S':Sto) (s':Shared),PySem.W.nsIn X.K mainGlobals cl=some (some (.ref C))→s'.os=s.os→AllBare s'.gens→Un (frs X.stack) [] H H' s.heap s'.heap→HOk X.prog X.w H' s'.heap→Fly s.heap s'.heap H' a C→Ext H S H' S'→RepS X.K H' S'→E cl σW S'→X.xe (.ref a) s'):wpAny (model X.prog X.w) X.A (call (.ref f) us) (EP X pins σ Q) X.xe s:=by
 have e0:=I.env0;have sp:zaK X.K c vs (unt H S) (fun v H'=>∃w S',Rep X.K H' w v∧RepS X.K H' S'∧QW w S') (fun cv _ H'=>∃cl C S',cv= .ref C∧PySem.W.nsIn X.K mainGlobals cl=some (some (.ref C))∧RepS X.K H' S'∧E cl σW S'):=
  ⟨ws,S,QW,_,Reps.mv zcv zcS rs,hS.unt,h,fun w S' v H' _ r1 r2 q=>⟨w,S',r1,r2,q⟩,fun cl C S' H' hn hS' q=>⟨cl,C,S',rfl,hn,hS',q⟩⟩
 have e1:Env0 X.prog X.w X.K X.mg X.base X.A X.stack s (unt H S):=⟨e0.frames,e0.mod,fun b o e=>⟨(e0.bs b o e).1,zbS (e0.bs b o e).2⟩,e0.bsz,e0.funs,fun b hb=>zbS (e0.frf b hb),e0.hok.unt,e0.bare⟩;have hl:us.length=ps.length:=by rw [←r.length];exact F.len _ _ _ _ sp
 have hb':=hb s us I.kIn (by rw [List.append_nil];exact hl);rw [List.append_nil]at hb';refine wpAny_call (codeAny_mono (F.run X.A X.stack s (unt H S) ⟨us,[]⟩ us vs _ _ hr e1 hb' r sp) fun rr s' hq=>?_);cases rr with
 |error e=>
  obtain⟨a,C,H',rfl,os,bare,un,ok',fly,cl,C',S',ec,hn,hS',q⟩:=hq;cases ec;refine hx cl C a (rtk H S H') S' s' hn os bare (zet un I.hok) (zhL un I.hok ok' e0.frf) ?_ (zgM un I.hok hS') (zlr un I.hok hS') q;obtain⟨g1,g2,oe,vs',T,oT,ts,a1,a2,a3,a4,a5,a6,a7⟩:=fly;have free:∀{b:Addr},s.heap.get? b=none→H' b=none→rtk H S H' b=none:=fun {b} q1 q2=>by
   have hn:H b=none:=by
    cases z:H b with
    |none=>rfl
    |some u=>obtain⟨ob,eo⟩:=(I.hok b u z).ex;rw [q1]at eo;cases eo
   unfold rtk;rw [zbS hn,hn];exact q2
  exact⟨g1,free g1 g2,oe,vs',T,oT,ts,a1,a2,a3,a4,a5,free a5 a6,a7⟩
 |ok fl=>
  cases fl with
  |ret u=>
   obtain⟨v,H',os,bare,un,ok',rv,w,S',r1,r2,q⟩:=hq;exact⟨v,rtk H S H',I.call' os (zet un I.hok) (zhL un I.hok ok' e0.frf) bare (fun _ z=>nomatch z),rv,hQ w S' v _ (zgM un I.hok r2) (r1.ext (zlV (S':=S') un I.hok)) (zlr un I.hok r2) q⟩
  |next=>exact False.elim hq
  |brk=>exact False.elim hq
  |cont=>exact False.elim hq
theorem zmH{X:Cx}{k:Nat}{f:Addr}{fd:FuncData}{ps:List Str}{c:WSp}{E:WX}{pins:List (Addr×Obj)}{σ:St}{σW:WSt}{H:Hp}{S:Sto}{s:Shared}{Q:VK}{QW:WK}{us:List Value}{vs:List V}{ws:List W}
  (F:FnOk X.prog X.w X.K X.mg X.base (CX1 X.prog X.w) k f fd ps (zaK X.K c)) (hr:Room k X.A) (hb:Binds X.K fd ps []) (hE:Hook X E) (I:Inv X pins σ H s) (r:Vals vs us) (rs:Reps X.K H ws vs) (hσ:RpSt X.K H σW σ) (hS:RepS X.K H S)
  (h:c ws S QW fun cl S'=>E cl σW S') (hQ:Wish X.K H S QW Q):wpAny (model X.prog X.w) X.A (call (.ref f) us) (EP X pins σ Q) X.xe s:=
 zqP (E:=E) F hr hb I r rs hσ hS h hQ fun cl C a H' S' s' hn os bare un ok fly _ hS' q=>hE.far pins σ H s σW cl C a H' S' s' I hσ hn os bare un ok fly hS' q
theorem ziM{X:Cx}{pins:List (Addr×Obj)}{σ:St}{H':Hp}{s':Shared}{a C:Addr}{hid:List Addr}{h':Heap}(I:Inv X pins σ H' s') (hst:X.stack=X.env::X.outer) (hf:X.env.frame=some X.env.locals) (hex:X.ex=[])
  (h0:∀b∈hid,X.s₀.heap.get? b=none∧H' b=none) (ha:a∈hid) (L:Heap.Left (PySem.W.hideAll s'.heap (hid++frs X.stack)) X.stack a (.ref C) s'.heap h') :
  Un X.fs [] X.H₀ H' X.s₀.heap h'∧HOk X.prog X.w H' h'∧Fly X.s₀.heap h' H' a C:=by
 obtain⟨st,ff,tr,sl⟩:=L;have keepB:∀b o,s'.heap.get? b=some o→b∉hid→b∉frs X.stack→h'.get? b=some o:=fun b o e h1 h2=>st b o (PySem.W.hideAll_get _ e fun z=>(List.mem_append.mp z).elim h1 h2);have nh:∀b o,X.s₀.heap.get? b=some o→b∉hid:=fun b o e hb=>by rw [(h0 b hb).1]at e;cases e
 have slotB:∀b o,b∈frs X.stack→s'.heap.get? b=some o→ ∃sl,h'.get? b=some { o with slots:=sl }:=fun b o hb e=>by
  obtain⟨_,o',eo',nf⟩:=I.stack.mem hb;rw [e]at eo';cases eo';exact sl b o e nf
 have nx:∀b:Addr,b∉X.ex:=fun b=>by rw [hex];simp
 have fsS:∀b∈X.fs,b∈frs X.stack:=fun b hb=>by
  rw [hst];unfold frs;rw [List.filterMap_cons,hf];exact List.mem_cons_of_mem _ hb
 refine⟨⟨fun b o e n hb _=>?_,fun b o e n hb _=>?_,fun b o e n _=>I.base.free b o e n (nx b),fun b o e _=>?_,I.base.tups,I.base.frzs,I.base.tbls⟩,fun b o e=>?_,(h0 a ha).1,(h0 a ha).2,?_⟩
 ·refine keepB b o (I.base.keep b o e n hb (nx b)) (nh b o e) fun z=>?_;rcases List.mem_cons.mp (I.stkSub b z) with q |q
  ·exact absurd (Nat.lt_of_lt_of_le (Heap.lt_size e) I.ok.above) (by rw [q];exact Nat.lt_irrefl _)
  ·exact hb q
 ·obtain⟨sl1,e1⟩:=I.base.slot b o e n hb (nx b);obtain⟨sl2,e2⟩:=slotB b _ (fsS b hb) e1;exact⟨sl2,e2⟩
 ·obtain⟨o',e1⟩:=I.base.there b o e (nx b);by_cases hb:b∈frs X.stack
  ·obtain⟨sl2,e2⟩:=slotB b _ hb e1;exact⟨_,e2⟩
  ·exact⟨o',keepB b o' e1 (nh b o e) hb⟩
 ·refine(I.hok b o e).stay (fun c u hc q=>?_) (fun _ q=>q) fun _ _ q=>q;have tk:∃v,H' c=some v:=by
   rcases hc with z |z
   ·exact⟨o,by rw [z];exact e⟩
   ·exact⟨_,z⟩
  obtain⟨v,tk⟩:=tk;exact keepB c u q (fun z=>by rw [(h0 c z).2]at tk;cases tk) fun z=>by rw [I.stkFree c z]at tk;cases tk
 ·obtain⟨oe,vs,T,oT,ts,e1,e2,e3,e4,e5,e6,e7,e8,e9⟩:=tr;have nf:T∉frs X.stack:=fun hb=>by
   obtain⟨_,o,eo,nf⟩:=ff.mem hb;rw [e7]at eo;cases eo;exact nf ts e8
  have both:X.s₀.heap.get? T=none∧H' T=none:=by
   by_cases hT:T∈hid
   ·exact h0 T hT
   ·have z:s'.heap.get? T=none:=by
     cases q:s'.heap.get? T with
     |none=>rfl
     |some o=>
      rw [PySem.W.hideAll_get _ q fun z=>(List.mem_append.mp z).elim hT nf]at e5;cases e5
    constructor
    ·cases q:X.s₀.heap.get? T with
     |none=>rfl
     |some o=>obtain⟨o',q'⟩:=I.base.there T o q (nx T);rw [z]at q';cases q'
    ·cases q:H' T with
     |none=>rfl
     |some u=>obtain⟨o',q'⟩:=(I.hok T u q).ex;rw [z]at q';cases q'
  exact⟨oe,vs,T,oT,ts,e1,e2,e3,e4,both.1,both.2,e6,e7,e8,e9⟩
theorem zjQ{h base:Heap}{l:List Env}{hid:List Addr}(hl:h.FunFrames base l):h.FunFrames (PySem.W.hideAll h (hid++frs l)) l:=
 PySem.W.funFrames_hide hl fun env he a ha=>List.mem_append_right _ (List.mem_filterMap.mpr ⟨env,he,ha⟩)
theorem zlb{P:Program}{w:World}{K:PySem.W.Frag}{mg:Str→Option Value}{base:Heap}{N:List Str}{qual:Str}{scope:Scope}{f:Addr}{cdv:Value}{A:Around}{outer:List Env}{s:Shared}{H:Hp}{E:XK}{EW:Str→Sto→Prop}
    (hEW:∀cl C S' H',PySem.W.nsIn K mainGlobals cl=some (some (.ref C))→RepS K H' S'→EW cl S'→E (.ref C) none H'):Hook (zmJ (CX1 P w) P w K mg base N qual scope f cdv A outer s H E) (fun c _ S'=>EW c S') where
  own:=PassesOwn.leaving
  far:=fun pins σ H1 s1 σW cl C a H' S' s' I hσ hn os bare un ok fly hS q=>by
    have I':=I.call' os un ok bare (fun _ z=>nomatch z);obtain⟨g1,g2,oe,vs,T,oT,ts,e1,e2,e3,e4,g3,g4,e5,e6,e7,e8⟩:=fly;have s0:∀{b:Addr},s1.heap.get? b=none→s.heap.get? b=none:=fun {b} z=>by
      cases q:s.heap.get? b with
      |none=>rfl
      |some o=>obtain⟨o',q'⟩:=I.base.there b o q (by exact fun z=>nomatch z);rw [z]at q';cases q'
    refine wpAny_leaving_next (base:=PySem.W.hideAll s'.heap ([a,T]++frs (envOfC qual scope s.heap.objs.size f cdv::outer))) I'.ok.frames (zjQ I'.stack) rfl ⟨oe,vs,T,oT,ts,e1,e2,e3,e4,PySem.W.hideAll_none _ (by simp),e5,e6,e7,e8⟩ (fun b o z=>PySem.W.of_hideAll _ z) (PySem.W.hideAll_none _ (by simp)) fun h' L=>?_;obtain⟨u1,u2,u3⟩:=ziM (hid:=[a,T]) I' rfl rfl rfl (fun b hb=>by
      rcases List.mem_cons.mp hb with rfl |hb
      · exact⟨s0 g1,g2⟩
      · rw [List.mem_singleton.mp hb];exact⟨s0 g3,g4⟩) (by simp) L
    exact⟨a,C,H',rfl,I'.os,I'.bare,u1,u2,u3,hEW cl C S' H' hn hS q⟩
  near:=fun pins σ H1 s1 σW cl C a S h' args I hσ hn me hS q=>by
    have I':=I.kept (t':=s1.toks) me.keeps;obtain⟨t,e1,_,_⟩:=me.there;have s0:s.heap.get? a=none:=by
      cases q:s.heap.get? a with
      |none=>rfl
      |some o=>obtain⟨o',q'⟩:=I.base.there a o q (by exact fun z=>nomatch z);rw [me.new]at q';cases q'
    have h1:H1 a=none:=by
      cases q:H1 a with
      |none=>rfl
      |some u=>obtain⟨o',q'⟩:=(I.hok a u q).ex;rw [me.new]at q';cases q'
    refine wpAny_leaving_first (base:=PySem.W.hideAll h' ([a]++frs (envOfC qual scope s.heap.objs.size f cdv::outer))) (s:={ s1 with heap:=h' }) I'.ok.frames (zjQ I'.stack) rfl e1 (fun b o z=>PySem.W.of_hideAll _ z) (PySem.W.hideAll_none _ (by simp)) rfl rfl fun h'' L=>?_;obtain⟨u1,u2,u3⟩:=ziM (hid:=[a]) I' rfl rfl rfl (fun b hb=>by rw [List.mem_singleton.mp hb];exact⟨s0,h1⟩) (by simp) L
    exact⟨a,C,H1,rfl,I'.os,I'.bare,u1,u2,u3,hEW cl C S H1 hn hS q⟩
noncomputable def zbt (S:Sto) (a:Addr) (Q:List W→Prop):Prop:=match S a with
 |some (.lst ws)=>Q ws
 |_=>False
theorem zas{S:Sto}{a:Addr}{Q:List W→Prop}{ws:List W}(h:S a=some (.lst ws)):zbt S a Q=Q ws:=by unfold zbt;rw [h]
theorem zaT{S:Sto}{a:Addr}{Q:List W→Prop}(h:zbt S a Q):∃ws,S a=some (.lst ws)∧Q ws:=by
 unfold zbt at h;split at h
 ·exact⟨_, ‹_›,h⟩
 ·exact h.elim
noncomputable def zlL:W→Sto→(Bool→Sto→Prop)→Prop
 | .non,S,Q=>Q false S
 | .bl b,S,Q=>Q b S
 | .int i,S,Q=>Q (i != 0) S
 | .str x,S,Q=>x.length≤sizeLine∧Q ((x.length:Int) != 0) S
 | .tup ws,S,Q=>Q (!ws.isEmpty) S
 | .ref a,S,Q=>zbt S a fun ws=>Q (!ws.isEmpty) S
 | .scr ns,S,Q=>Q (!ns.isEmpty) S
noncomputable def zdD (t:WE):WT:=fun E σ S Q=>t E σ S fun w S'=>zlL w S' Q
noncomputable def wTb (t:WE):WT:=fun E σ S Q=>t E σ S fun w S'=>match w with
 | .bl b=>Q b S'
 |_=>False
noncomputable def znO (t u:WT):WT:=fun E σ S Q=>t E σ S fun c S1=>if c=true then u E σ S1 Q else Q false S1
noncomputable def wOr (t u:WT):WT:=fun E σ S Q=>t E σ S fun c S1=>if c=true then Q true S1 else u E σ S1 Q
noncomputable def zhl (t:WT):WT:=fun E σ S Q=>t E σ S fun c S1=>Q (!c) S1
noncomputable def zea (t u:WE):WE:=fun E σ S Q=>t E σ S fun w S1=>match w with
 | .bl true=>u E σ S1 Q
 | .bl false=>Q (.bl false) S1
 |_=>False
noncomputable def zqs (t u:WE):WE:=fun E σ S Q=>t E σ S fun w S1=>match w with
 | .bl false=>u E σ S1 Q
 | .bl true=>Q (.bl true) S1
 |_=>False
noncomputable def zmn (t:WE):WE:=fun E σ S Q=>t E σ S fun w S1=>match w with
 | .bl b=>Q (.bl !b) S1
 |_=>False
noncomputable def zda (c:WT) (t u:WS):WS:=fun E D σ S=>c E σ S fun b S1=>if b=true then t E D σ S1 else u E D σ S1
noncomputable def zaZ:WS:=fun _ D σ S=>D.nx σ S
noncomputable def zaE (t u:WS):WS:=fun E D σ S=>t E { D with nx:=u E D } σ S
noncomputable def zby (e:WE):WS:=fun E D σ S=>e E σ S D.rt
noncomputable def zgc (e:WE):WS:=fun E D σ S=>e E σ S fun _ S1=>D.nx σ S1
noncomputable def zlX:WS:=fun _ _ _ _=>False
noncomputable def wGN (i:Nat):WG:=fun w σ S Q=>Q (σ.set i (some w)) S
noncomputable def wAsg (e:WE) (g:WG):WS:=fun E D σ S=>e E σ S fun w S1=>g w σ S1 D.nx
noncomputable abbrev WGs:=List W→WSt→Sto→(WSt→Sto→Prop)→Prop
noncomputable def zhY:WGs:=fun ws σ S Q=>match ws with
 | []=>Q σ S
 |_=>False
noncomputable def zdv (g:WG) (u:WGs):WGs:=fun ws σ S Q=>match ws with
 | []=>False
 |w::r=>g w σ S fun σ' S'=>u r σ' S' Q
noncomputable def wGT (u:WGs):WG:=fun w σ S Q=>match w with
 | .tup ws=>u ws σ S Q
 |_=>False
section
variable {X:Cx}{a b c e:Expr}{pos:Pos}{ta tb:WE}{tc tA tB':WT}{st:Stmt}{rest:List Stmt}{t u:WS}
theorem zmy{K:PySem.W.Frag}{H:Hp}{w:W}{v:V}{S:Sto}{QW:Bool→Sto→Prop}(r:Rep K H w v) (hS:RepS K H S) (h:zlL w S QW):∃k,zqQ K v H k∧QW k S:=by
 cases r with
 |non=>exact⟨false,rfl,h⟩
 |bl b=>exact⟨b,rfl,h⟩
 |int i=>exact⟨_,rfl,h⟩
 |str x=>exact⟨_,⟨h.1,rfl⟩,h.2⟩
 |ref a=>
  obtain⟨ws,e,h⟩:=zaT h;obtain⟨vs,e1,r1⟩:=hS a _ e;refine⟨_, .inl ⟨vs, .of e1,rfl⟩,?_⟩;have q:vs.isEmpty=ws.isEmpty:=by cases r1<;>rfl
  rw [q];exact h
 | @scr a ns f=>
  refine⟨_, .inl ⟨_,f.sq,rfl⟩,?_⟩;have q:(ns.map V.int).isEmpty=ns.isEmpty:=by cases ns<;>rfl
  rw [q];exact h
 | @tup a vs ws f hs=>
  refine⟨_, .inr (.inl ⟨vs, .of f,rfl⟩),?_⟩;have q:vs.isEmpty=ws.isEmpty:=by cases hs<;>rfl
  rw [q];exact h
theorem zaS (ha:JE X a ta) (he:∀whole,isTrue a X.env whole=(do let v ←whole;standAt a.pos;holding [v] (truthy v)):=by intro _;rfl):JT X a (zdD ta):=fun E hE=>
 (zlt (ha E hE) he).mono fun σ H Q ⟨σW,S,QW,hσ,hS,ht,hQ⟩=>⟨σW,S,_,hσ,hS,ht,fun w S1 v H1 e1 r1 hS1 h1=>by
  obtain⟨k,hk,q⟩:=zmy r1 hS1 h1;exact⟨k,hk,hQ k S1 H1 e1 hS1 q⟩⟩
theorem zeB{op:CmpOp}{r:R2}{wr:W2}(ho:OpR X (compareOp op) r) (hw:OpW X.K r wr) (ha:JE X a ta) (hb:JE X b tb) (hm:behindInMarks op b=false):JT X (.Compare a [op] [b] pos) (wTb (wOp wr ta tb)):=fun E hE=>
 (zno ho (ha E hE) (hb E hE) hm).mono fun σ H Q ⟨σW,S,QW,hσ,hS,ht,hQ⟩=>by
  refine zdH (Q:=fun v H1=>∃k,v= .bl k∧Q k H1) ⟨σW,S,fun w S'=>match w with
   | .bl b=>QW b S'
   |_=>False,hσ,hS,ht,fun w S1 v H1 e1 r1 hS1 h1=>?_⟩ fun H2 x y wx wy S QW rx ry hS q hQ=>hw H2 x y wx wy S _ QW rx ry hS q hQ
  cases r1 with
  |bl k=>exact⟨k,rfl,hQ k S1 H1 e1 hS1 h1⟩
  |_=>exact h1.elim
theorem zcm (ha:JT X a tA):JT X (.UnaryOp .Not a pos) (zhl tA):=fun E hE=>
 (zoY (ha E hE)).mono fun σ H Q ⟨σW,S,QW,hσ,hS,ht,hQ⟩=>⟨σW,S,_,hσ,hS,ht,fun b S1 H1 e1 hS1 h1=>hQ _ S1 H1 e1 hS1 h1⟩
theorem JW.jt (h:JW X a tA):JT X a tA:=fun E hE=>(h E hE).pt
theorem zeT (ha:JT X a tA):JW X (.BoolOp .And [a] pos) tA:=fun E hE=>zna (ha E hE)
theorem zfq (ha:JT X a tA):JW X (.BoolOp .Or [a] pos) tA:=fun E hE=>znX (ha E hE)
theorem zho{rest:List Expr}(ha:JT X a tA) (hb:JW X (.BoolOp .And (b::rest) pos) tB'):JW X (.BoolOp .And (a::b::rest) pos) (znO tA tB'):=fun E hE=>
 (zqb (ha E hE) (hb E hE)).mono fun σ H Q ⟨σW,S,QW,hσ,hS,ht,hQ⟩=>⟨σW,S,_,hσ,hS,ht,fun b S1 H1 e1 hS1 h1=>by
  cases b with
  |true=>exact⟨σW,S1,_,hσ.ext e1,hS1,h1,fun b S2 H2 e2 hS2 h2=>hQ b S2 H2 (e1.trans e2) hS2 h2⟩
  |false=>exact hQ _ S1 H1 e1 hS1 h1⟩
theorem zjd{rest:List Expr}(ha:JT X a tA) (hb:JW X (.BoolOp .Or (b::rest) pos) tB'):JW X (.BoolOp .Or (a::b::rest) pos) (wOr tA tB'):=fun E hE=>
 (zqS (ha E hE) (hb E hE)).mono fun σ H Q ⟨σW,S,QW,hσ,hS,ht,hQ⟩=>⟨σW,S,_,hσ,hS,ht,fun b S1 H1 e1 hS1 h1=>by
  cases b with
  |false=>exact⟨σW,S1,_,hσ.ext e1,hS1,h1,fun b S2 H2 e2 hS2 h2=>hQ b S2 H2 (e1.trans e2) hS2 h2⟩
  |true=>exact hQ _ S1 H1 e1 hS1 h1⟩
theorem zdw{op}(h:JE X a ta):JE X (.BoolOp op [a] pos) ta:=fun E hE=>zqh (h E hE)
theorem zdi{rest:List Expr}(ha:JE X a ta) (hb:JE X (.BoolOp .And (b::rest) pos) tb):JE X (.BoolOp .And (a::b::rest) pos) (zea ta tb):=fun E hE=>
 (zoJ (ha E hE) (hb E hE)).mono fun σ H Q ⟨σW,S,QW,hσ,hS,ht,hQ⟩=>⟨σW,S,_,hσ,hS,ht,fun w S1 v H1 e1 r1 hS1 h1=>by
  cases r1 with
  |bl k=>
   refine⟨k,rfl,?_⟩;cases k with
   |true=>exact⟨σW,S1,_,hσ.ext e1,hS1,h1,hQ.from e1⟩
   |false=>exact hQ _ S1 _ H1 e1 (.bl false) hS1 h1
  |_=>exact h1.elim⟩
theorem zre{rest:List Expr}(ha:JE X a ta) (hb:JE X (.BoolOp .Or (b::rest) pos) tb):JE X (.BoolOp .Or (a::b::rest) pos) (zqs ta tb):=fun E hE=>
 (zqA (ha E hE) (hb E hE)).mono fun σ H Q ⟨σW,S,QW,hσ,hS,ht,hQ⟩=>⟨σW,S,_,hσ,hS,ht,fun w S1 v H1 e1 r1 hS1 h1=>by
  cases r1 with
  |bl k=>
   refine⟨k,rfl,?_⟩;cases k with
   |false=>exact⟨σW,S1,_,hσ.ext e1,hS1,h1,hQ.from e1⟩
   |true=>exact hQ _ S1 _ H1 e1 (.bl true) hS1 h1
  |_=>exact h1.elim⟩
theorem zpt (ha:JE X a ta):JE X (.UnaryOp .Not a pos) (zmn ta):=fun E hE=>
 (zqc (ha E hE)).mono fun σ H Q ⟨σW,S,QW,hσ,hS,ht,hQ⟩=>⟨σW,S,_,hσ,hS,ht,fun w S1 v H1 e1 r1 hS1 h1=>by
  cases r1 with
  |bl k=>exact⟨k,rfl,hQ _ S1 _ H1 e1 (.bl _) hS1 h1⟩
  |_=>exact h1.elim⟩
theorem zaH:JSs X [] zaZ:=fun E hE=>pss_nil.mono fun D σ H ⟨σW,S,DW,hσ,hS,ht,hD⟩=>hD.nx σW S σ H .refl hσ hS ht
theorem zad (h1:JS X st t) (h2:JSs X rest u):JSs X (st::rest) (zaE t u):=fun E hE=>
 (zlJ (h1 E hE) (h2 E hE)).mono fun D σ H ⟨σW,S,DW,hσ,hS,ht,hD⟩=>
  ⟨σW,S,{ DW with nx:=u E DW },hσ,hS,ht,⟨fun σW' S' σ' H' e r hS' q=>⟨σW',S',DW,r,hS',q,hD.from e⟩,hD.rt,hD.bk,hD.ct⟩⟩
theorem zai (h1:JS X st t):JSs X [st] t:=fun E hE=>zmN (h1 E hE)
theorem zlh:JS X st zlX:=fun E hE=>ps_never.mono fun D σ H ⟨σW,S,DW,hσ,hS,ht,hD⟩=>ht
theorem zdq (he:JE X e ta) (hs:swapsWith e none pos.line X.env=pure false:=by rfl):JS X (.Expr e pos) (zgc ta):=fun E hE=>
 (zmE (he E hE) hs).mono fun D σ H ⟨σW,S,DW,hσ,hS,ht,hD⟩=>⟨σW,S,_,hσ,hS,ht,fun w S1 v H1 e1 r1 hS1 h1=>hD.nx σW S1 σ H1 e1 (hσ.ext e1) hS1 h1⟩
theorem zaq (he:JE X e ta):JS X (.Return (some e) pos) (zby ta):=fun E hE=>
 (zpZ (he E hE)).mono fun D σ H ⟨σW,S,DW,hσ,hS,ht,hD⟩=>⟨σW,S,_,hσ,hS,ht,hD.rt⟩
theorem zbm{a b:List Stmt}(hc:JT X c tc) (ha:JSs X a t) (hb:JSs X b u):JS X (.If c a b pos) (zda tc t u):=fun E hE=>
 (zqu (hc E hE) (ha E hE) (hb E hE)).mono fun D σ H ⟨σW,S,DW,hσ,hS,ht,hD⟩=>⟨σW,S,_,hσ,hS,ht,fun k S1 H1 e1 hS1 h1=>by
  cases k with
  |true=>exact⟨σW,S1,DW,hσ.ext e1,hS1,h1,hD.from e1⟩
  |false=>exact⟨σW,S1,DW,hσ.ext e1,hS1,h1,hD.from e1⟩⟩
theorem zbh{i:Nat}{x:Str}(hN:X.N.Nodup) (hi:X.N[i]? =some x) (hx:Loc X.env.scope x) (hf:X.fn x=true∨X.env.scope.names.lookup x=some .local:=by first |exact .inl rfl |exact .inr rfl |assumption):JG X (.Name x pos) (wGN i):=fun E hE=>
 (zmA hN hi hx hf).mono fun v σ H Q ⟨w,σW,S,P,r,hσ,hS,ht,hP⟩=>hP _ S _ H .refl (hσ.set r i) hS ht
noncomputable def JGs (X:Cx) (tgs:List Expr) (t:WGs):Prop:=∀E,Hook X E→PGs X tgs (fun vs σ H Q=>∃ws σW S P,Reps X.K H ws vs∧RpSt X.K H σW σ∧RepS X.K H S∧t ws σW S P∧Goes X.K H S P Q)
theorem znt:JGs X [] zhY:=fun E hE pins s σ H vs us Q I r h=>by
 obtain⟨ws,σW,S,P,rs,hσ,hS,ht,hP⟩:=h;unfold zhY at ht;split at ht
 ·cases rs;exact zmT pins s σ H [] us Q I r ⟨rfl,hP σW S σ H .refl hσ hS ht⟩
 ·exact ht.elim
theorem zhq{es:List Expr}{g:WG}{gs:WGs}(h1:JG X e g) (h2:JGs X es gs)
  (hs:(assignEach (e::es) X.env).map (·.2)=assign e X.env::(assignEach es X.env).map (·.2):=by rfl):JGs X (e::es) (zdv g gs):=fun E hE pins s σ H vs us Q I r h=>by
 obtain⟨ws,σW,S,P,rs,hσ,hS,ht,hP⟩:=h;unfold zdv at ht;split at ht
 ·exact ht.elim
 ·cases rs with
  |cons r1 r2=>
   refine zkt (h1 E hE) (h2 E hE) hs pins s σ H _ us Q I r ⟨_,_,rfl,⟨_,σW,S,_,r1,hσ,hS,ht,fun σW' S' σ' H' e' rr hS' q=>?_⟩⟩;exact⟨_,σW',S',P,r2.ext e',rr,hS',q,hP.from e'⟩
theorem zoy{es:List Expr}{k n:Nat}{gs:WGs}(h:JGs X es gs) (hlen:∀ws σ S P,gs ws σ S P→ws.length=n)
  (hn:(assignEach es X.env).length=n:=by rfl) (hst:(assignEach es X.env).findIdx? (·.1)=none:=by rfl) (hcl:X.calm=true:=by rfl):JG X (.Tuple es k pos) (wGT gs):=fun E hE=>
 (zpS hcl (h E hE) hn hst).mono fun v σ H Q ⟨w,σW,S,P,r,hσ,hS,ht,hP⟩=>by
  cases r with
  |tup f hs=>exact⟨_,_,rfl, .of f,by rw [←hs.length];exact hlen _ _ _ _ ht,⟨_,σW,S,P,hs,hσ,hS,ht,hP⟩⟩
  |_=>exact ht.elim
theorem zap{i:Nat}{x:Str}{pos':Pos}(hN:X.N.Nodup) (hi:X.N[i]? =some x) (hx:Loc X.env.scope x) (he:JE X e ta) (hs:swapsWith e (some (.Name x pos')) pos.line X.env=pure false:=by rfl)
  (hf:X.fn x=true∨X.env.scope.names.lookup x=some .local:=by first |exact .inl rfl |exact .inr rfl |assumption):JS X (.Assign [.Name x pos'] e pos) (wAsg ta (wGN i)):=fun E hE=>
 (zou hN hi hx (he E hE) hs hf).mono fun D σ H ⟨σW,S,DW,hσ,hS,ht,hD⟩=>⟨σW,S,_,hσ,hS,ht,fun w S1 v H1 e1 r1 hS1 h1=>hD.nx _ S1 _ H1 e1 ((hσ.ext e1).set r1 i) hS1 h1⟩
end
noncomputable def waNil:WA:=fun _ _ S Q=>Q [] S
noncomputable def zab (t:WE) (u:WA):WA:=fun E σ S Q=>t E σ S fun w S1=>u E σ S1 fun ws S2=>Q (w::ws) S2
noncomputable def zgv (t:WA):WE:=fun E σ S Q=>t E σ S fun ws S1=>ws.length≤sizeLine∧Q (.tup ws) S1
noncomputable def zgt (t:WA):WL:=fun E σ S Q=>t E σ S fun ws S1=>ws.length≤sizeLine∧Q ws S1
noncomputable def zfJ (t:WL):WE:=fun E σ S Q=>t E σ S fun ws S1=>∀a,S1 a=none→Q (.ref a) (put S1 a (.lst ws))
section
variable {X:Cx}{e:Expr}{es:List Expr}{te:WE}{ta:WA}{tl:WL}{pos:Pos}
theorem zac:JA X [] waNil:=fun E hE=>pa_nil.mono fun σ H Q ⟨σW,S,QW,hσ,hS,ht,hQ⟩=>hQ [] S [] H .refl .nil hS ht
theorem zaa (ha:JE X e te) (hr:JA X es ta) (hs:starEach (e::es) X.env=(false,eval e X.env)::starEach es X.env:=by rfl):JA X (e::es) (zab te ta):=fun E hE=>
 (zcp (ha E hE) (hr E hE) hs).mono fun σ H Q ⟨σW,S,QW,hσ,hS,ht,hQ⟩=>⟨σW,S,_,hσ,hS,ht,fun w S1 v H1 e1 r1 hS1 h1=>⟨σW,S1,_,hσ.ext e1,hS1,h1,fun ws S2 vs H2 e2 r2 hS2 h2=>
  hQ (w::ws) S2 (v::vs) H2 (e1.trans e2) (.cons (r1.ext e2) r2) hS2 h2⟩⟩
theorem zbG{x1}(h:JA X es ta):JE X (.Tuple es x1 pos) (zgv ta):=fun E hE=>
 (zoD (h E hE)).mono fun σ H Q ⟨σW,S,QW,hσ,hS,ht,hQ⟩=>⟨σW,S,_,hσ,hS,ht,fun ws S1 vs H1 e1 r1 hS1 h1=>by
  refine⟨by rw [←r1.length];exact h1.1,fun p hp=>hQ (.tup ws) S1 _ _ (e1.trans (.new hp)) (.tup zau (r1.ext (.new (S:=S1) hp))) (hS1.new hp) h1.2⟩⟩
theorem zbJ (h:JA X es ta):JL X (.List es pos) (zgt ta):=fun E hE=>
 (zoo (h E hE)).mono fun σ H Q ⟨σW,S,QW,hσ,hS,ht,hQ⟩=>⟨σW,S,_,hσ,hS,ht,fun ws S1 vs H1 e1 r1 hS1 h1=>by
  refine⟨by rw [←r1.length];exact h1.1,fun p hp=>hQ ws S1 vs p _ (e1.trans (.new hp)) (e1.free hp) zau (hS1.free hp) (r1.ext (.new (S:=S1) hp)) (hS1.new hp) h1.2⟩⟩
theorem zbF (h:JL X e tl):JE X e (zfJ tl):=fun E hE=>
 (h E hE).mono fun σ H Q ⟨σW,S,QW,hσ,hS,ht,hQ⟩=>⟨σW,S,_,hσ,hS,ht,fun ws S1 vs a H1 e1 fa ea na r1 hS1 h1=>by
  refine hQ (.ref a) (put S1 a (.lst ws)) (.ref a) H1 ⟨e1.tup,e1.frz,fun b o q g=>by
   have hb:b≠a:=by rintro rfl;rw [fa]at q;cases q
   rw [zaU hb];exact e1.fr b o q g,e1.all⟩ (.ref a) (fun b o q=>?_) (h1 a na)
  by_cases hb:b=a
  ·subst hb;rw [zag]at q;cases q;exact⟨vs,ea,r1⟩
  ·rw [zaU hb]at q;exact hS1 b o q⟩
end
noncomputable def zaC (c:WSp) (t:WA):WE:=fun E σ S Q=>t E σ S fun ws S1=>c ws S1 Q fun cl S2=>E cl σ S2
noncomputable def zcV (n k:Nat) (body:WS):WSp:=fun ws S Q E=>ws.length=k∧body (fun c _ S'=>E c S') { nx:=fun _ S'=>∃S'',Sub S'' S'∧Q .non S'',rt:=fun w S'=>∃S'',Sub S'' S'∧Q w S'' } (ws.map some++List.replicate (n - k) none) S
section
variable {X:Cx}{k:Nat}{f:Addr}{fd:FuncData}{ps:List Str}{c:WSp}{x:Str}{p pos:Pos}{e:Expr}{es:List Expr}{t:WA}
theorem zal (F:FnOk X.prog X.w X.K X.mg X.base (CX1 X.prog X.w) k f fd ps (zaK X.K c)) (hr:Room k X.A) (hg:Gl X x) (hm:X.mg x=some (.ref f)) (hk:PySem.W.keepIn X.K (.ref f)=true) (hb:Binds X.K fd ps [])
  (ha:JA X (e::es) t) (hdb:(x == ("__debug__" :Str))=false:=by decide) (he:starEach (e::es) X.env=(false,eval e X.env)::starEach es X.env:=by rfl) (hpl:(backTo pos (starEach es X.env)).any (·.1)=false:=by rfl) :
  JE X (.Call (.Name x p) (e::es) [] pos) (zaC c t):=fun E hE pins s σ H Q I h=>by
 obtain⟨σW,S,QW,hσ,hS,ht,hQ⟩:=h;refine wpAny_Call_Name_kw (zfd I hg hm ?_ hdb);refine PySem.W.callWith_K (h₀:=X.base) I.ok.mod.kin hk (thn (ha E hE pos pins s σ H (fun vs H1=>∃ws S1,Reps X.K H1 ws vs∧RpSt X.K H1 σW σ∧RepS X.K H1 S1∧c ws S1 QW (fun cl S'=>E cl σW S')∧Wish X.K H1 S1 QW Q) I
  ⟨σW,S,_,hσ,hS,ht,fun ws S1 vs H1 e1 r1 hS1 h1=>⟨ws,S1,r1,hσ.ext e1,hS1,h1,hQ.from e1⟩⟩) fun us s1 ⟨vs,H1,I1,r,ws,S1,r1,hσ1,hS1,h1,hQ1⟩=>⟨I1.kIn,?_⟩) he hpl
 exact zmH F hr hb hE I1 r r1 hσ1 hS1 h1 hQ1
theorem zjU{K:PySem.W.Frag}{H:Hp}{N:List Str}{ws:List W}{vs:List V}(h:Reps K H ws vs):RpSt K H (ws.map some++List.replicate (N.length - ws.length) none) (zel N vs):=by
 have go:∀{ws:List W}{vs:List V}(m:Nat),Reps K H ws vs→RpSt K H (ws.map some++List.replicate m none) (vs.map some++List.replicate m none):=by
  intro ws
  induction ws with
  |nil=>
   intro vs m h;cases h
   induction m with
   |zero=>exact .nil
   |succ m ih=>exact .cons trivial ih
  |cons w ws ih=>
   intro vs m h;cases h with
   |cons r rs=>exact .cons r (ih m rs)
 unfold zel;rw [←h.length];exact go _ h
theorem zbn{P:Program}{w:World}{K:PySem.W.Frag}{mg:Str→Option Value}{base:Heap}{x qual:Str}{st:Stmt}{f:Addr}{fd:FuncData}{N ps:List Str}{r n k:Nat}{body:WS}(F:Fun K x qual st f fd) (S:FnScope N ps (zaj st)) (hn:N.length=n) (hk:ps.length=k)
  (hbody:∀(cdv:Value) (A:Around) (outer:List Env) (s:Shared) (H:Hp) (E:XK),Room r (A.deeper (envOfC qual (zaj st) s.heap.objs.size f cdv))→
   JSs (zmJ (CX1 P w) P w K mg base N qual (zaj st) f cdv A outer s H E) (zcW st) body):FnOk P w K mg base (CX1 P w) (r+1) f fd ps (zaK K (zcV n k body)):=by
 obtain⟨oc,od,kV,doc,pm,an,cdv,ct,osl,rfl,lk,hcd⟩:=F.ex;refine zqE lk hcd S (fun vs H Q E h=>?_) fun A outer s H vs Q E hr h=>?_
 ·obtain⟨ws,S,QW,EW,rs,_,h,_⟩:=h;rw [←rs.length,h.1,hk]
 ·obtain⟨ws,S',QW,EW,rs,hS,h,hQ,hEW⟩:=h;refine⟨_,hbody cdv A outer s H E hr (fun c _ S'=>EW c S') (zlb hEW),?_⟩;refine⟨_,S',{ nx:=fun _ S'=>∃S'',Sub S'' S'∧QW .non S'',rt:=fun w S'=>∃S'',Sub S'' S'∧QW w S'' },zjU (N:=N) rs,hS,by rw [hn,h.1];exact h.2,⟨fun σW S1 σ H1 e1 rr hS1 q=>?_,fun w S1 v H1 e1 rr hS1 q=>?_,fun _ _ _ _ _ _ _ q=>q,fun _ _ _ _ _ _ _ q=>q⟩⟩
  ·obtain⟨S2,sb,q⟩:=q;exact hQ .non S2 .non H1 (e1.trans (.drop sb)) .non (hS1.sub sb) q
  ·obtain⟨S2,sb,q⟩:=q;exact hQ w S2 v H1 (e1.trans (.drop sb)) rr (hS1.sub sb) q
end
noncomputable def zcn (C:Int→Int→Prop) (g:Int→Int→W):W2
 | .int i, .int j,S,Q=>C i j∧Q (g i j) S
 |_,_,_,_=>False
noncomputable def zgf (g:Int→Int→W):W2
 | .int i, .int j,S,Q=>Q (g i j) S
 |_,_,_,_=>False
theorem zeO{K:PySem.W.Frag}{C:Int→Int→Prop}{g:Int→Int→Int}:OpW K (rI C fun i j=> .int (g i j)) (zcn C fun i j=> .int (g i j)):=fun H x y wx wy S Q QW rx ry hS h hQ=>by
 cases rx<;>cases ry<;>first |exact⟨_,_,rfl,rfl,h.1,hQ _ S _ H .refl (.int _) hS h.2⟩ |exact h.elim
theorem zkK{K:PySem.W.Frag}{g:Int→Int→Int}:OpW K (rI0 fun i j=> .int (g i j)) (zgf fun i j=> .int (g i j)):=fun H x y wx wy S Q QW rx ry hS h hQ=>by
 cases rx<;>cases ry<;>first |exact⟨_,_,rfl,rfl,hQ _ S _ H .refl (.int _) hS h⟩ |exact h.elim
theorem zeU{K:PySem.W.Frag}{g:Int→Int→Bool}:OpW K (rI0 fun i j=> .bl (g i j)) (zgf fun i j=> .bl (g i j)):=fun H x y wx wy S Q QW rx ry hS h hQ=>by
 cases rx<;>cases ry<;>first |exact⟨_,_,rfl,rfl,hQ _ S _ H .refl (.bl _) hS h⟩ |exact h.elim
noncomputable def zco:W2
 | .int i, .int j,S,Q=>Q (.int (i+j)) S
 | .str x, .str y,S,Q=>x.length+y.length≤sizeLine∧Q (.str (x++y)) S
 | .tup xs, .tup ys,S,Q=>xs.length+ys.length≤sizeLine∧Q (.tup (xs++ys)) S
 | .ref a, .ref b,S,Q=>zbt S a fun xs=>zbt S b fun ys=>xs.length+ys.length≤sizeLine∧ ∀p,S p=none→Q (.ref p) (put S p (.lst (xs++ys)))
 |_,_,_,_=>False
section
variable {X:Cx}
theorem Reps.nil_r{K:PySem.W.Frag}{H:Hp}{ws:List W}(h:Reps K H ws []):ws=[]:=by cases h;rfl
theorem op_catT0:OpR X (binaryOp .Add) (fun x y H Q=>∃a b ys,x= .ref a∧y= .ref b∧SqT X.K H a []∧SqT X.K H b ys∧Q (.ref b) H):=by
 intro pins s σ H x y v u Q I rx ry h;obtain⟨a,b,ys,rfl,rfl,ha,hb,q⟩:=h;cases rx;cases ry;obtain⟨its,r1,p1,_⟩:=I.tuple ha;obtain⟨its2,r2,p2,_⟩:=I.tuple hb;cases r1;obtain⟨⟨cls,dd,data,sl⟩,ho,hc,n,hd⟩:=id p1;obtain⟨⟨cls2,dd2,data2,sl2⟩,ho2,hc2,n2,hd2⟩:=id p2;simp only at hc hd hc2 hd2;subst hc hd hc2 hd2;exact concat_meets ⟨_,ho,rfl⟩ ⟨_,ho2,rfl⟩ noFill_tuple_add seq_tuple_add PySem.F.slot_tuple_add PySem.F.entry_tuple_add (PySem.F.args_tuple_add_2 _ _)
   (tuple_addW0 a b _ _ n n2 dd dd2 sl sl2 (by simp)) ⟨ho,ho2,⟨.ref b,H,I,rfl,q⟩⟩
theorem zjE:OpR X (binaryOp .Add) (fun x y H Q=>(rI0 fun i j=> .int (i+j)) x y H Q∨(∃i j,x= .str i∧y= .str j∧i.length+j.length≤sizeLine∧Q (.str (i++j)) H)∨
  (∃a b ys,x= .ref a∧y= .ref b∧SqT X.K H a []∧SqT X.K H b ys∧Q (.ref b) H)∨zmL X.K x y H Q∨zqq x y H Q):=op_add.or (op_add_str.or (op_catT0.or (op_catT.or ziS)))
theorem zny{K:PySem.W.Frag}:OpW K (fun x y H Q=>(rI0 fun i j=> .int (i+j)) x y H Q∨(∃i j,x= .str i∧y= .str j∧i.length+j.length≤sizeLine∧Q (.str (i++j)) H)∨
  (∃a b ys,x= .ref a∧y= .ref b∧SqT K H a []∧SqT K H b ys∧Q (.ref b) H)∨zmL K x y H Q∨zqq x y H Q) zco:=fun H x y wx wy S Q QW rx ry hS h hQ=>by
 cases rx with
 |int i=>
  cases ry with
  |int j=>exact .inl ⟨i,j,rfl,rfl,hQ _ S _ H .refl (.int _) hS h⟩
  |_=>exact h.elim
 |str i=>
  cases ry with
  |str j=>exact .inr (.inl ⟨i,j,rfl,rfl,h.1,hQ _ S _ H .refl (.str _) hS h.2⟩)
  |_=>exact h.elim
 | @tup a vs ws f hs=>
  cases ry with
  | @tup b us zs g ks=>
   cases hs with
   |nil=>exact .inr (.inr (.inl ⟨a,b,us,rfl,rfl, .of f, .of g,hQ (.tup zs) S _ H .refl (.tup g ks) hS h.2⟩))
   |cons h1 h2=>
    refine .inr (.inr (.inr (.inl ⟨a,b,_,us,rfl,rfl, .of f, .of g,by simp,?_,fun e=>?_,fun e p hp=>?_⟩)))
    ·rw [←(Reps.cons h1 h2).length,←ks.length];exact h.1
    ·subst e;have e':=ks.nil_r;subst e';have q:=h.2;rw [List.append_nil]at q;exact hQ _ S _ H .refl (.tup f (.cons h1 h2)) hS q
    ·exact hQ _ S _ _ (.new hp) (.tup zau (((Reps.cons h1 h2).append ks).ext (.new (S:=S) hp))) (hS.new hp) h.2
  |_=>exact h.elim
 |ref a=>
  cases ry with
  |ref b=>
   obtain⟨xs,ea,h⟩:=zaT h;obtain⟨ys,eb,h⟩:=zaT h;obtain⟨vs,e1,r1⟩:=hS a _ ea;obtain⟨us,e2,r2⟩:=hS b _ eb;refine .inr (.inr (.inr (.inr ⟨a,b,vs,us,rfl,rfl,e1,e2,by rw [←r1.length,←r2.length];exact h.1,fun p hp=>?_⟩)))
   exact hQ _ _ _ _ (.newS hp) (.ref p) (hS.put_lst hp ((r1.append r2).ext (.new (S:=S) hp))) (h.2 p (hS.free hp))
  |_=>exact h.elim
 |_=>exact h.elim
variable {a b:Expr}{pos:Pos}{ta tb:WE}
theorem zaD (ha:JE X a ta) (hb:JE X b tb):JE X (.BinOp a .Add b pos) (wOp zco ta tb):=ziw zjE zny ha hb
theorem zpk (ha:JE X a ta) (hb:JE X b tb):JE X (.BinOp a .Sub b pos) (wOp (zgf fun i j=> .int (i - j)) ta tb):=ziw zpQ zkK ha hb
theorem zfD (ha:JE X a ta) (hb:JE X b tb):JE X (.BinOp a .Mult b pos) (wOp (zcn CMul fun i j=> .int (i*j)) ta tb):=ziw zpK zeO ha hb
theorem zds (ha:JE X a ta) (hb:JE X b tb):JE X (.BinOp a .FloorDiv b pos) (wOp (zcn zlS fun i j=> .int (i / j)) ta tb):=ziw znC zeO ha hb
theorem zbD (ha:JE X a ta) (hb:JE X b tb):JE X (.BinOp a .Mod b pos) (wOp (zcn (fun _ j=>0<j) fun i j=> .int (i % j)) ta tb):=ziw zpm zeO ha hb
theorem zft (ha:JE X a ta) (hb:JE X b tb):JE X (.BinOp a .Pow b pos) (wOp (zcn zmW fun i j=> .int (i ^ j.toNat)) ta tb):=ziw zpB zeO ha hb
noncomputable def znk (t:WE):WE:=fun E σ S Q=>t E σ S fun w S1=>match w with
 | .int i=>Q (.int (-i)) S1
 |_=>False
theorem zfZ (ha:JE X a ta):JE X (.UnaryOp .USub a pos) (znk ta):=fun E hE=>
 (zqC zop (ha E hE)).mono fun σ H Q ⟨σW,S,QW,hσ,hS,ht,hQ⟩=>⟨σW,S,_,hσ,hS,ht,fun w S1 v H1 e1 r1 hS1 h1=>by
  cases r1 with
  |int i=>exact⟨i,rfl,hQ _ S1 _ H1 e1 (.int _) hS1 h1⟩
  |_=>exact h1.elim⟩
noncomputable def zrD (t u:WE):WL:=fun E σ S Q=>t E σ S fun x S1=>u E σ S1 fun y S2=>match x,y with
 | .ref a, .ref b=>zbt S2 a fun xs=>zbt S2 b fun ys=>xs.length+ys.length≤sizeLine∧Q (xs++ys) S2
 |_,_=>False
end
noncomputable def zgP (f:W→W→Option Bool):List W→List W→Option Bool
 | [],[]=>some true
 | [],_=>some false
 |_,[]=>some false
 |x::xs,y::ys=>match f x y,zgP f xs ys with
  |some a,some b=>some (a&&b)
  |_,_=>none
noncomputable def eqF (S:Sto):Nat→W→W→Option Bool
 |0,_,_=>none
 |n+1,w,u=>match w,u with
  | .non, .non=>some true
  | .bl a, .bl b=>some (a == b)
  | .int a, .int b=>some (a == b)
  | .str a, .str b=>some (a == b)
  | .tup _, .int _=>some false
  | .int _, .tup _=>some false
  | .tup xs, .tup ys=>zgP (eqF S n) xs ys
  | .ref a, .ref b=>match S a with
   |some (.lst xs)=>match S b with
    |some (.lst ys)=>zgP (eqF S n) xs ys
    |_=>none
   |_=>none
  |_,_=>none
theorem zhU{f:W→W→Option Bool}:∀{xs ys:List W}{b:Bool},zgP f xs ys=some b→
  (∀j,j<xs.length→j<ys.length→ ∃c,f (xs.getD j .non) (ys.getD j .non)=some c)∧
  ((List.range (min xs.length ys.length)).all (fun j=>(f (xs.getD j .non) (ys.getD j .non)).getD true)&&xs.length == ys.length)=b
 | [],[],b,h=>by
  have:true=b:=Option.some.inj h;subst this;exact⟨fun j h=>absurd h (by simp),by simp⟩
 | [],y::ys,b,h=>by
  have:false=b:=Option.some.inj h;subst this;exact⟨fun j h=>absurd h (by simp),by simp⟩
 |x::xs,[],b,h=>by
  have:false=b:=Option.some.inj h;subst this;exact⟨fun j _ h=>absurd h (by simp),by simp⟩
 |x::xs,y::ys,b,h=>by
  unfold zgP at h;split at h
  ·rename_i c d e1 e2;have hb:(c&&d)=b:=Option.some.inj h;obtain⟨h1,h2⟩:=zhU e2;refine⟨fun j j1 j2=>?_,?_⟩
   ·cases j with
    |zero=>exact⟨c,by simpa using e1⟩
    |succ j=>simpa using h1 j (by simpa using j1) (by simpa using j2)
   ·have hm:min (xs.length+1) (ys.length+1)=min xs.length ys.length+1:=by omega
    have hl:(xs.length+1 == ys.length+1)=(xs.length == ys.length):=by simp
    rw [List.length_cons,List.length_cons,hm,List.range_succ_eq_map,List.all_cons,List.all_map,hl];have q:((fun j=>(f ((x::xs).getD j .non) ((y::ys).getD j .non)).getD true)∘Nat.succ)=fun j=>(f (xs.getD j .non) (ys.getD j .non)).getD true:=by
     funext j;simp
    rw [q,Bool.and_assoc,h2];have q0:(f ((x::xs).getD 0 .non) ((y::ys).getD 0 .non)).getD true=c:=by simp [e1]
    rw [q0,hb]
  ·cases h
section
variable {X:Cx}{pins:List (Addr×Obj)}{σ:St}{H:Hp}{s:Shared}{S:Sto}
theorem zeP (I:Inv X pins σ H s):∀(n:Nat) {wx wy:W}{v:V}{b:Bool},Rep X.K H wx v→Rep X.K H wy v→RepS X.K H S→eqF S n wx wy=some b→b=true
 |0,_,_,_,_,_,_,_,h=>by cases h
 |n+1,wx,wy,v,b,rx,ry,hS,h=>by
  have list:∀{ws us:List W}{vs:List V}{b:Bool},Reps X.K H ws vs→Reps X.K H us vs→zgP (eqF S n) ws us=some b→b=true:=by
   intro ws
   induction ws with
   |nil=>
    intro us vs b r1 r2 e;cases r1;cases r2;exact(Option.some.inj e).symm
   |cons w ws ih=>
    intro us vs b r1 r2 e;cases r1 with
    |cons a1 a2=>
     cases r2 with
     |cons c1 c2=>
      unfold zgP at e;split at e
      ·rename_i c d e1 e2;have q1:=zeP I n a1 c1 hS e1;have q2:=ih a2 c2 e2;have:=Option.some.inj e;rw [q1,q2]at this;exact this.symm
      ·cases e
  cases rx with
  |non=>cases ry;exact(Option.some.inj h).symm
  |bl k=>cases ry;have:=Option.some.inj h;simpa using this.symm
  |int k=>cases ry;have:=Option.some.inj h;simpa using this.symm
  |str k=>cases ry;have:=Option.some.inj h;simpa using this.symm
  |ref a=>
   cases ry with
   |ref _=>
    have h':(match S a with
     |some (.lst xs)=>match S a with
      |some (.lst ys)=>zgP (eqF S n) xs ys
      |_=>none
     |_=>none)=some b:=h
    cases e:S a with
    |none=>rw [e]at h';cases h'
    |some o=>
     rw [e]at h';cases o with
     |lst ws=>
      obtain⟨vs,_,r⟩:=hS a _ e;exact list r r h'
     |dct _=>cases h'
     |dk _=>cases h'
     |ins _ _=>cases h'
   |scr _=>cases h
   |tup _ _=>cases h
  |scr f=>cases ry<;>cases h
  |tup f hs=>
   cases ry with
   |ref _=>cases h
   |scr _=>cases h
   |tup g ks=>
    have e:=I.tuple_inj (.of f) (.of g);subst e;exact list hs ks h
theorem zfI{A:Around}:A.in1.units=A.units+1:=rfl
theorem zhE (I:Inv X pins σ H s) (hS:RepS X.K H S):∀(n:Nat) {A:Around}{wx wy:W}{x y:V}{u v:Value}{b:Bool},A.units+n<cLine→Rep X.K H wx x→Rep X.K H wy y→RelV x u→RelV y v→eqF S n wx wy=some b→
  SeqAt.EqAt A s u v b∧SeqAt.RcAt A s u v b∧SeqAt.RcNeAt A s u v (!b)
 |0,_,_,_,_,_,_,_,_,_,_,_,_,_,h=>by cases h
 |n+1,A,wx,wy,x,y,u,v,b,hu,rx,ry,ru,rv,h=>by
  have hu0:A.units<cLine:=by omega
  have items:∀{ws zs:List W}{xs ys:List V}{us vs:List Value}{b:Bool},Reps X.K H ws xs→Reps X.K H zs ys→Vals xs us→Vals ys vs→zgP (eqF S n) ws zs=some b→
    (∀j (h1:j<us.toArray.size) (h2:j<vs.toArray.size),SeqAt.EqAt A.in1 s us.toArray[j] vs.toArray[j] ((eqF S n (ws.getD j .non) (zs.getD j .non)).getD true))∧
    ((List.range (min us.toArray.size vs.toArray.size)).all (fun j=>(eqF S n (ws.getD j .non) (zs.getD j .non)).getD true)&&us.toArray.size == vs.toArray.size)=b:=by
   intro ws zs xs ys us vs b r1 r2 q1 q2 e;obtain⟨h1,h2⟩:=zhU e;have l1:=r1.length;have l2:=r2.length;have l3:=q1.length;have l4:=q2.length;refine⟨fun j j1 j2=>?_,?_⟩
   ·rw [List.size_toArray]at j1 j2;obtain⟨c,hc⟩:=h1 j (by omega) (by omega);have jw:j<ws.length:=by omega
    have jz:j<zs.length:=by omega
    obtain⟨x',ex,rx'⟩:=r1.get (List.getElem?_eq_getElem jw);obtain⟨y',ey,ry'⟩:=r2.get (List.getElem?_eq_getElem jz);obtain⟨u',eu,ru'⟩:=q1.get ex;obtain⟨v',ev,rv'⟩:=q2.get ey;have e1:us.toArray[j]=u':=by
     obtain⟨_,e⟩:=List.getElem?_eq_some_iff.mp eu;simpa using e
    have e2:vs.toArray[j]=v':=by
     obtain⟨_,e⟩:=List.getElem?_eq_some_iff.mp ev;simpa using e
    have g1:ws.getD j .non=ws[j]:=by rw [List.getD_eq_getElem?_getD,List.getElem?_eq_getElem jw];rfl
    have g2:zs.getD j .non=zs[j]:=by rw [List.getD_eq_getElem?_getD,List.getElem?_eq_getElem jz];rfl
    rw [e1,e2,hc];rw [g1,g2]at hc;exact(zhE I hS n (by rw [zfI];omega) rx' ry' ru' rv' hc).1
   ·rw [List.size_toArray,List.size_toArray,←l3,←l4,←l1,←l2];exact h2
  cases rx with
  |non=>
   cases(show u=Value.none from ru);cases ry with
   |non=>cases(show v=Value.none from rv);cases h;exact⟨.same _, .none_none, .none_none⟩
   |_=>cases h
  |bl k=>
   cases(show u=Value.bool k from ru);cases ry with
   |bl j=>cases(show v=Value.bool j from rv);cases h;exact⟨.bool_bool _ _, .bool_bool _ _, .bool_bool _ _⟩
   |_=>cases h
  |int k=>
   obtain⟨t0,rfl⟩:=ru;cases ry with
   |int j=>obtain⟨t,rfl⟩:=rv;cases h;exact⟨.int_int _ _ _ _, .int_int _ _ _ _, .int_int _ _ _ _⟩
   |tup f hs=>cases(show v=Value.ref _ from rv);cases h;obtain⟨its,_,p,_⟩:=I.tuple (.of f);exact⟨.int_tuple _ _ p hu0, .int_tuple _ _ p hu0, .int_tuple _ _ p hu0⟩
   |_=>cases h
  |str k=>
   obtain⟨t0,rfl⟩:=ru;cases ry with
   |str j=>obtain⟨t,rfl⟩:=rv;cases h;exact⟨.str_str _ _ _ _, .str_str _ _ _ _, .str_str _ _ _ _⟩
   |_=>cases h
  | @tup a xs ws f hs=>
   cases(show u=Value.ref a from ru);obtain⟨its,q1,p,_⟩:=I.tuple (.of f);cases ry with
   |int j=>obtain⟨t,rfl⟩:=rv;cases h;exact⟨.tuple_int _ _ p hu0, .tuple_int _ _ p hu0, .tuple_int _ _ p hu0⟩
   | @tup c ys zs g ks=>
    cases(show v=Value.ref c from rv);obtain⟨its2,q2,p2,_⟩:=I.tuple (.of g);obtain⟨h1,h2⟩:=items hs ks q1 q2 h;have rc:SeqAt.RcAt A s (.ref a) (.ref c) b:=by
     have:=SeqAt.RcAt.tuples p p2 hu0 h1;rw [h2]at this;exact this
    have rn:SeqAt.RcNeAt A s (.ref a) (.ref c) (!b):=by
     have:=SeqAt.RcNeAt.tuples p p2 hu0 h1;rw [h2]at this;exact this
    refine⟨?_,rc,rn⟩;by_cases e:a=c
    ·subst e;have:=zeP I (n+1) (.tup f hs) (.tup g ks) hS h;rw [this];exact .same _
    ·exact .of_refs e rc
   |_=>cases h
  |ref a=>
   cases(show u=Value.ref a from ru);cases ry with
   |ref c=>
    cases(show v=Value.ref c from rv);have h':(match S a with
     |some (.lst xs)=>match S c with
      |some (.lst ys)=>zgP (eqF S n) xs ys
      |_=>none
     |_=>none)=some b:=h
    cases e:S a with
    |none=>rw [e]at h';cases h'
    |some o=>
     rw [e]at h';cases o with
     |dct _=>cases h'
     |dk _=>cases h'
     |ins _ _=>cases h'
     |lst ws=>
      cases e2:S c with
      |none=>rw [e2]at h';cases h'
      |some o2=>
       rw [e2]at h';cases o2 with
       |dct _=>cases h'
       |dk _=>cases h'
       |ins _ _=>cases h'
       |lst zs=>
        obtain⟨xs,f,hs⟩:=hS a _ e;obtain⟨ys,g,ks⟩:=hS c _ e2;obtain⟨its,q1,p,_⟩:=I.list (.of f);obtain⟨its2,q2,p2,_⟩:=I.list (.of g);obtain⟨h1,h2⟩:=items hs ks q1 q2 h';have both:SeqAt.RcAt A s (.ref a) (.ref c) b∧SeqAt.RcNeAt A s (.ref a) (.ref c) (!b):=by
         by_cases hz:its.toArray.size=its2.toArray.size
         ·have t1:=SeqAt.RcAt.lists p.isList p2.isList hz hu0 h1;have t2:=SeqAt.RcNeAt.lists p.isList p2.isList hz hu0 h1;rw [←hz,Nat.min_self,beq_self_eq_true,Bool.and_true]at h2;rw [h2]at t1 t2;exact⟨t1,t2⟩
         ·have hz':(its.toArray.size != its2.toArray.size)=true:=by simpa using hz
          have hz2:(its.toArray.size == its2.toArray.size)=false:=by simpa using hz
          rw [hz2,Bool.and_false]at h2;subst h2;exact⟨.lists_lengths p.isList p2.isList hz' hu0, .lists_lengths p.isList p2.isList hz' hu0⟩
        refine⟨?_,both.1,both.2⟩;by_cases ee:a=c
        ·subst ee;have:=zeP I (n+1) (.ref a) (.ref a) hS h;rw [this];exact .same _
        ·exact .of_refs ee both.1
   |_=>cases h
  |scr f=>cases ry<;>cases h
end
noncomputable def oEq (neg:Bool):W2:=fun x y S Q=>match eqF S 60 x y with
 |some b=>Q (.bl (if neg then !b else b)) S
 |none=>False
noncomputable def zqt (K:PySem.W.Frag) (neg:Bool):R2:=fun x y H Q=>∃wx wy S b,Rep K H wx x∧Rep K H wy y∧RepS K H S∧eqF S 60 wx wy=some b∧Q (.bl (if neg then !b else b)) H
section
variable {X:Cx}
theorem zlO (hu:X.A.units+60<cLine):OpR X (compareOp .Eq) (zqt X.K false):=by
 intro pins s σ H x y v u Q I rx ry h;obtain⟨wx,wy,S,b,r1,r2,hS,e,q⟩:=h;exact(zhE I hS 60 hu r1 r2 rx ry e).2.1 _ _ _ _ ⟨.bl b,H,I,rfl,q⟩
theorem zlP (hu:X.A.units+60<cLine):OpR X (compareOp .NotEq) (zqt X.K true):=by
 intro pins s σ H x y v u Q I rx ry h;obtain⟨wx,wy,S,b,r1,r2,hS,e,q⟩:=h;exact(zhE I hS 60 hu r1 r2 rx ry e).2.2 _ _ _ _ ⟨.bl (!b),H,I,rfl,q⟩
theorem zhu{K:PySem.W.Frag}{neg:Bool}:OpW K (zqt K neg) (oEq neg):=fun H x y wx wy S Q QW rx ry hS h hQ=>by
 unfold oEq at h;split at h
 ·rename_i b e;exact⟨wx,wy,S,b,rx,ry,hS,e,hQ _ S _ H .refl (.bl _) hS h⟩
 ·exact h.elim
variable {a b c:Expr}{pos:Pos}{ta tb:WE}
theorem zfR{k:Nat}(hr:Room k X.A) (ha:JE X a ta) (hb:JE X b tb):JE X (.Compare a [.Eq] [b] pos) (wOp (oEq false) ta tb):=zlT (zlO (by have:=hr.units;omega)) zhu ha hb (nomark b)
theorem zqK{k:Nat}(hr:Room k X.A) (ha:JE X a ta) (hb:JE X b tb):JE X (.Compare a [.NotEq] [b] pos) (wOp (oEq true) ta tb):=zlT (zlP (by have:=hr.units;omega)) zhu ha hb (nomark b)
theorem zgn{k:Nat}(hr:Room k X.A) (ha:JE X a ta) (hb:JE X b tb):JT X (.Compare a [.Eq] [b] pos) (wTb (wOp (oEq false) ta tb)):=zeB (zlO (by have:=hr.units;omega)) zhu ha hb (nomark b)
theorem zle{k:Nat}(hr:Room k X.A) (ha:JE X a ta) (hb:JE X b tb):JT X (.Compare a [.NotEq] [b] pos) (wTb (wOp (oEq true) ta tb)):=zeB (zlP (by have:=hr.units;omega)) zhu ha hb (nomark b)
noncomputable abbrev oLt:W2:=zgf fun i j=> .bl (decide (i<j))
noncomputable abbrev oGt:W2:=zgf fun i j=> .bl (decide (j<i))
noncomputable abbrev oGe:W2:=zgf fun i j=> .bl (decide (j≤i))
noncomputable def oLe:W2
 | .int i, .int j,S,Q=>Q (.bl (decide (i≤j))) S
 | .str i, .str j,S,Q=>Q (.bl (!decide (j.cps.toList<i.cps.toList))) S
 |_,_,_,_=>False
theorem zmc{K:PySem.W.Frag}:OpW K (fun x y H Q=>rI0 (fun i j=> .bl (decide (i≤j))) x y H Q∨(∃i j,x= .str i∧y= .str j∧Q (.bl (!decide (j.cps.toList<i.cps.toList))) H)) oLe:=fun H x y wx wy S Q QW rx ry hS h hQ=>by
 cases rx with
 |int i=>
  cases ry with
  |int j=>exact .inl ⟨i,j,rfl,rfl,hQ _ S _ H .refl (.bl _) hS h⟩
  |_=>exact h.elim
 |str i=>
  cases ry with
  |str j=>exact .inr ⟨i,j,rfl,rfl,hQ _ S _ H .refl (.bl _) hS h⟩
  |_=>exact h.elim
 |_=>exact h.elim
theorem znU (ha:JE X a ta) (hb:JE X b tb):JT X (.Compare a [.Lt] [b] pos) (wTb (wOp oLt ta tb)):=zeB zqJ zeU ha hb (nomark b)
theorem zkv (ha:JE X a ta) (hb:JE X b tb):JT X (.Compare a [.Gt] [b] pos) (wTb (wOp oGt ta tb)):=zeB zqY zeU ha hb (nomark b)
theorem zqX (ha:JE X a ta) (hb:JE X b tb):JT X (.Compare a [.GtE] [b] pos) (wTb (wOp oGe ta tb)):=zeB zrc zeU ha hb (nomark b)
noncomputable def zdB (r r':W2) (a b c:WE):WE:=fun E σ S Q=>a E σ S fun x S1=>b E σ S1 fun y S2=>r x y S2 fun z S3=>match z with
 | .bl true=>c E σ S3 fun u S4=>r' y u S4 Q
 | .bl false=>Q (.bl false) S3
 |_=>False
noncomputable def oIs (neg:Bool):W2
 | .non, .non,S,Q=>Q (.bl (!neg)) S
 | .bl a, .bl b,S,Q=>Q (.bl (if neg then a != b else a == b)) S
 | .bl _, .non,S,Q=>Q (.bl neg) S
 | .int _, .non,S,Q=>Q (.bl neg) S
 | .str _, .non,S,Q=>Q (.bl neg) S
 | .tup _, .non,S,Q=>Q (.bl neg) S
 | .ref _, .non,S,Q=>Q (.bl neg) S
 |_,_,_,_=>False
end
noncomputable def inF (S:Sto) (x:W):List W→Option Bool
 | []=>some false
 |w::ws=>match eqF S 59 w x with
  |some a=>match inF S x ws with
   |some b=>some (a || b)
   |none=>none
  |none=>none
section
variable {X:Cx}{pins:List (Addr×Obj)}{σ:St}{H:Hp}{s:Shared}{S:Sto}
theorem zgT (I:Inv X pins σ H s) (hS:RepS X.K H S):∀(n:Nat) {w w' u:W}{v:V}{b b':Bool},Rep X.K H w v→Rep X.K H w' v→eqF S n w u=some b→eqF S n w' u=some b'→b=b'
 |0,_,_,_,_,_,_,_,_,h,_=>by cases h
 |n+1,w,w',u,v,b,b',r,r',h,h'=>by
  have list:∀{us ws zs:List W}{vs:List V}{b b':Bool},Reps X.K H ws vs→Reps X.K H zs vs→zgP (eqF S n) ws us=some b→zgP (eqF S n) zs us=some b'→b=b':=by
   intro us
   induction us with
   |nil=>
    intro ws zs vs b b' r1 r2 e1 e2;cases r1 with
    |nil=>cases r2;rw [e1]at e2;exact Option.some.inj e2
    |cons _ _=>cases r2 with
     |cons _ _=>have:=Option.some.inj e1;have:=Option.some.inj e2;subst_vars;rfl
   |cons u us ih=>
    intro ws zs vs b b' r1 r2 e1 e2;cases r1 with
    |nil=>cases r2;rw [e1]at e2;exact Option.some.inj e2
    |cons a1 a2=>
     cases r2 with
     |cons c1 c2=>
      unfold zgP at e1 e2;split at e1
      ·rename_i p q f1 f2;split at e2
       ·rename_i p' q' g1 g2;have h1:=zgT I hS n a1 c1 f1 g1;have h2:=ih a2 c2 f2 g2;rw [←Option.some.inj e1,←Option.some.inj e2,h1,h2]
       ·cases e2
      ·cases e1
  have nolist:∀{a:Addr}{vs:List V}{ws:List W},H a=some (.tup vs)→S a=some (.lst ws)→False:=fun f e=>by
   obtain⟨_,g,_⟩:=hS _ _ e;rw [f]at g;cases g
  cases r with
  |non=>cases r';rw [h]at h';exact Option.some.inj h'
  |bl k=>cases r';rw [h]at h';exact Option.some.inj h'
  |int k=>cases r';rw [h]at h';exact Option.some.inj h'
  |str k=>cases r';rw [h]at h';exact Option.some.inj h'
  |scr f=>cases u<;>cases h
  | @tup a vs ws f hs=>
   cases r' with
   | @tup _ us zs g ks=>
    rw [f]at g;cases g;cases u with
    |tup us=>exact list hs ks h h'
    |int _=>have:=Option.some.inj h;have:=Option.some.inj h';subst_vars;rfl
    |_=>cases h
   |scr _=>cases u<;>cases h'
   |ref _=>
    exfalso;cases u with
    |ref c=>
     have h2:(match S a with
      |some (.lst xs)=>match S c with
       |some (.lst ys)=>zgP (eqF S n) xs ys
       |_=>none
      |_=>none)=some b':=h'
     split at h2
     ·exact nolist f ‹_›
     ·cases h2
    |_=>cases h'
  |ref a=>
   cases r' with
   |ref _=>rw [h]at h';exact Option.some.inj h'
   |scr _=>cases u<;>cases h'
   |tup f hs=>
    exfalso;cases u with
    |ref c=>
     have h2:(match S a with
      |some (.lst xs)=>match S c with
       |some (.lst ys)=>zgP (eqF S n) xs ys
       |_=>none
      |_=>none)=some b:=h
     split at h2
     ·exact nolist f ‹_›
     ·cases h2
    |_=>cases h
open Classical in
theorem zlY (I:Inv X pins σ H s) (hS:RepS X.K H S) {A:Around}{ws:List W}{vs:List V}{us:List Value}{wx:W}{x:V}{u:Value}{b:Bool}(hu:A.units+60<cLine) (r:Reps X.K H ws vs) (rv:Vals vs us) (rx:Rep X.K H wx x) (ru:RelV x u) (h:inF S wx ws=some b) :
  ∃e:Value→Bool,(∀y,y∈us.toArray→SeqAt.EqAt A.in1 s y u (e y))∧us.toArray.any e=b:=by
 refine⟨fun y=>decide (∃w v,Rep X.K H w v∧RelV v y∧eqF S 59 w wx=some true),?_,?_⟩
 ·have go:∀{ws:List W}{vs:List V}{us:List Value}{b:Bool},Reps X.K H ws vs→Vals vs us→inF S wx ws=some b→ ∀y∈us,SeqAt.EqAt A.in1 s y u (decide (∃w v,Rep X.K H w v∧RelV v y∧eqF S 59 w wx=some true)):=by
   intro ws
   induction ws with
   |nil=>intro vs us b r rv h y hy;cases r;cases rv;cases hy
   |cons w ws ih=>
    intro vs us b r rv h y hy;cases r with
    |cons r1 r2=>
     cases rv with
     |cons q1 q2=>
      unfold inF at h;split at h
      ·rename_i c e1;split at h
       ·rename_i d e2;rcases List.mem_cons.mp hy with rfl |hy
        ·have ok:=(zhE I hS 59 (A:=A.in1) (by rw [zfI];omega) r1 rx q1 ru e1).1;have ec:c=decide (∃w v,Rep X.K H w v∧RelV v y∧eqF S 59 w wx=some true):=by
          cases c with
          |true=>exact(decide_eq_true ⟨w,_,r1,q1,e1⟩).symm
          |false=>
           symm;refine decide_eq_false fun⟨w',v',r',q',e'⟩=>?_;have:=RelV.inj q' q1;subst this;exact absurd (zgT I hS 59 r1 r' e1 e') (by simp)
         rw [←ec];exact ok
        ·exact ih r2 q2 e2 y hy
       ·cases h
      ·cases h
  intro y hy;exact go r rv h y (by simpa using hy)
 ·have go:∀{ws:List W}{vs:List V}{us:List Value}{b:Bool},Reps X.K H ws vs→Vals vs us→inF S wx ws=some b→us.any (fun y=>decide (∃w v,Rep X.K H w v∧RelV v y∧eqF S 59 w wx=some true))=b:=by
   intro ws
   induction ws with
   |nil=>intro vs us b r rv h;cases r;cases rv;exact Option.some.inj h
   |cons w ws ih=>
    intro vs us b r rv h;cases r with
    |cons r1 r2=>
     cases rv with
     | @cons _ _ _ _ q1 q2=>
      rename_i y _;unfold inF at h;split at h
      ·rename_i c e1;split at h
       ·rename_i d e2;have ec:decide (∃w v,Rep X.K H w v∧RelV v y∧eqF S 59 w wx=some true)=c:=by
          cases c with
          |true=>exact decide_eq_true ⟨w,_,r1,q1,e1⟩
          |false=>
           refine decide_eq_false fun⟨w',v',r',q',e'⟩=>?_;have:=RelV.inj q' q1;subst this;exact absurd (zgT I hS 59 r1 r' e1 e') (by simp)
        rw [List.any_cons,ih r2 q2 e2,ec];exact Option.some.inj h
       ·cases h
      ·cases h
  have:=go r rv h;simpa using this
end
noncomputable def oIn (neg:Bool):W2:=fun x y S Q=>match y with
 | .str j=>match x with
  | .str i=>Q (.bl (if neg then !(!(Builtin.Str.occurrences j i 0 j.length 1).isEmpty) else !(Builtin.Str.occurrences j i 0 j.length 1).isEmpty)) S
  |_=>False
 | .tup ws=>match inF S x ws with
  |some b=>Q (.bl (if neg then !b else b)) S
  |none=>False
 | .ref a=>zbt S a fun ws=>match inF S x ws with
  |some b=>Q (.bl (if neg then !b else b)) S
  |none=>False
 |_=>False
noncomputable def zrM (K:PySem.W.Frag) (neg:Bool):R2:=fun x y H Q=>∃wx ws vs S p b,y= .ref p∧(SqL K H p vs∨SqT K H p vs)∧Reps K H ws vs∧Rep K H wx x∧RepS K H S∧inF S wx ws=some b∧Q (.bl (if neg then !b else b)) H
section
variable {X:Cx}{a b:Expr}{pos:Pos}{ta tb:WE}
theorem ziG (hu:X.A.units+60<cLine):OpR X (compareOp .NotIn) (zrM X.K true):=by
 intro pins s σ H x y v u Q I rx ry h;obtain⟨wx,ws,vs,S,p,b,rfl,hq,rs,r,hS,e,q⟩:=h;cases ry;rcases hq with hq |hq
 ·obtain⟨its,rv,p,_⟩:=I.list hq;obtain⟨f,h1,h2⟩:=zlY I hS hu rs rv r rx e;exact SeqAt.notIn_listAt f p.isList h1 (by rw [h2];exact⟨.bl (!b),H,I,rfl,q⟩)
 ·obtain⟨its,rv,p,_⟩:=I.tuple hq;obtain⟨f,h1,h2⟩:=zlY I hS hu rs rv r rx e;exact SeqAt.notIn_tupleAt f p h1 (by rw [h2];exact⟨.bl (!b),H,I,rfl,q⟩)
theorem zih{K:PySem.W.Frag}{neg:Bool}{H:Hp}{x y:V}{wx wy:W}{S:Sto}{Q:VK}{QW:WK}(rx:Rep K H wx x) (ry:Rep K H wy y) (hS:RepS K H S) (h:oIn neg wx wy S QW) (hQ:Wish K H S QW Q) :
  (∃i j,x= .str i∧y= .str j∧Q (.bl (if neg then !(!(Builtin.Str.occurrences j i 0 j.length 1).isEmpty) else !(Builtin.Str.occurrences j i 0 j.length 1).isEmpty)) H)∨zrM K neg x y H Q:=by
 cases ry with
 |str j=>
  cases rx with
  |str i=>exact .inl ⟨i,j,rfl,rfl,hQ _ S _ H .refl (.bl _) hS h⟩
  |_=>exact h.elim
 |tup f hs=>
  refine .inr ?_;unfold oIn at h;dsimp only at h;split at h
  ·exact⟨wx,_,_,S,_,_,rfl, .inr (.of f),hs,rx,hS, ‹_›,hQ _ S _ H .refl (.bl _) hS h⟩
  ·exact h.elim
 |ref a=>
  refine .inr ?_;obtain⟨ws,e,h⟩:=zaT h;obtain⟨vs,f,hs⟩:=hS a _ e;split at h
  ·exact⟨wx,_,_,S,_,_,rfl, .inl (.of f),hs,rx,hS, ‹_›,hQ _ S _ H .refl (.bl _) hS h⟩
  ·exact h.elim
 |_=>exact h.elim
theorem zky{k:Nat}(hr:Room k X.A) (ha:JE X a ta) (hb:JE X b tb) (hm:behindInMarks .NotIn b=false:=by with_unfolding_all rfl):JT X (.Compare a [.NotIn] [b] pos) (wTb (wOp (oIn true) ta tb)):=
 zeB (op_notin_str.or (ziG (by have:=hr.units;omega))) (fun H x y wx wy S Q QW rx ry hS h hQ=>zih rx ry hS h hQ) ha hb hm
end
noncomputable def oIx:W2:=fun x y S Q=>match y with
 | .int i=>match x with
  | .tup ws=>match atI ws i with
   |some w=>Q w S
   |none=>False
  | .ref a=>zbt S a fun ws=>match atI ws i with
   |some w=>Q w S
   |none=>False
  | .scr ns=>match atI ns i with
   |some n=>Q (.int n) S
   |none=>False
  | .str x=>x.length≤sizeLine∧match atI x.cps.toList i with
   |some c=>Q (.str ⟨#[c]⟩) S
   |none=>False
  |_=>False
 |_=>False
theorem zgG{K:PySem.W.Frag}{H:Hp}{ws:List W}{vs:List V}{i:Int}{w:W}(r:Reps K H ws vs) (e:atI ws i=some w):∃v,atI vs i=some v∧Rep K H w v:=by
 unfold atI at e⊢;rw [←r.length];cases q:ixN ws.length i with
 |none=>rw [q]at e;cases e
 |some j=>rw [q]at e;exact r.get e
theorem znm{α β:Type}{f:α→β}{xs:List α}{i:Int}{x:α}(e:atI xs i=some x):atI (xs.map f) i=some (f x):=by
 unfold atI at e⊢;rw [List.length_map];cases q:ixN xs.length i with
 |none=>rw [q]at e;cases e
 |some j=>
  rw [q]at e;show(xs.map f)[j]? =_;rw [List.getElem?_map,show xs[j]? =some x from e];rfl
theorem zqg{K:PySem.W.Frag}:OpW K (rIx K) oIx:=fun H x y wx wy S Q QW rx ry hS h hQ=>by
 cases ry with
 |int i=>
  cases rx with
  |tup f hs=>
   unfold oIx at h;dsimp only at h;split at h
   ·obtain⟨v,ev,r⟩:=zgG hs ‹_›;exact .inr (.inl ⟨_,_,i,v,rfl,rfl, .of f,ev,hQ _ S _ H .refl r hS h⟩)
   ·exact h.elim
  |ref a=>
   obtain⟨ws,e,h⟩:=zaT h;obtain⟨vs,f,hs⟩:=hS a _ e;split at h
   ·obtain⟨v,ev,r⟩:=zgG hs ‹_›;exact .inl ⟨_,_,i,v,rfl,rfl, .of f,ev,hQ _ S _ H .refl r hS h⟩
   ·exact h.elim
  |scr f=>
   unfold oIx at h;dsimp only at h;split at h
   ·exact .inl ⟨_,_,i,_,rfl,rfl,f.sq,znm ‹_›,hQ _ S _ H .refl (.int _) hS h⟩
   ·exact h.elim
  |str z=>
   unfold oIx at h;dsimp only at h;obtain⟨hz,h⟩:=h;split at h
   ·exact .inr (.inr ⟨z,i,_,rfl,rfl,hz, ‹_›,hQ _ S _ H .refl (.str _) hS h⟩)
   ·exact h.elim
  |_=>exact h.elim
 |_=>exact h.elim
section
variable {X:Cx}{a b e:Expr}{pos p2:Pos}{ta tb te:WE}{lo hi:Option Expr}
theorem zaP (ha:JE X a ta) (hb:JE X b tb) (hs:zhh b:=by intro _ _;rfl):JE X (.Subscript a b pos) (wOp oIx ta tb):=fun E hE=>
 (zpq zmf (ha E hE) (hb E hE) hs).mono fun σ H Q h=>zdH h fun H2 x y wx wy S QW rx ry hS q hQ=>zqg H2 x y wx wy S Q QW rx ry hS q hQ
noncomputable abbrev WO:=WX→WSt→Sto→(Option Int→Sto→Prop)→Prop
noncomputable def zqR (K:PySem.W.Frag) (t:WSt→Sto→(Option Int→Sto→Prop)→Prop):TO:=fun σ H Q=>∃σW S QW,RpSt K H σW σ∧RepS K H S∧t σW S QW∧ ∀b S' H',Ext H S H' S'→RepS K H' S'→QW b S'→Q b H'
noncomputable def JO (X:Cx) (e:Option Expr) (t:WO):Prop:=∀E,Hook X E→PO X e (zqR X.K (t E))
noncomputable def woN:WO:=fun _ _ S Q=>Q none S
noncomputable def woS (t:WE):WO:=fun E σ S Q=>t E σ S fun w S1=>match w with
 | .int i=>Q (some i) S1
 |_=>False
theorem PO.mono{X:Cx}{e:Option Expr}{t t':TO}(h:PO X e t) (q:∀σ H Q,t' σ H Q→t σ H Q):PO X e t':=fun pins s σ H Q I z=>h pins s σ H Q I (q σ H Q z)
theorem zbu:JO X none woN:=fun E hE=>po_none.mono fun σ H Q ⟨σW,S,QW,hσ,hS,ht,hQ⟩=>hQ none S H .refl hS ht
theorem zaz (h:JE X e te):JO X (some e) (woS te):=fun E hE=>(zmv (h E hE)).mono fun σ H Q ⟨σW,S,QW,hσ,hS,ht,hQ⟩=>⟨σW,S,_,hσ,hS,ht,fun w S1 v H1 e1 r1 hS1 h1=>by
 cases r1 with
 |int i=>exact⟨i,rfl,hQ _ S1 H1 e1 hS1 h1⟩
 |_=>exact h1.elim⟩
noncomputable def zbq {α:Type}(xs:List α) (lo hi:Option Int):List α:=(xs.drop (HT.sIx xs.length 0 lo)).take (HT.sIx xs.length xs.length hi - HT.sIx xs.length 0 lo)
theorem zeN{K:PySem.W.Frag}{H:Hp}{ws:List W}{vs:List V}{lo hi:Option Int}(r:Reps K H ws vs):Reps K H (zbq ws lo hi) (zje vs lo hi):=by
 unfold zbq zje;rw [r.length];exact(r.drop _).take _
theorem zhF{α β:Type}{f:α→β}{xs:List α}{lo hi:Option Int}:zbq (xs.map f) lo hi=(zbq xs lo hi).map f:=by
 unfold zbq;rw [List.length_map,List.map_take,List.map_drop]
theorem zcU{prog:Program}{w:World}{A:Around}{E:Value→Shared→Prop}{s:Shared}{t sl:Addr}{items:Array Value}{vl vu:Value}{lo hi:Option Int}{Q:Value→Shared→Prop}(ht:IsTup s.heap t items) (hs:s.heap.IsSliceOf sl vl vu .none) (pl:IsPart vl lo) (pu:IsPart vu hi)
  (hw:HT.sIx items.size 0 lo=0∧HT.sIx items.size items.size hi=items.size) (h:Q (.ref t) s):wpAny (model prog w) A (getItem (.ref t) (.ref sl)) Q E s:=by
 obtain⟨os,hos,hcs,hds⟩:=id hs;have hTs:s.TypeIs (.ref sl) "slice" :=⟨os,hos,hcs⟩;unfold getItem
 try with_reducible refine wpAny_holding ?_
 first |refine wpAny_bind (wpAny_pure ?_) |skip
 refine wpAny_bind (wpAny_sequenceKey ht.typeIs (by decide) ?_);refine wpAny_bind (wpAny_callSpecial?_slot (name:=Str.ofString "__getitem__") ht.typeIs PyProof.Rows.slot_tuple_getitem
  (wpAny_call_entry PyProof.Rows.slot_tuple_getitem ht.typeIs entry_tuple_getitem ?_ (args_tuple_getitem _ _)))
 show wpAny _ _ (Builtin.Tuple.tupleItemsOf (.ref t) >>= _) _ _ s;refine wpAny_bind (tupleItemsOf_ ht ?_);refine wpAny_bind (wpAny_typeOf hTs ?_);rw [if_pos (by decide)];refine wpAny_bind (HT.sliceApplied_gen hs pl pu ?_);show wpAny _ _ (if(((HT.sIx items.size 0 lo:Nat):Int) == 0&&(1:Int) == 1&&(HT.sIx items.size items.size hi - HT.sIx items.size 0 lo) == items.size)=true then _ else _) _ _ s;rw [hw.1,hw.2,if_pos (by simp)];unfold Builtin.Tuple.tupleIsExact;refine wpAny_bind (wpAny_bind (wpAny_typeOf ht.typeIs (wpAny_pure ?_)));rw [if_pos (by decide)];exact wpAny_bind (wpAny_rule (wpAny_pure ⟨_,rfl,wpAny_pure h⟩))
theorem sl_tupW:SlR X (fun x lo hi H Q=>∃a xs,x= .ref a∧SqT X.K H a xs∧((HT.sIx xs.length 0 lo=0∧HT.sIx xs.length xs.length hi=xs.length)∧Q (.ref a) H∨ ¬(HT.sIx xs.length 0 lo=0∧HT.sIx xs.length xs.length hi=xs.length)∧ ∀p,H p=none→Q (.ref p) (upd H p (.tup (zje xs lo hi))))):=by
 intro pins s σ H x v vl vu lo hi sl Q I rx hs pl pu h;obtain⟨a,xs,rfl,hx,⟨hw,q⟩ |⟨hw,q⟩⟩:=h
 ·cases rx;obtain⟨its,r,ht,hz⟩:=I.tuple hx;have hlen:its.toArray.size=xs.length:=by rw [List.size_toArray];exact r.length.symm
  refine⟨"tuple",_,PyProof.Rows.slot_tuple_getitem.lookup,ht.typeIs,?_⟩;exact zcU ht hs pl pu (by rw [hlen];exact hw) ⟨.ref a,H,I,rfl,q⟩
 ·exact zot pins s σ H _ v vl vu lo hi sl Q I rx hs pl pu ⟨a,xs,rfl,hx,hw,q⟩
noncomputable def oSl:W→Option Int→Option Int→Sto→WK→Prop
 | .tup ws,lo,hi,S,Q=>Q (.tup (zbq ws lo hi)) S
 | .str z,lo,hi,S,Q=>z.length≤sizeLine∧Q (.str (Txt.slice z lo hi)) S
 | .ref a,lo,hi,S,Q=>zbt S a fun ws=>∀p,S p=none→Q (.ref p) (put S p (.lst (zbq ws lo hi)))
 | .scr ns,lo,hi,S,Q=>∀p,S p=none→Q (.ref p) (put S p (.lst ((zbq ns lo hi).map W.int)))
 |_,_,_,_,_=>False
noncomputable def wSl (t:WE) (l h:WO):WE:=fun E σ S Q=>t E σ S fun x S1=>l E σ S1 fun lo S2=>h E σ S2 fun hi S3=>oSl x lo hi S3 Q
theorem zif{α:Type}{xs:List α}{lo hi:Option Int}(h:HT.sIx xs.length 0 lo=0∧HT.sIx xs.length xs.length hi=xs.length):zbq xs lo hi=xs:=by
 unfold zbq;rw [h.1,h.2,List.drop_zero,Nat.sub_zero,List.take_length]
theorem zcR{tl th:WO}(he:JE X e te) (hl:JO X lo tl) (hh:JO X hi th):JE X (.Subscript e (.Slice lo hi none p2) pos) (wSl te tl th):=fun E hE=>
 (zhy (sl_tupW.or (sl_str.or ziP)) (he E hE) (hl E hE) (hh E hE)).mono fun σ H Q ⟨σW,S,QW,hσ,hS,ht,hQ⟩=>
  ⟨σW,S,_,hσ,hS,ht,fun w S1 v H1 e1 r1 hS1 h1=>⟨σW,S1,_,hσ.ext e1,hS1,h1,fun lo S2 H2 e2 hS2 h2=>⟨σW,S2,_,(hσ.ext e1).ext e2,hS2,h2,fun hi S3 H3 e3 hS3 h3=>by
   have hQ':=hQ.from (e1.trans (e2.trans e3));have r3:=(r1.ext e2).ext e3;cases r3 with
   | @tup a vs ws f hs=>
    refine .inl ⟨a,vs,rfl, .of f,?_⟩;by_cases hw:HT.sIx vs.length 0 lo=0∧HT.sIx vs.length vs.length hi=vs.length
    ·refine .inl ⟨hw,hQ' (.tup ws) S3 _ H3 .refl (.tup f hs) hS3 ?_⟩;have:=zif (xs:=ws) (lo:=lo) (hi:=hi) (by rw [hs.length];exact hw);have h3':QW (.tup (zbq ws lo hi)) S3:=h3;rw [this]at h3';exact h3'
    ·exact .inr ⟨hw,fun p hp=>hQ' _ S3 _ _ (.new hp) (.tup zau ((zeN hs).ext (.new (S:=S3) hp))) (hS3.new hp) h3⟩
   |str z=>exact .inr (.inl ⟨z,rfl,h3.1,hQ' _ S3 _ H3 .refl (.str _) hS3 h3.2⟩)
   |ref a=>
    obtain⟨ws,ea,h⟩:=zaT h3;obtain⟨vs,f,hs⟩:=hS3 a _ ea;exact .inr (.inr ⟨a,vs,rfl, .of f,fun p hp=>hQ' _ _ _ _ (.newS hp) (.ref p) (hS3.put_lst hp ((zeN hs).ext (.new (S:=S3) hp))) (h p (hS3.free hp))⟩)
   | @scr a ns f=>
    refine .inr (.inr ⟨a,_,rfl,f.sq,fun p hp=>hQ' _ _ _ _ (.newS hp) (.ref p) (hS3.put_lst hp ?_) (h3 p (hS3.free hp))⟩);have q:zje (ns.map V.int) lo hi=(zbq ns lo hi).map V.int:=zhF;rw [q];exact Reps.ofInts _
   |_=>exact h3.elim⟩⟩⟩
noncomputable def zoI (t:WE) (l h:WO):WL:=fun E σ S Q=>t E σ S fun x S1=>l E σ S1 fun lo S2=>h E σ S2 fun hi S3=>match x with
 | .ref a=>zbt S3 a fun ws=>Q (zbq ws lo hi) S3
 | .scr ns=>Q ((zbq ns lo hi).map W.int) S3
 |_=>False
theorem zmS{tl th:WO}(he:JE X e te) (hl:JO X lo tl) (hh:JO X hi th):JL X (.Subscript e (.Slice lo hi none p2) pos) (zoI te tl th):=fun E hE=>
 (zhy ziP (he E hE) (hl E hE) (hh E hE)).mono fun σ H Q ⟨σW,S,QW,hσ,hS,ht,hQ⟩=>
  ⟨σW,S,_,hσ,hS,ht,fun w S1 v H1 e1 r1 hS1 h1=>⟨σW,S1,_,hσ.ext e1,hS1,h1,fun lo S2 H2 e2 hS2 h2=>⟨σW,S2,_,(hσ.ext e1).ext e2,hS2,h2,fun hi S3 H3 e3 hS3 h3=>by
   have e':=e1.trans (e2.trans e3);have r3:=(r1.ext e2).ext e3;cases r3 with
   |ref a=>
    obtain⟨ws,ea,h⟩:=zaT h3;obtain⟨vs,f,hs⟩:=hS3 a _ ea;exact⟨a,vs,rfl, .of f,fun p hp=>hQ _ S3 _ p _ (e'.trans (.new hp)) (e'.free hp) zau (hS3.free hp) ((zeN hs).ext (.new (S:=S3) hp)) (hS3.new hp) h⟩
   | @scr a ns f=>
    refine⟨a,_,rfl,f.sq,fun p hp=>hQ _ S3 _ p _ (e'.trans (.new hp)) (e'.free hp) zau (hS3.free hp) ?_ (hS3.new hp) h3⟩;have q:zje (ns.map V.int) lo hi=(zbq ns lo hi).map V.int:=zhF;rw [q];exact Reps.ofInts _
   |_=>exact h3.elim⟩⟩⟩
end
noncomputable abbrev WF:=List W→Sto→WK→Prop
noncomputable def wB (f:WF) (t:WA):WE:=fun E σ S Q=>t E σ S fun ws S1=>f ws S1 Q
noncomputable def zhd (K:PySem.W.Frag) (r:List V→Hp→VK→Prop) (f:WF):Prop:=∀H vs ws S (Q:VK) (QW:WK),Reps K H ws vs→RepS K H S→f ws S QW→Wish K H S QW Q→r vs H Q
noncomputable def wBL (f:WF) (t:WL):WE:=fun E σ S Q=>t E σ S fun ws S1=>f ws S1 Q
noncomputable def zkS (K:PySem.W.Frag) (r:List V→Hp→VK→Prop) (f:WF):Prop:=∀H a vs ws S (Q:VK) (QW:WK),H a=some (.lst vs)→S a=none→Reps K H ws vs→RepS K H S→f ws S QW→Wish K H S QW Q→r [.ref a] H Q
section
variable {X:Cx}{x:Str}{p pos:Pos}{e:Expr}{es:List Expr}{t:WA}{tl:WL}{id T:String}{r:List V→Hp→VK→Prop}{f:WF}
theorem zqa (hc:CallR X (.builtin id) r) (hw:zhd X.K r f) (hg:Gl X x) (hm:X.mg x=none) (hv:bootBuiltins x=some (.builtin id)) (ha:JA X (e::es) t) (hn:x≠ "__name__" :=by decide) (hdb:(x == ("__debug__" :Str))=false:=by decide)
  (he:starEach (e::es) X.env=(false,eval e X.env)::starEach es X.env:=by rfl) (hpl:(backTo pos (starEach es X.env)).any (·.1)=false:=by rfl):JE X (.Call (.Name x p) (e::es) [] pos) (wB f t):=fun E hE=>
 (zeG hc hg hm hv (ha E hE) hn hdb he hpl).mono fun σ H Q ⟨σW,S,QW,hσ,hS,ht,hQ⟩=>⟨σW,S,_,hσ,hS,ht,fun ws S1 vs H1 e1 r1 hS1 h1=>hw H1 vs ws S1 Q QW r1 hS1 h1 (hQ.from e1)⟩
theorem zkR (hc:CallR X (.type T) r) (hw:zhd X.K r f) (hg:Gl X x) (hm:X.mg x=none) (hv:bootBuiltins x=some (.type T)) (ha:JA X (e::es) t) (hn:x≠ "__name__" :=by decide) (hdb:(x == ("__debug__" :Str))=false:=by decide)
  (he:starEach (e::es) X.env=(false,eval e X.env)::starEach es X.env:=by rfl) (hpl:(backTo pos (starEach es X.env)).any (·.1)=false:=by rfl):JE X (.Call (.Name x p) (e::es) [] pos) (wB f t):=fun E hE=>
 (zgd hc hg hm hv (ha E hE) hn hdb he hpl).mono fun σ H Q ⟨σW,S,QW,hσ,hS,ht,hQ⟩=>⟨σW,S,_,hσ,hS,ht,fun ws S1 vs H1 e1 r1 hS1 h1=>hw H1 vs ws S1 Q QW r1 hS1 h1 (hQ.from e1)⟩
theorem znG (hc:CallR X (.builtin id) r) (hw:zkS X.K r f) (hg:Gl X x) (hm:X.mg x=none) (hv:bootBuiltins x=some (.builtin id)) (ha:JL X e tl) (hn:x≠ "__name__" :=by decide) (hdb:(x == ("__debug__" :Str))=false:=by decide)
  (he:starEach [e] X.env=(false,eval e X.env)::starEach [] X.env:=by rfl) (hpl:(backTo pos (starEach [] X.env)).any (·.1)=false:=by rfl):JE X (.Call (.Name x p) [e] [] pos) (wBL f tl):=fun E hE=>
 (zeG hc hg hm hv (zcp (ha E hE) pa_nil he) hn hdb he hpl).mono fun σ H Q ⟨σW,S,QW,hσ,hS,ht,hQ⟩=>⟨σW,S,_,hσ,hS,ht,fun ws S1 vs a H1 e1 fa ea na r1 hS1 h1=>hw H1 a vs ws S1 Q QW ea na r1 hS1 h1 (hQ.from e1)⟩
theorem zoc (hc:CallR X (.type T) r) (hw:zkS X.K r f) (hg:Gl X x) (hm:X.mg x=none) (hv:bootBuiltins x=some (.type T)) (ha:JL X e tl) (hn:x≠ "__name__" :=by decide) (hdb:(x == ("__debug__" :Str))=false:=by decide)
  (he:starEach [e] X.env=(false,eval e X.env)::starEach [] X.env:=by rfl) (hpl:(backTo pos (starEach [] X.env)).any (·.1)=false:=by rfl):JE X (.Call (.Name x p) [e] [] pos) (wBL f tl):=fun E hE=>
 (zgd hc hg hm hv (zcp (ha E hE) pa_nil he) hn hdb he hpl).mono fun σ H Q ⟨σW,S,QW,hσ,hS,ht,hQ⟩=>⟨σW,S,_,hσ,hS,ht,fun ws S1 vs a H1 e1 fa ea na r1 hS1 h1=>hw H1 a vs ws S1 Q QW ea na r1 hS1 h1 (hQ.from e1)⟩
noncomputable def zdC:WF:=fun ws S Q=>match ws with
 | [.tup us]=>Q (.int us.length) S
 | [.ref a]=>zbt S a fun us=>Q (.int us.length) S
 | [.scr ns]=>Q (.int ns.length) S
 | [.str z]=>z.length≤sizeLine∧Q (.int z.length) S
 |_=>False
theorem zjH{K:PySem.W.Frag}:zhd K (fun xs H Q=>(∃p ys,xs=[.ref p]∧(SqL K H p ys∨SqT K H p ys)∧Q (.int ys.length) H)∨ ∃z,xs=[.str z]∧z.length≤sizeLine∧Q (.int z.length) H) zdC:=fun H vs ws S Q QW r hS h hQ=>by
 cases r with
 |nil=>exact h.elim
 |cons r1 r2=>
  cases r2 with
  |cons _ _=>cases r1<;>exact h.elim
  |nil=>
   cases r1 with
   |tup f hs=>exact .inl ⟨_,_,rfl, .inr (.of f),by rw [←hs.length];exact hQ _ S _ H .refl (.int _) hS h⟩
   |ref a=>
    obtain⟨us,e,h⟩:=zaT h;obtain⟨vs,f,hs⟩:=hS a _ e;exact .inl ⟨_,_,rfl, .inl (.of f),by rw [←hs.length];exact hQ _ S _ H .refl (.int _) hS h⟩
   |scr f=>exact .inl ⟨_,_,rfl, .inl f.sq,by rw [List.length_map];exact hQ _ S _ H .refl (.int _) hS h⟩
   |str z=>exact .inr ⟨z,rfl,h.1,hQ _ S _ H .refl (.int _) hS h.2⟩
   |_=>exact h.elim
theorem zbk (hg:Gl X "len") (hm:X.mg "len" =none) (ha:JA X (e::es) t) 
  (he:starEach (e::es) X.env=(false,eval e X.env)::starEach es X.env:=by rfl) (hpl:(backTo pos (starEach es X.env)).any (·.1)=false:=by rfl):JE X (.Call (.Name "len" p) (e::es) [] pos) (wB zdC t):=
 zqa (call_len_seq.or zfC) zjH hg hm PySem.boot_len ha (by decide) (by decide) he hpl
noncomputable def zfO:WF:=fun ws S Q=>match ws with
 | [.tup us]=>Q (.tup us) S
 | [.ref a]=>zbt S a fun us=>Q (.tup us) S
 |_=>False
theorem zgE{K:PySem.W.Frag}:zhd K (fun xs H Q=>∃p ys,xs=[.ref p]∧((SqL K H p ys∧ ∀l,H l=none→Q (.ref l) (upd H l (.tup ys)))∨(SqT K H p ys∧Q (.ref p) H))) zfO:=fun H vs ws S Q QW r hS h hQ=>by
 cases r with
 |nil=>exact h.elim
 |cons r1 r2=>
  cases r2 with
  |cons _ _=>cases r1<;>exact h.elim
  |nil=>
   cases r1 with
   |tup f hs=>exact⟨_,_,rfl, .inr ⟨.of f,hQ _ S _ H .refl (.tup f hs) hS h⟩⟩
   |ref a=>
    obtain⟨us,e,h⟩:=zaT h;obtain⟨vs,f,hs⟩:=hS a _ e;exact⟨_,_,rfl, .inl ⟨.of f,fun l hl=>hQ _ S _ _ (.new hl) (.tup zau (hs.ext (.new (S:=S) hl))) (hS.new hl) h⟩⟩
   |_=>exact h.elim
noncomputable def zfh:WF:=fun ws S Q=>Q (.tup ws) S
theorem zhj{K:PySem.W.Frag}:zkS K (fun xs H Q=>∃p ys,xs=[.ref p]∧((SqL K H p ys∧ ∀l,H l=none→Q (.ref l) (upd H l (.tup ys)))∨(SqT K H p ys∧Q (.ref p) H))) zfh:=fun H a vs ws S Q QW ea na r hS h hQ=>
 ⟨a,vs,rfl, .inl ⟨.of ea,fun l hl=>hQ _ S _ _ (.new hl) (.tup zau (r.ext (.new (S:=S) hl))) (hS.new hl) h⟩⟩
noncomputable def zeo:List W→Option (List Bool)
 | []=>some []
 | .bl b::ws=>(zeo ws).map (b:: ·)
 |_=>none
theorem zjB{K:PySem.W.Frag}{H:Hp}:∀{ws:List W}{vs:List V}{bs:List Bool},Reps K H ws vs→zeo ws=some bs→vs=bs.map V.bl
 | [],_,_, .nil,e=>by have:=Option.some.inj e;subst this;rfl
 |w::ws,_,_, .cons r rs,e=>by
  cases r with
  |bl b=>
   have e':(zeo ws).map (b:: ·)=some _:=e;cases q:zeo ws with
   |none=>rw [q]at e';cases e'
   |some cs=>
    rw [q]at e';have:=Option.some.inj e';subst this;rw [List.map_cons,zjB rs q]
  |_=>cases e
noncomputable def zgS:WF:=fun ws S Q=>match zeo ws with
 |some bs=>Q (.bl (bs.all _root_.id)) S
 |none=>False
theorem zjF{K:PySem.W.Frag}:zkS K (fun xs H Q=>∃(p:Addr) (bs:List Bool),xs=[.ref p]∧SqL K H p (bs.map V.bl)∧Q (.bl (bs.all _root_.id)) H) zgS:=fun H a vs ws S Q QW ea na r hS h hQ=>by
 unfold zgS at h;split at h
 ·rename_i bs e;have:=zjB r e;subst this;exact⟨a,bs,rfl, .of ea,hQ _ S _ H .refl (.bl _) hS h⟩
 ·exact h.elim
noncomputable def tyW:W→Sto→(String→Prop)→Prop
 | .non,_,Q=>Q "NoneType"
 | .bl _,_,Q=>Q "bool"
 | .int _,_,Q=>Q "int"
 | .str _,_,Q=>Q "str"
 | .tup _,_,Q=>Q "tuple"
 | .ref a,S,Q=>zbt S a fun _=>Q "list"
 | .scr _,_,_=>False
noncomputable def zbg (A B:String):Bool:=A == B || (A == "bool" &&B == "int")
noncomputable def zgW (T:String) (t:WE):WE:=fun E σ S Q=>t E σ S fun w S1=>tyW w S1 fun A=>Q (.bl (zbg A T)) S1
theorem zbX{a:Expr}{ta:WE}{p2:Pos}{T:Str}{T':String}(hg:Gl X "isinstance") (hm:X.mg "isinstance" =none) (hgT:Gl X T) (hmT:X.mg T=none) (hv:bootBuiltins T=some (.type T')) (ha:JE X a ta) (hn:T≠ "__name__") (hd:(T == ("__debug__" :Str))=false)
  (hk:∀A∈ ["NoneType", "bool", "int", "str", "tuple", "list"],PySem.W.kitOne X.K (.type A) (.type T')=some (zbg A T'))
  (he:starEach [a, .Name T p2] X.env=(false,eval a X.env)::starEach [.Name T p2] X.env:=by rfl) (he2:starEach [.Name T p2] X.env=(false,eval (.Name T p2) X.env)::starEach [] X.env:=by rfl) (hpl:(backTo pos (starEach [.Name T p2] X.env)).any (·.1)=false:=by rfl) :
  JE X (.Call (.Name "isinstance" p) [a, .Name T p2] [] pos) (zgW T' ta):=fun E hE=>
 (zeG zlo hg hm PyProof.Rows.boot_isinstance (zcp (ha E hE) (zcp (zmu (v:= .ty T') hgT hmT hv rfl hn hd) pa_nil he2) he) (by decide) (by decide) he hpl).mono fun σ H Q ⟨σW,S,QW,hσ,hS,ht,hQ⟩=>⟨σW,S,_,hσ,hS,ht,fun w S1 v H1 e1 r1 hS1 h1=>by
  have fin:∀{t:Value}(A:String),t= .type A→A∈ ["NoneType", "bool", "int", "str", "tuple", "list"]→TyOf X.K H1 v t→QW (.bl (zbg A T')) S1→ ∃x t c b,[v,V.ty T']=[x, .ty c]∧TyOf X.K H1 x t∧PySem.W.kitOne X.K t (.type c)=some b∧Q (.bl b) H1:=fun A e hA ty q=>by
   subst e;exact⟨v,_,T',_,rfl,ty,hk A hA,hQ _ S1 _ H1 e1 (.bl _) hS1 q⟩
  cases r1 with
  |non=>exact fin _ rfl (by simp) .non h1
  |bl b=>exact fin _ rfl (by simp) (.bl b) h1
  |int i=>exact fin _ rfl (by simp) (.int i) h1
  |str z=>exact fin _ rfl (by simp) (.str z) h1
  |tup f hs=>exact fin _ rfl (by simp) (.tup f) h1
  |ref a=>
   obtain⟨ws,ea,h⟩:=zaT h1;obtain⟨vs,f,hs⟩:=hS1 a _ ea;exact fin _ rfl (by simp) (.lst f) h
  |scr f=>exact h1.elim⟩
end
noncomputable abbrev WMf:=W→List W→Sto→WK→Prop
noncomputable def rvL:W→Sto→Prop
 | .ref a,S=>zbt S a fun _=>True
 |_,_=>False
noncomputable def rvS:W→Sto→Prop
 | .str _,_=>True
 |_,_=>False
noncomputable def wM (rv:W→Sto→Prop) (f:WMf) (to:WE) (t:WA):WE:=fun E σ S Q=>to E σ S fun w S1=>rv w S1∧t E σ S1 fun ws S2=>f w ws S2 Q
noncomputable def wML (rv:W→Sto→Prop) (f:WMf) (to:WE) (t:WL):WE:=fun E σ S Q=>to E σ S fun w S1=>rv w S1∧t E σ S1 fun ws S2=>f w ws S2 Q
noncomputable def MtW (K:PySem.W.Frag) (r:V→List V→Hp→VK→Prop) (f:WMf):Prop:=∀H x w vs ws S (Q:VK) (QW:WK),Rep K H w x→Reps K H ws vs→RepS K H S→f w ws S QW→Wish K H S QW Q→r x vs H Q
noncomputable def MtL (K:PySem.W.Frag) (r:V→List V→Hp→VK→Prop) (f:WMf):Prop:=∀H x w a vs ws S (Q:VK) (QW:WK),Rep K H w x→H a=some (.lst vs)→S a=none→Reps K H ws vs→RepS K H S→f w ws S QW→Wish K H S QW Q→r x [.ref a] H Q
noncomputable def zqn (K:PySem.W.Frag) (T:String) (rv:W→Sto→Prop):Prop:=∀H w v S,Rep K H w v→RepS K H S→rv w S→tyV K T v H
theorem zmd{K:PySem.W.Frag}:zqn K "list" rvL:=fun H w v S r hS h=>by
 cases r with
 |ref a=>
  obtain⟨ws,e,_⟩:=zaT h;obtain⟨vs,f,_⟩:=hS a _ e;exact .inl ⟨rfl,vs, .of f⟩
 |_=>exact h.elim
theorem zjo{K:PySem.W.Frag}:zqn K "str" rvS:=fun H w v S r hS h=>by
 cases r with
 |str x=>exact rfl
 |_=>exact h.elim
section
variable {X:Cx}{o e:Expr}{es:List Expr}{to:WE}{t:WA}{tl:WL}{name:Str}{apos cpos:Pos}{id T:String}{r:V→List V→Hp→VK→Prop}{f:WMf}{rv:W→Sto→Prop}
theorem zqi (pa:PlainAttrs T) (slot:Slot T name id) (hty:typeOf (.builtin id)=pure (.type "method_descriptor")) (hrv:zqn X.K T rv) (hm:MtR X id r) (hw:MtW X.K r f) (ho:JE X o to) (ha:JA X (e::es) t)
  (hbase:attributeBase o name X.env (eval o X.env)=eval o X.env:=by rfl)
  (hfew:((backTo cpos (starEach (e::es) X.env)).all (fun x=> !x.1)&&(backToKw cpos (keywordEach [] X.env)).all (fun x=>x.1.isSome)
   &&decide ((e::es).length+([]:List Keyword).length+(if([]:List Keyword).isEmpty then 0 else 1)<30))=true:=by rfl)
  (hline:(apos.endLine == cpos.line)=true:=by rfl) (hs:starEach (e::es) X.env=(false,eval e X.env)::starEach es X.env:=by rfl) (hplain:(backTo cpos (starEach es X.env)).any (·.1)=false:=by rfl) :
  JE X (.Call (.Attribute o name apos) (e::es) [] cpos) (wM rv f to t):=fun E hE=>
 (zod pa slot hty hm (ho E hE) (ha E hE) hbase hfew hline hs hplain).mono fun σ H Q ⟨σW,S,QW,hσ,hS,ht,hQ⟩=>⟨σW,S,_,hσ,hS,ht,fun w S1 v H1 e1 r1 hS1 h1=>
  ⟨hrv H1 w v S1 r1 hS1 h1.1,σW,S1,_,hσ.ext e1,hS1,h1.2,fun ws S2 vs H2 e2 r2 hS2 h2=>hw H2 v w vs ws S2 Q QW (r1.ext e2) r2 hS2 h2 (hQ.from (e1.trans e2))⟩⟩
theorem zqV (pa:PlainAttrs T) (slot:Slot T name id) (hty:typeOf (.builtin id)=pure (.type "method_descriptor")) (hrv:zqn X.K T rv) (hm:MtR X id r) (hw:MtL X.K r f) (ho:JE X o to) (ha:JL X e tl)
  (hbase:attributeBase o name X.env (eval o X.env)=eval o X.env:=by rfl)
  (hfew:((backTo cpos (starEach [e] X.env)).all (fun x=> !x.1)&&(backToKw cpos (keywordEach [] X.env)).all (fun x=>x.1.isSome)
   &&decide ([e].length+([]:List Keyword).length+(if([]:List Keyword).isEmpty then 0 else 1)<30))=true:=by rfl)
  (hline:(apos.endLine == cpos.line)=true:=by rfl) (hs:starEach [e] X.env=(false,eval e X.env)::starEach [] X.env:=by rfl) (hplain:(backTo cpos (starEach [] X.env)).any (·.1)=false:=by rfl) :
  JE X (.Call (.Attribute o name apos) [e] [] cpos) (wML rv f to tl):=fun E hE=>
 (zod pa slot hty hm (ho E hE) (zcp (ha E hE) pa_nil hs) hbase hfew hline hs hplain).mono fun σ H Q ⟨σW,S,QW,hσ,hS,ht,hQ⟩=>⟨σW,S,_,hσ,hS,ht,fun w S1 v H1 e1 r1 hS1 h1=>
  ⟨hrv H1 w v S1 r1 hS1 h1.1,σW,S1,_,hσ.ext e1,hS1,h1.2,fun ws S2 vs a H2 e2 fa ea na r2 hS2 h2=>hw H2 v w a vs ws S2 Q QW (r1.ext e2) ea na r2 hS2 h2 (hQ.from (e1.trans e2))⟩⟩
noncomputable def zdn:WMf:=fun w ws S Q=>match w with
 | .ref a=>zbt S a fun xs=>match ws with
  | [y]=>xs.length<sizeLine∧Q .non (put S a (.lst (xs++[y])))
  |_=>False
 |_=>False
theorem zie{K:PySem.W.Frag}:MtW K zjN zdn:=fun H x w vs ws S Q QW r rs hS h hQ=>by
 cases r with
 |ref a=>
  obtain⟨xs,ea,h⟩:=zaT h;obtain⟨us,f,hs⟩:=hS a _ ea;cases rs with
  |nil=>exact h.elim
  |cons r1 r2=>
   cases r2 with
   |cons _ _=>exact h.elim
   |nil=>
    obtain⟨e,hS'⟩:=hS.set_lst ea (hs.append (.one r1));exact⟨a,us,_,rfl,rfl,f,by rw [←hs.length];exact h.1,hQ _ _ _ _ e .non hS' h.2⟩
 |_=>exact h.elim
theorem zdM (ho:JE X o to) (ha:JA X (e::es) t)
  (hbase:attributeBase o "append" X.env (eval o X.env)=eval o X.env:=by rfl)
  (hfew:((backTo cpos (starEach (e::es) X.env)).all (fun x=> !x.1)&&(backToKw cpos (keywordEach [] X.env)).all (fun x=>x.1.isSome)
   &&decide ((e::es).length+([]:List Keyword).length+(if([]:List Keyword).isEmpty then 0 else 1)<30))=true:=by rfl)
  (hline:(apos.endLine == cpos.line)=true:=by rfl) (hs:starEach (e::es) X.env=(false,eval e X.env)::starEach es X.env:=by rfl) (hplain:(backTo cpos (starEach es X.env)).any (·.1)=false:=by rfl) :
  JE X (.Call (.Attribute o "append" apos) (e::es) [] cpos) (wM rvL zdn to t):=zqi PySem.F.plainAttrs_list PySem.F.slot_list_append PySem.F.type_list_append zmd zfA zie ho ha hbase hfew hline hs hplain
noncomputable def zsx:WMf:=fun w ws S Q=>match w with
 | .ref a=>zbt S a fun xs=>match ws with
  | []=>match xs[xs.length - 1]? with
   |some y=>Q y (put S a (.lst xs.dropLast))
   |none=>False
  |_=>False
 |_=>False
noncomputable def zdV:WMf:=fun w ws S Q=>match w with
 | .ref a=>zbt S a fun xs=>match ws with
  | [.tup ys]=>xs.length+ys.length≤sizeLine∧Q .non (put S a (.lst (xs++ys)))
  | [.ref b]=>zbt S b fun ys=>xs.length+ys.length≤sizeLine∧Q .non (put S a (.lst (xs++ys)))
  |_=>False
 |_=>False
theorem zis{K:PySem.W.Frag}:MtW K (fun x vs H Q=>zjf x vs H Q∨zhH K x vs H Q) zdV:=fun H x w vs ws S Q QW r rs hS h hQ=>by
 cases r with
 |ref a=>
  obtain⟨xs,ea,h⟩:=zaT h;obtain⟨us,f,hs⟩:=hS a _ ea;cases rs with
  |nil=>exact h.elim
  |cons r1 r2=>
   cases r2 with
   |cons _ _=>cases r1<;>exact h.elim
   |nil=>
    cases r1 with
    |tup g ks=>
     obtain⟨e,hS'⟩:=hS.set_lst ea (hs.append ks);exact .inr ⟨a,_,us,_,rfl,rfl,f, .of g,by rw [←hs.length,←ks.length];exact h.1,hQ _ _ _ _ e .non hS' h.2⟩
    |ref b=>
     obtain⟨ys,eb,h⟩:=zaT h;obtain⟨zs,g,ks⟩:=hS b _ eb;obtain⟨e,hS'⟩:=hS.set_lst ea (hs.append ks);exact .inl ⟨a,b,us,zs,rfl,rfl,f,g,by rw [←hs.length,←ks.length];exact h.1,hQ _ _ _ _ e .non hS' h.2⟩
    |_=>exact h.elim
 |_=>exact h.elim
theorem zka (ho:JE X o to) (ha:JA X (e::es) t)
  (hbase:attributeBase o "extend" X.env (eval o X.env)=eval o X.env:=by rfl)
  (hfew:((backTo cpos (starEach (e::es) X.env)).all (fun x=> !x.1)&&(backToKw cpos (keywordEach [] X.env)).all (fun x=>x.1.isSome)
   &&decide ((e::es).length+([]:List Keyword).length+(if([]:List Keyword).isEmpty then 0 else 1)<30))=true:=by rfl)
  (hline:(apos.endLine == cpos.line)=true:=by rfl) (hs:starEach (e::es) X.env=(false,eval e X.env)::starEach es X.env:=by rfl) (hplain:(backTo cpos (starEach es X.env)).any (·.1)=false:=by rfl) :
  JE X (.Call (.Attribute o "extend" apos) (e::es) [] cpos) (wM rvL zdV to t):=zqi PySem.F.plainAttrs_list PySem.F.slot_list_extend PySem.F.type_list_extend zmd (MtR.or zjq zii) zis ho ha hbase hfew hline hs hplain
noncomputable def zlg:WMf:=fun w ws S Q=>match w with
 | .ref a=>zbt S a fun xs=>xs.length+ws.length≤sizeLine∧Q .non (put S a (.lst (xs++ws)))
 |_=>False
noncomputable def zcJ:List W→Option (List Str)
 | []=>some []
 | .str b::ws=>(zcJ ws).map (b:: ·)
 |_=>none
theorem zhx{K:PySem.W.Frag}{H:Hp}:∀{ws:List W}{vs:List V}{bs:List Str},Reps K H ws vs→zcJ ws=some bs→vs=bs.map V.str
 | [],_,_, .nil,e=>by have:=Option.some.inj e;subst this;rfl
 |w::ws,_,_, .cons r rs,e=>by
  cases r with
  |str b=>
   have e':(zcJ ws).map (b:: ·)=some _:=e;cases q:zcJ ws with
   |none=>rw [q]at e';cases e'
   |some cs=>
    rw [q]at e';have:=Option.some.inj e';subst this;rw [List.map_cons,zhx rs q]
  |_=>cases e
noncomputable def zdY:WMf:=fun w ws S Q=>match w with
 | .str z=>match zcJ ws with
  |some ys=>(ys.map (·.length)).sum+ys.length*z.length≤16777216∧Q (.str (Str.join z ys)) S
  |none=>False
 |_=>False
theorem zkF{K:PySem.W.Frag}:MtL K (zoz K) zdY:=fun H x w a vs ws S Q QW r ea na rs hS h hQ=>by
 cases r with
 |str z=>
  unfold zdY at h;dsimp only at h;split at h
  ·rename_i ys e;have:=zhx rs e;subst this;exact⟨z,a,ys,rfl,rfl, .of ea,h.1,hQ _ S _ H .refl (.str _) hS h.2⟩
  ·exact h.elim
 |_=>exact h.elim
theorem zfb (ho:JE X o to) (ha:JL X e tl)
  (hbase:attributeBase o "join" X.env (eval o X.env)=eval o X.env:=by rfl)
  (hfew:((backTo cpos (starEach [e] X.env)).all (fun x=> !x.1)&&(backToKw cpos (keywordEach [] X.env)).all (fun x=>x.1.isSome)
   &&decide ([e].length+([]:List Keyword).length+(if([]:List Keyword).isEmpty then 0 else 1)<30))=true:=by rfl)
  (hline:(apos.endLine == cpos.line)=true:=by rfl) (hs:starEach [e] X.env=(false,eval e X.env)::starEach [] X.env:=by rfl) (hplain:(backTo cpos (starEach [] X.env)).any (·.1)=false:=by rfl) :
  JE X (.Call (.Attribute o "join" apos) [e] [] cpos) (wML rvS zdY to tl):=zqV PySem.F.plainAttrs_str PySem.F.slot_str_join PySem.F.type_str_join zjo zmr zkF ho ha hbase hfew hline hs hplain
noncomputable def zgi:WMf:=fun w ws S Q=>match w with
 | .str z=>match ws with
  | [.str y]=>match Builtin.Str.occurrences z y 0 z.length 1 with
   |i::_=>Q (.int i) S
   | []=>False
  |_=>False
 |_=>False
theorem ziZ{K:PySem.W.Frag}:MtW K zme zgi:=fun H x w vs ws S Q QW r rs hS h hQ=>by
 cases r with
 |str z=>
  cases rs with
  |nil=>exact h.elim
  |cons r1 r2=>
   cases r2 with
   |cons _ _=>cases r1<;>exact h.elim
   |nil=>
    cases r1 with
    |str y=>
     unfold zgi at h;dsimp only at h;split at h
     ·exact⟨z,y,_,_,rfl,rfl, ‹_›,hQ _ S _ H .refl (.int _) hS h⟩
     ·exact h.elim
    |_=>exact h.elim
 |_=>exact h.elim
theorem zlj (ho:JE X o to) (ha:JA X (e::es) t)
  (hbase:attributeBase o "index" X.env (eval o X.env)=eval o X.env:=by rfl)
  (hfew:((backTo cpos (starEach (e::es) X.env)).all (fun x=> !x.1)&&(backToKw cpos (keywordEach [] X.env)).all (fun x=>x.1.isSome)
   &&decide ((e::es).length+([]:List Keyword).length+(if([]:List Keyword).isEmpty then 0 else 1)<30))=true:=by rfl)
  (hline:(apos.endLine == cpos.line)=true:=by rfl) (hs:starEach (e::es) X.env=(false,eval e X.env)::starEach es X.env:=by rfl) (hplain:(backTo cpos (starEach es X.env)).any (·.1)=false:=by rfl) :
  JE X (.Call (.Attribute o "index" apos) (e::es) [] cpos) (wM rvS zgi to t):=zqi PySem.F.plainAttrs_str PySem.F.slot_str_index PySem.F.type_str_index zjo zlD ziZ ho ha hbase hfew hline hs hplain
end
noncomputable def zoO (i:Nat) (g:Int→Int→Int) (e:WE):WS:=fun E D σ S=>match σ[i]? with
 |some (some (.int a))=>e E σ S fun w S1=>match w with
  | .int b=>D.nx (σ.set i (some (.int (g a b)))) S1
  |_=>False
 |_=>False
section
variable {X:Cx}{e:Expr}{te:WE}{pos pos':Pos}
theorem zlU{i:Nat}{x:Str}(hN:X.N.Nodup) (hi:X.N[i]? =some x) (hx:Loc X.env.scope x) (he:JE X e te) (hf:X.fn x=true∨X.env.scope.names.lookup x=some .local:=by first |exact .inl rfl |exact .inr rfl |assumption) :
  JS X (.AugAssign (.Name x pos') .Add e pos) (zoO i (fun a b=>a+b) te):=fun E hE=>
 (zpN hN hi hx (he E hE) zor hf).mono fun D σ H ⟨σW,S,DW,hσ,hS,ht,hD⟩=>by
  unfold zoO at ht;split at ht
  ·rename_i a ea;obtain⟨v,ev,rv⟩:=hσ.get ea;cases rv;refine⟨_,ev,σW,S,_,hσ,hS,ht,fun w S1 v H1 e1 r1 hS1 h1=>?_⟩;cases r1 with
   |int b=>exact⟨a,b,rfl,rfl,hD.nx _ S1 _ H1 e1 ((hσ.ext e1).set (.int _) i) hS1 h1⟩
   |_=>exact h1.elim
  ·exact ht.elim
end
noncomputable def zev (c:WT) (b:WS):WS:=fun E D σ S=>∃I:Nat→WSt→Sto→Prop,(∃m,I m σ S)∧ ∀m σ S,I m σ S→c E σ S fun k S1=>if k=true then
 b E { D with nx:=fun σ' S'=>∃m' S'',m'<m∧Sub S'' S'∧I m' σ' S'',ct:=fun σ' S'=>∃m' S'',m'<m∧Sub S'' S'∧I m' σ' S'',bk:=D.nx } σ S1 else D.nx σ S1
section
variable {X:Cx}{c:Expr}{body:List Stmt}{tc:WT}{tb:WS}{pos:Pos}
theorem zdg (hc:JT X c tc) (hb:JSs X body tb):JS X (.While c body [] pos) (zev tc tb):=fun E hE=>
 (zlc hE.own (hc E hE) (hb E hE)).mono fun D σ H ⟨σW,S,DW,hσ,hS,⟨J,⟨n,ht⟩,step⟩,hD⟩=>by
  refine⟨fun m σ1 H1=>∃σW1 S1,Ext H S H1 S1∧RpSt X.K H1 σW1 σ1∧RepS X.K H1 S1∧J m σW1 S1,⟨n,σW,S, .refl,hσ,hS,ht⟩,?_⟩;rintro m σ1 H1 ⟨σW1,S1,e1,hσ1,hS1,h1⟩;refine⟨σW1,S1,_,hσ1,hS1,step m σW1 S1 h1,fun k S2 H2 e2 hS2 h2=>?_⟩;cases k with
  |false=>exact hD.nx σW1 S2 σ1 H2 (e1.trans e2) (hσ1.ext e2) hS2 h2
  |true=>
   rw [if_pos rfl]at h2⊢;refine⟨fun σ' H'=>∃m',m'<m∧ ∃σW1 S1,Ext H S H' S1∧RpSt X.K H' σW1 σ'∧RepS X.K H' S1∧J m' σW1 S1,fun σ' H' n'=>n',σW1,S2,_,hσ1.ext e2,hS2,h2,?_⟩;have e12:=e1.trans e2;have go:Goes X.K H2 S2 (fun σ' S'=>∃m' S'',m'<m∧Sub S'' S'∧J m' σ' S'') (fun σ' H'=>∃m',m'<m∧ ∃σW1 S1,Ext H S H' S1∧RpSt X.K H' σW1 σ'∧RepS X.K H' S1∧J m' σW1 S1):=fun σW3 S3 σ3 H3 e3 hσ3 hS3 ⟨m',S4,hm,sb,q⟩=>
    ⟨m',hm,σW3,S4,(e12.trans e3).trans (.drop sb),hσ3,hS3.sub sb,q⟩
   exact⟨go,hD.rt.from e12,hD.nx.from e12,go⟩
end
noncomputable def zgl (g:WG) (b:WS) (E:WX) (D:WEnds) (G:Sto→Prop):List W→WSt→Sto→Prop
 | [],σ,S=>D.nx σ S
 |w::ws,σ,S=>g w σ S fun σ1 S1=>b E { D with nx:=fun σ' S'=>∃S'',Sub S'' S'∧G S''∧zgl g b E D G ws σ' S'',ct:=fun σ' S'=>∃S'',Sub S'' S'∧G S''∧zgl g b E D G ws σ' S'',bk:=D.nx } σ1 S1
noncomputable def zmq (q:WI) (g:WG) (b:WS):WS:=fun E D σ S=>q E σ S fun ws G S1=>zgl g b E D G ws σ S1
section
variable {X:Cx}{tg iter:Expr}{body:List Stmt}{q:WI}{g:WG}{tb:WS}{pos:Pos}
theorem zgg (hi:JI X tg iter q) (hg:JG X tg g) (hb:JSs X body tb) (hcl:X.calm=true:=by rfl)
  (hs:∀x,foldedSetIterable iter X.env x=pure x:=by intro _;rfl):JS X (.For tg iter body [] pos) (zmq q g tb):=fun E hE=>
 (zoX hE.own hcl (hi E hE) (hg E hE) (hb E hE) hs).mono fun D σ H ⟨σW,S,DW,hσ,hS,ht,hD⟩=>by
  refine⟨σW,S,_,hσ,hS,ht,fun ws G S1 J H1 e1 hS1 hG1 hJ h1=>?_⟩;refine⟨fun i m σ2 H2=>∃σW2 S2,Ext H1 S1 H2 S2∧RpSt X.K H2 σW2 σ2∧RepS X.K H2 S2∧G S2∧m=ws.length - i∧i≤ws.length∧zgl g tb E DW G (ws.drop i) σW2 S2,
   ⟨ws.length,σW,S1, .refl,hσ.ext e1,hS1,hG1,rfl,Nat.zero_le _,h1⟩,?_⟩
  rintro i m σ2 H2 ⟨σW2,S2,e2,hσ2,hS2,hG2,rfl,hi2,h2⟩;obtain⟨ji,js⟩:=hJ i S2 H2 e2 hS2 hG2;by_cases hlt:i<ws.length
  ·obtain⟨jgo,jy⟩:=ji ws[i] (List.getElem?_eq_getElem hlt);refine .inr ⟨jgo,fun σ' H'=>∃σW2 S2,Ext H1 S1 H' S2∧RpSt X.K H' σW2 σ'∧RepS X.K H' S2∧G S2∧ws.length - (i+1)=ws.length - (i+1)∧i+1≤ws.length∧zgl g tb E DW G (ws.drop (i+1)) σW2 S2,fun σ' H' z=>⟨_,by omega,z⟩,fun x H3 y3=>?_⟩
   obtain⟨e3,hS3,r3⟩:=jy x H3 y3;rw [List.drop_eq_getElem_cons hlt]at h2;refine⟨_,σW2,S2,_,r3,hσ2.ext e3,hS3,h2,fun σW4 S4 σ4 H4 e4 hσ4 hS4 h4=>?_⟩;have e14:Ext H1 S1 H4 S4:=(e2.trans e3).trans e4;refine⟨σW4,S4,_,hσ4,hS4,h4,?_⟩;have go:Goes X.K H4 S4 (fun σ' S'=>∃S'',Sub S'' S'∧G S''∧zgl g tb E DW G (ws.drop (i+1)) σ' S'') (fun σ' H'=>∃σW2 S2,Ext H1 S1 H' S2∧RpSt X.K H' σW2 σ'∧RepS X.K H' S2∧G S2∧ws.length - (i+1)=ws.length - (i+1)∧i+1≤ws.length∧zgl g tb E DW G (ws.drop (i+1)) σW2 S2):=
    fun σW5 S5 σ5 H5 e5 hσ5 hS5 ⟨S6,sb,hG6,q⟩=>⟨σW5,S6,(e14.trans e5).trans (.drop sb),hσ5,hS5.sub sb,hG6,rfl,hlt,q⟩
   exact⟨go,hD.rt.from (e1.trans e14),hD.nx.from (e1.trans e14),go⟩
  ·have hl:i=ws.length:=by omega
   rw [List.drop_of_length_le (Nat.le_of_eq hl.symm)]at h2;exact .inl ⟨js hl,hD.nx σW2 S2 σ2 H2 (e1.trans e2) hσ2 hS2 h2⟩
end
section
variable {X:Cx}{tg:Expr}
noncomputable def zsr (K:PySem.W.Frag) (tl:TE):TI:=fun σ H R=>tl σ H fun x H1=>(∃a,x= .ref a∧(∃xs,SqL K H1 a xs)∧R (Itl K a) H1)∨(∃a,x= .ref a∧(∃xs,SqT K H1 a xs)∧R (Itt K a) H1)∨ ∃z,x= .str z∧R (Its z) H1
theorem zpi{l:Expr}{tl:TE}(hl:PE X l tl):PI X tg l (zsr X.K tl):=by
 intro pins s σ H R I h;refine thn (hl pins s σ H _ I h) fun v s1 ⟨x,H1,I1,r1,q1⟩=>?_;have fp:∀b∈ [s1.heap.objs.size],zfo X pins H1 b:=fun b hb=>by
  have e:b=s1.heap.objs.size:=by simpa using hb
  subst e;exact I1.fpOk (Nat.le_refl _) (I1.hok.fresh (Nat.le_refl _))
 rcases q1 with⟨a,e,⟨xs,hq⟩,q⟩ |⟨a,e,⟨xs,hq⟩,q⟩ |⟨z,e,q⟩
 ·subst e;cases r1;obtain⟨its,rv,p,hz⟩:=I1.list hq;refine wpAny_pyIter_list p.isList ?_;exact⟨s1.heap.objs.size,[s1.heap.objs.size],_,_,H1,rfl,I1.kept (t':=s1.toks) fun b o e=>Heap.get?_push_of_some _ e,ziL a _,⟨_,Heap.get?_push_size _ rfl,rfl,rfl⟩,fp,q⟩
 ·subst e;cases r1;obtain⟨its,rv,p,hz⟩:=I1.tuple hq;refine wpAny_pyIter_tuple (show s1.heap.IsTuple a its.toArray from p) ?_;exact⟨s1.heap.objs.size,[s1.heap.objs.size],_,_,H1,rfl,I1.kept (t':=s1.toks) fun b o e=>Heap.get?_push_of_some _ e,zid a _,⟨_,Heap.get?_push_size _ rfl,rfl,rfl⟩,fp,q⟩
 ·subst e;obtain⟨t,rfl⟩:=r1;cases ha:z.cps.all (· <128)
  ·refine wpAny_pyIter_wide ha ?_;exact⟨s1.heap.objs.size,[s1.heap.objs.size],_,_,H1,rfl,I1.kept (t':=s1.toks) fun b o e=>Heap.get?_push_of_some _ e,
    zhK _ z t "str_iterator" (by decide) (fun A' hA=>Walks.strWide hA _ z t) (fun _ _ _ _ _ st h=>wpAny_pyIter_striter_wide st h),⟨_,Heap.get?_push_size _ rfl,rfl,rfl⟩,fp,q⟩
  ·refine wpAny_pyIter_ascii ha ?_;exact⟨s1.heap.objs.size,[s1.heap.objs.size],_,_,H1,rfl,I1.kept (t':=s1.toks) fun b o e=>Heap.get?_push_of_some _ e,
    zhK _ z t "str_ascii_iterator" (by decide) (fun A' hA=>Walks.strAscii hA _ z t) (fun _ _ _ _ _ st h=>wpAny_pyIter_striter_ascii st h),⟨_,Heap.get?_push_size _ rfl,rfl,rfl⟩,fp,q⟩
noncomputable def zgz (z:Str):List W:=z.cps.toList.map fun c=> .str ⟨#[c]⟩
noncomputable def wIv (t:WE):WI:=fun E σ S Q=>t E σ S fun w S1=>match w with
 | .tup ws=>Q ws (fun _=>True) S1
 | .ref a=>zbt S1 a fun ws=>Q ws (fun S'=>S' a=some (.lst ws)) S1
 | .scr ns=>Q (ns.map W.int) (fun _=>True) S1
 | .str z=>Q (zgz z) (fun _=>True) S1
 |_=>False
theorem zjn{K:PySem.W.Frag}{a:Addr}{ws:List W}{G:Sto→Prop}{H0:Hp}{S0:Sto}(h:∀S H,Ext H0 S0 H S→RepS K H S→G S→ ∃vs,SqL K H a vs∧Reps K H ws vs):ItW K (Itl K a) ws G H0 S0:=fun i S H e hS hG=>by
 obtain⟨vs,hq,r⟩:=h S H e hS hG;refine⟨fun w ew=>?_,fun hl=>⟨vs,hq,by rw [←r.length,hl];exact Nat.le_refl _⟩⟩
 obtain⟨v,ev,rv⟩:=r.get ew;refine⟨⟨vs,v,hq,ev⟩,fun x H' ⟨e1,e2⟩=>?_⟩;subst e1;have e3:=e2 vs hq;rw [ev]at e3;cases e3;exact⟨.refl,hS,rv⟩
theorem zpx{K:PySem.W.Frag}{a:Addr}{ws:List W}{vs:List V}{H0:Hp}{S0:Sto}(f:H0 a=some (.tup vs)) (r:Reps K H0 ws vs):ItW K (Itt K a) ws (fun _=>True) H0 S0:=fun i S H e hS hG=>by
 have f':=e.tup _ _ f;have r':=r.ext e;refine⟨fun w ew=>?_,fun hl=>⟨vs, .of f',by rw [←r'.length,hl];exact Nat.le_refl _⟩⟩
 obtain⟨v,ev,rv⟩:=r'.get ew;refine⟨⟨vs,v, .of f',ev⟩,fun x H' ⟨e1,e2⟩=>?_⟩;subst e1;have e3:=e2 vs (.of f');rw [ev]at e3;cases e3;exact⟨.refl,hS,rv⟩
theorem zoe{K:PySem.W.Frag}{z:Str}{H0:Hp}{S0:Sto}:ItW K (Its z) (zgz z) (fun _=>True) H0 S0:=fun i S H e hS hG=>by
 unfold zgz;refine⟨fun w ew=>?_,fun hl=>?_⟩
 ·rw [List.getElem?_map]at ew;cases ec:z.cps.toList[i]? with
  |none=>rw [ec]at ew;cases ew
  |some c=>
   rw [ec]at ew;have ew':=Option.some.inj ew;subst ew';have hi:i<z.cps.size:=by
    have:=(List.getElem?_eq_some_iff.mp ec).1;simpa using this
   refine⟨hi,fun x H' ⟨e1,c',e2,e3⟩=>?_⟩;subst e1 e3;have:c'=c:=by
    have q:z.cps.toList[i]? =some c':=by rw [←e2];simp
    rw [ec]at q;exact(Option.some.inj q).symm
   subst this;exact⟨.refl,hS, .str _⟩
 ·show i=z.cps.size;simpa using hl
theorem zdz{l:Expr}{tl:WE}(hl:JE X l tl):JI X tg l (wIv tl):=fun E hE=>
 (zpi (hl E hE)).mono fun σ H R ⟨σW,S,QW,hσ,hS,ht,hR⟩=>⟨σW,S,_,hσ,hS,ht,fun w S1 v H1 e1 r1 hS1 h1=>by
  cases r1 with
  |tup f hs=>exact .inr (.inl ⟨_,rfl,⟨_, .of f⟩,hR _ _ S1 _ H1 e1 hS1 trivial (zpx f hs) h1⟩)
  |ref a=>
   obtain⟨ws,ea,h⟩:=zaT h1;obtain⟨vs,f,hs⟩:=hS1 a _ ea;refine .inl ⟨_,rfl,⟨_, .of f⟩,hR _ _ S1 _ H1 e1 hS1 ea (zjn fun S2 H2 e2 hS2 g2=>?_) h⟩;obtain⟨vs2,f2,hs2⟩:=hS2 a _ g2;exact⟨vs2, .of f2,hs2⟩
  |scr f=>exact .inl ⟨_,rfl,⟨_,f.sq⟩,hR _ _ S1 _ H1 e1 hS1 trivial (zjn fun S2 H2 e2 hS2 g2=>⟨_,(e2.fz f).sq,Reps.ofInts _⟩) h1⟩
  |str z=>exact .inr (.inr ⟨z,rfl,hR _ _ S1 _ H1 e1 hS1 trivial zoe h1⟩)
  |_=>exact h1.elim⟩
noncomputable def zlM (lo:Int) (n:Nat):List W:=(List.range n).map fun(i:Nat)=> .int (lo+(i:Int))
theorem zoQ{K:PySem.W.Frag}{lo:Int}{n:Nat}{H0:Hp}{S0:Sto}:ItW K (Itr lo n) (zlM lo n) (fun _=>True) H0 S0:=fun i S H e hS hG=>by
 unfold zlM;refine⟨fun w ew=>?_,fun hl=>by
  have:i=n:=by simpa using hl
  exact Nat.le_of_eq this.symm⟩
 rw [List.getElem?_map]at ew;by_cases hi:i<n
 ·rw [List.getElem?_range hi]at ew;have ew':=Option.some.inj ew;subst ew';refine⟨hi,fun x H' ⟨e1,e2⟩=>?_⟩;subst e1 e2;exact⟨.refl,hS, .int _⟩
 ·rw [List.getElem?_eq_none (by simpa using hi)]at ew;cases ew
noncomputable def znP (t:WA):WI:=fun E σ S Q=>t E σ S fun ws S1=>match ws with
 | [.int j]=>(-(2 ^ 62)≤j∧j<2 ^ 62)∧Q (zlM 0 j.toNat) (fun _=>True) S1
 |_=>False
theorem zdK{a:Expr}{ta:WA}{p pos:Pos}(hg:Gl X "range") (hm:X.mg "range" =none) (ha:JA X [a] ta) (hs:starEach [a] X.env=[(false,eval a X.env)]:=by rfl):JI X tg (.Call (.Name "range" p) [a] [] pos) (znP ta):=fun E hE=>
 (zjm hg hm (ha E hE) hs).mono fun σ H R ⟨σW,S,QW,hσ,hS,ht,hR⟩=>⟨σW,S,_,hσ,hS,ht,fun ws S1 vs H1 e1 r1 hS1 h1=>by
  cases r1 with
  |nil=>exact h1.elim
  |cons r2 r3=>
   cases r3 with
   |cons _ _=>cases r2<;>exact h1.elim
   |nil=>
    cases r2 with
    |int j=>exact⟨j,rfl,h1.1.1,h1.1.2,hR _ _ S1 _ H1 e1 hS1 trivial zoQ h1.2⟩
    |_=>exact h1.elim⟩
end
noncomputable def zgO:WT:=fun _ _ S Q=>Q true S
noncomputable def JTs (X:Cx) (ifs:List Expr) (t:WT):Prop:=∀E,Hook X E→PTs X ifs (znb X.K (t E))
theorem zcu{X:Cx}:JTs X [] zgO:=fun E hE pins s σ H Q I ⟨σW,S,QW,hσ,hS,ht,hQ⟩=>zng pins s σ H Q I (hQ true S H .refl hS ht)
noncomputable def zcZ (g:WG) (c:WT) (e:WE) (E:WX) (G:Sto→Prop) (Q:List W→Sto→Prop):List W→List W→WSt→Sto→Prop
 | [],acc,_,S=>Q acc S
 |w::ws,acc,σ,S=>g w σ S fun σ1 S1=>c E σ1 S1 fun b S2=>if b=true then e E σ1 S2 fun y S3=>acc.length<sizeLine∧ ∃S4,Sub S4 S3∧G S4∧zcZ g c e E G Q ws (acc++[y]) σ1 S4
   else ∃S4,Sub S4 S2∧G S4∧zcZ g c e E G Q ws acc σ1 S4
noncomputable abbrev noE:WX:=fun _ _ _=>False
theorem zjp{X:Cx}(h:X.xe=fun _ _=>False):Hook X noE:=⟨by rw [h];exact PassesOwn.never,fun _ _ _ _ _ _ _ _ _ _ _ _ _ _ _ _ _ _ _ _ z=>z.elim,fun _ _ _ _ _ _ _ _ _ _ _ _ _ _ _ _ z=>z.elim⟩
noncomputable def zdU (k:Nat) (fr:List Nat) (q:WI) (g:WG) (c:WT) (e:WE):WL:=fun _ σ S Q=>q noE σ S fun ws G S1=>zcZ g c e noE G Q ws [] (List.replicate k none++fr.map fun j=>(σ[j]?).join) S1
theorem zic{K:PySem.W.Frag}{H:Hp}{σW:WSt}{σ:St}{k:Nat}{fr:List Nat}(h:RpSt K H σW σ):RpSt K H (List.replicate k none++fr.map fun j=>(σW[j]?).join) (zhN σ k fr):=by
 have one:∀j:Nat,RpO K H (σW[j]?).join (σ[j]?).join:=fun j=>by
  cases e:σW[j]? with
  |none=>exact trivial
  |some w=>
   cases w with
   |none=>exact trivial
   |some w=>
    obtain⟨v,ev,r⟩:=h.get e;rw [ev];exact r
 have go:∀fr:List Nat,RpSt K H (fr.map fun j=>(σW[j]?).join) (zdX σ fr):=by
  intro fr
  induction fr with
  |nil=>exact .nil
  |cons j fr ih=>exact .cons (one j) ih
 unfold zhN
 induction k with
 |zero=>exact go fr
 |succ k ih=>exact .cons trivial ih
section
variable {X:Cx}{scope:Scope}{N:List Str}{k:Nat}{fr:List Nat}{tg iter elt:Expr}{ifs:List Expr}{pos:Pos}{q:WI}{g:WG}{c:WT}{e:WE}
theorem Ext.loose{H H':Hp}(a:∀b xs,H b=some (.tup xs)→H' b=some (.tup xs)) (b:∀c o u,H c=some (.frz o u)→H' c=some (.frz o u)) (d:∀b o,H b=some o→ ∃o',H' b=some o'):Ext H (fun _=>some (.lst [])) H' (fun _=>some (.lst [])):=
 ⟨a,b,(fun _ _ _ g=>nomatch g),d⟩
theorem Ext.over{H H':Hp}{S S':Sto}{l:Addr}{o:HO}(e:Ext H S H' S') (h:H l=none):Ext H S (upd H' l o) S':=
 ⟨fun b xs q=>by rw [zao (zam q h)];exact e.tup b xs q,fun b ob u q=>by rw [zao (zam q h)];exact e.frz b ob u q,fun b ob q z=>by rw [zao (zam q h)];exact e.fr b ob q z,fun b ob q=>by rw [zao (zam q h)];exact e.all b ob q⟩
theorem ziK (hg:∀s₀ H₀ fp pn,JG (zaV X scope N s₀ H₀ fp pn) tg g) (hc:∀s₀ H₀ fp pn,JTs (zaV X scope N s₀ H₀ fp pn) ifs c) (he:∀s₀ H₀ fp pn,JE (zaV X scope N s₀ H₀ fp pn) elt e)
  {E:WX}(σ:St) (H:Hp) (Q:VK):zoP X.K (zdU k fr q g c e E) σ H Q→zmk X scope N k fr tg ifs elt (znS X.K (q noE)) σ H Q:=fun⟨σW,S0,QW,hσ,hS,ht,hQ⟩=>by
  refine⟨σW,S0,_,hσ,hS,ht,fun ws G S1 J H1 e1 hS1 hG1 hJ h1 l hl=>?_⟩;have upl:∀{H':Hp}{vs us:List V}{S':Sto},H' l=some (.lst vs)→S' l=none→RepS X.K H' S'→Ext H' (fun _=>some (.lst [])) (upd H' l (.lst us)) (fun _=>some (.lst []))∧RepS X.K (upd H' l (.lst us)) S':=fun {H' vs us S'} f n hS'=>by
   have x:Ext H' (fun _=>some (.lst [])) (upd H' l (.lst us)) (fun _=>some (.lst [])):= .loose (fun b xs q=>by rw [zao (zlu q f fun z=>nomatch z)];exact q) (fun b o u q=>by rw [zao (zlu q f fun z=>nomatch z)];exact q) fun b o q=>by
    by_cases hb:b=l
    ·subst hb;exact⟨_,zau⟩
    ·exact⟨o,by rw [zao hb];exact q⟩
   refine⟨x,fun a o q=>(hS' a o q).keep x fun u z=>?_⟩;have ha:a≠l:=by rintro rfl;rw [n]at q;cases q
   rw [zao ha];exact z
  refine⟨fun i m σ' H'=>∃σW' S' acc vs,Ext H1 S1 H' S'∧H' l=some (.lst vs)∧S' l=none∧Reps X.K H' acc vs∧RpSt X.K H' σW' σ'∧RepS X.K H' S'∧G S'∧m=ws.length - i∧i≤ws.length∧zcZ g c e noE G QW (ws.drop i) acc σW' S',
   ⟨ws.length,_,S1,[],[], .new hl,zau,hS1.free hl, .nil,zic (hσ.ext (e1.trans (.new (S:=S1) hl))),hS1.new hl,hG1,rfl,Nat.zero_le _,h1⟩,?_⟩
  rintro i m σ' H' ⟨σW',S',acc,vs,e2,f2,n2,ra,hσ2,hS2,hG2,rfl,hi2,h2⟩;obtain⟨ji,js⟩:=hJ i S' H' e2 hS2 hG2;by_cases hlt:i<ws.length
  ·obtain⟨jgo,jy⟩:=ji ws[i] (List.getElem?_eq_getElem hlt);refine .inr ⟨jgo,fun σ'' H''=>∃σW' S' acc vs,Ext H1 S1 H'' S'∧H'' l=some (.lst vs)∧S' l=none∧Reps X.K H'' acc vs∧RpSt X.K H'' σW' σ''∧RepS X.K H'' S'∧G S'∧ws.length - (i+1)=ws.length - (i+1)∧i+1≤ws.length∧zcZ g c e noE G QW (ws.drop (i+1)) acc σW' S',
    fun σ'' H'' z=>⟨_,by omega,z⟩,fun x H3 y3=>?_⟩
   obtain⟨e3,hS3,r3⟩:=jy x H3 y3;rw [List.drop_eq_getElem_cons hlt]at h2;intro s₀ H₀ fp pn;have hk:Hook (zaV X scope N s₀ H₀ fp pn) noE:=zjp rfl;refine⟨_,_,_,hg s₀ H₀ fp pn noE hk,hc s₀ H₀ fp pn noE hk,he s₀ H₀ fp pn noE hk,?_⟩;refine⟨_,σW',S',_,r3,hσ2.ext e3,hS3,h2,fun σW4 S4 σ4 H4 e4 hσ4 hS4 h4=>?_⟩;refine⟨σW4,S4,_,hσ4,hS4,h4,fun b S5 H5 e5 hS5 h5=>?_⟩;have e15:Ext H' S' H5 S5:=(e3.trans e4).trans e5;have hσ5:=hσ4.ext e5;obtain⟨f5,n5⟩:=e15.fr l _ f2 n2;cases b with
   |false=>
    have h5:∃S4,Sub S4 S5∧G S4∧zcZ g c e noE G QW (ws.drop (i+1)) acc σW4 S4:=h5;refine zrP ?_;obtain⟨S6,sb,hG6,h6⟩:=h5;have e16:=e15.trans (.drop sb);exact⟨σW4,S6,acc,vs,e2.trans e16,f5,(e16.fr l _ f2 n2).2,ra.ext e15,hσ5,hS5.sub sb,hG6,rfl,hlt,h6⟩
   |true=>
    rw [if_pos rfl]at h5;refine zsv ?_;refine⟨σW4,S5,_,hσ5,hS5,h5,fun y S6 v H6 e6 r6 hS6 h6=>?_⟩;have e17:=e15.trans e6;obtain⟨f6,n6⟩:=e17.fr l _ f2 n2;obtain⟨hz,S7,sb,hG7,h7⟩:=h6;obtain⟨x6,hS6'⟩:=upl (us:=vs++[v]) f6 n6 hS6;have ra6:Reps X.K H6 (acc++[y]) (vs++[v]):=(ra.ext e17).append (.one r6);refine⟨vs,f6,by rw [←ra.length];exact hz,σW4,S7,acc++[y],vs++[v],?_,zau,((e17.trans (.drop sb)).fr l _ f2 n2).2,ra6.ext x6,(hσ5.ext e6).ext x6,hS6'.sub sb,hG7,rfl,hlt,h7⟩
    exact(e2.trans (e17.trans (.drop sb))).over hl
  ·have hll:i=ws.length:=by omega
   rw [List.drop_of_length_le (Nat.le_of_eq hll.symm)]at h2;exact .inl ⟨js hll,hQ acc S' vs l H' (e1.trans e2) (e1.free hl) f2 n2 ra hS2 h2⟩
theorem zct (S:CompSc X.nox scope N k fr) (hi:JI X.nox tg iter q) (hg:∀s₀ H₀ fp pn,JG (zaV X.nox scope N s₀ H₀ fp pn) tg g) (hc:∀s₀ H₀ fp pn,JTs (zaV X.nox scope N s₀ H₀ fp pn) ifs c) (he:∀s₀ H₀ fp pn,JE (zaV X.nox scope N s₀ H₀ fp pn) elt e)
  (hs:∀x,foldedSetIterable iter X.env x=pure x:=by intro _;rfl) (hcl:X.calm=true:=by rfl):JL X (.ListComp elt [⟨tg,iter,ifs,0⟩] scope pos) (zdU k fr q g c e):=fun E hE=>
 (PE.nox (znj rfl hcl S (hi noE (zjp rfl)) hs)).mono (ziK (X:=X.nox) hg hc he)
end
noncomputable def SeqIt (k:Bool) (h:Heap) (it a:Addr) (i:Nat):Prop:=if k=true then h.IsListIter it a i else h.IsTupleIter it a i
noncomputable def SeqIs (k:Bool) (h:Heap) (a:Addr) (its:Array Value):Prop:=if k=true then h.IsList a its else h.IsTuple a its
section
variable {k:Bool}{h h':Heap}{it a:Addr}{i:Nat}{its:Array Value}
theorem SeqIt.at (x:SeqIt k h it a i) (e:∀o,h.get? it=some o→h'.get? it=some o):SeqIt k h' it a i:=by
 cases k with
 |true=>exact Heap.IsListIter.at (show h.IsListIter it a i from x) e
 |false=>exact Heap.IsTupleIter.at (show h.IsTupleIter it a i from x) e
theorem SeqIs.at (x:SeqIs k h a its) (e:∀o,h.get? a=some o→h'.get? a=some o):SeqIs k h' a its:=by
 cases k with
 |true=>exact Heap.IsList.at (show h.IsList a its from x) e
 |false=>obtain⟨o,ho,r⟩:=(show h.IsTuple a its from x);exact⟨o,e o ho,r⟩
theorem SeqIt.ob (x:SeqIt k h it a i):∃o vs,h.get? it=some o∧o.data= .fields vs:=by
 cases k with
 |true=>obtain⟨o,ho,_,hd⟩:=(show h.IsListIter it a i from x);exact⟨o,_,ho,hd⟩
 |false=>obtain⟨o,ho,_,hd⟩:=(show h.IsTupleIter it a i from x);exact⟨o,_,ho,hd⟩
end
section
variable {prog:Program}{w:World}{A:Around}{E:Value→Shared→Prop}{s:Shared}
theorem zee{it t:Addr}{i:Nat}{its:Array Value}{x:Value}{Q:Value→Shared→Prop}(hit:s.heap.IsTupleIter it t i) (ht:s.heap.IsTuple t its) (hx:its[i]? =some x)
  (hQ:∀g,g.IsTupleIter it t (i+1)→Heap.SameBut it s.heap g→Q x { s with heap:=g }):wpAny (model prog w) A (Builtin.SmallTypes.nextOf (.ref it)) Q E s:=by
 obtain⟨o,ho,hc,hd⟩:=id hit;obtain⟨ot,hot,_,nt,hdt⟩:=ht;unfold Builtin.SmallTypes.nextOf;refine wpAny_bind (wpAny_callSpecial?_slot (name:=Str.ofString "__next__") hit.typeIs PySem.F.slot_tuple_iterator_next (wpAny_call_entry PySem.F.slot_tuple_iterator_next hit.typeIs PySem.F.entry_tuple_iterator_next ?_ (PySem.F.args_tuple_iterator_next_1 _)));show wpAny _ _ (field (.ref it) 0 >>= _) _ _ s;refine wpAny_bind (wpAny_field ho hd (x:= .ref t) rfl ?_);show wpAny _ _ (if(Value.ref t == Value.none)=true then _ else _) _ _ s;rw [if_neg (show ¬((Value.ref t == Value.none)=true) from Bool.false_ne_true)];show wpAny _ _ (field (.ref it) 1 >>= _) _ _ s;refine wpAny_bind (wpAny_field ho hd (x:= .int i 0) rfl ?_);show wpAny _ _ (seqItems? (.ref t) >>= _) _ _ s;refine wpAny_bind (wpAny_seqItems hot hdt ?_);simp only[Int.toNat_natCast,hx];refine wpAny_bind (wpAny_setField ho hd (by simp) (wpAny_pure ⟨x,rfl,wpAny_pure (hQ _ ?_ (Heap.SameBut.update ..))⟩));exact⟨_,Heap.get?_update_self _ ho (Obj.isFreed_of_fields (Obj.data_mapFields hd _)),(Obj.cls_mapFields ..).trans hc,by rw [Obj.data_mapFields hd];simp [rawInt]⟩
theorem zem{it t:Addr}{i:Nat}{its:Array Value}{Q:Value→Shared→Prop}(hh:A.handled=none) (hit:s.heap.IsTupleIter it t i) (ht:s.heap.IsTuple t its) (hx:its[i]? =none)
  (hE:∀g e,Heap.ExtBut it s.heap g→(∃o,g.get? e=some o∧o.cls= .type "StopIteration")→E (.ref e) { s with heap:=g }):wpAny (model prog w) A (Builtin.SmallTypes.nextOf (.ref it)) Q E s:=by
 obtain⟨o,ho,hc,hd⟩:=id hit;obtain⟨ot,hot,_,nt,hdt⟩:=ht;unfold Builtin.SmallTypes.nextOf;refine wpAny_bind (wpAny_callSpecial?_slot (name:=Str.ofString "__next__") hit.typeIs PySem.F.slot_tuple_iterator_next (wpAny_call_entry PySem.F.slot_tuple_iterator_next hit.typeIs PySem.F.entry_tuple_iterator_next ?_ (PySem.F.args_tuple_iterator_next_1 _)));show wpAny _ _ (field (.ref it) 0 >>= _) _ _ s;refine wpAny_bind (wpAny_field ho hd (x:= .ref t) rfl ?_);show wpAny _ _ (if(Value.ref t == Value.none)=true then _ else _) _ _ s;rw [if_neg (show ¬((Value.ref t == Value.none)=true) from Bool.false_ne_true)];show wpAny _ _ (field (.ref it) 1 >>= _) _ _ s;refine wpAny_bind (wpAny_field ho hd (x:= .int i 0) rfl ?_);show wpAny _ _ (seqItems? (.ref t) >>= _) _ _ s;refine wpAny_bind (wpAny_seqItems hot hdt ?_);simp only[Int.toNat_natCast,hx];refine wpAny_bind (wpAny_rule (wpAny_bind (wpAny_setField ho hd (by simp) ?_)));show wpAny _ _ (newExc (.type "StopIteration") [] >>= _) _ _ _;refine wpAny_bind ?_;simp only[newExc,newTuple];refine wpAny_bind (wpAny_newObj_type ?_ (by size_fits));refine wpAny_bind (m:=firstArgMember _ _) (wpAny_of_eq (a:=Value.none) (by first |rfl | (simp only[firstArgMember];rfl)) ?_);refine wpAny_newObj_type ?_ (by size_fits);simp only[raiseNew];refine wpAny_bind (wpAny_handled ?_)
 first |rw [show A.in1.handled=none from hh] |rw [hh]
 refine wpAny_bind (wpAny_pure (wpAny_throw ?_));exact hE _ _ (((Heap.SameBut.update ..).extBut.push _).push _) ⟨_,Heap.get?_push_size _ rfl,rfl⟩
theorem zdT{k:Bool}{it t:Addr}{i:Nat}{its:Array Value}{x:Value}{Q:Value→Shared→Prop}(hit:SeqIt k s.heap it t i) (ht:SeqIs k s.heap t its) (hx:its[i]? =some x)
  (hQ:∀g,SeqIt k g it t (i+1)→Heap.SameBut it s.heap g→Q x { s with heap:=g }):wpAny (model prog w) A (Builtin.SmallTypes.nextOf (.ref it)) Q E s:=by
 cases k with
 |true=>exact wpAny_nextOf_list_item hit ht hx hQ
 |false=>exact zee hit ht hx hQ
theorem zhm{k:Bool}{it t:Addr}{i:Nat}{its:Array Value}{Q:Value→Shared→Prop}(hh:A.handled=none) (hit:SeqIt k s.heap it t i) (ht:SeqIs k s.heap t its) (hx:its[i]? =none)
  (hE:∀g e,Heap.ExtBut it s.heap g→(∃o,g.get? e=some o∧o.cls= .type "StopIteration")→E (.ref e) { s with heap:=g }):wpAny (model prog w) A (Builtin.SmallTypes.nextOf (.ref it)) Q E s:=by
 cases k with
 |true=>exact wpAny_nextOf_list_end hh hit ht hx hE
 |false=>exact zem hh hit ht hx hE
end
noncomputable def zdP (k:Bool) (a:Addr):Obj:={ cls:= .type (if k=true then "list_iterator" else "tuple_iterator"),data:= .fields #[.ref a, .int 0 0] }
theorem zhz{k:Bool}{h:Heap}{it a:Addr}(e:h.get? it=some (zdP k a)):SeqIt k h it a 0:=by
 cases k with
 |true=>exact⟨_,e,rfl,rfl⟩
 |false=>exact⟨_,e,rfl,rfl⟩
theorem zeE{k:Bool}{a:Addr}:(zdP k a).isFreed=false:=by cases k<;>rfl
section
variable {prog:Program}{w:World}{A:Around}{E:Value→Shared→Prop}{s:Shared}
theorem zhM{k:Bool}{a:Addr}{its:Array Value}{Q:Value→Shared→Prop}(ha:SeqIs k s.heap a its) (hQ:Q (.ref s.heap.objs.size) { s with heap:=s.heap.push (zdP k a) }):wpAny (model prog w) A (pyIter (.ref a)) Q E s:=by
 cases k with
 |true=>exact wpAny_pyIter_list ha hQ
 |false=>exact wpAny_pyIter_tuple ha hQ
end
theorem SeqIs.push{k:Bool}{h:Heap}{a:Addr}{its:Array Value}(x:SeqIs k h a its) (o:Obj):SeqIs k (h.push o) a its:=x.at fun _ e=>Heap.get?_push_of_some _ e
section
variable {X:Cx}{pins:List (Addr×Obj)}{σ:St}{H:Hp}{s:Shared}{g:Heap}{fp:List Addr}
theorem Inv.turnNew{p:Addr}{o:HO}{t':Nat}(I:Inv X pins σ H s) (hp:s.heap.objs.size≤p) (k:∀b u,b∉fp→s.heap.get? b=some u→g.get? b=some u) (hf:∀b∈fp,zfo X pins H b) (new:ObjOk X.prog X.w (upd H p o) g p o) :
  Inv X pins σ (upd H p o) { s with heap:=g,toks:=t' }:=by
 have hn:=I.hok.fresh hp;have lt:∀{b u},s.heap.get? b=some u→b≠p:=fun e=>Nat.ne_of_lt (Nat.lt_of_lt_of_le (Heap.lt_size e) hp);have nfp:∀{b u},H b=some u→b∉fp:=fun e z=>by rw [(hf _ z).1]at e;cases e
 refine I.call (g':=s.gens) (d':=s.drawn) (ch:=fp) ⟨fun b u e _ _ hx=>k b u hx e,fun b u e _ _ hx=>⟨u.slots,k b u hx e⟩,fun b u e n _=>by rw [zao (lt e)];exact n,fun b u e hx=>⟨u,k b u hx e⟩,
  fun b xs e=>by rw [zao (zam e hn)];exact e,fun b u xs e=>by rw [zao (zam e hn)];exact e,fun b ps e=>⟨#[],by rw [zao (zam e hn),e];simp⟩⟩ (fun b u e=>?_) I.bare fun b hb=>⟨(hf b hb).2.2.2.1,(hf b hb).2.1,(hf b hb).2.2.2.2.1,(hf b hb).2.2.2.2.2⟩
 by_cases hb:b=p
 ·subst hb;rw [zau]at e;cases e;exact new
 ·rw [zao hb]at e;refine(I.hok b u e).stay (fun c v hc q=>k c v ?_ q) (fun c q=>by rw [zao (zam q hn)];exact q) fun c xs q=>by rw [zao (zam q hn)];exact q
  rcases hc with rfl |hc
  ·exact nfp e
  ·exact nfp hc
theorem Inv.turnedL{t':Nat}(I:Inv X pins σ H s) (k:∀b u,b∉fp→s.heap.get? b=some u→g.get? b=some u) (hf:∀b∈fp,zfo X pins H b):Inv X pins σ H { s with heap:=g,toks:=t' }:=by
 have nfp:∀{b u},H b=some u→b∉fp:=fun e z=>by rw [(hf _ z).1]at e;cases e
 refine I.call (g':=s.gens) (d':=s.drawn) (ch:=fp) ⟨fun b u e _ _ hx=>k b u hx e,fun b u e _ _ hx=>⟨u.slots,k b u hx e⟩,fun b u e n _=>n,fun b u e hx=>⟨u,k b u hx e⟩,
  fun b xs e=>e,fun b u xs e=>e,fun b ps e=>⟨#[],by rw [e];simp⟩⟩ (fun b u e=>?_) I.bare fun b hb=>⟨(hf b hb).2.2.2.1,(hf b hb).2.1,(hf b hb).2.2.2.2.1,(hf b hb).2.2.2.2.2⟩
 refine(I.hok b u e).stay (fun c v hc q=>k c v ?_ q) (fun c q=>q) fun c xs q=>q;rcases hc with rfl |hc
 ·exact nfp e
 ·exact nfp hc
noncomputable def SqK (k:Bool) (K:PySem.W.Frag) (H:Hp) (a:Addr) (xs:List V):Prop:=if k=true then SqL K H a xs else SqT K H a xs
theorem Inv.seq{k:Bool}{a:Addr}{xs:List V}(I:Inv X pins σ H s) (h:SqK k X.K H a xs):∃its:List Value,Vals xs its∧SeqIs k s.heap a its.toArray∧xs.length≤sizeLine:=by
 cases k with
 |true=>obtain⟨its,r,p,z⟩:=I.list h;exact⟨its,r,p.isList,z⟩
 |false=>obtain⟨its,r,p,z⟩:=I.tuple h;exact⟨its,r,p,z⟩
theorem Inv.seq_inj{k:Bool}{a:Addr}{xs ys:List V}(I:Inv X pins σ H s) (h:SqK k X.K H a xs) (h':SqK k X.K H a ys):xs=ys:=by
 cases k with
 |true=>exact I.list_inj h h'
 |false=>exact I.tuple_inj h h'
end
section
noncomputable def znl:W→Sto→(List W→(Sto→Prop)→Prop)→Prop
 | .tup ws,_,Q=>Q ws fun _=>True
 | .ref a,S,Q=>zbt S a fun ws=>Q ws fun S'=>S' a=some (.lst ws)
 | .scr ns,_,Q=>Q (ns.map W.int) fun _=>True
 |_,_,_=>False
end
section
variable {prog:Program}{w:World}{A:Around}{E:Value→Shared→Prop}{s:Shared}
theorem zkN{k1 k2:Bool}{z TI TO i1 i2 l1 l2:Addr}{n1 n2:Nat}{xs ys:Array Value}{x y a b:Value}{Q:Option Value→Shared→Prop}(D:ZipApart z TI TO i1 i2 l1 l2)
  (hz:IsZip s.heap z TI TO .none) (hTI:IsPair s.heap TI (.ref i1) (.ref i2)) (hTO:IsPair s.heap TO a b) (h1:SeqIt k1 s.heap i1 l1 n1) (h2:SeqIt k2 s.heap i2 l2 n2) (hl1:SeqIs k1 s.heap l1 xs) (hl2:SeqIs k2 s.heap l2 ys) (hx:xs[n1]? =some x) (hy:ys[n2]? =some y)
  (hQ:∀g,IsZip g z TI TO (rawInt s.heap.objs.size)→IsPair g TO x y→SeqIt k1 g i1 l1 (n1+1)→SeqIt k2 g i2 l2 (n2+1)→IsPair g s.heap.objs.size x y→g.objs.size=s.heap.objs.size+1→
   (∀c o,c≠z→c≠TO→c≠i1→c≠i2→s.heap.get? c=some o→g.get? c=some o)→Q (some (.ref s.heap.objs.size)) { s with heap:=g }):wpAny (model prog w) A (pyNext (.ref z)) Q E s:=by
 have hT:s.TypeIs (.ref z) "zip" :=⟨_,hz,rfl⟩;unfold pyNext;refine wpAny_bind (wpAny_attempt (wpAny_callSpecial?_slot (name:=Str.ofString "__next__") hT PySem.F.slot_zip_next (wpAny_call_entry PySem.F.slot_zip_next hT PySem.F.entry_zip_next ?_ (PySem.F.args_zip_next_1 _))));show wpAny _ _ (field (.ref z) 2 >>= _) _ _ _;refine wpAny_bind (wpAny_field hz rfl (x:= .bool false) rfl ?_);show wpAny _ _ (field (.ref z) 3 >>= _) _ _ _;refine wpAny_bind (wpAny_field hz rfl (x:= .ref TI) rfl ?_);refine wpAny_bind (wpAny_seqItems hTI rfl ?_);show wpAny _ _ (Builtin.SmallTypes.ownedTupleIsFree (.ref z) >>= _) _ _ _;refine wpAny_bind ?_;unfold Builtin.SmallTypes.ownedTupleIsFree;refine wpAny_bind (wpAny_field hz rfl (x:= .none) rfl (wpAny_pure ?_));simp only[if_true];refine wpAny_bind (wpAny_rule ?_);refine wpAny_bind (wpAny_field hz rfl (x:= .ref TO) rfl ?_);refine wpAny_bind (wpAny_setField_rec hz (by simp) fun g1 hz1 hs1=>?_);replace hz1:IsZip g1 z TI TO .ellipsis:=hz1;refine wpAny_bind ?_;simp only[List.zipIdx_cons,List.zipIdx_nil,List.forIn_cons,List.forIn_nil];refine wpAny_bind (wpAny_bind (wpAny_onRaise ?_));show wpAny _ _ (Builtin.SmallTypes.nextOf (.ref i1) >>= _) _ _ _;refine wpAny_bind (zdT (h1.at fun o e=>hs1.extBut _ o D.i1z e) (hl1.at fun o e=>hs1.extBut _ o D.l1z e) hx fun g2 h12 hs2=>wpAny_pure ?_);have hTO2:IsPair g2 TO a b:=hs2.extBut _ _ D.TOi1 (hs1.extBut _ _ D.TOz hTO);refine wpAny_bind (wpAny_seqItems hTO2 rfl ?_);refine wpAny_bind (wpAny_updateSeq_pair hTO2 fun g3 hTO3 hs3=>?_);replace hTO3:IsPair g3 TO x b:=hTO3;refine wpAny_bind (wpAny_letGo (wpAny_pure ?_));refine wpAny_bind (wpAny_bind (wpAny_onRaise ?_));show wpAny _ _ (Builtin.SmallTypes.nextOf (.ref i2) >>= _) _ _ _;refine wpAny_bind (zdT (h2.at fun o e=>hs3.extBut _ o D.TOi2.symm (hs2.extBut _ o D.i12.symm (hs1.extBut _ o D.i2z e))) (hl2.at fun o e=>hs3.extBut _ o D.l2TO (hs2.extBut _ o D.l2i1 (hs1.extBut _ o D.l2z e))) hy fun g4 h24 hs4=>wpAny_pure ?_);have hTO4:IsPair g4 TO x b:=hs4.extBut _ _ D.TOi2 hTO3;refine wpAny_bind (wpAny_seqItems hTO4 rfl ?_);refine wpAny_bind (wpAny_updateSeq_pair hTO4 fun g5 hTO5 hs5=>?_);replace hTO5:IsPair g5 TO x y:=hTO5;refine wpAny_bind (wpAny_letGo (wpAny_pure (wpAny_pure ?_)));refine wpAny_bind (wpAny_seqItems hTO5 rfl ?_);refine wpAny_bind (wpAny_newTuple ?_);have hsz:g5.objs.size=s.heap.objs.size:=by rw [hs5.1,hs4.1,hs3.1,hs2.1,hs1.1]
 have hz5:IsZip g5 z TI TO .ellipsis:=hs5.extBut _ _ D.TOz.symm (hs4.extBut _ _ D.i2z.symm (hs3.extBut _ _ D.TOz.symm (hs2.extBut _ _ D.i1z.symm hz1)));have hk5:∀c o,c≠z→c≠TO→c≠i1→c≠i2→s.heap.get? c=some o→g5.get? c=some o:=fun c o c1 c2 c3 c4 e=>hs5.extBut _ _ c2 (hs4.extBut _ _ c4 (hs3.extBut _ _ c2 (hs2.extBut _ _ c3 (hs1.extBut _ _ c1 e))));have h15:SeqIt k1 g5 i1 l1 (n1+1):=h12.at fun o e=>hs5.extBut _ o D.TOi1.symm (hs4.extBut _ o D.i12 (hs3.extBut _ o D.TOi1.symm e));have h25:SeqIt k2 g5 i2 l2 (n2+1):=h24.at fun o e=>hs5.extBut _ o D.TOi2.symm e;have hzlt:z<g5.objs.size:=Heap.lt_size hz5;show wpAny _ _ (Builtin.SmallTypes.ownedTupleHandOut (.ref z) (.ref g5.objs.size) >>= _) _ _ _;refine wpAny_bind ?_;unfold Builtin.SmallTypes.ownedTupleHandOut;have hz6:IsZip (g5.push { cls:= .type "tuple",data:= .seq #[x,y] }) z TI TO .ellipsis:=Heap.get?_push_of_some _ hz5;refine wpAny_bind (wpAny_setField_rec hz6 (by simp) fun g7 hz7 hs7=>?_);replace hz7:IsZip g7 z TI TO (rawInt g5.objs.size):=hz7;refine wpAny_setField_rec hz7 (by simp) fun g8 hz8 hs8=>?_;replace hz8:IsZip g8 z TI TO (rawInt g5.objs.size):=hz8;have up:∀c o,c≠z→g5.get? c=some o→g8.get? c=some o:=fun c o c1 e=>hs8.extBut _ _ c1 (hs7.extBut _ _ c1 (Heap.get?_push_of_some _ e));have hT8:IsPair g8 g5.objs.size x y:=hs8.extBut _ _ (Nat.ne_of_gt hzlt) (hs7.extBut _ _ (Nat.ne_of_gt hzlt) (Heap.get?_push_size _ rfl));have hzz:g8.objs.size=g5.objs.size+1:=by rw [hs8.1,hs7.1,Heap.size_push]
 rw [hsz]at hz8 hT8 hzz;refine wpAny_pure ⟨_,rfl,wpAny_pure ?_⟩;show Q (some (.ref g5.objs.size)) _;rw [hsz];exact hQ g8 hz8 (up _ _ D.TOz hTO5) (h15.at fun o e=>up _ o D.i1z e) (h25.at fun o e=>up _ o D.i2z e) hT8 hzz fun c o c1 c2 c3 c4 e=>up c o c1 (hk5 c o c1 c2 c3 c4 e)
theorem zmw{k1 k2:Bool}{z TI TO i1 i2 l1 l2:Addr}{n1 n2:Nat}{xs ys:Array Value}{a b:Value}{Q:Option Value→Shared→Prop}(hh:A.handled=none) (D:ZipApart z TI TO i1 i2 l1 l2)
  (hz:IsZip s.heap z TI TO .none) (hTI:IsPair s.heap TI (.ref i1) (.ref i2)) (hTO:IsPair s.heap TO a b) (h1:SeqIt k1 s.heap i1 l1 n1) (h2:SeqIt k2 s.heap i2 l2 n2) (hl1:SeqIs k1 s.heap l1 xs) (hl2:SeqIs k2 s.heap l2 ys) (hend:xs[n1]? =none∨ys[n2]? =none)
  (hQ:∀g,(∀c o,c≠z→c≠TO→c≠i1→c≠i2→s.heap.get? c=some o→g.get? c=some o)→Q none { s with heap:=g }):wpAny (model prog w) A (pyNext (.ref z)) Q E s:=by
 have hT:s.TypeIs (.ref z) "zip" :=⟨_,hz,rfl⟩;have fin:∀(g:Heap) (e:Addr),(∀c o,c≠z→c≠TO→c≠i1→c≠i2→s.heap.get? c=some o→g.get? c=some o)→(∃o,g.get? e=some o∧o.cls= .type "StopIteration")→
   wpAny (model prog w) A (do if(←isInstance (.ref e) (.type "StopIteration")) then pure none else throw (.ref e)) Q E { s with heap:=g }:=fun g e hk ⟨o,ho,hc⟩=>
  wpAny_bind (wpAny_isInstance (T:= "StopIteration") (b:=true) ⟨o,ho,hc⟩ isSubtype_stop (wpAny_pure (hQ _ hk)))
 unfold pyNext;refine wpAny_bind (wpAny_attempt (wpAny_callSpecial?_slot (name:=Str.ofString "__next__") hT PySem.F.slot_zip_next (wpAny_call_entry PySem.F.slot_zip_next hT PySem.F.entry_zip_next ?_ (PySem.F.args_zip_next_1 _))));show wpAny _ _ (field (.ref z) 2 >>= _) _ _ _;refine wpAny_bind (wpAny_field hz rfl (x:= .bool false) rfl ?_);show wpAny _ _ (field (.ref z) 3 >>= _) _ _ _;refine wpAny_bind (wpAny_field hz rfl (x:= .ref TI) rfl ?_);refine wpAny_bind (wpAny_seqItems hTI rfl ?_);show wpAny _ _ (Builtin.SmallTypes.ownedTupleIsFree (.ref z) >>= _) _ _ _;refine wpAny_bind ?_;unfold Builtin.SmallTypes.ownedTupleIsFree;refine wpAny_bind (wpAny_field hz rfl (x:= .none) rfl (wpAny_pure ?_));simp only[if_true];refine wpAny_bind (wpAny_rule ?_);refine wpAny_bind (wpAny_field hz rfl (x:= .ref TO) rfl ?_);refine wpAny_bind (wpAny_setField_rec hz (by simp) fun g1 hz1 hs1=>?_);replace hz1:IsZip g1 z TI TO .ellipsis:=hz1;refine wpAny_bind ?_;simp only[List.zipIdx_cons,List.zipIdx_nil,List.forIn_cons,List.forIn_nil];refine wpAny_bind (wpAny_bind (wpAny_onRaise ?_));show wpAny _ _ (Builtin.SmallTypes.nextOf (.ref i1) >>= _) _ _ _;cases hx:xs[n1]? with
 |none=>
  refine wpAny_bind (zhm hh (h1.at fun o e=>hs1.extBut _ o D.i1z e) (hl1.at fun o e=>hs1.extBut _ o D.l1z e) hx fun g2 e hs2 he=>?_);obtain⟨oe,hoe,hce⟩:=he;have hz2:IsZip g2 z TI TO .ellipsis:=hs2 _ _ D.i1z.symm hz1;have hez:e≠z:=fun x=>by subst x;rw [hz2]at hoe;cases hoe;simp at hce
  refine wpAny_setField_rec hz2 (by simp) fun g3 _ hs3=>fin g3 e (fun c o c1 _ c3 _ x=>hs3.extBut _ _ c1 (hs2 _ _ c3 (hs1.extBut _ _ c1 x))) ⟨oe,hs3.extBut _ _ hez hoe,hce⟩
 |some x=>
  have hy:ys[n2]? =none:=by rcases hend with h |h;rw [hx]at h;cases h;exact h
  refine wpAny_bind (zdT (h1.at fun o e=>hs1.extBut _ o D.i1z e) (hl1.at fun o e=>hs1.extBut _ o D.l1z e) hx fun g2 h12 hs2=>wpAny_pure ?_);have hTO2:IsPair g2 TO a b:=hs2.extBut _ _ D.TOi1 (hs1.extBut _ _ D.TOz hTO);refine wpAny_bind (wpAny_seqItems hTO2 rfl ?_);refine wpAny_bind (wpAny_updateSeq_pair hTO2 fun g3 hTO3 hs3=>?_);refine wpAny_bind (wpAny_letGo (wpAny_pure ?_));refine wpAny_bind (wpAny_bind (wpAny_onRaise ?_));show wpAny _ _ (Builtin.SmallTypes.nextOf (.ref i2) >>= _) _ _ _;refine wpAny_bind (zhm hh (h2.at fun o e=>hs3.extBut _ o D.TOi2.symm (hs2.extBut _ o D.i12.symm (hs1.extBut _ o D.i2z e))) (hl2.at fun o e=>hs3.extBut _ o D.l2TO (hs2.extBut _ o D.l2i1 (hs1.extBut _ o D.l2z e))) hy fun g4 e hs4 he=>?_);obtain⟨oe,hoe,hce⟩:=he;have hz4:IsZip g4 z TI TO .ellipsis:=hs4 _ _ D.i2z.symm (hs3.extBut _ _ D.TOz.symm (hs2.extBut _ _ D.i1z.symm hz1));have hez:e≠z:=fun x=>by subst x;rw [hz4]at hoe;cases hoe;simp at hce
  refine wpAny_setField_rec hz4 (by simp) fun g5 _ hs5=>fin g5 e (fun c o c1 c2 c3 c4 x=>hs5.extBut _ _ c1 (hs4 _ _ c4 (hs3.extBut _ _ c2 (hs2.extBut _ _ c3 (hs1.extBut _ _ c1 x))))) ⟨oe,hs5.extBut _ _ hez hoe,hce⟩
end
noncomputable abbrev zH1 (k1:Bool) (h:Heap) (l1:Addr):Heap:=h.push (zdP k1 l1)
noncomputable abbrev zH2 (k1 k2:Bool) (h:Heap) (l1 l2:Addr):Heap:=(zH1 k1 h l1).push (zdP k2 l2)
noncomputable abbrev zH3 (k1 k2:Bool) (h:Heap) (l1 l2:Addr):Heap:=(zH2 k1 k2 h l1 l2).push { cls:= .type "tuple",data:= .seq #[.ref h.objs.size, .ref (zH1 k1 h l1).objs.size] }
noncomputable abbrev zH4 (k1 k2:Bool) (h:Heap) (l1 l2:Addr):Heap:=(zH3 k1 k2 h l1 l2).push { cls:= .type "tuple",data:= .seq #[.none, .none] }
noncomputable abbrev zH5 (k1 k2:Bool) (h:Heap) (l1 l2:Addr):Heap:=(zH4 k1 k2 h l1 l2).push { cls:= .type "zip",data:= .fields #[.none, .bool false, .bool false, .ref (zH2 k1 k2 h l1 l2).objs.size, .ref (zH3 k1 k2 h l1 l2).objs.size] }
theorem zik{k1 k2:Bool}(l1 l2:Addr) (xs ys:Array Value) :
  PySem.Meets (Builtin.«zip.__new__» ⟨[.type "zip", .ref l1, .ref l2],[]⟩) (fun _ R s=>SeqIs k1 s.heap l1 xs∧SeqIs k2 s.heap l2 ys∧R (.ok (.ret (.ref (zH4 k1 k2 s.heap l1 l2).objs.size))) { s with heap:=zH5 k1 k2 s.heap l1 l2 }):=
 .of_wp fun prog w A R s h=>by
  obtain⟨hp,g,d,tk,os⟩:=s;obtain⟨hl1,hl2,h⟩:=h;have hsub:=sub_zip;have f1:∀{A:Around}{E:Value→Shared→Prop}{Q:Value→Shared→Prop},Q (.ref hp.objs.size) ⟨hp.push (zdP k1 l1),g,d,tk,os⟩→wpAny (model prog w) A (pyIter (.ref l1)) Q E ⟨hp,g,d,tk,os⟩:=fun q=>zhM (s:=⟨hp,g,d,tk,os⟩) hl1 q;have f2:∀{A:Around}{E:Value→Shared→Prop}{Q:Value→Shared→Prop},Q (.ref (hp.push (zdP k1 l1)).objs.size) ⟨(hp.push (zdP k1 l1)).push (zdP k2 l2),g,d,tk,os⟩→wpAny (model prog w) A (pyIter (.ref l2)) Q E ⟨hp.push (zdP k1 l1),g,d,tk,os⟩:=fun q=>zhM (s:=⟨hp.push (zdP k1 l1),g,d,tk,os⟩) (hl2.push _) q
  wp_walk using f1,f2
  exact⟨_,rfl,h⟩
section
variable {prog:Program}{w:World}{A:Around}{E:Value→Shared→Prop}{s:Shared}
theorem zkp{k1 k2:Bool}{l1 l2:Addr}{xs ys:Array Value}{Q:Value→Shared→Prop}(hl1:SeqIs k1 s.heap l1 xs) (hl2:SeqIs k2 s.heap l2 ys)
  (h:∀g,IsZip g (s.heap.objs.size+4) (s.heap.objs.size+2) (s.heap.objs.size+3) .none→IsPair g (s.heap.objs.size+2) (.ref s.heap.objs.size) (.ref (s.heap.objs.size+1))→
   IsPair g (s.heap.objs.size+3) .none .none→SeqIt k1 g s.heap.objs.size l1 0→SeqIt k2 g (s.heap.objs.size+1) l2 0→g.objs.size=s.heap.objs.size+5→
   (∀c o,s.heap.get? c=some o→g.get? c=some o)→Q (.ref (s.heap.objs.size+4)) { s with heap:=g }):wpAny (model prog w) A (call (.type "zip") [.ref l1, .ref l2]) Q E s:=by
 refine callType_new PySem.F.called_zip (by decide) (PySem.F.typeCall_zip_2 _ _) (PySem.F.newCall_zip_2 _ _) (fun obj=>PySem.F.args_object_init_3 obj _ _) PySem.F.entry_zip_new (zik (k1:=k1) (k2:=k2) l1 l2 xs ys) ⟨hl1,hl2,?_⟩;have z1:(zH1 k1 s.heap l1).objs.size=s.heap.objs.size+1:=Heap.size_push ..;have z2:(zH2 k1 k2 s.heap l1 l2).objs.size=s.heap.objs.size+2:=by rw [Heap.size_push,z1]
 have z3:(zH3 k1 k2 s.heap l1 l2).objs.size=s.heap.objs.size+3:=by rw [Heap.size_push,z2]
 have z4:(zH4 k1 k2 s.heap l1 l2).objs.size=s.heap.objs.size+4:=by rw [Heap.size_push,z3]
 have z5:(zH5 k1 k2 s.heap l1 l2).objs.size=s.heap.objs.size+5:=by rw [Heap.size_push,z4]
 have g5:(zH5 k1 k2 s.heap l1 l2).get? (zH4 k1 k2 s.heap l1 l2).objs.size=some _:=Heap.get?_push_size _ rfl;have g4:(zH5 k1 k2 s.heap l1 l2).get? (zH3 k1 k2 s.heap l1 l2).objs.size=some _:=Heap.get?_push_of_some _ (Heap.get?_push_size _ rfl);have g3:(zH5 k1 k2 s.heap l1 l2).get? (zH2 k1 k2 s.heap l1 l2).objs.size=some _:=Heap.get?_push_of_some _ (Heap.get?_push_of_some _ (Heap.get?_push_size _ rfl));have g2:(zH5 k1 k2 s.heap l1 l2).get? (zH1 k1 s.heap l1).objs.size=some _:=Heap.get?_push_of_some _ (Heap.get?_push_of_some _ (Heap.get?_push_of_some _ (Heap.get?_push_size _ zeE)));have g1:(zH5 k1 k2 s.heap l1 l2).get? s.heap.objs.size=some _:=Heap.get?_push_of_some _ (Heap.get?_push_of_some _ (Heap.get?_push_of_some _ (Heap.get?_push_of_some _ (Heap.get?_push_size _ zeE))));show _∧_;rw [z2,z3,z4]at g5;rw [z1,z2]at g3;rw [z3]at g4;rw [z1]at g2;rw [z4];exact⟨⟨_,g5,rfl⟩,h _ g5 g3 g4 (zhz g1) (zhz g2) z5 fun c o x=>Heap.get?_push_of_some _ (Heap.get?_push_of_some _ (Heap.get?_push_of_some _ (Heap.get?_push_of_some _ (Heap.get?_push_of_some _ x))))⟩
end
noncomputable def SqZ (k:Bool) (K:PySem.W.Frag) (H:Hp) (a:Addr) (xs:List V):Prop:=if k=true then SqL K H a xs else H a=some (.tup xs)
theorem SqZ.sq{k:Bool}{K:PySem.W.Frag}{H:Hp}{a:Addr}{xs:List V}(h:SqZ k K H a xs):SqK k K H a xs:=by
 cases k with
 |true=>exact h
 |false=>exact .of h
theorem SeqIs.ob{k:Bool}{h:Heap}{a:Addr}{its:Array Value}(x:SeqIs k h a its):∃o n,h.get? a=some o∧o.data= .seq its n∧(k=true→o.cls= .type "list"):=by
 cases k with
 |true=>obtain⟨o,ho,hc,n,hd⟩:=(show h.IsList a its from x);exact⟨o,n,ho,hd,fun _=>hc⟩
 |false=>obtain⟨o,ho,hc,n,hd⟩:=(show h.IsTuple a its from x);exact⟨o,n,ho,hd,fun z=>by cases z⟩
theorem SeqIs.ne_fields{k:Bool}{h:Heap}{a b:Addr}{its:Array Value}{o:Obj}{vs:Array Value}(x:SeqIs k h a its) (e:h.get? b=some o) (d:o.data= .fields vs):a≠b:=fun z=>by
 subst z;obtain⟨o',n,ho,hd,_⟩:=x.ob;rw [ho]at e;cases e;rw [hd]at d;cases d
noncomputable def Itz (k1 k2:Bool) (K:PySem.W.Frag) (a b:Addr):It:=
  ⟨fun i H=>∃xs ys x y,SqZ k1 K H a xs∧SqZ k2 K H b ys∧xs[i]? =some x∧ys[i]? =some y,
   fun i H v H'=>∃p x y,H p=none∧v= .ref p∧H'=upd H p (.tup [x,y])∧(∀xs,SqZ k1 K H a xs→xs[i]? =some x)∧ ∀ys,SqZ k2 K H b ys→ys[i]? =some y,
   fun i H=>∃xs ys,SqZ k1 K H a xs∧SqZ k2 K H b ys∧(xs.length≤i∨ys.length≤i)⟩
structure ZipFar (z TI TO i1 i2:Addr):Prop where
  TIz:TI≠z
  TOz:TO≠z
  i1z:i1≠z
  i2z:i2≠z
  TITO:TI≠TO
  TIi1:TI≠i1
  TIi2:TI≠i2
  TOi1:TO≠i1
  TOi2:TO≠i2
  i12:i1≠i2
noncomputable def zpO (k1 k2:Bool) (z TI TO i1 i2 a b:Addr) (i:Nat) (h:Heap):Prop:=IsZip h z TI TO .none∧IsPair h TI (.ref i1) (.ref i2)∧(∃u v,IsPair h TO u v)∧SeqIt k1 h i1 a i∧SeqIt k2 h i2 b i
section
variable {X:Cx}{pins:List (Addr×Obj)}{σ:St}{H:Hp}{s:Shared}
theorem zfm{k1 k2:Bool}{z TI TO i1 i2 a b:Addr}{i:Nat}{xs ys:List V}(I:Inv X pins σ H s) (hTO:H TO=none) (D:ZipFar z TI TO i1 i2) (st:zpO k1 k2 z TI TO i1 i2 a b i s.heap) (ha:SqZ k1 X.K H a xs) (hb:SqZ k2 X.K H b ys):ZipApart z TI TO i1 i2 a b:=by
 obtain⟨hz,hTI,⟨u,v,hTOo⟩,h1,h2⟩:=st;obtain⟨o1,v1,e1,d1⟩:=h1.ob;obtain⟨o2,v2,e2,d2⟩:=h2.ob;obtain⟨its,_,pa,_⟩:=I.seq ha.sq;obtain⟨its2,_,pb,_⟩:=I.seq hb.sq;have nTO:∀{k:Bool}{c:Addr}{zs:List V}{its:Array Value},SqZ k X.K H c zs→SeqIs k s.heap c its→c≠TO:=fun {k c zs its} hc pc e=>by
  subst e;cases k with
  |false=>rw [show H c=some (.tup zs) from hc]at hTO;cases hTO
  |true=>
   obtain⟨o,n,ho,_,hcl⟩:=pc.ob;rw [hTOo]at ho;cases ho;have:=hcl rfl;simp at this
 exact⟨D.TIz,D.TOz,D.i1z,D.i2z,D.TITO,D.TIi1,D.TIi2,D.TOi1,D.TOi2,D.i12,pa.ne_fields hz rfl,nTO ha pa,pa.ne_fields e1 d1,pa.ne_fields e2 d2,pb.ne_fields hz rfl,nTO hb pb,pb.ne_fields e1 d1,pb.ne_fields e2 d2⟩
end
theorem zlx{P:Program}{w:World}{K:PySem.W.Frag}{es:List Expr}{x1:Nat}{pos:Pos}(k1 k2:Bool) (a b z TI TO i1 i2:Addr) (D:ZipFar z TI TO i1 i2):Turn P w K (.Tuple es x1 pos) (Itz k1 k2 K a b) [z,TI,TO,i1,i2] z (zpO k1 k2 z TI TO i1 i2 a b) where
  mem:=by simp
  obj:=fun i h ⟨hz,hTI,⟨u,v,hTO⟩,h1,h2⟩ c hc=>by
    obtain⟨o1,v1,e1,d1⟩:=h1.ob;obtain⟨o2,v2,e2,d2⟩:=h2.ob;simp only[List.mem_cons,List.not_mem_nil,or_false]at hc;rcases hc with rfl |rfl |rfl |rfl |rfl
    · exact⟨_,hz,fun v z=>by cases z⟩
    · exact⟨_,hTI,fun v z=>by cases z⟩
    · exact⟨_,hTO,fun v z=>by cases z⟩
    · exact⟨_,e1,fun v z=>by rw [d1]at z;cases z⟩
    · exact⟨_,e2,fun v z=>by rw [d2]at z;cases z⟩
  keep:=fun i h h' ⟨hz,hTI,⟨u,v,hTO⟩,h1,h2⟩ kk=>⟨kk z (by simp) _ hz,kk TI (by simp) _ hTI,⟨u,v,kk TO (by simp) _ hTO⟩,h1.at fun o q=>kk i1 (by simp) o q,h2.at fun o q=>kk i2 (by simp) o q⟩
  item:=by
    intro X hP hw hK hc i pins s σ H E I hf st hg;subst hP hw hK;obtain⟨xs,ys,x,y,ha,hb,hx,hy⟩:=hg;have Z:=zfm I (hf TO (by simp)).1 D st ha hb;obtain⟨hz,hTI,⟨c0,d0,hTO⟩,h1,h2⟩:=st;obtain⟨its,rv,pa,_⟩:=I.seq ha.sq;obtain⟨its2,rv2,pb,_⟩:=I.seq hb.sq;obtain⟨u,hu,ru⟩:=rv.get hx;obtain⟨u2,hu2,ru2⟩:=rv2.get hy;refine zkN Z hz hTI hTO h1 h2 pa pb (x:=u) (y:=u2) (by simpa using hu) (by simpa using hu2) fun g hz1 hTO1 h11 h21 hp hz' kk=>⟨_,rfl,?_⟩;refine wpAny_letOwnedTupleGo_zip hz1 fun g2 hz2 hs2=>?_;have hs2':∀c o,c≠z→g.get? c=some o→g2.get? c=some o:=fun c o hc e=>(hs2.2 c hc).trans e;have kk2:∀c o,c∉ [z,TI,TO,i1,i2]→s.heap.get? c=some o→g2.get? c=some o:=fun c o hc q=>by
      simp only[List.mem_cons,List.not_mem_nil,or_false,not_or]at hc;exact hs2' c o hc.1 (kk c o hc.1 hc.2.2.1 hc.2.2.2.1 hc.2.2.2.2 q)
    have hn:=I.hok.fresh (Nat.le_refl s.heap.objs.size);have hpz:s.heap.objs.size≠z:=Nat.ne_of_gt (Heap.lt_size hz);have ht2:g2.get? s.heap.objs.size=some { cls:= .type "tuple",data:= .seq #[u,u2] }:=hs2' _ _ hpz hp;refine⟨.ref s.heap.objs.size,upd H s.heap.objs.size (.tup [x,y]),I.turnNew (fp:=[z,TI,TO,i1,i2]) (t':=s.toks) (Nat.le_refl _) kk2 hf ⟨by show 2≤sizeLine;rw [sizeLine_eq];decide,[u,u2], .cons ru (.cons ru2 .nil),⟨_,ht2,rfl,_,rfl⟩⟩,rfl,
      ⟨_,x,y,hn,rfl,rfl,fun zs hy=>by rw [I.seq_inj hy.sq ha.sq];exact hx,fun zs hy'=>by rw [I.seq_inj hy'.sq hb.sq];exact hy⟩,
      ⟨hz2,hs2' _ _ D.TIz (kk _ _ D.TIz D.TITO D.TIi1 D.TIi2 hTI),⟨u,u2,hs2' _ _ D.TOz hTO1⟩,h11.at fun o q=>hs2' _ o D.i1z q,h21.at fun o q=>hs2' _ o D.i2z q⟩,fun c hc=>?_⟩
    have hlt:∃o,s.heap.get? c=some o:=by
      obtain⟨o1,v1,e1,d1⟩:=h1.ob;obtain⟨o2,v2,e2,d2⟩:=h2.ob;simp only[List.mem_cons,List.not_mem_nil,or_false]at hc;rcases hc with rfl |rfl |rfl |rfl |rfl
      · exact⟨_,hz⟩
      · exact⟨_,hTI⟩
      · exact⟨_,hTO⟩
      · exact⟨_,e1⟩
      · exact⟨_,e2⟩
    obtain⟨o,ho⟩:=hlt;rw [zao (Nat.ne_of_lt (Heap.lt_size ho))];exact(hf c hc).1
  done:=by
    intro X hP hw hK hc i pins s σ H E I hf st hg;subst hP hw hK;obtain⟨xs,ys,ha,hb,hx⟩:=hg;have Z:=zfm I (hf TO (by simp)).1 D st ha hb;obtain⟨hz,hTI,⟨c0,d0,hTO⟩,h1,h2⟩:=st;obtain⟨its,rv,pa,_⟩:=I.seq ha.sq;obtain⟨its2,rv2,pb,_⟩:=I.seq hb.sq;have hl:=rv.length;have hl2:=rv2.length;refine zmw (I.ok.hd hc) Z hz hTI hTO h1 h2 pa pb ?_ fun g eb=>⟨rfl,I.turnedL (fp:=[z,TI,TO,i1,i2]) (t':=s.toks) (fun c o hc q=>?_) hf⟩
    · rcases hx with hx |hx
      · exact .inl (by simp;omega)
      · exact .inr (by simp;omega)
    · simp only[List.mem_cons,List.not_mem_nil,or_false,not_or]at hc;exact eb c o hc.1 hc.2.2.1 hc.2.2.2.1 hc.2.2.2.2 q
  self:=fun A i s Q E st h=>wpAny_pyIter_zip st.1 h
section
variable {X:Cx}{es:List Expr}{x1:Nat}{tpos:Pos}
noncomputable def zrZ (K:PySem.W.Frag) (ta:TA):TI:=fun σ H R=>ta σ H fun vs H1=>∃k1 k2 a b xs ys,vs=[.ref a, .ref b]∧SqZ k1 K H1 a xs∧SqZ k2 K H1 b ys∧R (Itz k1 k2 K a b) H1
theorem zpe{a b:Expr}{ta:TA}{p pos:Pos}(hg:Gl X "zip") (hm:X.mg "zip" =none) (ha:PA X [a,b] ta) (hs:starEach [a,b] X.env=[(false,eval a X.env),(false,eval b X.env)]:=by rfl) (hs2:starEach [b] X.env=[(false,eval b X.env)]:=by rfl):PI X (.Tuple es x1 tpos) (.Call (.Name "zip" p) [a,b] [] pos) (zrZ X.K ta):=by
 intro pins s σ H R I h;refine Call_ (zfX I hg hm boot_zip (PyProof.Rows.callWith_type1 (thn (ha pos pins s σ H _ I h) fun us s1 ⟨vs,H1,I1,r1,q1⟩=>?_) (by rw [hs,hs2]) (by rw [hs2];rfl)));obtain⟨k1,k2,a,b,xs,ys,e,hq1,hq2,q⟩:=q1;subst e;cases r1 with
 |cons r rr=>
  cases rr with
  |cons r' rr=>
   cases rr;cases(show _=Value.ref a from r);cases(show _=Value.ref b from r');obtain⟨its,rv,pl,_⟩:=I1.seq hq1.sq;obtain⟨its2,rv2,pl2,_⟩:=I1.seq hq2.sq;refine zkp pl pl2 fun g hz hTI hTO h1 h2 hz' kk=>wpAny_pyIter_zip hz ?_;have I2:Inv X pins σ H1 { s1 with heap:=g }:=I1.kept (t':=s1.toks) kk;have ne:∀(n i j:Nat),i≠j→n+i≠n+j:=fun n i j h e=>h (Nat.add_left_cancel e);have D:ZipFar (s1.heap.objs.size+4) (s1.heap.objs.size+2) (s1.heap.objs.size+3) s1.heap.objs.size (s1.heap.objs.size+1):=
    ⟨ne _ 2 4 (by decide),ne _ 3 4 (by decide),ne _ 0 4 (by decide),ne _ 1 4 (by decide),ne _ 2 3 (by decide),ne _ 2 0 (by decide),ne _ 2 1 (by decide),ne _ 3 0 (by decide),ne _ 3 1 (by decide),ne _ 0 1 (by decide)⟩
   refine⟨_,_,_,_,H1,rfl,I2,zlx k1 k2 a b _ _ _ _ _ D,⟨hz,hTI,⟨_,_,hTO⟩,h1,h2⟩,fun c hc=>?_,q⟩;have hb':s1.heap.objs.size≤c:=by
    simp only[List.mem_cons,List.not_mem_nil,or_false]at hc;rcases hc with rfl |rfl |rfl |rfl |rfl
    ·exact Nat.le_add_right _ _
    ·exact Nat.le_add_right _ _
    ·exact Nat.le_add_right _ _
    ·exact Nat.le_refl _
    ·exact Nat.le_add_right _ _
   exact I1.fpOk hb' (I1.hok.fresh hb')
noncomputable def zcG:List W→List W→List W
 |x::xs,y::ys=> .tup [x,y]::zcG xs ys
 |_,_=>[]
theorem zfU:∀{xs ys:List W}{i:Nat}{u:W},(zcG xs ys)[i]? =some u→ ∃x y,xs[i]? =some x∧ys[i]? =some y∧u= .tup [x,y]
 | [],_,_,_,h=>by simp [zcG]at h
 |_::_,[],_,_,h=>by simp [zcG]at h
 |x::xs,y::ys,0,u,h=>by
  simp [zcG]at h;exact⟨x,y,rfl,rfl,h.symm⟩
 |x::xs,y::ys,i+1,u,h=>by simpa using zfU (xs:=xs) (ys:=ys) (i:=i) (u:=u) (by simpa [zcG]using h)
theorem zfB:∀{xs ys:List W},(zcG xs ys).length=min xs.length ys.length
 | [],_=>by simp [zcG]
 |_::_,[]=>by simp [zcG]
 |x::xs,y::ys=>by simp [zcG,zfB (xs:=xs) (ys:=ys)]
theorem zog{K:PySem.W.Frag}{k1 k2:Bool}{a b:Addr}{ws us:List W}{G:Sto→Prop}{H0:Hp}{S0:Sto}(h:∀S H,Ext H0 S0 H S→RepS K H S→G S→(∃vs,SqZ k1 K H a vs∧Reps K H ws vs)∧ ∃vs,SqZ k2 K H b vs∧Reps K H us vs):ItW K (Itz k1 k2 K a b) (zcG ws us) G H0 S0:=fun i S H e hS hG=>by
 obtain⟨⟨xs,hq,r⟩,⟨ys,hq2,r2⟩⟩:=h S H e hS hG;refine⟨fun u eu=>?_,fun hl=>⟨xs,ys,hq,hq2,?_⟩⟩
 ·obtain⟨x,y,ex,ey,rfl⟩:=zfU eu;obtain⟨v,ev,rv⟩:=r.get ex;obtain⟨v2,ev2,rv2⟩:=r2.get ey;refine⟨⟨xs,ys,v,v2,hq,hq2,ev,ev2⟩,fun x H' ⟨p,y1,y2,hp,e1,e2,e3,e4⟩=>?_⟩;subst e1 e2;have f1:=e3 xs hq;have f2:=e4 ys hq2;rw [ev]at f1;cases f1;rw [ev2]at f2;cases f2;exact⟨.new hp,hS.new hp, .tup zau (.cons (rv.ext (.new (S:=S) hp)) (.cons (rv2.ext (.new (S:=S) hp)) .nil))⟩
 ·rw [zfB]at hl;rw [←r.length,←r2.length];omega
theorem zhB{K:PySem.W.Frag}{H:Hp}{S:Sto}{w:W}{v:V}{Q:List W→(Sto→Prop)→Prop}(r:Rep K H w v) (hS:RepS K H S) (h:znl w S Q) :
  ∃k a ws G,v= .ref a∧G S∧(∀S' H',Ext H S H' S'→RepS K H' S'→G S'→ ∃vs,SqZ k K H' a vs∧Reps K H' ws vs)∧Q ws G:=by
 cases r with
 |tup f hs=>exact⟨false,_,_,_,rfl,trivial,fun S' H' e hS' _=>⟨_,e.tup _ _ f,hs.ext e⟩,h⟩
 |ref a=>
  obtain⟨ws,ea,h⟩:=zaT h;exact⟨true,_,ws,_,rfl,ea,fun S' H' e hS' g=>by
   obtain⟨vs,f,hs⟩:=hS' a _ g;exact⟨vs, .of f,hs⟩,h⟩
 |scr f=>exact⟨true,_,_,_,rfl,trivial,fun S' H' e hS' _=>⟨_,(e.fz f).sq,Reps.ofInts _⟩,h⟩
 |_=>exact h.elim
noncomputable def zrt (t u:WE):WI:=fun E σ S Q=>t E σ S fun x S1=>u E σ S1 fun y S2=>znl x S2 fun xs G=>znl y S2 fun ys G'=>Q (zcG xs ys) (fun S'=>G S'∧G' S') S2
theorem znV{a b:Expr}{ta tb:WE}{p pos:Pos}(hg:Gl X "zip") (hm:X.mg "zip" =none) (ha:JE X a ta) (hb:JE X b tb) (hs:starEach [a,b] X.env=[(false,eval a X.env),(false,eval b X.env)]:=by rfl) (hs2:starEach [b] X.env=[(false,eval b X.env)]:=by rfl)
  (h3:starEach [a,b] X.env=(false,eval a X.env)::starEach [b] X.env:=by rfl) (h4:starEach [b] X.env=(false,eval b X.env)::starEach [] X.env:=by rfl):JI X (.Tuple es x1 tpos) (.Call (.Name "zip" p) [a,b] [] pos) (zrt ta tb):=fun E hE=>
 (zpe hg hm (zcp (ha E hE) (zcp (hb E hE) pa_nil h4) h3) hs hs2).mono fun σ H R ⟨σW,S,QW,hσ,hS,ht,hR⟩=>⟨σW,S,_,hσ,hS,ht,fun x S1 v H1 e1 r1 hS1 h1=>⟨σW,S1,_,hσ.ext e1,hS1,h1,fun y S2 v2 H2 e2 r2 hS2 h2=>by
  obtain⟨k1,a,ws,G,rfl,hG,hq,h⟩:=zhB (r1.ext e2) hS2 h2;obtain⟨k2,b,us,G',rfl,hG',hq',h⟩:=zhB r2 hS2 h;obtain⟨vs,hv,_⟩:=hq S2 H2 .refl hS2 hG;obtain⟨vs',hv',_⟩:=hq' S2 H2 .refl hS2 hG';exact⟨k1,k2,a,b,vs,vs',rfl,hv,hv',hR _ _ S2 _ H2 (e1.trans e2) hS2 ⟨hG,hG'⟩ (zog fun S' H' e hS' g=>⟨hq S' H' e hS' g.1,hq' S' H' e hS' g.2⟩) h⟩⟩⟩
end
section
noncomputable def zqd (hi:Int) (n:Nat):List W:=(List.range n).map fun(i:Nat)=> .int (hi - (i:Int))
noncomputable def zsw (t:WA):WI:=fun E σ S Q=>t E σ S fun ws S1=>match ws with
 | [.int i, .int j, .int c]=>c= -1∧(-(2 ^ 62)≤i∧i<2 ^ 62∧ -(2 ^ 62)≤j∧j<2 ^ 62)∧Q (zqd i (i - j).toNat) (fun _=>True) S1
 |_=>False
end
section
variable {X:Cx}{a b c:Expr}{pos:Pos}{ta tb tc:WE}
theorem zkw{op op':CmpOp}{r r':R2}{wr wr':W2}(ho:OpR X (compareOp op) r) (hw:OpW X.K r wr) (ho':OpR X (compareOp op') r') (hw':OpW X.K r' wr') (ha:JE X a ta) (hb:JE X b tb) (hc:JE X c tc)
  (hm:lastMarks [op,op'] [b,c]=false:=by with_unfolding_all rfl):JE X (.Compare a [op,op'] [b,c] pos) (zdB wr wr' ta tb tc):=fun E hE=>
 (zkx ho ho' (ha E hE) (hb E hE) (hc E hE) hm).mono fun σ H Q ⟨σW,S,QW,hσ,hS,ht,hQ⟩=>by
  refine⟨σW,S,_,hσ,hS,ht,fun x S1 v1 H1 e1 r1 hS1 h1=>⟨σW,S1,_,hσ.ext e1,hS1,h1,fun y S2 v2 H2 e2 r2 hS2 h2=>?_⟩⟩;refine hw H2 v1 v2 x y S2 _ _ (r1.ext e2) r2 hS2 h2 fun z S3 v3 H3 e3 r3 hS3 h3=>?_;cases r3 with
  |bl k=>
   refine⟨k,rfl,?_⟩;cases k with
   |true=>
    refine⟨σW,S3,_,((hσ.ext e1).ext e2).ext e3,hS3,h3,fun u S4 v4 H4 e4 r4 hS4 h4=>?_⟩;exact hw' H4 v2 v4 y u S4 Q QW ((r2.ext e3).ext e4) r4 hS4 h4 (hQ.from (((e1.trans e2).trans e3).trans e4))
   |false=>exact hQ _ S3 _ H3 ((e1.trans e2).trans e3) (.bl false) hS3 h3
  |_=>exact h3.elim
theorem zdO (ha:JE X a ta) (hb:JE X b tb) (hc:JE X c tc) (hm:lastMarks [.LtE, .LtE] [b,c]=false:=by with_unfolding_all rfl):JE X (.Compare a [.LtE, .LtE] [b,c] pos) (zdB oLe oLe ta tb tc):=zkw (op_le.or zfH) zmc (op_le.or zfH) zmc ha hb hc hm
end
section
variable {X:Cx}{e:Expr}{es:List Expr}{t:WA}{p pos:Pos}
noncomputable def zom:WF:=fun ws S Q=>match ws with
 | [.int i]=>Q (.int i) S
 | [.bl b]=>Q (.int (if b then 1 else 0)) S
 |_=>False
theorem ziI{K:PySem.W.Frag}:zhd K (fun xs H Q=>(∃i,xs=[.int i]∧Q (.int i) H)∨ ∃k,xs=[.bl k]∧Q (.int (if k then 1 else 0)) H) zom:=fun H vs ws S Q QW r hS h hQ=>by
 cases r with
 |nil=>exact h.elim
 |cons r1 r2=>
  cases r2 with
  |cons _ _=>cases r1<;>exact h.elim
  |nil=>
   cases r1 with
   |int i=>exact .inl ⟨i,rfl,hQ _ S _ H .refl (.int _) hS h⟩
   |bl b=>exact .inr ⟨b,rfl,hQ _ S _ H .refl (.int _) hS h⟩
   |_=>exact h.elim
theorem znJ (hg:Gl X "int") (hm:X.mg "int" =none) (ha:JA X (e::es) t)
  (he:starEach (e::es) X.env=(false,eval e X.env)::starEach es X.env:=by rfl) (hpl:(backTo pos (starEach es X.env)).any (·.1)=false:=by rfl):JE X (.Call (.Name "int" p) (e::es) [] pos) (wB zom t):=
 zkR zjO ziI hg hm PyProof.Rows.boot_int ha (by decide) (by decide) he hpl
noncomputable def zqW:WF:=fun ws S Q=>match ws with
 | [.int i, .int j]=>Q (.int (if j > i then j else i)) S
 |_=>False
noncomputable def zrr:WF:=fun ws S Q=>match ws with
 | [.int i, .int j]=>Q (.int (if j<i then j else i)) S
 |_=>False
theorem zgC{tl:WL}(hg:Gl X "all") (hm:X.mg "all" =none) (ha:JL X e tl)
  (he:starEach [e] X.env=(false,eval e X.env)::starEach [] X.env:=by rfl) (hpl:(backTo pos (starEach [] X.env)).any (·.1)=false:=by rfl) (hcl:X.calm=true:=by rfl):JE X (.Call (.Name "all" p) [e] [] pos) (wBL zgS tl):=fun E hE=>znG (zlF hcl) zjF hg hm PyProof.Rows.boot_all ha (by decide) (by decide) he hpl E hE
theorem ziN{tl:WL}(hg:Gl X "tuple") (hm:X.mg "tuple" =none) (ha:JL X e tl)
  (he:starEach [e] X.env=(false,eval e X.env)::starEach [] X.env:=by rfl) (hpl:(backTo pos (starEach [] X.env)).any (·.1)=false:=by rfl):JE X (.Call (.Name "tuple" p) [e] [] pos) (wBL zfh tl):=zoc zdb zhj hg hm PyProof.Rows.boot_tuple ha (by decide) (by decide) he hpl
theorem zli (hg:Gl X "tuple") (hm:X.mg "tuple" =none) (ha:JA X (e::es) t)
  (he:starEach (e::es) X.env=(false,eval e X.env)::starEach es X.env:=by rfl) (hpl:(backTo pos (starEach es X.env)).any (·.1)=false:=by rfl):JE X (.Call (.Name "tuple" p) (e::es) [] pos) (wB zfO t):=zkR zdb zgE hg hm PyProof.Rows.boot_tuple ha (by decide) (by decide) he hpl
end
theorem zhX{K:PySem.W.Frag}:∀T∈ ["int", "bool", "str", "tuple", "list"],∀A∈ ["NoneType", "bool", "int", "str", "tuple", "list"],PySem.W.kitOne K (.type A) (.type T)=some (zbg A T):=by
 intro T hT A hA;simp only[List.mem_cons,List.not_mem_nil,or_false]at hT hA;rcases hT with rfl |rfl |rfl |rfl |rfl<;>rcases hA with rfl |rfl |rfl |rfl |rfl |rfl<;>rfl
theorem gl0:∀(ws:List W) (σ:WSt) (S:Sto) (P:WSt→Sto→Prop),zhY ws σ S P→ws.length=0:=fun ws σ S P h=>by
 cases ws with
 |nil=>rfl
 |cons _ _=>exact h.elim
theorem glS{i n:Nat}{u:WGs}(h:∀(ws:List W) (σ:WSt) (S:Sto) (P:WSt→Sto→Prop),u ws σ S P→ws.length=n):∀(ws:List W) (σ:WSt) (S:Sto) (P:WSt→Sto→Prop),zdv (wGN i) u ws σ S P→ws.length=n+1:=fun ws σ S P q=>by
 cases ws with
 |nil=>exact q.elim
 |cons w ws=>exact congrArg (· +1) (h _ _ _ _ q)
noncomputable def zbs:WSp:=fun _ _ _ _=>False
theorem zjT{P:Program}{w:World}{K:PySem.W.Frag}{mg:Str→Option Value}{base:Heap}{f:Addr}{fd:FuncData}{ps:List Str}{k:Nat}:FnOk P w K mg base (CX1 P w) k f fd ps (zaK K zbs):=
 ⟨fun vs H Q E ⟨_,_,_,_,_,_,h,_⟩=>h.elim,fun A outer s H args us vs Q E _ _ _ _ ⟨_,_,_,_,_,_,h,_⟩=>h.elim⟩
section
variable {X:Cx}{a b:Expr}{pos:Pos}{ta tb:WE}{la lb:WL}
noncomputable def zqO (t:WL) (u:WE):WE:=fun E σ S Q=>t E σ S fun ws S1=>u E σ S1 fun y S2=>match y with
 | .int i=>match atI ws i with
  |some w=>Q w S2
  |none=>False
 |_=>False
theorem zpH (ha:JL X a la) (hb:JE X b tb) (hs:zhh b:=by intro _ _;rfl):JE X (.Subscript a b pos) (zqO la tb):=fun E hE=>
 (zpq zmf (ha E hE) (hb E hE) hs).mono fun σ H Q ⟨σW,S,QW,hσ,hS,ht,hQ⟩=>⟨σW,S,_,hσ,hS,ht,fun ws S1 vs p H1 e1 fp ep np r1 hS1 h1=>⟨σW,S1,_,hσ.ext e1,hS1,h1,fun y S2 v2 H2 e2 r2 hS2 h2=>by
  cases r2 with
  |int i=>
   dsimp only at h2;split at h2
   ·obtain⟨v,ev,r⟩:=zgG (r1.ext e2) ‹_›;exact .inl ⟨p,vs,i,v,rfl,rfl, .of (e2.fr p _ ep np).1,ev,hQ _ S2 _ H2 (e1.trans e2) r hS2 h2⟩
   ·exact h2.elim
  |_=>exact h2.elim⟩⟩
noncomputable def znc (t:WE) (u:WL):WL:=fun E σ S Q=>t E σ S fun x S1=>u E σ S1 fun ys S2=>match x with
 | .ref a=>zbt S2 a fun xs=>xs.length+ys.length≤sizeLine∧Q (xs++ys) S2
 |_=>False
noncomputable def zly (t u:WL):WL:=fun E σ S Q=>t E σ S fun xs S1=>u E σ S1 fun ys S2=>xs.length+ys.length≤sizeLine∧Q (xs++ys) S2
theorem zmQ (ha:JE X a ta) (hb:JL X b lb):JL X (.BinOp a .Add b pos) (znc ta lb):=fun E hE=>
 (znL ziS (ha E hE) (hb E hE)).mono fun σ H Q ⟨σW,S,QW,hσ,hS,ht,hQ⟩=>⟨σW,S,_,hσ,hS,ht,fun w1 S1 v1 H1 e1 r1 hS1 h1=>⟨σW,S1,_,hσ.ext e1,hS1,h1,fun ys S2 us q H2 e2 fq eq nq r2 hS2 h2=>by
  cases r1 with
  |ref p=>
   obtain⟨xs,ea,h⟩:=zaT h2;obtain⟨vs,f1,q1⟩:=hS2 p _ ea;exact⟨p,q,vs,us,rfl,rfl,f1,eq,by rw [←q1.length,←r2.length];exact h.1,fun p hp=>hQ _ S2 _ p _ ((e1.trans e2).trans (.new hp)) ((e1.trans e2).free hp) zau (hS2.free hp) ((q1.append r2).ext (.new (S:=S2) hp)) (hS2.new hp) h.2⟩
  |_=>exact h2.elim⟩⟩
theorem ziH (ha:JL X a la) (hb:JL X b lb):JL X (.BinOp a .Add b pos) (zly la lb):=fun E hE=>
 (znL ziS (ha E hE) (hb E hE)).mono fun σ H Q ⟨σW,S,QW,hσ,hS,ht,hQ⟩=>⟨σW,S,_,hσ,hS,ht,fun xs S1 vs p H1 e1 fp ep np r1 hS1 h1=>⟨σW,S1,_,hσ.ext e1,hS1,h1,fun ys S2 us q H2 e2 fq eq nq r2 hS2 h2=>
  ⟨p,q,vs,us,rfl,rfl,(e2.fr p _ ep np).1,eq,by rw [←r1.length,←r2.length];exact h2.1,fun z hz=>hQ _ S2 _ z _ ((e1.trans e2).trans (.new hz)) ((e1.trans e2).free hz) zau (hS2.free hz) (((r1.ext e2).append r2).ext (.new (S:=S2) hz)) (hS2.new hz) h2.2⟩⟩⟩
end
theorem zkZ{K:PySem.W.Frag}{H:Hp}{a:Addr}{ns:List Int}{c:WSp}{E:XK}(hO:zql H) (hS:SqL K H a (ns.map V.int)) (h:c [.scr ns] (fun _=>none) (fun w _=>w= .bl true) (fun _ _=>False)):zaK K c [.ref a] H (fun v _=>v= .bl true) E:=by
 have fz:FzL K H a (ns.map V.int):=by
  rcases hS with(hS |⟨o,hS⟩) |hS
  ·rcases hO a with z |⟨o,xs,z⟩
   ·rw [hS]at z;cases z
   ·rw [hS]at z;cases z
  ·exact .inl ⟨o,hS⟩
  ·exact .inr hS
 refine⟨[.scr ns],fun _=>none,_,fun _ _=>False, .one (.scr fz),(fun a o e=>by cases e),h,fun w S v H' e r hS' q=>?_,fun _ _ _ _ _ _ z=>z.elim⟩
 subst q;cases r;rfl
section
noncomputable def zrz:W2
 | .tup xs, .int k,S,Q=>(xs≠ []∧ -(2 ^ 63)≤k∧k<2 ^ 63∧xs.length*k.toNat≤sizeLine)∧Q (.tup (List.replicate k.toNat xs).flatten) S
 |_,_,_,_=>False
end
section
variable {K:PySem.W.Frag}{H:Hp}
noncomputable abbrev RepD (K:PySem.W.Frag) (H:Hp):List (List Int×W)→List (List Key×V)→Prop:=Paired fun q p=>p.1=q.1.map Sum.inl∧Rep K H q.2 p.2
theorem RepD.length{kvs:List (List Int×W)}{ps:List (List Key×V)}(r:RepD K H kvs ps):kvs.length=ps.length:=Paired.length r
end
section
noncomputable def zpX:WMf:=fun w ws S Q=>match w,ws with
 | .str z,[]=>z.length≤5592405∧Q (.str (Txt.upper z)) S
 |_,_=>False
end
end L2
end
section
namespace L2
open PySem PySem.Spec PyProof.Rows PySem.W PySem.Calls Builtin Builtin.ObjectAttr Builtin.Getset_descriptor
structure XcOk (K:Frag) (C:Addr):Prop where
  ga:findIn K (.ref C) "__getattribute__" =some (some (.builtin "BaseException.__getattribute__"))
  gt:findIn K (.ref C) "__getattr__" =some none
  cl:findIn K (.ref C) "__class__" =some (some (.builtin "object.__class__"))
  ob:mroIn K C (.type "object")=some true
  be:mroIn K C (.type "BaseException")=some true
noncomputable abbrev bmV:List Value:=[.type "ValueError", .type "Exception", .type "BaseException", .type "object"]
structure XcIn (K:PySem.W.Frag) (x:Str) (C:Addr):Prop where
  nm:PySem.W.nsIn K mainGlobals x=some (some (.ref C))
  ex:PySem.W.excIn K C bmV "ValueError.__new__" =true
  xc:XcOk K C
theorem XcIn.own{K:PySem.W.Frag}{x:Str}{C:Addr}{h:Heap}{mg:Str→Option Value}(O:XcIn K x C) (X:K.In h) (G:h.Ns mainGlobals mg):OwnCls x C bmV "ValueError.__new__" mg h:=by
 have q:=O.ex;refine⟨PySem.W.mg_of X G O.nm,?_⟩;unfold PySem.W.excIn at q;split at q
 ·rename_i dd cd sl ho;split at q
  ·rename_i C' bm k0 k1 k2 k3 n k5 hm hs;simp only[Bool.and_eq_true,beq_iff_eq,Bool.not_eq_true']at q;obtain⟨⟨⟨⟨⟨rfl,hnn⟩,hdel⟩,ht⟩,hok⟩,hni⟩:=q;obtain⟨nm,bs,mro,ns,qn,hd,sn,sub,ab,col,del⟩:=cd;dsimp only at hm hdel hok hni;subst hm hdel;have hsl:sl= #[k0,k1,k2,k3,some (.builtin n),k5]:=by
    obtain⟨l⟩:=sl;simp only at hs;rw [hs]
   subst hsl;subst hnn;exact⟨bm,ns,nm,qn,bs,hd,sn,sub,ab,col,dd,k0,k1,k2,k3,k5,_,X _ _ ho, .of_isNs (PySem.W.isNs_of_in X hok),PySem.W.nsMap_none_of_in X hok hni,PySem.W.tail_of_in X ht⟩
  ·cases q
 ·cases q
noncomputable def zdj (x:Str) (t:WA):WS:=fun E _ σ S=>t E σ S fun ws S1=>ws.length≤sizeLine∧E x σ S1
theorem zbH{X:Cx}{x:Str}{C:Addr}{e:Expr}{es:List Expr}{t:WA}{np cpos pos:Pos}(O:XcIn X.K x C) (hg:Gl X x) (hm:X.mg x=some (.ref C)) (ha:JA X (e::es) t) (hcl:X.calm=true:=by rfl) (hdb:(x == ("__debug__" :Str))=false:=by decide)
  (he:starEach (e::es) X.env=(false,eval e X.env)::starEach es X.env:=by rfl) (hpl:(backTo cpos (starEach es X.env)).any (·.1)=false:=by rfl) :
  JS X (.Raise (some (.Call (.Name x np) (e::es) [] cpos)) none pos) (zdj x t):=fun E hE pins s σ H D I z=>by
 obtain⟨σW,S,DW,hσ,hS,ht,hD⟩:=z;have OC:=(O.own I.mod.kin I.mod.glob).keeps I.bk;obtain⟨tl,N,nm,q,bs,hdct,sn,sub,ab,col,dd,k0,k1,k2,k3,k5,mN,hC,hN,hni,T⟩:=(O.own I.mod.kin I.mod.glob).obj;refine wpAny_Raise_call_subT (C:=C) (nm:=nm) (q:=q) (N:=N) (bs:=bs) (bm:=tl) (hdct:=hdct) (sn:=sn) (sub:=sub) (ab:=ab) (col:=col) (dd:=dd) (k0:=k0) (k1:=k1) (k2:=k2) (k3:=k3) (k5:=k5)
  F.excBase_ValueError (mN:=mN) (T.hasType F.excBase_ValueError.hasBase) (I.ok.hd hcl) (by rw [he];show(false || (backTo cpos (starEach es X.env)).any (·.1))=false;rw [hpl];rfl) hni (zfd I hg hm ⟨rfl,?_⟩ hdb)
 have go:=ha E hE cpos pins s σ H (fun vs H1=>∃ws S1,Reps X.K H1 ws vs∧RpSt X.K H1 σW σ∧RepS X.K H1 S1∧ws.length≤sizeLine∧E x σW S1) I ⟨σW,S,_,hσ,hS,ht,fun ws S1 vs H1 e1 r1 hS1 h1=>⟨ws,S1,r1,hσ.ext e1,hS1,h1.1,h1.2⟩⟩;rw [he]at go⊢;refine Calls.evalArgs_plain (wpAny_mono go (fun us s2 ⟨vs,H1,I1,r,ws,S1,r1,hσ1,hS1,hl,h1⟩=>?_) fun _ _ y=>y);refine⟨rfl,by rw [←r.length,←r1.length];exact hl,I1.bk _ _ hC,hN.keeps I1.bk,T.keeps I1.bk,fun h' a me=>?_⟩
 exact hE.near pins σ H1 s2 σW x C a S1 h' us I1 hσ1 O.nm me hS1 h1
inductive Tr where
  |bl (n:Int)
  |nd (s:Str) (ts:List Tr)
noncomputable def Tr.kids:Tr→List Tr
 | .bl _=>[]
 | .nd _ ts=>ts
mutual
noncomputable def Tr.weight:Tr→Nat
 | .bl _=>1
 | .nd _ ts=>1+wts ts
noncomputable def wts:List Tr→Nat
 | []=>0
 |t::ts=>t.weight+wts ts
end
mutual
noncomputable def Tr.depth:Tr→Nat
 | .bl _=>1
 | .nd _ ts=>1+dts ts
noncomputable def dts:List Tr→Nat
 | []=>0
 |t::ts=>max t.depth (dts ts)
end
theorem zbR:wts []=0:=by unfold wts;rfl
theorem zaB (t:Tr) (ts:List Tr):wts (t::ts)=t.weight+wts ts:=by
 conv=>lhs;unfold wts
theorem zbo:∀(ts us:List Tr),wts (ts++us)=wts ts+wts us
 | [],us=>by
  show wts us=wts []+wts us;rw [zbR];omega
 |t::ts,us=>by
  show wts (t::(ts++us))=_;rw [zaB,zaB,zbo ts us];omega
theorem zgI:dts []=0:=by unfold dts;rfl
theorem zcE (t:Tr) (ts:List Tr):dts (t::ts)=max t.depth (dts ts):=by
 conv=>lhs;unfold dts
theorem zbp (t:Tr):t.weight=1+wts t.kids:=by
 cases t with
 |bl n=>
  show Tr.weight (.bl n)=1+wts [];unfold Tr.weight wts;rfl
 |nd s ts=>
  show Tr.weight (.nd s ts)=1+wts ts
  conv=>lhs;unfold Tr.weight
theorem zcB (t:Tr):t.depth=1+dts t.kids:=by
 cases t with
 |bl n=>
  show Tr.depth (.bl n)=1+dts [];unfold Tr.depth dts;rfl
 |nd s ts=>
  show Tr.depth (.nd s ts)=1+dts ts
  conv=>lhs;unfold Tr.depth
theorem zex (t:Tr):1≤t.weight:=by rw [zbp];omega
theorem zdc (t:Tr):1≤t.depth:=by rw [zcB];omega
theorem zew:∀(ts us:List Tr),dts (ts++us)=max (dts ts) (dts us)
 | [],us=>by
  show dts us=max (dts []) (dts us);rw [zgI];omega
 |t::ts,us=>by
  show dts (t::(ts++us))=_;rw [zcE,zcE,zew ts us];exact(Nat.max_assoc _ _ _).symm
theorem zdk:∀(ts:List Tr),ts.length≤wts ts
 | []=>Nat.zero_le _
 |t::ts=>by
  have:=zdk ts;have:=zex t;rw [zaB,List.length_cons];omega
theorem zgK{t:Tr}:∀{ts:List Tr},t∈ts→t.weight≤wts ts
 | [],h=>by cases h
 |u::ts,h=>by
  rw [zaB];rcases List.mem_cons.mp h with e |h
  ·rw [e];omega
  ·have:=zgK h;omega
theorem zhD:∀{ts:List Tr},ts≠ []→dts ts=1+dts (ts.flatMap Tr.kids)
 | [],h=>absurd rfl h
 | [t],_=>by
  rw [List.flatMap_cons,List.flatMap_nil,List.append_nil,zcE,zgI,zcB];omega
 |t::u::r,_=>by
  have ih:=zhD (ts:=u::r) (by simp);have e:(t::u::r).flatMap Tr.kids=t.kids++(u::r).flatMap Tr.kids:=List.flatMap_cons ..;rw [zcE,ih,e,zew,zcB];omega
theorem zhA:∀(ts:List Tr),wts (ts.flatMap Tr.kids)+ts.length=wts ts
 | []=>by rw [List.flatMap_nil,zbR];rfl
 |t::ts=>by
  have ih:=zhA ts;rw [List.flatMap_cons,zbo,zaB,List.length_cons,zbp];omega
mutual
theorem zcq:∀t:Tr,t.depth≤t.weight
 | .bl n=>by unfold Tr.depth Tr.weight;exact Nat.le_refl _
 | .nd s ts=>by
  have:=zeq ts;rw [zcB,zbp];show 1+dts ts≤1+wts ts;omega
theorem zeq:∀ts:List Tr,dts ts≤wts ts
 | []=>by rw [zgI];exact Nat.zero_le _
 |t::ts=>by
  have:=zcq t;have:=zeq ts;rw [zcE,zaB];omega
end
mutual
noncomputable def enc:Tr→W
 | .bl n=> .int n
 | .nd s ts=> .tup (.str s::zaQ ts)
noncomputable def zaQ:List Tr→List W
 | []=>[]
 |t::ts=>enc t::zaQ ts
end
theorem zaw:∀ts:List Tr,zaQ ts=ts.map enc
 | []=>by simp [zaQ]
 |t::ts=>by simp [zaQ,zaw ts]
theorem zay (ts:List Tr):(zaQ ts).length=ts.length:=by rw [zaw,List.length_map]
theorem zhe:zbg "int" "int" =true:=by decide +kernel
theorem zfv:zbg "int" "bool" =false:=by decide +kernel
theorem zgA:zbg "int" "str" =false:=by decide +kernel
theorem zeS:zbg "int" "tuple" =false:=by decide +kernel
theorem zfN:zbg "int" "list" =false:=by decide +kernel
theorem zfn:zbg "bool" "int" =true:=by decide +kernel
theorem zeH:zbg "bool" "bool" =true:=by decide +kernel
theorem zgb:zbg "bool" "str" =false:=by decide +kernel
theorem zek:zbg "bool" "tuple" =false:=by decide +kernel
theorem zfa:zbg "bool" "list" =false:=by decide +kernel
theorem zgX:zbg "str" "int" =false:=by decide +kernel
theorem zfw:zbg "str" "bool" =false:=by decide +kernel
theorem zgZ:zbg "str" "str" =true:=by decide +kernel
theorem zeF:zbg "str" "tuple" =false:=by decide +kernel
theorem zgm:zbg "str" "list" =false:=by decide +kernel
theorem zeK:zbg "tuple" "int" =false:=by decide +kernel
theorem zej:zbg "tuple" "bool" =false:=by decide +kernel
theorem zfl:zbg "tuple" "str" =false:=by decide +kernel
theorem sub_tuple_tuple:zbg "tuple" "tuple" =true:=by decide +kernel
theorem sub_tuple_list:zbg "tuple" "list" =false:=by decide +kernel
theorem zfr:zbg "list" "int" =false:=by decide +kernel
theorem zeM:zbg "list" "bool" =false:=by decide +kernel
theorem zfW:zbg "list" "str" =false:=by decide +kernel
theorem sub_list_tuple:zbg "list" "tuple" =false:=by decide +kernel
theorem sub_list_list:zbg "list" "list" =true:=by decide +kernel
section
variable {α:Type}{x:α}{xs:List α}
theorem zkX (n:Nat):zbq xs (some (n:Int)) none=xs.drop n:=by
 unfold zbq;rw [HT.sIx_nat,HT.sIx_none];by_cases h:n≤xs.length
 ·rw [Nat.min_eq_left h,List.take_of_length_le (by rw [List.length_drop];omega)]
 ·rw [Nat.min_eq_right (by omega),List.drop_of_length_le (Nat.le_refl _),List.drop_of_length_le (by omega),List.take_nil]
theorem zkA (n:Nat):zbq xs none (some (n:Int))=xs.take n:=by
 unfold zbq;rw [HT.sIx_nat,HT.sIx_none,List.drop_zero,Nat.sub_zero];by_cases h:n≤xs.length
 ·rw [Nat.min_eq_left h]
 ·rw [Nat.min_eq_right (by omega),List.take_length,List.take_of_length_le (by omega)]
theorem zix:zbq (x::xs) (some 1) none=xs:=by rw [show(1:Int)=((1:Nat):Int) from rfl,zkX];rfl
theorem zke{n d k:Nat}(h:0<k):HT.sIx n d (some (-(k:Int)))=n - k:=by
 show(if(-(k:Int))<0 then(-(k:Int)+(n:Int)).toNat else min (-(k:Int)).toNat n)=n - k;rw [if_pos (by omega)];omega
theorem zdN (k:Nat) (h:0<k):zbq xs none (some (-(k:Int)))=xs.take (xs.length - k):=by
 unfold zbq;rw [zke h,HT.sIx_none,List.drop_zero,Nat.sub_zero]
theorem zjZ (k:Nat) (h:0<k):zbq xs (some (-(k:Int))) none=xs.drop (xs.length - k):=by
 unfold zbq;rw [zke h,HT.sIx_none,List.take_of_length_le (by rw [List.length_drop];omega)]
theorem zcC{n:Nat}:atI xs (n:Int)=xs[n]? :=by
 unfold atI ixN;rw [if_pos (by omega)];by_cases h:n<xs.length
 ·rw [if_pos (by omega)];simp
 ·rw [if_neg (by omega)];simp;omega
theorem zbI:atI (x::xs) 0=some x:=zcC (n:=0)
theorem zkn{k:Nat}(h:0<k) (hk:k≤xs.length):atI xs (-(k:Int))=xs[xs.length - k]? :=by
 unfold atI ixN;rw [if_neg (by omega),if_pos (by omega)];simp;congr 1;omega
end
section
variable {S S':Sto}{a b:Addr}{o:Ob}{Q:List W→Prop}{ws:List W}
theorem zhG:zbt (put S a (.lst ws)) a Q=Q ws:=zas zag
theorem zgL (h:b≠a):zbt (put S a o) b Q=zbt S b Q:=by unfold zbt;rw [zaU h]
theorem zcg (h:put S a o b=none):S b=none∧b≠a:=by
 have hb:b≠a:=by rintro rfl;rw [zag]at h;cases h
 rw [zaU hb]at h;exact⟨h,hb⟩
theorem zeQ{u:Ob}(h:S a=some u) (n:S b=none):a≠b:=by rintro rfl;rw [h]at n;cases n
theorem Sub.put (h:Sub S S') (n:S a=none):Sub S (L2.put S' a o):=fun b u e=>by rw [zaU (zeQ e n)];exact h b u e
theorem Sub.put2{u:Ob}(h:Sub S S'):Sub (L2.put S a u) (L2.put S' a u):=fun b w e=>by
 by_cases hb:b=a
 ·subst hb;rw [zag]at e⊢;exact e
 ·rw [zaU hb]at e⊢;exact h b w e
end
theorem zpP (S:Sto) (a b:Int):eqF S 60 (.int a) (.int b)=some (a == b):=by have h:eqF S 60 (.int a) (.int b)=some (a == b):=rfl;exact h
theorem zph (S:Sto) (a b:Str):eqF S 60 (.str a) (.str b)=some (a == b):=by have h:eqF S 60 (.str a) (.str b)=some (a == b):=rfl;exact h
theorem zqv (S:Sto) (a b:Bool):eqF S 60 (.bl a) (.bl b)=some (a == b):=by have h:eqF S 60 (.bl a) (.bl b)=some (a == b):=rfl;exact h
theorem zah{n:Nat}(h:n≤16777216):n≤sizeLine:=by rw [sizeLine_eq];exact h
theorem zdl{n:Nat}(h:n<16777216):n<sizeLine:=by rw [sizeLine_eq];exact h
section
variable {S:Sto}{Q:WK}{QB:Bool→Sto→Prop}{QS:List W→(Sto→Prop)→Prop}{QT:String→Prop}
theorem zfM{a:Addr}{o:Ob}(h:S a=some o):put S a o=S:=by
 funext b;unfold put;split
 ·rename_i e;rw [e,h]
 ·rfl
theorem _root_.pz{a b:Prop}(h:a→b) (g:b→a):a=b:=propext ⟨h,g⟩
theorem zlE{b:Bool}:zlL (.bl b) S QB=QB b S:=pz id id
theorem zjC{i:Int}:zlL (.int i) S QB=QB (i != 0) S:=pz id id
theorem zjR{ws:List W}:zlL (.tup ws) S QB=QB (!ws.isEmpty) S:=pz id id
theorem zjl{a:Addr}:zlL (.ref a) S QB=zbt S a fun ws=>QB (!ws.isEmpty) S:=pz id id
theorem zjA:zlL .non S QB=QB false S:=pz id id
theorem zjk{ws:List W}:znl (.tup ws) S QS=QS ws fun _=>True:=pz id id
theorem zkb{a:Addr}:znl (.ref a) S QS=zbt S a fun ws=>QS ws fun S'=>S' a=some (.lst ws):=pz id id
theorem znd{b:Bool}:tyW (.bl b) S QT=QT "bool" :=pz id id
theorem zlH{i:Int}:tyW (.int i) S QT=QT "int" :=pz id id
theorem zku{i:Str}:tyW (.str i) S QT=QT "str" :=pz id id
theorem zko{i:List W}:tyW (.tup i) S QT=QT "tuple" :=pz id id
theorem zkW:tyW .non S QT=QT "NoneType" :=pz id id
theorem zkz{a:Addr}:tyW (.ref a) S QT=zbt S a fun _=>QT "list" :=pz id id
theorem zkc{i j:Int}:zco (.int i) (.int j) S Q=Q (.int (i+j)) S:=pz id id
theorem zjW{i j:Str}:zco (.str i) (.str j) S Q=(i.length+j.length≤sizeLine∧Q (.str (i++j)) S):=pz id id
theorem zjc{i j:List W}:zco (.tup i) (.tup j) S Q=(i.length+j.length≤sizeLine∧Q (.tup (i++j)) S):=pz id id
theorem zjJ{a b:Addr}:zco (.ref a) (.ref b) S Q=zbt S a fun xs=>zbt S b fun ys=>xs.length+ys.length≤sizeLine∧ ∀p,S p=none→Q (.ref p) (put S p (.lst (xs++ys))):=pz id id
theorem zrC{C:Int→Int→Prop}{g:Int→Int→W}{i j:Int}:zcn C g (.int i) (.int j) S Q=(C i j∧Q (g i j) S):=pz id id
theorem zpg{g:Int→Int→W}{i j:Int}:zgf g (.int i) (.int j) S Q=Q (g i j) S:=pz id id
theorem zlv{i j:Int}:oLe (.int i) (.int j) S Q=Q (.bl (decide (i≤j))) S:=pz id id
theorem zlq{i j:Str}:oLe (.str i) (.str j) S Q=Q (.bl (!decide (j.cps.toList<i.cps.toList))) S:=pz id id
theorem ziE{us:List W}:zdC [.tup us] S Q=Q (.int us.length) S:=pz id id
theorem ziy{a:Addr}:zdC [.ref a] S Q=zbt S a fun us=>Q (.int us.length) S:=pz id id
theorem ziO{ns:List Int}:zdC [.scr ns] S Q=Q (.int ns.length) S:=pz id id
theorem zkl{z:Str}:zdC [.str z] S Q=(z.length≤sizeLine∧Q (.int z.length) S):=pz id id
theorem zkB{ws:List W}{i:Int}:oIx (.tup ws) (.int i) S Q=match atI ws i with
 |some w=>Q w S
 |none=>False:=pz id id
theorem zlB{a:Addr}{i:Int}:oIx (.ref a) (.int i) S Q=zbt S a fun ws=>match atI ws i with
 |some w=>Q w S
 |none=>False:=pz id id
theorem zkC{ns:List Int}{i:Int}:oIx (.scr ns) (.int i) S Q=match atI ns i with
 |some n=>Q (.int n) S
 |none=>False:=pz id id
theorem zkQ{x:Str}{i:Int}:oIx (.str x) (.int i) S Q=(x.length≤sizeLine∧match atI x.cps.toList i with
 |some c=>Q (.str ⟨#[c]⟩) S
 |none=>False):=pz id id
theorem zkY{ws:List W}{lo hi:Option Int}:oSl (.tup ws) lo hi S Q=Q (.tup (zbq ws lo hi)) S:=pz id id
theorem zlk{z:Str}{lo hi:Option Int}:oSl (.str z) lo hi S Q=(z.length≤sizeLine∧Q (.str (Txt.slice z lo hi)) S):=pz id id
theorem zkU{a:Addr}{lo hi:Option Int}:oSl (.ref a) lo hi S Q=zbt S a fun ws=>∀p,S p=none→Q (.ref p) (put S p (.lst (zbq ws lo hi))):=pz id id
theorem zlA{ns:List Int}{lo hi:Option Int}:oSl (.scr ns) lo hi S Q= ∀p,S p=none→Q (.ref p) (put S p (.lst ((zbq ns lo hi).map W.int))):=pz id id
theorem zgy{us:List W}:zfO [.tup us] S Q=Q (.tup us) S:=pz id id
theorem zhg{a:Addr}:zfO [.ref a] S Q=zbt S a fun us=>Q (.tup us) S:=pz id id
theorem zla{a:Addr}{y:W}:zdn (.ref a) [y] S Q=zbt S a fun xs=>xs.length<sizeLine∧Q .non (put S a (.lst (xs++[y]))):=pz id id
theorem zrd{a:Addr}:zsx (.ref a) [] S Q=zbt S a fun xs=>match xs[xs.length - 1]? with
 |some y=>Q y (put S a (.lst xs.dropLast))
 |none=>False:=pz id id
theorem zga{a:Addr}{ys:List W}:zdV (.ref a) [.tup ys] S Q=zbt S a fun xs=>xs.length+ys.length≤sizeLine∧Q .non (put S a (.lst (xs++ys))):=pz id id
theorem zge{a b:Addr}:zdV (.ref a) [.ref b] S Q=zbt S a fun xs=>zbt S b fun ys=>xs.length+ys.length≤sizeLine∧Q .non (put S a (.lst (xs++ys))):=pz id id
theorem zjL{a:Addr}{ws:List W}:zlg (.ref a) ws S Q=zbt S a fun xs=>xs.length+ws.length≤sizeLine∧Q .non (put S a (.lst (xs++ws))):=pz id id
theorem zqy{a:Addr}:rvL (.ref a) S=zbt S a fun _=>True:=pz id id
theorem zru{x:Str}:rvS (.str x) S=True:=pz id id
theorem zln{b:Bool}:zom [.bl b] S Q=Q (.int (if b then 1 else 0)) S:=pz id id
theorem zjX{i:Int}:zom [.int i] S Q=Q (.int i) S:=pz id id
theorem zpz{i j:Int}:zqW [.int i, .int j] S Q=Q (.int (if j > i then j else i)) S:=pz id id
theorem zpl{i j:Int}:zrr [.int i, .int j] S Q=Q (.int (if j<i then j else i)) S:=pz id id
theorem zov{z:Str}{ws:List W}:zdY (.str z) ws S Q=match zcJ ws with
 |some ys=>(ys.map (·.length)).sum+ys.length*z.length≤16777216∧Q (.str (Str.join z ys)) S
 |none=>False:=pz id id
theorem znF{z y:Str}:zgi (.str z) [.str y] S Q=match Builtin.Str.occurrences z y 0 z.length 1 with
 |i::_=>Q (.int i) S
 | []=>False:=pz id id
theorem zkr{neg:Bool}:oIs neg .non .non S Q=Q (.bl (!neg)) S:=pz id id
theorem zmI{neg a b:Bool}:oIs neg (.bl a) (.bl b) S Q=Q (.bl (if neg then a != b else a == b)) S:=pz id id
theorem znK{neg a:Bool}:oIs neg (.bl a) .non S Q=Q (.bl neg) S:=pz id id
theorem znq{neg:Bool}{ws:List W}:oIs neg (.tup ws) .non S Q=Q (.bl neg) S:=pz id id
theorem zmx{neg:Bool}{a:Addr}:oIs neg (.ref a) .non S Q=Q (.bl neg) S:=pz id id
theorem zmD{neg:Bool}{a:Int}:oIs neg (.int a) .non S Q=Q (.bl neg) S:=pz id id
theorem zkq{neg:Bool}{x:W}{ws:List W}:oIn neg x (.tup ws) S Q=match inF S x ws with
 |some b=>Q (.bl (if neg then !b else b)) S
 |none=>False:=pz id id
theorem zkO{neg:Bool}{x:W}{a:Addr}:oIn neg x (.ref a) S Q=zbt S a fun ws=>match inF S x ws with
 |some b=>Q (.bl (if neg then !b else b)) S
 |none=>False:=pz id id
theorem zlK{neg:Bool}{i j:Str}:oIn neg (.str i) (.str j) S Q=Q (.bl (if neg then !(!(Builtin.Str.occurrences j i 0 j.length 1).isEmpty) else !(Builtin.Str.occurrences j i 0 j.length 1).isEmpty)) S:=pz id id
end
theorem zha{g:WG}{b:WS}{E:WX}{D:WEnds}{G:Sto→Prop}(I:List W→WSt→Sto→Prop)
  (step:∀w ws σ S (N:WSt→Sto→Prop),I (w::ws) σ S→(∀σ' S' S'',Sub S'' S'→G S''→I ws σ' S''→N σ' S')→g w σ S fun σ1 S1=>b E { D with nx:=N,ct:=N,bk:=D.nx } σ1 S1)
  (done:∀σ S,I [] σ S→D.nx σ S):∀(ws:List W) (σ:WSt) (S:Sto),I ws σ S→zgl g b E D G ws σ S
 | [],σ,S,h=>done σ S h
 |w::ws,σ,S,h=>step w ws σ S _ h fun σ' S' S'' sb hG hI=>⟨S'',sb,hG,zha I step done ws σ' S'' hI⟩
theorem zcy{g:WG}{e:WE}{E:WX}{G:Sto→Prop}{Q:List W→Sto→Prop}{S:Sto}(I:WSt→Prop) (P:W→W→Prop) (hG:G S) :
  ∀(ws acc:List W) (σ:WSt),I σ→acc.length+ws.length≤1000000→
  (∀w∈ws,∀σ (R:WSt→W→Sto→Prop),I σ→(∀σ1 y S3,I σ1→P w y→Sub S S3→R σ1 y S3)→g w σ S fun σ1 S1=>e E σ1 S1 fun y S3=>R σ1 y S3)→
  (∀ys,Paired P ws ys→Q (acc++ys) S)→zcZ g zgO e E G Q ws acc σ S
 | [],acc,σ,hI,hl,step,hQ=>by
  have:=hQ [] .nil;rw [List.append_nil]at this;exact this
 |w::ws,acc,σ,hI,hl,step,hQ=>by
  simp only[zcZ,zgO,if_true];refine step w List.mem_cons_self σ _ hI fun σ1 y S3 hI1 hP sb=>?_;simp only[List.length_cons]at hl;refine⟨zdl (by omega),S,sb,hG,zcy I P hG ws (acc++[y]) σ1 hI1 (by simp;omega) (fun w' hw=>step w' (List.mem_cons_of_mem _ hw)) fun ys hp=>?_⟩;rw [List.append_assoc];exact hQ (y::ys) (.cons hP hp)
section
variable {E:WX}{σ:WSt}{S:Sto}{Q:WK}{QB:Bool→Sto→Prop}{QA:List W→Sto→Prop}{QI:List W→(Sto→Prop)→Sto→Prop}{QO:Option Int→Sto→Prop}{P:WSt→Sto→Prop}{D:WEnds}{w x y:W}{ws:List W}{EX:Str→Sto→Prop}
theorem zoE{i:Nat}:(zaf i E σ S Q)=(match σ[i]? with
 |some (some w)=>Q w S
 |_=>False):=pz id id
theorem zrN{w:W}:(wC w E σ S Q)=(Q w S):=pz id id
theorem zqp{r:W2}{a b:WE}:(wOp r a b E σ S Q)=(a E σ S fun x S1=>b E σ S1 fun y S2=>r x y S2 Q):=pz id id
theorem zpu{t:WE}:(zdD t E σ S QB)=(t E σ S fun w S'=>zlL w S' QB):=pz id id
theorem zrl{t:WE}:(wTb t E σ S QB)=(t E σ S fun w S'=>match w with
 | .bl b=>QB b S'
 |_=>False):=pz id id
theorem zpI{t u:WT}:(znO t u E σ S QB)=(t E σ S fun c S1=>if c=true then u E σ S1 QB else QB false S1):=pz id id
theorem zrh{t u:WT}:(wOr t u E σ S QB)=(t E σ S fun c S1=>if c=true then QB true S1 else u E σ S1 QB):=pz id id
theorem zpE{t:WT}:(zhl t E σ S QB)=(t E σ S fun c S1=>QB (!c) S1):=pz id id
theorem zmM{t u:WE}:(zea t u E σ S Q)=(t E σ S fun w S1=>match w with
 | .bl true=>u E σ S1 Q
 | .bl false=>Q (.bl false) S1
 |_=>False):=pz id id
theorem zqf{t u:WE}:(zqs t u E σ S Q)=(t E σ S fun w S1=>match w with
 | .bl false=>u E σ S1 Q
 | .bl true=>Q (.bl true) S1
 |_=>False):=pz id id
theorem znx{t:WE}:(zmn t E σ S Q)=(t E σ S fun w S1=>match w with
 | .bl b=>Q (.bl !b) S1
 |_=>False):=pz id id
theorem zoH{c:WT}{t u:WS}:(zda c t u E D σ S)=(c E σ S fun b S1=>if b=true then t E D σ S1 else u E D σ S1):=pz id id
theorem znz:(zaZ  E D σ S)=(D.nx σ S):=pz id id
theorem zol{t u:WS}:(zaE t u E D σ S)=(t E { D with nx:=u E D } σ S):=pz id id
theorem zoa{e:WE}:(zby e E D σ S)=(e E σ S D.rt):=pz id id
theorem znr{e:WE}:(zgc e E D σ S)=(e E σ S fun _ S1=>D.nx σ S1):=pz id id
theorem zrE{i:Nat}:(wGN i w σ S P)=(P (σ.set i (some w)) S):=pz id id
theorem zpD{e:WE}{g:WG}:(wAsg e g E D σ S)=(e E σ S fun w S1=>g w σ S1 D.nx):=pz id id
theorem znD:(zhY  ws σ S P)=(match ws with
 | []=>P σ S
 |_=>False):=pz id id
theorem zlz{g:WG}{u:WGs}:(zdv g u ws σ S P)=(match ws with
 | []=>False
 |w::r=>g w σ S fun σ' S'=>u r σ' S' P):=pz id id
theorem zqL{u:WGs}:(wGT u w σ S P)=(match w with
 | .tup ws=>u ws σ S P
 |_=>False):=pz id id
theorem znI:(waNil  E σ S QA)=(QA [] S):=pz id id
theorem zlI{t:WE}{u:WA}:(zab t u E σ S QA)=(t E σ S fun w S1=>u E σ S1 fun ws S2=>QA (w::ws) S2):=pz id id
theorem zoU{t:WA}:(zgv t E σ S Q)=(t E σ S fun ws S1=>ws.length≤sizeLine∧Q (.tup ws) S1):=pz id id
theorem zpw{t:WA}:(zgt t E σ S QA)=(t E σ S fun ws S1=>ws.length≤sizeLine∧QA ws S1):=pz id id
theorem zpA{t:WL}:(zfJ t E σ S Q)=(t E σ S fun ws S1=>∀a,S1 a=none→Q (.ref a) (put S1 a (.lst ws))):=pz id id
theorem znv{c:WSp}{t:WA}:(zaC c t E σ S Q)=(t E σ S fun ws S1=>c ws S1 Q fun cl S2=>E cl σ S2):=pz id id
theorem zlQ{n k:Nat}{body:WS}:(zcV n k body ws S Q EX)=(ws.length=k∧body (fun c _ S'=>EX c S') { nx:=fun _ S'=>∃S'',Sub S'' S'∧Q .non S'',rt:=fun w S'=>∃S'',Sub S'' S'∧Q w S'' } (ws.map some++List.replicate (n - k) none) S):=pz id id
theorem zoA{t:WE}:(znk t E σ S Q)=(t E σ S fun w S1=>match w with
 | .int i=>Q (.int (-i)) S1
 |_=>False):=pz id id
theorem zqD{t u:WE}:(zrD t u E σ S QA)=(t E σ S fun x S1=>u E σ S1 fun y S2=>match x,y with
 | .ref a, .ref b=>zbt S2 a fun xs=>zbt S2 b fun ys=>xs.length+ys.length≤sizeLine∧QA (xs++ys) S2
 |_,_=>False):=pz id id
theorem zrx{neg:Bool}:(oEq neg x y S Q)=(match eqF S 60 x y with
 |some b=>Q (.bl (if neg then !b else b)) S
 |none=>False):=pz id id
theorem zlf{r r':W2}{a b c:WE}:(zdB r r' a b c E σ S Q)=(a E σ S fun x S1=>b E σ S1 fun y S2=>r x y S2 fun z S3=>match z with
 | .bl true=>c E σ S3 fun u S4=>r' y u S4 Q
 | .bl false=>Q (.bl false) S3
 |_=>False):=pz id id
theorem zrn:(woN  E σ S QO)=(QO none S):=pz id id
theorem zrq{t:WE}:(woS t E σ S QO)=(t E σ S fun w S1=>match w with
 | .int i=>QO (some i) S1
 |_=>False):=pz id id
theorem zrF{t:WE}{l h:WO}:(wSl t l h E σ S Q)=(t E σ S fun x S1=>l E σ S1 fun lo S2=>h E σ S2 fun hi S3=>oSl x lo hi S3 Q):=pz id id
theorem zsB{f:WF}{t:WA}:(wB f t E σ S Q)=(t E σ S fun ws S1=>f ws S1 Q):=pz id id
theorem zrw{f:WF}{t:WL}:(wBL f t E σ S Q)=(t E σ S fun ws S1=>f ws S1 Q):=pz id id
theorem ziW:(zfh  ws S Q)=(Q (.tup ws) S):=pz id id
theorem zns:(zgS  ws S Q)=(match zeo ws with
 |some bs=>Q (.bl (bs.all _root_.id)) S
 |none=>False):=pz id id
theorem zoR{T:String}{t:WE}:(zgW T t E σ S Q)=(t E σ S fun w S1=>tyW w S1 fun A=>Q (.bl (zbg A T)) S1):=pz id id
theorem zsb{rv:W→Sto→Prop}{f:WMf}{to:WE}{t:WA}:(wM rv f to t E σ S Q)=(to E σ S fun w S1=>rv w S1∧t E σ S1 fun ws S2=>f w ws S2 Q):=pz id id
theorem zrp{rv:W→Sto→Prop}{f:WMf}{to:WE}{t:WL}:(wML rv f to t E σ S Q)=(to E σ S fun w S1=>rv w S1∧t E σ S1 fun ws S2=>f w ws S2 Q):=pz id id
theorem zpv{i:Nat}{g:Int→Int→Int}{e:WE}:(zoO i g e E D σ S)=(match σ[i]? with
 |some (some (.int a))=>e E σ S fun w S1=>match w with
  | .int b=>D.nx (σ.set i (some (.int (g a b)))) S1
  |_=>False
 |_=>False):=pz id id
theorem zpW{q:WI}{g:WG}{b:WS}:(zmq q g b E D σ S)=(q E σ S fun ws G S1=>zgl g b E D G ws σ S1):=pz id id
theorem zqw{t:WE}:(wIv t E σ S QI)=(t E σ S fun w S1=>match w with
 | .tup ws=>QI ws (fun _=>True) S1
 | .ref a=>zbt S1 a fun ws=>QI ws (fun S'=>S' a=some (.lst ws)) S1
 | .scr ns=>QI (ns.map W.int) (fun _=>True) S1
 | .str z=>QI (zgz z) (fun _=>True) S1
 |_=>False):=pz id id
theorem zoq{t:WA}:(znP t E σ S QI)=(t E σ S fun ws S1=>match ws with
 | [.int j]=>(-(2 ^ 62)≤j∧j<2 ^ 62)∧QI (zlM 0 j.toNat) (fun _=>True) S1
 |_=>False):=pz id id
theorem zpy:(zgO  E σ S QB)=(QB true S):=pz id id
theorem zmO{k:Nat}{fr:List Nat}{q:WI}{g:WG}{c:WT}{e:WE}:(zdU k fr q g c e E σ S QA)=(q noE σ S fun ws G S1=>zcZ g c e noE G QA ws [] (List.replicate k none++fr.map fun j=>(σ[j]?).join) S1):=pz id id
theorem zpn{t u:WE}:(zrt t u E σ S QI)=(t E σ S fun x S1=>u E σ S1 fun y S2=>znl x S2 fun xs G=>znl y S2 fun ys G'=>QI (zcG xs ys) (fun S'=>G S'∧G' S') S2):=pz id id
theorem znA{t:WE}{l h:WO}:(zoI t l h E σ S QA)=(t E σ S fun x S1=>l E σ S1 fun lo S2=>h E σ S2 fun hi S3=>match x with
 | .ref a=>zbt S3 a fun ws=>QA (zbq ws lo hi) S3
 | .scr ns=>QA ((zbq ns lo hi).map W.int) S3
 |_=>False):=pz id id
theorem zpM{t:WL}{u:WE}:(zqO t u E σ S Q)=(t E σ S fun ws S1=>u E σ S1 fun y S2=>match y with
 | .int i=>match atI ws i with
  |some w=>Q w S2
  |none=>False
 |_=>False):=pz id id
theorem znu{t:WE}{u:WL}:(znc t u E σ S QA)=(t E σ S fun x S1=>u E σ S1 fun ys S2=>match x with
 | .ref a=>zbt S2 a fun xs=>xs.length+ys.length≤sizeLine∧QA (xs++ys) S2
 |_=>False):=pz id id
theorem zmo{t u:WL}:(zly t u E σ S QA)=(t E σ S fun xs S1=>u E σ S1 fun ys S2=>xs.length+ys.length≤sizeLine∧QA (xs++ys) S2):=pz id id
end
section
variable {S:Sto}{Q:WK}
theorem zpb{xs:List W}{k:Int}:zrz (.tup xs) (.int k) S Q=((xs≠ []∧ -(2 ^ 63)≤k∧k<2 ^ 63∧xs.length*k.toNat≤sizeLine)∧Q (.tup (List.replicate k.toNat xs).flatten) S):=pz id id
theorem zmC{z:Str}:zpX (.str z) [] S Q=(z.length≤5592405∧Q (.str (Txt.upper z)) S):=pz id id
end
end L2
end
section
def L2.wZ (d:String):Lean.MacroM (Lean.TSyntax `tactic):=do
  let a:Array Lean.Term:=(("zon zmF znw zml znn L2.zoE L2.zrN L2.zqp L2.zpu L2.zrl L2.zpI L2.zrh L2.zpE L2.zmM L2.zqf L2.znx L2.zoH L2.znz L2.zol L2.zoa L2.znr L2.zrE L2.zpD L2.znD L2.zlz L2.zqL L2.znI L2.zlI L2.zoU L2.zpw L2.zpA L2.znv L2.zlQ L2.zoA L2.zrx L2.zlf L2.zrn L2.zrq L2.zrF L2.zsB L2.zrw L2.ziW L2.zns L2.zoR L2.zsb L2.zrp L2.zpv L2.zpW L2.zqw L2.zoq L2.zpy L2.zmO L2.zpn L2.znA L2.zpM L2.znu L2.zmo L2.zpb L2.zmC L2.zhG L2.zbQ L2.zpP L2.zph L2.zqv L2.zix L2.zbI L2.zhe L2.zfv L2.zgA L2.zeS L2.zfN L2.zfn L2.zeH L2.zgb L2.zek L2.zfa L2.zgX L2.zfw L2.zgZ L2.zeF L2.zgm L2.zeK L2.zej L2.zfl L2.sub_tuple_tuple L2.sub_tuple_list L2.zfr L2.zeM L2.zfW L2.sub_list_tuple L2.sub_list_list L2.zlE L2.zjC L2.zjR L2.zjl L2.zjA L2.zjk L2.zkb L2.znd L2.zlH L2.zku L2.zko L2.zkW L2.zkz L2.zkc L2.zjW L2.zjc L2.zjJ L2.zrC L2.zpg L2.zlv L2.zlq L2.ziE L2.ziy L2.ziO L2.zkl L2.zkB L2.zlB L2.zkC L2.zkQ L2.zkY L2.zlk L2.zkU L2.zlA L2.zgy L2.zhg L2.zla L2.zrd L2.zga L2.zge L2.zjL L2.zqy L2.zru L2.zln L2.zjX L2.zpz L2.zpl L2.zov L2.znF L2.zkr L2.zmI L2.znK L2.znq L2.zmx L2.zmD L2.zkq L2.zkO L2.zlK List.map_cons List.map_nil List.length_cons List.length_nil List.cons_append List.nil_append List.append_nil List.replicate List.getElem?_cons_zero List.getElem?_cons_succ List.getElem?_nil List.set_cons_zero List.set_cons_succ Nat.reduceAdd Nat.reduceSub true_and and_true if_true if_false Bool.false_eq_true reduceIte Bool.not_true Bool.not_false Option.join_some Option.join_none decide_eq_true_eq and_self".splitOn " ").filter (· != d)).toArray.map fun s=>Lean.mkIdent s.toName
  `(tactic| simp only [$[$a:term],*])
local macro_rules | `(tactic| walk_at "wp") => L2.wZ ""
section
namespace L2
open PySem PySem.Spec PyProof.Rows
section
variable {X:Cx}{e:Expr}{es:List Expr}{t:WA}{p pos:Pos}
noncomputable def zpf:WF:=fun ws S Q=>match ws with
 | [.int i]=>i.natAbs.log2<1920∧Q (.str (Str.ofString (toString i))) S
 |_=>False
theorem zjt{K:PySem.W.Frag}:zhd K (fun xs H Q=>∃i,xs=[.int i]∧i.natAbs.log2<1920∧Q (.str (toString i)) H) zpf:=fun H vs ws S Q QW r hS h hQ=>by
 cases r with
 |nil=>exact h.elim
 |cons r1 r2=>
  cases r2 with
  |cons _ _=>cases r1<;>exact h.elim
  |nil=>
   cases r1 with
   |int i=>exact⟨i,rfl,h.1,hQ _ S _ H .refl (.str _) hS h.2⟩
   |_=>exact h.elim
theorem zjG (hg:Gl X "str") (hm:X.mg "str" =none) (ha:JA X (e::es) t)
  (he:starEach (e::es) X.env=(false,eval e X.env)::starEach es X.env:=by rfl) (hpl:(backTo pos (starEach es X.env)).any (·.1)=false:=by rfl):JE X (.Call (.Name "str" p) (e::es) [] pos) (wB zpf t):=by
 have h1:= @zfF X;have h2:= @zjt X.K;have h3:=PyProof.Rows.boot_str;generalize (fun xs H Q=>∃i,xs=[V.int i]∧i.natAbs.log2<1920∧Q (V.str (Str.ofString (toString i))) H:List V→Hp→VK→Prop)=rr at h1 h2;exact zkR h1 h2 hg hm h3 ha (by decide) (by decide) he hpl
end
theorem zpc{i:Int}{S:Sto}{Q:WK}:zpf [.int i] S Q=(i.natAbs.log2<1920∧Q (.str (Str.ofString (toString i))) S):=pz id id
theorem zkH{k n:Nat}(hk:1≤k) (hn:n<10 ^ k):(Str.ofString (toString (n:Int))).length≤k:=by
 rw [ofString_len];show(Nat.repr n).length≤k;have:=digits10_le hk hn;rw [←String.length_toList,Nat.toList_repr];exact this
noncomputable def zbz (f:Str) (v:W):List (Str×W)→List (Str×W)
 | []=>[(f,v)]
 | (g,x)::r=>if g=f then(g,v)::r else(g,x)::zbz f v r
noncomputable def zgu (S:Sto) (cl:Str) (a:Addr) (P:List (Str×W)→Prop):Prop:=match S a with
 |some (.ins c fs)=>c=cl∧P fs
 |_=>False
theorem zdm{S:Sto}{cl:Str}{a:Addr}{P:List (Str×W)→Prop}(h:zgu S cl a P):∃fs,S a=some (.ins cl fs)∧P fs:=by
 unfold zgu at h;split at h
 ·obtain⟨rfl,h⟩:=h;exact⟨_, ‹_›,h⟩
 ·exact h.elim
theorem zeW{S:Sto}{cl:Str}{a:Addr}{fs:List (Str×W)}{P:List (Str×W)→Prop}(e:S a=some (.ins cl fs)):zgu S cl a P=P fs:=by
 unfold zgu;rw [e];exact propext ⟨fun h=>h.2,fun h=>⟨rfl,h⟩⟩
noncomputable abbrev RpF (K:PySem.W.Frag) (H:Hp):List (Str×W)→List (Str×V)→Prop:=Paired fun q p=>p.1=q.1∧Rep K H q.2 p.2
section
variable {K:PySem.W.Frag}{H:Hp}
theorem RpF.look{fs:List (Str×W)}{ps:List (Str×V)}(r:RpF K H fs ps) (f:Str):(∀w,fs.lookup f=some w→ ∃v,ps.lookup f=some v∧Rep K H w v)∧(fs.lookup f=none→ps.lookup f=none):=by
 induction r with
 |nil=>exact⟨fun w h=>by simp at h,fun _=>rfl⟩
 | @cons q p fs ps h t ih=>
  obtain⟨g,x⟩:=q;obtain⟨g',y⟩:=p;obtain⟨h1,h2⟩:=h;simp only at h1 h2;subst h1;rw [List.lookup_cons,List.lookup_cons];cases e:f == g' with
  |true=>exact⟨fun w z=>by cases z;exact⟨_,rfl,h2⟩,fun z=>by cases z⟩
  |false=>exact ih
theorem RpF.put{fs:List (Str×W)}{ps:List (Str×V)}(r:RpF K H fs ps) (f:Str) {w:W}{v:V}(rw':Rep K H w v):RpF K H (zbz f w fs) (zeV f v ps):=by
 induction r with
 |nil=>exact .cons ⟨rfl,rw'⟩ .nil
 | @cons q p fs ps h t ih=>
  obtain⟨g,x⟩:=q;obtain⟨g',y⟩:=p;obtain⟨h1,h2⟩:=h;simp only at h1 h2;subst h1;rw [zbz,zeV];by_cases e:g'=f
  ·rw [if_pos e,if_pos e];exact .cons ⟨rfl,rw'⟩ t
  ·rw [if_neg e,if_neg e];exact .cons ⟨rfl,h2⟩ ih
theorem RpF.len{fs:List (Str×W)}{ps:List (Str×V)}(r:RpF K H fs ps):ps.length=fs.length:=by
 induction r with
 |nil=>rfl
 |cons h t ih=>rw [List.length_cons,List.length_cons,ih]
theorem RepS.set_ins{S:Sto}{C dx a:Addr}{cl:Str}{fs0 fs:List (Str×W)}{ps0 ps:List (Str×V)}(h:RepS K H S) (hn:PySem.W.nsIn K mainGlobals cl=some (some (.ref C))) (e:S a=some (.ins cl fs0)) (e0:H a=some (.ins C dx ps0)) (r:RpF K H fs ps) :
  Ext H S (upd H a (.ins C dx ps)) (put S a (.ins cl fs))∧RepS K (upd H a (.ins C dx ps)) (put S a (.ins cl fs)):=by
 have x:Ext H S (upd H a (.ins C dx ps)) (put S a (.ins cl fs)):= .mut e0 e (fun _ z=>nomatch z) fun _ _ z=>nomatch z;refine⟨x,fun b o q=>?_⟩;by_cases hb:b=a
 ·subst hb;rw [zag]at q;cases q;exact⟨C,dx,ps,hn,zau,Paired.mapP r fun _ _ z=>⟨z.1,z.2.ext x⟩⟩
 ·rw [zaU hb]at q;exact(h b o q).keep x fun u z=>by rw [zao hb];exact z
end
noncomputable def zkj (cl f:Str) (ta:WE):WE:=fun E σ S Q=>ta E σ S fun x S1=>match x with
 | .ref a=>zgu S1 cl a fun fs=>match fs.lookup f with
  |some w=>Q w S1
  |none=>False
 |_=>False
noncomputable def zjP (cl f:Str) (ta tv:WE):WS:=fun E D σ S=>tv E σ S fun v S1=>ta E σ S1 fun x S2=>match x with
 | .ref a=>zgu S2 cl a fun fs=>fs.length<1000∧D.nx σ (put S2 a (.ins cl (zbz f v fs)))
 |_=>False
noncomputable def ziC (cl f:Str) (ta tv:WE):WS:=fun E D σ S=>ta E σ S fun x S1=>match x with
 | .ref a=>zgu S1 cl a fun fs=>match fs.lookup f with
  |some (.int i)=>tv E σ S1 fun y S2=>match y with
   | .int j=>zgu S2 cl a fun fs'=>fs'.length<1000∧D.nx σ (put S2 a (.ins cl (zbz f (.int (i+j)) fs')))
   |_=>False
  |_=>False
 |_=>False
noncomputable def zeh (cl m:Str) (c:WSp) (ta:WE) (t:WA):WE:=fun E σ S Q=>ta E σ S fun x S1=>match x with
 | .ref a=>zgu S1 cl a fun fs=>fs.lookup m=none∧t E σ S1 fun ws S2=>c (.ref a::ws) S2 Q fun cl' S3=>E cl' σ S3
 |_=>False
noncomputable def zmm (cl:Str) (c:WSp) (t:WA):WE:=fun E σ S Q=>t E σ S fun ws S1=>∀a,S1 a=none→c (.ref a::ws) (put S1 a (.ins cl [])) (fun w S2=>w= .non∧Q (.ref a) S2) fun cl' S3=>E cl' σ S3
section
variable {X:Cx}{o e value:Expr}{f cl:Str}{C:Addr}{pos pos' tpos:Pos}{ta tv:WE}
theorem zdh (hn:PySem.W.nsIn X.K mainGlobals cl=some (some (.ref C))) (c:Cls X.K C) (n:NoAttr X.K C f) (he:JE X e ta) (hb:attributeBase e f X.env (eval e X.env)=eval e X.env:=by rfl):JE X (.Attribute e f pos) (zkj cl f ta):=fun E hE=>
 (znT (he E hE) hb).mono fun σ H Q ⟨σW,S,QW,hσ,hS,ht,hQ⟩=>⟨σW,S,_,hσ,hS,ht,fun w S1 v H1 e1 r1 hS1 h1=>by
  split at h1
  ·rename_i a;obtain⟨fs,ea,h1⟩:=zdm h1;split at h1
   ·rename_i w el;obtain⟨C',dx,ps,hn',eh,rp⟩:=hS1 a _ ea;rw [hn]at hn';cases hn';obtain⟨v',ev,rv⟩:=(RpF.look rp f).1 w el;cases r1;exact⟨a,C,dx,ps,v',rfl,eh,c,n,ev,hQ _ S1 _ H1 e1 rv hS1 h1⟩
   ·exact h1.elim
  ·exact h1.elim⟩
theorem zjx (hn:PySem.W.nsIn X.K mainGlobals cl=some (some (.ref C))) (c:Cls X.K C) (n:NoAttr X.K C f) (ha:JE X o ta) (hv:JE X value tv) (hs:swapsWith value (some (.Attribute o f pos')) pos.line X.env=pure false:=by rfl):JS X (.Assign [.Attribute o f pos'] value pos) (zjP cl f ta tv):=fun E hE=>
 (zoT (ha E hE) (hv E hE) hs).mono fun D σ H ⟨σW,S,DW,hσ,hS,ht,hD⟩=>⟨σW,S,_,hσ,hS,ht,fun w S1 v H1 e1 r1 hS1 h1=>⟨σW,S1,_,hσ.ext e1,hS1,h1,fun wx S2 x H2 e2 r2 hS2 h2=>by
  split at h2
  ·rename_i a;obtain⟨fs,ea,hl,h2⟩:=zdm h2;obtain⟨C',dx,ps,hn',eh,rp⟩:=hS2 a _ ea;rw [hn]at hn';cases hn';cases r2;obtain⟨x3,s3⟩:=hS2.set_ins hn ea eh (RpF.put rp f (r1.ext e2));exact⟨a,C,dx,ps,rfl,eh,c,n,by rw [RpF.len rp];exact hl,hD.nx σW _ σ _ ((e1.trans e2).trans x3) (((hσ.ext e1).ext e2).ext x3) s3 h2⟩
  ·exact h2.elim⟩⟩
theorem zgR (hn:PySem.W.nsIn X.K mainGlobals cl=some (some (.ref C))) (c:Cls X.K C) (n:NoAttr X.K C f) (ha:JE X o ta) (hv:JE X value tv):JS X (.AugAssign (.Attribute o f tpos) .Add value pos) (ziC cl f ta tv):=fun E hE=>
 (zjM (ha E hE) (hv E hE) zok).mono fun D σ H ⟨σW,S,DW,hσ,hS,ht,hD⟩=>⟨σW,S,_,hσ,hS,ht,fun wx S1 x H1 e1 r1 hS1 h1=>by
  split at h1
  ·rename_i a;obtain⟨fs,ea,h1⟩:=zdm h1;split at h1
   ·rename_i i el;obtain⟨C',dx,ps,hn',eh,rp⟩:=hS1 a _ ea;rw [hn]at hn';cases hn';obtain⟨v',ev,rv⟩:=(RpF.look rp f).1 _ el;cases rv;cases r1;refine⟨a,C,dx,ps, .int i,rfl,eh,c,n,ev,σW,S1,_,hσ.ext e1,hS1,h1,fun wy S2 y H2 e2 r2 hS2 h2=>?_⟩;split at h2
    ·rename_i j;obtain⟨fs',ea',hl,h2⟩:=zdm h2;obtain⟨C',dx',ps',hn',eh',rp'⟩:=hS2 a _ ea';rw [hn]at hn';cases hn';cases r2;obtain⟨x3,s3⟩:=hS2.set_ins hn ea' eh' (RpF.put rp' f (.int (i+j)));exact⟨i,j,rfl,rfl,dx',ps',eh',by rw [RpF.len rp'];exact hl,hD.nx σW _ σ _ ((e1.trans e2).trans x3) (((hσ.ext e1).ext e2).ext x3) s3 h2⟩
    ·exact h2.elim
   ·exact h1.elim
  ·exact h1.elim⟩
end
section
variable {X:Cx}{k:Nat}{f C:Addr}{fd:FuncData}{ps:List Str}{c:WSp}{x m cl:Str}{p pos apos:Pos}{e o:Expr}{es:List Expr}{t:WA}{ta:WE}
theorem zgN{pl:Sem Bool}(hn:PySem.W.nsIn X.K mainGlobals cl=some (some (.ref C))) (cC:Cls X.K C) (hm:Meth X.K C m f) (F:FnOk X.prog X.w X.K X.mg X.base (CX1 X.prog X.w) k f fd ps (zaK X.K c)) (hr:Room k X.A) (hb:Binds X.K fd ps []) (he:JE X o ta) (ha:JA X (e::es) t)
    (hst:starEach (e::es) X.env=(false,eval e X.env)::starEach es X.env:=by rfl) (hpl:(backTo pos (starEach es X.env)).any (·.1)=false:=by rfl)
    (ht:eval (.Call (.Attribute o m apos) (e::es) [] pos) X.env=(do
      let ov ←eval o X.env
      standAt apos.atName
      let (f,first) ←holding [ov] (getMethod ov m pl)
      callWith pos f first (backTo pos (starEach (e::es) X.env)) (backToKw pos (keywordEach [] X.env))):=by rfl) :
    JE X (.Call (.Attribute o m apos) (e::es) [] pos) (zeh cl m c ta t):=fun E hE pins s σ H Q I h=>by
  obtain⟨σW,S,QW,hσ,hS,h0,hQ⟩:=h;refine PySem.W.methodCall_KW (pl:=pl) (thn (he E hE pins s σ H (fun v H1=>∃a fs S1,v= .ref a∧RpSt X.K H1 σW σ∧RepS X.K H1 S1∧S1 a=some (.ins cl fs)∧fs.lookup m=none∧Wish X.K H1 S1 QW Q∧t E σW S1 fun ws S2=>c (.ref a::ws) S2 QW fun cl' S3=>E cl' σW S3) I
    ⟨σW,S,_,hσ,hS,h0,fun w S1 v H1 e1 r1 hS1 h1=>by
      split at h1
      · obtain⟨fs,ea,hl,h1⟩:=zdm h1;cases r1;exact⟨_,fs,S1,rfl,hσ.ext e1,hS1,ea,hl,hQ.from e1,h1⟩
      · exact h1.elim⟩) fun u s1 ⟨v,H1,I1,rv,a,fs,S1,ev,hσ1,hS1,ea,hl,hQ1,h1⟩=>?_) ht
  subst ev;obtain rfl:u=Value.ref a:=rv;obtain⟨C',dx,ps',hn',eh,rp⟩:=hS1 a _ ea;rw [hn]at hn';cases hn';refine zeD I1 eh cC hm ((RpF.look rp m).2 hl) ?_;refine PySem.W.callWith_K (first:=[.ref a]) (h₀:=X.base) I.ok.mod.kin hm.kp (thn (ha E hE pos pins s1 σ H1 (fun vs H2=>∃ws S2,Reps X.K H2 ws vs∧RpSt X.K H2 σW σ∧RepS X.K H2 S2∧c (.ref a::ws) S2 QW (fun cl S'=>E cl σW S')∧Wish X.K H2 S2 QW Q) I1
    ⟨σW,S1,_,hσ1,hS1,h1,fun ws S2 vs H2 e2 r2 hS2 h2=>⟨ws,S2,r2,hσ1.ext e2,hS2,h2,hQ1.from e2⟩⟩) fun us s2 ⟨vs,H2,I2,r,ws,S2,r2,hσ2,hS2,h2,hQ2⟩=>⟨I2.kIn,?_⟩) hst hpl
  exact zmH (us:= .ref a::us) (vs:= .ref a::vs) (ws:= .ref a::ws) F hr hb hE I2 (.cons rfl r) (.cons (.ref a) r2) hσ2 hS2 h2 hQ2
theorem zde{pl:Sem Bool}(hn:PySem.W.nsIn X.K mainGlobals cl=some (some (.ref C))) (cC:Cls X.K C) (hm:Meth X.K C m f) (F:FnOk X.prog X.w X.K X.mg X.base (CX1 X.prog X.w) k f fd ps (zaK X.K c)) (hr:Room k X.A) (hb:Binds X.K fd ps []) (he:JE X o ta)
    (ht:eval (.Call (.Attribute o m apos) [] [] pos) X.env=(do
      let ov ←eval o X.env
      standAt apos.atName
      let (f,first) ←holding [ov] (getMethod ov m pl)
      callWith pos f first (backTo pos (starEach [] X.env)) (backToKw pos (keywordEach [] X.env))):=by rfl) :
    JE X (.Call (.Attribute o m apos) [] [] pos) (zeh cl m c ta waNil):=fun E hE pins s σ H Q I h=>by
  obtain⟨σW,S,QW,hσ,hS,h0,hQ⟩:=h;refine PySem.W.methodCall_KW (pl:=pl) (thn (he E hE pins s σ H (fun v H1=>∃a fs S1,v= .ref a∧RpSt X.K H1 σW σ∧RepS X.K H1 S1∧S1 a=some (.ins cl fs)∧fs.lookup m=none∧Wish X.K H1 S1 QW Q∧c [.ref a] S1 QW fun cl' S3=>E cl' σW S3) I
    ⟨σW,S,_,hσ,hS,h0,fun w S1 v H1 e1 r1 hS1 h1=>by
      split at h1
      · obtain⟨fs,ea,hl,h1⟩:=zdm h1;cases r1;exact⟨_,fs,S1,rfl,hσ.ext e1,hS1,ea,hl,hQ.from e1,h1⟩
      · exact h1.elim⟩) fun u s1 ⟨v,H1,I1,rv,a,fs,S1,ev,hσ1,hS1,ea,hl,hQ1,h1⟩=>?_) ht
  subst ev;obtain rfl:u=Value.ref a:=rv;obtain⟨C',dx,ps',hn',eh,rp⟩:=hS1 a _ ea;rw [hn]at hn';cases hn';refine zeD I1 eh cC hm ((RpF.look rp m).2 hl) ?_;exact PySem.W.callWith_K0 (first:=[.ref a]) I1.kIn hm.kp (zmH (us:=[.ref a]) (vs:=[.ref a]) (ws:=[.ref a]) F hr hb hE I1 (.cons rfl .nil) (.cons (.ref a) .nil) hσ1 hS1 h1 hQ1)
theorem zox{E:WX}{pins:List (Addr×Obj)}{σ:St}{σW:WSt}{H:Hp}{S:Sto}{s:Shared}{Q:VK}{QW:WK}{us:List Value}{vs:List V}{ws:List W}(hn:PySem.W.nsIn X.K mainGlobals cl=some (some (.ref C))) (M:Mk X.K C f)
  (F:FnOk X.prog X.w X.K X.mg X.base (CX1 X.prog X.w) k f fd ps (zaK X.K c)) (hr:Room (k+1) X.A) (hb:Binds X.K fd ps []) (hE:Hook X E) (I:Inv X pins σ H s) (r:Vals vs us) (rs:Reps X.K H ws vs) (hσ:RpSt X.K H σW σ) (hS:RepS X.K H S)
  (h:∀a,S a=none→c (.ref a::ws) (put S a (.ins cl [])) (fun w S'=>w= .non∧QW (.ref a) S') fun cl S'=>E cl σW S') (hQ:Wish X.K H S QW Q):wpAny (model X.prog X.w) X.A (call (.ref C) us) (EP X pins σ Q) X.xe s:=by
 have fx:H (s.heap.objs.size+1)=none:=I.hok.fresh (Nat.le_succ _);have fd0:H s.heap.objs.size=none:=I.hok.fresh (Nat.le_refl _);have nx:s.heap.objs.size+1≠s.heap.objs.size:=Nat.succ_ne_self _;have hq:=h (s.heap.objs.size+1) (hS.free fx);have I2:=Inv.made (C:=C) I;have x1:Ext H S (upd H s.heap.objs.size (.own (s.heap.objs.size+1))) S:= .new fd0;have fx1:upd H s.heap.objs.size (.own (s.heap.objs.size+1)) (s.heap.objs.size+1)=none:=by rw [zao nx];exact fx
 have x2:Ext (upd H s.heap.objs.size (.own (s.heap.objs.size+1))) S (upd (upd H s.heap.objs.size (.own (s.heap.objs.size+1))) (s.heap.objs.size+1) (.ins C s.heap.objs.size [])) (put S (s.heap.objs.size+1) (.ins cl [])):= .newS fx1;have xx:=x1.trans x2;have hS2:RepS X.K (upd (upd H s.heap.objs.size (.own (s.heap.objs.size+1))) (s.heap.objs.size+1) (.ins C s.heap.objs.size [])) (put S (s.heap.objs.size+1) (.ins cl [])):=fun b o q=>by
  by_cases hb:b=s.heap.objs.size+1
  ·subst hb;rw [zag]at q;cases q;exact⟨C,s.heap.objs.size,[],hn,zau, .nil⟩
  ·rw [zaU hb]at q;exact(RepS.new (RepS.new hS fd0) fx1) b o q
 have hσ2:=hσ.ext xx;have rs2:Reps X.K _ (.ref (s.heap.objs.size+1)::ws) (.ref (s.heap.objs.size+1)::vs):= .cons (.ref _) (rs.ext xx);have r2:Vals (V.ref (s.heap.objs.size+1)::vs) (Value.ref (s.heap.objs.size+1)::us):= .cons rfl r;have hQ2:=hQ.from xx;have e0:=I2.env0;generalize hH2:upd (upd H s.heap.objs.size (.own (s.heap.objs.size+1))) (s.heap.objs.size+1) (.ins C s.heap.objs.size [])=H2 at *;generalize hS2':put S (s.heap.objs.size+1) (.ins cl [])=S2 at *;have sp:zaK X.K c (V.ref (s.heap.objs.size+1)::vs) (unt H2 S2) (fun v H'=>∃w S',Rep X.K H' w v∧RepS X.K H' S'∧w= .non∧QW (.ref (s.heap.objs.size+1)) S') (fun cv _ H'=>∃cl C S',cv= .ref C∧PySem.W.nsIn X.K mainGlobals cl=some (some (.ref C))∧RepS X.K H' S'∧E cl σW S'):=
  ⟨_,S2,_,_,Reps.mv zcv zcS rs2,hS2.unt,hq,fun w S' v H' _ r1 r2 q=>⟨w,S',r1,r2,q⟩,fun cl C S' H' hn hS' q=>⟨cl,C,S',rfl,hn,hS',q⟩⟩
 have e1:Env0 X.prog X.w X.K X.mg X.base X.A X.stack _ (unt H2 S2):=⟨e0.frames,e0.mod,fun b o e=>⟨(e0.bs b o e).1,zbS (e0.bs b o e).2⟩,e0.bsz,e0.funs,fun b hb=>zbS (e0.frf b hb),e0.hok.unt,e0.bare⟩;have hl:(Value.ref (s.heap.objs.size+1)::us).length=ps.length:=by rw [←r2.length];exact F.len _ _ _ _ sp
 have hb':=hb _ (Value.ref (s.heap.objs.size+1)::us) I2.kIn (by rw [List.append_nil];exact hl);rw [List.append_nil]at hb';refine wpAny_call (zkG (f:=f) I.kIn M.makes M.init (beq_iff_eq.mp M.fn) (codeAny_mono (F.run _ X.stack _ (unt H2 S2) ⟨Value.ref (s.heap.objs.size+1)::us,[]⟩ (Value.ref (s.heap.objs.size+1)::us) _ _ _ (hr.make C us []) (e1.make C us []) hb' r2 sp) fun rr s' hq'=>?_));cases rr with
 |error e=>
  obtain⟨a,C',H',rfl,os,bare,un,ok',fly,cl',C'',S',ec,hn',hS',q⟩:=hq';cases ec;refine hE.far pins σ H2 _ σW cl' C' a (rtk H2 S2 H') S' s' I2 hσ2 hn' os bare (zet un I2.hok) (zhL un I2.hok ok' e0.frf) ?_ (zlr un I2.hok hS') q;obtain⟨g1,g2,oe,vs',T,oT,ts,a1,a2,a3,a4,a5,a6,a7⟩:=fly;have free:∀{b:Addr},Heap.get? _ b=none→H' b=none→rtk H2 S2 H' b=none:=fun {b} q1 q2=>by
   have hn:H2 b=none:=by
    cases z:H2 b with
    |none=>rfl
    |some u=>obtain⟨ob,eo⟩:=(I2.hok b u z).ex;rw [q1]at eo;cases eo
   unfold rtk;rw [zbS hn,hn];exact q2
  exact⟨g1,free g1 g2,oe,vs',T,oT,ts,a1,a2,a3,a4,a5,free a5 a6,a7⟩
 |ok fl=>
  cases fl with
  |ret u=>
   obtain⟨v,H',os,bare,un,ok',rv,w,S',r1,r2',ew,q⟩:=hq';subst ew;cases r1;exact⟨rv,⟨.ref (s.heap.objs.size+1),rtk H2 S2 H',I2.call' os (zet un I2.hok) (zhL un I2.hok ok' e0.frf) bare (fun _ z=>nomatch z),rfl,hQ2 _ S' _ _ (zgM un I2.hok r2') (.ref _) (zlr un I2.hok r2') q⟩⟩
  |next=>exact False.elim hq'
  |brk=>exact False.elim hq'
  |cont=>exact False.elim hq'
theorem zmG (hn:PySem.W.nsIn X.K mainGlobals x=some (some (.ref C))) (M:Mk X.K C f) (F:FnOk X.prog X.w X.K X.mg X.base (CX1 X.prog X.w) k f fd ps (zaK X.K c)) (hr:Room (k+1) X.A) (hg:Gl X x) (hm:X.mg x=some (.ref C)) (hb:Binds X.K fd ps [])
  (ha:JA X (e::es) t) (hdb:(x == ("__debug__" :Str))=false:=by decide) (he:starEach (e::es) X.env=(false,eval e X.env)::starEach es X.env:=by rfl) (hpl:(backTo pos (starEach es X.env)).any (·.1)=false:=by rfl) :
  JE X (.Call (.Name x p) (e::es) [] pos) (zmm x c t):=fun E hE pins s σ H Q I h=>by
 obtain⟨σW,S,QW,hσ,hS,ht,hQ⟩:=h;refine wpAny_Call_Name_kw (zfd I hg hm ?_ hdb);refine PySem.W.callWith_K (h₀:=X.base) I.ok.mod.kin M.kp (thn (ha E hE pos pins s σ H (fun vs H1=>∃ws S1,Reps X.K H1 ws vs∧RpSt X.K H1 σW σ∧RepS X.K H1 S1∧(∀a,S1 a=none→c (.ref a::ws) (put S1 a (.ins x [])) (fun w S'=>w= .non∧QW (.ref a) S') fun cl S'=>E cl σW S')∧Wish X.K H1 S1 QW Q) I
  ⟨σW,S,_,hσ,hS,ht,fun ws S1 vs H1 e1 r1 hS1 h1=>⟨ws,S1,r1,hσ.ext e1,hS1,h1,hQ.from e1⟩⟩) fun us s1 ⟨vs,H1,I1,r,ws,S1,r1,hσ1,hS1,h1,hQ1⟩=>⟨I1.kIn,?_⟩) he hpl
 exact zox hn M F hr hb hE I1 r r1 hσ1 hS1 h1 hQ1
end
section
variable {E:WX}{σ:WSt}{S:Sto}{Q:WK}{D:WEnds}{cl f:Str}{c:WSp}{ta tv:WE}{t:WA}
theorem zon:(zkj cl f ta E σ S Q)=(ta E σ S fun x S1=>match x with
 | .ref a=>zgu S1 cl a fun fs=>match fs.lookup f with
  |some w=>Q w S1
  |none=>False
 |_=>False):=pz id id
theorem zmF:(zjP cl f ta tv E D σ S)=(tv E σ S fun v S1=>ta E σ S1 fun x S2=>match x with
 | .ref a=>zgu S2 cl a fun fs=>fs.length<1000∧D.nx σ (put S2 a (.ins cl (zbz f v fs)))
 |_=>False):=pz id id
theorem znw:(ziC cl f ta tv E D σ S)=(ta E σ S fun x S1=>match x with
 | .ref a=>zgu S1 cl a fun fs=>match fs.lookup f with
  |some (.int i)=>tv E σ S1 fun y S2=>match y with
   | .int j=>zgu S2 cl a fun fs'=>fs'.length<1000∧D.nx σ (put S2 a (.ins cl (zbz f (.int (i+j)) fs')))
   |_=>False
  |_=>False
 |_=>False):=pz id id
theorem zml:(zeh cl f c ta t E σ S Q)=(ta E σ S fun x S1=>match x with
 | .ref a=>zgu S1 cl a fun fs=>fs.lookup f=none∧t E σ S1 fun ws S2=>c (.ref a::ws) S2 Q fun cl' S3=>E cl' σ S3
 |_=>False):=pz id id
theorem znn:(zmm cl c t E σ S Q)=(t E σ S fun ws S1=>∀a,S1 a=none→c (.ref a::ws) (put S1 a (.ins cl [])) (fun w S2=>w= .non∧Q (.ref a) S2) fun cl' S3=>E cl' σ S3):=pz id id
end
section
variable {X:Cx}{o e:Expr}{es:List Expr}{to:WE}{t:WA}{apos cpos p pos:Pos}
noncomputable def zpC:V→List V→Hp→VK→Prop:=fun x vs H Q=>∃z y:Str,x= .str z∧vs=[.str y]∧(y.length == 0)=false∧z.length≤100000∧ ∀l,H l=none→Q (.ref l) (upd H l (.tup [.str (Txt.partition z y).1, .str (Txt.partition z y).2.1, .str (Txt.partition z y).2.2]))
theorem zfP:MtR X "str.partition" zpC:=by
 intro pins s σ H x vs v us Q I rx rv h;obtain⟨z,y,rfl,rfl,hy,hz,q⟩:=h;obtain⟨t,rfl⟩:=rx;obtain⟨u,rfl,ru⟩:=zfj rv;obtain⟨t',rfl⟩:=ru;refine call_meets PySem.F.slot_str_partition (show s.TypeIs (Value.str z t) "str" from by first |rfl |trivial |exact⟨⟩) PySem.F.entry_str_partition (PySem.F.args_str_partition_2 _ _) (meets_str_partition z y t t' hy (Nat.le_trans hz (by decide))) ?_
 have hT:∀(its:List Value) (k:Nat),Vals [.str (Txt.partition z y).1, .str (Txt.partition z y).2.1, .str (Txt.partition z y).2.2] its→EP X pins σ Q (Value.ref s.heap.objs.size) { s with heap:=s.heap.push { cls:= .type "tuple",data:= .seq its.toArray },toks:=k }:=fun its k r=>by
  have I2:Inv X pins σ (upd H s.heap.objs.size (.tup [.str (Txt.partition z y).1, .str (Txt.partition z y).2.1, .str (Txt.partition z y).2.2])) { s with heap:=s.heap.push { cls:= .type "tuple",data:= .seq its.toArray },toks:=k }:=
   I.laid (t':=k) (fun b o e=>Heap.get?_push_of_some _ e) (Nat.le_refl _) (show ObjOk X.prog X.w _ _ _ (.tup _) from⟨(by show 3≤sizeLine;decide),its,r,IsTup.new _ _⟩)
  exact⟨.ref s.heap.objs.size,_,I2,rfl,q _ (I.hok.fresh (Nat.le_refl _))⟩
 show EP X pins σ Q (Value.ref s.heap.objs.size) _;cases e:Builtin.Str.occurrences z y 0 z.length 1 with
 |nil=>
  have e2:Txt.partition z y=(z,Str.empty,Str.empty):=by unfold Txt.partition;rw [e]
  exact hT [.str z t, .str Str.empty s.toks, .str Str.empty s.toks] _ (by rw [e2];exact .cons ⟨_,rfl⟩ (.cons ⟨_,rfl⟩ (.cons ⟨_,rfl⟩ .nil)))
 |cons i is=>
  have e2:Txt.partition z y=(Builtin.Str.strSub z 0 i,y,Builtin.Str.strSub z (i+y.length) z.length):=by unfold Txt.partition;rw [e]
  exact hT [.str _ s.toks, .str y t', .str _ (s.toks+1)] _ (by rw [e2];exact .cons ⟨_,rfl⟩ (.cons ⟨_,rfl⟩ (.cons ⟨_,rfl⟩ .nil)))
noncomputable def zim:WMf:=fun w ws S Q=>match w,ws with
 | .str z,[.str y]=>(y.length == 0)=false∧z.length≤100000∧Q (.tup [.str (Txt.partition z y).1, .str (Txt.partition z y).2.1, .str (Txt.partition z y).2.2]) S
 |_,_=>False
theorem zeX{K:PySem.W.Frag}:MtW K zpC zim:=fun H x w vs ws S Q QW r rs hS h hQ=>by
 unfold zim at h;split at h
 ·rename_i z y;cases r;cases rs with
  |cons r1 rs=>
   cases rs;cases r1;refine⟨z,y,rfl,rfl,h.1,h.2.1,fun l hl=>?_⟩;have x:Ext H S (upd H l (.tup [.str (Txt.partition z y).1, .str (Txt.partition z y).2.1, .str (Txt.partition z y).2.2])) S:= .new hl;exact hQ _ S _ _ x (.tup zau (.cons (.str _) (.cons (.str _) (.cons (.str _) .nil)))) (hS.new hl) h.2.2
 ·exact h.elim
theorem zdx (ho:JE X o to) (ha:JA X (e::es) t) (hbase:attributeBase o "partition" X.env (eval o X.env)=eval o X.env:=by rfl) (hfew:((backTo cpos (starEach (e::es) X.env)).all (fun x=> !x.1)&&(backToKw cpos (keywordEach [] X.env)).all (fun x=>x.1.isSome)
   &&decide ((e::es).length+([]:List Keyword).length+(if([]:List Keyword).isEmpty then 0 else 1)<30))=true:=by rfl) (hline:(apos.endLine == cpos.line)=true:=by rfl) (hs:starEach (e::es) X.env=(false,eval e X.env)::starEach es X.env:=by rfl) (hplain:(backTo cpos (starEach es X.env)).any (·.1)=false:=by rfl) :
  JE X (.Call (.Attribute o "partition" apos) (e::es) [] cpos) (wM rvS zim to t):=zqi PySem.F.plainAttrs_str PySem.F.slot_str_partition PySem.F.type_str_partition zjo zfP zeX ho ha hbase hfew hline hs hplain
theorem zjy:CallR X (.type "int") (fun xs H Q=>∃(x:Str) (n:Int),xs=[.str x]∧intText? x=some n∧x.length≤640∧Q (.int n) H):=by
 intro pins s σ H xs us Q I r h;obtain⟨x,n,rfl,e,hl,q⟩:=h;obtain⟨u,rfl,ru⟩:=zfj r;obtain⟨t,rfl⟩:=ru;exact PySem.W.KIN.call_text e hl ⟨.int n,H,I.tok _,⟨_,rfl⟩,q⟩
noncomputable def zjr:WF:=fun ws S Q=>match ws with
 | [.str x]=>match intText? x with
  |some n=>x.length≤640∧Q (.int n) S
  |none=>False
 |_=>False
theorem zil{K:PySem.W.Frag}:zhd K (fun xs H Q=>∃(x:Str) (n:Int),xs=[.str x]∧intText? x=some n∧x.length≤640∧Q (.int n) H) zjr:=fun H vs ws S Q QW r hS h hQ=>by
 unfold zjr at h;split at h
 ·rename_i x;cases r with
  |cons r1 r2=>
   cases r2;cases r1;split at h
   ·rename_i n e;exact⟨x,n,rfl,e,h.1,hQ _ S _ H .refl (.int _) hS h.2⟩
   ·exact h.elim
 ·exact h.elim
theorem zmZ (hg:Gl X "int") (hm:X.mg "int" =none) (ha:JA X (e::es) t)
  (he:starEach (e::es) X.env=(false,eval e X.env)::starEach es X.env:=by rfl) (hpl:(backTo pos (starEach es X.env)).any (·.1)=false:=by rfl):JE X (.Call (.Name "int" p) (e::es) [] pos) (wB zjr t):=
 zkR zjy zil hg hm PyProof.Rows.boot_int ha (by decide) (by decide) he hpl
end
section
variable {S:Sto}{Q:WK}{z y:Str}{n:Int}
theorem zdW (hy:(y.length == 0)=false) (hz:z.length≤100000):(zim (.str z) [.str y] S Q)=Q (.tup [.str (Txt.partition z y).1, .str (Txt.partition z y).2.1, .str (Txt.partition z y).2.2]) S:=propext ⟨fun h=>h.2.2,fun h=>⟨hy,hz,h⟩⟩
theorem zpJ (h:intText? z=some n) (hl:z.length≤640):(zjr [.str z] S Q)=Q (.int n) S:=by
 show(match intText? z with
  |some n=>z.length≤640∧Q (.int n) S
  |none=>False)=_
 rw [h];exact propext ⟨fun h=>h.2,fun h=>⟨hl,h⟩⟩
end
noncomputable def zbW:Nat→WSp
 |0=>zbs
 |r+1=>zcV 1 1 (zaE (zda (zdD (zgW "int" (zaf 0))) (zby (zgv waNil)) zaZ)
  (zby (wSl (zaf 0) (woS (wC (.int 1))) woN)))
noncomputable def zbv (r:Nat) (self:WSp):WS:=(zgc (wM rvL zdV (zaf 1) (zab (zaC (zbW r) (zab (zaf 2) waNil)) waNil)))
noncomputable def zaY:Nat→WSp
 |0=>zbs
 |r+1=>zcV 3 1 (zaE (wAsg (zfJ (zgt waNil)) (wGN 1))
  (zaE (zmq (wIv (zaf 0)) (wGN 2) (zbv r zbs))
  (zby (zaf 1))))
noncomputable def zdy (r:Nat) (self:WSp):WS:=(zaE (zoO 1 (fun a b=>a+b) (wB zdC (zab (zaf 3) waNil)))
  (zaE (zoO 2 (fun a b=>a+b) (wC (.int 1)))
  (zaE (zda (wOr (wTb (wOp oGt (zaf 1) (wC (.int 400)))) (wTb (wOp oGt (zaf 2) (wC (.int 40))))) (zby (wC (.bl false))) zaZ)
  (wAsg (zaC (zaY r) (zab (zaf 3) waNil)) (wGN 3)))))
noncomputable def zbU:Nat→WSp
 |0=>zbs
 |r+1=>zcV 4 1 (zaE (wAsg (wC (.int 0)) (wGN 1))
  (zaE (wAsg (wC (.int 0)) (wGN 2))
  (zaE (wAsg (zfJ (zgt (zab (zaf 0) waNil))) (wGN 3))
  (zaE (zev (zdD (zaf 3)) (zdy r zbs))
  (zby (wC (.bl true)))))))
noncomputable def zbr (r:Nat) (self:WSp):WE:=(zdB oLe oLe (wC (.str "a")) (zaf 0) (wC (.str "z")))
noncomputable def zav:Nat→WSp
 |0=>zbs
 |r+1=>zcV 1 1 (zby (wBL zgS (zdU 1 [] (wIv (zaf 0)) (wGN 0) zgO (zbr r zbs))))
noncomputable def zcw:Nat→WSp
 |0=>zbs
 |r+1=>zcV 1 1 (zby (zea (zdB oLe oLe (wC (.int 1)) (wB zdC (zab (zaf 0) waNil)) (wC (.int 8))) (zaC (zav r) (zab (zaf 0) waNil))))
noncomputable def zbB:Nat→WSp
 |0=>zbs
 |r+1=>zcV 1 1 (zby (zea (zdB oLe oLe (wC (.int 1)) (wB zdC (zab (zaf 0) waNil)) (wC (.int 8))) (zea (zdB oLe oLe (wC (.str "A")) (wOp oIx (zaf 0) (wC (.int 0))) (wC (.str "Z"))) (zaC (zav r) (zab (wSl (zaf 0) (woS (wC (.int 1))) woN) waNil)))))
noncomputable def zdE (r:Nat) (self:WSp):WS:=(zaE zlX
  (wAsg (wOp (zcn zlS fun i j=> .int (i / j)) (zaf 2) (wOp (zcn zmW fun i j=> .int (i ^ j.toNat)) (wC (.int 10)) (wC (.int 64)))) (wGN 2)))
noncomputable def zaX:Nat→WSp
 |0=>zbs
 |r+1=>zcV 3 1 (zaE (wAsg (wC (.str "")) (wGN 1))
  (zaE (wAsg (zaf 0) (wGN 2))
  (zaE (zev (wTb (wOp oGe (zaf 2) (wOp (zcn zmW fun i j=> .int (i ^ j.toNat)) (wC (.int 10)) (wC (.int 64))))) (zdE r zbs))
  (zby (wOp zco (wB zpf (zab (zaf 2) waNil)) (zaf 1))))))
noncomputable def zgr (r:Nat) (self:WSp):WE:=(zaC self (zab (zaf 0) waNil))
noncomputable def zcb:Nat→WSp
 |0=>zbs
 |r+1=>zcV 1 1 (zaE (zda (zdD (zgW "int" (zaf 0))) (zby (wOp zco (wC (.str "?")) (zaC (zaX r) (zab (zaf 0) waNil)))) zaZ)
  (zaE (zda (wTb (wOp (oEq false) (wB zdC (zab (zaf 0) waNil)) (wC (.int 1)))) (zby (wOp oIx (zaf 0) (wC (.int 0)))) zaZ)
  (zby (wOp zco (wOp zco (wOp zco (wOp oIx (zaf 0) (wC (.int 0))) (wC (.str "("))) (wML rvS zdY (wC (.str ",")) (zdU 1 [] (wIv (wSl (zaf 0) (woS (wC (.int 1))) woN)) (wGN 0) zgO (zgr r (zcb r))))) (wC (.str ")"))))))
noncomputable def zbi:Nat→WSp
 |0=>zbs
 |r+1=>zcV 1 1 (zby (wOp zco (wOp zco (wOp zco (wOp zco (wOp oIx (zaf 0) (wC (.int 0))) (wC (.str ": "))) (zaC (zcb r) (zab (wOp oIx (zaf 0) (wC (.int 1))) waNil))) (wC (.str " > "))) (zaC (zcb r) (zab (wOp oIx (zaf 0) (wC (.int 2))) waNil))))
noncomputable def zaN:Nat→WSp
 |0=>zbs
 |r+1=>zcV 3 3 (zaE (zjP "Reader" "text" (zaf 0) (zaf 1))
  (zaE (zjP "Reader" "in_side" (zaf 0) (zaf 2))
  (zjP "Reader" "at" (zaf 0) (wC (.int 0)))))
noncomputable def zaF:Nat→WSp
 |0=>zbs
 |r+1=>zcV 1 1 (zby (wSl (zkj "Reader" "text" (zaf 0)) (woS (zkj "Reader" "at" (zaf 0))) (woS (wOp zco (zkj "Reader" "at" (zaf 0)) (wC (.int 1))))))
noncomputable def zbx (r:Nat) (self:WSp):WS:=(ziC "Reader" "at" (zaf 0) (wC (.int 1)))
noncomputable def zaI:Nat→WSp
 |0=>zbs
 |r+1=>zcV 2 1 (zaE (wAsg (zkj "Reader" "at" (zaf 0)) (wGN 1))
  (zaE (zev (wTb (wOp (oIn true) (zeh "Reader" "here" (zaF r) (zaf 0) waNil) (zgv (zab (wC (.str "")) (zab (wC (.str "(")) (zab (wC (.str ",")) (zab (wC (.str ")")) waNil))))))) (zbx r zbs))
  (zby (wSl (zkj "Reader" "text" (zaf 0)) (woS (zaf 1)) (woS (zkj "Reader" "at" (zaf 0)))))))
noncomputable def zaG (r:Nat) (self:WSp):WS:=(zaE (ziC "Reader" "at" (zaf 0) (wC (.int 1)))
  (zgc (wM rvL zdn (zaf 2) (zab (zeh "Reader" "read_thing" self (zaf 0) (zab (zaf 1) waNil)) waNil))))
noncomputable def zan (cT:WSp):Nat→WSp
 |0=>zbs
 |r+1=>zcV 3 2 (zaE (zda (wTb (wOp (oEq true) (zeh "Reader" "here" (zaF r) (zaf 0) waNil) (wC (.str "(")))) (zby (zgv waNil)) zaZ)
  (zaE (wAsg (zfJ (zgt waNil)) (wGN 2))
  (zaE (zev (wOr (zhl (zdD (zaf 2))) (wTb (wOp (oEq false) (zeh "Reader" "here" (zaF r) (zaf 0) waNil) (wC (.str ","))))) (zaG r cT))
  (zaE (zda (wTb (wOp (oEq true) (zeh "Reader" "here" (zaF r) (zaf 0) waNil) (wC (.str ")")))) (zdj "NoText" (zab (wC (.str "a bracket is not closed")) waNil)) zaZ)
  (zaE (ziC "Reader" "at" (zaf 0) (wC (.int 1)))
  (zby (wB zfO (zab (zaf 2) waNil))))))))
noncomputable def zbE (r:Nat) (self:WSp):WE:=(zdB oLe oLe (wC (.str "0")) (zaf 0) (wC (.str "9")))
noncomputable def zaL:Nat→WSp
 |0=>zbs
 |r+1=>zcV 1 1 (zaE (zda (zhl (zdD (wBL zgS (zdU 1 [] (wIv (zaf 0)) (wGN 0) zgO (zbE r zbs))))) (zby (wC (.bl false))) zaZ)
  (zby (zqs (wOp (oEq false) (wB zdC (zab (zaf 0) waNil)) (wC (.int 1))) (zea (wOp (oEq false) (wB zdC (zab (zaf 0) waNil)) (wC (.int 2))) (wOp (oEq true) (wOp oIx (zaf 0) (wC (.int 0))) (wC (.str "0")))))))
noncomputable def zaA:Nat→WSp
 |0=>zbs
 |r+1=>zcV 1 1 (zby (zea (wOp (oEq false) (wSl (zaf 0) woN (woS (wC (.int 1)))) (wC (.str "?"))) (zaC (zaL r) (zab (wSl (zaf 0) (woS (wC (.int 1))) woN) waNil))))
noncomputable def zak:Nat→WSp
 |0=>zbs
 |1=>zbs
 |r+2=>zcV 3 2 (zaE (zda (wTb (wOp (oEq false) (zaf 1) (wC (.int 0)))) (zdj "NoText" (zab (wC (.str "the text is nested too deep")) waNil)) zaZ)
  (zaE (wAsg (zeh "Reader" "read_word" (zaI (r+1)) (zaf 0) waNil) (wGN 2))
  (zaE (zda (znO (zdD (zkj "Reader" "in_side" (zaf 0))) (zdD (zaC (zaA (r+1)) (zab (zaf 2) waNil)))) (zby (wB zjr (zab (wSl (zaf 2) (woS (wC (.int 1))) woN) waNil))) zaZ)
  (zaE (zda (znO (zhl (zdD (zaC (zcw (r+1)) (zab (zaf 2) waNil)))) (wOr (zdD (zkj "Reader" "in_side" (zaf 0))) (zhl (zdD (zaC (zbB (r+1)) (zab (zaf 2) waNil)))))) (zdj "NoText" (zab (wC (.str "a word of the text is none that may stand there")) waNil)) zaZ)
  (zby (wOp zco (zgv (zab (zaf 2) waNil)) (zeh "Reader" "read_parts" (zan (zak r) (r+1)) (zaf 0) (zab (wOp (zgf fun i j=> .int (i - j)) (zaf 1) (wC (.int 1))) waNil))))))))
noncomputable def zbc:Nat→WSp
 |0=>zbs
 |r+1=>zcV 1 1 (zaE (zda (zhl (zdD (zgW "str" (zaf 0)))) (zdj "NoText" (zab (wC (.str "this is no text")) waNil)) zaZ)
  (zda (wTb (wOp oGt (wB zdC (zab (zaf 0) waNil)) (wC (.int 4000)))) (zdj "NoText" (zab (wC (.str "the text is too long")) waNil)) zaZ))
noncomputable def zbe:Nat→WSp
 |0=>zbs
 |1=>zbs
 |r+2=>zcV 4 2 (zaE (zgc (zaC (zbc (r+1)) (zab (zaf 0) waNil)))
  (zaE (wAsg (zmm "Reader" (zaN r) (zab (zaf 0) (zab (zaf 1) waNil))) (wGN 2))
  (zaE (wAsg (zeh "Reader" "read_thing" (zak (r+1)) (zaf 2) (zab (wC (.int 40)) waNil)) (wGN 3))
  (zaE (zda (wTb (wOp (oEq true) (zkj "Reader" "at" (zaf 2)) (wB zdC (zab (zaf 0) waNil)))) (zdj "NoText" (zab (wC (.str "something stands behind the end")) waNil)) zaZ)
  (zaE (zda (zhl (zdD (zaC (zbU (r+1)) (zab (zaf 3) waNil)))) (zdj "NoText" (zab (wC (.str "the text tells of a thing that is not small")) waNil)) zaZ)
  (zby (zaf 3)))))))
noncomputable def zbC:Nat→WSp
 |0=>zbs
 |r+1=>zcV 1 1 (zby (zaC (zbe r) (zab (zaf 0) (zab (wC (.bl false)) waNil))))
noncomputable def zbb:Nat→WSp
 |0=>zbs
 |r+1=>zcV 1 1 (zby (zaC (zbe r) (zab (zaf 0) (zab (wC (.bl true)) waNil))))
noncomputable def zaW:Nat→WSp
 |0=>zbs
 |r+1=>zcV 4 1 (zaE (zgc (zaC (zbc r) (zab (zaf 0) waNil)))
  (zaE (wAsg (wM rvS zim (zaf 0) (zab (wC (.str ": ")) waNil)) (wGN 1))
  (zaE (wAsg (wOp oIx (zaf 1) (wC (.int 0))) (wGN 2))
  (zaE (wAsg (wM rvS zim (wOp oIx (zaf 1) (wC (.int 2))) (zab (wC (.str " > ")) waNil)) (wGN 3))
  (zaE (zda (zhl (zdD (zaC (zbB r) (zab (zaf 2) waNil)))) (zdj "NoText" (zab (wC (.str "a turning's text begins with a title")) waNil)) zaZ)
  (zby (zgv (zab (zaf 2) (zab (zaC (zbb r) (zab (wOp oIx (zaf 3) (wC (.int 0))) waNil)) (zab (zaC (zbb r) (zab (wOp oIx (zaf 3) (wC (.int 2))) waNil)) waNil))))))))))
noncomputable def zba:Nat→WSp
 |0=>zbs
 |r+1=>zcV 4 2 (zaE (zda (wTb (wOp (oEq false) (wB zdC (zab (zaf 0) waNil)) (wC (.int 0)))) (zby (wC (.int 0))) zaZ)
  (zaE (wAsg (wOp (zcn (fun _ j=>0<j) fun i j=> .int (i % j)) (wOp oIx (zaf 0) (wOp (zcn (fun _ j=>0<j) fun i j=> .int (i % j)) (zaf 1) (wB zdC (zab (zaf 0) waNil)))) (wOp (zcn zmW fun i j=> .int (i ^ j.toNat)) (wC (.int 10)) (wC (.int 60)))) (wGN 2))
  (zaE (zda (wTb (wOp oLt (zaf 1) (wB zdC (zab (zaf 0) waNil)))) (zby (zaf 2)) zaZ)
  (zaE (wAsg (wOp (zcn (fun _ j=>0<j) fun i j=> .int (i % j)) (wOp zco (wOp zco (zaf 2) (wOp (zcn CMul fun i j=> .int (i*j)) (wOp (zcn CMul fun i j=> .int (i*j)) (wC (.int 7919)) (zaf 1)) (zaf 1))) (wC (.int 1))) (wC (.int 2147483647))) (wGN 3))
  (zby (wOp (zcn (fun _ j=>0<j) fun i j=> .int (i % j)) (wOp (zcn CMul fun i j=> .int (i*j)) (zaf 3) (zaf 3)) (wC (.int 2147483647))))))))
noncomputable def zcN (r:Nat) (self:WSp):WE:=(wOp oIx (zaf 1) (wOp (zcn (fun _ j=>0<j) fun i j=> .int (i % j)) (wOp zco (wOp oIx (zaf 2) (zaf 0)) (wOp (zcn CMul fun i j=> .int (i*j)) (zaf 3) (wB zom (zab (wOp (oEq false) (zaf 0) (zaf 4)) waNil)))) (wC (.int 26))))
noncomputable def zcL (r:Nat) (self:WSp):WS:=(zgc (wM rvL zdn (zaf 10) (zab (wML rvS zdY (wC (.str "")) (zdU 1 [3,6,11,9] (znP (zab (zaf 8) waNil)) (wGN 0) zgO (zcN r zbs))) waNil)))
noncomputable def zcP (r:Nat) (self:WSp):WE:=(wOp oIx (zaf 1) (zaf 0))
noncomputable def zcQ (r:Nat) (self:WSp):WE:=(wML rvS zdY (wC (.str "")) (zdU 1 [1] (wIv (wSl (zaf 2) woN (woS (wOp zco (zaf 0) (wC (.int 1)))))) (wGN 0) zgO (zcP r zbs)))
noncomputable def zbP (r:Nat) (self:WSp):WS:=(zaE (zgc (wM rvL zdn (zaf 6) (zab (wOp (zcn (fun _ j=>0<j) fun i j=> .int (i % j)) (zaf 5) (wC (.int 26))) waNil)))
  (wAsg (wOp (zcn zlS fun i j=> .int (i / j)) (zaf 5) (wC (.int 26))) (wGN 5)))
noncomputable def zbf:Nat→WSp
 |0=>zbs
 |r+1=>zcV 12 3 (zaE (wAsg (wC (.str "abcdefghijklmnopqrstuvwxyz")) (wGN 3))
  (zaE (wAsg (zaC (zba r) (zab (zaf 0) (zab (zaf 1) waNil))) (wGN 4))
  (zaE (wAsg (wOp (zcn (fun _ j=>0<j) fun i j=> .int (i % j)) (wOp (zcn CMul fun i j=> .int (i*j)) (zaC (zba r) (zab (zaf 0) (zab (wOp zco (zaf 1) (wC (.int 1))) waNil))) (wC (.int 982451653))) (wOp (zcn zmW fun i j=> .int (i ^ j.toNat)) (wC (.int 26)) (wC (.int 8)))) (wGN 5))
  (zaE (wAsg (zfJ (zgt waNil)) (wGN 6))
  (zaE (zmq (znP (zab (wC (.int 8)) waNil)) (wGN 7) (zbP r zbs))
  (zaE (zda (wTb (wOp (oEq false) (wOp (zcn (fun _ j=>0<j) fun i j=> .int (i % j)) (zaf 4) (wC (.int 3))) (wC (.int 0)))) (zby (zfJ (zdU 1 [3,6] (znP (zab (zaf 2) waNil)) (wGN 0) zgO (zcQ r zbs)))) zaZ)
  (zaE (wAsg (wOp zco (wC (.int 1)) (wOp (zcn (fun _ j=>0<j) fun i j=> .int (i % j)) (wOp (zcn zlS fun i j=> .int (i / j)) (zaf 4) (wC (.int 3))) (wC (.int 8)))) (wGN 8))
  (zaE (wAsg (wOp (zcn (fun _ j=>0<j) fun i j=> .int (i % j)) (wOp (zcn zlS fun i j=> .int (i / j)) (zaf 4) (wC (.int 24))) (zaf 8)) (wGN 9))
  (zaE (wAsg (zfJ (zgt waNil)) (wGN 10))
  (zaE (zmq (znP (zab (zaf 2) waNil)) (wGN 11) (zcL r zbs))
  (zby (zaf 10))))))))))))
noncomputable def zcs (r:Nat) (self:WSp):WE:=(wOp zco (wOp oIx (zaf 1) (wM rvS zgi (zaf 2) (zab (wOp oIx (zaf 0) (wC (.int 0))) waNil))) (wSl (zaf 0) (woS (wC (.int 1))) woN))
noncomputable def zbj:Nat→WSp
 |0=>zbs
 |r+1=>zcV 5 3 (zaE (wAsg (wC (.str "abcdefghijklmnopqrstuvwxyz")) (wGN 3))
  (zaE (wAsg (wC (.str "ABCDEFGHIJKLMNOPQRSTUVWXYZ")) (wGN 4))
  (zby (zfJ (zdU 1 [4,3] (wIv (zaC (zbf r) (zab (zaf 0) (zab (zaf 1) (zab (zaf 2) waNil))))) (wGN 0) zgO (zcs r zbs))))))
noncomputable def zbl:Nat→WSp
 |0=>zbs
 |r+1=>zcV 6 4 (zaE (wAsg (zqO (zgt (zab (wC (.int 0)) (zab (wC (.int 0)) (zab (wC (.int 1)) (zab (wC (.int 2)) (zab (wC (.int 3)) waNil)))))) (wOp (zcn (fun _ j=>0<j) fun i j=> .int (i % j)) (zaf 1) (wC (.int 5)))) (wGN 4))
  (zaE (wAsg (wOp (zcn zlS fun i j=> .int (i / j)) (zaf 1) (wC (.int 5))) (wGN 5))
  (zaE (zda (wOr (wTb (wOp (oEq false) (zaf 4) (wC (.int 0)))) (wTb (wOp oLt (wB zdC (zab (zaf 0) waNil)) (zaf 4)))) (zby (zfJ (znc (zaf 0) (zgt (zab (wOp oIx (zaf 3) (wOp (zcn (fun _ j=>0<j) fun i j=> .int (i % j)) (zaf 5) (wB zdC (zab (zaf 3) waNil)))) waNil))))) zaZ)
  (zby (zfJ (zly (zoI (zaf 0) woN (woS (znk (zaf 4)))) (zgt (zab (wOp zco (zgv (zab (wOp oIx (zaf 2) (wOp (zcn (fun _ j=>0<j) fun i j=> .int (i % j)) (zaf 5) (wB zdC (zab (zaf 2) waNil)))) waNil)) (wBL zfh (zoI (zaf 0) (woS (znk (zaf 4))) woN))) waNil))))))))
noncomputable def zcO (r:Nat) (self:WSp):WS:=(wAsg (zfJ (zly (zoI (zaf 3) woN (woS (znk (wC (.int 2))))) (zgt (zab (zgv (zab (wOp oIx (zaf 1) (wC (.int 0))) (zab (wOp oIx (zaf 3) (znk (wC (.int 2)))) (zab (wOp oIx (zaf 3) (znk (wC (.int 1)))) waNil)))) waNil)))) (wGN 3))
noncomputable def zcK (r:Nat) (self:WSp):WS:=(wAsg (zaC (zbl r) (zab (zaf 3) (zab (wOp (zcn (fun _ j=>0<j) fun i j=> .int (i % j)) (zaf 4) (wOp (zcn zmW fun i j=> .int (i ^ j.toNat)) (wC (.int 10)) (wC (.int 60)))) (zab (zaf 1) (zab (zaf 2) waNil))))) (wGN 3))
noncomputable def zaR:Nat→WSp
 |0=>zbs
 |r+1=>zcV 5 3 (zaE (wAsg (zfJ (zgt waNil)) (wGN 3))
  (zaE (zmq (wIv (zaf 0)) (wGN 4) (zcK r zbs))
  (zaE (zda (wTb (wOp (oEq false) (wB zdC (zab (zaf 3) waNil)) (wC (.int 0)))) (zby (wOp oIx (zaf 2) (wC (.int 0)))) zaZ)
  (zaE (zev (wTb (wOp oGt (wB zdC (zab (zaf 3) waNil)) (wC (.int 1)))) (zcO r zbs))
  (zby (wOp oIx (zaf 3) (wC (.int 0))))))))
noncomputable def zbT (r:Nat) (self:WSp):WE:=(zaC self (zab (zaf 0) (zab (zaf 1) waNil)))
noncomputable def zax:Nat→WSp
 |0=>zbs
 |r+1=>zcV 2 2 (zaE (zda (zdD (zgW "str" (zaf 1))) (zby (zea (zgW "str" (zaf 0)) (wOp (oEq false) (zaf 0) (zaf 1)))) zaZ)
  (zaE (zda (zdD (zgW "int" (zaf 1))) (zby (zea (zgW "int" (zaf 0)) (zea (zmn (zgW "bool" (zaf 0))) (wOp (oEq false) (zaf 0) (zaf 1))))) zaZ)
  (zaE (zda (znO (zdD (zgW "tuple" (zaf 1))) (zhl (zdD (zgW "tuple" (zaf 0))))) (zby (wC (.bl false))) zaZ)
  (zaE (zda (znO (zdD (zgW "list" (zaf 1))) (zhl (zdD (zgW "list" (zaf 0))))) (zby (wC (.bl false))) zaZ)
  (zaE (zda (wTb (wOp (oEq true) (wB zdC (zab (zaf 0) waNil)) (wB zdC (zab (zaf 1) waNil)))) (zby (wC (.bl false))) zaZ)
  (zby (wBL zgS (zdU 2 [] (zrt (zaf 0) (zaf 1)) (wGT (zdv (wGN 0) (zdv (wGN 1) zhY))) zgO (zbT r (zax r))))))))))
noncomputable def zbw (r:Nat) (self:WSp):WS:=(zaE (wAsg (wOp zco (wOp zco (zaf 1) (zaf 2)) (zaC self (zab (zaf 3) waNil))) (wGN 1))
  (wAsg (wC (.str ",")) (wGN 2)))
noncomputable def zat:Nat→WSp
 |0=>zbs
 |r+1=>zcV 4 1 (zaE (zda (zdD (zgW "int" (zaf 0))) (zby (wOp zco (wC (.str "?")) (wB zpf (zab (zaf 0) waNil)))) zaZ)
  (zaE (wAsg (wOp oIx (zaf 0) (wC (.int 0))) (wGN 1))
  (zaE (wAsg (wC (.str "(")) (wGN 2))
  (zaE (zmq (wIv (wSl (zaf 0) (woS (wC (.int 1))) woN)) (wGN 3) (zbw r (zat r)))
  (zaE (zda (wTb (wOp (oEq false) (zaf 2) (wC (.str ",")))) (wAsg (wOp zco (zaf 1) (wC (.str ")"))) (wGN 1)) zaZ)
  (zby (zaf 1)))))))
noncomputable def zbO (r:Nat):WS:=(zby (zea (wOp (oEq false) (zaC (zcb r) (zab (zaC (zbC r) (zab (wOp oIx (zaf 8) (wC (.int 0))) waNil)) waNil)) (wOp oIx (zaf 8) (wC (.int 0)))) (wOp (oEq false) (zaC (zbi r) (zab (zaf 10) waNil)) (zaf 9))))
noncomputable def zbN (r:Nat) (T:WS):WS:=(zaE (zda (zhl (zdD (zaC (zax r) (zab (zaf 10) (zab (zgv (zab (wOp oIx (zaf 2) (wC (.int 1))) (zab (zaf 6) (zab (zaf 7) waNil)))) waNil))))) (zby (wC (.bl false))) zaZ) T)
noncomputable def zbK (r:Nat) (T:WS):WS:=(zaE (wAsg (zaC (zaW r) (zab (zaf 9) waNil)) (wGN 10)) T)
noncomputable def zbL (r:Nat) (T:WS):WS:=(zaE (wAsg (wOp zco (wOp zco (wOp zco (wOp zco (wOp oIx (zaf 2) (wC (.int 1))) (wC (.str ": "))) (wOp oIx (zaf 8) (wC (.int 1)))) (wC (.str " > "))) (wOp oIx (zaf 8) (wC (.int 2)))) (wGN 9)) T)
noncomputable def zci (r:Nat) (T:WS):WS:=(zaE (zda (wOr (zhl (zdD (zaC (zax r) (zab (zaC (zbC r) (zab (wOp oIx (zaf 8) (wC (.int 0))) waNil)) (zab (zaf 4) waNil))))) (zhl (zdD (zaC (zax r) (zab (zaC (zbb r) (zab (wOp oIx (zaf 8) (wC (.int 1))) waNil)) (zab (zaf 6) waNil)))))) (zby (wC (.bl false))) zaZ) T)
noncomputable def zcl (r:Nat) (T:WS):WS:=(zaE (wAsg (zfJ (zgt (zab (zaC (zat r) (zab (zaf 4) waNil)) (zab (zaC (zat r) (zab (zaf 6) waNil)) (zab (zaC (zat r) (zab (zaf 7) waNil)) waNil))))) (wGN 8)) T)
noncomputable def zca (r:Nat) (T:WS):WS:=(zaE (wAsg (zaC (zaR r) (zab (wSl (zaf 0) (woS (zaf 3)) (woS (wOp zco (zaf 3) (wC (.int 3))))) (zab (zaf 1) (zab (zfJ (zgt (zab (wC (.int 1)) (zab (zgv (zab (wOp oIx (zaf 1) (wC (.int 1))) waNil)) waNil)))) waNil)))) (wGN 7)) T)
noncomputable def zck (r:Nat) (T:WS):WS:=(zaE (wAsg (zaC (zaR r) (zab (wSl (zaf 0) (woS (zaf 3)) (woS (wC (.int 40)))) (zab (zaf 1) (zab (zaf 5) waNil)))) (wGN 6)) T)
noncomputable def zcj (r:Nat) (T:WS):WS:=(zaE (wAsg (zfJ (zgt (zab (zgv (zab (wOp oIx (zaf 1) (wC (.int 0))) waNil)) (zab (wC (.int 0)) (zab (zgv (zab (wOp oIx (zaf 1) (wC (.int 3))) waNil)) (zab (wOp (zcn (fun _ j=>0<j) fun i j=> .int (i % j)) (zaC (zba r) (zab (zaf 0) (zab (wC (.int 3)) waNil))) (wC (.int 100))) (zab (wC (.int 2)) waNil))))))) (wGN 5)) T)
noncomputable def zch (r:Nat) (T:WS):WS:=(zaE (wAsg (zaC (zaR r) (zab (wSl (zaf 0) (woS (wC (.int 4))) (woS (zaf 3))) (zab (wOp zco (zaf 1) (zaf 2)) (zab (zfJ (zgt (zab (zgv (zab (wOp oIx (zaf 1) (wC (.int 0))) waNil)) (zab (zgv (zab (wOp oIx (zaf 2) (wC (.int 0))) waNil)) (zab (zgv (zab (wOp oIx (zaf 1) (wC (.int 2))) waNil)) waNil))))) waNil)))) (wGN 4)) T)
noncomputable def zbZ (r:Nat) (T:WS):WS:=(zaE (wAsg (wOp zco (wC (.int 4)) (wOp (zcn zlS fun i j=> .int (i / j)) (wB zdC (zab (wSl (zaf 0) (woS (wC (.int 4))) (woS (wC (.int 40)))) waNil)) (wC (.int 2)))) (wGN 3)) T)
noncomputable def zcd (r:Nat) (T:WS):WS:=(zaE (wAsg (zaC (zbj r) (zab (zaf 0) (zab (wC (.int 2)) (zab (wC (.int 2)) waNil)))) (wGN 2)) T)
noncomputable def zcf (r:Nat) (T:WS):WS:=(zaE (wAsg (zaC (zbf r) (zab (zaf 0) (zab (wC (.int 0)) (zab (wC (.int 4)) waNil)))) (wGN 1)) T)
noncomputable def zbV:Nat→WSp
 |0=>zbs
 |r+1=>zcV 11 1 (zcf r (zcd r (zbZ r (zch r (zcj r (zck r (zca r (zcl r (zci r (zbL r (zbK r (zbN r (zbO r)))))))))))))
theorem zll{r:Nat}{t:Tr}{S:Sto}{Q:WK}{E:Str→Sto→Prop}(h:Q (.tup (zaQ t.kids)) S):zbW (r+1) [enc t] S Q E:=by
 rw [zbW];cases t with
 |bl n=>
  simp only[enc];walk_at "wp";exact⟨Nat.zero_le _,S, .refl,h⟩
 |nd s ts=>
  simp only[enc];walk_at "wp";exact⟨S, .refl,h⟩
theorem zgU{ns:List Int}{k:Int}{r:Nat}{S:Sto}{Q:WK}{E:Str→Sto→Prop}(h0:0≤k) (h1:k≤100000) (h:∀n:Int,0≤n→n<10 ^ 60→Q (.int n) S):zba (r+1) [.scr ns, .int k] S Q E:=by
 rw [zba];walk_at "wp";have e60:(10:Int) ^ Int.toNat 60=10 ^ 60:=rfl;by_cases hn:ns.length=0
 ·rw [if_pos (by simp [hn])];exact⟨S, .refl,h 0 (by decide) (by decide)⟩
 ·rw [if_neg (by simpa using hn)];have hm0:0≤k % (ns.length:Int):=Int.emod_nonneg _ (by omega);have hm1:k % (ns.length:Int)<(ns.length:Int):=Int.emod_lt_of_pos _ (by omega);have q:=zcC (xs:=ns) (n:=(k % (ns.length:Int)).toNat);rw [Int.toNat_of_nonneg hm0,List.getElem?_eq_getElem (by omega)]at q;rw [q];generalize ns[(k % (ns.length:Int)).toNat]'(by omega)=n;have v0:0≤n % (10:Int) ^ 60:=Int.emod_nonneg _ (by decide);have v1:n % (10:Int) ^ 60<10 ^ 60:=Int.emod_lt_of_pos _ (by decide);refine⟨by omega,⟨by decide,by decide,by decide⟩,by decide,?_⟩
  rw [e60];split
  ·exact⟨S, .refl,h _ v0 v1⟩
  ·have m0:0≤(n % (10:Int) ^ 60+7919*k*k+1) % 2147483647:=Int.emod_nonneg _ (by decide);have m1:(n % (10:Int) ^ 60+7919*k*k+1) % 2147483647<2147483647:=Int.emod_lt_of_pos _ (by decide);refine⟨.inl ⟨by decide,by decide⟩, .inr ⟨by omega,by omega⟩,by decide, .inl ⟨Int.lt_of_lt_of_le (by decide) m0,Int.lt_trans m1 (by decide)⟩,by decide,S, .refl,h _ (Int.emod_nonneg _ (by decide)) ?_⟩
   exact Int.lt_of_lt_of_le (Int.emod_lt_of_pos _ (by decide)) (by decide)
noncomputable def Low (c:Nat):Prop:=97≤c∧c≤122
noncomputable def zcH (x:Str):Prop:=1≤x.cps.toList.length∧x.cps.toList.length≤8∧ ∀c∈x.cps.toList,Low c
noncomputable def zbY (x:Str):Prop:=∃c r,x.cps.toList=c::r∧65≤c∧c≤90∧r.length≤7∧ ∀d∈r,Low d
theorem zmR:(Str.ofString "abcdefghijklmnopqrstuvwxyz").cps.toList=List.range' 97 26:=by decide +kernel
theorem znE:(Str.ofString "ABCDEFGHIJKLMNOPQRSTUVWXYZ").cps.toList=List.range' 65 26:=by decide +kernel
theorem zmh:(Str.ofString "abcdefghijklmnopqrstuvwxyz").length=26:=by decide +kernel
theorem znY:(Str.ofString "ABCDEFGHIJKLMNOPQRSTUVWXYZ").length=26:=by decide +kernel
theorem zpV{n:Int}(h0:0≤n) (h1:n<26):∃c,atI (Str.ofString "abcdefghijklmnopqrstuvwxyz").cps.toList n=some c∧Low c:=by
 refine⟨97+n.toNat,?_,by constructor<;>omega⟩
 have e:=zhb (xs:=(Str.ofString "abcdefghijklmnopqrstuvwxyz").cps.toList) (j:=n.toNat) (v:=97+n.toNat) (by
  rw [zmR,List.getElem?_range' (by omega)];simp)
 rw [Int.toNat_of_nonneg h0]at e;exact e
theorem zrB{n:Nat}(h1:n<26):atI (Str.ofString "ABCDEFGHIJKLMNOPQRSTUVWXYZ").cps.toList (n:Int)=some (65+n):=
 zhb (by
  rw [znE,List.getElem?_range' (by omega)];simp)
theorem zos{c:Nat}(h:Low c):Builtin.Str.occurrences (Str.ofString "abcdefghijklmnopqrstuvwxyz") ⟨#[c]⟩ 0 (Str.ofString "abcdefghijklmnopqrstuvwxyz").length 1=[c - 97]:=by
 have all:((List.range 26).all fun i=>decide (Builtin.Str.occurrences (Str.ofString "abcdefghijklmnopqrstuvwxyz") ⟨#[97+i]⟩ 0 (Str.ofString "abcdefghijklmnopqrstuvwxyz").length 1=[i]))=true:=by decide +kernel
 have q:=of_decide_eq_true (List.all_eq_true.mp all (c - 97) (List.mem_range.mpr (by have:=h.1;have:=h.2;omega)));have e:97+(c - 97)=c:=by have:=h.1;omega
 rw [e]at q;exact q
theorem zfp:∀cs:List Nat,(Str.join (Str.ofString "") (cs.map fun c=>(⟨#[c]⟩:Str))).cps.toList=cs
 | []=>rfl
 | [c]=>rfl
 |c::d::r=>by
  have ih:=zfp (d::r);show((⟨#[c]⟩:Str)++Str.ofString "" ++Str.join (Str.ofString "") ((d::r).map fun c=>(⟨#[c]⟩:Str))).cps.toList=_;show(#[c]++(Str.ofString "").cps++(Str.join (Str.ofString "") ((d::r).map fun c=>(⟨#[c]⟩:Str))).cps).toList=_;rw [Array.toList_append,Array.toList_append,ih];rfl
theorem zlC (cs:List Nat):((cs.map fun c=>(⟨#[c]⟩:Str)).map (·.length)).sum=cs.length:=by
 induction cs with
 |nil=>rfl
 |cons c r ih=>
  rw [List.map_cons,List.map_cons,List.sum_cons,ih,List.length_cons];show 1+r.length=r.length+1;omega
theorem zfQ{cs:List Nat}(h1:1≤cs.length) (h2:cs.length≤8) (h:∀c∈cs,Low c):zcH (Str.join (Str.ofString "") (cs.map fun c=>(⟨#[c]⟩:Str))):=by
 unfold zcH;rw [zfp];exact⟨h1,h2,h⟩
theorem zfE:∀(ws:List W) {rs:List Int}{sp:Int}{a:Addr}{r:Nat}{S:Sto}{E:WX}{D:WEnds}{x0 x1 x2 x3 x4 x7 x8 x9 x10 x11:Option W},S a=some (.lst (rs.map W.int))→rs.length+ws.length≤1000→(∀v∈rs,0≤v∧v<26)→0≤sp→
  (∀(rs':List Int) sp' x7',rs'.length=rs.length+ws.length→(∀v∈rs',0≤v∧v<26)→D.nx [x0,x1,x2,x3,x4,some (.int sp'),some (.ref a),x7',x8,x9,x10,x11] (put S a (.lst (rs'.map W.int))))→
  zgl (wGN 7) (zbP r zbs) E D (fun _=>True) ws [x0,x1,x2,x3,x4,some (.int sp),some (.ref a),x7,x8,x9,x10,x11] S
 | [],rs,sp,a,r,S,E,D,x0,x1,x2,x3,x4,x7,x8,x9,x10,x11,ha,hl,hv,hs,h=>by
  simp only[zgl];have:=h rs sp x7 (by simp) hv;rw [zfM ha]at this;exact this
 |w::ws,rs,sp,a,r,S,E,D,x0,x1,x2,x3,x4,x7,x8,x9,x10,x11,ha,hl,hv,hs,h=>by
  simp only[zgl,zbP];walk_at "wp";simp only[List.length_cons]at hl h;simp only[zas ha,true_and];have m0:0≤sp % 26:=Int.emod_nonneg _ (by decide);have m1:sp % 26<26:=Int.emod_lt_of_pos _ (by decide);have d0:0≤sp / 26:=Int.ediv_nonneg hs (by decide);refine⟨by decide,zdl (by simp;omega),⟨by decide,by decide⟩,_, .refl,?_⟩
  refine zfE (r:=r) ws (rs:=rs++[sp % 26]) (by rw [zag];simp) (by simp;omega) (fun v hm=>?_) d0 fun rs' sp' x7' h1 h2=>?_
  ·rcases List.mem_append.mp hm with z |z
   ·exact hv v z
   ·have:v=sp % 26:=by simpa using z
    omega
  ·rw [zbQ];exact h rs' sp' x7' (by simp at h1;omega) h2
theorem zcT:∀cs:List Nat,zcJ (cs.map fun c=>W.str ⟨#[c]⟩)=some (cs.map fun c=>(⟨#[c]⟩:Str))
 | []=>rfl
 |c::cs=>by rw [List.map_cons,zcJ,zcT cs];rfl
theorem zhi{P:W→W→Prop}(hP:∀w y,P w y→ ∃c,y=W.str ⟨#[c]⟩∧Low c):∀{ws ys:List W},Paired P ws ys→ ∃cs:List Nat,cs.length=ws.length∧(∀c∈cs,Low c)∧ys=cs.map fun c=>W.str ⟨#[c]⟩
 |_,_, .nil=>⟨[],rfl,(fun _ h=>nomatch h),rfl⟩
 |_,_, .cons h t=>by
  obtain⟨c,rfl,hc⟩:=hP _ _ h;obtain⟨cs,h1,h2,rfl⟩:=zhi hP t;exact⟨c::cs,by simp [h1],fun d hd=>(List.mem_cons.mp hd).elim (fun e=>e▸hc) (h2 d),rfl⟩
theorem zgD{P:W→W→Prop}{G:Str→Prop}(hP:∀w y,P w y→ ∃x,y=W.str x∧G x):∀{ws ys:List W},Paired P ws ys→ ∃xs:List Str,xs.length=ws.length∧(∀x∈xs,G x)∧ys=xs.map W.str
 |_,_, .nil=>⟨[],rfl,(fun _ h=>nomatch h),rfl⟩
 |_,_, .cons h t=>by
  obtain⟨x,rfl,hx⟩:=hP _ _ h;obtain⟨xs,h1,h2,rfl⟩:=zgD hP t;exact⟨x::xs,by simp [h1],fun d hd=>(List.mem_cons.mp hd).elim (fun e=>e▸hx) (h2 d),rfl⟩
theorem zgp (cs:List Nat) (h:cs.length≤1000):(List.map (fun x=>x.length) (cs.map fun c=>(⟨#[c]⟩:Str))).sum+(cs.map fun c=>(⟨#[c]⟩:Str)).length*(Str.ofString "").length≤16777216:=by
 have e:=zlC cs;have z:(Str.ofString "").length=0:=by decide +kernel
 rw [e,z];omega
theorem zfc{lo:Int}{n:Nat}{w:W}(h:w∈zlM lo n):∃i:Nat,i<n∧w= .int (lo+i):=by
 unfold zlM at h;obtain⟨i,hi,rfl⟩:=List.mem_map.mp h;exact⟨i,List.mem_range.mp hi,rfl⟩
theorem zcA{lo:Int}{n:Nat}:(zlM lo n).length=n:=by simp [zlM]
theorem zhS{ns:List Int}{k:Int}{many:Nat}{r:Nat}{S:Sto}{Q:WK}{E:Str→Sto→Prop}(h0:0≤k) (h1:k≤1000) (hm:many≤8) (h:∀(a:Addr) (ws:List Str),S a=none→ws.length=many→(∀x∈ws,zcH x)→Q (.ref a) (put S a (.lst (ws.map W.str)))):zbf (r+2) [.scr ns, .int k, .int many] S Q E:=by
 rw [zbf];walk_at "wp";refine zgU h0 (by omega) fun first f0 f1=>zgU (by omega) (by omega) fun sp p0 p1=>?_;walk_at "wp";have sp0:0≤sp*982451653 % (26:Int) ^ Int.toNat 8:=Int.emod_nonneg _ (by decide);refine⟨.inr ⟨by decide,by decide⟩,⟨by decide,by decide,by decide⟩,by decide,Nat.zero_le _,fun a ha=>⟨⟨by decide,by decide⟩,?_⟩⟩
 refine zfE _ (rs:=[]) zag (by decide) (fun _ h=>nomatch h) sp0 fun rs sp' x7 hl hv=>?_;have hl8:rs.length=8:=by simpa [zcA]using hl
 rw [zbQ];walk_at "wp";refine⟨by decide,?_⟩;split
 ·refine⟨⟨by omega,by omega⟩,?_⟩
  rw [Int.toNat_natCast];refine zcy (fun σ=>∃x,σ=[x,some (.str (Str.ofString "abcdefghijklmnopqrstuvwxyz")),some (.ref a)]) (fun w y=>∃x,y=W.str x∧zcH x) trivial _ [] _ ⟨none,rfl⟩ (by simp [zcA];omega) (fun w hw σ R ⟨x,hσ⟩ hR=>?_) fun ys hp=>?_
  ·obtain⟨i,hi,rfl⟩:=zfc hw;subst hσ;simp only[zcQ];walk_at "wp";intro p hp';obtain⟨hp1,hp2⟩:=zcg hp';have e1:zbq (List.map W.int rs) none (some (0+(i:Int)+1))=(rs.take (i+1)).map W.int:=by
    rw [show(0+(i:Int)+1)=((i+1:Nat):Int) by omega,zkA,List.map_take]
   rw [e1];refine zcy (fun σ=>∃x,σ=[x,some (.str (Str.ofString "abcdefghijklmnopqrstuvwxyz"))]) (fun w y=>∃c,y=W.str ⟨#[c]⟩∧Low c) zag _ [] _ ⟨none,rfl⟩ (by simp;omega) (fun w hw σ R ⟨x,hσ⟩ hR=>?_) fun ys hp=>?_
   ·subst hσ;obtain⟨v,hv',rfl⟩:=List.mem_map.mp hw;obtain⟨v0,v1⟩:=hv v (List.mem_of_mem_take hv');obtain⟨c,ec,lc⟩:=zpV v0 v1;simp only[zcP];walk_at "wp";rw [ec];exact⟨zah (by rw [zmh];decide),hR _ _ _ ⟨_,rfl⟩ ⟨c,rfl,lc⟩ .refl⟩
   ·obtain⟨cs,c1,c2,rfl⟩:=zhi (fun w y h=>h) hp;have c3:cs.length=i+1:=by simp at c1;omega
    rw [List.nil_append,zcT];refine⟨zgp cs (by omega),hR _ _ _ ⟨_,rfl⟩ ⟨_,rfl,zfQ (by omega) (by omega) c2⟩ (.put .refl hp')⟩
  ·obtain⟨xs,x1,x2,rfl⟩:=zgD (fun w y h=>h) hp;rw [List.nil_append];intro b hb;obtain⟨hb1,hb2⟩:=zcg hb;exact⟨_, .put2 (.put .refl ha),h b xs hb1 (by simpa [zcA]using x1) x2⟩
 ·have hs0:0≤first / 3 % 8:=Int.emod_nonneg _ (by decide);have hs1:first / 3 % 8<8:=Int.emod_lt_of_pos _ (by decide);refine⟨⟨by decide,by decide⟩,by decide,⟨by decide,by decide⟩,by omega,Nat.zero_le _,fun b hb=>⟨⟨by omega,by omega⟩,?_⟩⟩
  obtain⟨hb1,hb2⟩:=zcg hb;rw [Int.toNat_natCast];refine zha (fun ws σ S'=>∃(xs:List Str) (x11:Option W),(∀x∈xs,zcH x)∧xs.length+ws.length=many∧(∀w∈ws,∃i:Nat,i<many∧w= .int (0+i))∧S'=put (put S a (.lst (rs.map W.int))) b (.lst (xs.map W.str))∧
   σ=[some (.scr ns),some (.int k),some (.int many),some (.str (Str.ofString "abcdefghijklmnopqrstuvwxyz")),some (.int first),some (.int sp'),some (.ref a),x7,some (.int (1+first / 3 % 8)),some (.int (first / 24 % (1+first / 3 % 8))),some (.ref b),x11]) ?_ ?_ _ _ _
   ⟨[],none,(fun _ h=>nomatch h),by simp [zcA],fun w hw=>zfc hw,rfl,rfl⟩
  ·rintro w ws σ S' N ⟨xs,x11,hx,hlen,hws,rfl,rfl⟩ hN;obtain⟨j,hj,rfl⟩:=hws w List.mem_cons_self;simp only[zcL];walk_at "wp";refine⟨⟨by omega,by omega⟩,?_⟩
   have ea:put (put S a (Ob.lst (List.map W.int rs))) b (Ob.lst (List.map W.str xs)) a=some (.lst (rs.map W.int)):=by rw [zaU (Ne.symm hb2),zag]
   refine zcy (fun σ=>∃x,σ=[x,some (.str (Str.ofString "abcdefghijklmnopqrstuvwxyz")),some (.ref a),some (.int (0+(j:Int))),some (.int (first / 24 % (1+first / 3 % 8)))]) (fun w y=>∃c,y=W.str ⟨#[c]⟩∧Low c) trivial _ [] _ ⟨none,rfl⟩ (by simp [zcA];omega) (fun w hw σ R ⟨x,hσ⟩ hR=>?_) fun ys hp=>?_
   ·obtain⟨i,hi,rfl⟩:=zfc hw;subst hσ;simp only[zcN];walk_at "wp";have e:=zcC (xs:=rs.map W.int) (n:=i);rw [show(i:Int)=0+(i:Int) by omega,List.getElem?_map,List.getElem?_eq_getElem (show i<rs.length by omega)]at e
    rw [zas ea,e];dsimp only[Option.map];walk_at "wp";obtain⟨c,ec,lc⟩:=zpV (n:=(rs[i]'(by omega)+(0+(j:Int))*(if(0+(i:Int) == first / 24 % (1+first / 3 % 8))=true then 1 else 0)) % 26) (Int.emod_nonneg _ (by decide)) (Int.emod_lt_of_pos _ (by decide));rw [ec];exact⟨.inl ⟨by omega,by omega⟩,by decide,zah (by rw [zmh];decide),hR _ _ _ ⟨_,rfl⟩ ⟨c,rfl,lc⟩ .refl⟩
   ·obtain⟨cs,c1,c2,rfl⟩:=zhi (fun w y h=>h) hp;rw [zcA]at c1;have c3:(cs.length:Int)=1+first / 3 % 8:=by rw [c1];omega
    rw [List.nil_append,zcT];have hz:=zfQ (cs:=cs) (by omega) (by omega) c2;refine⟨zgp cs (by omega),?_⟩;generalize Str.join (Str.ofString "") (cs.map fun c=>(⟨#[c]⟩:Str))=z at hz⊢;simp only[zhG,zbQ];simp only[List.length_cons]at hlen;have hxl:(List.map W.str xs).length<sizeLine:=zdl (by rw [List.length_map];omega);refine⟨hxl,hN _ _ _ .refl trivial ⟨xs++[z],some (.int (0+(j:Int))),fun x hx'=>?_,by rw [List.length_append,List.length_singleton];omega,fun w hw=>hws w (List.mem_cons_of_mem _ hw),by rw [List.map_append,List.map_cons,List.map_nil],rfl⟩⟩
    rcases List.mem_append.mp hx' with y |y
    ·exact hx x y
    ·rw [List.mem_singleton.mp y];exact hz
  ·rintro σ S' ⟨xs,x11,hx,hlen,hws,rfl,rfl⟩;walk_at "wp";exact⟨_, .put2 (.put .refl ha),h b xs hb1 (by simpa using hlen) hx⟩
theorem zlR{α:Type}{xs:List α}(n:Int) (h:xs≠ []):∃(i:Nat) (x:α),xs[i]? =some x∧atI xs (n % (xs.length:Int))=some x:=by
 have hp:0<xs.length:=List.length_pos_iff.mpr h;have h0:0≤n % (xs.length:Int):=Int.emod_nonneg _ (by omega);have h1:n % (xs.length:Int)<(xs.length:Int):=Int.emod_lt_of_pos _ (by omega);have hlt:(n % (xs.length:Int)).toNat<xs.length:=by omega
 refine⟨(n % (xs.length:Int)).toNat,xs[(n % (xs.length:Int)).toNat],List.getElem?_eq_getElem hlt,?_⟩;have e:=zhb (xs:=xs) (j:=(n % (xs.length:Int)).toNat) (v:=xs[(n % (xs.length:Int)).toNat]) (List.getElem?_eq_getElem hlt);rw [Int.toNat_of_nonneg h0]at e;exact e
theorem zkh{ns:List Int}{k:Int}{many:Nat}{r:Nat}{S:Sto}{Q:WK}{E:Str→Sto→Prop}(h0:0≤k) (h1:k≤1000) (hm:many≤8) (h:∀(a:Addr) (ws:List Str),S a=none→ws.length=many→(∀x∈ws,zbY x)→Q (.ref a) (put S a (.lst (ws.map W.str)))):zbj (r+3) [.scr ns, .int k, .int many] S Q E:=by
 rw [zbj];walk_at "wp";refine zhS h0 h1 hm fun a ws ha hl hw=>?_;walk_at "wp";refine zcy (fun σ=>∃x,σ=[x,some (.str (Str.ofString "ABCDEFGHIJKLMNOPQRSTUVWXYZ")),some (.str (Str.ofString "abcdefghijklmnopqrstuvwxyz"))]) (fun w y=>∃x,y=W.str x∧zbY x) zag _ [] _ ⟨none,rfl⟩ (by simp;omega) (fun w hw' σ R ⟨x,hσ⟩ hR=>?_) fun ys hp=>?_
 ·subst hσ;obtain⟨z,hz,rfl⟩:=List.mem_map.mp hw';obtain⟨l1,l2,w3⟩:=hw z hz;obtain⟨c0,rest,hc⟩:∃c0 rest,z.cps.toList=c0::rest:=by
   cases e:z.cps.toList with
   |nil=>rw [e]at l1;simp at l1
   |cons c0 rest=>exact⟨c0,rest,rfl⟩
  have hlow:Low c0:=w3 c0 (by rw [hc];exact List.mem_cons_self);have hwl:z.length=rest.length+1:=by
   have:z.length=z.cps.toList.length:=by simp [Str.length]
   rw [this,hc,List.length_cons]
  rw [hc,List.length_cons]at l2;have hsl:=Txt.slice_le z (some 1) none;simp only[zcs];walk_at "wp";rw [hc];walk_at "wp";rw [zos hlow];dsimp only;rw [zrB (by have:=hlow.2;omega)];dsimp only;refine⟨zah (by omega),zah (by rw [znY];decide),zah (by omega),?_,hR _ _ _ ⟨_,rfl⟩ ⟨_,rfl,65+(c0 - 97),rest,?_,by omega,by have:=hlow.2;omega,by omega,fun d hd=>w3 d (by rw [hc];exact List.mem_cons_of_mem _ hd)⟩ .refl⟩
  ·show 1+(Txt.slice z (some 1) none).length≤sizeLine;exact zah (by omega)
  ·show(#[65+(c0 - 97)]++(Txt.slice z (some 1) none).cps).toList=_;rw [Array.toList_append,zcr,hc];have ez:zmb (c0::rest) (some 1) none=rest:=zix;rw [ez];rfl
 ·obtain⟨xs,x1,x2,rfl⟩:=zgD (fun w y h=>h) hp;rw [List.nil_append];intro b hb;obtain⟨hb1,hb2⟩:=zcg hb;exact⟨_, .put2 (.put .refl ha),h b xs hb1 (by simpa [hl]using x1) x2⟩
inductive Made (hs:List Str) (ls:List Tr):Tr→Prop where
  |leaf {t:Tr}:t∈ls→Made hs ls t
  |node {h:Str}{ts:List Tr}:h∈hs→1≤ts.length→ts.length≤3→(∀t∈ts,Made hs ls t)→Made hs ls (.nd h ts)
noncomputable def zlW (ts:List Tr) (hs:List Str) (ls ts':List Tr):Prop:=
 (∃l∈ls,ts'=ts++[l])∨ ∃pre kids h,ts=pre++kids∧1≤kids.length∧kids.length≤3∧h∈hs∧ts'=pre++[.nd h kids]
theorem zlG (n:Int):∃m:Nat,m≤3∧atI [W.int 0,W.int 0,W.int 1,W.int 2,W.int 3] (n % 5)=some (W.int (m:Int)):=by
 have h0:0≤n % 5:=Int.emod_nonneg _ (by decide);have h1:n % 5<5:=Int.emod_lt_of_pos _ (by decide);have:n % 5=0∨n % 5=1∨n % 5=2∨n % 5=3∨n % 5=4:=by omega
 rcases this with e |e |e |e |e<;>rw [e]
 ·exact⟨0,by decide,rfl⟩
 ·exact⟨0,by decide,rfl⟩
 ·exact⟨1,by decide,rfl⟩
 ·exact⟨2,by decide,rfl⟩
 ·exact⟨3,by decide,rfl⟩
theorem zcc (ts us:List Tr):zaQ (ts++us)=zaQ ts++zaQ us:=by rw [zaw,zaw,zaw,List.map_append]
theorem zfL (ts:List Tr) (n:Nat):(zaQ ts).take n=zaQ (ts.take n):=by rw [zaw,zaw,List.map_take]
theorem ziY (ts:List Tr) (n:Nat):(zaQ ts).drop n=zaQ (ts.drop n):=by rw [zaw,zaw,List.map_drop]
theorem zkm{a b c:Addr}{ts ls:List Tr}{hs:List Str}{cell:Int}{r:Nat}{S:Sto}{Q:WK}{E:Str→Sto→Prop}(ha:S a=some (.lst (zaQ ts))) (hb:S b=some (.lst (hs.map W.str))) (hc:S c=some (.lst (zaQ ls))) (hh:hs≠ []) (hl:ls≠ []) (hn:ts.length≤100000)
  (h:∀p ts',S p=none→zlW ts hs ls ts'→Q (.ref p) (put S p (.lst (zaQ ts')))):zbl (r+1) [.ref a, .int cell, .ref b, .ref c] S Q E:=by
 rw [zbl];walk_at "wp";obtain⟨m,hm,e⟩:=zlG cell;rw [e];walk_at "wp";simp only[zas ha,zas hb,zas hc];obtain⟨i,l,el,al⟩:=zlR (xs:=zaQ ls) (cell / 5) (by rw [zaw];simpa using hl);obtain⟨t,et,rfl⟩:∃t,ls[i]? =some t∧l=enc t:=by
  rw [zaw,List.getElem?_map]at el;cases q:ls[i]? with
  |none=>rw [q]at el;cases el
  |some t=>rw [q]at el;exact⟨t,rfl,(Option.some.inj el).symm⟩
 obtain⟨j,hw,ej,ah⟩:=zlR (xs:=hs.map W.str) (cell / 5) (by simpa using hh);obtain⟨x,ex,rfl⟩:∃x,hs[j]? =some x∧hw= .str x:=by
  rw [List.getElem?_map]at ej;cases q:hs[j]? with
  |none=>rw [q]at ej;cases ej
  |some t=>rw [q]at ej;exact⟨t,rfl,(Option.some.inj ej).symm⟩
 have hl0:0<ls.length:=List.length_pos_iff.mpr hl;have hh0:0<hs.length:=List.length_pos_iff.mpr hh;simp only[al,ah];have leaf:0<((zaQ ls).length:Int)∧1≤sizeLine∧(zaQ ts).length+1≤sizeLine∧ ∀p,S p=none→ ∃S'',Sub S'' (put S p (.lst (zaQ ts++[enc t])))∧Q (.ref p) S'':=by
  rw [zay,zay];refine⟨by omega,zah (by decide),zah (by omega),fun p hp=>⟨_, .refl,?_⟩⟩;have:=h p (ts++[t]) hp (.inl ⟨t,List.mem_of_getElem? et,rfl⟩);rw [zcc]at this;exact this
 refine⟨zah (by decide),by decide,⟨by decide,by decide⟩,?_⟩
 split
 ·exact leaf
 ·rename_i hm0;split
  ·exact leaf
  ·rename_i hlt;have hm1:0<m:=by
    rcases Nat.eq_zero_or_pos m with z |z
    ·rw [z]at hm0;simp at hm0
    ·exact z
   rw [zay]at hlt;have hk:m≤ts.length:=by omega
   rw [zdN m hm1,zjZ m hm1,zay,zfL,ziY];simp only[zay,List.length_map];refine⟨by omega,zah (by decide),zah (by simp;omega),zah (by decide),zah (by simp;omega),fun p hp=>⟨_, .refl,?_⟩⟩;have:=h p (ts.take (ts.length - m)++[.nd x (ts.drop (ts.length - m))]) hp (.inr ⟨_,_,x,(List.take_append_drop _ _).symm,by simp;omega,by simp;omega,List.mem_of_getElem? ex,rfl⟩)
   rw [zcc]at this;exact this
theorem zgB{ts:List Tr}{hs:List Str}{ls ts':List Tr}(h:zlW ts hs ls ts') (hm:∀t∈ts,Made hs ls t) (hw:∀t∈ls,t.weight=1):(∀t∈ts',Made hs ls t)∧wts ts'=wts ts+1∧ts'.length≤ts.length+1:=by
 rcases h with⟨l,hl,rfl⟩ |⟨pre,kids,h,rfl,h1,h2,h3,rfl⟩
 ·refine⟨fun t ht=>?_,?_,by simp⟩
  ·rcases List.mem_append.mp ht with z |z
   ·exact hm t z
   ·rw [List.mem_singleton.mp z];exact .leaf hl
  ·rw [zbo,zaB,zbR,hw l hl]
 ·refine⟨fun t ht=>?_,?_,by simp only[List.length_append,List.length_cons,List.length_nil];omega⟩
  ·rcases List.mem_append.mp ht with z |z
   ·exact hm t (List.mem_append_left _ z)
   ·rw [List.mem_singleton.mp z];exact .node h3 h1 h2 fun u hu=>hm u (List.mem_append_right _ hu)
  ·rw [zbo,zbo,zaB,zbR,zbp];show wts pre+(1+wts kids+0)=_;omega
theorem zeY{cs b c:Addr}{ns:List Int}{ls:List Tr}{hs:List Str}{r:Nat}{S:Sto}{Q:WK}{E:Str→Sto→Prop}(hcs:S cs=some (.lst (ns.map W.int))) (hb:S b=some (.lst (hs.map W.str))) (hc:S c=some (.lst (zaQ ls))) (hh:hs≠ []) (hl:ls≠ []) (hw:∀t∈ls,t.weight=1) (hn:ns.length≤1000)
  (h:∀t,Made hs ls t→t.weight≤2*ns.length+1→Q (enc t) S):zaR (r+2) [.ref cs, .ref b, .ref c] S Q E:=by
 rw [zaR];walk_at "wp";refine⟨Nat.zero_le _,fun a ha=>?_⟩;simp only[zgL (zeQ hcs ha),zas hcs];refine zha (fun ws σ S'=>∃(a:Addr) (ts:List Tr) (ms:List Int) (x4:Option W),S a=none∧S'=put S a (.lst (zaQ ts))∧ws=ms.map W.int∧(∀t∈ts,Made hs ls t)∧wts ts+ms.length=ns.length∧ts.length+ms.length≤ns.length∧σ=[some (.ref cs),some (.ref b),some (.ref c),some (.ref a),x4]) ?_ ?_ _ _ _
  ⟨a,[],ns,none,ha,by simp [zaQ],rfl,(fun _ h=>nomatch h),by simp [zbR],by simp,rfl⟩
 ·rintro w ws σ S' N ⟨a,ts,ms,x4,ha,rfl,ew,hm,h1,h2,rfl⟩ hN;cases ms with
  |nil=>cases ew
  |cons n ms=>
   simp only[List.map_cons,List.cons.injEq]at ew;obtain⟨rfl,rfl⟩:=ew;simp only[zcK];walk_at "wp";simp only[List.length_cons]at h1 h2;refine⟨⟨by decide,by decide,by decide⟩,by decide,?_⟩
   refine zkm zag (by rw [zaU (zeQ hb ha)];exact hb) (by rw [zaU (zeQ hc ha)];exact hc) hh hl (by omega) fun p ts' hp hps=>?_;obtain⟨hp1,hp2⟩:=zcg hp;obtain⟨p1,p2,p3⟩:=zgB hps hm hw;exact hN _ _ _ (.put2 (.put .refl ha)) (by rw [zaU (zeQ hcs hp1)];exact hcs) ⟨p,ts',ms,_,hp1,rfl,rfl,p1,by omega,by omega,rfl⟩
 ·rintro σ S' ⟨a,ts,ms,x4,ha,rfl,ew,hm,h1,h2,rfl⟩;cases ms with
  |cons n ms=>cases ew
  |nil=>
   simp only[List.length_nil,Nat.add_zero]at h1 h2;walk_at "wp";rw [zay];have leaf0:∃t,ls[0]? =some t:=⟨ls[0]'(List.length_pos_iff.mpr hl),List.getElem?_eq_getElem _⟩;split
   ·obtain⟨t,et⟩:=leaf0;have e0:atI (zaQ ls) 0=some (enc t):=by
     have:=zcC (xs:=zaQ ls) (n:=0);rw [zaw,List.getElem?_map,et]at this;rw [zaw];exact this
    rw [zgL (zeQ hc ha),zas hc,e0];have ht:=List.mem_of_getElem? et;exact⟨S, .put .refl ha,h t (.leaf ht) (by rw [hw t ht];omega)⟩
   ·rename_i hts;have hpos:1≤ts.length:=by
     rcases Nat.eq_zero_or_pos ts.length with z |z
     ·rw [z]at hts;simp at hts
     ·exact z
    refine⟨fun m σ S'=>∃(a:Addr) (ts:List Tr),m=ts.length∧S a=none∧S'=put S a (.lst (zaQ ts))∧(∀t∈ts,Made hs ls t)∧1≤ts.length∧wts ts+ts.length≤2*ns.length+1∧ts.length≤ns.length∧σ=[some (.ref cs),some (.ref b),some (.ref c),some (.ref a),x4],⟨_,a,ts,rfl,ha,rfl,hm,hpos,by omega,by omega,rfl⟩,?_⟩
    rintro m σ S' ⟨a,ts,rfl,ha,rfl,hm,hpos,h1,h2,rfl⟩;walk_at "wp";rw [zay];obtain⟨x0,ex0⟩:∃x,hs[0]? =some x:=⟨hs[0]'(List.length_pos_iff.mpr hh),List.getElem?_eq_getElem _⟩;split
    ·rename_i hlt;have hl2:2≤ts.length:=by omega
     have q1:ts[ts.length - 2]? =some (ts[ts.length - 2]'(by omega)):=List.getElem?_eq_getElem _;have q2:ts[ts.length - 1]? =some (ts[ts.length - 1]'(by omega)):=List.getElem?_eq_getElem _;generalize ts[ts.length - 2]'(by omega)=u at q1;generalize ts[ts.length - 1]'(by omega)=v at q2;have dec:ts=ts.take (ts.length - 2)++[u,v]:=by
      apply List.ext_getElem?;intro i;by_cases hi:i<ts.length - 2
      ·rw [List.getElem?_append_left (by simp;omega),List.getElem?_take_of_lt hi]
      ·rw [List.getElem?_append_right (by simp;omega),List.length_take,Nat.min_eq_left (by omega)];by_cases h0:i=ts.length - 2
       ·subst h0;rw [q1];simp
       ·by_cases h1:i=ts.length - 1
        ·subst h1;rw [q2,show ts.length - 1 - (ts.length - 2)=1 by omega];rfl
        ·rw [List.getElem?_eq_none (by omega),List.getElem?_eq_none (by simp;omega)]
     have e2:atI (zaQ ts) (-2)=some (enc u):=by
      have:=zkn (xs:=zaQ ts) (k:=2) (by decide) (by rw [zay];omega);rw [zay,zaw,List.getElem?_map,q1]at this;rw [zaw];exact this
     have e1:atI (zaQ ts) (-1)=some (enc v):=by
      have:=zkn (xs:=zaQ ts) (k:=1) (by decide) (by rw [zay];omega);rw [zay,zaw,List.getElem?_map,q2]at this;rw [zaw];exact this
     have e0:atI (hs.map W.str) 0=some (.str x0):=by
      have:=zcC (xs:=hs.map W.str) (n:=0);rw [List.getElem?_map,ex0]at this;exact this
     have ec:zbq (zaQ ts) none (some (-2))=zaQ (ts.take (ts.length - 2)):=by
      have:=zdN (xs:=zaQ ts) 2 (by decide);rw [zay,zfL]at this;exact this
     simp only[zcO];walk_at "wp";simp only[zgL (zeQ hb ha),zas hb,e0,e1,e2,ec];have hw1:wts ts=wts (ts.take (ts.length - 2))+(u.weight+(v.weight+0)):=by
      conv=>lhs;rw [dec]
      rw [zbo,zaB,zaB,zbR]
     refine⟨zah (by decide),zah (by decide),zah (by rw [zay];simp;omega),fun p hp=>?_⟩;obtain⟨hp1,hp2⟩:=zcg hp;refine⟨_,put S p (.lst (zaQ (ts.take (ts.length - 2)++[.nd x0 [u,v]]))),?_,?_,p,_,rfl,hp1,rfl,fun t ht=>?_,by simp,?_,by simp;omega,rfl⟩
     ·simp;omega
     ·rw [zcc];exact .put2 (.put .refl ha)
     ·rcases List.mem_append.mp ht with z |z
      ·exact hm t (List.mem_of_mem_take z)
      ·rw [List.mem_singleton.mp z];refine .node (List.mem_of_getElem? ex0) (by simp) (by simp) fun w hw'=>?_;rcases List.mem_cons.mp hw' with rfl |z
       ·exact hm _ (List.mem_of_getElem? q1)
       ·rw [List.mem_singleton.mp z];exact hm _ (List.mem_of_getElem? q2)
     ·rw [zbo,zaB,zbR,zbp];show wts (ts.take (ts.length - 2))+(1+wts [u,v]+0)+_≤_;rw [zaB,zaB,zbR];simp;omega
    ·rename_i hlt;have hl1:ts.length=1:=by omega
     obtain⟨t,rfl⟩:=List.length_eq_one_iff.mp hl1;simp only[zaQ,zbI];rw [zaB,zbR]at h1;simp at h1;exact⟨S, .put .refl ha,h t (hm t List.mem_cons_self) (by omega)⟩
mutual
inductive Alk (S:Sto):Nat→W→W→Prop
 |str (n:Nat) (x:Str):Alk S (n+1) (.str x) (.str x)
 |int (n:Nat) (i:Int):Alk S (n+1) (.int i) (.int i)
 |tup {n:Nat}{xs ys:List W}:xs.length≤100000→Alks S n xs ys→Alk S (n+1) (.tup xs) (.tup ys)
 |lst {n:Nat}{a b:Addr}{xs ys:List W}:S a=some (.lst xs)→S b=some (.lst ys)→xs.length≤100000→Alks S n xs ys→Alk S (n+1) (.ref a) (.ref b)
inductive Alks (S:Sto):Nat→List W→List W→Prop
 |nil (n:Nat):Alks S n [] []
 |cons {n:Nat}{x y:W}{xs ys:List W}:Alk S n x y→Alks S n xs ys→Alks S n (x::xs) (y::ys)
end
theorem Alks.len{S:Sto}{n:Nat}:∀{xs ys:List W},Alks S n xs ys→xs.length=ys.length
 |_,_, .nil _=>rfl
 |_,_, .cons _ h=>congrArg (· +1) (Alks.len h)
theorem zhW (n:Nat):zeo (List.replicate n (W.bl true))=some (List.replicate n true):=by
 induction n with
 |zero=>rfl
 |succ n ih=>rw [List.replicate_succ,List.replicate_succ,zeo,ih];rfl
theorem zhC (n:Nat):(List.replicate n true).all id=true:=by simp
theorem zeJ{S:Sto}{n r:Nat}{E:WX}{G:Sto→Prop}{Q:List W→Sto→Prop}(hG:G S) (one:∀{x y:W}{Q:WK}{E:Str→Sto→Prop},Alk S n x y→Q (.bl true) S→zax r [x,y] S Q E) :
  ∀{xs ys acc:List W}{p q:Option W},Alks S n xs ys→acc.length+xs.length≤1000000→Q (acc++List.replicate xs.length (.bl true)) S→zcZ (wGT (zdv (wGN 0) (zdv (wGN 1) zhY))) zgO (zbT r (zax r)) E G Q (zcG xs ys) acc [p,q] S
 |_,_,acc,p,q, .nil _,hl,h=>by
  simp only[zcG,zcZ];simpa using h
 |_,_,acc,p,q, .cons a as,hl,h=>by
  simp only[zcG,zcZ,zbT];walk_at "wp";simp only[List.length_cons]at hl h;refine one a ⟨zdl (by omega),S, .refl,hG,zeJ hG one as (by simp;omega) ?_⟩;rw [List.append_assoc];exact h
theorem zdJ{S:Sto}:∀{n r:Nat}{x y:W}{Q:WK}{E:Str→Sto→Prop},n≤r+1→Alk S n x y→Q (.bl true) S→zax (r+1) [x,y] S Q E
 |0,r,x,y,Q,E,hr,h,q=>by cases h
 |n+1,r,x,y,Q,E,hr,h,q=>by
  have one:∀{x y:W}{Q:WK}{E:Str→Sto→Prop},Alk S n x y→Q (.bl true) S→zax r [x,y] S Q E:=fun {x y Q E} a q=>by
   cases r with
   |zero=>
    have:n=0:=by omega
    subst this;cases a
   |succ r=>exact zdJ (by omega) a q
  rw [zax];cases h with
  |str _ x=>
   walk_at "wp";simp;exact⟨S, .refl,q⟩
  |int _ i=>
   walk_at "wp";simp;exact⟨S, .refl,q⟩
  |tup hz as=>
   walk_at "wp";rw [as.len,beq_self_eq_true];refine zeJ (G:=fun _=>True) trivial one as (by simp only[List.length_nil];omega) ?_;rw [List.nil_append,zhW];dsimp only;rw [zhC];exact⟨S, .refl,q⟩
  |lst ha hb hz as=>
   walk_at "wp";simp only[zas ha,zas hb,as.len,beq_self_eq_true];walk_at "wp";refine zeJ (G:=fun S'=>S' _=some (.lst _)∧S' _=some (.lst _)) ⟨ha,hb⟩ one as (by simp only[List.length_nil];omega) ?_;rw [List.nil_append,zhW];dsimp only;rw [zhC];exact⟨S, .refl,q⟩
mutual
theorem zfs{S:Sto}:∀(t:Tr) (n:Nat),t.depth<n→t.weight≤90000→Alk S n (enc t) (enc t)
 | .bl k,n,h,hw=>by
  obtain⟨n,rfl⟩:∃m,n=m+1:=⟨n - 1,by omega⟩
  simp only[enc];exact .int n k
 | .nd s ts,n,h,hw=>by
  simp only[Tr.depth]at h;simp only[Tr.weight]at hw;obtain⟨n,rfl⟩:∃m,n=m+2:=⟨n - 2,by omega⟩
  simp only[enc];have:=zdk ts;exact .tup (by simp [zay];omega) (.cons (.str n s) (zkg ts (n+1) (by omega) (by omega)))
theorem zkg{S:Sto}:∀(ts:List Tr) (n:Nat),dts ts<n→wts ts≤90000→Alks S n (zaQ ts) (zaQ ts)
 | [],n,h,hw=>by
  simp only[zaQ];exact .nil n
 |t::ts,n,h,hw=>by
  simp only[dts]at h;simp only[wts]at hw;simp only[zaQ];exact .cons (zfs t n (by omega) (by omega)) (zkg ts n (by omega) (by omega))
end
theorem keep{S:Sto}{a p:Addr}{o x:Ob}(f:S a=some o) (h:S p=none):put S p x a=some o:=by rw [zaU (zeQ f h)];exact f
theorem zgQ{u:Tr}:∀{ts:List Tr},u∈ts→u.depth≤dts ts
 |t::ts,h=>by
  rcases List.mem_cons.mp h with rfl |h
  ·simp [dts];omega
  ·have:=zgQ h;simp [dts];omega
theorem zmK{α:Type}{xs:List α}:atI xs 2=xs[2]? :=zcC (n:=2)
theorem zdd{α:Type}{g:WG}{e:WE}{E:WX}{G:Sto→Prop}{Q:List W→Sto→Prop}{S:Sto}(I:WSt→Prop) (k f:α→W) (hG:G S):∀(xs:List α) (acc:List W) (σ:WSt),I σ→acc.length+xs.length≤1000000→
  (∀x∈xs,∀σ (R:WSt→W→Sto→Prop),I σ→(∀σ1 S3,I σ1→Sub S S3→R σ1 (f x) S3)→g (k x) σ S fun σ1 S1=>e E σ1 S1 fun y S3=>R σ1 y S3)→
  Q (acc++xs.map f) S→zcZ g zgO e E G Q (xs.map k) acc σ S
 | [],acc,σ,hI,hl,step,hQ=>by simpa [zcZ]using hQ
 |x::xs,acc,σ,hI,hl,step,hQ=>by
  simp only[List.map_cons,zcZ,zgO,if_true];simp only[List.length_cons]at hl;refine step x List.mem_cons_self σ _ hI fun σ1 S3 hI1 sb=>⟨zdl (by omega),S,sb,hG,zdd I k f hG xs (acc++[f x]) σ1 hI1 (by simp;omega) (fun y hy=>step y (List.mem_cons_of_mem _ hy)) ?_⟩;simpa using hQ
theorem zhO{g:WG}{b:WS}{E:WX}{D:WEnds}{G:Sto→Prop}{w:W}{ws:List W}{σ:WSt}{S:Sto}(h:∀N:WSt→Sto→Prop,(∀σ S S',Sub S' S→G S'→zgl g b E D G ws σ S'→N σ S)→g w σ S fun σ1 S1=>b E { D with nx:=N,ct:=N,bk:=D.nx } σ1 S1):zgl g b E D G (w::ws) σ S:=h _ fun σ S S' a c d=>⟨S',a,c,d⟩
mutual
noncomputable def Tr.txt:Tr→Str
 | .bl n=>Str.ofString "?" ++Str.ofString (toString n)
 | .nd s ts=>if ts.isEmpty then s else s++txts (Str.ofString "(") ts++Str.ofString ")"
noncomputable def txts (m:Str):List Tr→Str
 | []=>Str.empty
 |t::ts=>m++t.txt++txts (Str.ofString ",") ts
end
inductive Plain:Tr→Prop
 |bl {n:Int}:0≤n→n<10 ^ 60→Plain (.bl n)
 |nd {s:Str}{ts:List Tr}:s.length≤8→(∀t∈ts,Plain t)→Plain (.nd s ts)
theorem zfG{n:Int}:(Tr.bl n).txt=Str.ofString "?" ++Str.ofString (toString n):=by unfold Tr.txt;rfl
theorem zdt{s:Str}:(Tr.nd s []).txt=s:=by unfold Tr.txt;rfl
theorem zbA{m:Str}:txts m []=Str.empty:=by unfold txts;rfl
theorem zaM{m:Str}{t:Tr}{ts:List Tr}:txts m (t::ts)=m++t.txt++txts (Str.ofString ",") ts:=by conv=>lhs;unfold txts
theorem zer{s:Str}{ts:List Tr}(h:ts≠ []):(Tr.nd s ts).txt=s++txts (Str.ofString "(") ts++Str.ofString ")" :=by
 conv=>lhs;unfold Tr.txt
 cases ts with
 |nil=>exact absurd rfl h
 |cons t ts=>rfl
theorem zfT:∀(ts:List Tr) {m:Str},ts≠ []→txts m ts=m++Str.join (Str.ofString ",") (ts.map Tr.txt)
 | [],m,h=>absurd rfl h
 | [t],m,_=>by
  rw [zaM,zbA,Str.append_empty];rfl
 |t::u::ts,m,_=>by
  rw [zaM,zfT (u::ts) (List.cons_ne_nil _ _)];show _=m++(t.txt++Str.ofString "," ++Str.join (Str.ofString ",") ((u::ts).map Tr.txt));simp only[Str.append_assoc]
theorem sl1:(Str.ofString "?").length=1:=by decide +kernel
theorem sl2:(Str.ofString "(").length=1:=by decide +kernel
theorem sl3:(Str.ofString ",").length=1:=by decide +kernel
theorem sl4:(Str.ofString ")").length=1:=by decide +kernel
theorem sl5:(Str.ofString ": ").length=2:=by decide +kernel
theorem sl6:(Str.ofString " > ").length=3:=by decide +kernel
theorem sl0:Str.ofString "" =Str.empty:=by decide +kernel
theorem zeR{n:Int}(h0:0≤n) (h1:n<10 ^ 60):(Str.ofString (toString n)).length≤60:=by
 obtain⟨k,rfl⟩:∃k:Nat,n=k:=⟨n.toNat,(Int.toNat_of_nonneg h0).symm⟩;exact zkH (by decide) (by omega)
theorem ziU{n:Int}(h0:0≤n) (h1:n<10 ^ 60):n.natAbs.log2<1920:=by
 by_cases e:n.natAbs=0
 ·rw [e];decide
 ·rw [Nat.log2_lt e];have:n.natAbs<10 ^ 60:=by omega
  have:(10:Nat) ^ 60<2 ^ 1920:=by decide +kernel
  omega
theorem zhV:∀{ts:List Tr}{m:Str},m.length≤1→(∀t∈ts,t.txt.length+3≤64*t.weight)→(txts m ts).length≤64*wts ts
 | [],m,_,_=>by rw [zbA];exact Nat.zero_le _
 |t::ts,m,hm,h=>by
  have h1:=h t List.mem_cons_self;have h2:=zhV (ts:=ts) (m:=Str.ofString ",") (by rw [sl3];decide) fun u hu=>h u (List.mem_cons_of_mem _ hu);rw [zaM,Str.length_append,Str.length_append,zaB];omega
theorem zcY{t:Tr}(h:Plain t):t.txt.length+3≤64*t.weight:=by
 induction h with
 |bl h0 h1=>
  have:=zeR h0 h1;rw [zfG,Str.length_append,sl1,Tr.weight];omega
 | @nd s ts hs ht ih=>
  rw [Tr.weight];by_cases e:ts=[]
  ·subst e;rw [zdt];omega
  ·have:=zhV (ts:=ts) (m:=Str.ofString "(") (by rw [sl2];decide) ih;have:=zdk ts;rw [zer e,Str.length_append,Str.length_append,sl4];omega
theorem zhn{α:Type}(f:α→Str):∀(ts:List α),zcJ (ts.map fun t=>W.str (f t))=some (ts.map f)
 | []=>rfl
 |t::ts=>by
  show(zcJ (ts.map fun t=>W.str (f t))).map (f t:: ·)=_;rw [zhn f ts];rfl
theorem zki:∀(ts:List Tr),(∀t∈ts,Plain t)→((ts.map Tr.txt).map (·.length)).sum+ts.length≤64*wts ts
 | [],_=>by simp [zbR]
 |t::ts,h=>by
  have h1:=zcY (h t List.mem_cons_self);have h2:=zki ts fun u hu=>h u (List.mem_cons_of_mem _ hu);simp only[List.map_cons,List.sum_cons,List.length_cons,zaB];omega
theorem zgV{n:Int}{r:Nat}{S:Sto}{Q:WK}{E:Str→Sto→Prop}(h0:0≤n) (h1:n<10 ^ 60) (h:Q (.str (Str.ofString (toString n))) S):zaX (r+1) [.int n] S Q E:=by
 rw [zaX];walk_at "wp";refine⟨fun m σ S'=>σ=[some (.int n),some (.str (Str.ofString "")),some (.int n)]∧S'=S,⟨0,rfl,rfl⟩,?_⟩;rintro m σ S' ⟨rfl,rfl⟩;walk_at "wp";refine⟨⟨by decide,by decide,by decide⟩,?_⟩
 rw [if_neg (by simp;omega)];rw [zpc];walk_at "wp";have:=zeR h0 h1;refine⟨ziU h0 h1,zah (by rw [sl0];show _+0≤_;omega),?_⟩;rw [sl0,Str.append_empty];exact⟨_, .refl,h⟩
theorem zdF:∀(d:Nat) {t:Tr}{r:Nat}{S:Sto}{Q:WK}{E:Str→Sto→Prop},t.depth≤d→d≤r→Plain t→t.weight≤10000→Q (.str t.txt) S→zcb (r+1) [enc t] S Q E
 |0,t,r,S,Q,E,hd,hr,hp,hw,h=>by have:=zdc t;omega
 |d+1, .bl n,r,S,Q,E,hd,hr,hp,hw,h=>by
  obtain⟨r,rfl⟩:∃r',r=r'+1:=⟨r - 1,by omega⟩
  cases hp with
  |bl h0 h1=>
  rw [zcb];simp only[enc];walk_at "wp";refine zgV h0 h1 ?_;walk_at "wp";have:=zeR h0 h1;rw [zfG]at h;exact⟨zah (by rw [sl1];omega),_, .refl,h⟩
 |d+1, .nd s ts,r,S,Q,E,hd,hr,hp,hw,h=>by
  have hl:=zcY hp;cases hp with
  |nd hs ht=>
  simp only[Tr.depth]at hd;simp only[Tr.weight]at hw hl;have hk:=zdk ts;rw [zcb];simp only[enc];walk_at "wp";by_cases e:ts=[]
  ·subst e;rw [zdt]at h;simp only[zaQ];walk_at "wp";exact⟨_, .refl,h⟩
  ·have hne:ts.length≠0:=fun z=>e (List.eq_nil_of_length_eq_zero z);rw [if_neg (by rw [zay];simp;omega)];refine⟨zah (by rw [sl2];omega),?_⟩;rw [zaw];refine zdd (fun σ=>∃x,σ=[x]) enc (fun t=> .str t.txt) trivial ts [] _ ⟨none,rfl⟩ (by simp;omega) (fun x hx σ R hI hR=>?_) ?_
   ·obtain⟨y,rfl⟩:=hI;have hdx:=zgQ hx;have hwx:=zgK hx;have:=zdc x;obtain⟨r,rfl⟩:∃r',r=r'+1:=⟨r - 1,by omega⟩
    simp only[zgr];walk_at "wp";exact zdF d (t:=x) (r:=r) (by omega) (by omega) (ht x hx) (by omega) (hR _ _ ⟨_,rfl⟩ .refl)
   ·rw [List.nil_append];rw [zhn];have hs:=zki ts ht;rw [zer e]at h hl;rw [zfT ts e]at h hl;simp only[Str.length_append,sl2,sl4]at hl;dsimp only;simp only[Str.length_append,sl2,sl3,sl4,List.length_map];refine⟨by omega,zah (by omega),zah (by omega),_, .refl,?_⟩;simpa only[Str.append_assoc]using h
theorem zdZ{d:Nat}{t0:Option W}(ih:∀{t:Tr}{r:Nat}{S:Sto}{Q:WK}{E:Str→Sto→Prop},t.depth≤d→d≤r→Plain t→t.weight≤10000→Q (.str t.txt) S→zat (r+1) [enc t] S Q E) {r:Nat}(hr:d≤r) {S:Sto}{E:WX}{D:WEnds}:∀(ts:List Tr) {row m:Str}{x3:Option W},(∀t∈ts,Plain t)→dts ts≤d→m.length≤1→wts ts≤10000→row.length≤900000→row.length+64*wts ts≤900000→
  (∀x3,D.nx [t0,some (.str (row++txts m ts)),some (.str (if ts.isEmpty then m else Str.ofString ",")),x3] S)→
  zgl (wGN 3) (zbw (r+1) (zat (r+1))) E D (fun _=>True) (ts.map enc) [t0,some (.str row),some (.str m),x3] S
 | [],row,m,x3,hp,hd,hm,hw,h1,h2,h=>by
  have:=h x3;rw [zbA,Str.append_empty]at this;exact this
 |t::ts,row,m,x3,hp,hd,hm,hw,h1,h2,h=>by
  rw [zcE]at hd;rw [zaB]at hw h2;have hl:=zcY (hp t List.mem_cons_self);rw [List.map_cons];refine zhO fun N hN=>?_;simp only[zbw];walk_at "wp";refine⟨zah (by omega),?_⟩;refine ih (by omega) hr (hp t List.mem_cons_self) (by omega) ?_;walk_at "wp";refine⟨zah (by rw [Str.length_append];omega),?_⟩;refine hN _ _ S .refl trivial ?_;refine zdZ ih hr ts (fun u hu=>hp u (List.mem_cons_of_mem _ hu)) (by omega) (by rw [sl3];decide) (by omega) (by simp only[Str.length_append];omega) (by simp only[Str.length_append];omega) fun x3=>?_;have:=h x3;rw [zaM]at this;simp only[List.isEmpty_cons,Bool.false_eq_true,if_false]at this;rw [ite_self];simpa only[Str.append_assoc]using this
theorem zcD:∀(d:Nat) {t:Tr}{r:Nat}{S:Sto}{Q:WK}{E:Str→Sto→Prop},t.depth≤d→d≤r→Plain t→t.weight≤10000→Q (.str t.txt) S→zat (r+1) [enc t] S Q E
 |0,t,r,S,Q,E,hd,hr,hp,hw,h=>by have:=zdc t;omega
 |d+1, .bl n,r,S,Q,E,hd,hr,hp,hw,h=>by
  cases hp with
  |bl h0 h1=>
  rw [zat];simp only[enc];walk_at "wp";rw [zpc];walk_at "wp";have:=zeR h0 h1;rw [zfG]at h;exact⟨ziU h0 h1,zah (by rw [sl1];omega),_, .refl,h⟩
 |d+1, .nd s ts,r,S,Q,E,hd,hr,hp,hw,h=>by
  have hl:=zcY hp;cases hp with
  |nd hs ht=>
  simp only[Tr.depth]at hd;simp only[Tr.weight]at hw hl;obtain⟨r,rfl⟩:∃r',r=r'+1:=⟨r - 1,by omega⟩
  rw [zat];simp only[enc];walk_at "wp";rw [zaw];refine zdZ (d:=d) (fun {t r S Q E}=>zcD d) (by omega) ts ht (by omega) (by rw [sl2];decide) (by omega) (by omega) (by omega) fun x3=>?_;walk_at "wp";by_cases e:ts=[]
  ·subst e;rw [zdt]at h;simp only[List.isEmpty_nil,if_true,zbA,Str.append_empty];rw [if_neg (by decide +kernel)];exact⟨_, .refl,h⟩
  ·have hne:ts.isEmpty=false:=by cases ts with
    |nil=>exact absurd rfl e
    |cons _ _=>rfl
   rw [hne];simp only[Bool.false_eq_true,if_false];rw [zer e]at h hl;rw [if_pos (by simp)];simp only[Str.length_append,sl4]at hl;refine⟨zah (by rw [Str.length_append,sl4];omega),_, .refl,h⟩
theorem zfg{α:Type}{xs:List α}{lo hi:Option Int}:(zbq xs lo hi).length≤xs.length:=by
 unfold zbq;rw [List.length_take,List.length_drop];omega
theorem zce{x:Str}(h:zcH x):x.length≤8:=by
 have:x.length=x.cps.toList.length:=by simp [Str.length]
 rw [this];exact h.2.1
theorem zcx{x:Str}(h:zbY x):x.length≤8:=by
 obtain⟨c,r,e,_,_,h1,_⟩:=h;have:x.length=x.cps.toList.length:=by simp [Str.length]
 rw [this,e,List.length_cons];omega
theorem zdp{hs:List Str}{ls:List Tr}{t:Tr}(h:Made hs ls t) (h1:∀x∈hs,x.length≤8) (h2:∀l∈ls,Plain l):Plain t:=by
 induction h with
 |leaf hm=>exact h2 _ hm
 |node hh _ _ _ ih=>exact .nd (h1 _ hh) ih
noncomputable def zdf (c:Nat):Bool:=decide (97≤c)&&decide (c≤122)
noncomputable def small (xs:List Nat):Bool:=xs.all zdf
noncomputable def zep (xs:List Nat):Bool:=decide (1≤xs.length)&&(decide (xs.length≤8)&&(decide (65≤xs.headD 0)&&(decide (xs.headD 0≤90)&&small (xs.drop 1))))
theorem zgY{s:Str}{a:Nat}(hs:s.cps.toList=[a]) (c:Nat):(!decide ((⟨#[c]⟩:Str).cps.toList<s.cps.toList))=decide (a≤c):=by
 rw [hs];show(!decide (([c]:List Nat)< [a]))=_;by_cases h:a≤c
 ·rw [decide_eq_true h,decide_eq_false (fun z=>by have:=(zhv c a).mp z;omega)];rfl
 ·rw [decide_eq_false h,decide_eq_true ((zhv c a).mpr (by omega))];rfl
theorem zhf{s:Str}{a:Nat}(hs:s.cps.toList=[a]) (c:Nat):(!decide (s.cps.toList<(⟨#[c]⟩:Str).cps.toList))=decide (c≤a):=by
 rw [hs];show(!decide (([a]:List Nat)< [c]))=_;by_cases h:c≤a
 ·rw [decide_eq_true h,decide_eq_false (fun z=>by have:=(zhv a c).mp z;omega)];rfl
 ·rw [decide_eq_false h,decide_eq_true ((zhv a c).mpr (by omega))];rfl
theorem zqe:(Str.ofString "a").cps.toList=[97]:=by decide +kernel
theorem zpR:(Str.ofString "z").cps.toList=[122]:=by decide +kernel
theorem zpL:(Str.ofString "A").cps.toList=[65]:=by decide +kernel
theorem zoF:(Str.ofString "Z").cps.toList=[90]:=by decide +kernel
theorem zhr (x:Str):(Txt.slice x (some 1) none).cps.toList=x.cps.toList.drop 1:=by
 rw [zcr];unfold zmb;rw [HT.sIx_none];have ez:HT.sIx x.cps.toList.length 0 (some 1)=min 1 x.cps.toList.length:=HT.sIx_nat x.cps.toList.length 0 1;rw [ez];by_cases h:1≤x.cps.toList.length
 ·rw [Nat.min_eq_left h,List.take_of_length_le (by rw [List.length_drop];exact Nat.le_refl _)]
 ·have:x.cps.toList=[]:=List.eq_nil_of_length_eq_zero (by omega);rw [this];rfl
theorem ziX (x:Str):x.length=x.cps.toList.length:=by simp [Str.length]
theorem zfV (bs:List Bool):zeo (bs.map W.bl)=some bs:=by
 induction bs with
 |nil=>rfl
 |cons b bs ih=>rw [List.map_cons,zeo,ih];rfl
theorem zgq{α:Type}(xs:List α) (f:α→Bool):((xs.map f).all _root_.id)=xs.all f:=by rw [List.all_map];rfl
theorem zgh{x:Str}{r:Nat}{S:Sto}{Q:WK}{E:Str→Sto→Prop}(hx:x.length≤1000) (h:Q (.bl (small x.cps.toList)) S):zav (r+1) [.str x] S Q E:=by
 rw [ziX]at hx;rw [zav];walk_at "wp";unfold zgz;refine zdd (fun σ=>∃x,σ=[x]) (fun c=> .str ⟨#[c]⟩) (fun c=> .bl (zdf c)) ?_ x.cps.toList [] _ ⟨none,rfl⟩ (by rw [List.length_nil];omega) (fun c hc σ R hI hR=>?_) ?_
 ·exact trivial
 ·obtain⟨y,rfl⟩:=hI;simp only[zbr];walk_at "wp";rw [zgY zqe,zhf zpR];unfold zdf at hR;cases e:decide (97≤c) with
  |false=>rw [e]at hR;exact hR _ _ ⟨_,rfl⟩ .refl
  |true=>rw [e]at hR;exact hR _ _ ⟨_,rfl⟩ .refl
 ·have e:x.cps.toList.map (fun c=>W.bl (zdf c))=(x.cps.toList.map zdf).map W.bl:=by rw [List.map_map];rfl
  rw [List.nil_append,e,zfV];dsimp only;rw [zgq];exact⟨_, .refl,h⟩
theorem zhI{x:Str}{r:Nat}{S:Sto}{Q:WK}{E:Str→Sto→Prop}(hx:x.length≤1000) (h:Q (.bl (zep x.cps.toList)) S):zbB (r+2) [.str x] S Q E:=by
 have hsl:=Txt.slice_le x (some 1) none;have hxl:=ziX x;rw [zbB];walk_at "wp";unfold zep at h;rw [←hxl]at h;cases e1:decide (1≤x.length) with
 |false=>
  rw [e1]at h;have:¬1≤x.length:=by simpa using e1
  have e1':decide ((1:Int)≤(x.length:Int))=false:=by simp;omega
  rw [e1'];walk_at "wp";exact⟨zah (by omega),_, .refl,h⟩
 |true=>
  rw [e1]at h;have h1:1≤x.length:=by simpa using e1
  have e1':decide ((1:Int)≤(x.length:Int))=true:=by simp;omega
  rw [e1'];refine⟨zah (by omega),?_⟩;walk_at "wp";cases e2:decide (x.length≤8) with
  |false=>
   rw [e2]at h;have:¬x.length≤8:=by simpa using e2
   have e2':decide ((x.length:Int)≤8)=false:=by simp;omega
   rw [e2'];exact⟨_, .refl,h⟩
  |true=>
   rw [e2]at h;have h2:x.length≤8:=by simpa using e2
   have e2':decide ((x.length:Int)≤8)=true:=by simp;omega
   rw [e2'];walk_at "wp";obtain⟨c,rest,hc⟩:∃c rest,x.cps.toList=c::rest:=by
    cases e:x.cps.toList with
    |nil=>rw [e]at hxl;simp at hxl;omega
    |cons c rest=>exact⟨c,rest,rfl⟩
   rw [hc]at h⊢;replace h:Q (W.bl (decide (65≤c)&&(decide (c≤90)&&small rest))) S:=h;walk_at "wp";rw [zgY zpL];refine⟨zah (by omega),?_⟩;cases e3:decide (65≤c) with
   |false=>rw [e3]at h;exact⟨_, .refl,h⟩
   |true=>
    rw [e3]at h;walk_at "wp";rw [zhf zoF];cases e4:decide (c≤90) with
    |false=>rw [e4]at h;exact⟨_, .refl,h⟩
    |true=>
     rw [e4]at h;walk_at "wp";refine⟨zah (by omega),zgh (by omega) ⟨_, .refl,?_⟩⟩;rw [zhr,hc];exact h
theorem zes{r:Nat}{a b:Addr}{ps:List W}{E:WX}{D:WEnds}{x0:Option W}(hba:b≠a):∀(ts:List Tr) {S:Sto}{us:List Tr}{x2:Option W},S a=some (.lst (zaQ us))→S b=some (.lst ps)→us.length+wts ts≤200000→
  (∀x2,D.nx [x0,some (.ref a),x2] (put S a (.lst (zaQ (us++ts.flatMap Tr.kids)))))→
  zgl (wGN 2) (zbv (r+1) zbs) E D (fun S'=>S' b=some (.lst ps)) (zaQ ts) [x0,some (.ref a),x2] S
 | [],S,us,x2,ha,hb,hl,h=>by
  have:=h x2;simp only[List.flatMap_nil,List.append_nil,zfM ha]at this;simpa [zaQ,zgl]using this
 |t::ts,S,us,x2,ha,hb,hl,h=>by
  simp only[wts]at hl;have hk:=zdk t.kids;have hw:=zbp t;simp only[zaQ];refine zhO fun N hN=>?_;simp only[zbv];walk_at "wp";simp only[zas ha,true_and];refine zll ?_;walk_at "wp";rw [zas ha];refine⟨zah (by rw [zay,zay];omega),hN _ _ _ .refl (by rw [zaU hba];exact hb) ?_⟩;rw [←zcc];refine zes hba ts zag (by rw [zaU hba];exact hb) (by rw [List.length_append];omega) fun x2=>?_;rw [zbQ];have:=h x2;rw [List.flatMap_cons,←List.append_assoc]at this;exact this
theorem zgw{ts:List Tr}{b:Addr}{r:Nat}{S:Sto}{Q:WK}{E:Str→Sto→Prop}(hb:S b=some (.lst (zaQ ts))) (hw:wts ts≤100000) (h:∀a,S a=none→Q (.ref a) (put S a (.lst (zaQ (ts.flatMap Tr.kids))))):zaY (r+2) [.ref b] S Q E:=by
 rw [zaY];walk_at "wp";refine⟨Nat.zero_le _,fun a ha=>?_⟩;have hba:=zeQ hb ha;rw [zas (keep hb ha)];refine zes (us:=[]) hba ts (by simp [zag,zaQ]) (keep hb ha) (by simpa using(by omega:wts ts≤200000)) fun x2=>?_;rw [zbQ];walk_at "wp";exact⟨_, .refl,h a ha⟩
noncomputable def Tr.small (t:Tr):Bool:=decide (t.weight≤400)&&decide (t.depth≤40)
theorem ziq{t:Tr}{r:Nat}{S:Sto}{Q:WK}{E:Str→Sto→Prop}(hw:t.weight≤90000) (h:Q (.bl t.small) S):zbU (r+3) [enc t] S Q E:=by
 rw [zbU];walk_at "wp";refine⟨zah (by decide),fun a ha=>?_⟩;refine⟨fun m σ S'=>∃(ts:List Tr) (k d:Nat) (b:Addr),m=wts ts∧k+wts ts=t.weight∧d+dts ts=t.depth∧k≤400∧d≤40∧S b=none∧S'=put S b (.lst (zaQ ts))∧σ=[some (enc t),some (.int k),some (.int d),some (.ref b)],⟨_,[t],0,0,a,rfl,by simp [wts],by simp [dts],by decide,by decide,ha,by simp [zaQ],rfl⟩,?_⟩
 rintro m σ S' ⟨ts,k,d,b,rfl,hwt,hk,hk4,hd4,hb,rfl,rfl⟩;walk_at "wp";cases ts with
 |nil=>
  simp only[zaQ,List.isEmpty_nil];walk_at "wp";simp only[dts,wts,Nat.add_zero]at hk hwt;have e:t.small=true:=by unfold Tr.small;rw [decide_eq_true (by omega),decide_eq_true (by omega)];rfl
  rw [e]at h;exact⟨_, .put .refl hb,h⟩
 |cons u us=>
  have hne:(zaQ (u::us)).isEmpty=false:=by simp [zaQ]
  rw [hne];have hfl:=zhA (u::us);have hdf:=zhD (ts:=u::us) (by simp);have hlw:=zdk (u::us);simp only[zdy];walk_at "wp";rw [zay];have no:400<t.weight∨40<t.depth→ ∃S'',Sub S'' (put S b (Ob.lst (zaQ (u::us))))∧Q (W.bl false) S'':=fun z=>by
   have e:t.small=false:=by
    unfold Tr.small;rcases z with z |z
    ·rw [decide_eq_false (by omega)];rfl
    ·rw [decide_eq_false (p:=t.depth≤40) (by omega),Bool.and_false]
   rw [e]at h;exact⟨_, .put .refl hb,h⟩
  split
  ·exact no (.inl (by omega))
  ·split
   ·exact no (.inr (by omega))
   ·refine zgw zag (by omega) fun c hc=>?_;obtain⟨hc1,hc2⟩:=zcg hc;refine⟨wts ((u::us).flatMap Tr.kids),put S c (.lst (zaQ ((u::us).flatMap Tr.kids))),by simp only[List.length_cons]at hfl;omega, .put2 (.put .refl hb),_,k+(u::us).length,d+1,c,rfl,by omega,by omega,by omega,by omega,hc1,rfl,?_⟩
    push_cast
    rfl
noncomputable abbrev rf (x:Str) (b:Bool) (n:Int):List (Str×W):=[("text", .str x),("in_side", .bl b),("at", .int n)]
noncomputable def rd (x:Str) (b:Bool) (n:Int):Ob:= .ins "Reader" (rf x b n)
theorem ne1:((Str.ofString "in_side" :Str) == Str.ofString "text")=false:=by decide +kernel
theorem ne2:((Str.ofString "at" :Str) == Str.ofString "text")=false:=by decide +kernel
theorem ne3:((Str.ofString "at" :Str) == Str.ofString "in_side")=false:=by decide +kernel
theorem nq1:¬((Str.ofString "text" :Str)=Str.ofString "in_side"):=by decide +kernel
theorem nq2:¬((Str.ofString "text" :Str)=Str.ofString "at"):=by decide +kernel
theorem nq3:¬((Str.ofString "in_side" :Str)=Str.ofString "at"):=by decide +kernel
section
variable {S:Sto}{Q:WK}{E:Str→Sto→Prop}{a:Addr}{x:Str}{b:Bool}{n m:Int}{r:Nat}{u v w:W}
theorem zgF:List.lookup (Str.ofString "text") [(Str.ofString "text",u),(Str.ofString "in_side",v),(Str.ofString "at",w)]=some u:=by rw [List.lookup_cons,beq_self_eq_true]
theorem zhc:List.lookup (Str.ofString "in_side") [(Str.ofString "text",u),(Str.ofString "in_side",v),(Str.ofString "at",w)]=some v:=by rw [List.lookup_cons,ne1];simp only;rw [List.lookup_cons,beq_self_eq_true]
theorem zgJ:List.lookup (Str.ofString "at") [(Str.ofString "text",u),(Str.ofString "in_side",v),(Str.ofString "at",w)]=some w:=by rw [List.lookup_cons,ne2];simp only;rw [List.lookup_cons,ne3];simp only;rw [List.lookup_cons,beq_self_eq_true]
theorem zff{m:Str}(h1:(m == Str.ofString "text")=false) (h2:(m == Str.ofString "in_side")=false) (h3:(m == Str.ofString "at")=false):List.lookup m (rf x b n)=none:=by
 rw [rf,List.lookup_cons,h1];simp only;rw [List.lookup_cons,h2];simp only;rw [List.lookup_cons,h3];rfl
theorem zed:List.lookup (Str.ofString "here") (rf x b n)=none:=zff (by decide +kernel) (by decide +kernel) (by decide +kernel)
theorem zkd:List.lookup (Str.ofString "read_word") (rf x b n)=none:=zff (by decide +kernel) (by decide +kernel) (by decide +kernel)
theorem zhk:List.lookup (Str.ofString "read_thing") (rf x b n)=none:=zff (by decide +kernel) (by decide +kernel) (by decide +kernel)
theorem zkD:List.lookup (Str.ofString "read_parts") (rf x b n)=none:=zff (by decide +kernel) (by decide +kernel) (by decide +kernel)
theorem zmB:zbz (Str.ofString "at") (.int m) (rf x b n)=rf x b m:=by
 rw [rf,zbz,if_neg nq2,zbz,if_neg nq3,zbz,if_pos rfl]
theorem zpd:zbz (Str.ofString "at") (.int n) (zbz (Str.ofString "in_side") (.bl b) (zbz (Str.ofString "text") (.str x) []))=rf x b n:=by
 rw [zbz,zbz,if_neg nq1,zbz,zbz,if_neg nq2,zbz,if_neg nq3,zbz]
theorem zbd{P:List (Str×W)→Prop}(h:S a=some (rd x b n)):zgu S (Str.ofString "Reader") a P=P (rf x b n):=zeW h
theorem zmV (ha:S a=some (.ins "Reader" [])) (h:Q .non (put S a (rd x b 0))):zaN (r+1) [.ref a, .str x, .bl b] S Q E:=by
 rw [zaN];walk_at "wp";rw [zeW ha];refine⟨by decide,?_⟩;rw [zeW zag];refine⟨by rw [zbz];show 1<1000;decide,?_⟩;rw [zeW zag];refine⟨by rw [zbz,zbz,if_neg nq1,zbz];show 2<1000;decide,?_⟩;rw [zpd];exact⟨_, .refl,h⟩
noncomputable abbrev cl (x:Str):List Nat:=x.cps.toList
theorem zcM{x y:Str}(h:cl x=cl y):x=y:=by
 obtain⟨x⟩:=x;obtain⟨y⟩:=y;exact congrArg Str.mk (Array.toList_inj.mp h)
theorem zaJ (x y:Str):cl (x++y)=cl x++cl y:=by
 show(x.cps++y.cps).toList=_;exact Array.toList_append
theorem zoG{x:Str}{p w q:List Nat}(h:cl x=p++w++q):Txt.slice x (some (p.length:Int)) (some ((p.length+w.length:Nat):Int))=⟨w.toArray⟩:=by
 apply zcM;rw [cl,zcr];unfold zmb;rw [HT.sIx_nat,HT.sIx_nat,show x.cps.toList=p++w++q from h];rw [Nat.min_eq_left (by simp),Nat.min_eq_left (by simp;done),List.append_assoc,List.drop_left,Nat.add_sub_cancel_left,List.take_left]
noncomputable def hdS:List Nat→Str
 | []=>Str.empty
 |c::_=>⟨#[c]⟩
theorem zry{x:Str}{p q:List Nat}(h:cl x=p++q):Txt.slice x (some (p.length:Int)) (some ((p.length:Int)+1))=hdS q:=by
 cases q with
 |nil=>
  apply zcM;rw [cl,zcr];unfold zmb;have e:((p.length:Int)+1)=((p.length+1:Nat):Int):=by omega
  rw [e,HT.sIx_nat,HT.sIx_nat,show x.cps.toList=p++[] from h];simp [hdS,Str.empty]
 |cons c q=>exact zoG (w:=[c]) (q:=q) (by rw [h];simp)
theorem zdr{p q:List Nat}(ha:S a=some (rd x b p.length)) (e:cl x=p++q) (hx:x.length≤100000) (h:Q (.str (hdS q)) S):zaF (r+1) [.ref a] S Q E:=by
 rw [zaF];walk_at "wp";simp only[zbd ha,zgF,zgJ];walk_at "wp";rw [zry e];exact⟨zah (by omega),_, .refl,h⟩
noncomputable def stp (c:Nat):Bool:=c == 40 || c == 44 || c == 41
theorem znQ:Str.ofString "(" =⟨#[40]⟩:=by decide +kernel
theorem zpp:Str.ofString "," =⟨#[44]⟩:=by decide +kernel
theorem zqo:Str.ofString ")" =⟨#[41]⟩:=by decide +kernel
theorem zsj:Str.ofString "" =⟨#[]⟩:=by decide +kernel
theorem zfK (c d:Nat):((⟨#[c]⟩:Str) == ⟨#[d]⟩)=(c == d):=by
 by_cases h:c=d
 ·subst h;rw [beq_self_eq_true,beq_self_eq_true]
 ·have:¬((⟨#[c]⟩:Str)=⟨#[d]⟩):=fun z=>h (by have:=congrArg cl z;simpa [cl]using this);rw [beq_eq_false_iff_ne.mpr this,beq_eq_false_iff_ne.mpr h]
theorem zma (c:Nat):((⟨#[]⟩:Str) == ⟨#[c]⟩)=false:=beq_eq_false_iff_ne.mpr fun z=>by have:=congrArg cl z;simp [cl]at this
theorem zpr{q:List Nat}:inF S (.str (hdS q)) [.str (Str.ofString ""), .str (Str.ofString "("), .str (Str.ofString ","), .str (Str.ofString ")")]=some (match q with
  | []=>true
  |c::_=>stp c):=by
 have e59:∀a b:Str,eqF S 59 (.str a) (.str b)=some (a == b):=fun _ _=>rfl;rw [zsj,znQ,zpp,zqo];simp only[inF,e59];cases q with
 |nil=>
  show some ((⟨#[]⟩:Str) == ⟨#[]⟩ || _)=some true;rw [beq_self_eq_true];rfl
 |cons c q=>
  simp only[hdS,zfK,zma,stp];rw [BEq.comm (a:=40),BEq.comm (a:=44),BEq.comm (a:=41)];simp only[Bool.false_or,Bool.or_false,Bool.or_assoc]
theorem ziV{p w q:List Nat}(ha:S a=some (rd x b p.length)) (e:cl x=p++w++q) (hx:x.length≤100000) (hw:∀c∈w,stp c=false) (hq:∀c q',q=c::q'→stp c=true) (h:Q (.str ⟨w.toArray⟩) (put S a (rd x b ((p++w).length:Nat)))):zaI (r+2) [.ref a] S Q E:=by
 rw [zaI];walk_at "wp";simp only[zbd ha,zgF,zgJ];refine⟨fun m σ S'=>σ=[some (.ref a),some (.int p.length)]∧ ∃w1 w2,w=w1++w2∧m=w2.length∧S'=put S a (rd x b ((p++w1).length:Nat)),⟨w.length,rfl,[],w,rfl,rfl,by rw [List.append_nil];exact(zfM ha).symm⟩,?_⟩
 rintro m σ S' ⟨rfl,w1,w2,rfl,rfl,rfl⟩;walk_at "wp";have e':cl x=(p++w1)++(w2++q):=by rw [e];simp
 rw [zbd zag];refine⟨zed,?_⟩;refine zdr zag e' hx ⟨by decide,?_⟩;rw [zpr];cases w2 with
 |nil=>
  have hs:(match([]++q:List Nat) with
    | []=>true
    |c::_=>stp c)=true:=by
   cases q with
   |nil=>rfl
   |cons c q'=>exact hq c q' rfl
  simp only[hs];walk_at "wp";simp only[zbd zag,zgF,zgJ];walk_at "wp";rw [List.append_nil]at e h;have e2:(((p++w1).length:Nat):Int)=((p.length+w1.length:Nat):Int):=by rw [List.length_append]
  rw [e2,zoG e];rw [e2]at h;exact⟨zah (by omega),_, .refl,h⟩
 |cons c w2=>
  have hs:stp c=false:=hw c (by simp);simp only[List.cons_append,hs];rw [zbx];walk_at "wp";simp only[zbd zag,zgJ];refine⟨by show 3<1000;decide,w2.length,_,by omega, .refl,w1++[c],w2,by simp,rfl,?_⟩
  have e3:(((p++w1).length:Nat):Int)+1=(((p++(w1++[c])).length:Nat):Int):=by simp;omega
  rw [zmB,e3];rfl
end
noncomputable def zgk (xs:List Nat):Bool:=decide (1≤xs.length)&&(decide (xs.length≤8)&&small xs)
section
variable {S:Sto}{Q:WK}{E:Str→Sto→Prop}{x:Str}{r:Nat}
theorem zjD (hx:x.length≤1000) (h:Q (.bl (zgk (cl x))) S):zcw (r+2) [.str x] S Q E:=by
 have hl:x.length=(cl x).length:=by simp [Str.length,cl]
 rw [zcw];walk_at "wp";refine⟨zah (by omega),?_⟩;by_cases h1:1≤(cl x).length
 ·have e1:decide ((1:Int)≤(x.length:Int))=true:=decide_eq_true (by omega);rw [e1];by_cases h2:(cl x).length≤8
  ·have e2:decide ((x.length:Int)≤8)=true:=decide_eq_true (by omega);rw [e2];refine zgh hx ⟨_, .refl,?_⟩;unfold zgk at h;rw [decide_eq_true h1,decide_eq_true h2]at h;exact h
  ·have e2:decide ((x.length:Int)≤8)=false:=decide_eq_false (by omega);rw [e2];unfold zgk at h;rw [decide_eq_false h2,Bool.false_and,Bool.and_false]at h;exact⟨_, .refl,h⟩
 ·have e1:decide ((1:Int)≤(x.length:Int))=false:=decide_eq_false (by omega);rw [e1];unfold zgk at h;rw [decide_eq_false h1,Bool.false_and]at h;exact⟨_, .refl,h⟩
noncomputable def dg (n:Nat):List Nat:=if n<10 then [48+n] else [48+n / 10,48+n % 10]
theorem zjg:∀n:Nat,n<100→cl (Str.ofString (toString (n:Int)))=dg n:=by decide +kernel
theorem zob:∀n:Nat,n<100→intText? (Str.ofString (toString (n:Int)))=some (n:Int):=by decide +kernel
theorem zqm:Str.ofString "?" =⟨#[63]⟩:=by decide +kernel
theorem zmj{c:Nat}{w:List Nat}(e:cl x=c::w):Txt.slice x none (some 1)=⟨#[c]⟩:=by
 apply zcM;rw [cl,zcr];unfold zmb;rw [HT.sIx_none,show(1:Int)=((1:Nat):Int) from rfl,HT.sIx_nat,show x.cps.toList=c::w from e];rw [List.drop_zero,Nat.min_eq_left (by simp),Nat.sub_zero];rfl
theorem ziB{c:Nat}{w:List Nat}(e:cl x=c::w):Txt.slice x (some 1) none=⟨w.toArray⟩:=by
 apply zcM;rw [cl,zhr,show x.cps.toList=c::w from e];rfl
theorem zkE{c:Nat}{w:List Nat}(hc:c≠63) (e:cl x=c::w) (hx:x.length≤1000) (h:Q (.bl false) S):zaA (r+1) [.str x] S Q E:=by
 rw [zaA];walk_at "wp";rw [zmj e,zqm,zfK,beq_eq_false_iff_ne.mpr hc];exact⟨zah (by omega),_, .refl,h⟩
theorem zoM:(Str.ofString "0").cps.toList=[48]:=by decide +kernel
theorem zow:(Str.ofString "9").cps.toList=[57]:=by decide +kernel
theorem zqG:Str.ofString "0" =⟨#[48]⟩:=by decide +kernel
theorem zkL{n:Nat}(hn:n<100) (e:cl x=dg n) (h:Q (.bl true) S):zaL (r+1) [.str x] S Q E:=by
 have hd:∀c∈cl x,48≤c∧c≤57:=fun c hc=>by
  rw [e,dg]at hc;split at hc
  ·rw [List.mem_singleton]at hc;omega
  ·simp only[List.mem_cons,List.not_mem_nil,or_false]at hc;omega
 have hl:x.length=(dg n).length:=by rw [←e];simp [Str.length,cl]
 have hl2:(dg n).length≤2:=by unfold dg;split<;>simp
 have hcl:([]:List W).length+x.cps.toList.length≤1000000:=by
  rw [List.length_nil,show x.cps.toList=dg n from e];omega
 rw [zaL];walk_at "wp";unfold zgz;refine zdd (fun σ=>∃x,σ=[x]) (fun c=> .str ⟨#[c]⟩) (fun c=> .bl true) ?_ x.cps.toList [] _ ⟨none,rfl⟩ hcl (fun c hc σ R hI hR=>?_) ?_
 ·exact trivial
 ·obtain⟨y,rfl⟩:=hI;obtain⟨c0,c9⟩:=hd c hc;simp only[zbE];walk_at "wp";rw [zgY zoM,zhf zow,decide_eq_true c0,decide_eq_true c9];exact hR _ _ ⟨_,rfl⟩ .refl
 ·have e1:x.cps.toList.map (fun _=>W.bl true)=(x.cps.toList.map fun _=>true).map W.bl:=by rw [List.map_map];rfl
  rw [List.nil_append,e1,zfV];dsimp only;rw [zgq];have e2:(x.cps.toList.all fun _=>true)=true:=by simp
  rw [e2];have hll:x.length≤sizeLine:=zah (by omega);simp only[Bool.not_true,Bool.false_eq_true,if_false];refine⟨hll,?_⟩;by_cases h1:n<10
  ·have ed:dg n=[48+n]:=by unfold dg;rw [if_pos h1]
   have el:((x.length:Int) == 1)=true:=by rw [hl,ed];rfl
   rw [el];exact⟨_, .refl,h⟩
  ·have ed:dg n=[48+n / 10,48+n % 10]:=by unfold dg;rw [if_neg h1]
   have el:((x.length:Int) == 1)=false:=by rw [hl,ed];rfl
   have el2:((x.length:Int) == 2)=true:=by rw [hl,ed];rfl
   rw [el,el2];refine⟨hll,hll,?_⟩;rw [show x.cps.toList=[48+n / 10,48+n % 10] from e.trans ed,zbI];show ∃S'',Sub S'' S∧Q (W.bl !((⟨#[48+n / 10]⟩:Str) == Str.ofString "0")) S'';rw [zqG,zfK,beq_eq_false_iff_ne.mpr (by omega)];exact⟨_, .refl,h⟩
theorem zjK{n:Nat}(hn:n<100) (e:cl x=63::dg n) (h:Q (.bl true) S):zaA (r+2) [.str x] S Q E:=by
 have hl2:(dg n).length≤2:=by unfold dg;split<;>simp
 have hl:x.length≤3:=by
  have:x.length=(cl x).length:=by simp [Str.length,cl]
  rw [this,e,List.length_cons];omega
 rw [zaA];walk_at "wp";rw [zmj e,zqm,beq_self_eq_true,ziB e];exact⟨zah (by omega),zah (by omega),zkL hn rfl ⟨_, .refl,h⟩⟩
end
inductive Wrt (b:Bool):Tr→Prop
 |bl {n:Int}:b=true→0≤n→n<100→Wrt b (.bl n)
 |nd {s:Str}{ts:List Tr}:(zcH s∨b=false∧zbY s)→(∀t∈ts,Wrt b t)→Wrt b (.nd s ts)
noncomputable def Eds (q:List Nat):Prop:=∀c q',q=c::q'→c=44∨c=41
section
variable {S:Sto}{Q:WK}{E:Str→Sto→Prop}{a:Addr}{x:Str}{b:Bool}{r:Nat}
noncomputable def RdT (b:Bool) (t:Tr) (room:Int) (c:WSp):Prop:=∀{S:Sto}{Q:WK}{E:Str→Sto→Prop}{a:Addr}{x:Str}{p q:List Nat},S a=some (rd x b p.length)→cl x=p++cl t.txt++q→x.length≤100000→Eds q→
 Q (enc t) (put S a (rd x b ((p++cl t.txt).length:Nat)))→c [.ref a, .int room] S Q E
theorem ziv{cT:WSp}{room:Int}{p q:List Nat}(ha:S a=some (rd x b p.length)) (e:cl x=p++q) (hx:x.length≤100000) (hq:Eds q) (h:Q (.tup []) S):zan cT (r+2) [.ref a, .int room] S Q E:=by
 rw [zan];walk_at "wp";rw [zbd ha];refine⟨zed,zdr ha e hx ?_⟩;have e60:∀u v:Str,eqF S 60 (.str u) (.str v)=some (u == v):=fun _ _=>rfl;have hh:(hdS q == Str.ofString "(")=false:=by
  rw [znQ];cases q with
  |nil=>exact zma 40
  |cons c q'=>
   rw [hdS,zfK];rcases hq c q' rfl with rfl |rfl
   ·rfl
   ·rfl
 rw [e60,hh];exact⟨Nat.zero_le _,_, .refl,h⟩
theorem zdG{ts2:List Tr}:∀(ts1:List Tr) {m:Str},cl (txts m (ts1++ts2))=cl (txts m ts1)++cl (txts (if ts1.isEmpty then m else Str.ofString ",") ts2)
 | [],m=>by rw [zbA];rfl
 |t::ts,m=>by
  rw [List.cons_append,zaM,zaM,zaJ,zaJ,zdG ts];have e:(if ts.isEmpty=true then Str.ofString "," else Str.ofString ",")=Str.ofString "," :=by split<;>rfl
  rw [e,zaJ,zaJ];simp
end
theorem ziQ{S:Sto}{a f:Addr}{o1 o2 L:Ob}(h:a≠f):put (put (put S a o1) f L) a o2=put (put S a o2) f L:=by
 funext c;unfold put;by_cases h1:c=a
 ·subst h1;rw [if_pos rfl,if_neg h,if_pos rfl]
 ·rw [if_neg h1];by_cases h2:c=f
  ·rw [if_pos h2,if_pos h2]
  ·rw [if_neg h2,if_neg h2,if_neg h1,if_neg h1]
section
variable {S:Sto}{Q:WK}{E:Str→Sto→Prop}{a:Addr}{x:Str}{b:Bool}{r:Nat}
theorem zib{cT:WSp}{room:Int}{p q:List Nat}{t:Tr}{ts1:List Tr}{f:Addr}{c:Nat}{EX:WX}{D:WEnds}(hT:RdT b t room cT) (hf:a≠f) (e:cl x=p++[c]++cl t.txt++q) (hq:Eds q) (hx:x.length≤100000) (hl:ts1.length≤1000)
  (h:D.nx [some (.ref a),some (.int room),some (.ref f)] (put (put S a (rd x b ((p++[c]++cl t.txt).length:Nat))) f (.lst (zaQ (ts1++[t]))))) :
  zaG r cT EX D [some (.ref a),some (.int room),some (.ref f)] (put (put S a (rd x b (p.length:Nat))) f (.lst (zaQ ts1))):=by
 have ea:∀n:Int,put (put S a (rd x b n)) f (Ob.lst (zaQ ts1)) a=some (rd x b n):=fun n=>by rw [zaU hf,zag]
 rw [zaG];walk_at "wp";simp only[zbd (ea _),zgJ];refine⟨by show 3<1000;decide,?_⟩;rw [zmB,show Ob.ins (Str.ofString "Reader") (rf x b ((p.length:Int)+1))=rd x b ((p.length:Int)+1) from rfl,ziQ hf];have e1:((p.length:Int)+1)=(((p++[c]).length:Nat):Int):=by simp
 rw [e1];rw [zas zag,zbd (ea _)];refine⟨trivial,zhk,hT (ea _) e hx hq ?_⟩;rw [ziQ hf,zas zag,zbQ];have e2:zaQ ts1++[enc t]=zaQ (ts1++[t]):=by rw [zaw,zaw,List.map_append];rfl
 rw [e2];exact⟨zdl (by rw [zay];omega),h⟩
theorem zio{cT:WSp}{room:Int}{p q:List Nat}{ts:List Tr}(hT:∀t∈ts,RdT b t room cT) (hne:ts≠ []) (ha:S a=some (rd x b p.length)) (e:cl x=p++cl (txts (Str.ofString "(") ts)++41::q) (hx:x.length≤100000) (hl:ts.length≤1000) (h:Q (.tup (zaQ ts)) (put S a (rd x b ((p++cl (txts (Str.ofString "(") ts)++[41]).length:Nat)))):zan cT (r+2) [.ref a, .int room] S Q E:=by
 have e60:∀(S:Sto) (u v:Str),eqF S 60 (.str u) (.str v)=some (u == v):=fun _ _ _=>rfl;have cm:cl (Str.ofString "(")=[40]:=by rw [znQ]
 have cc:cl (Str.ofString ",")=[44]:=by rw [zpp]
 rw [zan];walk_at "wp";rw [zbd ha];obtain⟨t0,ts0,rfl⟩:=List.exists_cons_of_ne_nil hne;have e0:cl x=p++40::(cl t0.txt++cl (txts (Str.ofString ",") ts0)++41::q):=by
  rw [e,zaM,zaJ,zaJ,cm];simp
 refine⟨zed,zdr ha e0 hx ?_⟩;rw [e60,hdS,znQ,beq_self_eq_true];refine⟨Nat.zero_le _,fun f hf0=>?_⟩;have hf:a≠f:=by rintro rfl;rw [ha]at hf0;cases hf0
 have ea:∀(n:Int) (L:List W),put (put S a (rd x b n)) f (Ob.lst L) a=some (rd x b n):=fun n L=>by rw [zaU hf,zag]
 refine⟨fun m σ S'=>σ=[some (.ref a),some (.int room),some (.ref f)]∧ ∃ts1 ts2,t0::ts0=ts1++ts2∧m=ts2.length∧S'=put (put S a (rd x b ((p++cl (txts (Str.ofString "(") ts1)).length:Nat))) f (.lst (zaQ ts1)),⟨(t0::ts0).length,rfl,[],t0::ts0,rfl,rfl,?_⟩,?_⟩
 ·rw [zbA,show cl Str.empty=[] from rfl,List.append_nil,zfM ha];rfl
 ·rintro m σ S' ⟨rfl,ts1,ts2,ets,rfl,rfl⟩;have go:∀(c:Nat) (t:Tr) (ts2':List Tr),ts2=t::ts2'→cl (if ts1.isEmpty then Str.ofString "(" else Str.ofString ",")=[c]→ ∀(D:WEnds),(∀S',(∃m' S'',m'<ts2.length∧Sub S'' S'∧([some (W.ref a),some (.int room),some (.ref f)]:WSt)=[some (.ref a),some (.int room),some (.ref f)]∧ ∃ts1 ts2,t0::ts0=ts1++ts2∧m'=ts2.length∧S''=put (put S a (rd x b ((p++cl (txts (Str.ofString "(") ts1)).length:Nat))) f (.lst (zaQ ts1)))→D.nx [some (.ref a),some (.int room),some (.ref f)] S')→
    zaG (r+1) cT (fun c x S'=>E c S') D [some (.ref a),some (.int room),some (.ref f)] (put (put S a (rd x b ((p++cl (txts (Str.ofString "(") ts1)).length:Nat))) f (.lst (zaQ ts1))):=fun c t ts2' et ec D hD=>by
   subst et;have e1:cl (txts (Str.ofString "(") (ts1++[t]))=cl (txts (Str.ofString "(") ts1)++[c]++cl t.txt:=by
    rw [zdG,zaM,zbA,zaJ,zaJ,ec,show cl Str.empty=[] from rfl];simp
   have e2:cl (txts (Str.ofString "(") (t0::ts0))=cl (txts (Str.ofString "(") ts1)++[c]++cl t.txt++cl (txts (Str.ofString ",") ts2'):=by
    rw [ets,zdG,zaM,zaJ,zaJ,ec];simp
   have hl1:ts1.length≤1000:=by have:=congrArg List.length ets;rw [List.length_append]at this;omega
   refine zib (q:=cl (txts (Str.ofString ",") ts2')++41::q) (c:=c) (hT t (by rw [ets];simp)) hf (by rw [e,e2];simp) (fun d q' hd=>?_) hx hl1 (hD _ ⟨ts2'.length,_,by simp, .refl,rfl,ts1++[t],ts2',by rw [ets];simp,rfl,?_⟩)
   ·cases ts2' with
    |nil=>rw [zbA,show cl Str.empty=[] from rfl,List.nil_append]at hd;cases hd;exact .inr rfl
    |cons u us=>
     rw [zaM,zaJ,zaJ,cc]at hd;cases hd;exact .inl rfl
   ·rw [e1];simp only[List.append_assoc]
  walk_at "wp";cases ts1 with
  |nil=>
   have e3:(!!(zaQ ([]:List Tr)).isEmpty)=true:=rfl;rw [if_pos e3];exact go 40 t0 ts0 ets.symm cm _ fun S' z=>z
  |cons u us=>
   have e3:¬(!!(zaQ (u::us)).isEmpty)=true:=by simp [zaQ]
   rw [if_neg e3,zbd (ea _ _)];refine⟨zed,?_⟩;cases ts2 with
   |cons t ts2'=>
    have e4:cl x=(p++cl (txts (Str.ofString "(") (u::us)))++44::(cl t.txt++cl (txts (Str.ofString ",") ts2')++41::q):=by
     have ex:cl (txts (Str.ofString ",") (t::ts2'))=44::(cl t.txt++cl (txts (Str.ofString ",") ts2')):=by rw [zaM,zaJ,zaJ,cc];simp
     rw [e,ets,zdG];simp only[List.isEmpty_cons,Bool.false_eq_true,if_false];rw [ex];simp
    refine zdr (ea _ _) e4 hx ?_;rw [e60,hdS,zpp,beq_self_eq_true];dsimp only;rw [if_pos rfl];exact go 44 t ts2' rfl cc _ fun S' z=>z
   |nil=>
    rw [List.append_nil]at ets;have e4:cl x=(p++cl (txts (Str.ofString "(") (u::us)))++41::q:=by rw [←ets];exact e
    refine zdr (ea _ _) e4 hx ?_;rw [e60,hdS,zpp,zfK];simp only[show((41:Nat) == 44)=false from rfl,Bool.false_eq_true,if_false];rw [zbd (ea _ _)];refine⟨zed,zdr (ea _ _) e4 hx ?_⟩;rw [e60,hdS,zqo,beq_self_eq_true];dsimp only;simp only[Bool.not_true,Bool.false_eq_true,if_false];simp only[zbd (ea _ _),zgJ];refine⟨by show 3<1000;decide,?_⟩;rw [zmB,show Ob.ins (Str.ofString "Reader") (rf x b ((((p++cl (txts (Str.ofString "(") (u::us))).length:Nat):Int)+1))=rd x b ((((p++cl (txts (Str.ofString "(") (u::us))).length:Nat):Int)+1) from rfl,ziQ hf,zas zag];have e5:(((p++cl (txts (Str.ofString "(") (u::us))).length:Nat):Int)+1=(((p++cl (txts (Str.ofString "(") (t0::ts0))++[41]).length:Nat):Int):=by rw [ets];generalize p++cl (txts (Str.ofString "(") (u::us))=A;simp
    rw [e5,←ets];refine⟨_, .put .refl ?_,h⟩;rw [zaU (Ne.symm hf)];exact hf0
end
section
variable {S:Sto}{Q:WK}{E:Str→Sto→Prop}{a:Addr}{x:Str}{b:Bool}{r:Nat}
theorem zhR{s:Str}(h:zcH s):zgk (cl s)=true∧(∃c w,cl s=c::w∧c≠63)∧ ∀c∈cl s,stp c=false:=by
 obtain⟨h1,h2,h3⟩:=h;refine⟨?_,?_,fun c hc=>?_⟩
 ·unfold zgk;rw [decide_eq_true (show 1≤(cl s).length from h1),decide_eq_true (show(cl s).length≤8 from h2)];show small (cl s)=true;unfold small;rw [List.all_eq_true];intro c hc;have:=h3 c hc;unfold Low at this;unfold zdf;simp [this.1,this.2]
 ·cases e:cl s with
  |nil=>rw [show s.cps.toList=[] from e]at h1;simp at h1
  |cons c w=>
   refine⟨c,w,rfl,fun z=>?_⟩;have:=h3 c (by rw [show s.cps.toList=c::w from e];simp);unfold Low at this;omega
 ·have:=h3 c hc;unfold Low at this;unfold stp;simp;omega
theorem zdQ{s:Str}(h:zbY s):zgk (cl s)=false∧zep (cl s)=true∧(∃c w,cl s=c::w∧c≠63)∧ ∀c∈cl s,stp c=false:=by
 obtain⟨c,w,e,h1,h2,h3,h4⟩:=h;have e:cl s=c::w:=e;rw [e];refine⟨?_,?_,⟨c,w,rfl,by omega⟩,fun d hd=>?_⟩
 ·unfold zgk small;rw [List.all_cons,show zdf c=false by unfold zdf;simp;omega]
  simp
 ·unfold zep small;simp [h1,h2,h3];intro d hd;have:=h4 d hd;unfold Low at this;unfold zdf;simp [this.1,this.2]
 ·unfold stp;rcases List.mem_cons.mp hd with rfl |hd
  ·simp;omega
  ·have:=h4 d hd;unfold Low at this;simp;omega
theorem zju{q:List Nat}(h:Eds q):∀c q',q=c::q'→stp c=true:=fun c q' e=>by
 rcases h c q' e with rfl |rfl<;>rfl
theorem zlm{n:Int}{room:Int}(hn:0≤n) (hm:n<100) (hr:1≤room) (hb:b=true):RdT b (.bl n) room (zak (r+4)):=fun {S Q E a x p q} ha e hx hq h=>by
 subst hb;obtain⟨k,rfl⟩:∃k:Nat,n=k:=⟨n.toNat,by omega⟩
 have et:cl (Tr.bl (k:Int)).txt=63::dg k:=by rw [zfG,zaJ,zqm,zjg k (by omega)];rfl
 rw [et]at e h;rw [zak];walk_at "wp";have e0:(room == 0)=false:=by simp;omega
 rw [e0];simp only[Bool.false_eq_true,if_false];rw [zbd ha];refine⟨zkd,?_⟩;refine ziV (w:=63::dg k) ha e hx ?_ (zju hq) ?_
 ·intro c hc;rcases List.mem_cons.mp hc with rfl |hc
  ·rfl
  ·have:48≤c∧c≤57:=by
    unfold dg at hc;split at hc
    ·rw [List.mem_singleton]at hc;omega
    ·simp only[List.mem_cons,List.not_mem_nil,or_false]at hc;omega
   unfold stp;simp;omega
 ·rw [zbd zag,zhc];walk_at "wp";refine zjK (n:=k) (by omega) rfl ?_;walk_at "wp";rw [ziB (c:=63) (w:=dg k) rfl];have ed:(⟨(dg k).toArray⟩:Str)=Str.ofString (toString (k:Int)):=zcM (by rw [zjg k (by omega)]);have hd2:(dg k).length≤2:=by unfold dg;split<;>simp
  have hl2:(Str.ofString (toString (k:Int))).length≤640:=by
   rw [←ed];show(dg k).toArray.size≤640;rw [List.size_toArray];omega
  rw [ed,zpJ (zob k (by omega)) hl2];refine⟨zah ?_,_, .refl,h⟩;show(63::dg k).toArray.size≤_;rw [List.size_toArray,List.length_cons];omega
end
section
variable {S:Sto}{Q:WK}{E:Str→Sto→Prop}{a:Addr}{x:Str}{b:Bool}{r:Nat}
theorem ziD{cT:WSp}{room:Int}{p q:List Nat}{s:Str}{ts:List Tr}(hT:∀t∈ts,RdT b t room cT) (ha:S a=some (rd x b (p++cl s).length)) (e:cl x=p++cl (Tr.nd s ts).txt++q) (hx:x.length≤100000) (hl:ts.length≤1000) (hq:Eds q) (h:Q (.tup (zaQ ts)) (put S a (rd x b ((p++cl (Tr.nd s ts).txt).length:Nat)))):zan cT (r+2) [.ref a, .int room] S Q E:=by
 by_cases hts:ts=[]
 ·subst hts;rw [zdt]at e h;rw [zfM ha]at h;exact ziv ha e hx hq h
 ·have et:cl (Tr.nd s ts).txt=cl s++cl (txts (Str.ofString "(") ts)++[41]:=by rw [zer hts,zaJ,zaJ,show cl (Str.ofString ")")=[41] by rw [zqo]]
  rw [et]at e h;refine zio (p:=p++cl s) (q:=q) hT hts ha (by rw [e];simp) hx hl ?_;have e2:p++cl s++cl (txts (Str.ofString "(") ts)++[41]=p++(cl s++cl (txts (Str.ofString "(") ts)++[41]):=by simp
  rw [e2];exact h
theorem ziR{p q:List Nat}{s:Str}{ts:List Tr}(e:cl x=p++cl (Tr.nd s ts).txt++q) (hq:Eds q):∃q',cl x=p++cl s++q'∧ ∀c q'',q'=c::q''→stp c=true:=by
 by_cases hts:ts=[]
 ·subst hts;rw [zdt]at e;exact⟨q,e,zju hq⟩
 ·obtain⟨t,ts',rfl⟩:=List.exists_cons_of_ne_nil hts;rw [zer hts,zaJ,zaJ,zaM,zaJ,zaJ,show cl (Str.ofString "(")=[40] by rw [znQ]]at e
  refine⟨40::(cl t.txt++cl (txts (Str.ofString ",") ts')++cl (Str.ofString ")")++q),by rw [e];simp,fun c q'' z=>by cases z;rfl⟩
theorem zkV{room:Int}{s:Str}{ts:List Tr}(hs:zcH s∨b=false∧zbY s) (hr:1≤room) (hT:∀t∈ts,RdT b t (room - 1) (zak (r+2))) (hl:ts.length≤1000):RdT b (.nd s ts) room (zak (r+4)):=fun {S Q E a x p q} ha e hx hq h=>by
 obtain⟨q',e',hq'⟩:=ziR e hq;have ew:(⟨(cl s).toArray⟩:Str)=s:=zcM rfl;have hst:∀c∈cl s,stp c=false:=by
  rcases hs with hs |⟨_,hs⟩
  ·exact(zhR hs).2.2
  ·exact(zdQ hs).2.2.2
 have h63:∃c w,cl s=c::w∧c≠63:=by
  rcases hs with hs |⟨_,hs⟩
  ·exact(zhR hs).2.1
  ·exact(zdQ hs).2.2.1
 have hs8:s.length≤8:=by
  rcases hs with hs |⟨_,hs⟩
  ·exact zce hs
  ·exact zcx hs
 rw [zak];walk_at "wp";have e0:(room == 0)=false:=by simp;omega
 rw [e0];simp only[Bool.false_eq_true,if_false];rw [zbd ha];refine⟨zkd,ziV (w:=cl s) ha e' hx hst hq' ?_⟩;rw [ew];obtain⟨c,w,ec,hc⟩:=h63;have es:W.tup (.str s::zaQ ts)=enc (.nd s ts):=by simp [enc]
 have fin:∀G:Sto→Prop,zgu (put S a (rd x b ((p++cl s).length:Nat))) (Str.ofString "Reader") a (fun fs=>List.lookup (Str.ofString "read_parts") fs=none∧zan (zak (r+2)) (r+2+1) [.ref a, .int (room - 1)] (put S a (rd x b ((p++cl s).length:Nat))) (fun w S'=>zco (.tup [.str s]) w S' fun w S'=>∃S'',Sub S'' S'∧Q w S'') fun cl' S3=>E cl' S3):=fun _=>by
  rw [zbd zag];refine⟨zkD,ziD (p:=p) (q:=q) (s:=s) hT zag e hx hl hq ?_⟩;rw [zbQ];walk_at "wp";rw [es];exact⟨zah (by rw [zay];omega),_, .refl,h⟩
 rw [zbd zag,zhc];walk_at "wp";cases b with
 |true=>
  simp only[if_true];refine zkE hc ec (by omega) ?_;walk_at "wp";refine zjD (by omega) ?_;rw [(zhR (hs.resolve_right (by simp))).1];walk_at "wp";exact⟨zah (by decide),fin fun _=>True⟩
 |false=>
  simp only[Bool.false_eq_true,if_false];refine zjD (by omega) ?_;rcases hs with hs |⟨_,hs⟩
  ·rw [(zhR hs).1];walk_at "wp";exact⟨zah (by decide),fin fun _=>True⟩
  ·rw [(zdQ hs).1];walk_at "wp";rw [zbd zag,zhc];walk_at "wp";refine zhI (by omega) ?_;rw [show zep s.cps.toList=true from(zdQ hs).2.1];walk_at "wp";exact⟨zah (by decide),fin fun _=>True⟩
end
section
variable {S:Sto}{Q:WK}{E:Str→Sto→Prop}{a:Addr}{x:Str}{b:Bool}{r:Nat}
theorem zjY:∀ts:List Tr,ts.length≤wts ts
 | []=>by simp
 |t::ts=>by
  have:=zjY ts;have:=zex t;rw [List.length_cons,zaB];omega
theorem zfY:∀(d:Nat) {t:Tr}{r:Nat}{room:Int},t.depth≤d→(d:Int)≤room→2*d+2≤r→Wrt b t→t.weight≤1000→RdT b t room (zak r)
 |0,t,r,room,hd,hr,hk,hw,hg=>by have:=zdc t;omega
 |d+1,t,r,room,hd,hr,hk,hw,hg=>by
  obtain⟨r,rfl⟩:∃r',r=r'+4:=⟨r - 4,by omega⟩
  cases hw with
  |bl h1 h2 h3=>exact zlm h2 h3 (by omega) h1
  | @nd s ts h1 h2=>
   rw [Tr.depth]at hd;rw [Tr.weight]at hg;refine zkV h1 (by omega) (fun t ht=>zfY d (by have:=zgQ ht;omega) (by omega) (by omega) (h2 t ht) (by have:=zgK ht;omega)) ?_;have:=zjY ts;omega
theorem zhT (hx:x.length≤4000) (h:Q .non S):zbc (r+1) [.str x] S Q E:=by
 rw [zbc];walk_at "wp";rw [if_neg (by omega)];exact⟨zah (by omega),_, .refl,h⟩
theorem zhP{t:Tr}(hw:Wrt b t) (hg:t.weight≤400) (hd:t.depth≤40) (hs:t.small=true) (hl:t.txt.length≤4000) (hr:90≤r) (h:∀S',Sub S S'→Q (enc t) S'):zbe (r+2) [.str t.txt, .bl b] S Q E:=by
 obtain⟨r,rfl⟩:∃r',r=r'+3:=⟨r - 3,by omega⟩
 have hlen:(cl t.txt).length=t.txt.length:=by simp [Str.length,cl]
 rw [zbe];walk_at "wp";refine zhT hl fun a hn=>?_;refine zmV zag ⟨rfl,?_⟩;rw [zbQ,zbd zag];refine⟨zhk,zfY (b:=b) 40 (by omega) (by decide) (by omega) hw (by omega) (p:=[]) (q:=[]) zag (by simp) (by omega) (fun c q' z=>by cases z) ?_⟩
 rw [zbQ,List.nil_append,zbd zag,zgJ];refine⟨zah (by omega),?_⟩;have e60:∀(S:Sto) (u v:Int),eqF S 60 (.int u) (.int v)=some (u == v):=fun _ _ _=>rfl;rw [e60,hlen,beq_self_eq_true]
 try dsimp only
 simp only[Bool.not_true,Bool.false_eq_true,if_false];refine ziq (by omega) ?_;rw [hs];walk_at "wp";exact⟨_, .refl,h _ (.put .refl hn)⟩
end
section
variable {S:Sto}{Q:WK}{E:Str→Sto→Prop}{r:Nat}
theorem zjV{t:Tr}(hw:Wrt false t) (hg:t.weight≤400) (hd:t.depth≤40) (hs:t.small=true) (hl:t.txt.length≤4000) (hr:95≤r) (h:∀S',Sub S S'→Q (enc t) S'):zbC (r+1) [.str t.txt] S Q E:=by
 obtain⟨r,rfl⟩:∃r',r=r'+2:=⟨r - 2,by omega⟩
 rw [zbC];walk_at "wp";exact zhP hw hg hd hs hl (by omega) fun S' s=>⟨_, .refl,h S' s⟩
theorem zeI{t:Tr}(hw:Wrt true t) (hg:t.weight≤400) (hd:t.depth≤40) (hs:t.small=true) (hl:t.txt.length≤4000) (hr:95≤r) (h:∀S',Sub S S'→Q (enc t) S'):zbb (r+1) [.str t.txt] S Q E:=by
 obtain⟨r,rfl⟩:∃r',r=r'+2:=⟨r - 2,by omega⟩
 rw [zbb];walk_at "wp";exact zhP hw hg hd hs hl (by omega) fun S' s=>⟨_, .refl,h S' s⟩
end
theorem sub_iff{z y:Str}{i:Nat}:Builtin.Str.subAt z y i=true↔((cl z).drop i).take (cl y).length=cl y:=by
 unfold Builtin.Str.subAt;rw [beq_iff_eq,←Array.toList_inj,Array.toList_extract];have hl:y.length=(cl y).length:=by simp [Str.length,cl]
 rw [hl,List.extract_eq_take_drop,Nat.add_sub_cancel_left]
theorem zkk{z:Str}{i j:Nat}:Builtin.Str.strSub z i j=⟨(((cl z).drop i).take (j - i)).toArray⟩:=by
 apply zcM;show(z.cps.extract i j).toList=_;rw [Array.toList_extract,List.extract_eq_take_drop]
theorem zjw{z y:Str}{u v y':List Nat}{c:Nat}(e:cl z=u++cl y++v) (ey:cl y=c::y') (hc:c∉u):Txt.partition z y=(⟨u.toArray⟩,y,⟨v.toArray⟩):=by
 have hy:y.length=(cl y).length:=by simp [Str.length,cl]
 have hz:z.length=(cl z).length:=by simp [Str.length,cl]
 have hat:StrLaws.At z y z.length u.length:=by
  refine⟨by rw [hy,hz,e];simp,sub_iff.mpr ?_⟩;rw [e,List.append_assoc,List.drop_left,List.take_left]
 rcases partition_whole z y with⟨_,no⟩ |⟨i,ei,⟨h1,h2⟩,h3⟩
 ·exact absurd hat (no _)
 ·have hi:i=u.length:=by
   rcases Nat.lt_trichotomy i u.length with h |h |h
   ·exfalso;have h4:=sub_iff.mp h2;rw [e,ey,List.append_assoc,List.drop_append_of_le_length (by omega)]at h4;have h5:(u.drop i)=u[i]::u.drop (i+1):=List.drop_eq_getElem_cons h;rw [h5,List.cons_append,List.length_cons,List.take_succ_cons,List.cons.injEq]at h4;exact hc (h4.1▸List.getElem_mem h)
   ·exact h
   ·exact absurd hat (h3 _ h)
  subst hi;rw [ei,zkk,zkk,hz,hy];have e1:((cl z).drop 0).take (u.length - 0)=u:=by rw [e,List.drop_zero,Nat.sub_zero,List.append_assoc,List.take_left]
  have e2:((cl z).drop (u.length+(cl y).length)).take ((cl z).length - (u.length+(cl y).length))=v:=by
   rw [e,←List.length_append,List.drop_left];rw [List.length_append (bs:=v),Nat.add_sub_cancel_left,List.take_length]
  rw [e1,e2]
section
variable {b:Bool}
theorem ziT{c:Nat}(h40:c≠40) (h44:c≠44):∀(ts:List Tr) {m:Str},c∉cl m→(∀t∈ts,c∉cl t.txt)→c∉cl (txts m ts)
 | [],m,hm,h=>by rw [zbA];simp [cl,Str.empty]
 |t::ts,m,hm,h=>by
  rw [zaM,zaJ,zaJ];have h1:=h t List.mem_cons_self;have h2:=ziT h40 h44 ts (m:=Str.ofString ",") (by rw [zpp];simpa [cl]using h44) fun u hu=>h u (List.mem_cons_of_mem _ hu);simp only[List.mem_append,not_or];exact⟨⟨hm,h1⟩,h2⟩
theorem zoW{t:Tr}(h:Wrt b t):32∉cl t.txt:=by
 induction h with
 | @bl n h1 h2 h3=>
  obtain⟨k,rfl⟩:∃k:Nat,n=k:=⟨n.toNat,by omega⟩
  rw [zfG,zaJ,zqm,zjg k (by omega)];intro z;rcases List.mem_append.mp z with z |z
  ·simp [cl]at z
  ·unfold dg at z;split at z
   ·rw [List.mem_singleton]at z;omega
   ·simp only[List.mem_cons,List.not_mem_nil,or_false]at z;omega
 | @nd s ts hs hk ih=>
  have h0:32∉cl s:=fun z=>by
   rcases hs with hs |⟨_,hs⟩
   ·have:=hs.2.2 32 z;unfold Low at this;omega
   ·obtain⟨c,w,e,h1,h2,h3,h4⟩:=hs;rw [show cl s=c::w from e]at z;rcases List.mem_cons.mp z with z |z
    ·omega
    ·have:=h4 32 z;unfold Low at this;omega
  by_cases hts:ts=[]
  ·subst hts;rw [zdt];exact h0
  ·rw [zer hts,zaJ,zaJ,zqo];have:=ziT (by decide) (by decide) ts (m:=Str.ofString "(") (c:=32) (by rw [znQ];simp [cl]) ih;simp only[List.mem_append,not_or];exact⟨⟨h0,this⟩,by simp [cl]⟩
end
section
variable {S:Sto}{Q:WK}{E:Str→Sto→Prop}{r:Nat}
theorem zoV:cl (Str.ofString ": ")=[58,32]:=by decide +kernel
theorem zpj:cl (Str.ofString " > ")=[32,62,32]:=by decide +kernel
theorem zls{s:Str}{l u:Tr}(hs:zbY s) (hl:Wrt true l) (hu:Wrt true u) (gl:l.weight≤400∧l.depth≤40∧l.small=true) (gu:u.weight≤400∧u.depth≤40∧u.small=true) (h4:l.txt.length+u.txt.length≤3900) (hr:100≤r) (h:∀S',Sub S S'→Q (.tup [.str s,enc l,enc u]) S') :
  zaW (r+1) [.str (s++Str.ofString ": " ++l.txt++Str.ofString " > " ++u.txt)] S Q E:=by
 obtain⟨r,rfl⟩:∃r',r=r'+2:=⟨r - 2,by omega⟩
 have hs8:=zcx hs;have tl:∀y:Str,y.length=(cl y).length:=fun y=>by simp [Str.length,cl]
 have ez:cl (s++Str.ofString ": " ++l.txt++Str.ofString " > " ++u.txt)=cl s++cl (Str.ofString ": ")++(cl l.txt++cl (Str.ofString " > ")++cl u.txt):=by simp only[zaJ,List.append_assoc]
 have hz:(s++Str.ofString ": " ++l.txt++Str.ofString " > " ++u.txt).length≤4000:=by
  rw [tl,ez];have h1:=tl s;have h2:=tl l.txt;have h3:=tl u.txt;simp only[List.length_append,zoV,zpj,List.length_cons,List.length_nil];omega
 have n58:58∉cl s:=fun z=>by
  obtain⟨c,w,e,h1,h2,h3,h4⟩:=hs;rw [show cl s=c::w from e]at z;rcases List.mem_cons.mp z with z |z
  ·omega
  ·have:=h4 58 z;unfold Low at this;omega
 have p1:=zjw ez zoV n58;generalize hzz:s++Str.ofString ": " ++l.txt++Str.ofString " > " ++u.txt=z at *;have p2:Txt.partition ⟨(cl l.txt++cl (Str.ofString " > ")++cl u.txt).toArray⟩ (Str.ofString " > ")=(⟨(cl l.txt).toArray⟩,Str.ofString " > ",⟨(cl u.txt).toArray⟩):=zjw rfl zpj (zoW hl);have es:(⟨(cl s).toArray⟩:Str)=s:=zcM rfl;have el:(⟨(cl l.txt).toArray⟩:Str)=l.txt:=zcM rfl;have eu:(⟨(cl u.txt).toArray⟩:Str)=u.txt:=zcM rfl;rw [es]at p1;rw [el,eu]at p2;have hr2:(⟨(cl l.txt++cl (Str.ofString " > ")++cl u.txt).toArray⟩:Str).length≤100000:=by
  have:=congrArg List.length ez;rw [tl]at hz;rw [tl];simp only[List.length_append]at this;show(cl l.txt++cl (Str.ofString " > ")++cl u.txt).toArray.toList.length≤_;simp only[List.length_append]at *;omega
 rw [zaW];walk_at "wp";refine zhT hz ?_;rw [zdW (by decide +kernel) (by omega),p1]
 try walk_at "wp"
 rw [show atI [W.str s,W.str (Str.ofString ": "),W.str ⟨(cl l.txt++cl (Str.ofString " > ")++cl u.txt).toArray⟩] 2=some (W.str ⟨(cl l.txt++cl (Str.ofString " > ")++cl u.txt).toArray⟩) from rfl];refine⟨trivial,?_⟩;rw [zdW (by decide +kernel) hr2,p2];refine zhI (by omega) ?_;rw [show zep s.cps.toList=true from(zdQ hs).2.1]
 try walk_at "wp"
 refine zeI hl gl.1 gl.2.1 gl.2.2 (by omega) (by omega) fun S1 s1=>?_
 try walk_at "wp"
 rw [show atI [W.str l.txt,W.str (Str.ofString " > "),W.str u.txt] 2=some (W.str u.txt) from rfl]
 try walk_at "wp"
 refine zeI hu gu.1 gu.2.1 gu.2.2 (by omega) (by omega) fun S2 s2=>?_
 try walk_at "wp"
 exact⟨zah (by decide),_, .refl,h _ (s1.trans s2)⟩
end
theorem zfi{hs:List Str}{ls:List Tr}{t:Tr}(h:Made hs ls t) {b:Bool}(h1:∀x∈hs,zcH x∨b=false∧zbY x) (h2:∀l∈ls,Wrt b l):Wrt b t:=by
 induction h with
 |leaf hm=>exact h2 _ hm
 |node hh _ _ _ ih=>exact .nd (h1 _ hh) ih
section
variable {S:Sto}{E:WX}{D:WEnds}{T:WS}{ns:List Int}{a b:Addr}{t:Tr}{s0 s1 s2 s3 t0 t1:Str}{y1 y2 y3 y4 y5 y6 y7 y8 y9 y10:Option W}{c:Int}
structure P05 (S:Sto) (a b:Addr) (s0 s1 s2 s3 t0 t1:Str):Prop where
  fa:S a=some (.lst [.str s0, .str s1, .str s2, .str s3])
  fb:S b=some (.lst [.str t0, .str t1])
  ss:∀x∈ [s0,s1,s2,s3],zcH x
  tt:∀x∈ [t0,t1],zbY x
theorem P05.sub{S':Sto}(P:P05 S a b s0 s1 s2 s3 t0 t1) (h:Sub S S'):P05 S' a b s0 s1 s2 s3 t0 t1:=⟨h _ _ P.fa,h _ _ P.fb,P.ss,P.tt⟩
theorem zqI (h:∀S' a s0 s1 s2 s3,S' a=some (.lst [.str s0, .str s1, .str s2, .str s3])→(∀x∈ [s0,s1,s2,s3],zcH x)→T E D [some (.scr ns),some (.ref a),y2,y3,y4,y5,y6,y7,y8,y9,y10] S') :
  zcf 199 T E D [some (.scr ns),y1,y2,y3,y4,y5,y6,y7,y8,y9,y10] S:=by
 rw [zcf];walk_at "wp";refine zhS (many:=4) (by decide) (by decide) (by decide) fun a ss ha hsl hss=>?_
 match ss,hsl with
 | [s0,s1,s2,s3],_=>exact h _ a s0 s1 s2 s3 zag hss
theorem zqr (fa:S a=some (.lst [.str s0, .str s1, .str s2, .str s3])) (hs:∀x∈ [s0,s1,s2,s3],zcH x) (h:∀S' b t0 t1,P05 S' a b s0 s1 s2 s3 t0 t1→T E D [some (.scr ns),some (.ref a),some (.ref b),y3,y4,y5,y6,y7,y8,y9,y10] S') :
  zcd 199 T E D [some (.scr ns),some (.ref a),y2,y3,y4,y5,y6,y7,y8,y9,y10] S:=by
 rw [zcd];walk_at "wp";refine zkh (many:=2) (by decide) (by decide) (by decide) fun b tt hb htl htt=>?_
 match tt,htl with
 | [t0,t1],_=>exact h _ b t0 t1 ⟨keep fa hb,zag,hs,htt⟩
theorem zqx (P:P05 S a b s0 s1 s2 s3 t0 t1) (h:∀S',P05 S' a b s0 s1 s2 s3 t0 t1→T E D [some (.scr ns),some (.ref a),some (.ref b),some (.int (4+((zbq ns (some 4) (some 40)).length:Int) / 2)),y4,y5,y6,y7,y8,y9,y10] S') :
  zbZ 199 T E D [some (.scr ns),some (.ref a),some (.ref b),y3,y4,y5,y6,y7,y8,y9,y10] S:=by
 rw [zbZ];walk_at "wp";intro p hp;rw [List.length_map];exact⟨⟨by decide,by decide⟩,h _ (P.sub (.put .refl hp))⟩
theorem zqZ (hl:ns.length≤63) (P:P05 S a b s0 s1 s2 s3 t0 t1) (h:∀S' t,P05 S' a b s0 s1 s2 s3 t0 t1→Wrt false t→Plain t→t.weight≤2*(zbq ns (some 4) (some c)).length+1→T E D [some (.scr ns),some (.ref a),some (.ref b),some (.int c),some (enc t),y5,y6,y7,y8,y9,y10] S') :
  zch 199 T E D [some (.scr ns),some (.ref a),some (.ref b),some (.int c),y4,y5,y6,y7,y8,y9,y10] S:=by
 rw [zch];walk_at "wp";intro p hp;have s1':Sub S (put S p (.lst ((zbq ns (some 4) (some c)).map W.int))):= .put .refl hp;have P1:=P.sub s1';rw [zas P1.fa,zas P1.fb];refine⟨zah (by simp),fun q hq=>?_⟩;have s2':Sub _ (put (put S p (.lst ((zbq ns (some 4) (some c)).map W.int))) q (.lst ([.str s0, .str s1, .str s2, .str s3]++[.str t0, .str t1]))):= .put .refl hq;have P2:=P1.sub s2';have fp:=s2' p _ zag;have fq:put (put S p (.lst ((zbq ns (some 4) (some c)).map W.int))) q (.lst ([.str s0, .str s1, .str s2, .str s3]++[.str t0, .str t1])) q=some (.lst ([s0,s1,s2,s3,t0,t1].map W.str)):=zag;simp only[List.cons_append,List.nil_append]at P2 fp fq⊢;generalize put (put S p _) q _=S3 at P2 fp fq⊢;simp only[zas P2.fa,zas P2.fb,zbI,zmK,List.getElem?_cons_succ,List.getElem?_cons_zero];refine⟨by decide,by decide,by decide,by decide,fun z hz=>?_⟩
 have hcut:=zfg (xs:=ns) (lo:=some 4) (hi:=some c);have all:∀x∈ [s0,s1,s2,s3,t0,t1],zcH x∨false=false∧zbY x:=fun x hx=>by
  rcases List.mem_append.mp (show x∈ [s0,s1,s2,s3]++[t0,t1] from hx) with z |z
  ·exact .inl (P.ss x z)
  ·exact .inr ⟨rfl,P.tt x z⟩
 have al8:∀x∈ [s0,s1,s2,s3,t0,t1],x.length≤8:=fun x hx=>by
  rcases all x hx with z |⟨_,z⟩
  ·exact zce z
  ·exact zcx z
 refine zeY (ns:=zbq ns (some 4) (some c)) (hs:=[s0,s1,s2,s3,t0,t1]) (ls:=[.nd s0 [], .nd t0 [], .nd s2 []]) (keep fp hz) (keep fq hz) (by rw [zag];simp [zaQ,enc]) (by simp) (by simp) (by simp [Tr.weight,wts]) (by omega) fun t hm hw=>?_;refine h _ t (P2.sub (.put .refl hz)) (zfi hm all fun l hl=>?_) (zdp hm al8 fun l hl=>?_) (by omega)
 ·simp only[List.mem_cons,List.not_mem_nil,or_false]at hl;rcases hl with rfl |rfl |rfl<;>exact .nd (all _ (by simp)) fun _ z=>nomatch z
 ·simp only[List.mem_cons,List.not_mem_nil,or_false]at hl;rcases hl with rfl |rfl |rfl<;>exact .nd (al8 _ (by simp)) fun _ z=>nomatch z
end
section
variable {S:Sto}{E:WX}{D:WEnds}{T:WS}{ns:List Int}{a b l:Addr}{t:Tr}{s0 s1 s2 s3 t0 t1:Str}{y3 y4 y5 y6 y7 y8 y9 y10:Option W}{c n:Int}
theorem zrv (P:P05 S a b s0 s1 s2 s3 t0 t1) (h:∀S' l (n:Int),0≤n→n<100→P05 S' a b s0 s1 s2 s3 t0 t1→S' l=some (.lst (zaQ [.nd s0 [], .bl 0, .nd s3 [], .bl n, .bl 2]))→T E D [some (.scr ns),some (.ref a),some (.ref b),y3,y4,some (.ref l),y6,y7,y8,y9,y10] S') :
  zcj 199 T E D [some (.scr ns),some (.ref a),some (.ref b),y3,y4,y5,y6,y7,y8,y9,y10] S:=by
 rw [zcj];walk_at "wp";simp only[zas P.fa,zbI,List.getElem?_cons_succ,List.getElem?_cons_zero];rw [show atI [W.str s0, .str s1, .str s2, .str s3] 3=some (.str s3) from rfl];refine⟨by decide,by decide,?_⟩
 refine zgU (by decide) (by decide) fun w h0 h1=>?_
 try walk_at "wp"
 refine⟨by decide,by decide,fun l hl=>?_⟩
 exact h _ l (w % 100) (Int.emod_nonneg _ (by decide)) (Int.emod_lt_of_pos _ (by decide)) (P.sub (.put .refl hl)) (by rw [zag];simp [zaQ,enc])
theorem zqN (hn:ns.length≤63) (h0:0≤n) (h1:n<100) (P:P05 S a b s0 s1 s2 s3 t0 t1) (fl:S l=some (.lst (zaQ [.nd s0 [], .bl 0, .nd s3 [], .bl n, .bl 2]))) (h:∀S' t,P05 S' a b s0 s1 s2 s3 t0 t1→Wrt true t→Plain t→t.weight≤2*(zbq ns (some c) (some 40)).length+1→T E D [some (.scr ns),some (.ref a),some (.ref b),some (.int c),y4,some (.ref l),some (enc t),y7,y8,y9,y10] S') :
  zck 199 T E D [some (.scr ns),some (.ref a),some (.ref b),some (.int c),y4,some (.ref l),y6,y7,y8,y9,y10] S:=by
 rw [zck];walk_at "wp";intro p hp;have s1':Sub S (put S p (.lst ((zbq ns (some c) (some 40)).map W.int))):= .put .refl hp;have P1:=P.sub s1';have fp:put S p (.lst ((zbq ns (some c) (some 40)).map W.int)) p=some (.lst ((zbq ns (some c) (some 40)).map W.int)):=zag;have fl1:=s1' _ _ fl;generalize put S p _=S3 at P1 fp fl1⊢;have hcut:=zfg (xs:=ns) (lo:=some c) (hi:=some 40);have all:∀x∈ [s0,s1,s2,s3],zcH x∨true=false∧zbY x:=fun x hx=> .inl (P.ss x hx);refine zeY (ns:=zbq ns (some c) (some 40)) (hs:=[s0,s1,s2,s3]) (ls:=[.nd s0 [], .bl 0, .nd s3 [], .bl n, .bl 2]) fp P1.fa fl1 (by simp) (by simp) (by simp [Tr.weight,wts]) (by omega) fun t hm hw=>?_;refine h _ t P1 (zfi hm all fun l hl=>?_) (zdp hm (fun x hx=>zce (P.ss x hx)) fun l hl=>?_) (by omega)
 ·simp only[List.mem_cons,List.not_mem_nil,or_false]at hl;rcases hl with rfl |rfl |rfl |rfl |rfl
  ·exact .nd (all _ (by simp)) fun _ z=>nomatch z
  ·exact .bl rfl (by decide) (by decide)
  ·exact .nd (all _ (by simp)) fun _ z=>nomatch z
  ·exact .bl rfl h0 h1
  ·exact .bl rfl (by decide) (by decide)
 ·simp only[List.mem_cons,List.not_mem_nil,or_false]at hl;rcases hl with rfl |rfl |rfl |rfl |rfl
  ·exact .nd (zce (P.ss _ (by simp))) fun _ z=>nomatch z
  ·exact .bl (by decide) (by decide)
  ·exact .nd (zce (P.ss _ (by simp))) fun _ z=>nomatch z
  ·exact .bl h0 (by omega)
  ·exact .bl (by decide) (by decide)
theorem zqT (hn:ns.length≤63) (hc0:0≤c) (hc1:c≤100) (P:P05 S a b s0 s1 s2 s3 t0 t1) (h:∀S' t,P05 S' a b s0 s1 s2 s3 t0 t1→Wrt true t→Plain t→t.weight≤2*(zbq ns (some c) (some (c+3))).length+1→T E D [some (.scr ns),some (.ref a),some (.ref b),some (.int c),y4,y5,y6,some (enc t),y8,y9,y10] S') :
  zca 199 T E D [some (.scr ns),some (.ref a),some (.ref b),some (.int c),y4,y5,y6,y7,y8,y9,y10] S:=by
 rw [zca];walk_at "wp";intro p hp;have s1':Sub S (put S p (.lst ((zbq ns (some c) (some (c+3))).map W.int))):= .put .refl hp;have P1:=P.sub s1';have fp:put S p (.lst ((zbq ns (some c) (some (c+3))).map W.int)) p=some (.lst ((zbq ns (some c) (some (c+3))).map W.int)):=zag;generalize put S p _=S3 at P1 fp⊢;simp only[zas P1.fa];rw [show atI [W.str s0, .str s1, .str s2, .str s3] 1=some (.str s1) from rfl];refine⟨by decide,by decide,fun z hz=>?_⟩
 have hcut:=zfg (xs:=ns) (lo:=some c) (hi:=some (c+3));have all:∀x∈ [s0,s1,s2,s3],zcH x∨true=false∧zbY x:=fun x hx=> .inl (P.ss x hx);refine zeY (ns:=zbq ns (some c) (some (c+3))) (hs:=[s0,s1,s2,s3]) (ls:=[.bl 1, .nd s1 []]) (keep fp hz) (keep P1.fa hz) (by rw [zag];simp [zaQ,enc]) (by simp) (by simp) (by simp [Tr.weight,wts]) (by omega) fun t hm hw=>?_;refine h _ t (P1.sub (.put .refl hz)) (zfi hm all fun l hl=>?_) (zdp hm (fun x hx=>zce (P.ss x hx)) fun l hl=>?_) (by omega)
 ·simp only[List.mem_cons,List.not_mem_nil,or_false]at hl;rcases hl with rfl |rfl
  ·exact .bl rfl (by decide) (by decide)
  ·exact .nd (all _ (by simp)) fun _ z=>nomatch z
 ·simp only[List.mem_cons,List.not_mem_nil,or_false]at hl;rcases hl with rfl |rfl
  ·exact .bl (by decide) (by decide)
  ·exact .nd (zce (P.ss _ (by simp))) fun _ z=>nomatch z
end
section
variable {S:Sto}{E:WX}{D:WEnds}{T:WS}{l:Addr}{t u v:Tr}{y0 y1 y2 y3 y5 y8 y9 y10:Option W}
theorem zrs (ht:Plain t∧t.weight≤127∧t.depth≤40) (hu:Plain u∧u.weight≤127∧u.depth≤40) (hv:Plain v∧v.weight≤127∧v.depth≤40) (h:∀S' l,Sub S S'→S' l=some (.lst [.str t.txt, .str u.txt, .str v.txt])→T E D [y0,y1,y2,y3,some (enc t),y5,some (enc u),some (enc v),some (.ref l),y9,y10] S') :
  zcl 199 T E D [y0,y1,y2,y3,some (enc t),y5,some (enc u),some (enc v),y8,y9,y10] S:=by
 rw [zcl];walk_at "wp";refine zcD 40 ht.2.2 (by decide) ht.1 (by omega) ?_;refine zcD 40 hu.2.2 (by decide) hu.1 (by omega) ?_;refine zcD 40 hv.2.2 (by decide) hv.1 (by omega) ?_;exact⟨by decide,fun l hl=>h _ l (.put .refl hl) zag⟩
end
section
variable {S:Sto}{E:WX}{D:WEnds}{T:WS}{b l:Addr}{t0 t1:Str}{y0 y1 y3 y4 y5 y6 y7 y9 y10:Option W}{x0 x1 x2:Str}
theorem zof (fb:S b=some (.lst [.str t0, .str t1])) (fl:S l=some (.lst [.str x0, .str x1, .str x2])) (h0:t1.length≤8) (h1:x1.length≤3000) (h2:x2.length≤3000) (h:T E D [y0,y1,some (.ref b),y3,y4,y5,y6,y7,some (.ref l),some (.str (t1++Str.ofString ": " ++x1++Str.ofString " > " ++x2)),y10] S) :
  zbL 199 T E D [y0,y1,some (.ref b),y3,y4,y5,y6,y7,some (.ref l),y9,y10] S:=by
 rw [zbL];walk_at "wp";simp only[zas fb,zas fl];rw [show atI [W.str t0, .str t1] 1=some (.str t1) from rfl];have al:∀p q:Str,(p++q).length=p.length+q.length:=fun p q=>by
  have e1:∀y:Str,y.length=(cl y).length:=fun y=>by simp [Str.length,cl]
  rw [e1,e1,e1,zaJ,List.length_append]
 have e5:=sl5;have e6:=sl6;walk_at "wp";refine⟨zah (by omega),?_⟩;rw [zas fl,show atI [W.str x0, .str x1, .str x2] 1=some (.str x1) from rfl];walk_at "wp";refine⟨zah (by rw [al];omega),zah (by rw [al,al];omega),?_⟩;rw [zas fl,show atI [W.str x0, .str x1, .str x2] 2=some (.str x2) from rfl];walk_at "wp";exact⟨zah (by rw [al,al,al];omega),h⟩
end
section
variable {S:Sto}{E:WX}{D:WEnds}{T:WS}{l:Addr}{t u v:Tr}{t1:Str}{y0 y1 y2 y3 y4 y5 y6 y7 y8 y9 y10:Option W}
structure Rdb (b:Bool) (t:Tr):Prop where
  w:Wrt b t
  g:t.weight≤127
  d:t.depth≤40
  s:t.small=true
  l:t.txt.length≤4000
theorem zpU (ht:zbY t1) (hu:Rdb true u) (hv:Rdb true v) (h4:u.txt.length+v.txt.length≤3900) (h:∀S',Sub S S'→T E D [y0,y1,y2,y3,y4,y5,y6,y7,y8,some (.str (t1++Str.ofString ": " ++u.txt++Str.ofString " > " ++v.txt)),some (.tup [.str t1,enc u,enc v])] S') :
  zbK 199 T E D [y0,y1,y2,y3,y4,y5,y6,y7,y8,some (.str (t1++Str.ofString ": " ++u.txt++Str.ofString " > " ++v.txt)),y10] S:=by
 rw [zbK];walk_at "wp";exact zls (r:=198) ht hu.w hv.w ⟨by have:=hu.g;omega,hu.d,hu.s⟩ ⟨by have:=hv.g;omega,hv.d,hv.s⟩ h4 (by decide) h
theorem zqM (fl:S l=some (.lst [.str t.txt, .str u.txt, .str v.txt])) (ht:Rdb false t) (hu:Rdb true u) (h:∀S',Sub S S'→T E D [y0,y1,y2,y3,some (enc t),y5,some (enc u),y7,some (.ref l),y9,y10] S') :
  zci 199 T E D [y0,y1,y2,y3,some (enc t),y5,some (enc u),y7,some (.ref l),y9,y10] S:=by
 rw [zci];walk_at "wp";rw [zas fl,zbI];refine zjV (r:=198) ht.w (by have:=ht.g;omega) ht.d ht.s ht.l (by decide) fun S1 s1=>?_
 try walk_at "wp"
 refine zdJ (n:=42) (r:=198) (by decide) (zfs t 42 (by have:=ht.d;omega) (by have:=ht.g;omega)) ?_
 try walk_at "wp"
 rw [zas (s1 _ _ fl),show atI [W.str t.txt, .str u.txt, .str v.txt] 1=some (.str u.txt) from rfl]
 try walk_at "wp"
 refine zeI (r:=198) hu.w (by have:=hu.g;omega) hu.d hu.s hu.l (by decide) fun S2 s2=>?_
 try walk_at "wp"
 refine zdJ (n:=42) (r:=198) (by decide) (zfs u 42 (by have:=hu.d;omega) (by have:=hu.g;omega)) ?_
 try walk_at "wp"
 exact h _ (s1.trans s2)
end
section
variable {S:Sto}{E:WX}{D:WEnds}{T:WS}{b l:Addr}{t u v:Tr}{t0 t1:Str}{y0 y1 y2 y3 y4 y5 y6 y7 y8 y9:Option W}
theorem znW (fb:S b=some (.lst [.str t0, .str t1])) (hu:Rdb true u) (hv:Rdb true v) (h:T E D [y0,y1,some (.ref b),y3,y4,y5,some (enc u),some (enc v),y8,y9,some (.tup [.str t1,enc u,enc v])] S) :
  zbN 199 T E D [y0,y1,some (.ref b),y3,y4,y5,some (enc u),some (enc v),y8,y9,some (.tup [.str t1,enc u,enc v])] S:=by
 rw [zbN];walk_at "wp";rw [zas fb,show atI [W.str t0, .str t1] 1=some (.str t1) from rfl];refine⟨by decide,?_⟩;refine zdJ (n:=43) (r:=198) (by decide) (.tup (by simp) (.cons (.str _ _) (.cons (zfs u 42 (by have:=hu.d;omega) (by have:=hu.g;omega)) (.cons (zfs v 42 (by have:=hv.d;omega) (by have:=hv.g;omega)) (.nil _))))) ?_
 try walk_at "wp"
 exact h
theorem zoL (fl:S l=some (.lst [.str t.txt, .str u.txt, .str v.txt])) (ht:Rdb false t) (pt:Plain t) (hu:Rdb true u) (pu:Plain u) (hv:Rdb true v) (pv:Plain v) (h4:u.txt.length+v.txt.length≤3900) (l3:t1.length≤8) (hD:∀w S',w= .bl true→D.rt w S') :
  zbO 199 E D [y0,y1,y2,y3,y4,y5,y6,y7,some (.ref l),some (.str (t1++Str.ofString ": " ++u.txt++Str.ofString " > " ++v.txt)),some (.tup [.str t1,enc u,enc v])] S:=by
 rw [zbO];walk_at "wp";rw [zas fl,zbI];refine zjV (r:=198) ht.w (by have:=ht.g;omega) ht.d ht.s ht.l (by decide) fun S1 s1=>?_
 try walk_at "wp"
 refine zdF (r:=198) 40 ht.d (by decide) pt (by have:=ht.g;omega) ?_
 try walk_at "wp"
 rw [zas (s1 _ _ fl),zbI];have e60:∀(S:Sto) (u v:Str),eqF S 60 (.str u) (.str v)=some (u == v):=fun _ _ _=>rfl;dsimp only;rw [e60,beq_self_eq_true];dsimp only;have lu:=hu.l;have lv:=hv.l;rw [show(199:Nat)=198+1 from rfl,zbi];walk_at "wp";rw [show atI [W.str t1,enc u,enc v] 1=some (enc u) from rfl];walk_at "wp";refine⟨zah (by rw [sl5];omega),?_⟩;refine zdF (r:=197) 40 hu.d (by decide) pu (by have:=hu.g;omega) ?_;walk_at "wp";refine⟨zah (by simp only[Str.length_append,sl5,sl6];omega),zah (by simp only[Str.length_append,sl5,sl6];omega),?_⟩;rw [show atI [W.str t1,enc u,enc v] 2=some (enc v) from rfl];refine zdF (r:=197) 40 hv.d (by decide) pv (by have:=hv.g;omega) ?_;walk_at "wp";refine⟨zah (by simp only[Str.length_append,sl5,sl6];omega),_, .refl,?_⟩;rw [beq_self_eq_true];exact hD _ _ rfl
end
theorem zdI{ns:List Int}(i j:Nat):(zbq ns (some (i:Int)) (some (j:Int))).length=min j ns.length - min i ns.length:=by
 unfold zbq;rw [HT.sIx_nat,HT.sIx_nat,List.length_take,List.length_drop];omega
theorem zjv{b:Bool}{t:Tr}(hw:Wrt b t) (hp:Plain t) (h:t.weight≤40):Rdb b t:=by
 have hd:=zcq t;have hl:=zcY hp;refine⟨hw,by omega,by omega,?_,by omega⟩
 unfold Tr.small;simp;omega
theorem zpa (ns:List Int) (hl:ns.length≤63):zbV 200 [.scr ns] (fun _=>none) (fun w _=>w= .bl true) (fun _ _=>False):=by
 rw [show(200:Nat)=199+1 from rfl,zbV,zlQ];refine⟨rfl,?_⟩;refine zqI fun S1 a s0 s1 s2 s3 fa hs=>zqr fa hs fun S2 b t0 t1 P=>zqx P fun S3 P=>?_;have c1:=zdI (ns:=ns) 4 40;obtain⟨m,hm⟩:∃m:Nat,(4:Int)+((zbq ns (some 4) (some 40)).length:Int) / 2=(m:Int):=⟨4+(zbq ns (some 4) (some 40)).length / 2,by omega⟩
 rw [hm];have c2:=zdI (ns:=ns) 4 m;have c3:=zdI (ns:=ns) m 40;have c4:=zdI (ns:=ns) m (m+3);have hc1:((4:Nat):Int)=4:=rfl;have hc2:((40:Nat):Int)=40:=rfl;have hc3:((m+3:Nat):Int)=(m:Int)+3:=by omega
 rw [hc1,hc2]at c1;rw [hc1]at c2;rw [hc2]at c3;rw [hc3]at c4;refine zqZ hl P fun S4 t P wt pt gt=>zrv P fun S5 l n n0 n1 P fl=>zqN hl n0 n1 P fl fun S6 u P wu pu gu=>zqT hl (by omega) (by omega) P fun S7 v P wv pv gv=>?_;have rt:=zjv wt pt (by omega);have ru:=zjv wu pu (by omega);have rv:=zjv wv pv (by omega);have lu:=zcY pu;have lv:=zcY pv;have h4:u.txt.length+v.txt.length≤3900:=by omega
 refine zrs ⟨pt,rt.g,rt.d⟩ ⟨pu,ru.g,ru.d⟩ ⟨pv,rv.g,rv.d⟩ fun S8 l2 s8 f8=>zqM f8 rt ru fun S9 s9=>?_;have P9:=P.sub (s8.trans s9);refine zof P9.fb (s9 _ _ f8) (zcx (P.tt _ (by simp))) (by omega) (by omega) (zpU (P.tt _ (by simp)) ru rv h4 fun S11 s11=>znW (s11 _ _ P9.fb) ru rv (zoL (s11 _ _ (s9 _ _ f8)) rt pt ru pu rv pv h4 (zcx (P.tt _ (by simp))) fun w S' e=>⟨_, .refl,e⟩))
end L2
end
end
section
namespace K05
open PySem L2 PyProof.Rows
noncomputable def top (i:Nat):Stmt:=PySem.Challenge.pw_turnweave_k05_read_there_and_back.main.body.getD i (.Pass ⟨0,0,0,0⟩)
structure Cal (P:Program) (w:World) (K:PySem.W.Frag) (mg:Str→Option Value) (base:Heap) (nm:Str) (ps:List Str) (c:Nat→WSp) where
  zf:Addr
  zd:FuncData
  zg:∀r,FnOk P w K mg base (CX1 P w) r zf zd ps (zaK K (c r))
  zb:Binds K zd ps []
  zk:PySem.W.keepIn K (.ref zf)=true
  zm:mg nm=some (.ref zf)
noncomputable def mkC {P:Program}{w:World}{K:PySem.W.Frag}{h:Heap}{mg:Str→Option Value}{base:Heap}{nm:Str}{st:Stmt}{ps:List Str}{c:Nat→WSp}{f:Addr}{d:FuncData}(X:K.In h) (G:h.Ns mainGlobals mg) (F:Fun K nm nm st f d) (a:PySem.W.nsIn K mainGlobals nm=some (some (.ref f))) (g:∀r,FnOk P w K mg base (CX1 P w) r f d ps (zaK K (c r))) (b:Binds K d ps []):Cal P w K mg base nm ps c:=⟨f,d,g,b,F.kp,PySem.W.mg_of X G a⟩
noncomputable def Dfn (K:PySem.W.Frag) (nm:Str) (st:Stmt):Prop:=∃f d,PySem.W.nsIn K mainGlobals nm=some (some (.ref f))∧Fun K nm nm st f d
theorem dfn{K:PySem.W.Frag}{x:Str}{st:Stmt}{f:Addr}{oc:Value}{od an:Option Addr}{osl:Array (Option Value)}{kV doc pm cdv ct:Value}(a:PySem.W.nsIn K mainGlobals x=some (some (.ref f))) (l:K.lookup f=some ⟨oc,od, .func (PySem.W.fnOf x x (zdu st) (zcW st) (zaj st) .none kV doc pm an cdv ct),osl⟩) (c:PySem.W.codeIn K cdv x=true) (k:PySem.W.keepIn K (.ref f)=true):Dfn K x st:=⟨f,_,a,zlZ l c k⟩
structure MCal (P:Program) (w:World) (K:PySem.W.Frag) (mg:Str→Option Value) (base:Heap) (C:Addr) (nm:Str) (ps:List Str) (c:Nat→WSp) where
  zf:Addr
  zd:FuncData
  zg:∀r,FnOk P w K mg base (CX1 P w) r zf zd ps (zaK K (c r))
  zb:Binds K zd ps []
  zh:Meth K C nm zf
structure PCal (P:Program) (w:World) (K:PySem.W.Frag) (mg:Str→Option Value) (base:Heap) (C:Addr) (nm:Str) (ps:List Str) (c:WSp→Nat→WSp) (fT:Addr) (dT:FuncData) (pT:List Str) where
  zf:Addr
  zd:FuncData
  zg:∀r cT,FnOk P w K mg base (CX1 P w) r fT dT pT (zaK K cT)→FnOk P w K mg base (CX1 P w) (r+1) zf zd ps (zaK K (c cT (r+1)))
  zb:Binds K zd ps []
  zh:Meth K C nm zf
structure Kls (K:PySem.W.Frag) (mg:Str→Option Value) (x:Str) where
  C:Addr
  hn:PySem.W.nsIn K mainGlobals x=some (some (.ref C))
  cc:Cls K C
  cm:mg x=some (.ref C)
noncomputable def znR (K:PySem.W.Frag) (C:Addr) (m qual:Str) (st:Stmt):Prop:=∃f d,PySem.W.findIn K (.ref C) m=some (some (.ref f))∧PySem.W.isFn K (.ref f)=true∧Fun K m qual st f d
theorem dfnM{K:PySem.W.Frag}{C:Addr}{m qual:Str}{st:Stmt}{f:Addr}{oc:Value}{od an:Option Addr}{osl:Array (Option Value)}{kV doc pm cdv ct:Value}(a:PySem.W.findIn K (.ref C) m=some (some (.ref f))) (i:PySem.W.isFn K (.ref f)=true) (l:K.lookup f=some ⟨oc,od, .func (PySem.W.fnOf m qual (zdu st) (zcW st) (zaj st) .none kV doc pm an cdv ct),osl⟩) (c:PySem.W.codeIn K cdv qual=true) (k:PySem.W.keepIn K (.ref f)=true):znR K C m qual st:=⟨f,_,a,i,zlZ l c k⟩
theorem nC{p:List Value→Prop}{k:Nat}(h:∀a us,us.length=k→p (a::us)):∀us,us.length=k+1→p us:=fun us e=>by
 cases us with
 |nil=>cases e
 |cons a us=>exact h a us (Nat.succ.inj e)
theorem n0{p:List Value→Prop}(h:p []):∀us,us.length=0→p us:=fun us e=>by
 cases us with
 |nil=>exact h
 |cons a us=>cases e
theorem n1{p:List Value→Prop}(h:∀a,p [a]):∀us,us.length=1→p us:=nC fun a=>n0 (p:=fun us=>p (a::us)) (h a)
theorem n2{p:List Value→Prop}(h:∀a b,p [a,b]):∀us,us.length=2→p us:=nC fun a=>n1 (p:=fun us=>p (a::us)) (h a)
theorem n3{p:List Value→Prop}(h:∀a b c,p [a,b,c]):∀us,us.length=3→p us:=nC fun a=>n2 (p:=fun us=>p (a::us)) (h a)
theorem n4{p:List Value→Prop}(h:∀a b c d,p [a,b,c,d]):∀us,us.length=4→p us:=nC fun a=>n3 (p:=fun us=>p (a::us)) (h a)
theorem n5{p:List Value→Prop}(h:∀a b c d e,p [a,b,c,d,e]):∀us,us.length=5→p us:=nC fun a=>n4 (p:=fun us=>p (a::us)) (h a)
theorem n6{p:List Value→Prop}(h:∀a b c d e f,p [a,b,c,d,e,f]):∀us,us.length=6→p us:=nC fun a=>n5 (p:=fun us=>p (a::us)) (h a)
local macro_rules | `(tactic| walk_at "sc") => `(tactic| (refine ⟨rfl, rfl, rfl, ?_, rfl, ?_, ?_⟩ <;> decide +kernel))
noncomputable abbrev Ok (P:Program) (w:World) (K:PySem.W.Frag) (mg:Str→Option Value) (base:Heap) (f:Addr) (d:FuncData) (ps:List Str) (c:Nat→WSp):Prop:=∀r,FnOk P w K mg base (CX1 P w) r f d ps (zaK K (c r))
theorem zdA{P:Program}{w:World}{K:PySem.W.Frag}{mg:Str→Option Value}{base:Heap}{f:Addr}{d:FuncData}{ps:List Str}{c:Nat→WSp}(h0:c 0=zbs) (h:∀r,FnOk P w K mg base (CX1 P w) r f d ps (zaK K (c r))→FnOk P w K mg base (CX1 P w) (r+1) f d ps (zaK K (c (r+1)))):Ok P w K mg base f d ps c:=fun r=>by
 induction r with
 |zero=>rw [h0];exact zjT
 |succ r ih=>exact h r ih
theorem znp{P:Program}{w:World}{K:PySem.W.Frag}{mg:Str→Option Value}{base:Heap}{f:Addr}{d:FuncData}{ps:List Str}{c:Nat→WSp}(h0:c 0=zbs) (h1:c 1=zbs) (h:∀r,FnOk P w K mg base (CX1 P w) r f d ps (zaK K (c r))→FnOk P w K mg base (CX1 P w) (r+2) f d ps (zaK K (c (r+2)))):Ok P w K mg base f d ps c
 |0=>by rw [h0];exact zjT
 |1=>by rw [h1];exact zjT
 |r+2=>h r (znp h0 h1 h r)
structure Ncl (mg:Str→Option Value) (x:Str) where
  xC:Addr
  xm:mg x=some (.ref xC)
theorem ziJ:bootBuiltins "ValueError" =some (.type "ValueError"):=by first |rfl |decide +kernel | (unfold bootBuiltins;decide +kernel)
noncomputable abbrev s0:Stmt:=top 6
theorem sc0:FnScope ["t"] ["t"] (zaj s0):=by walk_at "sc"
noncomputable abbrev s1:Stmt:=top 7
theorem sc1:FnScope ["things", "found", "thing"] ["things"] (zaj s1):=by walk_at "sc"
noncomputable abbrev s2:Stmt:=top 8
theorem sc2:FnScope ["t", "heavy", "deep", "level"] ["t"] (zaj s2):=by walk_at "sc"
noncomputable abbrev s3:Stmt:=top 14
theorem sc3:FnScope ["text"] ["text"] (zaj s3):=by walk_at "sc"
noncomputable abbrev s4:Stmt:=top 12
theorem sc4:FnScope ["text"] ["text"] (zaj s4):=by walk_at "sc"
noncomputable abbrev s5:Stmt:=top 13
theorem sc5:FnScope ["text"] ["text"] (zaj s5):=by walk_at "sc"
noncomputable abbrev s6:Stmt:=top 17
theorem sc6:FnScope ["number", "text", "rest"] ["number"] (zaj s6):=by walk_at "sc"
noncomputable abbrev s7:Stmt:=top 15
theorem sc7:FnScope ["t"] ["t"] (zaj s7):=by walk_at "sc"
noncomputable abbrev s8:Stmt:=top 16
theorem sc8:FnScope ["turning"] ["turning"] (zaj s8):=by walk_at "sc"
noncomputable abbrev s9:Stmt:=zeb (top 23) 0
theorem sc9:FnScope ["self", "text", "in_side"] ["self", "text", "in_side"] (zaj s9):=by walk_at "sc"
noncomputable abbrev s10:Stmt:=zeb (top 23) 1
theorem zse:FnScope ["self"] ["self"] (zaj s10):=by walk_at "sc"
noncomputable abbrev s11:Stmt:=zeb (top 23) 2
theorem sc11:FnScope ["self", "start"] ["self"] (zaj s11):=by walk_at "sc"
noncomputable abbrev s12:Stmt:=zeb (top 23) 4
theorem sc12:FnScope ["self", "room", "found"] ["self", "room"] (zaj s12):=by walk_at "sc"
noncomputable abbrev s13:Stmt:=top 25
theorem zrV:FnScope ["figures"] ["figures"] (zaj s13):=by walk_at "sc"
noncomputable abbrev s14:Stmt:=top 24
theorem zsy:FnScope ["word"] ["word"] (zaj s14):=by walk_at "sc"
noncomputable abbrev s15:Stmt:=zeb (top 23) 3
theorem sc15:FnScope ["self", "room", "word"] ["self", "room"] (zaj s15):=by walk_at "sc"
noncomputable abbrev s16:Stmt:=top 21
theorem zsp:FnScope ["text"] ["text"] (zaj s16):=by walk_at "sc"
noncomputable abbrev s17:Stmt:=top 22
theorem sc17:FnScope ["text", "in_side", "reader", "thing"] ["text", "in_side"] (zaj s17):=by walk_at "sc"
noncomputable abbrev s18:Stmt:=top 18
theorem zsl:FnScope ["text"] ["text"] (zaj s18):=by walk_at "sc"
noncomputable abbrev s19:Stmt:=top 19
theorem zsk:FnScope ["text"] ["text"] (zaj s19):=by walk_at "sc"
noncomputable abbrev s20:Stmt:=top 20
theorem sc20:FnScope ["text", "title_and_sides", "title", "sides"] ["text"] (zaj s20):=by walk_at "sc"
noncomputable abbrev s21:Stmt:=top 27
theorem sc21:FnScope ["script", "k", "cell", "mixed"] ["script", "k"] (zaj s21):=by walk_at "sc"
noncomputable abbrev s22:Stmt:=top 28
theorem sc22:FnScope ["script", "k", "many", "letters", "first", "spell", "row", "j", "size", "at", "words", "n"] ["script", "k", "many"] (zaj s22):=by walk_at "sc"
noncomputable abbrev s23:Stmt:=top 29
theorem sc23:FnScope ["script", "k", "many", "letters", "great"] ["script", "k", "many"] (zaj s23):=by walk_at "sc"
noncomputable abbrev s24:Stmt:=top 30
theorem sc24:FnScope ["stack", "cell", "heads", "leaves", "many", "pick"] ["stack", "cell", "heads", "leaves"] (zaj s24):=by walk_at "sc"
noncomputable abbrev s25:Stmt:=top 31
theorem sc25:FnScope ["cells", "heads", "leaves", "stack", "cell"] ["cells", "heads", "leaves"] (zaj s25):=by walk_at "sc"
noncomputable abbrev s26:Stmt:=top 32
theorem zrQ:FnScope ["found", "due"] ["found", "due"] (zaj s26):=by walk_at "sc"
noncomputable abbrev s27:Stmt:=top 33
theorem sc27:FnScope ["t", "row", "mark", "one"] ["t"] (zaj s27):=by walk_at "sc"
noncomputable abbrev s28:Stmt:=top 34
theorem sc28:FnScope ["script", "signs", "titles", "cut", "way", "leaves", "side", "other", "texts", "text", "found"] ["script"] (zaj s28):=by walk_at "sc"
section
variable (P:Program) (w:World) (K:PySem.W.Frag) (mg:Str→Option Value) (base:Heap)
noncomputable abbrev C0:=Cal P w K mg base "parts_of" ["t"] zbW
noncomputable abbrev C1:=Cal P w K mg base "parts_of_all" ["things"] zaY
noncomputable abbrev C2:=Cal P w K mg base "is_small" ["t"] zbU
noncomputable abbrev C3:=Cal P w K mg base "are_small_letters" ["text"] zav
noncomputable abbrev C4:=Cal P w K mg base "is_sign" ["text"] zcw
noncomputable abbrev C5:=Cal P w K mg base "is_title" ["text"] zbB
noncomputable abbrev C6:=Cal P w K mg base "shown_number" ["number"] zaX
noncomputable abbrev C7:=Cal P w K mg base "shown" ["t"] zcb
noncomputable abbrev C8:=Cal P w K mg base "shown_turning" ["turning"] zbi
noncomputable abbrev C9 (C:Addr):=MCal P w K mg base C "__init__" ["self", "text", "in_side"] zaN
noncomputable abbrev C10 (C:Addr):=MCal P w K mg base C "here" ["self"] zaF
noncomputable abbrev C11 (C:Addr):=MCal P w K mg base C "read_word" ["self"] zaI
noncomputable abbrev C12 (C fT:Addr) (dT:FuncData):=PCal P w K mg base C "read_parts" ["self", "room"] zan fT dT ["self", "room"]
noncomputable abbrev C13:=Cal P w K mg base "is_short_number" ["figures"] zaL
noncomputable abbrev C14:=Cal P w K mg base "is_blank_text" ["word"] zaA
noncomputable abbrev C15 (C:Addr):=MCal P w K mg base C "read_thing" ["self", "room"] zak
noncomputable abbrev C16:=Cal P w K mg base "check_text" ["text"] zbc
noncomputable abbrev C17:=Cal P w K mg base "read_whole" ["text", "in_side"] zbe
noncomputable abbrev C18:=Cal P w K mg base "read_way" ["text"] zbC
noncomputable abbrev C19:=Cal P w K mg base "read_side" ["text"] zbb
noncomputable abbrev C20:=Cal P w K mg base "read_turning" ["text"] zaW
noncomputable abbrev C21:=Cal P w K mg base "_law_draw" ["script", "k"] zba
noncomputable abbrev C22:=Cal P w K mg base "_law_signs" ["script", "k", "many"] zbf
noncomputable abbrev C23:=Cal P w K mg base "_law_titles" ["script", "k", "many"] zbj
noncomputable abbrev C24:=Cal P w K mg base "_law_pushed" ["stack", "cell", "heads", "leaves"] zbl
noncomputable abbrev C25:=Cal P w K mg base "_law_thing" ["cells", "heads", "leaves"] zaR
noncomputable abbrev C26:=Cal P w K mg base "_law_alike" ["found", "due"] zax
noncomputable abbrev C27:=Cal P w K mg base "_law_written" ["t"] zat
end
section
variable {P:Program}{w:World}{K:PySem.W.Frag}{mg:Str→Option Value}{base:Heap}
theorem o0{f:Addr}{d:FuncData}(F:Fun K "parts_of" "parts_of" s0 f d) (n_i:mg "isinstance" =none) (n_n:mg "int" =none):Ok P w K mg base f d ["t"] zbW:=zdA rfl fun r ih=>zbn F sc0 rfl rfl fun _ _ _ _ _ _ hr=>(zad (zbm (zaS (zbX rfl n_i rfl n_n PyProof.Rows.boot_int (jv 0) (by decide) (by decide) (zhX _ (by simp)))) (zai (zaq (zbG zac))) zaH)
  (zai (zaq (zcR (jv 0) (zaz zae) zbu))))
theorem o1{f:Addr}{d:FuncData}(F:Fun K "parts_of_all" "parts_of_all" s1 f d) (x0:C0 P w K mg base):Ok P w K mg base f d ["things"] zaY:=zdA rfl fun r ih=>zbn F sc1 rfl rfl fun _ _ _ _ _ _ hr=>(zad (zap (i:=1) sc1.nd rfl (Or.inl rfl) (zbF (zbJ zac)))
  (zad (zgg (zdz (jv 0)) (zbh (i:=2) sc1.nd rfl (Or.inl rfl)) (zai (zdq (zka (jv 1) (zaa (zal (x0.zg r) hr rfl x0.zm x0.zk x0.zb (zaa (jv 2) zac)) zac)))))
  (zai (zaq (jv 1)))))
theorem o2{f:Addr}{d:FuncData}(F:Fun K "is_small" "is_small" s2 f d) (x1:C1 P w K mg base) (n_l:mg "len" =none) {t_MOST_HEAVY:Tok}(g_MOST_HEAVY:mg "MOST_HEAVY" =some (.int 400 t_MOST_HEAVY)) {t_MOST_DEEP:Tok}(g_MOST_DEEP:mg "MOST_DEEP" =some (.int 40 t_MOST_DEEP)):Ok P w K mg base f d ["t"] zbU:=zdA rfl fun r ih=>zbn F sc2 rfl rfl fun _ _ _ _ _ _ hr=>(zad (zap (i:=1) sc2.nd rfl (Or.inl rfl) zae)
  (zad (zap (i:=2) sc2.nd rfl (Or.inl rfl) zae)
  (zad (zap (i:=3) sc2.nd rfl (Or.inl rfl) (zbF (zbJ (zaa (jv 0) zac))))
  (zad (zdg (zaS (jv 3)) (zad (zlU (i:=1) sc2.nd rfl (Or.inl rfl) (zbk rfl n_l (zaa (jv 3) zac)))
  (zad (zlU (i:=2) sc2.nd rfl (Or.inl rfl) zae)
  (zad (zbm (JW.jt (zjd (zkv (jv 1) (zdo rfl g_MOST_HEAVY)) (zfq (zkv (jv 2) (zdo rfl g_MOST_DEEP))))) (zai (zaq zen)) zaH)
  (zai (zap (i:=3) sc2.nd rfl (Or.inl rfl) (zal (x1.zg r) hr rfl x1.zm x1.zk x1.zb (zaa (jv 3) zac))))))))
  (zai (zaq zen))))))
theorem o3{f:Addr}{d:FuncData}(F:Fun K "are_small_letters" "are_small_letters" s3 f d) (n_a:mg "all" =none):Ok P w K mg base f d ["text"] zav:=zdA rfl fun r ih=>zbn F sc3 rfl rfl fun _ _ _ _ _ _ hr=>(zai (zaq (zgC rfl n_a (zct (N:=["letter"]) (k:=1) (fr:=[]) ⟨rfl,by decide +kernel,rfl,rfl,rfl,rfl,rfl,rfl,rfl⟩ (zdz (jv 0)) (fun _ _ _ _=>(zbh (i:=0) (show List.Nodup [("letter" :Str)] from by decide +kernel) rfl (Or.inl rfl))) (fun _ _ _ _=>zcu) (fun _ _ _ _=>(zdO zar (jv 0) zar))))))
theorem o4{f:Addr}{d:FuncData}(F:Fun K "is_sign" "is_sign" s4 f d) (x3:C3 P w K mg base) (n_l:mg "len" =none) {t_MOST_LETTERS:Tok}(g_MOST_LETTERS:mg "MOST_LETTERS" =some (.int 8 t_MOST_LETTERS)):Ok P w K mg base f d ["text"] zcw:=zdA rfl fun r ih=>zbn F sc4 rfl rfl fun _ _ _ _ _ _ hr=>(zai (zaq (zdi (zdO zae (zbk rfl n_l (zaa (jv 0) zac)) (zdo rfl g_MOST_LETTERS)) (zdw (zal (x3.zg r) hr rfl x3.zm x3.zk x3.zb (zaa (jv 0) zac))))))
theorem o5{f:Addr}{d:FuncData}(F:Fun K "is_title" "is_title" s5 f d) (x3:C3 P w K mg base) (n_l:mg "len" =none) {t_MOST_LETTERS:Tok}(g_MOST_LETTERS:mg "MOST_LETTERS" =some (.int 8 t_MOST_LETTERS)):Ok P w K mg base f d ["text"] zbB:=zdA rfl fun r ih=>zbn F sc5 rfl rfl fun _ _ _ _ _ _ hr=>(zai (zaq (zdi (zdO zae (zbk rfl n_l (zaa (jv 0) zac)) (zdo rfl g_MOST_LETTERS)) (zdi (zdO zar (zaP (jv 0) zae) zar) (zdw (zal (x3.zg r) hr rfl x3.zm x3.zk x3.zb (zaa (zcR (jv 0) (zaz zae) zbu) zac)))))))
theorem o6{f:Addr}{d:FuncData}(F:Fun K "shown_number" "shown_number" s6 f d) (n_c:mg "str" =none):Ok P w K mg base f d ["number"] zaX:=zdA rfl fun r ih=>zbn F sc6 rfl rfl fun _ _ _ _ _ _ hr=>(zad (zap (i:=1) sc6.nd rfl (Or.inl rfl) zar)
  (zad (zap (i:=2) sc6.nd rfl (Or.inl rfl) (jv 0))
  (zad (zdg (zqX (jv 2) (zft zae zae)) (zad zlh
  (zai (zap (i:=2) sc6.nd rfl (Or.inl rfl) (zds (jv 2) (zft zae zae))))))
  (zai (zaq (zaD (zjG rfl n_c (zaa (jv 2) zac)) (jv 1)))))))
theorem o7{f:Addr}{d:FuncData}(F:Fun K "shown" "shown" s7 f d) (x6:C6 P w K mg base) (b:Binds K d ["t"] []) (m:mg "shown" =some (.ref f)) (n_i:mg "isinstance" =none) (n_n:mg "int" =none) (n_l:mg "len" =none):Ok P w K mg base f d ["t"] zcb:=zdA rfl fun r ih=>zbn F sc7 rfl rfl fun _ _ _ _ _ _ hr=>(zad (zbm (zaS (zbX rfl n_i rfl n_n PyProof.Rows.boot_int (jv 0) (by decide) (by decide) (zhX _ (by simp)))) (zai (zaq (zaD zar (zal (x6.zg r) hr rfl x6.zm x6.zk x6.zb (zaa (jv 0) zac))))) zaH)
  (zad (zbm (zgn hr (zbk rfl n_l (zaa (jv 0) zac)) zae) (zai (zaq (zaP (jv 0) zae))) zaH)
  (zai (zaq (zaD (zaD (zaD (zaP (jv 0) zae) zar) (zfb zar (zct (N:=["inner"]) (k:=1) (fr:=[]) ⟨rfl,by decide +kernel,rfl,rfl,rfl,rfl,rfl,rfl,rfl⟩ (zdz (zcR (jv 0) (zaz zae) zbu)) (fun _ _ _ _=>(zbh (i:=0) (show List.Nodup [("inner" :Str)] from by decide +kernel) rfl (Or.inl rfl))) (fun _ _ _ _=>zcu) (fun _ _ _ _=>(zal ih hr rfl m F.kp b (zaa (jv 0) zac)))))) zar)))))
theorem o8{f:Addr}{d:FuncData}(F:Fun K "shown_turning" "shown_turning" s8 f d) (x7:C7 P w K mg base):Ok P w K mg base f d ["turning"] zbi:=zdA rfl fun r ih=>zbn F sc8 rfl rfl fun _ _ _ _ _ _ hr=>(zai (zaq (zaD (zaD (zaD (zaD (zaP (jv 0) zae) zar) (zal (x7.zg r) hr rfl x7.zm x7.zk x7.zb (zaa (zaP (jv 0) zae) zac))) zar) (zal (x7.zg r) hr rfl x7.zm x7.zk x7.zb (zaa (zaP (jv 0) zae) zac)))))
theorem o9{f:Addr}{d:FuncData}(F:Fun K "__init__" "Reader.__init__" s9 f d) (kl_Reader:Kls K mg "Reader") (a_Reader_at:NoAttr K kl_Reader.C "at") (a_Reader_in_side:NoAttr K kl_Reader.C "in_side") (a_Reader_text:NoAttr K kl_Reader.C "text"):Ok P w K mg base f d ["self", "text", "in_side"] zaN:=zdA rfl fun r ih=>zbn F sc9 rfl rfl fun _ _ _ _ _ _ hr=>(zad (zjx kl_Reader.hn kl_Reader.cc a_Reader_text (jv 0) (jv 1))
  (zad (zjx kl_Reader.hn kl_Reader.cc a_Reader_in_side (jv 0) (jv 2))
  (zai (zjx kl_Reader.hn kl_Reader.cc a_Reader_at (jv 0) zae))))
theorem o10{f:Addr}{d:FuncData}(F:Fun K "here" "Reader.here" s10 f d) (kl_Reader:Kls K mg "Reader") (a_Reader_at:NoAttr K kl_Reader.C "at") (a_Reader_text:NoAttr K kl_Reader.C "text"):Ok P w K mg base f d ["self"] zaF:=zdA rfl fun r ih=>zbn F zse rfl rfl fun _ _ _ _ _ _ hr=>(zai (zaq (zcR (zdh kl_Reader.hn kl_Reader.cc a_Reader_text (jv 0)) (zaz (zdh kl_Reader.hn kl_Reader.cc a_Reader_at (jv 0))) (zaz (zaD (zdh kl_Reader.hn kl_Reader.cc a_Reader_at (jv 0)) zae)))))
theorem o11{f:Addr}{d:FuncData}(F:Fun K "read_word" "Reader.read_word" s11 f d) (kl_Reader:Kls K mg "Reader") (a_Reader_at:NoAttr K kl_Reader.C "at") (a_Reader_text:NoAttr K kl_Reader.C "text") (x10:C10 P w K mg base kl_Reader.C):Ok P w K mg base f d ["self"] zaI:=zdA rfl fun r ih=>zbn F sc11 rfl rfl fun _ _ _ _ _ _ hr=>(zad (zap (i:=1) sc11.nd rfl (Or.inl rfl) (zdh kl_Reader.hn kl_Reader.cc a_Reader_at (jv 0)))
  (zad (zdg (zky hr (zde kl_Reader.hn kl_Reader.cc x10.zh (x10.zg r) hr x10.zb (jv 0)) (zbG (zaa zar (zaa zar (zaa zar (zaa zar zac)))))) (zai (zgR kl_Reader.hn kl_Reader.cc a_Reader_at (jv 0) zae)))
  (zai (zaq (zcR (zdh kl_Reader.hn kl_Reader.cc a_Reader_text (jv 0)) (zaz (jv 1)) (zaz (zdh kl_Reader.hn kl_Reader.cc a_Reader_at (jv 0))))))))
theorem o12{f:Addr}{d:FuncData}(F:Fun K "read_parts" "Reader.read_parts" s12 f d) (kl_Reader:Kls K mg "Reader") (a_Reader_at:NoAttr K kl_Reader.C "at") {fT:Addr}{dT:FuncData}(bT:Binds K dT ["self", "room"] []) (hT:Meth K kl_Reader.C "read_thing" fT) (x10:C10 P w K mg base kl_Reader.C) (n_t:mg "tuple" =none) (y_NoText:Ncl mg "NoText") (v_NoText:XcIn K "NoText" y_NoText.xC):∀r cT,FnOk P w K mg base (CX1 P w) r fT dT ["self", "room"] (zaK K cT)→FnOk P w K mg base (CX1 P w) (r+1) f d ["self", "room"] (zaK K (zan cT (r+1))):=fun r cT gT=>zbn F sc12 rfl rfl fun _ _ _ _ _ _ hr=>(zad (zbm (zle hr (zde kl_Reader.hn kl_Reader.cc x10.zh (x10.zg r) hr x10.zb (jv 0)) zar) (zai (zaq (zbG zac))) zaH)
  (zad (zap (i:=2) sc12.nd rfl (Or.inl rfl) (zbF (zbJ zac)))
  (zad (zdg (JW.jt (zjd (zcm (zaS (jv 2))) (zfq (zgn hr (zde kl_Reader.hn kl_Reader.cc x10.zh (x10.zg r) hr x10.zb (jv 0)) zar)))) (zad (zgR kl_Reader.hn kl_Reader.cc a_Reader_at (jv 0) zae)
  (zai (zdq (zdM (jv 2) (zaa (zgN kl_Reader.hn kl_Reader.cc hT gT hr bT (jv 0) (zaa (jv 1) zac)) zac))))))
  (zad (zbm (zle hr (zde kl_Reader.hn kl_Reader.cc x10.zh (x10.zg r) hr x10.zb (jv 0)) zar) (zai (zbH v_NoText rfl y_NoText.xm (zaa zar zac))) zaH)
  (zad (zgR kl_Reader.hn kl_Reader.cc a_Reader_at (jv 0) zae)
  (zai (zaq (zli rfl n_t (zaa (jv 2) zac)))))))))
theorem o13{f:Addr}{d:FuncData}(F:Fun K "is_short_number" "is_short_number" s13 f d) (n_a:mg "all" =none) (n_l:mg "len" =none):Ok P w K mg base f d ["figures"] zaL:=zdA rfl fun r ih=>zbn F zrV rfl rfl fun _ _ _ _ _ _ hr=>(zad (zbm (zcm (zaS (zgC rfl n_a (zct (N:=["figure"]) (k:=1) (fr:=[]) ⟨rfl,by decide +kernel,rfl,rfl,rfl,rfl,rfl,rfl,rfl⟩ (zdz (jv 0)) (fun _ _ _ _=>(zbh (i:=0) (show List.Nodup [("figure" :Str)] from by decide +kernel) rfl (Or.inl rfl))) (fun _ _ _ _=>zcu) (fun _ _ _ _=>(zdO zar (jv 0) zar)))))) (zai (zaq zen)) zaH)
  (zai (zaq (zre (zfR hr (zbk rfl n_l (zaa (jv 0) zac)) zae) (zdw (zdi (zfR hr (zbk rfl n_l (zaa (jv 0) zac)) zae) (zdw (zqK hr (zaP (jv 0) zae) zar))))))))
theorem o14{f:Addr}{d:FuncData}(F:Fun K "is_blank_text" "is_blank_text" s14 f d) (x13:C13 P w K mg base):Ok P w K mg base f d ["word"] zaA:=zdA rfl fun r ih=>zbn F zsy rfl rfl fun _ _ _ _ _ _ hr=>(zai (zaq (zdi (zfR hr (zcR (jv 0) zbu (zaz zae)) zar) (zdw (zal (x13.zg r) hr rfl x13.zm x13.zk x13.zb (zaa (zcR (jv 0) (zaz zae) zbu) zac))))))
theorem o15{f:Addr}{d:FuncData}(F:Fun K "read_thing" "Reader.read_thing" s15 f d) (kl_Reader:Kls K mg "Reader") (a_Reader_in_side:NoAttr K kl_Reader.C "in_side") (x11:C11 P w K mg base kl_Reader.C) (x12:C12 P w K mg base kl_Reader.C f d) (x14:C14 P w K mg base) (x4:C4 P w K mg base) (x5:C5 P w K mg base) (n_n:mg "int" =none) (y_NoText:Ncl mg "NoText") (v_NoText:XcIn K "NoText" y_NoText.xC):Ok P w K mg base f d ["self", "room"] zak:=znp rfl rfl fun r ih=>zbn F sc15 rfl rfl fun _ _ _ _ _ _ hr=>(zad (zbm (zgn hr (jv 1) zae) (zai (zbH v_NoText rfl y_NoText.xm (zaa zar zac))) zaH)
  (zad (zap (i:=2) sc15.nd rfl (Or.inl rfl) (zde kl_Reader.hn kl_Reader.cc x11.zh (x11.zg (r+1)) hr x11.zb (jv 0)))
  (zad (zbm (JW.jt (zho (zaS (zdh kl_Reader.hn kl_Reader.cc a_Reader_in_side (jv 0))) (zeT (zaS (zal (x14.zg (r+1)) hr rfl x14.zm x14.zk x14.zb (zaa (jv 2) zac)))))) (zai (zaq (zmZ rfl n_n (zaa (zcR (jv 2) (zaz zae) zbu) zac)))) zaH)
  (zad (zbm (JW.jt (zho (zcm (zaS (zal (x4.zg (r+1)) hr rfl x4.zm x4.zk x4.zb (zaa (jv 2) zac)))) (zeT (JW.jt (zjd (zaS (zdh kl_Reader.hn kl_Reader.cc a_Reader_in_side (jv 0))) (zfq (zcm (zaS (zal (x5.zg (r+1)) hr rfl x5.zm x5.zk x5.zb (zaa (jv 2) zac)))))))))) (zai (zbH v_NoText rfl y_NoText.xm (zaa zar zac))) zaH)
  (zai (zaq (zaD (zbG (zaa (jv 2) zac)) (zgN kl_Reader.hn kl_Reader.cc x12.zh (x12.zg r _ ih) hr x12.zb (jv 0) (zaa (zpk (jv 1) zae) zac)))))))))
theorem o16{f:Addr}{d:FuncData}(F:Fun K "check_text" "check_text" s16 f d) (n_i:mg "isinstance" =none) (n_c:mg "str" =none) (n_l:mg "len" =none) {t_MOST_SIGNS:Tok}(g_MOST_SIGNS:mg "MOST_SIGNS" =some (.int 4000 t_MOST_SIGNS)) (y_NoText:Ncl mg "NoText") (v_NoText:XcIn K "NoText" y_NoText.xC):Ok P w K mg base f d ["text"] zbc:=zdA rfl fun r ih=>zbn F zsp rfl rfl fun _ _ _ _ _ _ hr=>(zad (zbm (zcm (zaS (zbX rfl n_i rfl n_c PyProof.Rows.boot_str (jv 0) (by decide) (by decide) (zhX _ (by simp))))) (zai (zbH v_NoText rfl y_NoText.xm (zaa zar zac))) zaH)
  (zai (zbm (zkv (zbk rfl n_l (zaa (jv 0) zac)) (zdo rfl g_MOST_SIGNS)) (zai (zbH v_NoText rfl y_NoText.xm (zaa zar zac))) zaH)))
theorem o17{f:Addr}{d:FuncData}(F:Fun K "read_whole" "read_whole" s17 f d) (kl_Reader:Kls K mg "Reader") (a_Reader_at:NoAttr K kl_Reader.C "at") (x9:C9 P w K mg base kl_Reader.C) (x15:C15 P w K mg base kl_Reader.C) (x16:C16 P w K mg base) (x2:C2 P w K mg base) (M_Reader:Mk K kl_Reader.C x9.zf) (n_l:mg "len" =none) {t_MOST_DEEP:Tok}(g_MOST_DEEP:mg "MOST_DEEP" =some (.int 40 t_MOST_DEEP)) (y_NoText:Ncl mg "NoText") (v_NoText:XcIn K "NoText" y_NoText.xC):Ok P w K mg base f d ["text", "in_side"] zbe:=znp rfl rfl fun r ih=>zbn F sc17 rfl rfl fun _ _ _ _ _ _ hr=>(zad (zdq (zal (x16.zg (r+1)) hr rfl x16.zm x16.zk x16.zb (zaa (jv 0) zac)))
  (zad (zap (i:=2) sc17.nd rfl (Or.inl rfl) (zmG kl_Reader.hn M_Reader (x9.zg r) hr rfl kl_Reader.cm x9.zb (zaa (jv 0) (zaa (jv 1) zac))))
  (zad (zap (i:=3) sc17.nd rfl (Or.inl rfl) (zgN kl_Reader.hn kl_Reader.cc x15.zh (x15.zg (r+1)) hr x15.zb (jv 2) (zaa (zdo rfl g_MOST_DEEP) zac)))
  (zad (zbm (zle hr (zdh kl_Reader.hn kl_Reader.cc a_Reader_at (jv 2)) (zbk rfl n_l (zaa (jv 0) zac))) (zai (zbH v_NoText rfl y_NoText.xm (zaa zar zac))) zaH)
  (zad (zbm (zcm (zaS (zal (x2.zg (r+1)) hr rfl x2.zm x2.zk x2.zb (zaa (jv 3) zac)))) (zai (zbH v_NoText rfl y_NoText.xm (zaa zar zac))) zaH)
  (zai (zaq (jv 3))))))))
theorem o18{f:Addr}{d:FuncData}(F:Fun K "read_way" "read_way" s18 f d) (x17:C17 P w K mg base):Ok P w K mg base f d ["text"] zbC:=zdA rfl fun r ih=>zbn F zsl rfl rfl fun _ _ _ _ _ _ hr=>(zai (zaq (zal (x17.zg r) hr rfl x17.zm x17.zk x17.zb (zaa (jv 0) (zaa zen zac)))))
theorem o19{f:Addr}{d:FuncData}(F:Fun K "read_side" "read_side" s19 f d) (x17:C17 P w K mg base):Ok P w K mg base f d ["text"] zbb:=zdA rfl fun r ih=>zbn F zsk rfl rfl fun _ _ _ _ _ _ hr=>(zai (zaq (zal (x17.zg r) hr rfl x17.zm x17.zk x17.zb (zaa (jv 0) (zaa zen zac)))))
theorem o20{f:Addr}{d:FuncData}(F:Fun K "read_turning" "read_turning" s20 f d) (x16:C16 P w K mg base) (x5:C5 P w K mg base) (x19:C19 P w K mg base) (y_NoText:Ncl mg "NoText") (v_NoText:XcIn K "NoText" y_NoText.xC):Ok P w K mg base f d ["text"] zaW:=zdA rfl fun r ih=>zbn F sc20 rfl rfl fun _ _ _ _ _ _ hr=>(zad (zdq (zal (x16.zg r) hr rfl x16.zm x16.zk x16.zb (zaa (jv 0) zac)))
  (zad (zap (i:=1) sc20.nd rfl (Or.inl rfl) (zdx (jv 0) (zaa zar zac)))
  (zad (zap (i:=2) sc20.nd rfl (Or.inl rfl) (zaP (jv 1) zae))
  (zad (zap (i:=3) sc20.nd rfl (Or.inl rfl) (zdx (zaP (jv 1) zae) (zaa zar zac)))
  (zad (zbm (zcm (zaS (zal (x5.zg r) hr rfl x5.zm x5.zk x5.zb (zaa (jv 2) zac)))) (zai (zbH v_NoText rfl y_NoText.xm (zaa zar zac))) zaH)
  (zai (zaq (zbG (zaa (jv 2) (zaa (zal (x19.zg r) hr rfl x19.zm x19.zk x19.zb (zaa (zaP (jv 3) zae) zac)) (zaa (zal (x19.zg r) hr rfl x19.zm x19.zk x19.zb (zaa (zaP (jv 3) zae) zac)) zac)))))))))))
theorem o21{f:Addr}{d:FuncData}(F:Fun K "_law_draw" "_law_draw" s21 f d) (n_l:mg "len" =none):Ok P w K mg base f d ["script", "k"] zba:=zdA rfl fun r ih=>zbn F sc21 rfl rfl fun _ _ _ _ _ _ hr=>(zad (zbm (zgn hr (zbk rfl n_l (zaa (jv 0) zac)) zae) (zai (zaq zae)) zaH)
  (zad (zap (i:=2) sc21.nd rfl (Or.inl rfl) (zbD (zaP (jv 0) (zbD (jv 1) (zbk rfl n_l (zaa (jv 0) zac)))) (zft zae zae)))
  (zad (zbm (znU (jv 1) (zbk rfl n_l (zaa (jv 0) zac))) (zai (zaq (jv 2))) zaH)
  (zad (zap (i:=3) sc21.nd rfl (Or.inl rfl) (zbD (zaD (zaD (jv 2) (zfD (zfD zae (jv 1)) (jv 1))) zae) zae))
  (zai (zaq (zbD (zfD (jv 3) (jv 3)) zae)))))))
theorem o22{f:Addr}{d:FuncData}(F:Fun K "_law_signs" "_law_signs" s22 f d) (x21:C21 P w K mg base) (n_r:mg "range" =none) (n_n:mg "int" =none):Ok P w K mg base f d ["script", "k", "many"] zbf:=zdA rfl fun r ih=>zbn F sc22 rfl rfl fun _ _ _ _ _ _ hr=>(zad (zap (i:=3) sc22.nd rfl (Or.inr rfl) zar)
  (zad (zap (i:=4) sc22.nd rfl (Or.inl rfl) (zal (x21.zg r) hr rfl x21.zm x21.zk x21.zb (zaa (jv 0) (zaa (jv 1) zac))))
  (zad (zap (i:=5) sc22.nd rfl (Or.inl rfl) (zbD (zfD (zal (x21.zg r) hr rfl x21.zm x21.zk x21.zb (zaa (jv 0) (zaa (zaD (jv 1) zae) zac))) zae) (zft zae zae)))
  (zad (zap (i:=6) sc22.nd rfl (Or.inr rfl) (zbF (zbJ zac)))
  (zad (zgg (zdK rfl n_r (zaa zae zac)) (zbh (i:=7) sc22.nd rfl (Or.inl rfl)) (zad (zdq (zdM (jv 6) (zaa (zbD (jv 5) zae) zac)))
  (zai (zap (i:=5) sc22.nd rfl (Or.inl rfl) (zds (jv 5) zae)))))
  (zad (zbm (zgn hr (zbD (jv 4) zae) zae) (zai (zaq (zbF (zct (N:=["j", "letters", "row"]) (k:=1) (fr:=[3,6]) ⟨rfl,by decide +kernel,rfl,rfl,rfl,rfl,rfl,rfl,rfl⟩ (zdK rfl n_r (zaa (jv 2) zac)) (fun _ _ _ _=>(zbh (i:=0) (show List.Nodup [("j" :Str),("letters" :Str),("row" :Str)] from by decide +kernel) rfl (Or.inl rfl))) (fun _ _ _ _=>zcu) (fun _ _ _ _=>(zfb zar (zct (N:=["n", "letters"]) (k:=1) (fr:=[1]) ⟨rfl,by decide +kernel,rfl,rfl,rfl,rfl,rfl,rfl,rfl⟩ (zdz (zcR (jv 2) zbu (zaz (zaD (jv 0) zae)))) (fun _ _ _ _=>(zbh (i:=0) (show List.Nodup [("n" :Str),("letters" :Str)] from by decide +kernel) rfl (Or.inl rfl))) (fun _ _ _ _=>zcu) (fun _ _ _ _=>(zaP (jv 1) (jv 0)))))))))) zaH)
  (zad (zap (i:=8) sc22.nd rfl (Or.inl rfl) (zaD zae (zbD (zds (jv 4) zae) zae)))
  (zad (zap (i:=9) sc22.nd rfl (Or.inr rfl) (zbD (zds (jv 4) zae) (jv 8)))
  (zad (zap (i:=10) sc22.nd rfl (Or.inl rfl) (zbF (zbJ zac)))
  (zad (zgg (zdK rfl n_r (zaa (jv 2) zac)) (zbh (i:=11) sc22.nd rfl (Or.inr rfl)) (zai (zdq (zdM (jv 10) (zaa (zfb zar (zct (N:=["j", "letters", "row", "n", "at"]) (k:=1) (fr:=[3,6,11,9]) ⟨rfl,by decide +kernel,rfl,rfl,rfl,rfl,rfl,rfl,rfl⟩ (zdK rfl n_r (zaa (jv 8) zac)) (fun _ _ _ _=>(zbh (i:=0) (show List.Nodup [("j" :Str),("letters" :Str),("row" :Str),("n" :Str),("at" :Str)] from by decide +kernel) rfl (Or.inl rfl))) (fun _ _ _ _=>zcu) (fun _ _ _ _=>(zaP (jv 1) (zbD (zaD (zaP (jv 2) (jv 0)) (zfD (jv 3) (znJ rfl n_n (zaa (zfR hr (jv 0) (jv 4)) zac)))) zae))))) zac)))))
  (zai (zaq (jv 10)))))))))))))
theorem o23{f:Addr}{d:FuncData}(F:Fun K "_law_titles" "_law_titles" s23 f d) (x22:C22 P w K mg base):Ok P w K mg base f d ["script", "k", "many"] zbj:=zdA rfl fun r ih=>zbn F sc23 rfl rfl fun _ _ _ _ _ _ hr=>(zad (zap (i:=3) sc23.nd rfl (Or.inr rfl) zar)
  (zad (zap (i:=4) sc23.nd rfl (Or.inr rfl) zar)
  (zai (zaq (zbF (zct (N:=["word", "great", "letters"]) (k:=1) (fr:=[4,3]) ⟨rfl,by decide +kernel,rfl,rfl,rfl,rfl,rfl,rfl,rfl⟩ (zdz (zal (x22.zg r) hr rfl x22.zm x22.zk x22.zb (zaa (jv 0) (zaa (jv 1) (zaa (jv 2) zac))))) (fun _ _ _ _=>(zbh (i:=0) (show List.Nodup [("word" :Str),("great" :Str),("letters" :Str)] from by decide +kernel) rfl (Or.inl rfl))) (fun _ _ _ _=>zcu) (fun _ _ _ _=>(zaD (zaP (jv 1) (zlj (jv 2) (zaa (zaP (jv 0) zae) zac))) (zcR (jv 0) (zaz zae) zbu)))))))))
theorem o24{f:Addr}{d:FuncData}(F:Fun K "_law_pushed" "_law_pushed" s24 f d) (n_l:mg "len" =none) (n_t:mg "tuple" =none):Ok P w K mg base f d ["stack", "cell", "heads", "leaves"] zbl:=zdA rfl fun r ih=>zbn F sc24 rfl rfl fun _ _ _ _ _ _ hr=>(zad (zap (i:=4) sc24.nd rfl (Or.inl rfl) (zpH (zbJ (zaa zae (zaa zae (zaa zae (zaa zae (zaa zae zac)))))) (zbD (jv 1) zae)))
  (zad (zap (i:=5) sc24.nd rfl (Or.inl rfl) (zds (jv 1) zae))
  (zad (zbm (JW.jt (zjd (zgn hr (jv 4) zae) (zfq (znU (zbk rfl n_l (zaa (jv 0) zac)) (jv 4))))) (zai (zaq (zbF (zmQ (jv 0) (zbJ (zaa (zaP (jv 3) (zbD (jv 5) (zbk rfl n_l (zaa (jv 3) zac)))) zac)))))) zaH)
  (zai (zaq (zbF (ziH (zmS (jv 0) zbu (zaz (zfZ (jv 4)))) (zbJ (zaa (zaD (zbG (zaa (zaP (jv 2) (zbD (jv 5) (zbk rfl n_l (zaa (jv 2) zac)))) zac)) (ziN rfl n_t (zmS (jv 0) (zaz (zfZ (jv 4))) zbu))) zac)))))))))
theorem o25{f:Addr}{d:FuncData}(F:Fun K "_law_thing" "_law_thing" s25 f d) (x24:C24 P w K mg base) (n_l:mg "len" =none):Ok P w K mg base f d ["cells", "heads", "leaves"] zaR:=zdA rfl fun r ih=>zbn F sc25 rfl rfl fun _ _ _ _ _ _ hr=>(zad (zap (i:=3) sc25.nd rfl (Or.inl rfl) (zbF (zbJ zac)))
  (zad (zgg (zdz (jv 0)) (zbh (i:=4) sc25.nd rfl (Or.inl rfl)) (zai (zap (i:=3) sc25.nd rfl (Or.inl rfl) (zal (x24.zg r) hr rfl x24.zm x24.zk x24.zb (zaa (jv 3) (zaa (zbD (jv 4) (zft zae zae)) (zaa (jv 1) (zaa (jv 2) zac))))))))
  (zad (zbm (zgn hr (zbk rfl n_l (zaa (jv 3) zac)) zae) (zai (zaq (zaP (jv 2) zae))) zaH)
  (zad (zdg (zkv (zbk rfl n_l (zaa (jv 3) zac)) zae) (zai (zap (i:=3) sc25.nd rfl (Or.inl rfl) (zbF (ziH (zmS (jv 3) zbu (zaz (zfZ zae))) (zbJ (zaa (zbG (zaa (zaP (jv 1) zae) (zaa (zaP (jv 3) (zfZ zae)) (zaa (zaP (jv 3) (zfZ zae)) zac)))) zac)))))))
  (zai (zaq (zaP (jv 3) zae)))))))
theorem o26{f:Addr}{d:FuncData}(F:Fun K "_law_alike" "_law_alike" s26 f d) (b:Binds K d ["found", "due"] []) (m:mg "_law_alike" =some (.ref f)) (n_i:mg "isinstance" =none) (n_c:mg "str" =none) (n_n:mg "int" =none) (n_a:mg "all" =none) (n_t:mg "tuple" =none) (n_s:mg "list" =none) (n_l:mg "len" =none) (n_b:mg "bool" =none) (n_z:mg "zip" =none):Ok P w K mg base f d ["found", "due"] zax:=zdA rfl fun r ih=>zbn F zrQ rfl rfl fun _ _ _ _ _ _ hr=>(zad (zbm (zaS (zbX rfl n_i rfl n_c PyProof.Rows.boot_str (jv 1) (by decide) (by decide) (zhX _ (by simp)))) (zai (zaq (zdi (zbX rfl n_i rfl n_c PyProof.Rows.boot_str (jv 0) (by decide) (by decide) (zhX _ (by simp))) (zdw (zfR hr (jv 0) (jv 1)))))) zaH)
  (zad (zbm (zaS (zbX rfl n_i rfl n_n PyProof.Rows.boot_int (jv 1) (by decide) (by decide) (zhX _ (by simp)))) (zai (zaq (zdi (zbX rfl n_i rfl n_n PyProof.Rows.boot_int (jv 0) (by decide) (by decide) (zhX _ (by simp))) (zdi (zpt (zbX rfl n_i rfl n_b PyProof.Rows.boot_bool (jv 0) (by decide) (by decide) (zhX _ (by simp)))) (zdw (zfR hr (jv 0) (jv 1))))))) zaH)
  (zad (zbm (JW.jt (zho (zaS (zbX rfl n_i rfl n_t PyProof.Rows.boot_tuple (jv 1) (by decide) (by decide) (zhX _ (by simp)))) (zeT (zcm (zaS (zbX rfl n_i rfl n_t PyProof.Rows.boot_tuple (jv 0) (by decide) (by decide) (zhX _ (by simp)))))))) (zai (zaq zen)) zaH)
  (zad (zbm (JW.jt (zho (zaS (zbX rfl n_i rfl n_s PyProof.Rows.boot_list (jv 1) (by decide) (by decide) (zhX _ (by simp)))) (zeT (zcm (zaS (zbX rfl n_i rfl n_s PyProof.Rows.boot_list (jv 0) (by decide) (by decide) (zhX _ (by simp)))))))) (zai (zaq zen)) zaH)
  (zad (zbm (zle hr (zbk rfl n_l (zaa (jv 0) zac)) (zbk rfl n_l (zaa (jv 1) zac))) (zai (zaq zen)) zaH)
  (zai (zaq (zgC rfl n_a (zct (N:=["one", "other"]) (k:=2) (fr:=[]) ⟨rfl,by decide +kernel,rfl,rfl,rfl,rfl,rfl,rfl,rfl⟩ (znV rfl n_z (jv 0) (jv 1)) (fun _ _ _ _=>(zoy (zhq (zbh (i:=0) (show List.Nodup [("one" :Str),("other" :Str)] from by decide +kernel) rfl (Or.inl rfl)) (zhq (zbh (i:=1) (show List.Nodup [("one" :Str),("other" :Str)] from by decide +kernel) rfl (Or.inl rfl)) znt)) (glS (glS gl0)))) (fun _ _ _ _=>zcu) (fun _ _ _ _=>(zal ih hr rfl m F.kp b (zaa (jv 0) (zaa (jv 1) zac)))))))))))))
theorem o27{f:Addr}{d:FuncData}(F:Fun K "_law_written" "_law_written" s27 f d) (b:Binds K d ["t"] []) (m:mg "_law_written" =some (.ref f)) (n_i:mg "isinstance" =none) (n_n:mg "int" =none) (n_c:mg "str" =none):Ok P w K mg base f d ["t"] zat:=zdA rfl fun r ih=>zbn F sc27 rfl rfl fun _ _ _ _ _ _ hr=>(zad (zbm (zaS (zbX rfl n_i rfl n_n PyProof.Rows.boot_int (jv 0) (by decide) (by decide) (zhX _ (by simp)))) (zai (zaq (zaD zar (zjG rfl n_c (zaa (jv 0) zac))))) zaH)
  (zad (zap (i:=1) sc27.nd rfl (Or.inl rfl) (zaP (jv 0) zae))
  (zad (zap (i:=2) sc27.nd rfl (Or.inl rfl) zar)
  (zad (zgg (zdz (zcR (jv 0) (zaz zae) zbu)) (zbh (i:=3) sc27.nd rfl (Or.inl rfl)) (zad (zap (i:=1) sc27.nd rfl (Or.inl rfl) (zaD (zaD (jv 1) (jv 2)) (zal ih hr rfl m F.kp b (zaa (jv 3) zac))))
  (zai (zap (i:=2) sc27.nd rfl (Or.inl rfl) zar))))
  (zad (zbm (zgn hr (jv 2) zar) (zai (zap (i:=1) sc27.nd rfl (Or.inl rfl) (zaD (jv 1) zar))) zaH)
  (zai (zaq (jv 1))))))))
theorem o28{f:Addr}{d:FuncData}(F:Fun K "law" "law" s28 f d) (x22:C22 P w K mg base) (x23:C23 P w K mg base) (x25:C25 P w K mg base) (x20:C20 P w K mg base) (x27:C27 P w K mg base) (x26:C26 P w K mg base) (x21:C21 P w K mg base) (x7:C7 P w K mg base) (x8:C8 P w K mg base) (x18:C18 P w K mg base) (x19:C19 P w K mg base) (n_l:mg "len" =none):Ok P w K mg base f d ["script"] zbV:=zdA rfl fun r ih=>by
  refine zbn F sc28 rfl rfl fun _ _ _ _ _ _ hr=>?_;delta zbO zbN zbK zbL zci zcl zca zck zcj zch zbZ zcd zcf;exact(zad (zap (i:=1) sc28.nd rfl (Or.inl rfl) (zal (x22.zg r) hr rfl x22.zm x22.zk x22.zb (zaa (jv 0) (zaa zae (zaa zae zac)))))
  (zad (zap (i:=2) sc28.nd rfl (Or.inl rfl) (zal (x23.zg r) hr rfl x23.zm x23.zk x23.zb (zaa (jv 0) (zaa zae (zaa zae zac)))))
  (zad (zap (i:=3) sc28.nd rfl (Or.inl rfl) (zaD zae (zds (zbk rfl n_l (zaa (zcR (jv 0) (zaz zae) (zaz zae)) zac)) zae)))
  (zad (zap (i:=4) sc28.nd rfl (Or.inl rfl) (zal (x25.zg r) hr rfl x25.zm x25.zk x25.zb (zaa (zcR (jv 0) (zaz zae) (zaz (jv 3))) (zaa (zaD (jv 1) (jv 2)) (zaa (zbF (zbJ (zaa (zbG (zaa (zaP (jv 1) zae) zac)) (zaa (zbG (zaa (zaP (jv 2) zae) zac)) (zaa (zbG (zaa (zaP (jv 1) zae) zac)) zac))))) zac)))))
  (zad (zap (i:=5) sc28.nd rfl (Or.inl rfl) (zbF (zbJ (zaa (zbG (zaa (zaP (jv 1) zae) zac)) (zaa zae (zaa (zbG (zaa (zaP (jv 1) zae) zac)) (zaa (zbD (zal (x21.zg r) hr rfl x21.zm x21.zk x21.zb (zaa (jv 0) (zaa zae zac))) zae) (zaa zae zac))))))))
  (zad (zap (i:=6) sc28.nd rfl (Or.inl rfl) (zal (x25.zg r) hr rfl x25.zm x25.zk x25.zb (zaa (zcR (jv 0) (zaz (jv 3)) (zaz zae)) (zaa (jv 1) (zaa (jv 5) zac)))))
  (zad (zap (i:=7) sc28.nd rfl (Or.inl rfl) (zal (x25.zg r) hr rfl x25.zm x25.zk x25.zb (zaa (zcR (jv 0) (zaz (jv 3)) (zaz (zaD (jv 3) zae))) (zaa (jv 1) (zaa (zbF (zbJ (zaa zae (zaa (zbG (zaa (zaP (jv 1) zae) zac)) zac)))) zac)))))
  (zad (zap (i:=8) sc28.nd rfl (Or.inl rfl) (zbF (zbJ (zaa (zal (x27.zg r) hr rfl x27.zm x27.zk x27.zb (zaa (jv 4) zac)) (zaa (zal (x27.zg r) hr rfl x27.zm x27.zk x27.zb (zaa (jv 6) zac)) (zaa (zal (x27.zg r) hr rfl x27.zm x27.zk x27.zb (zaa (jv 7) zac)) zac))))))
  (zad (zbm (JW.jt (zjd (zcm (zaS (zal (x26.zg r) hr rfl x26.zm x26.zk x26.zb (zaa (zal (x18.zg r) hr rfl x18.zm x18.zk x18.zb (zaa (zaP (jv 8) zae) zac)) (zaa (jv 4) zac))))) (zfq (zcm (zaS (zal (x26.zg r) hr rfl x26.zm x26.zk x26.zb (zaa (zal (x19.zg r) hr rfl x19.zm x19.zk x19.zb (zaa (zaP (jv 8) zae) zac)) (zaa (jv 6) zac)))))))) (zai (zaq zen)) zaH)
  (zad (zap (i:=9) sc28.nd rfl (Or.inl rfl) (zaD (zaD (zaD (zaD (zaP (jv 2) zae) zar) (zaP (jv 8) zae)) zar) (zaP (jv 8) zae)))
  (zad (zap (i:=10) sc28.nd rfl (Or.inl rfl) (zal (x20.zg r) hr rfl x20.zm x20.zk x20.zb (zaa (jv 9) zac)))
  (zad (zbm (zcm (zaS (zal (x26.zg r) hr rfl x26.zm x26.zk x26.zb (zaa (jv 10) (zaa (zbG (zaa (zaP (jv 2) zae) (zaa (jv 6) (zaa (jv 7) zac)))) zac))))) (zai (zaq zen)) zaH)
  (zai (zaq (zdi (zfR hr (zal (x7.zg r) hr rfl x7.zm x7.zk x7.zb (zaa (zal (x18.zg r) hr rfl x18.zm x18.zk x18.zb (zaa (zaP (jv 8) zae) zac)) zac)) (zaP (jv 8) zae)) (zdw (zfR hr (zal (x8.zg r) hr rfl x8.zm x8.zk x8.zb (zaa (jv 10) zac)) (jv 9))))))))))))))))))
end
theorem all_mk{l:PySem.W.OpenLaw}{w:World}{K:PySem.W.Frag}{h:Heap}{mg:Str→Option Value}{fa:Addr}(X:K.In h) (G:h.Ns mainGlobals mg) (hfa:mg "law" =some (.ref fa))
  {C_Reader:Addr}(z_Reader:PySem.W.nsIn K mainGlobals "Reader" =some (some (.ref C_Reader))) (zp_Reader:PySem.W.plainGet K C_Reader Str.empty=true) (zh_Reader:PySem.W.hasDictIn K C_Reader=true) (zo_Reader:PySem.W.plainOver K C_Reader=true) (zs_Reader:PySem.W.findIn K (.ref C_Reader) "__setattr__" =some (some (.builtin "object.__setattr__"))) (zm_Reader:PySem.W.makesIn K C_Reader=true) (zk_Reader:PySem.W.keepIn K (.ref C_Reader)=true)
  (zn_Reader_at:PySem.W.findIn K (.ref C_Reader) "at" =some none)
  (zn_Reader_in_side:PySem.W.findIn K (.ref C_Reader) "in_side" =some none)
  (zn_Reader_text:PySem.W.findIn K (.ref C_Reader) "text" =some none)
  (D0:Dfn K "parts_of" s0)
  (D1:Dfn K "parts_of_all" s1)
  (D2:Dfn K "is_small" s2)
  (D4:Dfn K "is_sign" s4)
  (D5:Dfn K "is_title" s5)
  (D3:Dfn K "are_small_letters" s3)
  (D7:Dfn K "shown" s7)
  (D8:Dfn K "shown_turning" s8)
  (D6:Dfn K "shown_number" s6)
  (D18:Dfn K "read_way" s18)
  (D19:Dfn K "read_side" s19)
  (D20:Dfn K "read_turning" s20)
  (D16:Dfn K "check_text" s16)
  (D17:Dfn K "read_whole" s17)
  (D9:znR K C_Reader "__init__" "Reader.__init__" s9)
  (D10:znR K C_Reader "here" "Reader.here" s10)
  (D11:znR K C_Reader "read_word" "Reader.read_word" s11)
  (D15:znR K C_Reader "read_thing" "Reader.read_thing" s15)
  (D12:znR K C_Reader "read_parts" "Reader.read_parts" s12)
  (D14:Dfn K "is_blank_text" s14)
  (D13:Dfn K "is_short_number" s13)
  (D21:Dfn K "_law_draw" s21)
  (D22:Dfn K "_law_signs" s22)
  (D23:Dfn K "_law_titles" s23)
  (D24:Dfn K "_law_pushed" s24)
  (D25:Dfn K "_law_thing" s25)
  (D26:Dfn K "_law_alike" s26)
  (D27:Dfn K "_law_written" s27)
  (D28:Dfn K "law" s28)
  (z_ValueError:PySem.W.nsIn K mainGlobals "ValueError" =some none)
  (z_a:PySem.W.nsIn K mainGlobals "all" =some none)
  (z_b:PySem.W.nsIn K mainGlobals "bool" =some none)
  (z_n:PySem.W.nsIn K mainGlobals "int" =some none)
  (z_i:PySem.W.nsIn K mainGlobals "isinstance" =some none)
  (z_l:PySem.W.nsIn K mainGlobals "len" =some none)
  (z_s:PySem.W.nsIn K mainGlobals "list" =some none)
  (z_r:PySem.W.nsIn K mainGlobals "range" =some none)
  (z_c:PySem.W.nsIn K mainGlobals "str" =some none)
  (z_t:PySem.W.nsIn K mainGlobals "tuple" =some none)
  (z_z:PySem.W.nsIn K mainGlobals "zip" =some none)
  {t_MOST_HEAVY:Tok}(z_MOST_HEAVY:PySem.W.nsIn K mainGlobals "MOST_HEAVY" =some (some (.int 400 t_MOST_HEAVY)))
  {t_MOST_DEEP:Tok}(z_MOST_DEEP:PySem.W.nsIn K mainGlobals "MOST_DEEP" =some (some (.int 40 t_MOST_DEEP)))
  {t_MOST_LETTERS:Tok}(z_MOST_LETTERS:PySem.W.nsIn K mainGlobals "MOST_LETTERS" =some (some (.int 8 t_MOST_LETTERS)))
  {t_MOST_SIGNS:Tok}(z_MOST_SIGNS:PySem.W.nsIn K mainGlobals "MOST_SIGNS" =some (some (.int 4000 t_MOST_SIGNS)))
  {C_NoText:Addr}(z_NoText:PySem.W.nsIn K mainGlobals "NoText" =some (some (.ref C_NoText)))
  (za_NoText:PySem.W.excIn K C_NoText bmV "ValueError.__new__" =true) (zb_NoText:PySem.W.findIn K (.ref C_NoText) "__getattribute__" =some (some (.builtin "BaseException.__getattribute__"))) (zc_NoText:PySem.W.findIn K (.ref C_NoText) "__getattr__" =some none) (zd_NoText:PySem.W.findIn K (.ref C_NoText) "__class__" =some (some (.builtin "object.__class__"))) (ze_NoText:PySem.W.mroIn K C_NoText (.type "object")=some true) (zf_NoText:PySem.W.mroIn K C_NoText (.type "BaseException")=some true)
  :∃fd:FuncData,(∀(s:Shared) (v:Value),BindsTo s fd ⟨[v],[]⟩ [("script",v)])∧ ∀base:Heap,K.In base→base.Ns mainGlobals mg→FnOk l.prog w K mg base (CX1 l.prog w) 200 fa fd ["script"] (zaK K (zbV 200)):=by
 obtain⟨f28,d28,a28,F28⟩:=D28;have e:=hfa.symm.trans (PySem.W.mg_of X G a28);cases e;obtain⟨f9,d9,a9,i9,F9⟩:=D9;obtain⟨f10,d10,a10,i10,F10⟩:=D10;obtain⟨f11,d11,a11,i11,F11⟩:=D11;obtain⟨f15,d15,a15,i15,F15⟩:=D15;obtain⟨f12,d12,a12,i12,F12⟩:=D12;have n_ValueError:=PySem.W.mg_none_of X G z_ValueError;have n_a:=PySem.W.mg_none_of X G z_a;have n_b:=PySem.W.mg_none_of X G z_b;have n_n:=PySem.W.mg_none_of X G z_n;have n_i:=PySem.W.mg_none_of X G z_i;have n_l:=PySem.W.mg_none_of X G z_l;have n_s:=PySem.W.mg_none_of X G z_s;have n_r:=PySem.W.mg_none_of X G z_r;have n_c:=PySem.W.mg_none_of X G z_c;have n_t:=PySem.W.mg_none_of X G z_t;have n_z:=PySem.W.mg_none_of X G z_z;have g_MOST_HEAVY:=PySem.W.mg_of X G z_MOST_HEAVY;have g_MOST_DEEP:=PySem.W.mg_of X G z_MOST_DEEP;have g_MOST_LETTERS:=PySem.W.mg_of X G z_MOST_LETTERS;have g_MOST_SIGNS:=PySem.W.mg_of X G z_MOST_SIGNS;refine⟨d28,fun s v=>?_,fun base _ _=>?_⟩
 ·obtain⟨oc,od,kV,doc,pm,an,cdv,ct,osl,rfl,lk,hcd⟩:=F28.ex;exact .of_eq rfl
 obtain⟨f,d,a,F⟩:=D0;have x0:=mkC (base:=base) X G F a (o0 (P:=l.prog) (w:=w) F n_i n_n) (F.binds fun _ _ _ _ _ _=>n1 fun _=>rfl);obtain⟨f,d,a,F⟩:=D1;have x1:=mkC (base:=base) X G F a (o1 (P:=l.prog) (w:=w) F x0) (F.binds fun _ _ _ _ _ _=>n1 fun _=>rfl);obtain⟨f,d,a,F⟩:=D2;have x2:=mkC (base:=base) X G F a (o2 (P:=l.prog) (w:=w) F x1 n_l g_MOST_HEAVY g_MOST_DEEP) (F.binds fun _ _ _ _ _ _=>n1 fun _=>rfl);obtain⟨f,d,a,F⟩:=D3;have x3:=mkC (base:=base) X G F a (o3 (P:=l.prog) (w:=w) F n_a) (F.binds fun _ _ _ _ _ _=>n1 fun _=>rfl);obtain⟨f,d,a,F⟩:=D4;have x4:=mkC (base:=base) X G F a (o4 (P:=l.prog) (w:=w) F x3 n_l g_MOST_LETTERS) (F.binds fun _ _ _ _ _ _=>n1 fun _=>rfl);obtain⟨f,d,a,F⟩:=D5;have x5:=mkC (base:=base) X G F a (o5 (P:=l.prog) (w:=w) F x3 n_l g_MOST_LETTERS) (F.binds fun _ _ _ _ _ _=>n1 fun _=>rfl);obtain⟨f,d,a,F⟩:=D6;have x6:=mkC (base:=base) X G F a (o6 (P:=l.prog) (w:=w) F n_c) (F.binds fun _ _ _ _ _ _=>n1 fun _=>rfl);obtain⟨f,d,a,F⟩:=D7;have x7:=mkC (base:=base) X G F a (o7 (P:=l.prog) (w:=w) F x6 (F.binds fun _ _ _ _ _ _=>n1 fun _=>rfl) (PySem.W.mg_of X G a) n_i n_n n_l) (F.binds fun _ _ _ _ _ _=>n1 fun _=>rfl);obtain⟨f,d,a,F⟩:=D8;have x8:=mkC (base:=base) X G F a (o8 (P:=l.prog) (w:=w) F x7) (F.binds fun _ _ _ _ _ _=>n1 fun _=>rfl);have x9:C9 l.prog w K mg base C_Reader:=⟨f9,d9,o9 (P:=l.prog) (w:=w) F9 ⟨C_Reader,z_Reader,⟨zp_Reader,zh_Reader,zo_Reader,zs_Reader⟩,PySem.W.mg_of X G z_Reader⟩ zn_Reader_at zn_Reader_in_side zn_Reader_text,(F9.binds fun _ _ _ _ _ _=>n3 fun _ _ _=>rfl),⟨a9,i9,F9.kp⟩⟩;have x10:C10 l.prog w K mg base C_Reader:=⟨f10,d10,o10 (P:=l.prog) (w:=w) F10 ⟨C_Reader,z_Reader,⟨zp_Reader,zh_Reader,zo_Reader,zs_Reader⟩,PySem.W.mg_of X G z_Reader⟩ zn_Reader_at zn_Reader_text,(F10.binds fun _ _ _ _ _ _=>n1 fun _=>rfl),⟨a10,i10,F10.kp⟩⟩;have x11:C11 l.prog w K mg base C_Reader:=⟨f11,d11,o11 (P:=l.prog) (w:=w) F11 ⟨C_Reader,z_Reader,⟨zp_Reader,zh_Reader,zo_Reader,zs_Reader⟩,PySem.W.mg_of X G z_Reader⟩ zn_Reader_at zn_Reader_text x10,(F11.binds fun _ _ _ _ _ _=>n1 fun _=>rfl),⟨a11,i11,F11.kp⟩⟩;have x12:C12 l.prog w K mg base C_Reader f15 d15:=⟨f12,d12,o12 (P:=l.prog) (w:=w) F12 ⟨C_Reader,z_Reader,⟨zp_Reader,zh_Reader,zo_Reader,zs_Reader⟩,PySem.W.mg_of X G z_Reader⟩ zn_Reader_at (F15.binds fun _ _ _ _ _ _=>n2 fun _ _=>rfl) ⟨a15,i15,F15.kp⟩ x10 n_t ⟨C_NoText,PySem.W.mg_of X G z_NoText⟩ ⟨z_NoText,za_NoText,⟨zb_NoText,zc_NoText,zd_NoText,ze_NoText,zf_NoText⟩⟩,(F12.binds fun _ _ _ _ _ _=>n2 fun _ _=>rfl),⟨a12,i12,F12.kp⟩⟩;obtain⟨f,d,a,F⟩:=D13;have x13:=mkC (base:=base) X G F a (o13 (P:=l.prog) (w:=w) F n_a n_l) (F.binds fun _ _ _ _ _ _=>n1 fun _=>rfl);obtain⟨f,d,a,F⟩:=D14;have x14:=mkC (base:=base) X G F a (o14 (P:=l.prog) (w:=w) F x13) (F.binds fun _ _ _ _ _ _=>n1 fun _=>rfl);have x15:C15 l.prog w K mg base C_Reader:=⟨f15,d15,o15 (P:=l.prog) (w:=w) F15 ⟨C_Reader,z_Reader,⟨zp_Reader,zh_Reader,zo_Reader,zs_Reader⟩,PySem.W.mg_of X G z_Reader⟩ zn_Reader_in_side x11 x12 x14 x4 x5 n_n ⟨C_NoText,PySem.W.mg_of X G z_NoText⟩ ⟨z_NoText,za_NoText,⟨zb_NoText,zc_NoText,zd_NoText,ze_NoText,zf_NoText⟩⟩,(F15.binds fun _ _ _ _ _ _=>n2 fun _ _=>rfl),⟨a15,i15,F15.kp⟩⟩;obtain⟨f,d,a,F⟩:=D16;have x16:=mkC (base:=base) X G F a (o16 (P:=l.prog) (w:=w) F n_i n_c n_l g_MOST_SIGNS ⟨C_NoText,PySem.W.mg_of X G z_NoText⟩ ⟨z_NoText,za_NoText,⟨zb_NoText,zc_NoText,zd_NoText,ze_NoText,zf_NoText⟩⟩) (F.binds fun _ _ _ _ _ _=>n1 fun _=>rfl);obtain⟨f,d,a,F⟩:=D17;have x17:=mkC (base:=base) X G F a (o17 (P:=l.prog) (w:=w) F ⟨C_Reader,z_Reader,⟨zp_Reader,zh_Reader,zo_Reader,zs_Reader⟩,PySem.W.mg_of X G z_Reader⟩ zn_Reader_at x9 x15 x16 x2 ⟨zm_Reader,x9.zh.at_,x9.zh.fn,zk_Reader⟩ n_l g_MOST_DEEP ⟨C_NoText,PySem.W.mg_of X G z_NoText⟩ ⟨z_NoText,za_NoText,⟨zb_NoText,zc_NoText,zd_NoText,ze_NoText,zf_NoText⟩⟩) (F.binds fun _ _ _ _ _ _=>n2 fun _ _=>rfl);obtain⟨f,d,a,F⟩:=D18;have x18:=mkC (base:=base) X G F a (o18 (P:=l.prog) (w:=w) F x17) (F.binds fun _ _ _ _ _ _=>n1 fun _=>rfl);obtain⟨f,d,a,F⟩:=D19;have x19:=mkC (base:=base) X G F a (o19 (P:=l.prog) (w:=w) F x17) (F.binds fun _ _ _ _ _ _=>n1 fun _=>rfl);obtain⟨f,d,a,F⟩:=D20;have x20:=mkC (base:=base) X G F a (o20 (P:=l.prog) (w:=w) F x16 x5 x19 ⟨C_NoText,PySem.W.mg_of X G z_NoText⟩ ⟨z_NoText,za_NoText,⟨zb_NoText,zc_NoText,zd_NoText,ze_NoText,zf_NoText⟩⟩) (F.binds fun _ _ _ _ _ _=>n1 fun _=>rfl);obtain⟨f,d,a,F⟩:=D21;have x21:=mkC (base:=base) X G F a (o21 (P:=l.prog) (w:=w) F n_l) (F.binds fun _ _ _ _ _ _=>n2 fun _ _=>rfl);obtain⟨f,d,a,F⟩:=D22;have x22:=mkC (base:=base) X G F a (o22 (P:=l.prog) (w:=w) F x21 n_r n_n) (F.binds fun _ _ _ _ _ _=>n3 fun _ _ _=>rfl);obtain⟨f,d,a,F⟩:=D23;have x23:=mkC (base:=base) X G F a (o23 (P:=l.prog) (w:=w) F x22) (F.binds fun _ _ _ _ _ _=>n3 fun _ _ _=>rfl);obtain⟨f,d,a,F⟩:=D24;have x24:=mkC (base:=base) X G F a (o24 (P:=l.prog) (w:=w) F n_l n_t) (F.binds fun _ _ _ _ _ _=>n4 fun _ _ _ _=>rfl);obtain⟨f,d,a,F⟩:=D25;have x25:=mkC (base:=base) X G F a (o25 (P:=l.prog) (w:=w) F x24 n_l) (F.binds fun _ _ _ _ _ _=>n3 fun _ _ _=>rfl);obtain⟨f,d,a,F⟩:=D26;have x26:=mkC (base:=base) X G F a (o26 (P:=l.prog) (w:=w) F (F.binds fun _ _ _ _ _ _=>n2 fun _ _=>rfl) (PySem.W.mg_of X G a) n_i n_c n_n n_a n_t n_s n_l n_b n_z) (F.binds fun _ _ _ _ _ _=>n2 fun _ _=>rfl);obtain⟨f,d,a,F⟩:=D27;have x27:=mkC (base:=base) X G F a (o27 (P:=l.prog) (w:=w) F (F.binds fun _ _ _ _ _ _=>n1 fun _=>rfl) (PySem.W.mg_of X G a) n_i n_n n_c) (F.binds fun _ _ _ _ _ _=>n1 fun _=>rfl);exact o28 F28 x22 x23 x25 x20 x27 x26 x21 x7 x8 x18 x19 n_l 200
theorem walk{l:PySem.W.OpenLaw}{q:Program}{loose:List Str}{XP:(Str→Option Value)→Heap→Prop}{YP:World→Heap→Prop}{d:DefRec}{K:Params→PySem.W.Frag}(hn:l.most=some 63) (hdf:d.params.defaults=[])
  (hY:∀(w:World) (h:Heap),YP w h→(K w.params).In h)
  (F:∀(w:World) (mg:Str→Option Value) (fa:Addr) (h:Heap),(K w.params).In h→h.Ns mainGlobals mg→mg d.name=some (.ref fa)→
   ∃fd:FuncData,(∀(s:Shared) (u:Value),BindsTo s fd ⟨[u],[]⟩ [("script",u)])∧ ∀base:Heap,(K w.params).In base→base.Ns mainGlobals mg→FnOk l.prog w (K w.params) mg base (CX1 l.prog w) 200 fa fd ["script"] (zaK (K w.params) (zbV 200))) :
  PySem.W.WalkO q loose XP YP l.row.toRowW d [] (fun f vs=>PySem.call f vs):=
 L2.zmU (n:=63) (k:=200) (x:= "script") (CX:=fun w=>CX1 l.prog w) (sp:=fun w=>zaK (K w.params) (zbV 200)) hn (by decide) hdf ⟨rfl,by decide,by decide⟩ hY F (fun w H a ns hl hO hS=>zkZ hO hS (zpa ns hl)) fun _ _ _ _ _ ⟨_,_,_,_,_,_,_,_,_,z⟩=>z
end K05
noncomputable def PySem.W.Fast.tw12188516323858158791:Nat:=0
noncomputable def PySem.W.Fast.tw7525309371359016945:Nat:=0
noncomputable def PySem.W.Fast.tw16526361190208295100:Nat:=0
noncomputable def PySem.W.Fast.tw3464345323123362873:Nat:=0
noncomputable def PySem.W.Fast.tw17896080154753065731:Nat:=0
noncomputable def PySem.W.Fast.tw11309447674365878223:Nat:=0
noncomputable def PySem.W.Fast.tw17624529649281287465:Nat:=0
noncomputable def PySem.W.Fast.tw17260720715723568552:Nat:=0
noncomputable def PySem.W.Fast.tw11491638390181787811:Nat:=0
noncomputable def PySem.W.Fast.tw11329526129429630377:Nat:=0
noncomputable def PySem.W.Fast.tw10972167546644901042:Nat:=0
noncomputable def PySem.W.Fast.tw14583595198809277339:Nat:=0
noncomputable def PySem.W.Fast.tw479919654831735462:Nat:=0
noncomputable def PySem.W.Fast.tw16711706865374821435:Nat:=0
noncomputable def PySem.W.Fast.tw11332062247212749556:Nat:=0
noncomputable def PySem.W.Fast.tw10026205876084002296:Nat:=0
noncomputable def PySem.W.Fast.tw6230645908702762951:Nat:=0
noncomputable def PySem.W.Fast.tw10986380366024259566:Nat:=0
noncomputable def PySem.W.Fast.tw1504094043361563837:Nat:=0
noncomputable def PySem.W.Fast.tw17518481612452657314:Nat:=0
noncomputable def PySem.W.Fast.tw7016278100039837237:Nat:=0
noncomputable def PySem.W.Fast.tw9284715237961438079:Nat:=0
noncomputable def PySem.W.Fast.tw5223134281088975388:Nat:=0
noncomputable def PySem.W.Fast.tw3310779433074408823:Nat:=0
noncomputable def PySem.W.Fast.tw13204420517495042973:Nat:=0
noncomputable def PySem.W.Fast.tw3304867460997635597:Nat:=0
noncomputable def PySem.W.Fast.tw17759758222738910235:Nat:=0
noncomputable def PySem.W.Fast.tw10145332144131179499:Nat:=0
noncomputable def PySem.W.Fast.tw3165544197141615132:Nat:=0
noncomputable def PySem.W.Fast.tw17899817519759504004:Nat:=0
noncomputable def PySem.W.Fast.tw15584939663854596080:Nat:=0
noncomputable def PySem.W.Fast.tw9724407323196659634:Nat:=0
noncomputable def PySem.W.Fast.tw17242471662391343755:Nat:=0
noncomputable def PySem.W.Fast.tw13621103149783926203:Nat:=0
noncomputable def PySem.W.Fast.tw13572484123023451023:Nat:=0
noncomputable def PySem.W.Fast.tw15168666610968877926:Nat:=0
noncomputable def PySem.W.Fast.tw7038207838347279517:Nat:=0
noncomputable def PySem.W.Fast.tw6129958662896970498:Nat:=0
noncomputable def PySem.W.Fast.tw3442680358086294033:Nat:=0
noncomputable def PySem.W.Fast.tw6410008567389558215:Nat:=0
noncomputable def PySem.W.Fast.tw2144878350519992207:Nat:=0
noncomputable def PySem.W.Fast.tw5580037443406720108:Nat:=0
noncomputable def PySem.W.Fast.tw15805573314888541043:Nat:=0
noncomputable def PySem.W.Fast.tw974448286729201743:Nat:=0
noncomputable def PySem.W.Fast.tw4294415167899218575:Nat:=0
noncomputable def PySem.W.Fast.tw5094226081397364095:Nat:=0
noncomputable def PySem.W.Fast.tw8705895717633590262:Nat:=0
noncomputable def PySem.W.Fast.tw9128227252945432130:Nat:=0
noncomputable def PySem.W.Fast.tw8688183262814296993:Nat:=0
noncomputable def PySem.W.Fast.tw10980889976700999396:Nat:=0
noncomputable def PySem.W.Fast.tw11626391163688749357:Nat:=0
noncomputable def PySem.W.Fast.tw15577155415854651417:Nat:=0
noncomputable def PySem.W.Fast.tw12654073624106593611:Nat:=0
noncomputable def PySem.W.Fast.tw13034687771244430120:Nat:=0
noncomputable def PySem.W.Fast.tw13061268370961350444:Nat:=0
noncomputable def PySem.W.Fast.tw18095421857431081256:Nat:=0
noncomputable def PySem.W.Fast.tw8101910911186473058:Nat:=0
noncomputable def PySem.W.Fast.tw10858728891260372146:Nat:=0
noncomputable def PySem.W.Fast.tw3391437379940444835:Nat:=0
noncomputable def PySem.W.Fast.tw6140996382467518408:Nat:=0
noncomputable def PySem.W.Fast.tw17836659344689914920:Nat:=0
noncomputable def PySem.W.Fast.tw4758675154729341815:Nat:=0
noncomputable def PySem.W.Fast.tw6468925756500936599:Nat:=0
noncomputable def PySem.W.Fast.tw3969110123442785362:Nat:=0
noncomputable def PySem.W.Fast.tw7898539842173941022:Nat:=0
noncomputable def PySem.W.Fast.tw12147282696934701686:Nat:=0
noncomputable def PySem.W.Fast.tw4374531008076562991:Nat:=0
noncomputable def PySem.W.Fast.tw16383431575723081071:Nat:=0
noncomputable def PySem.W.Fast.tw5642329178097721555:Nat:=0
noncomputable def PySem.W.Fast.tw6413783652647895041:Nat:=0
noncomputable def PySem.W.Fast.tw18426344676041317573:Nat:=0
noncomputable def PySem.W.Fast.tw14107969706329294959:Nat:=0
noncomputable def PySem.W.Fast.tw2997676492930639233:Nat:=0
noncomputable def PySem.W.Fast.tw3955721957565282939:Nat:=0
noncomputable def PySem.W.Fast.tw13521647865418267190:Nat:=0
noncomputable def PySem.W.Fast.tw6809971188203654779:Nat:=0
noncomputable def PySem.W.Fast.tw3809928642514141475:Nat:=0
noncomputable def PySem.W.Fast.tw13247412685171917046:Nat:=0
noncomputable def PySem.W.Fast.tw7482318094236548817:Nat:=0
open PySem PySem.W PyProof.Rows
set_option maxRecDepth 100000 in
set_option maxHeartbeats 0 in
theorem PySem.Challenge.cw_turnweave_k05_read_there_and_back_holds : PySem.Challenge.rw_turnweave_k05_read_there_and_back.Holds := by
 w_on;o_law;k_head;(case hw=>w_witness2)
 k_fill
 refine K05.walk (l:=PySem.Challenge.rw_turnweave_k05_read_there_and_back) rfl rfl (fun w h Y=>PySem.W.kIn_of Y) ?F
 case F=>
  intro w mg fa h KX G hmg
  refine' K05.all_mk KX G hmg ?_ ?_ ?_ ?_ ?_ ?_ ?_ ?_ ?_ ?_ (K05.dfn ?_ ?_ ?_ ?_) (K05.dfn ?_ ?_ ?_ ?_) (K05.dfn ?_ ?_ ?_ ?_) (K05.dfn ?_ ?_ ?_ ?_) (K05.dfn ?_ ?_ ?_ ?_) (K05.dfn ?_ ?_ ?_ ?_) (K05.dfn ?_ ?_ ?_ ?_) (K05.dfn ?_ ?_ ?_ ?_) (K05.dfn ?_ ?_ ?_ ?_) (K05.dfn ?_ ?_ ?_ ?_) (K05.dfn ?_ ?_ ?_ ?_) (K05.dfn ?_ ?_ ?_ ?_) (K05.dfn ?_ ?_ ?_ ?_) (K05.dfn ?_ ?_ ?_ ?_) (K05.dfnM ?_ ?_ ?_ ?_ ?_) (K05.dfnM ?_ ?_ ?_ ?_ ?_) (K05.dfnM ?_ ?_ ?_ ?_ ?_) (K05.dfnM ?_ ?_ ?_ ?_ ?_) (K05.dfnM ?_ ?_ ?_ ?_ ?_) (K05.dfn ?_ ?_ ?_ ?_) (K05.dfn ?_ ?_ ?_ ?_) (K05.dfn ?_ ?_ ?_ ?_) (K05.dfn ?_ ?_ ?_ ?_) (K05.dfn ?_ ?_ ?_ ?_) (K05.dfn ?_ ?_ ?_ ?_) (K05.dfn ?_ ?_ ?_ ?_) (K05.dfn ?_ ?_ ?_ ?_) (K05.dfn ?_ ?_ ?_ ?_) (K05.dfn ?_ ?_ ?_ ?_) ?_ ?_ ?_ ?_ ?_ ?_ ?_ ?_ ?_ ?_ ?_ ?_ ?_ ?_ ?_ ?_ ?_ ?_ ?_ ?_ ?_ ?_<;>first |k_is |kit_is | (dsimp only[List.map];kit_is) |kts_exm | (delta L2.bmV;k_exc) |skip
end
