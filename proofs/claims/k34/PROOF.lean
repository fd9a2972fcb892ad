import PyProof.Rows.All
import Wide.All
import OpenK.AllK
import Wide.FinOn
import Lean
import PyProof.EqAt
import PyProof.EqKinds
import PyProof.TupleCall
import PyProof.NeKinds
import PyProof.ListMulRoad
import PyProof.AttrMissHeap
import KE.KDictOf
import KE.KRevIter
import PyProof.ListRange
import KE.KSortTup
import KE.KMinKey
import PyProof.MinMaxWalk
import PyProof.Rows.CallKwBuiltin
import PySem.Challenge.RW_turnweave_k34_refused_roads
set_option Elab.async false
set_option compiler.extract_closed false
set_option linter.all false
set_option maxRecDepth 100000
set_option maxHeartbeats 4000000
section
namespace L2
open PySem PySem.Spec PyProof.Rows
noncomputable abbrev Key:=Sum Int Str
noncomputable def zut:Key→Value→Bool
 | .inl k,v=>Value.isInt k v
 | .inr x,v=>Value.isStrOf x v
noncomputable def zxt (w:World):Key→Int
 | .inl k=>hashInt k
 | .inr x=>hashStr w x
theorem zaL:∀{k:Key}{v:Value},zut k v=true→(∃i t,k=Sum.inl i∧v=Value.int i t)∨(∃x t,k=Sum.inr x∧v=Value.str x t)
 | .inl i,v,h=>by
  obtain⟨t,e⟩:=Value.isInt_shape (k:=i) (v:=v) h;exact .inl ⟨i,t,rfl,e⟩
 | .inr x,v,h=>by
  obtain⟨t,e⟩:=Value.isStrOf_shape (x:=x) (v:=v) h;exact .inr ⟨x,t,rfl,e⟩
theorem zuf (a b:Int):decide ((Sum.inl a:Key)=Sum.inl b)=(a == b):=by
 by_cases e:a=b
 ·subst e;simp
 ·have h:¬(Sum.inl a:Key)=Sum.inl b:=fun q=>e (Sum.inl.inj q);rw [decide_eq_false h];exact(beq_eq_false_iff_ne.mpr e).symm
theorem zts (a b:Str):decide ((Sum.inr a:Key)=Sum.inr b)=decide (a=b):=by
 by_cases e:a=b
 ·subst e;simp
 ·have h:¬(Sum.inr a:Key)=Sum.inr b:=fun q=>e (Sum.inr.inj q);rw [decide_eq_false h,decide_eq_false e]
theorem zud (a:Int) (b:Str):decide ((Sum.inl a:Key)=Sum.inr b)=false:=decide_eq_false (fun q=>nomatch q)
theorem zuF (a:Str) (b:Int):decide ((Sum.inr a:Key)=Sum.inl b)=false:=decide_eq_false (fun q=>nomatch q)
noncomputable def zjo (prog:Program) (w:World):PySem.KeyKind prog w Key where
  is:=zut
  hash:=zxt w
  inj:=fun v a b ha hb=>by
    rcases zaL ha with⟨i,t,rfl,rfl⟩ |⟨x,t,rfl,rfl⟩
    · rcases zaL hb with⟨j,u,rfl,e⟩ |⟨y,u,rfl,e⟩
      · injection e with e1 _;rw [e1]
      · exact nomatch e
    · rcases zaL hb with⟨j,u,rfl,e⟩ |⟨y,u,rfl,e⟩
      · exact nomatch e
      · injection e with e1 _;rw [e1]
  byValue:=fun k v h=>by
    rcases zaL h with⟨i,t,rfl,rfl⟩ |⟨x,t,rfl,rfl⟩<;>rfl
  pyHash:=fun hv h=>by
    rcases zaL hv with⟨i,t,rfl,rfl⟩ |⟨x,t,rfl,rfl⟩
    · exact wpAny_pyHash_int h
    · exact wpAny_pyHash_str h
  eqBool:=fun hu hv h=>by
    rcases zaL hu with⟨i,t,rfl,rfl⟩ |⟨x,t,rfl,rfl⟩
    · rcases zaL hv with⟨j,u,rfl,rfl⟩ |⟨y,u,rfl,rfl⟩
      · rw [zuf]at h;exact wpAny_eqBool_int h
      · rw [zud]at h;exact SeqAt.EqAt.int_str i t y u _ _ _ _ h
    · rcases zaL hv with⟨j,u,rfl,rfl⟩ |⟨y,u,rfl,rfl⟩
      · rw [zuF]at h;exact SeqAt.EqAt.str_int x t j u _ _ _ _ h
      · rw [zts]at h;exact wpAny_eqBool_str h
  «strs» :=fun k x t v h=>by
    rcases zaL h with⟨i,u,rfl,e⟩ |⟨y,u,rfl,e⟩
    · exact nomatch e
    · injection e with e1 _;subst e1;cases v<;>rfl
inductive V where
  |non |bl (b:Bool) |int (i:Int) |str (x:Str) |byt (b:Array UInt8) |flt (b:UInt64) |ref (a:Addr) |ty (n:String)
  deriving DecidableEq
noncomputable def RelV:V→Value→Prop
 | .non,u=>u=Value.none
 | .bl b,u=>u=Value.bool b
 | .int i,u=>∃t,u=Value.int i t
 | .str x,u=>∃t,u=Value.str x t
 | .byt b,u=>∃t,u=Value.bytes b t
 | .flt b,u=>∃t,u=Value.float b t
 | .ref a,u=>u=Value.ref a
 | .ty n,u=>u=Value.type n
noncomputable abbrev Vals:List V→List Value→Prop:=Paired RelV
theorem Vals.length{xs:List V}{us:List Value}(r:Vals xs us):xs.length=us.length:=Paired.length r
theorem Vals.get:∀{xs:List V}{us:List Value}{i:Nat}{x:V},Vals xs us→xs[i]? =some x→ ∃u,us[i]? =some u∧RelV x u
 |_,_,_,_, .nil,e=>by simp at e
 |_,_,0,_, .cons r _,e=>by simp at e;subst e;exact⟨_,rfl,r⟩
 |_,_,i+1,x, .cons _ t,e=>by
  obtain⟨u,h1,h2⟩:=Vals.get (i:=i) (x:=x) t (by simpa using e);exact⟨u,by simpa using h1,h2⟩
theorem Vals.append:∀{xs ys:List V}{us ws:List Value},Vals xs us→Vals ys ws→Vals (xs++ys) (us++ws)
 |_,_,_,_, .nil,s=>s
 |_,_,_,_, .cons r t,s=> .cons r (Vals.append t s)
theorem Vals.take:∀{xs:List V}{us:List Value}(n:Nat),Vals xs us→Vals (xs.take n) (us.take n)
 |_,_,0,_=> .nil
 |_,_,_+1, .nil=> .nil
 |_,_,n+1, .cons r t=> .cons r (Vals.take n t)
theorem Vals.drop:∀{xs:List V}{us:List Value}(n:Nat),Vals xs us→Vals (xs.drop n) (us.drop n)
 |_,_,0,r=>r
 |_,_,_+1, .nil=> .nil
 |_,_,n+1, .cons _ t=>Vals.drop n t
noncomputable def RelO:Option V→Option Value→Prop
 |some v,some u=>RelV v u
 |none,none=>True
 |_,_=>False
noncomputable def KV {κ:Type}:List (κ×V)→List (κ×Value)→Prop:=Paired fun(p:κ×V) (q:κ×Value)=>p.1=q.1∧RelV p.2 q.2
noncomputable def kV:Key→V
 | .inl i=> .int i
 | .inr x=> .str x
inductive HO where
    |lst (xs:List V)
    |tup (xs:List V)
    |dK (kvs:List (Key×V)) |dT (kvs:List (List Key×V))
    |set (S:Int→Bool) (n:Nat)
    |ins (C dx:Addr) (fs:List (Str×V))
    |own (x:Addr)
    |xd (fs:List (Str×V))
    |met (f x:Addr)
    |rng (lo hi:Int)
    |frz (o:Obj) (u:HO)
    |tbl (ps:Array Value)
    |ext (φ:Heap→Prop)
noncomputable abbrev Hp:=Addr→Option HO
noncomputable def upd (H:Hp) (a:Addr) (o:HO):Hp:=fun b=>if b=a then some o else H b
theorem zat{H:Hp}{a:Addr}{o:HO}:upd H a o a=some o:=by unfold upd;rw [if_pos rfl]
theorem zaq{H:Hp}{a b:Addr}{o:HO}(h:b≠a):upd H a o b=H b:=by unfold upd;rw [if_neg h]
theorem zoe{H:Hp}{a b:Addr}{o u:HO}(h:H a=some o) (h':H b=some u) (d:o≠u):a≠b:=by
 intro e;subst e;rw [h]at h';exact d (Option.some.inj h')
theorem zan{H:Hp}{a b:Addr}{o:HO}(h:H a=some o) (h':H b=none):a≠b:=by
 intro e;subst e;rw [h]at h';cases h'
section
variable (P:Program) (w:World)
noncomputable def ObjOk (H:Hp) (h:Heap) (a:Addr):HO→Prop
 | .lst xs=>xs.length≤sizeLine∧ ∃(its:List Value) (n:Nat),Vals xs its∧h.get? a=some { cls:= .type "list",data:= .seq its.toArray n }
 | .tup xs=>xs.length≤sizeLine∧ ∃its:List Value,Vals xs its∧IsTup h a its.toArray
 | .dK kvs=>kvs.length≤sizeLine∧(a == sysModules)=false∧ ∃vs,KV kvs vs∧h.DictOf (zjo P w) a vs
 | .dT kvs=>kvs.length≤sizeLine∧(a == sysModules)=false∧ ∃xs:List (List Key×Addr×Value),
   Paired (fun(p:List Key×V) (q:List Key×Addr×Value)=>p.1=q.1∧H q.2.1=some (.tup (p.1.map kV))∧RelV p.2 q.2.2) kvs xs∧
   ∃o es ep,h.get? a=some o∧o.ExactDict∧o.data= .dict es ep∧es.toList=xs.map (entryOfKey (tupleKind (zjo P w)))∧(xs.map (·.1)).Nodup
 | .set S n=>h.SetOf (intKind P w) a S n
 | .ins C dx fs=>H dx=some (.own a)∧fs.length≤1000∧dx≠a∧h.get? a=some (PySem.W.instObj C dx)∧
   ∃mA,h.Ns1 dx mA∧(∀f,RelO (fs.lookup f) (mA f))∧PySem.Within mA (fs.map (·.1))
 | .own _=>∃o,h.get? a=some o
 | .xd fs=>∃mA,h.Ns1 a mA∧ ∀f,RelO (fs.lookup f) (mA f)
 | .rng lo hi=>∃t u v,h.get? a=some { cls:= .type "range",data:= .fields #[.int lo t, .int hi u, .int 1 v] }
 | .frz o u=>h.get? a=some o∧ObjOk H h a u
 | .tbl ps=>h.get? a=some { cls:= .none,data:= .fields ps }
 | .met f x=>h.get? a=some (PySem.W.methodObj (.ref f) (.ref x))
 | .ext φ=>φ h∧(∃o,h.get? a=some o)∧ ∀h1 h2:Heap,φ h1→(∀o,h1.get? a=some o→h2.get? a=some o)→φ h2
noncomputable def HOk (H:Hp) (h:Heap):Prop:=∀a o,H a=some o→ObjOk P w H h a o
end
section
variable {P:Program}{w:World}{H H':Hp}{h h':Heap}{a:Addr}{o:HO}
theorem ObjOk.lt (x:ObjOk P w H h a o):a<h.objs.size:=by
 cases o with
 |lst xs=>obtain⟨_,_,_,_,e⟩:=x;exact Heap.lt_size e
 |tup xs=>obtain⟨_,_,_,p⟩:=x;exact p.lt
 |dK kvs=>obtain⟨_,_,_,_,o,_,_,e,_⟩:=x;exact Heap.lt_size e
 |dT kvs=>obtain⟨_,_,_,_,o,_,_,e,_⟩:=x;exact Heap.lt_size e
 |set S n=>obtain⟨o,_,_,_,e,_⟩:=x;exact Heap.lt_size e
 |ins C dx fs=>obtain⟨_,_,_,e,_⟩:=x;exact Heap.lt_size e
 |own y=>obtain⟨_,e⟩:=x;exact Heap.lt_size e
 |xd fs=>obtain⟨_,⟨_,_,_,e,_⟩,_⟩:=x;exact Heap.lt_size e
 |rng lo hi=>obtain⟨_,_,_,e⟩:=x;exact Heap.lt_size e
 |frz ob u=>obtain⟨e,_⟩:=x;exact Heap.lt_size e
 |tbl ps=>exact Heap.lt_size (show h.get? a=some _ from x)
 |met f y=>exact Heap.lt_size (show h.get? a=some _ from x)
 |ext φ=>obtain⟨_,⟨_,e⟩,_⟩:=x;exact Heap.lt_size e
theorem Paired.mapP{α β:Type}{F G:α→β→Prop}:∀{l₁:List α}{l₂:List β},Paired F l₁ l₂→(∀a b,F a b→G a b)→Paired G l₁ l₂
 |_,_, .nil,_=> .nil
 |_,_, .cons r t,f=> .cons (f _ _ r) (Paired.mapP t f)
theorem ObjOk.stay (x:ObjOk P w H h a o) (k:∀b u,(b=a∨H b=some (.own a))→h.get? b=some u→h'.get? b=some u)
  (ho:∀b,H b=some (.own a)→H' b=some (.own a)) (ht:∀b xs,H b=some (.tup xs)→H' b=some (.tup xs)):ObjOk P w H' h' a o:=by
 induction o with
 |lst xs=>obtain⟨z,its,n,r,e⟩:=x;exact⟨z,its,n,r,k _ _ (.inl rfl) e⟩
 |tup xs=>obtain⟨z,its,r,ob,e,c⟩:=x;exact⟨z,its,r,ob,k _ _ (.inl rfl) e,c⟩
 |dK kvs=>obtain⟨z,y,vs,r,ob,es,ep,e,c⟩:=x;exact⟨z,y,vs,r,ob,es,ep,k _ _ (.inl rfl) e,c⟩
 |dT kvs=>
  obtain⟨z,y,xs,r,ob,es,ep,e,c⟩:=x;exact⟨z,y,xs,Paired.mapP r fun p q z=>⟨z.1,ht _ _ z.2.1,z.2.2⟩,ob,es,ep,k _ _ (.inl rfl) e,c⟩
 |set S n=>obtain⟨ob,es,ep,t,e,c⟩:=x;exact⟨ob,es,ep,t,k _ _ (.inl rfl) e,c⟩
 |ins C dx fs=>
  obtain⟨d,z,ne,e,mA,⟨od,es,ep,e2,c⟩,r⟩:=x;exact⟨ho _ d,z,ne,k _ _ (.inl rfl) e,mA,⟨od,es,ep,k _ _ (.inr d) e2,c⟩,r⟩
 |own y=>obtain⟨ob,e⟩:=x;exact⟨ob,k _ _ (.inl rfl) e⟩
 |xd fs=>obtain⟨mA,⟨od,es,ep,e,c⟩,r⟩:=x;exact⟨mA,⟨od,es,ep,k _ _ (.inl rfl) e,c⟩,r⟩
 |rng lo hi=>obtain⟨t,u,v,e⟩:=x;exact⟨t,u,v,k _ _ (.inl rfl) e⟩
 |frz ob u ih=>obtain⟨e,q⟩:=x;exact⟨k _ _ (.inl rfl) e,ih q⟩
 |tbl ps=>
  have e:h.get? a=some { cls:= .none,data:= .fields ps }:=x;show h'.get? a=some { cls:= .none,data:= .fields ps };exact k a _ (.inl rfl) e
 |met f y=>
  have e:h.get? a=some (PySem.W.methodObj (.ref f) (.ref y)):=x;show h'.get? a=some (PySem.W.methodObj (.ref f) (.ref y));exact k a _ (.inl rfl) e
 |ext φ=>obtain⟨p,⟨o,e⟩,st⟩:=x;exact⟨st _ _ p fun o q=>k _ _ (.inl rfl) q,⟨o,k _ _ (.inl rfl) e⟩,st⟩
theorem HOk.lt (x:HOk P w H h) (e:H a=some o):a<h.objs.size:=(x a o e).lt
theorem HOk.fresh (x:HOk P w H h) (e:h.objs.size≤a):H a=none:=by
 cases q:H a with
 |none=>rfl
 |some u=>exact absurd (Nat.lt_of_lt_of_le (x.lt q) e) (Nat.lt_irrefl _)
theorem HOk.kept (x:HOk P w H h) (k:∀b u,h.get? b=some u→h'.get? b=some u):HOk P w H h':=fun a o e=>
 (x a o e).stay (fun b u _ q=>k b u q) (fun _ q=>q) fun _ _ q=>q
theorem HOk.laid (x:HOk P w H h) (k:∀b u,h.get? b=some u→h'.get? b=some u) (hp:h.objs.size≤a) (new:ObjOk P w (upd H a o) h' a o):HOk P w (upd H a o) h':=fun b u e=>by
 have hn:=x.fresh hp;by_cases hb:b=a
 ·subst hb;rw [zat]at e;cases e;exact new
 ·rw [zaq hb]at e;exact(x b u e).stay (fun c v _ q=>k c v q) (fun c q=>by rw [zaq (zan q hn)];exact q) fun c xs q=>by rw [zaq (zan q hn)];exact q
end
noncomputable def Rd (H:Hp) (a:Addr) (u:HO):Prop:=H a=some u∨ ∃o,H a=some (.frz o u)
theorem Rd.ok{P:Program}{w:World}{H:Hp}{h:Heap}{a:Addr}{u:HO}(r:Rd H a u) (x:HOk P w H h):ObjOk P w H h a u:=by
 rcases r with r |⟨o,r⟩
 ·exact x a u r
 ·obtain⟨_,q⟩:=x a _ r;exact q
noncomputable def Mut:Option HO→Prop
 |some (.lst _)=>True
 |some (.dK _)=>True
 |some (.dT _)=>True
 |some (.set _ _)=>True
 |some (.ins _ _ _)=>True
 |some (.ext _)=>True
 |_=>False
section
variable {P:Program}{w:World}{H:Hp}{h h':Heap}{x e:Addr}{o':HO}
theorem HOk.write (ok:HOk P w H h) (mu:Mut (H x)) (he:e=x∨H e=some (.own x)) (k:∀b u,b≠e→h.get? b=some u→h'.get? b=some u) (heo:∃u,h'.get? e=some u)
  (new:ObjOk P w (upd H x o') h' x o'):HOk P w (upd H x o') h':=fun b u q=>by
 have nown:∀c y,H c=some (.own y)→c≠x:=fun c y r z=>by subst z;rw [r]at mu;exact mu
 have ntup:∀c xs,H c=some (.tup xs)→c≠x:=fun c xs r z=>by subst z;rw [r]at mu;exact mu
 by_cases hb:b=x
 ·subst hb;rw [zat]at q;cases q;exact new
 ·rw [zaq hb]at q;by_cases hbe:b=e
  ·have q':H b=some (.own x):=by
    rcases he with z |z
    ·exact absurd (hbe.trans z) hb
    ·rw [hbe];exact z
   rw [q]at q';cases q';obtain⟨v,hv⟩:=heo;exact⟨v,by rw [hbe];exact hv⟩
  ·refine(ok b u q).stay (fun c v hc r=>k c v ?_ r) (fun c r=>by rw [zaq (nown c b r)];exact r) fun c xs r=>by rw [zaq (ntup c xs r)];exact r
   rcases hc with rfl |hc
   ·exact hbe
   ·rintro rfl;rcases he with z |z
    ·exact nown c b hc z
    ·rw [hc]at z;cases z;exact hb rfl
end
structure Un (fs ex:List Addr) (H H':Hp) (h h':Heap):Prop where
  keep:∀b o,h.get? b=some o→H b=none→b∉fs→b∉ex→h'.get? b=some o
  slot:∀b o,h.get? b=some o→H b=none→b∈fs→b∉ex→ ∃sl,h'.get? b=some { o with slots:=sl }
  free:∀b o,h.get? b=some o→H b=none→b∉ex→H' b=none
  there:∀b o,h.get? b=some o→b∉ex→ ∃o',h'.get? b=some o'
  tups:∀b xs,H b=some (.tup xs)→H' b=some (.tup xs)
  frzs:∀b o u,H b=some (.frz o u)→H' b=some (.frz o u)
  tbls:∀b ps,H b=some (.tbl ps)→ ∃more,H' b=some (.tbl (ps++more))
section
variable {fs ex:List Addr}{H H1 H2:Hp}{h h1 h2 h':Heap}{a x e:Addr}{o:HO}
theorem Un.any (u:Un fs ex H H1 h h1) {b:Addr}{ob:Obj}(q:h.get? b=some ob) (n:H b=none) (hx:b∉ex):∃sl,h1.get? b=some { ob with slots:=sl }:=by
 by_cases hb:b∈fs
 ·exact u.slot b ob q n hb hx
 ·exact⟨ob.slots,u.keep b ob q n hb hx⟩
theorem Un.trans (a:Un fs ex H H1 h h1) (b:Un fs ex H1 H2 h1 h2):Un fs ex H H2 h h2 where
  keep:=fun c ob q n hc hx=>b.keep c ob (a.keep c ob q n hc hx) (a.free c ob q n hx) hc hx
  slot:=fun c ob q n hc hx=>by
    obtain⟨sl,e1⟩:=a.slot c ob q n hc hx;obtain⟨sl',e2⟩:=b.slot c _ e1 (a.free c ob q n hx) hc hx;exact⟨sl',e2⟩
  free:=fun c ob q n hx=>by
    obtain⟨o',e1⟩:=a.there c ob q hx;exact b.free c o' e1 (a.free c ob q n hx) hx
  there:=fun c ob q hx=>by
    obtain⟨o',e1⟩:=a.there c ob q hx;exact b.there c o' e1 hx
  tups:=fun c xs q=>b.tups c xs (a.tups c xs q)
  frzs:=fun c ob xs q=>b.frzs c ob xs (a.frzs c ob xs q)
  tbls:=fun c ps q=>by
    obtain⟨m1,e1⟩:=a.tbls c ps q;obtain⟨m2,e2⟩:=b.tbls c _ e1;exact⟨m1++m2,by rw [e2,Array.append_assoc]⟩
theorem Un.kept (k:∀b u,h.get? b=some u→h'.get? b=some u):Un fs ex H H h h':=
 ⟨fun b ob q _ _ _=>k b ob q,fun b ob q _ _ _=>⟨ob.slots,k b ob q⟩,fun _ _ _ n _=>n,fun b ob q _=>⟨ob,k b ob q⟩,fun _ _ q=>q,fun _ _ _ q=>q,fun _ ps q=>⟨#[],by rw [q];simp⟩⟩
theorem Un.refl:Un fs ex H H h h:=Un.kept fun _ _ q=>q
theorem Un.laid (k:∀b u,h.get? b=some u→h'.get? b=some u) (hp:h.objs.size≤a) (hn:H a=none):Un fs ex H (upd H a o) h h' where
  keep:=fun b u q _ _ _=>k b u q
  slot:=fun b u q _ _ _=>⟨u.slots,k b u q⟩
  free:=fun b u q n _=>by rw [zaq (Nat.ne_of_lt (Nat.lt_of_lt_of_le (Heap.lt_size q) hp))];exact n
  there:=fun b u q _=>⟨u,k b u q⟩
  tups:=fun b xs q=>by rw [zaq (zan q hn)];exact q
  frzs:=fun b u xs q=>by rw [zaq (zan q hn)];exact q
  tbls:=fun b ps q=>⟨#[],by rw [zaq (zan q hn),q];simp⟩
theorem Un.write (mu:Mut (H x)) (he:e=x∨H e=some (.own x)) (k:∀b u,b≠e→h.get? b=some u→h'.get? b=some u) (heo:∃u,h'.get? e=some u):Un fs ex H (upd H x o) h h':=by
 have hx:∀b,H b=none→b≠x:=fun b n z=>by subst z;rw [n]at mu;exact mu
 have hb:∀b,H b=none→b≠e:=fun b n z=>by
  subst z;rcases he with r |r
  ·exact hx b n r
  ·rw [n]at r;cases r
 have hm:∀b u,H b=some u→ ¬Mut (some u)→b≠x:=fun b u q nm z=>by subst z;rw [q]at mu;exact nm mu
 refine⟨fun b u q n _ _=>k b u (hb b n) q,fun b u q n _ _=>⟨u.slots,k b u (hb b n) q⟩,fun b u q n _=>by rw [zaq (hx b n)];exact n,fun b u q _=>?_,
  fun b xs q=>by rw [zaq (hm b _ q fun z=>z)];exact q,fun b u xs q=>by rw [zaq (hm b _ q fun z=>z)];exact q,fun b ps q=>⟨#[],by rw [zaq (hm b _ q fun z=>z),q];simp⟩⟩
 by_cases hbe:b=e
 ·subst hbe;exact heo
 ·exact⟨u,k b u hbe q⟩
end
noncomputable def trk (h:Heap) (H:Hp):List Addr:=(List.range h.objs.size).filter fun a=>(H a).isSome
noncomputable def zoB (h:Heap) (H:Hp):Heap:=PySem.W.hideAll h (trk h H)
theorem znz (h:Heap) (H:Hp):(zoB h H).objs.size=h.objs.size:=PySem.W.hideAll_size _ _
theorem zoZ{h:Heap}{H:Hp}{b:Addr}{o:Obj}(e:h.get? b=some o) (n:H b=none):(zoB h H).get? b=some o:=
 PySem.W.hideAll_get _ e fun hm=>by
  have q:(H b).isSome=true:=(List.mem_filter.mp hm).2;rw [n]at q;simp at q
theorem zro{h:Heap}{H:Hp}{b:Addr}{o:Obj}(e:(zoB h H).get? b=some o):h.get? b=some o∧H b=none:=by
 have e':h.get? b=some o:=PySem.W.of_hideAll (trk h H) e;refine⟨e',?_⟩;cases q:H b with
 |none=>rfl
 |some x=>
  have hm:b∈trk h H:=List.mem_filter.mpr ⟨List.mem_range.mpr (Heap.lt_size e'),by simp [q]⟩
  have z:(zoB h H).get? b=none:=PySem.W.hideAll_none (trk h H) hm;rw [z]at e;cases e
noncomputable def zqJ (g h:Heap) (L:Addr):List (Addr×Obj):=(List.range h.objs.size).filterMap fun a=>if a=L∨(g.get? a).isSome=true then none else(h.get? a).map fun o=>(a,o)
noncomputable def rest (g h:Heap) (L d:Addr):List (Addr×Obj):=(zqJ g h L).filter fun p=>decide (p.1≠d)
structure Mod (K:PySem.W.Frag) (mg:Str→Option Value) (base:Heap):Prop where
  kin:K.In base
  glob:base.Ns mainGlobals mg
  blt:∃mb,base.Ns builtinsNs mb∧ ∀x:Str,x≠ "__name__" →mb x=bootBuiltins x
  nolimit:base.NoLimit
structure Cx where
  prog:Program
  w:World
  K:PySem.W.Frag
  mg:Str→Option Value
  base:Heap
  A:Around
  N:List Str
  s₀:Shared
  H₀:Hp
  env:Env
  outer:List Env
  stack:List Env
  ex:List Addr
  fn:Str→Bool
  calm:Bool
  pn:List (Addr×Obj)
  xe:Value→Shared→Prop
noncomputable def frs (l:List Env):List Addr:=l.filterMap (·.frame)
noncomputable abbrev Cx.fs (X:Cx):List Addr:=frs X.outer
noncomputable def Vis (sc:Scope) (x:Str):Prop:=sc.names.lookup x=some .local∨sc.names.lookup x=some .cell∨sc.names.lookup x=some .free
noncomputable def Loc (sc:Scope) (x:Str):Prop:=sc.names.lookup x=some .local∨sc.names.lookup x=some .cell
noncomputable def zxg (env:Env) (h:Heap) (m:Str→Option Value) (x:Str) (u:Value):Prop:=
 (env.kindOf x=some .local∧m x=some u)∨((env.kindOf x=some .cell∨env.kindOf x=some .free)∧ ∃c,env.cells.lookup x=some c∧h.IsCell c (some u))
structure Cx.Ok (X:Cx):Prop where
  mod:Mod X.K X.mg X.base
  kind:X.env.scope.kind= .function
  glob:X.env.globals=mainGlobals
  blt:X.env.builtins=builtinsNs
  above:X.s₀.heap.objs.size≤X.env.locals
  inj:∀x y c,X.env.cells.lookup x=some c→X.env.cells.lookup y=some c→x=y
  has:∀x,(X.env.kindOf x=some .cell∨X.env.kindOf x=some .free)→ ∃c,X.env.cells.lookup x=some c
  cab:∀x c,X.fn x=true→X.env.cells.lookup x=some c→X.s₀.heap.objs.size≤c
  hd:X.calm=true→X.A.handled=none
  frames:X.A.frames=some X.stack
  stk:X.stack=X.outer∨(X.stack=X.env::X.outer∧X.env.frame=some X.env.locals)
  exf:∀b∈X.ex,b≠X.env.locals∧ ∀x c,X.env.cells.lookup x=some c→c≠b
  bs:∀b o,X.base.get? b=some o→X.s₀.heap.get? b=some o∧X.H₀ b=none
  bsz:X.base.objs.size≤X.s₀.heap.objs.size
  noex:∀b o,X.base.get? b=some o→b∉X.ex
  exfs:∀b∈X.ex,b∉X.fs
  funs:X.s₀.heap.FunFrames X.base X.outer
  frf:∀b∈X.fs,X.H₀ b=none
structure Inv (X:Cx) (pins:List (Addr×Obj)) (σ:List (Option V)) (H:Hp) (s:Shared):Prop where
  ok:X.Ok
  os:s.os=X.s₀.os
  bare:AllBare s.gens
  base:Un X.fs X.ex X.H₀ H X.s₀.heap s.heap
  loc:∃m,s.heap.Ns X.env.locals m∧ ∀(i:Nat) (x:Str) (v:V),X.N[i]? =some x→σ[i]? =some (some v)→Vis X.env.scope x→ ∃u,RelV v u∧zxg X.env s.heap m x u
  cell:∀x c,X.env.cells.lookup x=some c→ ∃v,s.heap.IsCell c v
  free:H X.env.locals=none
  freeC:∀x c,X.env.cells.lookup x=some c→H c=none
  pin:∀p∈X.pn++pins,s.heap.get? p.1=some p.2∧H p.1=none∧p.1≠X.env.locals∧p.1∉X.fs∧ ∀v,p.2.data≠ .cell v
  hok:HOk X.prog X.w H s.heap
  len:σ.length=X.N.length
section
variable {X:Cx}{pins:List (Addr×Obj)}{σ:List (Option V)}{H H':Hp}{s:Shared}{h':Heap}
theorem Cx.Ok.nofr (ok:X.Ok) {b:Addr}{o:Obj}(e:X.base.get? b=some o):b∉X.fs:=fun hb=>by
 have:=(ok.funs.mem hb).1;rw [e]at this;cases this
theorem Inv.bs (I:Inv X pins σ H s):∀b o,X.base.get? b=some o→s.heap.get? b=some o∧H b=none:=fun b o e=>
 ⟨I.base.keep b o (I.ok.bs b o e).1 (I.ok.bs b o e).2 (I.ok.nofr e) (I.ok.noex b o e),I.base.free b o (I.ok.bs b o e).1 (I.ok.bs b o e).2 (I.ok.noex b o e)⟩
theorem Inv.bk (I:Inv X pins σ H s):∀b o,X.base.get? b=some o→s.heap.get? b=some o:=fun b o e=>(I.bs b o e).1
theorem Inv.mod (I:Inv X pins σ H s):Mod X.K X.mg X.base:=I.ok.mod
theorem Inv.kIn (I:Inv X pins σ H s):X.K.In s.heap:=I.ok.mod.kin.keeps I.bk
theorem Inv.lt (I:Inv X pins σ H s):X.env.locals<s.heap.objs.size:=let ⟨_,hn,_⟩:=I.loc;hn.lt
theorem Inv.sz (I:Inv X pins σ H s):X.s₀.heap.objs.size≤s.heap.objs.size:=Nat.le_trans I.ok.above (Nat.le_of_lt I.lt)
theorem Inv.nofs (I:Inv X pins σ H s) {a:Addr}(h:s.heap.objs.size≤a):a∉X.fs:=fun hb=>by
 obtain⟨_,o,ho,_⟩:=I.ok.funs.mem hb;exact absurd (Nat.lt_of_lt_of_le (Heap.lt_size ho) (Nat.le_trans I.sz h)) (Nat.lt_irrefl _)
theorem Inv.cne (I:Inv X pins σ H s):∀x c,X.env.cells.lookup x=some c→c≠X.env.locals:=fun x c e z=>by
 obtain⟨v,o,ho,hd⟩:=I.cell x c e;obtain⟨m,⟨o',es,ep,ho',hd',_⟩,_⟩:=I.loc;rw [z,ho']at ho;cases ho;rw [hd']at hd;cases hd
theorem Inv.funs (I:Inv X pins σ H s):s.heap.FunFrames X.base X.outer:=by
 have all:∀(l:List Env),(∀b∈frs l,b∈X.fs)→X.s₀.heap.FunFrames X.base l→s.heap.FunFrames X.base l:=by
  intro l
  induction l with
  |nil=>intro _ _;trivial
  |cons env r ih=>
   intro hs hl;obtain⟨hk,⟨L,o,hf,hn,ho,hd⟩,hr⟩:=hl;have hL:L∈X.fs:=hs L (by unfold frs;rw [List.filterMap_cons,hf];exact List.mem_cons_self);obtain⟨sl,e⟩:=I.base.slot L o ho (I.ok.frf L hL) hL fun z=>I.ok.exfs L z hL;exact⟨hk,⟨L,_,hf,hn,e,hd⟩,ih (fun b hb=>hs b (by unfold frs;rw [List.filterMap_cons,hf];exact List.mem_cons_of_mem _ hb)) hr⟩
 exact all X.outer (fun _ hb=>hb) I.ok.funs
theorem Inv.stack (I:Inv X pins σ H s):s.heap.FunFrames X.base X.stack:=by
 rcases I.ok.stk with e |⟨e,hf⟩
 ·rw [e];exact I.funs
 ·rw [e];obtain⟨m,hn,_⟩:=I.loc;refine .cons (by rw [I.ok.kind];decide) hf hn ?_ I.funs;exact Heap.get?_none_of_le (Nat.le_trans I.ok.bsz I.ok.above)
theorem Inv.stkSub (I:Inv X pins σ H s):∀b∈frs X.stack,b∈X.env.locals::X.fs:=fun b hb=>by
 rcases I.ok.stk with e |⟨e,hf⟩
 ·rw [e]at hb;exact List.mem_cons_of_mem _ hb
 ·rw [e]at hb;unfold frs at hb;rw [List.filterMap_cons,hf]at hb;exact hb
theorem Inv.stkFree (I:Inv X pins σ H s):∀b∈frs X.stack,H b=none:=fun b hb=>by
 rcases List.mem_cons.mp (I.stkSub b hb) with e |hb
 ·rw [e];exact I.free
 ·obtain⟨_,o,ho,_⟩:=I.ok.funs.mem hb;exact I.base.free b o ho (I.ok.frf b hb) fun z=>I.ok.exfs b z hb
theorem Inv.step{g':Array GenState}{t':Nat}{d':Drawn}{ch:List Addr}(I:Inv X pins σ H s)
  (hch:∀b∈ch,(b∈X.ex∨X.s₀.heap.objs.size≤b)∧b≠X.env.locals∧(∀x c,X.env.cells.lookup x=some c→c≠b)∧ ∀p∈X.pn++pins,p.1≠b)
  (keep:∀b o,b≠X.env.locals→b∉X.fs→b∉ch→s.heap.get? b=some o→H b=none→h'.get? b=some o)
  (slot:∀b o,b≠X.env.locals→b∈X.fs→b∉ch→s.heap.get? b=some o→H b=none→ ∃sl,h'.get? b=some { o with slots:=sl }) (free:∀b o,b∉ch→s.heap.get? b=some o→H b=none→H' b=none)
  (there:∀b o,b∉ch→s.heap.get? b=some o→ ∃o',h'.get? b=some o')
  (tups:∀b xs,H b=some (.tup xs)→H' b=some (.tup xs)) (frzs:∀b o u,H b=some (.frz o u)→H' b=some (.frz o u)) (tbls:∀b ps,H b=some (.tbl ps)→ ∃more,H' b=some (.tbl (ps++more)))
  (ns:∀m,s.heap.Ns X.env.locals m→h'.Ns X.env.locals m) (hok:HOk X.prog X.w H' h') (hg:AllBare g') :
  Inv X pins σ H' { s with heap:=h',gens:=g',drawn:=d',toks:=t' }:=by
 have neL:∀b o,X.s₀.heap.get? b=some o→b≠X.env.locals:=fun b o e=>Nat.ne_of_lt (Nat.lt_of_lt_of_le (Heap.lt_size e) I.ok.above);have neC:∀b o,X.s₀.heap.get? b=some o→b∉X.ex→b∉ch:=fun b o e hx hb=>by
  rcases(hch b hb).1 with z |z
  ·exact hx z
  ·exact absurd (Nat.lt_of_lt_of_le (Heap.lt_size e) z) (Nat.lt_irrefl _)
 have cellK:∀x c,X.env.cells.lookup x=some c→ ∀v,s.heap.IsCell c v→h'.IsCell c v:=fun x c e v ⟨o,ho,hd⟩=>by
  have nch:c∉ch:=fun z=>(hch c z).2.2.1 x c e rfl;by_cases hc:c∈X.fs
  ·obtain⟨sl,q⟩:=slot c o (I.cne x c e) hc nch ho (I.freeC x c e);exact⟨_,q,hd⟩
  ·exact⟨o,keep c o (I.cne x c e) hc nch ho (I.freeC x c e),hd⟩
 refine⟨I.ok,I.os,hg,⟨fun b o e n hb hx=>?_,fun b o e n hb hx=>?_,fun b o e n hx=>?_,fun b o e hx=>?_,fun b xs e=>tups b xs (I.base.tups b xs e),fun b o xs e=>frzs b o xs (I.base.frzs b o xs e),fun b ps e=>?_⟩,?_,fun x c e=>?_,?_,fun x c e=>?_,fun p hp=>?_,hok,I.len⟩
 ·exact keep b o (neL b o e) hb (neC b o e hx) (I.base.keep b o e n hb hx) (I.base.free b o e n hx)
 ·obtain⟨sl,e1⟩:=I.base.slot b o e n hb hx;obtain⟨sl',e2⟩:=slot b _ (neL b o e) hb (neC b o e hx) e1 (I.base.free b o e n hx);exact⟨sl',e2⟩
 ·obtain⟨o',e1⟩:=I.base.there b o e hx;exact free b o' (neC b o e hx) e1 (I.base.free b o e n hx)
 ·obtain⟨o',e1⟩:=I.base.there b o e hx;exact there b o' (neC b o e hx) e1
 ·obtain⟨m1,e1⟩:=I.base.tbls b ps e;obtain⟨m2,e2⟩:=tbls b _ e1;exact⟨m1++m2,by rw [e2,Array.append_assoc]⟩
 ·obtain⟨m,hn,hl⟩:=I.loc;refine⟨m,ns m hn,fun i x v e1 e2 e3=>?_⟩;obtain⟨u,r,l⟩:=hl i x v e1 e2 e3;refine⟨u,r,?_⟩;rcases l with l |⟨k,c,e,z⟩
  ·exact .inl l
  ·exact .inr ⟨k,c,e,cellK x c e _ z⟩
 ·obtain⟨v,z⟩:=I.cell x c e;exact⟨v,cellK x c e v z⟩
 ·obtain⟨m,⟨o,_,_,ho,_⟩,_⟩:=I.loc;exact free _ o (fun z=>(hch _ z).2.1 rfl) ho I.free
 ·obtain⟨v,o,ho,hd⟩:=I.cell x c e;exact free c o (fun z=>(hch c z).2.2.1 x c e rfl) ho (I.freeC x c e)
 ·obtain⟨e,n,ne,nf,d⟩:=I.pin p hp;have nch:p.1∉ch:=fun z=>(hch p.1 z).2.2.2 p hp rfl;exact⟨keep p.1 p.2 ne nf nch e n,free p.1 p.2 nch e n,ne,nf,d⟩
theorem Inv.un{t':Nat}(I:Inv X pins σ H s) (u:Un X.fs [] H H' s.heap h') (hok:HOk X.prog X.w H' h'):Inv X pins σ H' { s with heap:=h',toks:=t' }:=by
 obtain⟨m,⟨o,es,ep,ho,r⟩,_⟩:=id I.loc;obtain⟨sl,hL⟩:=u.any ho I.free (by simp);exact I.step (g':=s.gens) (d':=s.drawn) (ch:=[]) (fun _ z=>nomatch z) (fun b o _ hb _ e n=>u.keep b o e n hb (by simp)) (fun b o _ hb _ e n=>u.slot b o e n hb (by simp)) (fun b o _ e n=>u.free b o e n (by simp)) (fun b o _ e=>u.there b o e (by simp)) u.tups u.frzs u.tbls (fun m' hm=>by
  obtain⟨o',es',ep',ho',r'⟩:=hm;rw [ho]at ho';cases ho';exact⟨_,es',ep',hL,r'⟩) hok I.bare
theorem Inv.call{g':Array GenState}{t':Nat}{d':Drawn}{ch:List Addr}(I:Inv X pins σ H s) (u:Un (frs X.stack) ch H H' s.heap h') (hok:HOk X.prog X.w H' h') (hg:AllBare g')
  (hch:∀b∈ch,(b∈X.ex∨X.s₀.heap.objs.size≤b)∧b≠X.env.locals∧(∀x c,X.env.cells.lookup x=some c→c≠b)∧ ∀p∈X.pn++pins,p.1≠b) :
  Inv X pins σ H' { s with heap:=h',gens:=g',drawn:=d',toks:=t' }:=by
 obtain⟨m,⟨o,es,ep,ho,r⟩,_⟩:=id I.loc;obtain⟨sl,hL⟩:=u.any ho I.free fun z=>(hch _ z).2.1 rfl;exact I.step (ch:=ch) hch (fun b o hL hb hc e n=>u.keep b o e n (fun z=>(List.mem_cons.mp (I.stkSub b z)).elim hL hb) hc) (fun b o _ _ hc e n=>u.any e n hc) (fun b o hc e n=>u.free b o e n hc) (fun b o hc e=>u.there b o e hc) u.tups u.frzs u.tbls (fun m' hm=>by
  obtain⟨o',es',ep',ho',r'⟩:=hm;rw [ho]at ho';cases ho';exact⟨_,es',ep',hL,r'⟩) hok hg
theorem Inv.turned{t':Nat}{it:Addr}(I:Inv X pins σ H s) (k:∀b o,b≠it→s.heap.get? b=some o→h'.get? b=some o) (hn:H it=none) (hL:it≠X.env.locals)
  (h1:it∈X.ex∨X.s₀.heap.objs.size≤it) (h2:∀x c,X.env.cells.lookup x=some c→c≠it) (h3:∀p∈X.pn++pins,p.1≠it):Inv X pins σ H { s with heap:=h',toks:=t' }:=by
 have nit:∀b u,H b=some u→b≠it:=fun b u e z=>by rw [z,hn]at e;cases e
 refine I.step (g':=s.gens) (d':=s.drawn) (ch:=[it]) (fun b hb=>?_) (fun b o _ _ hc e _=>k b o (fun z=>hc (by simp [z])) e) (fun b o _ _ hc e _=>⟨o.slots,k b o (fun z=>hc (by simp [z])) e⟩) (fun _ _ _ _ n=>n)
  (fun b o hc e=>⟨o,k b o (fun z=>hc (by simp [z])) e⟩) (fun _ _ e=>e) (fun _ _ _ e=>e) (fun b ps e=>⟨#[],by rw [e];simp⟩) (fun m hm=>?_) (fun b u e=>?_) I.bare
 ·have e:b=it:=by simpa using hb
  subst e;exact⟨h1,hL,h2,h3⟩
 ·obtain⟨o,es,ep,ho,r⟩:=hm;exact⟨o,es,ep,k _ o (Ne.symm hL) ho,r⟩
 ·refine(I.hok b u e).stay (fun c v hc q=>k c v ?_ q) (fun _ q=>q) fun _ _ q=>q;rcases hc with z |z
  ·rw [z];exact nit b u e
  ·exact nit c _ z
theorem Inv.tok (I:Inv X pins σ H s) (t:Nat):Inv X pins σ H { s with toks:=t }:=I.un (h':=s.heap) (t':=t) Un.refl I.hok
theorem Inv.kept{t':Nat}(I:Inv X pins σ H s) (k:∀b u,s.heap.get? b=some u→h'.get? b=some u):Inv X pins σ H { s with heap:=h',toks:=t' }:=I.un (Un.kept k) (I.hok.kept k)
theorem Inv.laid{a:Addr}{o:HO}{t':Nat}(I:Inv X pins σ H s) (k:∀b u,s.heap.get? b=some u→h'.get? b=some u) (hp:s.heap.objs.size≤a) (new:ObjOk X.prog X.w (upd H a o) h' a o) :
  Inv X pins σ (upd H a o) { s with heap:=h',toks:=t' }:=I.un (Un.laid k hp (I.hok.fresh hp)) (I.hok.laid k hp new)
theorem Inv.write{x e:Addr}{o:HO}{t':Nat}(I:Inv X pins σ H s) (mu:Mut (H x)) (he:e=x∨H e=some (.own x)) (k:∀b u,b≠e→s.heap.get? b=some u→h'.get? b=some u) (heo:∃u,h'.get? e=some u)
  (new:ObjOk X.prog X.w (upd H x o) h' x o):Inv X pins σ (upd H x o) { s with heap:=h',toks:=t' }:=I.un (Un.write mu he k heo) (I.hok.write mu he k heo new)
theorem Inv.pins_of{pins':List (Addr×Obj)}(I:Inv X pins σ H s) (h:∀p∈pins',s.heap.get? p.1=some p.2∧H p.1=none∧p.1≠X.env.locals∧p.1∉X.fs∧ ∀v,p.2.data≠ .cell v):Inv X pins' σ H s:=
 ⟨I.ok,I.os,I.bare,I.base,I.loc,I.cell,I.free,I.freeC,fun p hp=>(List.mem_append.mp hp).elim (fun z=>I.pin p (List.mem_append_left _ z)) (h p),I.hok,I.len⟩
theorem zgU{N:List Str}(hN:N.Nodup) {i j:Nat}{x:Str}(a:N[i]? =some x) (b:N[j]? =some x):i=j:=by
 obtain⟨h1,e1⟩:=List.getElem?_eq_some_iff.mp a;obtain⟨h2,e2⟩:=List.getElem?_eq_some_iff.mp b;exact(List.getElem_inj hN).mp (e1.trans e2.symm)
theorem zhV{M:Model}{A:Around}{E:Value→Shared→Prop}{i:Nat}{x:Str}{v:V}{u:Value}{Q:Unit→Shared→Prop}(I:Inv X pins σ H s) (hN:X.N.Nodup) (hi:X.N[i]? =some x) (hx:Loc X.env.scope x) (r:RelV v u)
  (h:∀s',Inv X pins (σ.set i (some v)) H s'→(∃a,Heap.SameBut a s.heap s'.heap∧(a=X.env.locals∨X.env.cells.lookup x=some a))→Q () s') (hf:X.fn x=true∨X.env.scope.names.lookup x=some .local:=by first |exact .inl rfl |exact .inr rfl |assumption):wpAny M A (storeName X.env x u) Q E s:=by
 obtain⟨m,hn,hl⟩:=id I.loc;have hcls:(X.env.scope.kind == .class || (X.env.scope.kind == .module&&X.env.locals != X.env.globals))=false:=by rw [I.ok.kind];rfl
 have hiσ:i<σ.length:=by rw [I.len];exact(List.getElem?_eq_some_iff.mp hi).1
 have cne:=I.cne;have tracked:∀{a:Addr}{h':Heap},(∃o,s.heap.get? a=some o∧H a=none)→Heap.SameBut a s.heap h'→HOk X.prog X.w H h':=fun {a h'} ha hs b ob e=>by
  obtain⟨_,_,hfree⟩:=ha;refine(I.hok b ob e).stay (fun c w' hc q=>(hs.2 c ?_).trans q) (fun _ q=>q) fun _ _ q=>q;rintro rfl;rcases hc with rfl |hc
  ·rw [hfree]at e;cases e
  ·rw [hfree]at hc;cases hc
 rcases hx with hk |hk
 ·refine wpAny_storeName_local hk hn (fun h' hn' hs=>?_) hcls;obtain⟨oL,_,_,hoL,_⟩:=id hn;refine h _ ⟨I.ok,I.os,I.bare,⟨fun b o e n hb hx=>?_,fun b o e n hb hx=>?_,I.base.free,fun b o e hx=>?_,I.base.tups,I.base.frzs,I.base.tbls⟩,⟨_,hn',fun j y v' e1 e2 e3=>?_⟩,fun y c e=>?_,I.free,I.freeC,fun p hp=>?_,tracked ⟨oL,hoL,I.free⟩ hs,by simpa using I.len⟩ ⟨_,hs, .inl rfl⟩
  ·exact(hs.2 b (Nat.ne_of_lt (Nat.lt_of_lt_of_le (Heap.lt_size e) I.ok.above))).trans (I.base.keep b o e n hb hx)
  ·obtain⟨sl,e1⟩:=I.base.slot b o e n hb hx;exact⟨sl,(hs.2 b (Nat.ne_of_lt (Nat.lt_of_lt_of_le (Heap.lt_size e) I.ok.above))).trans e1⟩
  ·obtain⟨o',e1⟩:=I.base.there b o e hx;exact⟨o',(hs.2 b (Nat.ne_of_lt (Nat.lt_of_lt_of_le (Heap.lt_size e) I.ok.above))).trans e1⟩
  ·by_cases hj:j=i
   ·subst hj;rw [hi]at e1;cases e1;rw [List.getElem?_set_self hiσ]at e2;cases e2;exact⟨u,r, .inl ⟨hk,by simp⟩⟩
   ·rw [List.getElem?_set_ne (Ne.symm hj)]at e2;obtain⟨u',r',q⟩:=hl j y v' e1 e2 e3;refine⟨u',r',?_⟩;rcases q with⟨k,e⟩ |⟨k,c,e,z⟩
    ·refine .inl ⟨k,?_⟩;have:y≠x:=fun e=>hj (zgU hN e1 (e▸hi));simp [this,e]
    ·exact .inr ⟨k,c,e,z.sameBut hs (cne y c e)⟩
  ·obtain⟨w',z⟩:=I.cell y c e;exact⟨w',z.sameBut hs (cne y c e)⟩
  ·obtain⟨e,n,ne,nf,d⟩:=I.pin p hp;exact⟨(hs.2 p.1 ne).trans e,n,ne,nf,d⟩
 ·have hfn:X.fn x=true:=by
   rcases hf with z |z
   ·exact z
   ·rw [z]at hk;cases hk
  obtain⟨c,hc⟩:=I.ok.has x (.inl hk);obtain⟨w',z⟩:=I.cell x c hc;refine wpAny_storeName_cell I.ok.kind hk hc z (fun h' hc' hs=>?_);obtain⟨oc,hoc,hocd⟩:=id z;refine h { s with heap:=h' } ⟨I.ok,I.os,I.bare,⟨fun b o e n hb hx=>?_,fun b o e n hb hx=>?_,I.base.free,fun b o e hx=>?_,I.base.tups,I.base.frzs,I.base.tbls⟩,⟨m,hn.sameBut hs (Ne.symm (cne x c hc)),fun j y v' e1 e2 e3=>?_⟩,fun y c' e=>?_,I.free,I.freeC,fun p hp=>?_,tracked ⟨oc,hoc,I.freeC x c hc⟩ hs,by simpa using I.len⟩ ⟨c,hs, .inr hc⟩
  ·exact(hs.2 b (Nat.ne_of_lt (Nat.lt_of_lt_of_le (Heap.lt_size e) (I.ok.cab x c hfn hc)))).trans (I.base.keep b o e n hb hx)
  ·obtain⟨sl,e1⟩:=I.base.slot b o e n hb hx;exact⟨sl,(hs.2 b (Nat.ne_of_lt (Nat.lt_of_lt_of_le (Heap.lt_size e) (I.ok.cab x c hfn hc)))).trans e1⟩
  ·obtain⟨o',e1⟩:=I.base.there b o e hx;exact⟨o',(hs.2 b (Nat.ne_of_lt (Nat.lt_of_lt_of_le (Heap.lt_size e) (I.ok.cab x c hfn hc)))).trans e1⟩
  ·by_cases hj:j=i
   ·subst hj;rw [hi]at e1;cases e1;rw [List.getElem?_set_self hiσ]at e2;cases e2;exact⟨u,r, .inr ⟨.inl hk,c,hc,hc'⟩⟩
   ·rw [List.getElem?_set_ne (Ne.symm hj)]at e2;obtain⟨u',r',q⟩:=hl j y v' e1 e2 e3;refine⟨u',r',?_⟩;rcases q with q |⟨k,c',e,z'⟩
    ·exact .inl q
    ·refine .inr ⟨k,c',e,z'.sameBut hs ?_⟩;rintro rfl;exact hj (zgU hN e1 (I.ok.inj _ _ _ e hc▸hi))
  ·by_cases hcc:c'=c
   ·subst hcc;exact⟨_,hc'⟩
   ·obtain⟨w2,z2⟩:=I.cell y c' e;exact⟨w2,z2.sameBut hs hcc⟩
  ·obtain⟨e,n,ne,nf,d⟩:=I.pin p hp;refine⟨(hs.2 p.1 ?_).trans e,n,ne,nf,d⟩;intro q;rw [q,hoc]at e;have q':oc=p.2:=Option.some.inj e;exact d w' (by rw [←q'];exact hocd)
theorem zeS{M:Model}{A:Around}{E:Value→Shared→Prop}{i:Nat}{x:Str}{v:V}{u:Value}{Q:Unit→Shared→Prop}(I:Inv X pins σ H s) (hN:X.N.Nodup) (hi:X.N[i]? =some x) (hx:Loc X.env.scope x) (r:RelV v u)
  (h:∀s',Inv X pins (σ.set i (some v)) H s'→Q () s') (hf:X.fn x=true∨X.env.scope.names.lookup x=some .local:=by first |exact .inl rfl |exact .inr rfl |assumption):wpAny M A (storeName X.env x u) Q E s:=
 zhV I hN hi hx r (fun s' I' _=>h s' I') hf
theorem Inv.call'{s':Shared}{ch:List Addr}(I:Inv X pins σ H s) (ho:s'.os=s.os) (u:Un (frs X.stack) ch H H' s.heap s'.heap) (hok:HOk X.prog X.w H' s'.heap) (hg:AllBare s'.gens)
  (hch:∀b∈ch,(b∈X.ex∨X.s₀.heap.objs.size≤b)∧b≠X.env.locals∧(∀x c,X.env.cells.lookup x=some c→c≠b)∧ ∀p∈X.pn++pins,p.1≠b):Inv X pins σ H' s':=by
 obtain⟨h',g',d',t',o'⟩:=s';have e:o'=s.os:=ho;subst e;exact I.call (g':=g') (t':=t') (d':=d') u hok hg hch
end
noncomputable abbrev XK:=Value→Option Addr→Hp→Prop
noncomputable abbrev St:=List (Option V)
noncomputable abbrev VK:=V→Hp→Prop
noncomputable abbrev TE:=St→Hp→VK→Prop
noncomputable abbrev TT:=St→Hp→(Bool→Hp→Prop)→Prop
noncomputable abbrev TA:=St→Hp→(List V→Hp→Prop)→Prop
structure Ends where
  nx:St→Hp→Prop
  rt:VK
  bk:St→Hp→Prop:=fun _ _=>False
  ct:St→Hp→Prop:=fun _ _=>False
noncomputable abbrev TS:=Ends→St→Hp→Prop
noncomputable def EP (X:Cx) (pins:List (Addr×Obj)) (σ:St) (Q:VK) (u:Value) (s':Shared):Prop:=∃v H',Inv X pins σ H' s'∧RelV v u∧Q v H'
noncomputable def TP (X:Cx) (pins:List (Addr×Obj)) (σ:St) (Q:Bool→Hp→Prop) (b:Bool) (s':Shared):Prop:=∃H',Inv X pins σ H' s'∧Q b H'
noncomputable def AP (X:Cx) (pins:List (Addr×Obj)) (σ:St) (Q:List V→Hp→Prop) (us:List Value) (s':Shared):Prop:=∃vs H',Inv X pins σ H' s'∧Vals vs us∧Q vs H'
noncomputable def SP (X:Cx) (pins:List (Addr×Obj)) (D:Ends) (f:Flow) (s':Shared):Prop:=
 match f with
 | .next=>∃σ' H',Inv X pins σ' H' s'∧D.nx σ' H'
 | .brk=>∃σ' H',Inv X pins σ' H' s'∧D.bk σ' H'
 | .cont=>∃σ' H',Inv X pins σ' H' s'∧D.ct σ' H'
 | .ret u=>∃v σ' H',Inv X pins σ' H' s'∧RelV v u∧D.rt v H'
noncomputable def PE (X:Cx) (e:Expr) (t:TE):Prop:=
 ∀(pins:List (Addr×Obj)) (s:Shared) (σ:St) (H:Hp) (Q:VK),Inv X pins σ H s→t σ H Q→wpAny (model X.prog X.w) X.A (eval e X.env) (EP X pins σ Q) X.xe s
noncomputable def PT (X:Cx) (e:Expr) (t:TT):Prop:=
 ∀(pins:List (Addr×Obj)) (s:Shared) (σ:St) (H:Hp) (Q:Bool→Hp→Prop),Inv X pins σ H s→t σ H Q→wpAny (model X.prog X.w) X.A (isTrue e X.env (eval e X.env)) (TP X pins σ Q) X.xe s
noncomputable def PW (X:Cx) (e:Expr) (t:TT):Prop:=
 ∀(whole:Sem Value) (pins:List (Addr×Obj)) (s:Shared) (σ:St) (H:Hp) (Q:Bool→Hp→Prop),Inv X pins σ H s→t σ H Q→wpAny (model X.prog X.w) X.A (isTrue e X.env whole) (TP X pins σ Q) X.xe s
theorem PW.pt{X:Cx}{e:Expr}{t:TT}(h:PW X e t):PT X e t:=h _
noncomputable def PA (X:Cx) (es:List Expr) (t:TA):Prop:=
 ∀(pos:Pos) (pins:List (Addr×Obj)) (s:Shared) (σ:St) (H:Hp) (Q:List V→Hp→Prop),Inv X pins σ H s→t σ H Q→wpAny (model X.prog X.w) X.A (spliced (backTo pos (starEach es X.env))) (AP X pins σ Q) X.xe s
noncomputable def PS (X:Cx) (st:Stmt) (t:TS):Prop:=
 ∀(pins:List (Addr×Obj)) (s:Shared) (σ:St) (H:Hp) (D:Ends),Inv X pins σ H s→t D σ H→wpAny (model X.prog X.w) X.A (exec st X.env) (SP X pins D) X.xe s
noncomputable def PSs (X:Cx) (st:List Stmt) (t:TS):Prop:=
 ∀(pins:List (Addr×Obj)) (s:Shared) (σ:St) (H:Hp) (D:Ends),Inv X pins σ H s→t D σ H→wpAny (model X.prog X.w) X.A (execs st X.env) (SP X pins D) X.xe s
theorem thn{α:Type}{t:Sem α}{Q Q':α→Shared→Prop}{M:Model}{A:Around}{E:Value→Shared→Prop}{s:Shared}(h:wpAny M A t Q E s) (hQ:∀a s,Q a s→Q' a s):wpAny M A t Q' E s:=wpAny_mono h hQ fun _ _ x=>x
section
variable {X:Cx}
noncomputable def zxy (i:Nat):TE:=fun σ H Q=>∃v,σ[i]? =some (some v)∧Q v H
noncomputable def tC (v:V):TE:=fun _ H Q=>Q v H
theorem zlC{i:Nat}{x:Str}{pos:Pos}(hN:X.N[i]? =some x) (hv:Vis X.env.scope x) (hd:(x == ("__debug__" :Str))=false:=by decide) (hcd:(x == ("__classdict__" :Str))=false:=by decide):PE X (.Name x pos) (zxy i):=by
 intro pins s σ H Q I h;obtain⟨v,e,h⟩:=h;obtain⟨m,hn,hl⟩:=I.loc;obtain⟨u,r,l⟩:=hl i x v hN e hv;have fin:EP X pins σ Q u s:=⟨v,H,I,r,h⟩;rcases l with⟨hk,hm⟩ |⟨hk,c,hc,hcell⟩
 ·exact wpAny_Name (wpAny_loadName_local I.ok.kind hk hn hm fin) hd
 ·rcases hk with hk |hk
  ·exact wpAny_Name (wpAny_loadName_cell I.ok.kind hk hc hcell fin) hd
  ·exact wpAny_Name (wpAny_loadName_free I.ok.kind hk hc hcell fin hcd) hd
theorem zsO{i j pos}:PE X (.Constant (.int i) j pos) (tC (.int i)):=fun _ _ _ H _ I h=>wpAny_Constant_int ⟨.int i,H,I.tok _,⟨_,rfl⟩,h⟩
theorem zvR{b j pos}:PE X (.Constant (.bool b) j pos) (tC (.bl b)):=fun _ _ _ H _ I h=>Constant_bool ⟨.bl b,H,I,rfl,h⟩
theorem ztU{j pos}:PE X (.Constant .none j pos) (tC .non):=fun _ _ _ H _ I h=>Constant_none ⟨.non,H,I,rfl,h⟩
theorem zus{x j pos}:PE X (.Constant (.str x) j pos) (tC (.str x)):=fun _ _ _ H _ I h=>Calls.Constant_str ⟨.str x,H,I.tok _,⟨_,rfl⟩,h⟩
noncomputable def Gl (X:Cx) (x:Str):Prop:=X.env.kindOf x=some .globalImplicit
theorem zeA{E:Value→Shared→Prop}{pins:List (Addr×Obj)}{s:Shared}{σ:St}{H:Hp}{x:Str}{u:Value}{pos:Pos}{Q:Value→Shared→Prop}(I:Inv X pins σ H s) (hg:Gl X x) (hm:X.mg x=some u) (h:Q u s)
  (hd:(x == ("__debug__" :Str))=false:=by decide):wpAny (model X.prog X.w) X.A (eval (.Name x pos) X.env) Q E s:=
 Calls.Name_function_global I.ok.kind hg (Calls.loadGlobal_global (by rw [I.ok.glob];exact I.mod.glob.keeps I.bk) hm h) hd
theorem zgC{E:Value→Shared→Prop}{pins:List (Addr×Obj)}{s:Shared}{σ:St}{H:Hp}{x:Str}{u:Value}{pos:Pos}{Q:Value→Shared→Prop}(I:Inv X pins σ H s) (hg:Gl X x) (hm:X.mg x=none) (hv:bootBuiltins x=some u) (h:Q u s)
  (hn:x≠ "__name__" :=by decide) (hd:(x == ("__debug__" :Str))=false:=by decide):wpAny (model X.prog X.w) X.A (eval (.Name x pos) X.env) Q E s:=by
 obtain⟨mb,h1,h2⟩:=I.mod.blt;exact Calls.Name_function_global I.ok.kind hg (Calls.loadGlobal_builtin (by rw [I.ok.glob];exact I.mod.glob.keeps I.bk) hm (by rw [I.ok.blt];exact h1.keeps I.bk) ((h2 x hn).trans hv) h) hd
theorem znh{x:Str}{v:V}{u:Value}{pos:Pos}(hg:Gl X x) (hm:X.mg x=some u) (r:RelV v u) (hd:(x == ("__debug__" :Str))=false:=by decide):PE X (.Name x pos) (tC v):=
 fun _ _ _ H _ I h=>zeA I hg hm ⟨v,H,I,r,h⟩ hd
theorem znf{x:Str}{v:V}{u:Value}{pos:Pos}(hg:Gl X x) (hm:X.mg x=none) (hv:bootBuiltins x=some u) (r:RelV v u) (hn:x≠ "__name__" :=by decide) (hd:(x == ("__debug__" :Str))=false:=by decide):PE X (.Name x pos) (tC v):=
 fun _ _ _ H _ I h=>zgC I hg hm hv ⟨v,H,I,r,h⟩ hn hd
variable {a b:Expr}{ta tb:TE}{pos:Pos}
variable {tA tB':TT}{rest:List Expr}
noncomputable def zxF (t u:TT):TT:=fun σ H Q=>t σ H fun c H1=>if c=true then u σ H1 Q else Q false H1
noncomputable def tOr (t u:TT):TT:=fun σ H Q=>t σ H fun c H1=>if c=true then Q true H1 else u σ H1 Q
noncomputable def zwW (t:TT):TT:=fun σ H Q=>t σ H fun c H1=>Q (!c) H1
theorem zrC (ha:PT X a tA):PW X (.BoolOp .And [a] pos) tA:=by
 intro wh pins s σ H Q I h;refine isTrue_and (thn (ha pins s σ H Q I h) fun c s1 e=>?_);cases c with
 |true=>exact isTrue_and_nil e
 |false=>exact e
theorem ztI (ha:PT X a tA):PW X (.BoolOp .Or [a] pos) tA:=by
 intro wh pins s σ H Q I h;refine isTrue_or (thn (ha pins s σ H Q I h) fun c s1 e=>?_);cases c with
 |false=>exact isTrue_or_nil e
 |true=>exact e
theorem ztd (ha:PT X a tA) (hb:PW X (.BoolOp .And (b::rest) pos) tB'):PW X (.BoolOp .And (a::b::rest) pos) (zxF tA tB'):=by
 intro wh pins s σ H Q I h;refine isTrue_and (thn (ha pins s σ H _ I h) fun c s1 ⟨H1,I1,q1⟩=>?_);cases c with
 |true=>exact hb wh pins s1 σ H1 Q I1 q1
 |false=>exact⟨H1,I1,q1⟩
theorem zvC (ha:PT X a tA) (hb:PW X (.BoolOp .Or (b::rest) pos) tB'):PW X (.BoolOp .Or (a::b::rest) pos) (tOr tA tB'):=by
 intro wh pins s σ H Q I h;refine isTrue_or (thn (ha pins s σ H _ I h) fun c s1 ⟨H1,I1,q1⟩=>?_);cases c with
 |true=>exact⟨H1,I1,q1⟩
 |false=>exact hb wh pins s1 σ H1 Q I1 q1
theorem ztM (ha:PT X a tA):PT X (.UnaryOp .Not a pos) (zwW tA):=by
 intro pins s σ H Q I h;exact isTrue_not (ha pins s σ H (fun c H1=>Q (!c) H1) I h)
noncomputable def zwC (ta tb:TE):TE:=fun σ H Q=>ta σ H fun x H1=>∃c,x= .bl c∧if c=true then tb σ H1 Q else Q (.bl false) H1
noncomputable def zvj (ta:TE):TE:=fun σ H Q=>ta σ H fun x H1=>∃c,x= .bl c∧Q (.bl (!c)) H1
theorem ztH{op}{t:TE}(h:PE X a t):PE X (.BoolOp op [a] pos) t:=fun pins s σ H Q I hw=>BoolOp_one (h pins s σ H Q I hw)
theorem zuQ (ha:PE X a ta) (hb:PE X (.BoolOp .And (b::rest) pos) tb):PE X (.BoolOp .And (a::b::rest) pos) (zwC ta tb):=by
 intro pins s σ H Q I h;refine BoolOp_and (thn (ha pins s σ H _ I h) fun v s1 ⟨x,H1,I1,r1,q1⟩=>?_);obtain⟨c,rfl,q1⟩:=q1;cases r1;refine wpAny_truthy_bool ?_;cases c with
 |true=>exact hb pins s1 σ H1 Q I1 q1
 |false=>exact⟨.bl false,H1,I1,rfl,q1⟩
theorem zsF (ha:PE X a ta):PE X (.UnaryOp .Not a pos) (zvj ta):=by
 intro pins s σ H Q I h;refine UnaryOp_ (thn (ha pins s σ H _ I h) fun v s1 ⟨x,H1,I1,r1,q1⟩=>?_);obtain⟨c,rfl,q1⟩:=q1;cases r1;exact not_of (wpAny_truthy_bool ⟨.bl (!c),H1,I1,rfl,q1⟩)
end
noncomputable def SqL (K:PySem.W.Frag) (H:Hp) (a:Addr) (xs:List V):Prop:=
 Rd H a (.lst xs)∨
  ∃(o:Obj) (its:Array Value) (n:Nat),K.lookup a=some o∧o.cls= .type "list" ∧o.dict=none∧o.data= .seq its n∧its.size≤sizeLine∧Vals xs its.toList
noncomputable def SqT (K:PySem.W.Frag) (H:Hp) (a:Addr) (xs:List V):Prop:=
 Rd H a (.tup xs)∨
  ∃(o:Obj) (its:Array Value) (n:Nat),K.lookup a=some o∧o.cls= .type "tuple" ∧o.data= .seq its n∧its.size≤sizeLine∧Vals xs its.toList
noncomputable def zwY:Value→Option V
 | .none=>some .non
 | .bool b=>some (.bl b)
 | .int i _=>some (.int i)
 | .str x _=>some (.str x)
 | .bytes b _=>some (.byt b)
 | .float b _=>some (.flt b)
 | .ref a=>some (.ref a)
 | .type n=>some (.ty n)
 |_=>none
theorem RelV.abs{x:V}{u:Value}(r:RelV x u):zwY u=some x:=by
 cases x with
 |non=>cases r;rfl
 |bl _=>cases r;rfl
 |int _=>obtain⟨t,rfl⟩:=r;rfl
 |str _=>obtain⟨t,rfl⟩:=r;rfl
 |byt _=>obtain⟨t,rfl⟩:=r;rfl
 |flt _=>obtain⟨t,rfl⟩:=r;rfl
 |ref _=>cases r;rfl
 |ty _=>cases r;rfl
theorem RelV.inj{x y:V}{u:Value}(r:RelV x u) (q:RelV y u):x=y:=Option.some.inj (r.abs.symm.trans q.abs)
theorem Vals.inj:∀{xs ys:List V}{us:List Value},Vals xs us→Vals ys us→xs=ys
 |_,_,_, .nil, .nil=>rfl
 |_,_,_, .cons r t, .cons r' t'=>by rw [r.inj r',Vals.inj t t']
section
variable {X:Cx}{pins:List (Addr×Obj)}{σ:St}{H:Hp}{s:Shared}{a:Addr}{xs ys:List V}
theorem SqL.of{K:PySem.W.Frag}(h:H a=some (.lst xs)):SqL K H a xs:= .inl (.inl h)
theorem SqT.of{K:PySem.W.Frag}(h:H a=some (.tup xs)):SqT K H a xs:= .inl (.inl h)
theorem Inv.list (I:Inv X pins σ H s) (h:SqL X.K H a xs):∃its:List Value,Vals xs its∧PlainL s.heap a its.toArray∧xs.length≤sizeLine:=by
 rcases h with h |⟨o,its,n,hk,hc,hd,hs,hz,r⟩
 ·obtain⟨z,its,n,r,e⟩:=h.ok I.hok;exact⟨its,r,⟨_,n,e,rfl,rfl,rfl⟩,z⟩
 ·refine⟨its.toList,r,⟨o,n,I.kIn a o hk,hc,hd,by simpa using hs⟩,?_⟩
  have e:=r.length;simp only[Array.length_toList]at e;omega
theorem Inv.tuple (I:Inv X pins σ H s) (h:SqT X.K H a xs):∃its:List Value,Vals xs its∧IsTup s.heap a its.toArray∧xs.length≤sizeLine:=by
 rcases h with h |⟨o,its,n,hk,hc,hs,hz,r⟩
 ·obtain⟨z,its,r,p⟩:=h.ok I.hok;exact⟨its,r,p,z⟩
 ·refine⟨its.toList,r,⟨o,I.kIn a o hk,hc,n,by simpa using hs⟩,?_⟩
  have e:=r.length;simp only[Array.length_toList]at e;omega
theorem Inv.list_inj (I:Inv X pins σ H s) (h:SqL X.K H a xs) (h':SqL X.K H a ys):xs=ys:=by
 obtain⟨its,r,⟨o,n,e,_,_,d⟩,_⟩:=I.list h;obtain⟨its',r',⟨o',n',e',_,_,d'⟩,_⟩:=I.list h';rw [e]at e';cases e';rw [d]at d';injection d' with d1 _;have:its=its':=by simpa using congrArg Array.toList d1
 subst this;exact r.inj r'
theorem Inv.tuple_inj (I:Inv X pins σ H s) (h:SqT X.K H a xs) (h':SqT X.K H a ys):xs=ys:=by
 obtain⟨its,r,⟨o,e,_,n,d⟩,_⟩:=I.tuple h;obtain⟨its',r',⟨o',e',_,n',d'⟩,_⟩:=I.tuple h';rw [e]at e';cases e';rw [d]at d';injection d' with d1 _;have:its=its':=by simpa using congrArg Array.toList d1
 subst this;exact r.inj r'
end
noncomputable abbrev Cx.wish (X:Cx) (E:Value→Shared→Prop):Cx:={ X with xe:=E }
noncomputable abbrev Cx.nox (X:Cx):Cx:=X.wish fun _ _=>False
theorem Cx.Ok.wish{X:Cx}(ok:X.Ok) (E:Value→Shared→Prop):(X.wish E).Ok:=
 ⟨ok.mod,ok.kind,ok.glob,ok.blt,ok.above,ok.inj,ok.has,ok.cab,ok.hd,ok.frames,ok.stk,ok.exf,ok.bs,ok.bsz,ok.noex,ok.exfs,ok.funs,ok.frf⟩
theorem Cx.Ok.unwish{X:Cx}{E:Value→Shared→Prop}(ok:(X.wish E).Ok):X.Ok:=
 ⟨ok.mod,ok.kind,ok.glob,ok.blt,ok.above,ok.inj,ok.has,ok.cab,ok.hd,ok.frames,ok.stk,ok.exf,ok.bs,ok.bsz,ok.noex,ok.exfs,ok.funs,ok.frf⟩
section
variable {X:Cx}{pins:List (Addr×Obj)}{σ:St}{H:Hp}{s:Shared}{E:Value→Shared→Prop}
theorem Inv.wish (I:Inv X pins σ H s) (E:Value→Shared→Prop):Inv (X.wish E) pins σ H s:=⟨I.ok.wish E,I.os,I.bare,I.base,I.loc,I.cell,I.free,I.freeC,I.pin,I.hok,I.len⟩
theorem Inv.unwish (I:Inv (X.wish E) pins σ H s):Inv X pins σ H s:=⟨I.ok.unwish,I.os,I.bare,I.base,I.loc,I.cell,I.free,I.freeC,I.pin,I.hok,I.len⟩
theorem SP.unwish{D:Ends}{f:Flow}{s':Shared}(h:SP (X.wish E) pins D f s'):SP X pins D f s':=by
 cases f with
 |next=>obtain⟨σ',H',I,q⟩:=h;exact⟨σ',H',I.unwish,q⟩
 |brk=>obtain⟨σ',H',I,q⟩:=h;exact⟨σ',H',I.unwish,q⟩
 |cont=>obtain⟨σ',H',I,q⟩:=h;exact⟨σ',H',I.unwish,q⟩
 |ret u=>obtain⟨v,σ',H',I,r,q⟩:=h;exact⟨v,σ',H',I.unwish,r,q⟩
theorem PE.nox{e:Expr}{t:TE}(h:PE X.nox e t):PE X e t:=fun pins s σ H Q I hw=>
 wpAny_mono (h pins s σ H Q (I.wish _) hw) (fun _ _ ⟨v,H',I',r,q⟩=>⟨v,H',I'.unwish,r,q⟩) fun _ _ z=>False.elim z
end
section
variable {X:Cx}{st:Stmt}{rest:List Stmt}{t u:TS}{e:Expr}{te:TE}{pos:Pos}
noncomputable def zvr:TS:=fun D σ H=>D.nx σ H
noncomputable def zxn (t u:TS):TS:=fun D σ H=>t { D with nx:=u D } σ H
theorem pss_nil:PSs X [] zvr:=fun _ _ σ H _ I h=>wpAny_execs_nil ⟨σ,H,I,h⟩
theorem zoI (h1:PS X st t) (h2:PSs X rest u):PSs X (st::rest) (zxn t u):=by
 intro pins s σ H D I h;refine wpAny_execs_cons (thn (h1 pins s σ H { D with nx:=u D } I h) fun f s1 q=>?_);cases f with
 |next=>
  obtain⟨σ',H',I',q⟩:=q;exact h2 pins s1 σ' H' D I' q
 |ret v=>exact q
 |brk=>exact q
 |cont=>exact q
theorem znF (h1:PS X st t):PSs X [st] t:=by
 intro pins s σ H D I h;refine wpAny_execs_cons (thn (h1 pins s σ H D I h) fun f s1 q=>?_);cases f with
 |next=>exact wpAny_execs_nil q
 |ret v=>exact q
 |brk=>exact q
 |cont=>exact q
theorem Inv.quiet{pins:List (Addr×Obj)}{σ:St}{H:Hp}{s:Shared}(I:Inv X pins σ H s):interactive X.env=false:=by simp [interactive,I.ok.kind]
noncomputable def zvl (te:TE):TS:=fun D σ H=>te σ H fun _ H1=>D.nx σ H1
theorem zmd (he:PE X e te) (hs:swapsWith e none pos.line X.env=pure false:=by rfl):PS X (.Expr e pos) (zvl te):=by
 intro pins s σ H D I h;exact wpAny_Expr_any (thn (he pins s σ H _ I h) fun v s1 ⟨x,H1,I1,r1,q1⟩=>⟨σ,H1,I1,q1⟩) I.quiet hs
noncomputable def zxb (te:TE):TS:=fun D σ H=>te σ H D.rt
theorem zpP (he:PE X e te):PS X (.Return (some e) pos) (zxb te):=by
 intro pins s σ H D I h;exact wpAny_Return_some (thn (he pins s σ H _ I h) fun v s1 ⟨x,H1,I1,r1,q1⟩=>⟨x,σ,H1,I1,r1,q1⟩)
noncomputable def zxM (c:TT) (t u:TS):TS:=fun D σ H=>c σ H fun b H1=>if b=true then t D σ H1 else u D σ H1
theorem zuE{c:Expr}{a b:List Stmt}{tc:TT}(hc:PT X c tc) (ha:PSs X a t) (hb:PSs X b u):PS X (.If c a b pos) (zxM tc t u):=by
 intro pins s σ H D I h;refine wpAny_If (thn (hc pins s σ H _ I h) fun d s1 ⟨H1,I1,q1⟩=>?_);cases d with
 |true=>exact ha pins s1 σ H1 D I1 q1
 |false=>exact hb pins s1 σ H1 D I1 q1
end
noncomputable abbrev TG:=V→St→Hp→(St→Hp→Prop)→Prop
noncomputable abbrev TGs:=List V→St→Hp→(St→Hp→Prop)→Prop
noncomputable def PG (X:Cx) (target:Expr) (t:TG):Prop:=
 ∀(pins:List (Addr×Obj)) (s:Shared) (σ:St) (H:Hp) (v:V) (u:Value) (Q:St→Hp→Prop),Inv X pins σ H s→RelV v u→t v σ H Q→
  wpAny (model X.prog X.w) X.A (assign target X.env u) (fun _ s'=>∃σ' H',Inv X pins σ' H' s'∧Q σ' H') X.xe s
noncomputable def PGs (X:Cx) (ts:List Expr) (t:TGs):Prop:=
 ∀(pins:List (Addr×Obj)) (s:Shared) (σ:St) (H:Hp) (vs:List V) (us:List Value) (Q:St→Hp→Prop),Inv X pins σ H s→Vals vs us→t vs σ H Q→
  wpAny (model X.prog X.w) X.A (assignInOrder ((assignEach ts X.env).map (·.2)) us) (fun _ s'=>∃σ' H',Inv X pins σ' H' s'∧Q σ' H') X.xe s
noncomputable abbrev TIp:=V→V→Hp→VK→Prop
noncomputable def PIp (X:Cx) (op:Operator) (t:TIp):Prop:=
 ∀(pins:List (Addr×Obj)) (s:Shared) (σ:St) (H:Hp) (x y:V) (v u:Value) (Q:VK),Inv X pins σ H s→RelV x v→RelV y u→t x y H Q→
  wpAny (model X.prog X.w) X.A (inplaceOp op v u) (EP X pins σ Q) X.xe s
section
variable {X:Cx}{pos:Pos}
noncomputable def zsr (i:Nat):TG:=fun v σ H Q=>Q (σ.set i (some v)) H
theorem zrQ{i:Nat}{x:Str}(hN:X.N.Nodup) (hi:X.N[i]? =some x) (hx:Loc X.env.scope x) (hf:X.fn x=true∨X.env.scope.names.lookup x=some .local:=by first |exact .inl rfl |exact .inr rfl |assumption):PG X (.Name x pos) (zsr i):=by
 intro pins s σ H v u Q I r h;exact wpAny_assign_Name (zeS I hN hi hx r (fun s' I'=>⟨_,H,I',h⟩) hf)
noncomputable def zxE:TGs:=fun vs σ H Q=>vs=[]∧Q σ H
noncomputable def zwd (t:TG) (u:TGs):TGs:=fun vs σ H Q=>∃v r,vs=v::r∧t v σ H fun σ' H'=>u r σ' H' Q
theorem zrw:PGs X [] zxE:=by
 intro pins s σ H vs us Q I r h;obtain⟨e,h⟩:=h;subst e;cases r;exact assignInOrder_nil ⟨σ,H,I,h⟩
theorem zoY{e:Expr}{es:List Expr}{t:TG}{u:TGs}(h1:PG X e t) (h2:PGs X es u)
  (hs:(assignEach (e::es) X.env).map (·.2)=assign e X.env::(assignEach es X.env).map (·.2):=by rfl):PGs X (e::es) (zwd t u):=by
 intro pins s σ H vs us Q I r h;obtain⟨v,vr,e1,h⟩:=h;subst e1;cases r with
 |cons r rr=>
  rw [hs];refine assignInOrder_cons (thn (h1 pins s σ H _ _ _ I r h) fun _ s1 ⟨σ1,H1,I1,q1⟩=>?_);exact h2 pins s1 σ1 H1 _ _ Q I1 rr q1
noncomputable def zxo (K:PySem.W.Frag) (n:Nat) (t:TGs):TG:=fun v σ H Q=>∃a xs,v= .ref a∧SqT K H a xs∧xs.length=n∧t xs σ H Q
theorem zuk{es:List Expr}{k:Nat}{t:TGs}{n:Nat}(hc:X.calm=true) (h:PGs X es t)
  (hn:(assignEach es X.env).length=n:=by rfl) (hst:(assignEach es X.env).findIdx? (·.1)=none:=by rfl):PG X (.Tuple es k pos) (zxo X.K n t):=by
 intro pins s σ H v u Q I r hw;obtain⟨a,xs,e1,hq,hl,hw⟩:=hw;subst e1;cases r;obtain⟨its,rv,ht,hz⟩:=I.tuple hq;refine assign_Tuple_tuple (I.ok.hd hc) ht (by simp [hn,←hl,rv.length]) hst fun h' hx=>?_;have I1:Inv X pins σ H { s with heap:=h' }:=I.kept (t':=s.toks) fun b o e=>hx b o (Nat.ne_of_lt (Heap.lt_size e)) e;exact h pins _ σ H xs _ Q I1 (by simpa using rv) hw
noncomputable def zwL (te:TE) (g:TG):TS:=fun D σ H=>te σ H fun x H1=>g x σ H1 D.nx
theorem zvb{i:Nat}{x:Str}{e:Expr}{te:TE}{pos':Pos}(hN:X.N.Nodup) (hi:X.N[i]? =some x) (hx:Loc X.env.scope x) (he:PE X e te) (hs:swapsWith e (some (.Name x pos')) pos.line X.env=pure false:=by rfl) (hf:X.fn x=true∨X.env.scope.names.lookup x=some .local:=by first |exact .inl rfl |exact .inr rfl |assumption) :
  PS X (.Assign [.Name x pos'] e pos) (zwL te (zsr i)):=by
 intro pins s σ H D I h;refine wpAny_Assign_Name (thn (he pins s σ H _ I h) fun v s1 ⟨y,H1,I1,r1,q1⟩=>?_) hs;exact zeS I1 hN hi hx r1 (fun s2 I2=>⟨_,H1,I2,q1⟩) hf
noncomputable def zxJ (i:Nat) (te:TE) (ti:TIp):TS:=fun D σ H=>∃x,σ[i]? =some (some x)∧te σ H fun y H1=>ti x y H1 fun z H2=>D.nx (σ.set i (some z)) H2
theorem ztW{i:Nat}{x:Str}{e:Expr}{te:TE}{op:Operator}{ti:TIp}{pos':Pos}(hN:X.N.Nodup) (hi:X.N[i]? =some x) (hx:Loc X.env.scope x) (he:PE X e te) (ho:PIp X op ti) (hf:X.fn x=true∨X.env.scope.names.lookup x=some .local:=by first |exact .inl rfl |exact .inr rfl |assumption) :
  PS X (.AugAssign (.Name x pos') op e pos) (zxJ i te ti):=by
 intro pins s σ H D I h;obtain⟨v,e1,h⟩:=h;obtain⟨m,hn,hl⟩:=I.loc;have vis:Vis X.env.scope x:=by rcases hx with k |k;exact .inl k;exact .inr (.inl k)
 obtain⟨u,r,l⟩:=hl i x v hi e1 vis;refine wpAny_AugAssign_Name ?_;have go:wpAny (model X.prog X.w) X.A (eval e X.env) (fun w s₂=>wpAny (model X.prog X.w) X.A (inplaceOp op u w) (fun r s₃=>wpAny (model X.prog X.w) X.A (storeName X.env x r) (fun _=>SP X pins D .next) X.xe s₃) X.xe s₂) X.xe s:=by
  refine thn (he pins s σ H _ I h) fun w s1 ⟨y,H1,I1,r1,q1⟩=>?_;refine thn (ho pins s1 σ H1 v y u w _ I1 r r1 q1) fun z s2 ⟨zv,H2,I2,r2,q2⟩=>?_;exact zeS I2 hN hi hx r2 (fun s3 I3=>⟨_,H2,I3,q2⟩) hf
 rcases l with⟨hk,hm⟩ |⟨hk,c,hc,hcell⟩
 ·exact wpAny_loadName_local I.ok.kind hk hn hm go
 ·rcases hk with hk |hk
  ·exact wpAny_loadName_cell I.ok.kind hk hc hcell go
  ·rcases hx with k |k
   ·have:X.env.scope.names.lookup x=some .free:=hk;rw [k]at this;cases this
   ·have:X.env.scope.names.lookup x=some .free:=hk;rw [k]at this;cases this
noncomputable def ipI (f:Int→Int→Int):TIp:=fun x y H Q=>∃i j,x= .int i∧y= .int j∧Q (.int (f i j)) H
theorem zsN:PIp X .Add (ipI fun i j=>i+j):=by
 intro pins s σ H x y v u Q I r1 r2 h;obtain⟨i,j,e1,e2,q⟩:=h;subst e1;subst e2;obtain⟨t,rfl⟩:=r1;obtain⟨t',rfl⟩:=r2;exact iadd_int ⟨.int _,H,I.tok _,⟨_,rfl⟩,q⟩
end
section
variable {X:Cx}{pos:Pos}
noncomputable def ztQ (c:TT) (tb:TS):TS:=fun D σ H=>∃W:Nat→St→Hp→Prop,(∃m,W m σ H)∧ ∀m σ H,W m σ H→
 c σ H fun b H1=>if b=true then ∃N:St→Hp→Prop,(∀σ' H',N σ' H'→ ∃m',m'<m∧W m' σ' H')∧tb { D with nx:=N,ct:=N,bk:=D.nx } σ H1 else D.nx σ H1
theorem znZ{c:Expr}{body:List Stmt}{tc:TT}{tb:TS}(hp:PassesOwn (model X.prog X.w) X.A X.env X.xe) (hc:PT X c tc) (hb:PSs X body tb):PS X (.While c body [] pos) (ztQ tc tb):=by
 intro pins s σ H D I h;obtain⟨W,⟨m0,w0⟩,turn⟩:=h;refine wpAny_While (codeAny_whileLoop (fun n s'=>∃σ' H',Inv X pins σ' H' s'∧W n σ' H') ?_ m0 ⟨σ,H,I,w0⟩);rintro n s1 ⟨σ1,H1,I1,w1⟩;refine wpAny_passesOwn hp (thn (hc pins s1 σ1 H1 _ I1 (turn n σ1 H1 w1)) fun b s2 ⟨H2,I2,q2⟩=>?_);cases b with
 |true=>
  obtain⟨N,hN,q2⟩:=q2;rw [if_pos rfl];refine wpAny_passesOwn hp (thn (hb pins s2 σ1 H2 _ I2 q2) fun f s3 q3=>?_);cases f with
  |next=>
   obtain⟨σ3,H3,I3,n3⟩:=q3;obtain⟨m',hm,w3⟩:=hN σ3 H3 n3;exact⟨m',hm,σ3,H3,I3,w3⟩
  |cont=>
   obtain⟨σ3,H3,I3,n3⟩:=q3;obtain⟨m',hm,w3⟩:=hN σ3 H3 n3;exact⟨m',hm,σ3,H3,I3,w3⟩
  |brk=>exact q3
  |ret v=>exact q3
 |false=>
  rw [if_neg Bool.false_ne_true];exact wpAny_execs_nil ⟨σ1,H2,I2,q2⟩
end
structure It where
  go:Nat→Hp→Prop
  yld:Nat→Hp→V→Hp→Prop
  stop:Nat→Hp→Prop
noncomputable def zhp (X:Cx) (pins:List (Addr×Obj)) (H:Hp) (b:Addr):Prop:=
 H b=none∧b≠X.env.locals∧b∉X.fs∧(b∈X.ex∨X.s₀.heap.objs.size≤b)∧(∀x c,X.env.cells.lookup x=some c→c≠b)∧ ∀p∈X.pn++pins,p.1≠b
theorem Inv.fpOk{X:Cx}{pins:List (Addr×Obj)}{σ:St}{H H':Hp}{s:Shared}{b:Addr}(I:Inv X pins σ H s) (hb:s.heap.objs.size≤b) (hn:H' b=none):zhp X pins H' b:=by
 refine⟨hn,Nat.ne_of_gt (Nat.lt_of_lt_of_le I.lt hb),I.nofs hb, .inr (Nat.le_trans I.sz hb),fun x c e z=>?_,fun p hp z=>?_⟩
 ·obtain⟨v,q⟩:=I.cell x c e;exact absurd (Nat.lt_of_lt_of_le q.lt (by rw [z];exact hb)) (Nat.lt_irrefl _)
 ·exact absurd (Nat.lt_of_lt_of_le (Heap.lt_size (I.pin p hp).1) (by rw [z];exact hb)) (Nat.lt_irrefl _)
structure Turn (P:Program) (w:World) (K:PySem.W.Frag) (tg:Expr) (J:It) (fp:List Addr) (it:Addr) (tn:Nat→Heap→Prop):Prop where
  mem:it∈fp
  obj:∀i h,tn i h→ ∀b∈fp,∃o,h.get? b=some o∧ ∀v,o.data≠ .cell v
  keep:∀i h h',tn i h→(∀b∈fp,∀o,h.get? b=some o→h'.get? b=some o)→tn i h'
  item:∀(X:Cx),X.prog=P→X.w=w→X.K=K→X.calm=true→ ∀(i:Nat) (pins:List (Addr×Obj)) (s:Shared) (σ:St) (H:Hp) (E:Value→Shared→Prop),Inv X pins σ H s→(∀b∈fp,zhp X pins H b)→tn i s.heap→J.go i H→
    wpAny (model P w) X.A (pyNext (.ref it)) (fun r s1=>∃u,r=some u∧
      wpAny (model P w) X.A (letOwnedTupleGo tg (.ref it) u) (fun _ s2=>∃x H',Inv X pins σ H' s2∧RelV x u∧J.yld i H x H'∧tn (i+1) s2.heap∧ ∀b∈fp,H' b=none) E s1) E s
  done:∀(X:Cx),X.prog=P→X.w=w→X.K=K→X.calm=true→ ∀(i:Nat) (pins:List (Addr×Obj)) (s:Shared) (σ:St) (H:Hp) (E:Value→Shared→Prop),Inv X pins σ H s→(∀b∈fp,zhp X pins H b)→tn i s.heap→J.stop i H→
    wpAny (model P w) X.A (pyNext (.ref it)) (fun r s1=>r=none∧Inv X pins σ H s1) E s
  self:∀(A:Around) (i:Nat) (s:Shared) (Q:Value→Shared→Prop) (E:Value→Shared→Prop),tn i s.heap→Q (.ref it) s→wpAny (model P w) A (pyIter (.ref it)) Q E s
noncomputable abbrev TI:=St→Hp→(It→Hp→Prop)→Prop
noncomputable def PIE (X:Cx) (pins:List (Addr×Obj)) (σ:St) (tg:Expr) (R:It→Hp→Prop) (itv:Value) (s2:Shared):Prop:=
 ∃(it:Addr) (fp:List Addr) (tn:Nat→Heap→Prop) (J:It) (H':Hp),itv= .ref it∧Inv X pins σ H' s2∧Turn X.prog X.w X.K tg J fp it tn∧tn 0 s2.heap∧(∀b∈fp,zhp X pins H' b)∧R J H'
noncomputable def PI (X:Cx) (tg iter:Expr) (wi:TI):Prop:=
 ∀(pins:List (Addr×Obj)) (s:Shared) (σ:St) (H:Hp) (R:It→Hp→Prop),Inv X pins σ H s→wi σ H R→
  wpAny (model X.prog X.w) X.A (eval iter X.env) (fun v s1=>wpAny (model X.prog X.w) X.A (pyIter v) (PIE X pins σ tg R) X.xe s1) X.xe s
theorem zmG{M:Model}{A:Around}{E:Value→Shared→Prop}{s:Shared}{tg:Expr}{it:Addr}{u:Value}{o:Obj}{n:String}{vs:Array Value}{Q:Unit→Shared→Prop}(ho:s.heap.get? it=some o) (hc:o.cls= .type n) (hd:o.data= .fields vs)
    (hn: ["enumerate", "zip", "dict_itemiterator", "dict_reverseitemiterator", "odict_iterator", "itertools.zip_longest", "itertools.pairwise"].contains n=false) (hQ:Q () s):wpAny M A (letOwnedTupleGo tg (.ref it) u) Q E s:=by
  unfold letOwnedTupleGo;cases tg<;>first
    |exact wpAny_pure hQ
    | (cases u<;>first
        |exact wpAny_pure hQ
        | (refine wpAny_bind (wpAny_load ho ?_)
           rw [hc,hd];show wpAny M A (if(["enumerate", "zip", "dict_itemiterator", "dict_reverseitemiterator", "odict_iterator", "itertools.zip_longest", "itertools.pairwise"].contains n&&vs[0]? == some (rawInt _))=true then _ else _) Q E s;rw [if_neg (by intro h;rw [hn,Bool.false_and]at h;cases h)];exact wpAny_pure hQ))
noncomputable def Itl (K:PySem.W.Frag) (a:Addr):It:=
 ⟨fun i H=>∃xs x,SqL K H a xs∧xs[i]? =some x,fun i H x H'=>H'=H∧ ∀xs,SqL K H a xs→xs[i]? =some x,fun i H=>∃xs,SqL K H a xs∧xs.length≤i⟩
noncomputable def Itt (K:PySem.W.Frag) (a:Addr):It:=
 ⟨fun i H=>∃xs x,SqT K H a xs∧xs[i]? =some x,fun i H x H'=>H'=H∧ ∀xs,SqT K H a xs→xs[i]? =some x,fun i H=>∃xs,SqT K H a xs∧xs.length≤i⟩
noncomputable def Itr (lo:Int) (n:Nat):It:=⟨fun i _=>i<n,fun i H x H'=>H'=H∧x= .int (lo+i),fun i _=>n≤i⟩
theorem zna{P:Program}{w:World}{K:PySem.W.Frag}{tg:Expr}(a it:Addr):Turn P w K tg (Itl K a) [it] it (fun i h=>h.IsListIter it a i) where
  mem:=by simp
  obj:=fun i h st b hb=>by
    have e:b=it:=by simpa using hb
    subst e;obtain⟨o,e,c,d⟩:=st;exact⟨o,e,fun v z=>by rw [d]at z;cases z⟩
  keep:=fun i h h' st k=>st.at fun o e=>k it (by simp) o e
  item:=by
    intro X hP hw hK hc i pins s σ H E I hf st hg;subst hP hw hK;obtain⟨xs,x,hq,hx⟩:=hg;obtain⟨its,rv,p,hz⟩:=I.list hq;obtain⟨u,hu,ru⟩:=rv.get hx;obtain⟨f0,f1,f2,f3,f4,f5⟩:=hf it (by simp);refine wpAny_pyNext_list_item st p.isList (x:=u) (by simpa using hu) fun h' st' sb=>?_;have I1:Inv X pins σ H { s with heap:=h' }:=I.turned (t':=s.toks) (fun b o hb e=>(sb.2 b hb).trans e) f0 f1 f3 f4 f5;obtain⟨o,e,c,d⟩:=id st';exact⟨u,rfl,zmG (s:={ s with heap:=h' }) e c d (by decide) ⟨x,H,I1,ru,⟨rfl,fun ys hy=>by rw [I.list_inj hy hq];exact hx⟩,st',fun b hb=>(hf b hb).1⟩⟩
  done:=by
    intro X hP hw hK hc i pins s σ H E I hf st hg;subst hP hw hK;obtain⟨xs,hq,hx⟩:=hg;obtain⟨its,rv,p,hz⟩:=I.list hq;obtain⟨f0,f1,f2,f3,f4,f5⟩:=hf it (by simp);have hl:=rv.length;exact wpAny_pyNext_list_end (I.ok.hd hc) st p.isList (by simp;omega) fun h' eb=>⟨rfl,I.turned (t':=s.toks) (fun b o hb e=>eb b o hb e) f0 f1 f3 f4 f5⟩
  self:=fun _ _ _ _ _ st h=>wpAny_pyIter_listiter st h
theorem zkY{P:Program}{w:World}{K:PySem.W.Frag}{tg:Expr}(a it:Addr):Turn P w K tg (Itt K a) [it] it (fun i h=>h.IsTupleIter it a i) where
  mem:=by simp
  obj:=fun i h st b hb=>by
    have e:b=it:=by simpa using hb
    subst e;obtain⟨o,e,c,d⟩:=st;exact⟨o,e,fun v z=>by rw [d]at z;cases z⟩
  keep:=fun i h h' st k=>st.at fun o e=>k it (by simp) o e
  item:=by
    intro X hP hw hK hc i pins s σ H E I hf st hg;subst hP hw hK;obtain⟨xs,x,hq,hx⟩:=hg;obtain⟨its,rv,p,hz⟩:=I.tuple hq;obtain⟨u,hu,ru⟩:=rv.get hx;obtain⟨f0,f1,f2,f3,f4,f5⟩:=hf it (by simp);refine wpAny_pyNext_tuple_item st (show s.heap.IsTuple a its.toArray from p) (x:=u) (by simpa using hu) fun h' st' sb=>?_;have I1:Inv X pins σ H { s with heap:=h' }:=I.turned (t':=s.toks) (fun b o hb e=>(sb.2 b hb).trans e) f0 f1 f3 f4 f5;obtain⟨o,e,c,d⟩:=id st';exact⟨u,rfl,zmG (s:={ s with heap:=h' }) e c d (by decide) ⟨x,H,I1,ru,⟨rfl,fun ys hy=>by rw [I.tuple_inj hy hq];exact hx⟩,st',fun b hb=>(hf b hb).1⟩⟩
  done:=by
    intro X hP hw hK hc i pins s σ H E I hf st hg;subst hP hw hK;obtain⟨xs,hq,hx⟩:=hg;obtain⟨its,rv,p,hz⟩:=I.tuple hq;obtain⟨f0,f1,f2,f3,f4,f5⟩:=hf it (by simp);have hl:=rv.length;exact wpAny_pyNext_tuple_end (I.ok.hd hc) st (show s.heap.IsTuple a its.toArray from p) (by simp;omega) fun h' eb=>⟨rfl,I.turned (t':=s.toks) (fun b o hb e=>eb b o hb e) f0 f1 f3 f4 f5⟩
  self:=fun _ _ _ _ _ st h=>wpAny_pyIter_tupleiter st h
theorem zlc{P:Program}{w:World}{K:PySem.W.Frag}{tg:Expr}(it:Addr) (lo:Int) (n:Nat):Turn P w K tg (Itr lo n) [it] it (fun i h=>IsRangeIter h it (lo+(i:Nat)*1) ((n:Int) - (i:Nat)) 1) where
  mem:=by simp
  obj:=fun i h st b hb=>by
    have e:b=it:=by simpa using hb
    subst e;exact⟨_,st,fun v z=>by
      have z':Data.fields _=Data.cell v:=z;cases z'⟩
  keep:=fun i h h' st k=>k it (by simp) _ st
  item:=by
    intro X hP hw hK hc i pins s σ H E I hf st hg;subst hP hw hK;obtain⟨f0,f1,f2,f3,f4,f5⟩:=hf it (by simp);have W:=Walks.range (prog:=X.prog) (w:=X.w) (I.ok.hd hc) it lo 1 n;refine W.item i s _ _ hg st fun v h' tk hv st' kk=>?_;obtain⟨t,rfl⟩:=hv;have I1:Inv X pins σ H { s with heap:=h',toks:=tk }:=I.turned (fun b o hb e=>kk b o (by simpa using hb) e) f0 f1 f3 f4 f5;refine⟨_,rfl,zmG (s:={ s with heap:=h',toks:=tk }) (n:= "range_iterator") st' rfl rfl (by decide) ⟨.int (lo+i),H,I1,⟨t,?_⟩,⟨rfl,rfl⟩,st',fun b hb=>(hf b hb).1⟩⟩;rw [Int.mul_one]
  done:=by
    intro X hP hw hK hc i pins s σ H E I hf st hg;subst hP hw hK;obtain⟨f0,f1,f2,f3,f4,f5⟩:=hf it (by simp);exact wpAny_pyNext_range_end (I.ok.hd hc) st (by have:n≤i:=hg;omega) fun h' eb=>⟨rfl,I.turned (t':=s.toks) (fun b o hb e=>eb b o hb e) f0 f1 f3 f4 f5⟩
  self:=fun _ _ _ _ _ st h=>wpAny_pyIter_rangeiter st h
section
variable {X:Cx}{tg:Expr}
theorem zoi{pins:List (Addr×Obj)}{σ:St}{H:Hp}{s:Shared}{R:It→Hp→Prop}{E:Value→Shared→Prop}{lo hi:Int}{t u v:Tok}{tk:Nat}(I:Inv X pins σ H s) (h1: -(2 ^ 62)≤lo) (h2:lo<2 ^ 62) (h3: -(2 ^ 62)≤hi) (h4:hi<2 ^ 62)
  (q:R (Itr lo (hi - lo).toNat) H):wpAny (model X.prog X.w) X.A (pyIter (.ref s.heap.objs.size)) (PIE X pins σ tg R) E { s with heap:=s.heap.push { cls:= .type "range",data:= .fields #[.int lo t, .int hi u, .int 1 v] },toks:=tk }:=by
 refine wpAny_pyIter_range (IsRange.new ..) (small_one h1 h2 h3 h4) ?_;have I1:Inv X pins σ H { s with heap:=s.heap.push { cls:= .type "range",data:= .fields #[.int lo t, .int hi u, .int 1 v] },toks:=tk }:=I.kept fun b o e=>Heap.get?_push_of_some _ e;refine⟨(s.heap.push { cls:= .type "range",data:= .fields #[.int lo t, .int hi u, .int 1 v] }).objs.size,[(s.heap.push { cls:= .type "range",data:= .fields #[.int lo t, .int hi u, .int 1 v] }).objs.size],_,_,H,rfl,
  I1.kept (t':=tk) fun b o e=>Heap.get?_push_of_some _ e,zlc _ lo (hi - lo).toNat,?_,fun b hb=>?_,q⟩
 ·have e1:lo+((0:Nat):Int)*1=lo:=by simp
  have e2:(((hi - lo).toNat:Nat):Int) - ((0:Nat):Int)=Builtin.Range.rangeSize lo hi 1:=by rw [rangeSize_one];split<;>omega
  show IsRangeIter _ _ (lo+((0:Nat):Int)*1) ((((hi - lo).toNat:Nat):Int) - ((0:Nat):Int)) 1;rw [e1,e2];exact Heap.get?_push_size _ rfl
 ·have e:b=(s.heap.push { cls:= .type "range",data:= .fields #[.int lo t, .int hi u, .int 1 v] }).objs.size:=by simpa using hb
  subst e;exact I1.fpOk (Nat.le_refl _) (I1.hok.fresh (Nat.le_refl _))
noncomputable def zvQ (ta:TA):TI:=fun σ H R=>ta σ H fun vs H1=>∃j:Int,vs=[.int j]∧ -(2 ^ 62)≤j∧j<2 ^ 62∧R (Itr 0 j.toNat) H1
theorem zmi{a:Expr}{ta:TA}{p pos:Pos}(hg:Gl X "range") (hm:X.mg "range" =none) (ha:PA X [a] ta) (hs:starEach [a] X.env=[(false,eval a X.env)]:=by rfl):PI X tg (.Call (.Name "range" p) [a] [] pos) (zvQ ta):=by
 intro pins s σ H R I h;refine Call_ (zgC I hg hm boot_range (PyProof.Rows.callWith_type1 (thn (ha pos pins s σ H _ I h) fun us s1 ⟨vs,H1,I1,r1,q1⟩=>?_) hs rfl));obtain⟨j,e,q1,q2,q⟩:=q1;subst e;cases r1 with
 |cons r rr=>
  cases rr;obtain⟨t,rfl⟩:=r;exact call_range_1 (zoi I1 (by omega) (by omega) q1 q2 (by simpa using q))
noncomputable def zwU (wi:TI) (g:TG) (tb:TS):TS:=fun D σ H=>wi σ H fun J H1=>∃W:Nat→Nat→St→Hp→Prop,(∃m,W 0 m σ H1)∧ ∀i m σ H,W i m σ H→
 (J.stop i H∧D.nx σ H)∨(J.go i H∧ ∃N:St→Hp→Prop,(∀σ' H',N σ' H'→ ∃m',m'<m∧W (i+1) m' σ' H')∧ ∀x H',J.yld i H x H'→g x σ H' fun σ2 H2=>tb { D with nx:=N,ct:=N,bk:=D.nx } σ2 H2)
noncomputable def zhE (fp:List Addr) (h:Heap):List (Addr×Obj):=fp.filterMap fun b=>(h.get? b).map fun o=>(b,o)
theorem zdj{fp:List Addr}{h:Heap}{b:Addr}{o:Obj}(hb:b∈fp) (e:h.get? b=some o):(b,o)∈zhE fp h:=List.mem_filterMap.mpr ⟨b,hb,by rw [e];rfl⟩
theorem zmj{fp:List Addr}{h:Heap}{p:Addr×Obj}(hp:p∈zhE fp h):p.1∈fp∧h.get? p.1=some p.2:=by
 obtain⟨b,hb,e⟩:=List.mem_filterMap.mp hp;cases q:h.get? b with
 |none=>rw [q]at e;cases e
 |some o=>
  rw [q]at e;have e':(b,o)=p:=Option.some.inj e;subst e';exact⟨hb,q⟩
theorem Inv.pinned{pins:List (Addr×Obj)}{σ:St}{H:Hp}{s:Shared}{fp:List Addr}(I:Inv X pins σ H s) (hf:∀b∈fp,zhp X pins H b) (ho:∀b∈fp,∃o,s.heap.get? b=some o∧ ∀v,o.data≠ .cell v):Inv X (pins++zhE fp s.heap) σ H s:=
 I.pins_of fun p hp=>(List.mem_append.mp hp).elim (fun z=>I.pin p (List.mem_append_right _ z)) fun z=>by
  obtain⟨hb,e⟩:=zmj z;obtain⟨f0,f1,f2,_⟩:=hf p.1 hb;obtain⟨o,e',d⟩:=ho p.1 hb;rw [e]at e';cases e';exact⟨e,f0,f1,f2,d⟩
theorem Inv.unpinned{pins pl:List (Addr×Obj)}{σ:St}{H:Hp}{s:Shared}(I:Inv X (pins++pl) σ H s):Inv X pins σ H s:=I.pins_of fun p hp=>I.pin p (List.mem_append_right _ (List.mem_append_left _ hp))
theorem ztO{iter:Expr}{body:List Stmt}{wi:TI}{g:TG}{tb:TS}{pos:Pos}(hp:PassesOwn (model X.prog X.w) X.A X.env X.xe) (hc:X.calm=true) (hi:PI X tg iter wi) (hg:PG X tg g) (hb:PSs X body tb)
  (hs:∀x,foldedSetIterable iter X.env x=pure x:=by intro _;rfl):PS X (.For tg iter body [] pos) (zwU wi g tb):=by
 intro pins s σ H D I h;refine wpAny_For (thn (hi pins s σ H _ I h) fun v s1 h1=>thn h1 fun itv s2 h2=>?_) hs;obtain⟨it,fp,tn,J,H2,e,I2,T,st2,f2,W,⟨m0,w0⟩,turn⟩:=h2;subst e;have stat:∀{H':Hp},(∀b∈fp,H' b=none)→ ∀b∈fp,zhp X pins H' b:=fun hn b hb=>⟨hn b hb,(f2 b hb).2⟩;refine codeAny_forLoop_any (fun n s'=>∃i σ' H',Inv X pins σ' H' s'∧tn i s'.heap∧(∀b∈fp,H' b=none)∧W i n σ' H') ?_ m0 ⟨0,σ,H2,I2,st2,fun b hb=>(f2 b hb).1,w0⟩;rintro n s3 ⟨i,σ3,H3,I3,st3,fr3,w3⟩;rcases turn i n σ3 H3 w3 with⟨stop,qn⟩ |⟨go,N,hN,step⟩
 ·refine wpAny_passesOwn hp (thn (T.done X rfl rfl rfl hc i pins s3 σ3 H3 X.xe I3 (stat fr3) st3 stop) fun r s4 ⟨hr,I4⟩=>?_);subst hr;exact wpAny_execs_nil ⟨σ3,H3,I4,qn⟩
 ·refine wpAny_passesOwn hp (thn (T.item X rfl rfl rfl hc i pins s3 σ3 H3 X.xe I3 (stat fr3) st3 go) fun r s4 ⟨u,hr,h4⟩=>?_);subst hr;refine wpAny_passesOwn hp (thn h4 fun _ s5 ⟨x,H5,I5,r5,y5,st5,fr5⟩=>?_);have I5':=I5.pinned (stat fr5) (T.obj _ _ st5);refine wpAny_passesOwn hp (thn (hg _ s5 σ3 H5 x u _ I5' r5 (step x H5 y5)) fun _ s6 ⟨σ6,H6,I6,q6⟩=>?_);refine wpAny_passesOwn hp (thn (hb _ s6 σ6 H6 _ I6 q6) fun f s7 q7=>?_);have again:∀{σ7:St}{H7:Hp},Inv X (pins++zhE fp s5.heap) σ7 H7 s7→N σ7 H7→ ∃m,m<n∧ ∃i σ' H',Inv X pins σ' H' s7∧tn i s7.heap∧(∀b∈fp,H' b=none)∧W i m σ' H':=fun {σ7 H7} I7 n7=>by
   obtain⟨m',hm,w7⟩:=hN σ7 H7 n7;refine⟨m',hm,i+1,σ7,H7,I7.unpinned,T.keep _ _ _ st5 fun b hb o e=>(I7.pin (b,o) (List.mem_append_right _ (List.mem_append_right _ (zdj hb e)))).1,fun b hb=>?_,w7⟩;obtain⟨o,e,d⟩:=T.obj _ _ st5 b hb;exact(I7.pin (b,o) (List.mem_append_right _ (List.mem_append_right _ (zdj hb e)))).2.1
  cases f with
  |next=>obtain⟨σ7,H7,I7,n7⟩:=q7;exact again I7 n7
  |cont=>obtain⟨σ7,H7,I7,n7⟩:=q7;exact again I7 n7
  |brk=>obtain⟨σ7,H7,I7,q7⟩:=q7;exact⟨σ7,H7,I7.unpinned,q7⟩
  |ret v=>obtain⟨x7,σ7,H7,I7,r7,q7⟩:=q7;exact⟨x7,σ7,H7,I7.unpinned,r7,q7⟩
end
noncomputable abbrev R2:=V→V→Hp→VK→Prop
noncomputable def OpR (X:Cx) (f:Value→Value→Sem Value) (r:R2):Prop:=
 ∀(pins:List (Addr×Obj)) (s:Shared) (σ:St) (H:Hp) (x y:V) (v u:Value) (Q:VK),Inv X pins σ H s→RelV x v→RelV y u→r x y H Q→
  wpAny (model X.prog X.w) X.A (f v u) (EP X pins σ Q) X.xe s
noncomputable def UnR (X:Cx) (f:Value→Sem Value) (r:V→Hp→VK→Prop):Prop:=
 ∀(pins:List (Addr×Obj)) (s:Shared) (σ:St) (H:Hp) (x:V) (v:Value) (Q:VK),Inv X pins σ H s→RelV x v→r x H Q→
  wpAny (model X.prog X.w) X.A (f v) (EP X pins σ Q) X.xe s
noncomputable def CallR (X:Cx) (f:Value) (r:List V→Hp→VK→Prop):Prop:=
 ∀(pins:List (Addr×Obj)) (s:Shared) (σ:St) (H:Hp) (xs:List V) (us:List Value) (Q:VK),Inv X pins σ H s→Vals xs us→r xs H Q→
  wpAny (model X.prog X.w) X.A (call f us) (EP X pins σ Q) X.xe s
noncomputable def zxu (X:Cx) (r:V→Hp→(Bool→Hp→Prop)→Prop):Prop:=
 ∀(pins:List (Addr×Obj)) (s:Shared) (σ:St) (H:Hp) (x:V) (v:Value) (Q:Bool→Hp→Prop),Inv X pins σ H s→RelV x v→r x H Q→
  wpAny (model X.prog X.w) X.A (truthy v) (TP X pins σ Q) X.xe s
noncomputable def tOp (r:R2) (ta tb:TE):TE:=fun σ H Q=>ta σ H fun x H1=>tb σ H1 fun y H2=>r x y H2 Q
noncomputable def tUn (r:V→Hp→VK→Prop) (ta:TE):TE:=fun σ H Q=>ta σ H fun x H1=>r x H1 Q
noncomputable def rI (C:Int→Int→Prop) (g:Int→Int→V):R2:=fun x y H Q=>∃i j,x= .int i∧y= .int j∧C i j∧Q (g i j) H
noncomputable def rI0 (g:Int→Int→V):R2:=fun x y H Q=>∃i j,x= .int i∧y= .int j∧Q (g i j) H
noncomputable def rU (g:Int→V):V→Hp→VK→Prop:=fun x H Q=>∃i,x= .int i∧Q (g i) H
section
variable {X:Cx}{a b:Expr}{ta tb:TE}{pos:Pos}
theorem zvp (ha:PE X a ta) (hb:PE X b tb) {pins:List (Addr×Obj)}{s:Shared}{σ:St}{H:Hp}{R:V→V→Hp→Prop}(I:Inv X pins σ H s)
  (h:ta σ H fun x H1=>tb σ H1 fun y H2=>R x y H2) {Q:Value→Shared→Prop}{f:Value→Value→Sem Value}
  (hf:∀v u s2 x y H2,Inv X pins σ H2 s2→RelV x v→RelV y u→R x y H2→wpAny (model X.prog X.w) X.A (f v u) Q X.xe s2) :
  wpAny (model X.prog X.w) X.A (eval a X.env) (fun v s₁=>wpAny (model X.prog X.w) X.A (eval b X.env) (fun u s₂=>wpAny (model X.prog X.w) X.A (f v u) Q X.xe s₂) X.xe s₁) X.xe s:=by
 refine thn (ha pins s σ H _ I h) fun v s1 ⟨x,H1,I1,r1,q1⟩=>?_;refine thn (hb pins s1 σ H1 _ I1 q1) fun u s2 ⟨y,H2,I2,r2,q2⟩=>?_;exact hf v u s2 x y H2 I2 r1 r2 q2
theorem zrz{op:Operator}{r:R2}(ho:OpR X (binaryOp op) r) (ha:PE X a ta) (hb:PE X b tb):PE X (.BinOp a op b pos) (tOp r ta tb):=by
 intro pins s σ H Q I h;exact wpAny_BinOp (zvp ha hb I h fun v u s2 x y H2 I2 rx ry q=>ho pins s2 σ H2 x y v u Q I2 rx ry q)
theorem zvw{op:UnaryOp}{r:V→Hp→VK→Prop}(ho:UnR X (unaryOp op) r) (ha:PE X a ta):PE X (.UnaryOp op a pos) (tUn r ta):=by
 intro pins s σ H Q I h;exact UnaryOp_ (thn (ha pins s σ H _ I h) fun v s1 ⟨x,H1,I1,r1,q1⟩=>ho pins s1 σ H1 x v Q I1 r1 q1)
theorem opI{f:Value→Value→Sem Value}{C:Int→Int→Prop}{g:Int→Int→Int}
  (rule:∀(i j:Int) (t u:Tok) (s:Shared) (Q:Value→Shared→Prop) (E:Value→Shared→Prop),C i j→Q (.int (g i j) s.toks) { s with toks:=s.toks+1 }→wpAny (model X.prog X.w) X.A (f (.int i t) (.int j u)) Q E s) :
  OpR X f (rI C fun i j=> .int (g i j)):=by
 intro pins s σ H x y v u Q I rx ry h;obtain⟨i,j,rfl,rfl,hc,q⟩:=h;obtain⟨t,rfl⟩:=rx;obtain⟨t',rfl⟩:=ry;exact rule i j t t' s _ _ hc ⟨.int (g i j),H,I.tok _,⟨_,rfl⟩,q⟩
theorem zwQ{f:Value→Value→Sem Value}{g:Int→Int→Int}
  (rule:∀(i j:Int) (t u:Tok) (s:Shared) (Q:Value→Shared→Prop) (E:Value→Shared→Prop),Q (.int (g i j) s.toks) { s with toks:=s.toks+1 }→wpAny (model X.prog X.w) X.A (f (.int i t) (.int j u)) Q E s) :
  OpR X f (rI0 fun i j=> .int (g i j)):=by
 intro pins s σ H x y v u Q I rx ry h;obtain⟨i,j,rfl,rfl,q⟩:=h;obtain⟨t,rfl⟩:=rx;obtain⟨t',rfl⟩:=ry;exact rule i j t t' s _ _ ⟨.int (g i j),H,I.tok _,⟨_,rfl⟩,q⟩
theorem zvW{f:Value→Value→Sem Value}{g:Int→Int→Bool}
  (rule:∀(i j:Int) (t u:Tok) (s:Shared) (Q:Value→Shared→Prop) (E:Value→Shared→Prop),Q (.bool (g i j)) s→wpAny (model X.prog X.w) X.A (f (.int i t) (.int j u)) Q E s) :
  OpR X f (rI0 fun i j=> .bl (g i j)):=by
 intro pins s σ H x y v u Q I rx ry h;obtain⟨i,j,rfl,rfl,q⟩:=h;obtain⟨t,rfl⟩:=rx;obtain⟨t',rfl⟩:=ry;exact rule i j t t' s _ _ ⟨.bl (g i j),H,I,rfl,q⟩
noncomputable def zrV (i j:Int):Prop:=0<j∧j<1073741824
noncomputable def zvS (i j:Int):Prop:=0≤j∧j≤1000000∧i.natAbs<2 ^ 64
noncomputable def CMul (i j:Int):Prop:=(-(2 ^ 64)<i∧i<2 ^ 64)∨(-(2 ^ 64)<j∧j<2 ^ 64)
theorem CMul.ok{i j:Int}(h:CMul i j):IntMulOk i j:=by
 rcases h with⟨h1,h2⟩ |⟨h1,h2⟩
 ·exact .of_left (intBits_le_64 h1 h2)
 ·exact .of_right (intBits_le_64 h1 h2)
theorem op_add:OpR X (binaryOp .Add) (rI0 fun i j=> .int (i+j)):=zwQ fun _ _ _ _ _ _ _ q=>add_int q
theorem zsA:OpR X (binaryOp .Sub) (rI0 fun i j=> .int (i - j)):=zwQ fun _ _ _ _ _ _ _ q=>sub_int q
theorem ztK:OpR X (binaryOp .Mult) (rI CMul fun i j=> .int (i*j)):=opI fun _ _ _ _ _ _ _ hc q=>mul_int q hc.ok
theorem zqQ:OpR X (binaryOp .FloorDiv) (rI zrV fun i j=> .int (i / j)):=opI fun i j _ _ _ _ _ hc q=>by
 have h1:(0:Int)<j:=hc.1;have h2:j<1073741824:=hc.2;exact floordiv_int (by omega) (by rw [Int.fdiv_eq_ediv_of_nonneg i (by omega)];exact q) (.inl (PyProof.noPylong_small (by omega)))
theorem zuW:OpR X (binaryOp .Mod) (rI (fun _ j=>0<j) fun i j=> .int (i % j)):=opI fun i j _ _ _ _ _ hc q=>by
 have h1:(0:Int)<j:=hc;exact mod_int' (by omega) (by rw [Int.fmod_eq_emod_of_nonneg i (by omega)];exact q)
theorem zuO:OpR X (binaryOp .Pow) (rI zvS fun i j=> .int (i ^ j.toNat)):=opI fun _ _ _ _ _ _ _ hc q=>pow_int_small hc.1 hc.2.1 hc.2.2 q
theorem unI{f:Value→Sem Value}{g:Int→Int}
  (rule:∀(i:Int) (t:Tok) (s:Shared) (Q:Value→Shared→Prop) (E:Value→Shared→Prop),Q (.int (g i) s.toks) { s with toks:=s.toks+1 }→wpAny (model X.prog X.w) X.A (f (.int i t)) Q E s) :
  UnR X f (rU fun i=> .int (g i)):=by
 intro pins s σ H x v Q I rx h;obtain⟨i,rfl,q⟩:=h;obtain⟨t,rfl⟩:=rx;exact rule i t s _ _ ⟨.int (g i),H,I.tok _,⟨_,rfl⟩,q⟩
theorem zuC:UnR X (unaryOp .USub) (rU fun i=> .int (-i)):=unI fun _ _ _ _ _ q=>neg_int q
end
section
variable {X:Cx}{a b c:Expr}{ta tb tc:TE}{pos:Pos}
theorem zkD{pins:List (Addr×Obj)}{σ:St}{H:Hp}{s:Shared}{Q:VK}{k k':Bool}(I:Inv X pins σ H s) (q:Q (.bl k) H) (e:k=k'):EP X pins σ Q (.bool k') s:=by
 subst e;exact⟨.bl k,H,I,rfl,q⟩
theorem zvX:OpR X (compareOp .Lt) (rI0 fun i j=> .bl (decide (i<j))):=zvW fun _ _ _ _ _ _ _ q=>lt_int q
theorem op_le:OpR X (compareOp .LtE) (rI0 fun i j=> .bl (decide (i≤j))):=zvW fun _ _ _ _ _ _ _ q=>le_int q
theorem zuP:OpR X (compareOp .Gt) (rI0 fun i j=> .bl (decide (j<i))):=zvW fun _ _ _ _ _ _ _ q=>gt_int q
theorem op_in_str:OpR X (compareOp .In) (fun x y H Q=>∃i j,x= .str i∧y= .str j∧Q (.bl (!(Builtin.Str.occurrences j i 0 j.length 1).isEmpty)) H):=by
 intro pins s σ H x y v u Q I rx ry h;obtain⟨i,j,rfl,rfl,q⟩:=h;obtain⟨t,rfl⟩:=rx;obtain⟨t',rfl⟩:=ry;exact in_str (zkD I q rfl)
theorem op_isN:OpR X (compareOp .Is) (fun x y H Q=>y= .non∧Q (.bl (decide (x= .non))) H):=by
 intro pins s σ H x y v u Q I rx ry h;obtain⟨rfl,q⟩:=h;cases ry;refine is_none_gen (zkD I q ?_);cases x<;>first
  | (cases rx;rfl)
  | (obtain⟨t,rfl⟩:=rx;rfl)
theorem op_notN:OpR X (compareOp .IsNot) (fun x y H Q=>y= .non∧Q (.bl (!decide (x= .non))) H):=by
 intro pins s σ H x y v u Q I rx ry h;obtain⟨rfl,q⟩:=h;cases ry;refine isnot_none_gen (zkD I q ?_);cases x<;>first
  | (cases rx;rfl)
  | (obtain⟨t,rfl⟩:=rx;rfl)
theorem OpR.or{f:Value→Value→Sem Value}{r r':R2}(h:OpR X f r) (h':OpR X f r'):OpR X f (fun x y H Q=>r x y H Q∨r' x y H Q):=by
 intro pins s σ H x y v u Q I rx ry q;rcases q with q |q
 ·exact h pins s σ H x y v u Q I rx ry q
 ·exact h' pins s σ H x y v u Q I rx ry q
theorem nomark (b:Expr) {op:CmpOp}(h:op≠ .In:=by decide) (h2:op≠ .NotIn:=by decide):behindInMarks op b=false:=by
 have e1:(op == CmpOp.In)=false:=by cases op<;>first |rfl |exact absurd rfl h
 have e2:(op == CmpOp.NotIn)=false:=by cases op<;>first |rfl |exact absurd rfl h2
 cases b<;>simp [behindInMarks,e1,e2]
theorem zrX{op:CmpOp}{r:R2}(ho:OpR X (compareOp op) r) (ha:PE X a ta) (hb:PE X b tb) (hm:behindInMarks op b=false):PE X (.Compare a [op] [b] pos) (tOp r ta tb):=by
 intro pins s σ H Q I h;exact wpAny_Compare1 (zvp ha hb I h fun v u s2 x y H2 I2 rx ry q=>ho pins s2 σ H2 x y v u Q I2 rx ry q) hm
noncomputable def zwu (t:TE):TT:=fun σ H Q=>t σ H fun x H'=>∃k,x= .bl k∧Q k H'
theorem zqX{op:CmpOp}{r:R2}(ho:OpR X (compareOp op) r) (ha:PE X a ta) (hb:PE X b tb) (hm:behindInMarks op b=false):PT X (.Compare a [op] [b] pos) (zwu (tOp r ta tb)):=by
 intro pins s σ H Q I h;refine wpAny_isTrue_Compare1 (thn (ha pins s σ H _ I h) fun v s1 ⟨x,H1,I1,r1,q1⟩=>thn (hb pins s1 σ H1 _ I1 q1) fun u s2 ⟨y,H2,I2,r2,q2⟩=>
  thn (ho pins s2 σ H2 x y v u _ I2 r1 r2 q2) fun c s3 ⟨z,H3,I3,r3,k,e,q3⟩=>?_) hm
 subst e;cases r3;exact wpAny_truthy_bool ⟨H3,I3,q3⟩
noncomputable def zsD (r r':R2) (ta tb tc:TE):TE:=fun σ H Q=>ta σ H fun x H1=>tb σ H1 fun y H2=>r x y H2 fun z H3=>∃k,z= .bl k∧
 (if k=true then tc σ H3 fun w' H4=>r' y w' H4 Q else Q (.bl false) H3)
theorem zpB{op op':CmpOp}{r r':R2}(ho:OpR X (compareOp op) r) (ho':OpR X (compareOp op') r') (ha:PE X a ta) (hb:PE X b tb) (hc:PE X c tc)
  (hm:lastMarks [op,op'] [b,c]=false:=by with_unfolding_all rfl):PE X (.Compare a [op,op'] [b,c] pos) (zsD r r' ta tb tc):=by
 intro pins s σ H Q I h;refine Compare_chain (thn (ha pins s σ H _ I h) fun v s1 ⟨x,H1,I1,r1,q1⟩=>chain_link (thn (hb pins s1 σ H1 _ I1 q1) fun u s2 ⟨y,H2,I2,r2,q2⟩=>
  thn (ho pins s2 σ H2 x y v u _ I2 r1 r2 q2) fun d s3 ⟨z,H3,I3,r3,k,e,q3⟩=>?_)) hm
 subst e;cases r3;refine wpAny_truthy_bool ?_;cases k with
 |false=>exact ite_ff ⟨.bl false,H3,I3,rfl,q3⟩
 |true=>exact ite_tt (chain_last (thn (hc pins s3 σ H3 _ I3 q3) fun w' s4 ⟨z',H4,I4,r4,q4⟩=>ho' pins s4 σ H4 y z' u w' Q I4 r2 r4 q4))
noncomputable def zwB (K:PySem.W.Frag) (x:V) (H:Hp) (k:Bool):Prop:=
 match x with
 | .non=>k=false
 | .bl b=>k=b
 | .int i=>k=(i != 0)
 | .str y=>y.length≤sizeLine∧k=((y.length:Int) != 0)
 | .byt y=>y.size≤sizeLine∧k=((y.size:Int) != 0)
 | .ref p=>(∃xs,SqL K H p xs∧k= !xs.isEmpty)∨(∃xs,SqT K H p xs∧k= !xs.isEmpty)∨ ∃kvs,H p=some (.dK kvs)∧k= !kvs.isEmpty
 |_=>False
theorem zlp{κ:Type}{kvs:List (κ×V)}{vs:List (κ×Value)}(r:KV kvs vs):(!vs.isEmpty)= !kvs.isEmpty:=by
 cases r<;>rfl
theorem zgr{xs:List V}{its:List Value}(r:Vals xs its):(!its.toArray.isEmpty)= !xs.isEmpty:=by
 cases r<;>simp
theorem zgm:(sizeLine:Nat)<2 ^ 63:=by rw [sizeLine_eq];decide
theorem zsG:zxu X (fun x H Q=>∃k,zwB X.K x H k∧Q k H):=by
 intro pins s σ H x v Q I rx h;obtain⟨k,e,q⟩:=h;have hl:=zgm;have hs:sizeLine=16777216:=sizeLine_eq;cases x with
 |non=>
  cases rx;have e':k=false:=e;subst e';exact truthy_none ⟨H,I,q⟩
 |bl b=>
  cases rx;have e':k=b:=e;subst e';exact wpAny_truthy_bool ⟨H,I,q⟩
 |int i=>
  obtain⟨t,rfl⟩:=rx;have e':k=(i != 0):=e;subst e';exact PySem.P.truthy_int ⟨H,I,q⟩
 |str y=>
  obtain⟨t,rfl⟩:=rx;obtain⟨hy,e'⟩:y.length≤sizeLine∧k=((y.length:Int) != 0):=e;subst e';exact PySem.P.truthy_str (by omega) ⟨H,I.tok _,q⟩
 |byt y=>
  obtain⟨t,rfl⟩:=rx;obtain⟨hy,e'⟩:y.size≤sizeLine∧k=((y.size:Int) != 0):=e;subst e';exact PySem.W.truthy_bytes (by omega) ⟨H,I.tok _,q⟩
 |ref p=>
  cases rx;have e':(∃xs,SqL X.K H p xs∧k= !xs.isEmpty)∨(∃xs,SqT X.K H p xs∧k= !xs.isEmpty)∨ ∃kvs,H p=some (.dK kvs)∧k= !kvs.isEmpty:=e;rcases e' with⟨xs,hx,e'⟩ |⟨xs,hx,e'⟩ |⟨kvs,hx,e'⟩
  ·subst e';obtain⟨its,r,pl,hz⟩:=I.list hx;have hlen:=r.length;exact wpAny_truthy_list pl.isList (by simp only[List.size_toArray];omega) ⟨H,I.tok _,by rw [zgr r];exact q⟩
  ·subst e';obtain⟨its,r,pl,hz⟩:=I.tuple hx;have hlen:=r.length;exact truthy_tuple pl (by simp only[List.size_toArray];omega) ⟨H,I.tok _,by rw [zgr r];exact q⟩
  ·subst e';obtain⟨hz,hS,vs,r,m⟩:kvs.length≤sizeLine∧(p == sysModules)=false∧ ∃vs,KV kvs vs∧s.heap.DictOf (zjo X.prog X.w) p vs:=I.hok p _ hx;have hlen:kvs.length=vs.length:=Paired.length r;exact wpAny_truthy_dict hS m (by omega) ⟨H,I.tok _,by rw [zlp r];exact q⟩
 |_=>exact(show False from e).elim
theorem zot (ha:PE X a ta) (he:∀whole,isTrue a X.env whole=(do let v ←whole;standAt a.pos;holding [v] (truthy v))) :
  PT X a (fun σ H Q=>ta σ H fun x H'=>∃k,zwB X.K x H' k∧Q k H'):=by
 intro pins s σ H Q I h;exact isTrue_plain (thn (ha pins s σ H _ I h) fun v s1 ⟨x,H1,I1,r1,q1⟩=>zsG pins s1 σ H1 x v Q I1 r1 q1) (he _)
theorem op_add_str:OpR X (binaryOp .Add) (fun x y H Q=>∃i j,x= .str i∧y= .str j∧i.length+j.length≤sizeLine∧Q (.str (i++j)) H):=by
 intro pins s σ H x y v u Q I rx ry h;obtain⟨i,j,rfl,rfl,hz,q⟩:=h;obtain⟨t,rfl⟩:=rx;obtain⟨t',rfl⟩:=ry;exact add_str (fun t' tk=>⟨.str (i++j),H,I.tok _,⟨_,rfl⟩,q⟩) hz
theorem ziW{x:V}{us:List Value}(r:Vals [x] us):∃u,us=[u]∧RelV x u:=by
 cases r with
 |cons r1 r2=>cases r2;exact⟨_,rfl,r1⟩
theorem zwc{x y:V}{us:List Value}(r:Vals [x,y] us):∃u w',us=[u,w']∧RelV x u∧RelV y w':=by
 cases r with
 |cons r1 r2=>
  cases r2 with
  |cons r3 r4=>cases r4;exact⟨_,_,rfl,r1,r3⟩
theorem zmn:CallR X (.type "int") (fun xs H Q=>(∃i,xs=[.int i]∧Q (.int i) H)∨ ∃k,xs=[.bl k]∧Q (.int (if k then 1 else 0)) H):=by
 intro pins s σ H xs us Q I r h;rcases h with⟨i,rfl,q⟩ |⟨k,rfl,q⟩
 ·obtain⟨u,rfl,t,rfl⟩:=ziW r;exact call_int_int ⟨.int i,H,I,⟨_,rfl⟩,q⟩
 ·obtain⟨u,rfl,r1⟩:=ziW r;cases r1;exact call_int_bool ⟨.int (if k then 1 else 0),H,I.tok _,⟨_,rfl⟩,q⟩
end
structure ObjM (h:Heap) (x dx C:Addr) (mA:Str→Option Value):Prop where
  obj:h.get? x=some (PySem.W.instObj C dx)
  ns:h.Ns1 dx mA
  ne:dx≠x
theorem znP{h:Heap}{dx:Addr}{mA:Str→Option Value}(n:h.Ns1 dx mA):∃od,h.get? dx=some od∧ ∀name,PySem.W.lookIn name od=some (mA name):=by
 obtain⟨o,es,ep,ho,hd,hk,_,hm⟩:=n;refine⟨o,ho,fun name=>?_⟩;have e:=hm name;unfold nsFind findBy at e;rw [←Array.find?_toList]at e;unfold PySem.W.lookIn;rw [hd];dsimp only;split
 ·rename_i y q;rw [q]at e;exact congrArg some e
 ·rename_i q;rw [q]at e;have a:es.toList.any (·.refKey)=false:=by
   rw [List.any_eq_false];intro y hy;obtain⟨z,t,hkey⟩:=hk y (Array.mem_toList_iff.mp hy);simp [DictEntry.refKey,hkey]
  have a':¬es.toList.any (·.refKey)=true:=by rw [a];exact Bool.false_ne_true
  rw [if_neg a'];exact congrArg some e
theorem ObjM.look{h:Heap}{x dx C:Addr}{mA:Str→Option Value}(I:ObjM h x dx C mA):∃od,PySem.W.InstAt h x (PySem.W.instObj C dx) C (some od)∧ ∀name,PySem.W.lookIn name od=some (mA name):=
 let ⟨od,ho,hl⟩:=znP I.ns
 ⟨od,⟨I.obj,rfl,rfl,ho⟩,hl⟩
section
variable {P:Program}{w:World}{H:Hp}{h:Heap}{a C dx:Addr}{fs:List (Str×V)}
theorem zrl (hok:HOk P w H h) (e:H a=some (.ins C dx fs)):∃mA,ObjM h a dx C mA∧(∀f,RelO (fs.lookup f) (mA f))∧PySem.Within mA (fs.map (·.1))∧fs.length≤1000∧H dx=some (.own a):=by
 obtain⟨d,z,ne,ob,mA,n,r,q⟩:=(show ObjOk P w H h a (.ins C dx fs) from hok a _ e);exact⟨mA,⟨ob,n,ne⟩,r,q,z,d⟩
end
structure Cls (K:PySem.W.Frag) (C:Addr):Prop where
  pg:PySem.W.plainGet K C Str.empty=true
  hd:PySem.W.hasDictIn K C=true
  po:PySem.W.plainOver K C=true
  sa:PySem.W.findIn K (.ref C) "__setattr__" =some (some (.builtin "object.__setattr__"))
theorem Cls.get{K:PySem.W.Frag}{C:Addr}(c:Cls K C) (f:Str):PySem.W.plainGet K C f=true:=c.pg
section
variable {X:Cx}{pins:List (Addr×Obj)}{σ:St}{H:Hp}{s:Shared}{A:Around}{E:Value→Shared→Prop}{Q:Value→Shared→Prop}{c:Value}{b:Bool}
inductive TyOf (K:PySem.W.Frag) (H:Hp):V→Value→Prop where
  |non:TyOf K H .non (.type "NoneType")
  |bl (x:Bool):TyOf K H (.bl x) (.type "bool")
  |int (i:Int):TyOf K H (.int i) (.type "int")
  |str (x:Str):TyOf K H (.str x) (.type "str")
  |flt (x:UInt64):TyOf K H (.flt x) (.type "float")
  |lst {a:Addr}{xs:List V}(e:H a=some (.lst xs)):TyOf K H (.ref a) (.type "list")
  |frz {a:Addr}{o:Obj}{xs:List V}(e:H a=some (.frz o (.lst xs))):TyOf K H (.ref a) (.type "list")
  |tup {a:Addr}{xs:List V}(e:H a=some (.tup xs)):TyOf K H (.ref a) (.type "tuple")
  |dK {a:Addr}{kvs:List (Key×V)}(e:H a=some (.dK kvs)):TyOf K H (.ref a) (.type "dict")
  |dT {a:Addr}{kvs:List (List Key×V)}(e:H a=some (.dT kvs)):TyOf K H (.ref a) (.type "dict")
  |ins {a C dx:Addr}{fs:List (Str×V)}(e:H a=some (.ins C dx fs)) (cl:Cls K C) (ha:PySem.W.findIn K (.ref C) "__class__" =some (some (.builtin "object.__class__")))
      (hn:PySem.W.specialIn K (.builtin "object.__class__") "__get__" =some (some (.builtin "getset_descriptor.__get__"))) (htk:PySem.W.takesIn K (.builtin "object.__class__")=some true)
      (hm:PySem.W.mroIn K C (.type "object")=some true):TyOf K H (.ref a) (.ref C)
theorem znV{x:V}{u t:Value}(I:Inv X pins σ H s) (rx:RelV x u) (ty:TyOf X.K H x t) (e:PySem.W.kitOne X.K t c=some b) (h:∀tk,Q (.bool b) { s with toks:=tk }) :
  wpAny (model X.prog X.w) A (call (.builtin "isinstance") [u,c]) Q E s:=by
 cases ty with
 |non=>cases(show u=Value.none from rx);exact PySem.W.kia_one PySem.W.kitx_none I.kIn True.intro e (fun z=>nomatch z) h
 |bl y=>cases(show u=Value.bool y from rx);exact PySem.W.kia_one PySem.W.kitx_bool I.kIn True.intro e (fun z=>nomatch z) h
 |int i=>obtain⟨t,q⟩:=(show ∃t,u=Value.int i t from rx);cases q;exact PySem.W.kia_one PySem.W.kitx_int I.kIn True.intro e (fun z=>nomatch z) h
 |str y=>obtain⟨t,q⟩:=(show ∃t,u=Value.str y t from rx);cases q;exact PySem.W.kia_one PySem.W.kitx_str I.kIn True.intro e (fun z=>nomatch z) h
 |flt y=>obtain⟨t,q⟩:=(show ∃t,u=Value.float y t from rx);cases q;exact PySem.W.kia_one PySem.W.kitx_float I.kIn True.intro e (fun z=>nomatch z) h
 | @lst a xs ea=>
  cases(show u=Value.ref a from rx);obtain⟨_,_,n,_,h1⟩:=(show ObjOk X.prog X.w H s.heap a (.lst xs) from I.hok a _ ea);exact PySem.W.kia_one PySem.W.kitx_list I.kIn ⟨_,h1,rfl⟩ e (fun z=>nomatch z) h
 | @frz a ob xs ea=>
  cases(show u=Value.ref a from rx);obtain⟨_,_,_,n,_,h1⟩:=(show ObjOk X.prog X.w H s.heap a (.frz ob (.lst xs)) from I.hok a _ ea);exact PySem.W.kia_one PySem.W.kitx_list I.kIn ⟨_,h1,rfl⟩ e (fun z=>nomatch z) h
 | @tup a xs ea=>
  cases(show u=Value.ref a from rx);obtain⟨_,_,_,p⟩:=(show ObjOk X.prog X.w H s.heap a (.tup xs) from I.hok a _ ea);obtain⟨o,h1,h2,_⟩:=p;exact PySem.W.kia_one PySem.W.kitx_tuple I.kIn ⟨o,h1,h2⟩ e (fun z=>nomatch z) h
 | @dK a kvs ea=>
  cases(show u=Value.ref a from rx);obtain⟨_,_,vs,_,p⟩:=(show ObjOk X.prog X.w H s.heap a (.dK kvs) from I.hok a _ ea);obtain⟨o,es,ep,h1,h2,_⟩:=p;exact PySem.W.kia_one PySem.W.kitx_dict I.kIn ⟨o,h1,h2.1⟩ e (fun z=>nomatch z) h
 | @dT a kvs ea=>
  cases(show u=Value.ref a from rx);obtain⟨_,_,xs,_,o,es,ep,h1,h2,_⟩:=(show ObjOk X.prog X.w H s.heap a (.dT kvs) from I.hok a _ ea);exact PySem.W.kia_one PySem.W.kitx_dict I.kIn ⟨o,h1,h2.1⟩ e (fun z=>nomatch z) h
 | @ins a C dx fs ea cl ha hn htk hm=>
  cases(show u=Value.ref a from rx);obtain⟨mA,O,_⟩:=zrl I.hok ea;obtain⟨od,J,_⟩:=O.look;exact PySem.W.kia_one (PySem.W.kitx_own (cl.get _) cl.hd ha hn htk hm) I.kIn J e (fun z=>nomatch z) h
end
structure Room (k:Nat) (A:Around):Prop where
  hd:A.handled=none
  dp:A.depth+3*k+5<recursionLimit
  un:A.units+16*k+200<cLine
theorem Room.deeper{k:Nat}{A:Around}(r:Room (k+1) A) (env:Env):Room k (A.deeper env):=
 ⟨r.hd,by have:=r.dp;show A.depth+1+3*k+5<_;omega,by have:=r.un;show A.units+3+16*k+200<_;omega⟩
theorem Room.depth{k:Nat}{A:Around}(r:Room k A):A.depth<recursionLimit:=by have:=r.dp;omega
theorem Room.units{k:Nat}{A:Around}(r:Room k A):A.units+64<cLine:=by have:=r.un;omega
noncomputable def zxm:TA:=fun _ H Q=>Q [] H
noncomputable def zwn (ta:TE) (tr:TA):TA:=fun σ H Q=>ta σ H fun x H1=>tr σ H1 fun xs H2=>Q (x::xs) H2
section
variable {X:Cx}{e:Expr}{es:List Expr}{te:TE}{t:TA}{pos:Pos}
theorem pa_nil:PA X [] zxm:=fun _ _ _ _ H Q I h=>Calls.spliced_nil ⟨[],H,I, .nil,h⟩
theorem zby (ha:PE X e te) (hr:PA X es t) (hs:starEach (e::es) X.env=(false,eval e X.env)::starEach es X.env:=by rfl):PA X (e::es) (zwn te t):=by
 intro pos pins s σ H Q I h;rw [hs];show wpAny _ _ (spliced ((false,eval e X.env)::backTo pos (starEach es X.env))) _ _ s;refine Calls.spliced_cons (thn (ha pins s σ H _ I h) fun u s1 ⟨x,H1,I1,r1,q1⟩=>?_);exact thn (hr pos pins s1 σ H1 _ I1 q1) fun us s2 ⟨xs,H2,I2,r2,q2⟩=>⟨x::xs,H2,I2, .cons r1 r2,q2⟩
noncomputable def zxa (t:TA):TE:=fun σ H Q=>t σ H fun xs H1=>xs.length≤sizeLine∧ ∀p,H1 p=none→Q (.ref p) (upd H1 p (.tup xs))
noncomputable def zxc (t:TA):TE:=fun σ H Q=>t σ H fun xs H1=>xs.length≤sizeLine∧ ∀p,H1 p=none→Q (.ref p) (upd H1 p (.lst xs))
theorem zsY{x1}(h:PA X es t):PE X (.Tuple es x1 pos) (zxa t):=by
 intro pins s σ H Q I hq;refine wpAny_Tuple_spliced (thn (h pos pins s σ H _ I hq) fun us s1 ⟨xs,H1,I1,r,z,q⟩=>⟨by rw [←r.length];exact z,?_⟩);have hf:H1 s1.heap.objs.size=none:=I1.hok.fresh (Nat.le_refl _);refine⟨.ref s1.heap.objs.size,upd H1 s1.heap.objs.size (.tup xs),I1.laid (t':=s1.toks) (fun b u e=>Heap.get?_push_of_some _ e) (Nat.le_refl _) ?_,rfl,q _ hf⟩;exact⟨z,us,r,⟨_,Heap.get?_push_size _ rfl,rfl,_,rfl⟩⟩
theorem zuL (h:PA X es t):PE X (.List es pos) (zxc t):=by
 intro pins s σ H Q I hq;refine wpAny_List_spliced (thn (h pos pins s σ H _ I hq) fun us s1 ⟨xs,H1,I1,r,z,q⟩=>⟨by rw [←r.length];exact z,?_⟩);have hf:H1 s1.heap.objs.size=none:=I1.hok.fresh (Nat.le_refl _);refine⟨.ref s1.heap.objs.size,upd H1 s1.heap.objs.size (.lst xs),I1.laid (t':=s1.toks) (fun b u e=>Heap.get?_push_of_some _ e) (Nat.le_refl _) ?_,rfl,q _ hf⟩;exact⟨z,us,0,r,Heap.get?_push_size _ rfl⟩
end
noncomputable abbrev Sp:=List V→Hp→VK→XK→Prop
noncomputable abbrev CXT:=List Env→Hp→Shared→XK→Value→Shared→Prop
structure Env0 (P:Program) (w:World) (K:PySem.W.Frag) (mg:Str→Option Value) (base:Heap) (A:Around) (outer:List Env) (s:Shared) (H:Hp):Prop where
  frames:A.frames=some outer
  mod:Mod K mg base
  bs:∀b o,base.get? b=some o→s.heap.get? b=some o∧H b=none
  bsz:base.objs.size≤s.heap.objs.size
  funs:s.heap.FunFrames base outer
  frf:∀b∈frs outer,H b=none
  hok:HOk P w H s.heap
  bare:AllBare s.gens
noncomputable def CE (outer:List Env) (P:Program) (w:World) (H:Hp) (s:Shared) (Q:VK) (u:Value) (s':Shared):Prop:=
 ∃v H',s'.os=s.os∧AllBare s'.gens∧Un (frs outer) [] H H' s.heap s'.heap∧HOk P w H' s'.heap∧RelV v u∧Q v H'
noncomputable def CR (CX:CXT) (outer:List Env) (P:Program) (w:World) (H:Hp) (s:Shared) (Q:VK) (E:XK) (r:Result) (s':Shared):Prop:=
 match r with
 | .ok (.ret u)=>CE outer P w H s Q u s'
 | .ok _=>False
 | .error e=>CX outer H s E e s'
structure FnOk (P:Program) (w:World) (K:PySem.W.Frag) (mg:Str→Option Value) (base:Heap) (CX:CXT) (k:Nat) (f:Addr) (fd:FuncData) (ps:List Str) (sp:Sp):Prop where
  len:∀vs H Q E,sp vs H Q E→vs.length=ps.length
  run:∀(A:Around) (outer:List Env) (s:Shared) (H:Hp) (args:Args) (us:List Value) (vs:List V) (Q:VK) (E:XK),Room k A→Env0 P w K mg base A outer s H→BindsTo s fd args (ps.zip us)→Vals vs us→sp vs H Q E→
    codeAny (model P w) A (.call (.ref f) args) (CR CX outer P w H s Q E) s
section
variable {X:Cx}{pins:List (Addr×Obj)}{σ:St}{H:Hp}{s:Shared}
theorem Inv.env0 (I:Inv X pins σ H s):Env0 X.prog X.w X.K X.mg X.base X.A X.stack s H:=
 ⟨I.ok.frames,I.ok.mod,I.bs,Nat.le_trans I.ok.bsz I.sz,I.stack,I.stkFree,I.hok,I.bare⟩
end
noncomputable def Binds (K:PySem.W.Frag) (fd:FuncData) (ps:List Str) (ds:List Value):Prop:=
 ∀(s:Shared) (us:List Value),K.In s.heap→(us++ds).length=ps.length→BindsTo s fd ⟨us,[]⟩ (ps.zip (us++ds))
theorem Binds.all{K:PySem.W.Frag}{fd:FuncData}{ps:List Str}(h:∀us:List Value,us.length=ps.length→bindArgs fd ⟨us,[]⟩=pure (ps.zip us)):Binds K fd ps []:=fun s us _ hl=>by
 rw [List.append_nil]at hl⊢;exact .of_eq (h us hl)
structure FnScope (N P:List Str) (sc:Scope):Prop where
  kind:sc.kind= .function
  co:sc.isCoroutine=false
  gen:sc.isGenerator=false
  nd:N.Nodup
  pre:N.take P.length=P
  par:∀x∈P,sc.names.lookup x=some .local∨sc.names.lookup x=some .cell
  nofree:∀y∈sc.names,y.2≠ .free
theorem zhC{kindOf:Str→Option NameKind}{x:Str}:∀{binds:List (Str×Value)}{m:Str→Option Value},(∀v,(x,v)∉binds)→bindL kindOf binds m x=m x
 | [],_,_=>rfl
 | (n,v)::r,m,h=>by
  unfold bindL;rw [zhC fun w hw=>h w (List.mem_cons_of_mem _ hw)];split
  ·have:x≠n:=by rintro rfl;exact h v List.mem_cons_self
   simp [this]
  ·rfl
theorem zid{kindOf:Str→Option NameKind}{x:Str}:∀{binds:List (Str×Value)}{m:Str→Option Value},(∀v,(x,v)∉binds)→bindC kindOf binds m x=m x
 | [],_,_=>rfl
 | (n,v)::r,m,h=>by
  unfold bindC;rw [zid fun w hw=>h w (List.mem_cons_of_mem _ hw)];split
  ·rfl
  ·have:x≠n:=by rintro rfl;exact h v List.mem_cons_self
   simp [this]
theorem zhX{kindOf:Str→Option NameKind}{x:Str}{v:Value}:∀{P:List Str}{vs:List Value}{i:Nat}{m:Str→Option Value},P.Nodup→P[i]? =some x→vs[i]? =some v→kindOf x=some .local→
  bindL kindOf (P.zip vs) m x=some v
 | [],_,_,_,_,h,_,_=>by simp at h
 |_::_,[],_,_,_,_,h,_=>by simp at h
 |p::P,w::vs,0,m,nd,h1,h2,hk=>by
  simp at h1 h2;subst h1;subst h2;show bindL kindOf ((p,w)::P.zip vs) m p=_;unfold bindL;rw [zhC fun v hv=>(List.nodup_cons.mp nd).1 (List.of_mem_zip hv).1,if_pos hk];simp
 |p::P,w::vs,i+1,m,nd,h1,h2,hk=>by
  show bindL kindOf ((p,w)::P.zip vs) m x=_;unfold bindL;exact zhX (i:=i) (List.nodup_cons.mp nd).2 (by simpa using h1) (by simpa using h2) hk
theorem zhA{kindOf:Str→Option NameKind}{x:Str}{v:Value}:∀{P:List Str}{vs:List Value}{i:Nat}{m:Str→Option Value},P.Nodup→P[i]? =some x→vs[i]? =some v→kindOf x≠some .local→
  bindC kindOf (P.zip vs) m x=some v
 | [],_,_,_,_,h,_,_=>by simp at h
 |_::_,[],_,_,_,_,h,_=>by simp at h
 |p::P,w::vs,0,m,nd,h1,h2,hk=>by
  simp at h1 h2;subst h1;subst h2;show bindC kindOf ((p,w)::P.zip vs) m p=_;unfold bindC;rw [zid fun v hv=>(List.nodup_cons.mp nd).1 (List.of_mem_zip hv).1,if_neg hk];simp
 |p::P,w::vs,i+1,m,nd,h1,h2,hk=>by
  show bindC kindOf ((p,w)::P.zip vs) m x=_;unfold bindC;exact zhA (i:=i) (List.nodup_cons.mp nd).2 (by simpa using h1) (by simpa using h2) hk
noncomputable def start (N:List Str) (vs:List V):St:=vs.map some++List.replicate (N.length - vs.length) none
noncomputable def zrR (CX:CXT) (P:Program) (w:World) (K:PySem.W.Frag) (mg:Str→Option Value) (base:Heap) (N:List Str) (qual:Str) (scope:Scope) (f:Addr) (cd:Value) (A:Around) (outer:List Env) (s:Shared) (H:Hp) (E:XK):Cx where
  prog:=P
  w:=w
  K:=K
  mg:=mg
  base:=base
  A:=A.deeper (envOfC qual scope s.heap.objs.size f cd)
  N:=N
  s₀:=s
  H₀:=H
  env:=envOfC qual scope s.heap.objs.size f cd
  outer:=outer
  stack:=envOfC qual scope s.heap.objs.size f cd::outer
  ex:=[]
  calm:=true
  fn:=fun _=>true
  pn:=[]
  xe:=fun e s'=>wpAny (model P w) (A.deeper (envOfC qual scope s.heap.objs.size f cd)) (leaving (envOfC qual scope s.heap.objs.size f cd) e) (fun _ s''=>CX outer H s E e s'') (fun e' s''=>CX outer H s E e' s'') s'
theorem zks{sc:Scope}{n:Nat}{x:Str}(h:sc.names.lookup x=some .cell):∃c,(cellsFrom n sc.names []).lookup x=some c:=by
 have q:=PySem.W.cellsFrom_some sc.names n [] (.inl h);exact Option.isSome_iff_exists.mp q
theorem zlV{CX:CXT}{P:Program}{w:World}{K:PySem.W.Frag}{mg:Str→Option Value}{base:Heap}{N ps:List Str}{qual:Str}{scope:Scope}{f:Addr}{cd:Value}{A:Around}{outer:List Env}{s s1:Shared}{H:Hp}{E:XK}{us:List Value}{vs:List V}
  (S:FnScope N ps scope) (hd:A.handled=none) (e0:Env0 P w K mg base A outer s H) (hl:vs.length=ps.length) (r:Vals vs us)
  (x:InCallC s s.heap.objs.size (bindL (envOfC qual scope s.heap.objs.size f cd).kindOf (ps.zip us) fun _=>none) (cellsFrom (s.heap.objs.size+1) scope.names []) (bindC (envOfC qual scope s.heap.objs.size f cd).kindOf (ps.zip us) fun _=>none) s1) :
  Inv (zrR CX P w K mg base N qual scope f cd A outer s H E) [] (start N vs) H s1:=by
 have hpl:ps.length≤N.length:=by have:=congrArg List.length S.pre;rw [List.length_take]at this;omega
 obtain⟨h1,tk,rfl,hk⟩:=x.done;have noA:∀b:Addr,b∉(zrR CX P w K mg base N qual scope f cd A outer s H E).ex:=fun b z=>absurd (show b∈([]:List Addr) from z) (by simp);refine⟨⟨e0.mod,S.kind,rfl,rfl,Nat.le_refl _,fun y z c h1 h2=>?_,fun y hy=>?_,fun y c _ h=>?_,fun _=>hd,Around.frames_deeper e0.frames, .inr ⟨rfl,rfl⟩,fun b z=>absurd z (noA b),e0.bs,e0.bsz,fun b _ _=>noA b,fun b z=>absurd z (noA b),e0.funs,e0.frf⟩,
  rfl,e0.bare,Un.kept hk,⟨_,x.toInCall.ns,fun i y v h1 h2 h3=>?_⟩,fun y c h=>⟨_,x.cell y c h⟩,e0.hok.fresh (Nat.le_refl _),fun y c h=>?_,fun p hp=>absurd (show p∈([]:List (Addr×Obj)) from hp) (by simp),e0.hok.kept hk,?_⟩
 ·exact name_of_addr x.apart (PySem.mem_of_lookup h1) (PySem.mem_of_lookup h2)
 ·have hy:scope.names.lookup y=some .cell∨scope.names.lookup y=some .free:=hy;rcases hy with hy |hy
  ·exact zks hy
  ·exact absurd rfl (S.nofree _ (PySem.mem_of_lookup hy))
 ·exact Nat.le_of_lt (x.above y c (PySem.mem_of_lookup h))
 ·have hi:i<vs.length:=by
   unfold start at h2;by_cases hi:i<vs.length
   ·exact hi
   ·rw [List.getElem?_append_right (by simpa using hi)]at h2;rw [List.getElem?_replicate]at h2;split at h2<;>cases h2
  have ha:vs[i]? =some v:=by
   unfold start at h2;rw [List.getElem?_append_left (by simpa using hi),List.getElem?_map]at h2;cases e:vs[i]? with
   |none=>rw [e]at h2;cases h2
   |some a=>rw [e]at h2;cases h2;rfl
  obtain⟨u,hu,rv⟩:=r.get ha;have hp:ps[i]? =some y:=by
   rw [←S.pre,List.getElem?_take_of_lt (by omega)];exact h1
  have ndP:ps.Nodup:=by rw [←S.pre];exact S.nd.sublist (List.take_sublist _ _)
  refine⟨u,rv,?_⟩;rcases S.par y (List.mem_of_getElem? hp) with k |k
  ·exact .inl ⟨k,zhX ndP hp hu k⟩
  ·obtain⟨c,e⟩:=zks (n:=s.heap.objs.size+1) k;refine .inr ⟨.inl k,c,e,?_⟩;have q:=x.cell y c e;rw [zhA ndP hp hu (by show scope.names.lookup y≠_;rw [k];decide)]at q;exact q
 ·exact e0.hok.fresh (Nat.le_of_lt (x.above y c (PySem.mem_of_lookup h)))
 ·unfold start;show _=N.length;rw [List.length_append,List.length_map,List.length_replicate];omega
theorem zvk{CX:CXT}{P:Program}{w:World}{K:PySem.W.Frag}{mg:Str→Option Value}{base:Heap}{k:Nat}{f:Addr}{name qual:Str}{params:Arguments}{body:List Stmt}{scope:Scope}{dV kV doc pm cdv ct oc:Value}{an od:Option Addr}
  {osl:Array (Option Value)}{N ps:List Str}{sp:Sp}(lk:K.lookup f=some ⟨oc,od, .func (PySem.W.fnOf name qual params body scope dV kV doc pm an cdv ct),osl⟩) (hcd:PySem.W.codeIn K cdv qual=true) (S:FnScope N ps scope)
  (len:∀vs H Q E,sp vs H Q E→vs.length=ps.length)
  (hbody:∀(A:Around) (outer:List Env) (s:Shared) (H:Hp) (vs:List V) (Q:VK) (E:XK),Room k (A.deeper (envOfC qual scope s.heap.objs.size f cdv))→sp vs H Q E→
   ∃t,PSs (zrR CX P w K mg base N qual scope f cdv A outer s H E) body t∧t { nx:=fun _ H'=>Q .non H',rt:=Q } (start N vs) H) :
  FnOk P w K mg base CX (k+1) f (PySem.W.fnOf name qual params body scope dV kV doc pm an cdv ct) ps sp:=by
 refine⟨len,fun A outer s H args us vs Q E hr e0 hb r hsp=>?_⟩;have hl:=len _ _ _ _ hsp;have KX:K.In s.heap:=e0.mod.kin.keeps fun b o e=>(e0.bs b o e).1;have lim:s.heap.NoLimit:=e0.mod.nolimit.keeps fun b o e=>(e0.bs b o e).1;have hkind:∀y∈ps.zip us,scope.names.lookup y.1=some .local∨(scope.names.lookup y.1=some .cell∧((cellsFrom (s.heap.objs.size+1) scope.names []).lookup y.1).isSome=true):=fun⟨n,v⟩ hy=>by
  rcases S.par n (List.of_mem_zip hy).1 with q |q
  ·exact .inl q
  ·exact .inr ⟨q,PySem.W.cellsFrom_some _ _ _ (.inl q)⟩
 refine codeAny_call_function hr.depth (KX _ _ lk) rfl S.co S.gen rfl (PySem.W.codeRec_of KX hcd) (hb _ _ _ _ ?_);refine wpAny_newFunctionEnv_cells S.kind hkind fun env he s1 x=>?_;subst he;refine⟨lim.keeps x.toInCall.keep,codeAny_func ?_⟩;obtain⟨t,ht,hq⟩:=hbody A outer s H vs Q E (hr.deeper _) hsp;have I:Inv (zrR CX P w K mg base N qual scope f cdv A outer s H E) [] (start N vs) H s1:=zlV S hr.hd e0 hl r x;refine wpAny_mono (ht [] s1 (start N vs) H _ I hq) (fun fl s' hs=>?_) fun e s' hs=>hs;have fin:∀{σ':St}{H':Hp}{v:V}{u:Value},Inv (zrR CX P w K mg base N qual scope f cdv A outer s H E) [] σ' H' s'→RelV v u→Q v H'→CE outer P w H s Q u s':=
  fun {σ' H' v u} J rv q=>⟨v,H',J.os,J.bare,J.base,J.hok,rv,q⟩
 cases fl with
 |ret u=>
  obtain⟨v,σ',H',J,rv,q⟩:=hs;exact fin J rv q
 |next=>
  obtain⟨σ',H',J,q⟩:=hs;exact fin (v:=V.non) (u:=Value.none) J rfl q
 |brk=>
  obtain⟨_,_,_,q⟩:=hs;exact False.elim q
 |cont=>
  obtain⟨_,_,_,q⟩:=hs;exact False.elim q
section
variable {X:Cx}{x:Str}{p pos:Pos}{e:Expr}{es:List Expr}{t:TA}{id T:String}{r:List V→Hp→VK→Prop}
noncomputable def tCB (r:List V→Hp→VK→Prop) (t:TA):TE:=fun σ H Q=>t σ H fun vs H1=>r vs H1 Q
theorem zej (hc:CallR X (.builtin id) r) (hg:Gl X x) (hm:X.mg x=none) (hv:bootBuiltins x=some (.builtin id)) (ha:PA X (e::es) t) (hn:x≠ "__name__" :=by decide) (hdb:(x == ("__debug__" :Str))=false:=by decide)
  (he:starEach (e::es) X.env=(false,eval e X.env)::starEach es X.env:=by rfl) (hpl:(backTo pos (starEach es X.env)).any (·.1)=false:=by rfl):PE X (.Call (.Name x p) (e::es) [] pos) (tCB r t):=by
 intro pins s σ H Q I h;refine wpAny_Call_Name_kw (zgC I hg hm hv ?_ hn hdb);exact PyProof.Rows.callWith_builtin1 (thn (ha pos pins s σ H _ I h) fun us s1 ⟨vs,H1,I1,r1,q1⟩=>hc pins s1 σ H1 vs us Q I1 r1 q1) he hpl
theorem zfN (hc:CallR X (.type T) r) (hg:Gl X x) (hm:X.mg x=none) (hv:bootBuiltins x=some (.type T)) (ha:PA X (e::es) t) (hn:x≠ "__name__" :=by decide) (hdb:(x == ("__debug__" :Str))=false:=by decide)
  (he:starEach (e::es) X.env=(false,eval e X.env)::starEach es X.env:=by rfl) (hpl:(backTo pos (starEach es X.env)).any (·.1)=false:=by rfl):PE X (.Call (.Name x p) (e::es) [] pos) (tCB r t):=by
 intro pins s σ H Q I h;refine wpAny_Call_Name_kw (zgC I hg hm hv ?_ hn hdb);exact PyProof.Rows.callWith_type1 (thn (ha pos pins s σ H _ I h) fun us s1 ⟨vs,H1,I1,r1,q1⟩=>hc pins s1 σ H1 vs us Q I1 r1 q1) he hpl
end
end L2
namespace HT
open PySem PyProof.Rows
section
variable {prog:Program}{w:World}{A:Around}{E:Value→Shared→Prop}{s:Shared}
theorem cat_tup{t b:Addr}{vs ws:List Value}{Q:Value→Shared→Prop}(ht:IsTup s.heap t vs.toArray) (hb:IsTup s.heap b ws.toArray) (hv:vs≠ [])
  (h1:ws=[]→Q (.ref t) s) (h2:ws≠ []→Q (.ref s.heap.objs.size) { s with heap:=s.heap.push { cls:= .type "tuple",data:= .seq (vs++ws).toArray } })
  (hsz:vs.length+ws.length≤sizeLine):wpAny (model prog w) A (binaryOp .Add (.ref t) (.ref b)) Q E s:=by
 obtain⟨⟨cls,dd,data,sl⟩,ho,hc,n,hd⟩:=id ht;obtain⟨⟨cls2,dd2,data2,sl2⟩,ho2,hc2,n2,hd2⟩:=id hb;simp only at hc hd hc2 hd2;subst hc hd hc2 hd2;have e:vs.toArray++ws.toArray=(vs++ws).toArray:=by simp
 by_cases hw:ws=[]
 ·exact concat_meets ⟨_,ho,rfl⟩ ⟨_,ho2,rfl⟩ noFill_tuple_add seq_tuple_add PySem.F.slot_tuple_add PySem.F.entry_tuple_add (PySem.F.args_tuple_add_2 _ _)
   (tuple_addW1 t b vs.toArray ws.toArray n n2 dd dd2 sl sl2 (by simpa using hv) (by simp [hw])) ⟨ho,ho2,h1 hw⟩
 ·refine concat_meets ⟨_,ho,rfl⟩ ⟨_,ho2,rfl⟩ noFill_tuple_add seq_tuple_add PySem.F.slot_tuple_add PySem.F.entry_tuple_add (PySem.F.args_tuple_add_2 _ _)
   (tuple_addW2 t b vs.toArray ws.toArray n n2 dd dd2 sl sl2 (by simpa using hv) (by simpa using hw) (by rw [List.size_toArray,List.size_toArray];exact hsz)) ⟨ho,ho2,?_⟩
  rw [e];exact h2 hw
noncomputable def sIx (n d:Nat):Option Int→Nat
 |none=>d
 |some v=>if v<0 then(v+(n:Int)).toNat else min v.toNat n
theorem sIx_none (n d:Nat):sIx n d none=d:=rfl
theorem sIx_nat (n d k:Nat):sIx n d (some (k:Int))=min k n:=by
 show(if(k:Int)<0 then((k:Int)+(n:Int)).toNat else min (k:Int).toNat n)=min k n;rw [if_neg (by omega),Int.toNat_natCast]
theorem sIx_le (n d:Nat) (hd:d≤n) (o:Option Int):sIx n d o≤n:=by
 cases o with
 |none=>exact hd
 |some v=>
  show(if v<0 then(v+(n:Int)).toNat else min v.toNat n)≤n;by_cases hv:v<0
  ·rw [if_pos hv];omega
  ·rw [if_neg hv];exact Nat.min_le_right _ _
theorem zmW (v:Int) (n d:Nat):(if v<0 then max (v+(n:Int)) 0 else min v (n:Int))=((sIx n d (some v):Nat):Int):=by
 show(if v<0 then max (v+(n:Int)) 0 else min v (n:Int))=(((if v<0 then(v+(n:Int)).toNat else min v.toNat n):Nat):Int);by_cases hv:v<0
 ·simp only[if_pos hv];omega
 ·simp only[if_neg hv];omega
theorem zlj (lo hi:Option Int) (n:Nat):Builtin.Slice.sliceAdjust lo hi 1 (n:Int)=(((sIx n 0 lo:Nat):Int),((sIx n n hi:Nat):Int)):=by
 have h1:¬((1:Int)<0):=by omega
 unfold Builtin.Slice.sliceAdjust;simp only[h1,if_false];refine Prod.ext ?_ ?_
 ·cases lo with
  |none=>rfl
  |some v=>exact zmW v n 0
 ·cases hi with
  |none=>rfl
  |some v=>exact zmW v n n
theorem zll (i j:Nat):Builtin.Slice.slicePlaces (i:Int) (j:Int) 1=j - i:=by
 unfold Builtin.Slice.slicePlaces;have h1:(1:Int) > 0:=by omega
 simp only[h1,if_true,Int.ediv_one];split<;>omega
theorem zgD{v:Value}{o:Option Int}{Q:Option Int→Shared→Prop}(p:IsPart v o) (h:Q o s):wpAny (model prog w) A (Builtin.Slice.slicePartIndex v) Q E s:=by
 cases p with
 |none=>exact slicePart_none h
 |int i t=>exact slicePart_int h
theorem sliceApplied_gen{sl:Addr}{vl vu:Value}{lo hi:Option Int}{n:Nat}{Q:Int×Int×Nat→Shared→Prop}(hs:s.heap.IsSliceOf sl vl vu .none) (pl:IsPart vl lo) (pu:IsPart vu hi)
  (h:Q (((sIx n 0 lo:Nat):Int),1,sIx n n hi - sIx n 0 lo) s):wpAny (model prog w) A (Builtin.Slice.sliceApplied (.ref sl) (pure (n:Int))) Q E s:=by
 obtain⟨os,hos,hcs,hds⟩:=id hs;unfold Builtin.Slice.sliceApplied Builtin.Slice.sliceFields;refine wpAny_bind (wpAny_bind (wpAny_field hos hds (x:=vl) rfl (wpAny_bind (wpAny_field hos hds (x:=vu) rfl (wpAny_bind (wpAny_field hos hds (x:= .none) rfl (wpAny_pure ?_)))))));refine wpAny_bind (slicePart_none ?_);show wpAny _ _ (if((1:Int) == 0)=true then _ else _) _ _ s;rw [if_neg (by decide)];refine wpAny_bind (zgD pl (wpAny_bind (zgD pu (wpAny_bind (wpAny_pure ?_)))));show wpAny _ _ (match Builtin.Slice.sliceAdjust lo hi 1 (n:Int) with | (lo,hi)=>pure (lo,(1:Int),Builtin.Slice.slicePlaces lo hi 1)) _ _ s;rw [zlj lo hi n];show wpAny _ _ (pure (((sIx n 0 lo:Nat):Int),(1:Int),Builtin.Slice.slicePlaces ((sIx n 0 lo:Nat):Int) ((sIx n n hi:Nat):Int) 1)) _ _ s;rw [zll];exact wpAny_pure h
theorem zod (xs:Array Value) (i k:Nat):((List.range k).filterMap fun(m:Nat)=>xs[((i:Int)+(m:Int)*1).toNat]?).toArray=((xs.toList.drop i).take k).toArray:=by
 have e:(fun(m:Nat)=>xs[((i:Int)+(m:Int)*1).toNat]?)=fun m=>xs[i+m]? :=by
  funext m;have:((i:Int)+(m:Int)*1).toNat=i+m:=by omega
  rw [this]
 rw [e];have:=pick_run xs i k;rw [List.filterMap_map]at this;have e2:((fun x=>xs[x]?)∘fun x=>i+x)=fun m=>xs[i+m]? :=rfl;rw [e2]at this;rw [this]
theorem getItem_tuple_cut{t sl:Addr}{items:Array Value}{vl vu:Value}{lo hi:Option Int}{Q:Value→Shared→Prop}(ht:IsTup s.heap t items) (hs:s.heap.IsSliceOf sl vl vu .none) (pl:IsPart vl lo) (pu:IsPart vu hi)
  (hw:¬(sIx items.size 0 lo=0∧sIx items.size items.size hi=items.size))
  (h:Q (.ref s.heap.objs.size) { s with heap:=s.heap.push { cls:= .type "tuple",data:= .seq ((items.toList.drop (sIx items.size 0 lo)).take (sIx items.size items.size hi - sIx items.size 0 lo)).toArray } })
  (hsz:items.size≤sizeLine):wpAny (model prog w) A (getItem (.ref t) (.ref sl)) Q E s:=by
 have htake:sizeOk (.seq ((items.toList.drop (sIx items.size 0 lo)).take (sIx items.size items.size hi - sIx items.size 0 lo)).toArray):=by
  show((items.toList.drop (sIx items.size 0 lo)).take (sIx items.size items.size hi - sIx items.size 0 lo)).toArray.size≤sizeLine;rw [List.size_toArray,List.length_take,List.length_drop,Array.length_toList];omega
 have hj:sIx items.size items.size hi≤items.size:=sIx_le _ _ (Nat.le_refl _) hi;obtain⟨os,hos,hcs,hds⟩:=id hs;have hTs:s.TypeIs (.ref sl) "slice" :=⟨os,hos,hcs⟩;unfold getItem
 try with_reducible refine wpAny_holding ?_
 first |refine wpAny_bind (wpAny_pure ?_) |skip
 refine wpAny_bind (wpAny_sequenceKey ht.typeIs (by decide) ?_);refine wpAny_bind (wpAny_callSpecial?_slot (name:=Str.ofString "__getitem__") ht.typeIs PyProof.Rows.slot_tuple_getitem
  (wpAny_call_entry PyProof.Rows.slot_tuple_getitem ht.typeIs entry_tuple_getitem ?_ (args_tuple_getitem _ _)))
 show wpAny _ _ (Builtin.Tuple.tupleItemsOf (.ref t) >>= _) _ _ s;refine wpAny_bind (tupleItemsOf_ ht ?_);refine wpAny_bind (wpAny_typeOf hTs ?_);rw [if_pos (by decide)];refine wpAny_bind (sliceApplied_gen hs pl pu ?_);have hno:¬((((sIx items.size 0 lo:Nat):Int) == 0&&(1:Int) == 1&&(sIx items.size items.size hi - sIx items.size 0 lo) == items.size)=true):=by
  intro q;rw [Bool.and_eq_true,Bool.and_eq_true]at q;have q1:((sIx items.size 0 lo:Nat):Int)=0:=eq_of_beq q.1.1;have q2:sIx items.size items.size hi - sIx items.size 0 lo=items.size:=eq_of_beq q.2;exact hw ⟨by omega,by omega⟩
 show wpAny _ _ (if(((sIx items.size 0 lo:Nat):Int) == 0&&(1:Int) == 1&&(sIx items.size items.size hi - sIx items.size 0 lo) == items.size)=true then _ else _) _ _ s;rw [if_neg hno,zod]
 first
  |exact wpAny_bind (m:=Builtin.Tuple.tupleExact _) (wpAny_newObj_type (wpAny_pure ⟨_,rfl,wpAny_pure h⟩) htake)
  |exact wpAny_bind (m:=Builtin.Tuple.tupleExact _) (wpAny_newObj_type (wpAny_bind (wpAny_pure (wpAny_pure ⟨_,rfl,wpAny_pure h⟩))) htake)
  |exact wpAny_bind (wpAny_bind (m:=Builtin.Tuple.tupleExact _) (wpAny_newObj_type (wpAny_pure (wpAny_pure ⟨_,rfl,wpAny_pure h⟩)) htake))
  |exact wpAny_bind (wpAny_bind (m:=Builtin.Tuple.tupleExact _) (wpAny_newObj_type (wpAny_pure ⟨_,rfl,wpAny_pure h⟩) htake))
end
end HT
namespace L2
open PySem PySem.Spec PyProof.Rows
noncomputable abbrev TO:=St→Hp→(Option Int→Hp→Prop)→Prop
noncomputable def PO (X:Cx) (e:Option Expr) (t:TO):Prop:=
 ∀(pins:List (Addr×Obj)) (s:Shared) (σ:St) (H:Hp) (Q:Option Int→Hp→Prop),Inv X pins σ H s→t σ H Q→
  wpAny (model X.prog X.w) X.A (evalPart e X.env) (fun u s'=>∃o H',Inv X pins σ H' s'∧IsPart u o∧Q o H') X.xe s
noncomputable def zsh:TO:=fun _ H Q=>Q none H
noncomputable def zwj (t:TE):TO:=fun σ H Q=>t σ H fun x H1=>∃i,x= .int i∧Q (some i) H1
section
variable {X:Cx}{e:Expr}{te:TE}{lo hi:Option Expr}{tl th:TO}{pos p2:Pos}
theorem po_none:PO X none zsh:=by
 intro pins s σ H Q I h;rw [evalPart_none];exact wpAny_pure ⟨none,H,I, .none,h⟩
theorem zrL (h:PE X e te):PO X (some e) (zwj te):=by
 intro pins s σ H Q I hw;rw [evalPart_some];refine thn (h pins s σ H _ I hw) fun u s1 ⟨x,H1,I1,r1,q1⟩=>?_;obtain⟨i,rfl,q⟩:=q1;obtain⟨t,rfl⟩:=r1;exact⟨some i,H1,I1, .int i t,q⟩
noncomputable def SlR (X:Cx) (r:V→Option Int→Option Int→Hp→VK→Prop):Prop:=
 ∀(pins:List (Addr×Obj)) (s:Shared) (σ:St) (H:Hp) (x:V) (v vl vu:Value) (lo hi:Option Int) (sl:Addr) (Q:VK),Inv X pins σ H s→RelV x v→s.heap.IsSliceOf sl vl vu .none→IsPart vl lo→IsPart vu hi→r x lo hi H Q→
  ∃T id,typeLookup (.type T) "__getitem__" =pure (some (.builtin id))∧s.TypeIs v T∧wpAny (model X.prog X.w) X.A (getItem v (.ref sl)) (EP X pins σ Q) X.xe s
theorem SlR.or{r r':V→Option Int→Option Int→Hp→VK→Prop}(h:SlR X r) (h':SlR X r'):SlR X (fun x lo hi H Q=>r x lo hi H Q∨r' x lo hi H Q):=by
 intro pins s σ H x v vl vu lo hi sl Q I rx hs pl pu q;rcases q with q |q
 ·exact h pins s σ H x v vl vu lo hi sl Q I rx hs pl pu q
 ·exact h' pins s σ H x v vl vu lo hi sl Q I rx hs pl pu q
noncomputable def tSl (r:V→Option Int→Option Int→Hp→VK→Prop) (te:TE) (tl th:TO):TE:=fun σ H Q=>te σ H fun x H1=>tl σ H1 fun l H2=>th σ H2 fun u H3=>r x l u H3 Q
theorem zkj{r:V→Option Int→Option Int→Hp→VK→Prop}(hr:SlR X r) (he:PE X e te) (hl:PO X lo tl) (hu:PO X hi th):PE X (.Subscript e (.Slice lo hi none p2) pos) (tSl r te tl th):=by
 intro pins s σ H Q I h;refine Subscript_ (thn (he pins s σ H _ I h) fun v s1 ⟨x,H1,I1,r1,q1⟩=>?_);refine wpAny_Slice (thn (hl pins s1 σ H1 _ I1 q1) fun vl s2 ⟨l,H2,I2,pl,q2⟩=>thn (hu pins s2 σ H2 _ I2 q2) fun vu s3 ⟨u,H3,I3,pu,q3⟩=>?_);rw [evalPart_none];refine wpAny_pure ?_;have I4:Inv X pins σ H3 { s3 with heap:=s3.heap.push { cls:= .type "slice",data:= .fields #[vl,vu, .none] } }:=I3.kept (t':=s3.toks) fun b ob q=>Heap.get?_push_of_some _ q;obtain⟨T,id,hT,ht,hg⟩:=hr pins { s3 with heap:=s3.heap.push { cls:= .type "slice",data:= .fields #[vl,vu, .none] } } σ H3 x v vl vu l u s3.heap.objs.size Q I4 r1 (Heap.IsSliceOf.new ..) pl pu q3;show wpAny (model X.prog X.w) X.A (subscriptTail e (.Slice lo hi none p2) v (.ref s3.heap.objs.size)) (EP X pins σ Q) X.xe { s3 with heap:=s3.heap.push { cls:= .type "slice",data:= .fields #[vl,vu, .none] } };exact tail_any (ops:=[.ref s3.heap.objs.size,v]) ht hT hg (by with_unfolding_all rfl)
noncomputable def zmx (xs:List V) (lo hi:Option Int):List V:=(xs.drop (HT.sIx xs.length 0 lo)).take (HT.sIx xs.length xs.length hi - HT.sIx xs.length 0 lo)
theorem zfR (xs:List V) (lo hi:Option Int):(zmx xs lo hi).length≤xs.length:=by
 unfold zmx;rw [List.length_take,List.length_drop];omega
noncomputable def zxL (K:PySem.W.Frag):V→Option Int→Option Int→Hp→VK→Prop:=fun x lo hi H Q=>∃a xs,x= .ref a∧SqT K H a xs∧
 ¬(HT.sIx xs.length 0 lo=0∧HT.sIx xs.length xs.length hi=xs.length)∧ ∀p,H p=none→Q (.ref p) (upd H p (.tup (zmx xs lo hi)))
theorem zsK:SlR X (zxL X.K):=by
 intro pins s σ H x v vl vu lo hi sl Q I rx hs pl pu h;obtain⟨a,xs,rfl,hx,hw,q⟩:=h;cases rx;obtain⟨its,r,ht,hz⟩:=I.tuple hx;have hlen:its.toArray.size=xs.length:=by rw [List.size_toArray];exact r.length.symm
 refine⟨"tuple",_,PyProof.Rows.slot_tuple_getitem.lookup,ht.typeIs,?_⟩;refine HT.getItem_tuple_cut ht hs pl pu (by rw [hlen];exact hw) ?_ (by rw [hlen];exact hz);rw [hlen];refine⟨.ref s.heap.objs.size,_,I.laid (t':=s.toks) (o:= .tup (zmx xs lo hi)) (fun b ob q=>Heap.get?_push_of_some _ q) (Nat.le_refl _) ?_,rfl,q _ (I.hok.fresh (Nat.le_refl _))⟩;exact⟨Nat.le_trans (zfR xs lo hi) hz,_,(r.drop (HT.sIx xs.length 0 lo)).take (HT.sIx xs.length xs.length hi - HT.sIx xs.length 0 lo),IsTup.new _ _⟩
noncomputable def zsa (K:PySem.W.Frag):R2:=fun x y H Q=>∃a b xs ys,x= .ref a∧y= .ref b∧SqT K H a xs∧SqT K H b ys∧xs≠ []∧xs.length+ys.length≤sizeLine∧
 (ys=[]→Q (.ref a) H)∧(ys≠ []→ ∀p,H p=none→Q (.ref p) (upd H p (.tup (xs++ys))))
theorem Vals.nil_iff{xs:List V}{us:List Value}(r:Vals xs us):us=[]↔xs=[]:=by
 cases r with
 |nil=>simp
 |cons _ _=>simp
theorem op_catT:OpR X (binaryOp .Add) (zsa X.K):=by
 intro pins s σ H x y v u Q I rx ry h;obtain⟨a,b,xs,ys,rfl,rfl,ha,hb,hx,hz,q1,q2⟩:=h;cases rx;cases ry;obtain⟨its,r1,p1,_⟩:=I.tuple ha;obtain⟨its2,r2,p2,_⟩:=I.tuple hb;refine HT.cat_tup p1 p2 (fun z=>hx (r1.nil_iff.mp z)) (fun z=>⟨.ref a,H,I,rfl,q1 (r2.nil_iff.mp z)⟩) (fun z=>?_) (by rw [←r1.length,←r2.length];exact hz);refine⟨.ref s.heap.objs.size,_,I.laid (t':=s.toks) (o:= .tup (xs++ys)) (fun b ob q=>Heap.get?_push_of_some _ q) (Nat.le_refl _) ?_,rfl,q2 (fun w=>z (r2.nil_iff.mpr w)) _ (I.hok.fresh (Nat.le_refl _))⟩;exact⟨by rw [List.length_append];exact hz,_,r1.append r2,IsTup.new _ _⟩
end
noncomputable def ixN (n:Nat) (i:Int):Option Nat:=if 0≤i then(if i<n then some i.toNat else none) else if -(n:Int)≤i then some (i+n).toNat else none
noncomputable def atI {α:Type}(xs:List α) (i:Int):Option α:=(ixN xs.length i).bind fun j=>xs[j]?
theorem zqN{n:Nat}{i:Int}{j:Nat}(h:ixN n i=some j):seqIndex? i n=some j∧j<n∧ -(n:Int)≤i∧i<n:=by
 unfold ixN at h;by_cases h0:0≤i
 ·rw [if_pos h0]at h;by_cases h1:i<n
  ·rw [if_pos h1]at h;have e:i.toNat=j:=Option.some.inj h;exact⟨by rw [seqIndex_of h0 h1,e],by omega,by omega,h1⟩
  ·rw [if_neg h1]at h;cases h
 ·rw [if_neg h0]at h;by_cases h1: -(n:Int)≤i
  ·rw [if_pos h1]at h;have e:(i+n).toNat=j:=Option.some.inj h;exact⟨by rw [seqIndex_neg (by omega) h1,e],by omega,h1,by omega⟩
  ·rw [if_neg h1]at h;cases h
theorem zjb{α:Type}{xs:List α}{i:Int}{v:α}(h:atI xs i=some v):∃j,seqIndex? i xs.length=some j∧xs[j]? =some v∧j<xs.length∧ -(xs.length:Int)≤i∧i<xs.length:=by
 unfold atI at h;cases e:ixN xs.length i with
 |none=>rw [e]at h;cases h
 |some j=>
  rw [e]at h;obtain⟨h1,h2,h3,h4⟩:=zqN e;exact⟨j,h1,h,h2,h3,h4⟩
theorem zrS{α:Type}{xs:List α}{j:Nat}{v:α}(h:xs[j]? =some v):atI xs (j:Int)=some v:=by
 have hj:j<xs.length:=(List.getElem?_eq_some_iff.mp h).1;have e:ixN xs.length (j:Int)=some j:=by
  unfold ixN;rw [if_pos (by omega),if_pos (by omega)];simp
 unfold atI;rw [e];exact h
noncomputable def ziP (b:Expr):Prop:=∀o i,subscripted b false o i=operate [o,i] (getItem o i)
noncomputable def IxR (X:Cx) (r:R2):Prop:=
 ∀(value slice:Expr) (pins:List (Addr×Obj)) (s:Shared) (σ:St) (H:Hp) (x y:V) (v u:Value) (Q:VK),Inv X pins σ H s→RelV x v→RelV y u→r x y H Q→
  subscripted slice false v u=operate [v,u] (getItem v u)→wpAny (model X.prog X.w) X.A (subscriptTail value slice v u) (EP X pins σ Q) X.xe s
noncomputable def MtR (X:Cx) (id:String) (r:V→List V→Hp→VK→Prop):Prop:=
 ∀(pins:List (Addr×Obj)) (s:Shared) (σ:St) (H:Hp) (x:V) (xs:List V) (v:Value) (us:List Value) (Q:VK),Inv X pins σ H s→RelV x v→Vals xs us→r x xs H Q→
  wpAny (model X.prog X.w) X.A (call (.builtin id) (v::us)) (EP X pins σ Q) X.xe s
section
variable {X:Cx}{a b:Expr}{ta tb:TE}{pos:Pos}
theorem IxR.or{r r':R2}(h:IxR X r) (h':IxR X r'):IxR X (fun x y H Q=>r x y H Q∨r' x y H Q):=by
 intro value slice pins s σ H x y v u Q I rx ry q hs;rcases q with q |q
 ·exact h value slice pins s σ H x y v u Q I rx ry q hs
 ·exact h' value slice pins s σ H x y v u Q I rx ry q hs
theorem MtR.or{id:String}{r r':V→List V→Hp→VK→Prop}(h:MtR X id r) (h':MtR X id r'):MtR X id (fun x xs H Q=>r x xs H Q∨r' x xs H Q):=by
 intro pins s σ H x xs v us Q I rx rs q;rcases q with q |q
 ·exact h pins s σ H x xs v us Q I rx rs q
 ·exact h' pins s σ H x xs v us Q I rx rs q
theorem ztf{r:R2}(hr:IxR X r) (ha:PE X a ta) (hb:PE X b tb) (hs:ziP b):PE X (.Subscript a b pos) (tOp r ta tb):=by
 intro pins s σ H Q I h;exact Subscript_ (zvp ha hb I h fun v u s2 x y H2 I2 rx ry q=>hr a b pins s2 σ H2 x y v u Q I2 rx ry q (hs _ _))
noncomputable def zwK (K:PySem.W.Frag):R2:=fun x y H Q=>∃p xs i v,x= .ref p∧y= .int i∧SqL K H p xs∧atI xs i=some v∧Q v H
noncomputable def zwI (K:PySem.W.Frag):R2:=fun x y H Q=>∃p xs i v,x= .ref p∧y= .int i∧SqT K H p xs∧atI xs i=some v∧Q v H
noncomputable def zwN:R2:=fun x y H Q=>∃z i c,x= .str z∧y= .int i∧z.length≤sizeLine∧atI z.cps.toList i=some c∧Q (.str ⟨#[c]⟩) H
theorem ix_list:IxR X (zwK X.K):=by
 intro value slice pins s σ H x y v u Q I rx ry h hs;obtain⟨p,xs,i,z,rfl,rfl,hq,he,q⟩:=h;cases rx;obtain⟨t,rfl⟩:=ry;obtain⟨its,r,pl,hz⟩:=I.list hq;obtain⟨j,h1,h2,h3,h4,h5⟩:=zjb he;obtain⟨w,ew,rw'⟩:=r.get h2;have hl:=r.length;have hn:=zgm;have fin:EP X pins σ Q w s:=⟨z,H,I,rw',q⟩;by_cases h0:0≤i
 ·have hj:i.toNat=j:=by
   rw [seqIndex_of h0 h5]at h1;exact Option.some.inj h1
  exact item_listR pl.isList h0 (by omega) (by rw [hj];simpa using ew) fin hs
 ·have hj:(i+(its.toArray.size:Int)).toNat=j:=by
   rw [seqIndex_neg (by omega) h4]at h1;rw [List.size_toArray,←hl];exact Option.some.inj h1
  exact subscriptTail_builtinR (x:=w) pl.isList.typeIs slot_list_getitem.lookup
   (wpAny_getItem_list_neg (Q:=fun r s'=>r=w∧EP X pins σ Q r s') pl.isList (by omega) (by rw [List.size_toArray]<;>omega) (by omega) (by rw [hj];simpa using ew) ⟨rfl,fin⟩) hs
theorem ix_tup:IxR X (zwI X.K):=by
 intro value slice pins s σ H x y v u Q I rx ry h hs;obtain⟨p,xs,i,z,rfl,rfl,hq,he,q⟩:=h;cases rx;obtain⟨t,rfl⟩:=ry;obtain⟨its,r,pl,hz⟩:=I.tuple hq;obtain⟨j,h1,h2,h3,h4,h5⟩:=zjb he;obtain⟨w,ew,rw'⟩:=r.get h2;have hl:=r.length;have hn:=zgm;have fin:EP X pins σ Q w s:=⟨z,H,I,rw',q⟩;exact subscriptTail_builtinR (x:=w) pl.typeIs slot_tuple_getitem.lookup
  (getItem_tuple (j:=j) (Q:=fun r s'=>r=w∧EP X pins σ Q r s') pl (by omega) (by omega) (by rw [List.size_toArray,←hl];exact h1) (by simpa using ew) ⟨rfl,fin⟩) hs
theorem ztF:IxR X zwN:=by
 intro value slice pins s σ H x y v u Q I rx ry h hs;obtain⟨z,i,c,rfl,rfl,hz,he,q⟩:=h;obtain⟨t,rfl⟩:=rx;obtain⟨t',rfl⟩:=ry;obtain⟨j,h1,h2,h3,h4,h5⟩:=zjb he;have hl:z.cps.toList.length=z.length:=by simp [Str.length]
 rw [hl]at h1 h4 h5;have hn:=zgm;exact tail_any (typeIs_str s z t) slot_str_getitem.lookup (getItem_str (c:=c) (by
  have e1:decide (i< -(2 ^ 63:Int))=false:=decide_eq_false (by omega);have e2:decide (i≥2 ^ 63)=false:=decide_eq_false (by omega);rw [e1,e2,Bool.or_false]) (by rw [h1];simpa using h2) ⟨.str ⟨#[c]⟩,H,I.tok _,⟨_,rfl⟩,q⟩) hs
noncomputable def rIx (K:PySem.W.Frag):R2:=fun x y H Q=>zwK K x y H Q∨zwI K x y H Q∨zwN x y H Q
theorem zpZ:IxR X (rIx X.K):=ix_list.or (ix_tup.or ztF)
theorem zhI (lo hi:Option Int) (n:Nat):(sliceBounds lo hi none n).1=((HT.sIx n 0 lo:Nat):Int)∧(sliceBounds lo hi none n).2.1=((HT.sIx n n hi:Nat):Int)∧(sliceBounds lo hi none n).2.2=1:=by
 refine⟨?_,?_,rfl⟩
 ·cases lo with
  |none=>simp [sliceBounds,HT.sIx]
  |some i=>
   simp only[sliceBounds,HT.sIx,Option.getD_none,show(1:Int) > 0 by decide,if_true]
   by_cases h:i<0
   ·simp only[h,if_true]<;>omega
   ·simp only[h,if_false]<;>omega
 ·cases hi with
  |none=>simp [sliceBounds,HT.sIx]
  |some i=>
   simp only[sliceBounds,HT.sIx,Option.getD_none,show(1:Int) > 0 by decide,if_true]
   by_cases h:i<0
   ·simp only[h,if_true]<;>omega
   ·simp only[h,if_false]<;>omega
theorem zhj (its:List Value) (lo hi:Option Int):slicePick its.toArray lo hi none=((its.drop (HT.sIx its.length 0 lo)).take (HT.sIx its.length its.length hi - HT.sIx its.length 0 lo)).toArray:=by
 obtain⟨h1,h2,h3⟩:=zhI lo hi its.toArray.size;unfold slicePick;rw [h1,h2,h3];simp only[sliceRange_one,pick_run,List.size_toArray]<;>rfl
noncomputable def zwX (K:PySem.W.Frag):V→Option Int→Option Int→Hp→VK→Prop:=fun x lo hi H Q=>∃a xs,x= .ref a∧SqL K H a xs∧ ∀p,H p=none→Q (.ref p) (upd H p (.lst (zmx xs lo hi)))
theorem znH:SlR X (zwX X.K):=by
 intro pins s σ H x v vl vu lo hi sl Q I rx hs pl pu h;obtain⟨a,xs,rfl,hx,q⟩:=h;cases rx;obtain⟨its,r,ht,hz⟩:=I.list hx;have hlen:=r.length;refine⟨"list",_,slot_list_getitem.lookup,ht.isList.typeIs,?_⟩;refine wpAny_getItem_list_slice ht.isList hs pl pu .none (by simp) ?_ (by rw [List.size_toArray]<;>omega);rw [zhj,←hlen];refine⟨.ref s.heap.objs.size,_,I.laid (t':=s.toks) (o:= .lst (zmx xs lo hi)) (fun b ob q=>Heap.get?_push_of_some _ q) (Nat.le_refl _) ?_,rfl,q _ (I.hok.fresh (Nat.le_refl _))⟩;exact⟨Nat.le_trans (zfR xs lo hi) hz,_,0,(r.drop (HT.sIx xs.length 0 lo)).take (HT.sIx xs.length xs.length hi - HT.sIx xs.length 0 lo),Heap.get?_push_size _ rfl⟩
theorem call_len_seq:CallR X (.builtin "len") (fun xs H Q=>∃p ys,xs=[.ref p]∧(SqL X.K H p ys∨SqT X.K H p ys)∧Q (.int ys.length) H):=by
 intro pins s σ H xs us Q I r h;obtain⟨p,ys,rfl,hq,q⟩:=h;obtain⟨u,rfl,rx⟩:=ziW r;cases rx;have hn:=zgm;rcases hq with hq |hq
 ·obtain⟨its,r',pl,hz⟩:=I.list hq;have hlen:=r'.length;exact Calls.call_len_list pl.isList (by simp only[List.size_toArray]<;>omega) ⟨.int ys.length,H,I.tok _,⟨s.toks+1,by rw [List.size_toArray,hlen]⟩,q⟩
 ·obtain⟨its,r',pl,hz⟩:=I.tuple hq;have hlen:=r'.length;exact len_tuple pl (by simp only[List.size_toArray]<;>omega) ⟨.int ys.length,H,I.tok _,⟨s.toks+1,by rw [List.size_toArray,hlen]⟩,q⟩
theorem zhJ:CallR X (.builtin "len") (fun xs H Q=>∃z,xs=[.str z]∧z.length≤sizeLine∧Q (.int z.length) H):=by
 intro pins s σ H xs us Q I r h;obtain⟨z,rfl,hz,q⟩:=h;obtain⟨u,rfl,t,rfl⟩:=ziW r;have hn:=zgm;exact len_str (by omega) ⟨.int z.length,H,I.tok _,⟨_,rfl⟩,q⟩
theorem CallR.or{f:Value}{r r':List V→Hp→VK→Prop}(h:CallR X f r) (h':CallR X f r'):CallR X f (fun xs H Q=>r xs H Q∨r' xs H Q):=by
 intro pins s σ H xs us Q I rs q;rcases q with q |q
 ·exact h pins s σ H xs us Q I rs q
 ·exact h' pins s σ H xs us Q I rs q
theorem zig:CallR X (.type "list") (fun xs H Q=>∃p ys,xs=[.ref p]∧(SqL X.K H p ys∨SqT X.K H p ys)∧ ∀l,H l=none→Q (.ref l) (upd H l (.lst ys))):=by
 intro pins s σ H xs us Q I r h;obtain⟨p,ys,rfl,hq,q⟩:=h;obtain⟨u,rfl,rx⟩:=ziW r;cases rx;have fin:∀(its:List Value),Vals ys its→ys.length≤sizeLine→ ∀(h':Heap) (c':Nat),(∀b o',s.heap.get? b=some o'→h'.get? b=some o')→
   h'.get? s.heap.objs.size=some { cls:= .type "list",dict:=none,data:= .seq its.toArray c',slots:= #[] }→EP X pins σ Q (.ref s.heap.objs.size) { s with heap:=h' }:=fun its r' hz h' c' kp e=>
  ⟨.ref s.heap.objs.size,_,I.laid (t':=s.toks) kp (Nat.le_refl _) (show ObjOk X.prog X.w _ h' _ (.lst ys) from⟨hz,its,c',r',e⟩),rfl,q _ (I.hok.fresh (Nat.le_refl _))⟩
 rcases hq with hq |hq
 ·obtain⟨its,r',pl,hz⟩:=I.list hq;have hlen:=r'.length;obtain⟨o,ho,hc,n,hd⟩:=pl.isList;exact call_list_seq p (.inl rfl) ho hc hd (fun h' c' kp e=>fin its r' hz h' c' kp e) (by simp only[List.size_toArray]<;>omega)
 ·obtain⟨its,r',pl,hz⟩:=I.tuple hq;have hlen:=r'.length;obtain⟨o,ho,hc,n,hd⟩:=pl;exact call_list_seq p (.inr rfl) ho hc hd (fun h' c' kp e=>fin its r' hz h' c' kp e) (by simp only[List.size_toArray]<;>omega)
theorem zdW:CallR X (.type "tuple") (fun xs H Q=>∃p ys,xs=[.ref p]∧((SqL X.K H p ys∧ ∀l,H l=none→Q (.ref l) (upd H l (.tup ys)))∨(SqT X.K H p ys∧Q (.ref p) H))):=by
 intro pins s σ H xs us Q I r h;obtain⟨p,ys,rfl,h⟩:=h;obtain⟨u,rfl,rx⟩:=ziW r;cases rx;rcases h with⟨hq,q⟩ |⟨hq,q⟩
 ·obtain⟨its,r',pl,hz⟩:=I.list hq;have hlen:=r'.length;refine call_tuple_list pl.isList (fun h' kp=>?_) (by simp only[List.size_toArray]<;>omega);have I1:Inv X pins σ H { s with heap:=h' }:=I.kept (t':=s.toks) kp;have I2:Inv X pins σ (upd H h'.objs.size (.tup ys)) { s with heap:=h'.push { cls:= .type "tuple",data:= .seq its.toArray } }:=
   I1.laid (t':=s.toks) (fun b o e=>Heap.get?_push_of_some _ e) (Nat.le_refl _) (show ObjOk X.prog X.w _ _ _ (.tup ys) from⟨hz,its,r',IsTup.new _ _⟩)
  exact⟨.ref h'.objs.size,_,I2,rfl,q _ (I1.hok.fresh (Nat.le_refl _))⟩
 ·obtain⟨its,r',pl,hz⟩:=I.tuple hq;exact call_tuple_same pl ⟨.ref p,H,I,rfl,q⟩
noncomputable def tyV (K:PySem.W.Frag) (T:String) (x:V) (H:Hp):Prop:=match x with
 | .str _=>T= "str"
 | .int _=>T= "int"
 | .ref p=>(T= "list" ∧ ∃xs,SqL K H p xs)∨(T= "tuple" ∧ ∃o,K.lookup p=some o∧o.cls= .type "tuple" ∧o.dict=none)∨
   (T= "dict" ∧((∃kvs,H p=some (.dK kvs))∨ ∃kvs,H p=some (.dT kvs)))∨(T= "set" ∧ ∃S n,H p=some (.set S n))
 |_=>False
theorem zpY{pins:List (Addr×Obj)}{σ:St}{H:Hp}{s:Shared}{T:String}{x:V}{v:Value}(I:Inv X pins σ H s) (r:RelV x v) (ty:tyV X.K T x H) :
  s.TypeIs v T∧ ∀a,v= .ref a→ ∃ob,s.heap.get? a=some ob∧ob.dict=none:=by
 cases x with
 |str z=>
  obtain⟨t,rfl⟩:=r;cases(show T= "str" from ty);exact⟨typeIs_str s z t,fun _ e=>nomatch e⟩
 |int i=>
  obtain⟨t,rfl⟩:=r;cases(show T= "int" from ty);exact⟨typeIs_int s i t,fun _ e=>nomatch e⟩
 |ref p=>
  cases r;rcases ty with⟨rfl,xs,hq⟩ |⟨rfl,o,hk,hc,hd⟩ |⟨rfl,hk⟩ |⟨rfl,S,n,hk⟩
  ·obtain⟨its,_,pl,_⟩:=I.list hq;refine⟨pl.isList.typeIs,fun a e=>?_⟩;cases e;obtain⟨o,n,e,c,hd,_⟩:=pl;exact⟨o,e,hd⟩
  ·refine⟨⟨o,I.kIn p o hk,hc⟩,fun a e=>?_⟩;cases e;exact⟨o,I.kIn _ o hk,hd⟩
  ·have z:∃o,s.heap.get? p=some o∧o.ExactDict:=by
    rcases hk with⟨kvs,hk⟩ |⟨kvs,hk⟩
    ·obtain⟨_,_,_,_,o,_,_,e,ex,_⟩:=I.hok p _ hk;exact⟨o,e,ex⟩
    ·obtain⟨_,_,_,_,o,_,_,e,ex,_⟩:=I.hok p _ hk;exact⟨o,e,ex⟩
   obtain⟨o,e,ex⟩:=z;refine⟨⟨o,e,ex.1⟩,fun a e2=>?_⟩;cases e2;exact⟨o,e,ex.2.1⟩
  ·obtain⟨o,_,_,_,e,ex,_⟩:=I.hok p _ hk;refine⟨⟨o,e,ex.1⟩,fun a e2=>?_⟩;cases e2;exact⟨o,e,ex.2.1⟩
 |_=>exact False.elim ty
noncomputable def zxP (K:PySem.W.Frag) (T:String) (r:V→List V→Hp→VK→Prop) (to:TE):TE:=fun σ H Q=>to σ H fun x H1=>tyV K T x H1∧r x [] H1 Q
noncomputable def tBM (K:PySem.W.Frag) (T:String) (r:V→List V→Hp→VK→Prop) (to:TE) (t:TA):TE:=fun σ H Q=>to σ H fun x H1=>tyV K T x H1∧t σ H1 fun xs H2=>r x xs H2 Q
variable {o e:Expr}{es:List Expr}{to:TE}{t:TA}{name:Str}{apos cpos:Pos}{T id:String}{r:V→List V→Hp→VK→Prop}
theorem zuK (pa:PlainAttrs T) (slot:Slot T name id) (hty:typeOf (.builtin id)=pure (.type "method_descriptor")) (hm:MtR X id r) (ho:PE X o to)
  (hbase:attributeBase o name X.env (eval o X.env)=eval o X.env:=by rfl) (hline:(apos.endLine == cpos.line)=true:=by rfl):PE X (.Call (.Attribute o name apos) [] [] cpos) (zxP X.K T r to):=by
 intro pins s σ H Q I h;refine wpAny_Call_method0_late hbase hline (thn (ho pins s σ H _ I h) fun v s1 ⟨x,H1,I1,r1,ty,q1⟩=>?_);obtain⟨h1,h2⟩:=zpY I1 r1 ty;exact⟨T,id,pa,slot,hty,h1,h2,Calls.callWith_builtin rfl (PySem.evalArgs_none (hm pins s1 σ H1 x [] v [] Q I1 r1 .nil q1))⟩
theorem ztV (pa:PlainAttrs T) (slot:Slot T name id) (hty:typeOf (.builtin id)=pure (.type "method_descriptor")) (hm:MtR X id r) (ho:PE X o to) (ha:PA X (e::es) t)
  (hbase:attributeBase o name X.env (eval o X.env)=eval o X.env:=by rfl)
  (hfew:((backTo cpos (starEach (e::es) X.env)).all (fun x=> !x.1)&&(backToKw cpos (keywordEach [] X.env)).all (fun x=>x.1.isSome)
   &&decide ((e::es).length+([]:List Keyword).length+(if([]:List Keyword).isEmpty then 0 else 1)<30))=true:=by rfl)
  (hline:(apos.endLine == cpos.line)=true:=by rfl) (hs:starEach (e::es) X.env=(false,eval e X.env)::starEach es X.env:=by rfl) (hplain:(backTo cpos (starEach es X.env)).any (·.1)=false:=by rfl) :
  PE X (.Call (.Attribute o name apos) (e::es) [] cpos) (tBM X.K T r to t):=by
 intro pins s σ H Q I h;refine wpAny_Call_method_late hbase hfew hline rfl (thn (ho pins s σ H _ I h) fun v s1 ⟨x,H1,I1,r1,ty,q1⟩=>?_);obtain⟨h1,h2⟩:=zpY I1 r1 ty;refine⟨T,id,pa,slot,hty,h1,h2,?_⟩;have hA:=ha cpos pins s1 σ H1 _ I1 q1;rw [hs]at hA⊢;refine Calls.callWith_builtin (by show(false || (backTo cpos (starEach es X.env)).any (·.1))=false;rw [hplain]<;>rfl) (Calls.evalArgs_plain ?_)
 exact thn hA fun us s2 ⟨vs,H2,I2,r2,q2⟩=>hm pins s2 σ H2 x vs v us Q I2 r1 r2 q2
end
noncomputable def MtM (X:Cx) (id:String) (r:V→List V→Hp→VK→Prop):Prop:=
 ∀(pins:List (Addr×Obj)) (s:Shared) (σ:St) (H:Hp) (x:V) (xs:List V) (v:Value) (us:List Value) (Q:VK),Inv X pins σ H s→RelV x v→Vals xs us→r x xs H Q→
  wpAny (model X.prog X.w) X.A (call (.builtin id) (v::us)) (EP X pins σ Q) X.xe s
theorem Vals.one:∀{x:V}{us:List Value},Vals [x] us→ ∃u,us=[u]∧RelV x u
 |_,_, .cons r .nil=>⟨_,rfl,r⟩
theorem Vals.rep{xs:List V}{us:List Value}(h:Vals xs us):∀k:Nat,Vals (List.replicate k xs).flatten (List.replicate k us).flatten
 |0=> .nil
 |k+1=>by
  rw [List.replicate_succ,List.replicate_succ,List.flatten_cons,List.flatten_cons];exact Vals.append h (Vals.rep h k)
theorem zhK (its:List Value):∀(k:Nat) (acc:List Value),
  List.foldl (fun x1 x2=>x1++x2) acc.toArray (List.replicate k its.toArray)=(acc++(List.replicate k its).flatten).toArray
 |0,acc=>by simp
 |k+1,acc=>by
  have e:acc.toArray++its.toArray=(acc++its).toArray:=by simp
  have e2:(acc++its)++(List.replicate k its).flatten=acc++(List.replicate (k+1) its).flatten:=by
   rw [List.replicate_succ,List.flatten_cons,List.append_assoc]
  rw [←e2,←zhK its k (acc++its),←e,List.replicate_succ,List.foldl_cons]
section
variable {X:Cx}{pins:List (Addr×Obj)}{σ:St}{H:Hp}{s:Shared}{l:Addr}{xs ys:List V}
theorem Inv.lset{its its':List Value}{n:Nat}{f:Array Value→Array Value}{t':Nat}(I:Inv X pins σ H s) (hH:H l=some (.lst xs))
  (e:s.heap.get? l=some { cls:= .type "list",data:= .seq its.toArray n }) (hf:f its.toArray=its'.toArray) (hv:Vals ys its') (hz:ys.length≤sizeLine) :
  Inv X pins σ (upd H l (.lst ys)) { s with heap:=s.heap.update l (Obj.mapSeq f),toks:=t' }:=by
 have q:=PySem.IsL.update e f;rw [hf]at q;refine I.write (x:=l) (e:=l) (by rw [hH];exact trivial) (.inl rfl) (fun b' u hb hu=>(Heap.get?_update_other s.heap (Obj.mapSeq f) (Ne.symm hb)).trans hu) ⟨_,q⟩ ?_;exact⟨hz,its',_,hv,q⟩
theorem Inv.lnew{its:List Value}{t':Nat}(I:Inv X pins σ H s) (hv:Vals ys its) (hz:ys.length≤sizeLine) :
  Inv X pins σ (upd H s.heap.objs.size (.lst ys)) { s with heap:=s.heap.push { cls:= .type "list",data:= .seq its.toArray },toks:=t' }:=
 I.laid (fun _ _ q=>Heap.get?_push_of_some _ q) (Nat.le_refl _) ⟨hz,its,0,hv,Heap.get?_push_size _ rfl⟩
theorem Inv.fresh (I:Inv X pins σ H s):H s.heap.objs.size=none:=I.hok.fresh (Nat.le_refl _)
theorem Inv.lstM (I:Inv X pins σ H s) (hH:H l=some (.lst xs)):xs.length≤sizeLine∧ ∃(its:List Value) (n:Nat),Vals xs its∧xs.length=its.length∧s.heap.get? l=some { cls:= .type "list",data:= .seq its.toArray n }:=by
 obtain⟨z,its,n,r,e⟩:=I.hok l _ hH;exact⟨z,its,n,r,r.length,e⟩
theorem zke{n:Nat}(h:n≤sizeLine):Builtin.List.listTooLong n=false:=by
 unfold Builtin.List.listTooLong;exact decide_eq_false (by omega)
end
section
variable {X:Cx}
noncomputable def znu:V→List V→Hp→VK→Prop:=fun x vs H Q=>∃l xs y,x= .ref l∧vs=[y]∧H l=some (.lst xs)∧xs.length<sizeLine∧Q .non (upd H l (.lst (xs++[y])))
theorem ziA:MtM X "list.append" znu:=by
 intro pins s σ H x vs v us Q I rx rv h;obtain⟨l,xs,y,rfl,rfl,hH,hz,q⟩:=h;cases rx;obtain⟨u,rfl,ru⟩:=rv.one;obtain⟨z,its,n,r,hl,e⟩:=I.lstM hH;refine call_meets F.slot_list_append ⟨_,e,rfl⟩ F.entry_list_append (F.args_list_append_2 _ _) (PySem.list_append l its.toArray n u (by rw [List.size_toArray];omega)) ⟨e,?_⟩;refine⟨.non,_,I.lset (its':=its++[u]) hH e (by simp) (r.append (.cons ru .nil)) ?_,rfl,q⟩;rw [List.length_append,List.length_singleton];omega
noncomputable def zlN:V→List V→Hp→VK→Prop:=fun x vs H Q=>∃l b xs zs,x= .ref l∧vs=[.ref b]∧H l=some (.lst xs)∧H b=some (.lst zs)∧xs.length+zs.length≤sizeLine∧Q .non (upd H l (.lst (xs++zs)))
theorem zmo:MtM X "list.extend" zlN:=by
 intro pins s σ H x vs v us Q I rx rv h;obtain⟨l,b,xs,zs,rfl,rfl,hH,hB,hz,q⟩:=h;cases rx;obtain⟨u,rfl,ru⟩:=rv.one;cases ru;obtain⟨z,its,n,r,hl,e⟩:=I.lstM hH;obtain⟨z2,its2,n2,r2,hl2,e2⟩:=I.lstM hB;have hsz:its.toArray.size+its2.toArray.size≤sizeLine:=by rw [List.size_toArray,List.size_toArray];omega
 have hlong:¬(!its.toArray.isEmpty&&Builtin.List.listTooLong (its.toArray.size+its2.toArray.size))=true:=by
  rw [zke hsz,Bool.and_false];exact Bool.false_ne_true
 refine call_meets F.slot_list_extend ⟨_,e,rfl⟩ F.entry_list_extend (F.args_list_extend_2 _ _)
  (AutoSeq1.list_extend_list_list_0 l its.toArray n b its2.toArray n2 hlong (by rw [List.size_toArray];omega) (by omega)) ⟨e,e2,?_⟩
 refine⟨.non,_,I.lset (its':=its++its2) hH e (by simp) (r.append r2) ?_,rfl,q⟩;rw [List.length_append];omega
noncomputable def zwb:R2:=fun x y H Q=>∃l b xs zs,x= .ref l∧y= .ref b∧H l=some (.lst xs)∧H b=some (.lst zs)∧xs.length+zs.length≤sizeLine∧ ∀p,H p=none→Q (.ref p) (upd H p (.lst (xs++zs)))
theorem zmC:OpR X (binaryOp .Add) zwb:=by
 intro pins s σ H x y v u Q I rx ry h;obtain⟨l,b,xs,zs,rfl,rfl,hH,hB,hz,q⟩:=h;cases rx;cases ry;obtain⟨z,its,n,r,hl,e⟩:=I.lstM hH;obtain⟨z2,its2,n2,r2,hl2,e2⟩:=I.lstM hB;refine PySem.P.add_list e e2 ?_ (by rw [List.size_toArray,List.size_toArray];omega);have ea:its.toArray++its2.toArray=(its++its2).toArray:=by simp
 rw [ea];exact⟨.ref _,_,I.lnew (t':=s.toks) (r.append r2) (by rw [List.length_append];omega),rfl,q _ I.fresh⟩
theorem zqF{α:Type}(xs:List α) (k:Nat):(List.replicate k xs).flatten.length=k*xs.length:=by
 induction k with
 |zero=>simp
 |succ k ih=>rw [List.replicate_succ,List.flatten_cons,List.length_append,ih,Nat.succ_mul,Nat.add_comm]
end
end L2
namespace Att
open PySem PySem.W PySem.Calls PyProof.Rows
theorem zfo{P:Params}{h:Heap}:∀(ns:List Int) (vs:List Value),WellAll P h vs (ns.map WData.int)→IntsAre vs ns:=by
 intro ns
 induction ns with
 |nil=>
  intro vs w;rw [List.map_nil]at w;cases w;exact .nil
 |cons n ns ih=>
  intro vs w;rw [List.map_cons]at w;cases w with
  |cons a b=>
   cases a;exact .cons _ _ (ih _ b)
theorem znG{l:OpenLaw}{n:Nat}(hn:l.most=some n) {P:Params}{h:Heap}{args:List WData}{vals:List Value}
  (hpre:l.row.toRowW.claim.pre args=true) (hwl:WellAll P h vals args) :
  ∃a vs ns,vals=[Value.ref a]∧args=[WData.list (ns.map WData.int)]∧h.get? a=some { cls:= .type "list",data:= .seq vs.toArray }∧IntsAre vs ns∧ns.length≤n:=by
 have hsh:WShape.hasAll [] args [.list .int]=true:=(pre_splitW hpre).1;have hc:l.pre.holds [] { args:=args }=true:=(pre_splitW hpre).2;obtain⟨d,r,rfl,h1,h2⟩:=hasAllW_cons hsh;obtain rfl:=hasAllW_nil h2;obtain⟨xs,rfl,h3⟩:=hasW_list h1;obtain⟨ns,rfl⟩:=items_int h3;have hlen:ns.length≤n:=by
  unfold OpenLaw.pre at hc;have h4:(WTm.not (.lt (.lit (.int (n:Int))) (.len (.arg 0)))).holds [] { args:=[.list (ns.map .int)] }=true:=by
   have h4:=(holds_andW hc).1;rw [hn]at h4;exact h4
  have h5:=condW_of h4 (w_not (w_lt w_lit (w_len_list (w_arg rfl))));rw [List.length_map]at h5;refine Nat.le_of_not_lt fun q=>?_;have q':(n:Int)<((ns.length:Nat):Int):=by omega
  first
   | (rw [decide_eq_true q']at h5;exact absurd h5 (by decide))
   | (simp at h5;omega)
 cases hwl with
 |cons w1 w2=>
  cases w2;cases w1 with
  |list ho hall=>exact⟨_,_,ns,rfl,rfl,ho,zfo ns _ hall,hlen⟩
theorem zmv (l:OpenLaw) (args:List WData):l.row.toRowW.claim.post args (.bool true) args=true:=
 postW_of (r:=l.row.toRowW) (X:=(true == true))
  (show WShape.has [] (.bool true) .bool=true by first |rfl |decide |simp [WShape.has,WShape.arms,WShape.armsAll])
  (show(WTm.eq .res (.lit (.bool true))).value [] { args:=args,res:=some (.bool true),after:=args }=some (.bool (true == true)) from w_eq_bool (w_res rfl) w_lit) rfl
theorem attach_call{l:OpenLaw}{n:Nat}{q:Program}{loose:List Str}{XP:(Str→Option Value)→Heap→Prop}{YP:World→Heap→Prop}{d:DefRec}
  (hn:l.most=some n) (hdf:d.params.defaults=[])
  (call:∀(w:World) (s₀ s₁:Shared) (mg mb:Str→Option Value) (fa:Addr) (o:Obj) (pm cd doc:Value) (a:Addr) (vs:List Value) (ns:List Int),
   Ground q loose [] XP w s₀ mg mb s₁.heap→YP w s₁.heap→
   s₁.heap.get? fa=some o→o.data= .func (docDef d.name d.params d.body d.scope pm cd doc)→s₁.heap.CodeRec cd d.name→mg d.name=some (.ref fa)→
   s₁.heap.get? a=some { cls:= .type "list",data:= .seq vs.toArray }→IntsAre vs ns→ns.length≤n→s₁.gens= #[]→
   codeAny (model l.prog w) callerA (.call (.ref fa) ⟨[.ref a],[]⟩) (fun r s'=>r= .ok (.ret (.bool true))∧OldK s₁.heap s'.heap∧s'.os=s₁.os∧AllBare s'.gens) s₁) :
  WalkO q loose XP YP l.row.toRowW d [] (fun f vs=>PySem.call f vs):=by
 intro w s₀ s₁ mg mb G Y fa o pm cd doc dV kV ho hd hcd hD hmg hg args vals as hpre hlay hrd hwl hlo;obtain rfl:dV= .none:=Dflts.none hD hdf;obtain rfl:kV= .none:=Dflts.noKw hD;obtain⟨a,vs,ns,rfl,rfl,hobj,hints,hlen⟩:=znG hn hpre hwl;refine enter_call (codeAny_mono (call w s₀ s₁ mg mb fa o pm cd doc a vs ns G Y ho (fd_plain hd) hcd hmg hobj hints hlen hg) fun r s' hq=>?_);obtain⟨rfl,h2,h3,h4⟩:=hq;exact⟨.inl ⟨.bool true, .bool true,[],rfl,fun _=>rfl, .bool true,zmv l _,fun _=>⟨List.Pairwise.nil,fun _ hm=>(nomatch hm)⟩⟩,h2,h3,h4⟩
end Att
namespace L2
open PySem PySem.Spec PyProof.Rows
theorem zih:∀{vs:List Value}{ns:List Int},IntsAre vs ns→Vals (ns.map V.int) vs
 |_,_, .nil=> .nil
 |_,_, .cons n t h=> .cons ⟨t,rfl⟩ (zih h)
noncomputable def zve (H:Hp):Prop:=∀b,H b=none∨ ∃o xs,H b=some (.frz o (.lst xs))
theorem zpo{P:Program}{w:World}{K:PySem.W.Frag}{mg mb:Str→Option Value}{CX:CXT}{k:Nat}{fa a:Addr}{fd:FuncData}{x:Str}{sp:Sp}{s₁:Shared}{vs:List Value}{ns:List Int}
  (KX:K.In s₁.heap) (hns:s₁.heap.Ns mainGlobals mg) (hb:s₁.heap.Ns builtinsNs mb) (hbb:∀x:Str,x≠ "__name__" →mb x=bootBuiltins x) (hlim:s₁.heap.NoLimit) (hg:s₁.gens= #[])
  (ha:s₁.heap.get? a=some { cls:= .type "list",data:= .seq vs.toArray }) (hi:IntsAre vs ns) (hl:ns.length≤sizeLine) (hr:Room k callerA)
  (F:∀base:Heap,K.In base→base.Ns mainGlobals mg→FnOk P w K mg base CX k fa fd [x] sp) (hbind:∀(s:Shared) (u:Value),BindsTo s fd ⟨[u],[]⟩ [(x,u)])
  (hsp:∀H:Hp,zve H→SqL K H a (ns.map V.int)→sp [.ref a] H (fun v _=>v= .bl true) fun _ _ _=>False)
  (hCX:∀H e s',CX [] H s₁ (fun _ _ _=>False) e s'→False) :
  codeAny (model P w) callerA (.call (.ref fa) ⟨[.ref a],[]⟩) (fun r s'=>r= .ok (.ret (.bool true))∧OldK s₁.heap s'.heap∧s'.os=s₁.os∧AllBare s'.gens) s₁:=by
 have rv:=zih hi;have lenV:=hi.length;have core:∀H:Hp,zve H→SqL K H a (ns.map V.int)→HOk P w H s₁.heap→(∀b,H b≠none→b=a)→(H a≠none→K.lookup a=none)→
   codeAny (model P w) callerA (.call (.ref fa) ⟨[.ref a],[]⟩) (fun r s'=>r= .ok (.ret (.bool true))∧OldK s₁.heap s'.heap∧s'.os=s₁.os∧AllBare s'.gens) s₁:=by
  intro H hO hS hok hA hK;have base_of:∀{b:Addr}{o:Obj},s₁.heap.get? b=some o→H b=none→(zoB s₁.heap H).get? b=some o:=fun e n=>zoZ e n;have noA:∀{b:Addr}{o:Obj}{es:Array DictEntry}{ep:Nat},s₁.heap.get? b=some o→o.data= .dict es ep→H b=none:=fun {b o es ep} e d=>by
   cases q:H b with
   |none=>rfl
   |some u=>
    have e':b=a:=hA b (by rw [q];simp);subst e';rw [ha]at e;cases e;have d':Data.seq vs.toArray _=Data.dict es ep:=d;cases d'
  have nsK:∀{b:Addr}{m:Str→Option Value},s₁.heap.Ns b m→(zoB s₁.heap H).Ns b m:=fun {b m} ⟨o,es,ep,e,d,r⟩=>⟨o,es,ep,base_of e (noA e d),d,r⟩;have hKb:K.In (zoB s₁.heap H):=fun b o e=>base_of (KX b o e) (by
   cases q:H b with
   |none=>rfl
   |some u=>
    have e':b=a:=hA b (by rw [q];simp);subst e';rw [hK (by rw [q];simp)]at e;cases e)
  have hM:Mod K mg (zoB s₁.heap H):=⟨hKb,nsK hns,⟨mb,nsK hb,hbb⟩,let ⟨mc,h1,h2⟩:=hlim;⟨mc,nsK h1,h2⟩⟩;have e0:Env0 P w K mg (zoB s₁.heap H) callerA [] s₁ H:=⟨rfl,hM,fun b o e=>zro e,Nat.le_of_eq (znz _ _),trivial,fun b hb=>absurd (show b∈([]:List Addr) from hb) (by simp),hok, .of_eq hg⟩;refine codeAny_mono ((F _ hKb (nsK hns)).run callerA [] s₁ H ⟨[.ref a],[]⟩ [.ref a] [.ref a] _ _ hr e0 (hbind s₁ (.ref a)) (.cons rfl .nil) (hsp H hO hS)) fun r s' h=>?_;cases r with
  |error e=>exact(hCX H e s' h).elim
  |ok fl=>
   cases fl with
   |next=>exact False.elim h
   |brk=>exact False.elim h
   |cont=>exact False.elim h
   |ret u=>
    obtain⟨v,H',os,bare,un,hok',r',q⟩:=h;have q':v= .bl true:=q;subst q';obtain rfl:u=Value.bool true:=r';refine⟨rfl,OldK.of_keep fun b o e=>?_,os,bare⟩;cases q:H b with
    |none=>exact un.keep b o e q (by intro z;exact absurd (show b∈([]:List Addr) from z) (by simp)) (by simp)
    |some u=>
     rcases hO b with z |⟨ob,xs,z⟩
     ·rw [q]at z;cases z
     ·have z2:=un.frzs b ob _ z;obtain⟨e1,_⟩:=hok b _ z;obtain⟨e2,_⟩:=hok' b _ z2;rw [e]at e1;cases e1;exact e2
 cases hk:K.lookup a with
 |some o=>
  have e:=KX a o hk;rw [ha]at e;cases e;refine core (fun _=>none) (fun _=> .inl rfl) (.inr ⟨_,vs.toArray,_,hk,rfl,rfl,rfl,by rw [List.size_toArray,lenV];exact hl,by simpa using rv⟩) (fun b u z=>by have z':(none:Option HO)=some u:=z;cases z') (fun b z=>absurd rfl z) fun z=>absurd rfl z
 |none=>
  refine core (fun b=>if b=a then some (.frz { cls:= .type "list",data:= .seq vs.toArray } (.lst (ns.map V.int))) else none) (fun b=>?_) (.inl (.inr ⟨{ cls:= .type "list",data:= .seq vs.toArray },if_pos rfl⟩)) (fun b u z=>?_) (fun b z=>?_) fun _=>hk
  ·by_cases hb:b=a
   ·exact .inr ⟨_,_,if_pos hb⟩
   ·exact .inl (if_neg hb)
  ·by_cases hb:b=a
   ·have z':=(if_pos hb).symm.trans z;cases z';subst hb;exact⟨ha,by rw [List.length_map];exact hl,vs,_,rv,ha⟩
   ·have z':=(if_neg hb).symm.trans z;cases z'
  ·by_cases hb:b=a
   ·exact hb
   ·exact absurd (if_neg hb) z
theorem zrB{l:PySem.W.OpenLaw}{n k:Nat}{q:Program}{loose:List Str}{XP:(Str→Option Value)→Heap→Prop}{YP:World→Heap→Prop}{d:DefRec}{K:Params→PySem.W.Frag}{CX:World→CXT}{sp:World→Sp}{x:Str}
  (hn:l.most=some n) (hn2:n≤sizeLine) (hdf:d.params.defaults=[]) (hr:Room k callerA)
  (hY:∀(w:World) (h:Heap),YP w h→(K w.params).In h)
  (F:∀(w:World) (mg:Str→Option Value) (fa:Addr) (h:Heap),(K w.params).In h→h.Ns mainGlobals mg→mg d.name=some (.ref fa)→
   ∃fd:FuncData,(∀(s:Shared) (u:Value),BindsTo s fd ⟨[u],[]⟩ [(x,u)])∧
    ∀base:Heap,(K w.params).In base→base.Ns mainGlobals mg→FnOk l.prog w (K w.params) mg base (CX w) k fa fd [x] (sp w))
  (hsp:∀(w:World) (H:Hp) (a:Addr) (ns:List Int),ns.length≤n→zve H→SqL (K w.params) H a (ns.map V.int)→sp w [.ref a] H (fun v _=>v= .bl true) fun _ _ _=>False)
  (hCX:∀(w:World) (H:Hp) (s:Shared) (e:Value) (s':Shared),CX w [] H s (fun _ _ _=>False) e s'→False) :
  PySem.W.WalkO q loose XP YP l.row.toRowW d [] (fun f vs=>PySem.call f vs):=by
 refine Att.attach_call hn hdf fun w s₀ s₁ mg mb fa o pm cd doc a vs ns G Y ho hd hcd hmg hobj hints hlen hg=>?_;have KX:=hY w _ Y;obtain⟨fd,hb,hF⟩:=F w mg fa _ KX G.T.g hmg;exact zpo KX G.T.g G.T.b G.T.builtins G.T.nolimit hg hobj hints (Nat.le_trans hlen hn2) hr hF hb (fun H hO hS=>hsp w H a ns hlen hO hS) fun H e s'=>hCX w H s₁ e s'
noncomputable def zfU (s:Stmt):Arguments:=match s with
 | .FunctionDef _ a _ _ _ _ _ _ _ _=>a
 |_=>{ posonlyargs:=[],args:=[],vararg:=none,kwonlyargs:=[],kw_defaults:=[],kwarg:=none,defaults:=[] }
noncomputable def zes (s:Stmt):List Stmt:=match s with
 | .FunctionDef _ _ b _ _ _ _ _ _ _=>b
 |_=>[]
noncomputable def zaj (s:Stmt):Scope:=match s with
 | .FunctionDef _ _ _ _ _ _ sc _ _ _=>sc
 |_=>{ kind:= .function,names:=[],isGenerator:=false,isCoroutine:=false }
structure Fun (K:PySem.W.Frag) (x qual:Str) (st:Stmt) (f:Addr) (fd:FuncData):Prop where
  ex:∃(oc:Value) (od:Option Addr) (kV doc pm:Value) (an:Option Addr) (cdv ct:Value) (osl:Array (Option Value)),
    fd=PySem.W.fnOf x qual (zfU st) (zes st) (zaj st) .none kV doc pm an cdv ct∧K.lookup f=some ⟨oc,od, .func fd,osl⟩∧PySem.W.codeIn K cdv qual=true
  kp:PySem.W.keepIn K (.ref f)=true
section
variable {K:PySem.W.Frag}
theorem Fun.binds{x qual:Str}{st:Stmt}{f:Addr}{fd:FuncData}{ps:List Str}(F:Fun K x qual st f fd)
  (h:∀(kV doc pm:Value) (an:Option Addr) (cdv ct:Value) (us:List Value),us.length=ps.length→bindArgs (PySem.W.fnOf x qual (zfU st) (zes st) (zaj st) .none kV doc pm an cdv ct) ⟨us,[]⟩=pure (ps.zip us)):Binds K fd ps []:=by
 obtain⟨oc,od,kV,doc,pm,an,cdv,ct,osl,rfl,lk,hcd⟩:=F.ex;exact .all (h kV doc pm an cdv ct)
theorem zuT{x qual:Str}{st:Stmt}{f:Addr}{oc:Value}{od an:Option Addr}{osl:Array (Option Value)}{kV doc pm cdv ct:Value}(l:K.lookup f=some ⟨oc,od, .func (PySem.W.fnOf x qual (zfU st) (zes st) (zaj st) .none kV doc pm an cdv ct),osl⟩)
  (c:PySem.W.codeIn K cdv qual=true) (k:PySem.W.keepIn K (.ref f)=true):Fun K x qual st f (PySem.W.fnOf x qual (zfU st) (zes st) (zaj st) .none kV doc pm an cdv ct):=⟨⟨oc,od,kV,doc,pm,an,cdv,ct,osl,rfl,l,c⟩,k⟩
end
theorem zxw{A B:Prop}(h:B):if false=true then A else B:=by
 rw [if_neg Bool.false_ne_true];exact h
theorem zwZ{A B:Prop}(h:A):if true=true then A else B:=by
 rw [if_pos rfl];exact h
noncomputable def Same (H H':Hp):Prop:=∀b o,H b=some o→H' b=some o
theorem Same.trans{H H1 H2:Hp}(a:Same H H1) (b:Same H1 H2):Same H H2:=fun c o h=>b c o (a c o h)
section
variable {κ:Type} [DecidableEq κ]
theorem RelO.getD{o:Option V}{u:Option Value}{d:V}{d':Value}(r:RelO o u) (rd:RelV d d'):RelV (o.getD d) (u.getD d'):=by
 cases o with
 |none=>cases u with
  |none=>exact rd
  |some _=>exact(show False from r).elim
 |some _=>cases u with
  |none=>exact(show False from r).elim
  |some _=>exact r
theorem KV.length{kvs:List (κ×V)}{vs:List (κ×Value)}(r:KV kvs vs):kvs.length=vs.length:=Paired.length r
end
end L2
namespace Att
open PySem PySem.W PySem.Calls PyProof.Rows
end Att
namespace L2
open PySem PySem.Spec PyProof.Rows
section
variable {prog:Program}{w:World}{A:Around}{R:Result→Shared→Prop}{s:Shared}
theorem ziu{elt target iter:Expr}{ifs:List Expr}{scope:Scope}{pos:Pos}{it acc:Value}{env:Env}(I:Nat→Shared→Prop)
  (turn:∀n s,I n s→wpAny (model prog w) A (pyNext it) (fun r s₁=>match r with
   |none=>R (.ok .next) s₁
   |some v=>wpAny (model prog w) A (letOwnedTupleGo target it v) (fun _ s₀=>wpAny (model prog w) A (assign target env v) (fun _ s₂=>
     wpAny (model prog w) A (forIn ifs true fun c r=>if r=true then do let ok ←isTrue c env (eval c env);pure (ForInStep.yield ok) else pure (ForInStep.yield r)) (fun ok s₃=>
      if ok=true then wpAny (model prog w) A (eval elt env) (fun x s₄=>
       wpAny (model prog w) A (call (.builtin "list.append") [acc,x]) (fun _ s₅=>∃m,m<n∧I m s₅) (fun _ _=>False) s₄) (fun _ _=>False) s₃
      else ∃m,m<n∧I m s₃) (fun _ _=>False) s₂) (fun _ _=>False) s₀) (fun _ _=>False) s₁) (fun _ _=>False) s)
  (n:Nat) (h:I n s) :
  codeAny (model prog w) A (.compLoop (.ListComp elt [⟨target,iter,ifs,0⟩] scope pos) 0 it acc env) R s:=by
 refine codeAny_loop rfl I (fun n s hI=>?_) n h;show wpAny _ A ((compTurn (.ListComp elt [⟨target,iter,ifs,0⟩] scope pos) 0 it acc env).onRaise (fun x=>do noteFrame x env;theTreesLotGoes x)) _ _ s;refine wpAny_noted ?_;rw [compTurn_list];refine wpAny_bind (wpAny_standAt (wpAny_bind (wpAny_mono (turn n s hI) (fun r s₁ h₁=>?_) fun _ _ h'=>h'.elim)));cases r with
 |none=>exact wpAny_pure h₁
 |some v=>
  refine wpAny_bind (wpAny_mono h₁ (fun _ s₀ h₀=>?_) fun _ _ h'=>h'.elim);refine wpAny_bind (wpAny_mono h₀ (fun _ s₂ h₂=>wpAny_bind (wpAny_mono h₂ (fun ok s₃ h₃=>?_) fun _ _ h'=>h'.elim)) fun _ _ h'=>h'.elim);cases ok with
  |false=>exact wpAny_pure ⟨rfl,h₃⟩
  |true=>
   exact wpAny_bind (wpAny_bind (wpAny_mono h₃ (fun x s₄ h₄=>wpAny_bind (wpAny_mono h₄ (fun _ s₅ h₅=>wpAny_pure (wpAny_pure ⟨rfl,h₅⟩)) fun _ _ h'=>h'.elim)) fun _ _ h'=>h'.elim))
end
noncomputable def zga (cells:List (Str×Addr)):List (Str×NameKind)→List (Str×Addr)→List (Str×Addr)
 | [],acc=>acc
 | (n,k)::r,acc=>if(k == NameKind.free)=true then zga cells r ((n,(cells.lookup n).getD 0)::acc) else zga cells r acc
theorem zla{scope:Scope}{env:Env}(h:∀y∈scope.names,y.2= .free→ ∃c,env.cells.lookup y.1=some c) :
  closureFor scope env=pure (zga env.cells scope.names []):=by
 have go:∀(l:List (Str×NameKind)) (acc:List (Str×Addr)),(∀y∈l,y.2= .free→ ∃c,env.cells.lookup y.1=some c)→
   (forIn l acc fun(x:Str×NameKind) (cs:List (Str×Addr))=>(if(x.2 == NameKind.free)=true then(do let a ←cellOf env x.1;pure (ForInStep.yield ((x.1,a)::cs))) else pure (ForInStep.yield cs):Sem (ForInStep (List (Str×Addr)))))=(pure (zga env.cells l acc):Sem (List (Str×Addr))):=by
  intro l
  induction l with
  |nil=>intro acc _;rfl
  |cons x l ih=>
   intro acc hl;obtain⟨n,k⟩:=x;have hr:=fun y hy=>hl y (List.mem_cons_of_mem _ hy);rw [List.forIn_cons];by_cases hk:k= .free
   ·subst hk;obtain⟨c,hc⟩:=hl (n, .free) List.mem_cons_self rfl;have hc':env.cells.lookup n=some c:=hc;have e:cellOf env n=pure c:=by unfold cellOf;rw [hc']
    have e2:zga env.cells ((n,NameKind.free)::l) acc=zga env.cells l ((n,c)::acc):=by
     show(if(NameKind.free == NameKind.free)=true then zga env.cells l ((n,(env.cells.lookup n).getD 0)::acc) else zga env.cells l acc)=_;rw [if_pos (by rfl),hc'];rfl
    dsimp only;rw [if_pos (by rfl),e,pure_bind,pure_bind,e2];exact ih _ hr
   ·have hb:¬(k == NameKind.free)=true:=by simpa using hk
    have e2:zga env.cells ((n,k)::l) acc=zga env.cells l acc:=by
     show(if(k == NameKind.free)=true then zga env.cells l ((n,(env.cells.lookup n).getD 0)::acc) else zga env.cells l acc)=_;rw [if_neg hb]
    dsimp only;rw [if_neg hb,pure_bind,e2];exact ih _ hr
 have q:=go scope.names [] h;unfold closureFor
 first
  |exact(bind_pure _).trans q
  | (simp only[bind_pure];exact q)
  | (simp only[pure_bind,bind_assoc,bind_pure];exact q)
theorem zgZ{cells:List (Str×Addr)}{x:Str}{c:Addr}:∀(l:List (Str×NameKind)) (acc:List (Str×Addr)),(∀y∈l,y.2= .free→ ∃c,cells.lookup y.1=some c)→
  (zga cells l acc).lookup x=some c→acc.lookup x=some c∨cells.lookup x=some c
 | [],acc,_,h=> .inl h
 | (n,k)::r,acc,hl,h=>by
  have hr:=fun y hy=>hl y (List.mem_cons_of_mem (n,k) hy);by_cases hk:k= .free
  ·subst hk;have h':(zga cells r ((n,(cells.lookup n).getD 0)::acc)).lookup x=some c:=h;rcases zgZ r _ hr h' with q |q
   ·rw [List.lookup_cons]at q;cases e:x == n with
    |true=>
     rw [e]at q;obtain⟨d,hd⟩:=hl (n, .free) List.mem_cons_self rfl;have hd':cells.lookup n=some d:=hd;have e1:x=n:=eq_of_beq e;rw [hd']at q;have q':d=c:=Option.some.inj q;exact .inr (by rw [e1,hd',q'])
    |false=>
     rw [e]at q;exact .inl q
   ·exact .inr q
  ·have hb:¬(k == NameKind.free)=true:=by simpa using hk
   have h':(if(k == NameKind.free)=true then zga cells r ((n,(cells.lookup n).getD 0)::acc) else zga cells r acc).lookup x=some c:=h;rw [if_neg hb]at h';exact zgZ r acc hr h'
theorem zeZ{cells:List (Str×Addr)}{x:Str}:∀(l:List (Str×NameKind)) (acc:List (Str×Addr)),((x,NameKind.free)∈l∨ ∃c,acc.lookup x=some c)→ ∃c,(zga cells l acc).lookup x=some c
 | [],acc,h=>by
  rcases h with h |h
  ·cases h
  ·exact h
 | (n,k)::r,acc,h=>by
  by_cases hk:k= .free
  ·subst hk;refine zeZ r ((n,(cells.lookup n).getD 0)::acc) ?_;cases e:x == n with
   |true=>exact .inr ⟨_,by rw [List.lookup_cons,e]⟩
   |false=>
    rcases h with h |⟨c,h⟩
    ·rcases List.mem_cons.mp h with q |q
     ·have:x=n:=congrArg Prod.fst q;rw [this]at e;simp at e
     ·exact .inl q
    ·exact .inr ⟨c,by rw [List.lookup_cons,e];exact h⟩
  ·have hb:¬(k == NameKind.free)=true:=by simpa using hk
   show ∃c,(if(k == NameKind.free)=true then zga cells r ((n,(cells.lookup n).getD 0)::acc) else zga cells r acc).lookup x=some c;rw [if_neg hb];refine zeZ r acc ?_;rcases h with h |h
   ·rcases List.mem_cons.mp h with q |q
    ·exact absurd (congrArg Prod.snd q).symm hk
    ·exact .inl q
   ·exact .inr h
theorem zci{env:Env}{x:Str}{k:NameKind}:∀{names:List (Str×NameKind)},(∀y∈names,y.2≠ .cell)→
  (names.map fun(n,k)=>if(k == NameKind.free&&env.scope.kind == .function&&env.kindOf n == some .cell) then(n,NameKind.cell) else(n,k)).lookup x=some k→(k= .cell∨k= .free)→(x,NameKind.free)∈names
 | [],_,h,_=>by simp at h
 | (n,j)::r,hc,h,hk=>by
  have h':List.lookup x ((if(j == NameKind.free&&env.scope.kind == .function&&env.kindOf n == some .cell)=true then(n,NameKind.cell) else(n,j)) ::
   (r.map fun(n,k)=>if(k == NameKind.free&&env.scope.kind == .function&&env.kindOf n == some .cell) then(n,NameKind.cell) else(n,k)))=some k:=h
  have hr:=fun y hy=>hc y (List.mem_cons_of_mem (n,j) hy);have hj:j≠ .cell:=hc (n,j) List.mem_cons_self;cases e:x == n with
  |true=>
   have e1:x=n:=eq_of_beq e;subst e1;by_cases c:(j == NameKind.free&&env.scope.kind == .function&&env.kindOf x == some .cell)=true
   ·have c1:(j == NameKind.free)=true:=by
     cases q:(j == NameKind.free) with
     |true=>rfl
     |false=>rw [q]at c;simp at c
    have c2:j= .free:=by simpa using c1
    rw [c2];exact List.mem_cons_self
   ·rw [if_neg c]at h';simp only[List.lookup_cons,beq_self_eq_true]at h';have h2:j=k:=Option.some.inj h';rcases hk with z |z
    ·exact absurd (h2.trans z) hj
    ·rw [h2,z];exact List.mem_cons_self
  |false=>
   by_cases c:(j == NameKind.free&&env.scope.kind == .function&&env.kindOf n == some .cell)=true
   ·rw [if_pos c]at h';simp only[List.lookup_cons,e]at h';exact List.mem_cons_of_mem _ (zci hr h' hk)
   ·rw [if_neg c]at h';simp only[List.lookup_cons,e]at h';exact List.mem_cons_of_mem _ (zci hr h' hk)
theorem zcX{env:Env}{x:Str}:∀{names:List (Str×NameKind)},names.lookup x=some .free→
  (names.map fun(n,k)=>if(k == NameKind.free&&env.scope.kind == .function&&env.kindOf n == some .cell) then(n,NameKind.cell) else(n,k)).lookup x=some .cell∨
  (names.map fun(n,k)=>if(k == NameKind.free&&env.scope.kind == .function&&env.kindOf n == some .cell) then(n,NameKind.cell) else(n,k)).lookup x=some .free
 | [],h=>by simp at h
 | (n,j)::r,h=>by
  show List.lookup x ((if(j == NameKind.free&&env.scope.kind == .function&&env.kindOf n == some .cell)=true then(n,NameKind.cell) else(n,j)) ::
   (r.map fun(n,k)=>if(k == NameKind.free&&env.scope.kind == .function&&env.kindOf n == some .cell) then(n,NameKind.cell) else(n,k)))=_∨
   List.lookup x ((if(j == NameKind.free&&env.scope.kind == .function&&env.kindOf n == some .cell)=true then(n,NameKind.cell) else(n,j)) ::
   (r.map fun(n,k)=>if(k == NameKind.free&&env.scope.kind == .function&&env.kindOf n == some .cell) then(n,NameKind.cell) else(n,k)))=_
  cases e:x == n with
  |true=>
   simp only[List.lookup_cons,e]at h;have h2:j= .free:=Option.some.inj h;subst h2;by_cases c:(NameKind.free == NameKind.free&&env.scope.kind == .function&&env.kindOf n == some .cell)=true
   ·rw [if_pos c];simp only[List.lookup_cons,e];exact .inl trivial
   ·rw [if_neg c];simp only[List.lookup_cons,e];exact .inr trivial
  |false=>
   simp only[List.lookup_cons,e]at h;by_cases c:(j == NameKind.free&&env.scope.kind == .function&&env.kindOf n == some .cell)=true
   ·rw [if_pos c];simp only[List.lookup_cons,e];exact zcX h
   ·rw [if_neg c];simp only[List.lookup_cons,e];exact zcX h
noncomputable def zaT (X:Cx) (scope:Scope) (N:List Str) (s:Shared) (H:Hp) (fp:List Addr) (pins:List (Addr×Obj)):Cx:=
 { X with N:=N,s₀:=s,H₀:=H,env:=compEnvC scope (zga X.env.cells scope.names []) s.heap.objs.size X.env,outer:=X.stack,stack:=X.stack,ex:=fp,fn:=fun _=>false,pn:=X.pn++pins,xe:=fun _ _=>False }
structure CompSc (X:Cx) (scope:Scope) (N:List Str) (k:Nat) (fr:List Nat):Prop where
  kind:scope.kind= .function
  nd:N.Nodup
  len:N.length=k+fr.length
  cell:(scope.names.all fun y=>y.2 != NameKind.cell)=true
  loc:(scope.names.all fun y=>y.2 != NameKind.local || scope.names.lookup y.1 == some NameKind.local)=true
  free:(scope.names.all fun y=>y.2 != NameKind.free || X.env.kindOf y.1 == some NameKind.cell || X.env.kindOf y.1 == some NameKind.free)=true
  frs:((N.drop k).all fun x=>scope.names.lookup x == some NameKind.free)=true
  pl:N.drop k=fr.map fun j=>X.N.getD j Str.empty
  plen:(fr.all fun j=>decide (j<X.N.length))=true
noncomputable def zfJ (σ:St) (fr:List Nat):St:=fr.map fun j=>(σ[j]?).join
noncomputable def zkU (σ:St) (k:Nat) (fr:List Nat):St:=List.replicate k none++zfJ σ fr
section
variable {X:Cx}{scope:Scope}{N:List Str}{k:Nat}{fr:List Nat}
theorem CompSc.cell' (S:CompSc X scope N k fr):∀y∈scope.names,y.2≠ .cell:=fun y hy=>by
 have q:=List.all_eq_true.mp S.cell y hy;simpa using q
theorem CompSc.loc' (S:CompSc X scope N k fr):∀y∈scope.names,y.2= .local→scope.names.lookup y.1=some .local:=fun y hy e=>by
 have q:=List.all_eq_true.mp S.loc y hy;rw [e]at q;simpa using q
theorem CompSc.kinds (S:CompSc X scope N k fr):∀y∈scope.names,y.2= .free→X.env.kindOf y.1=some .cell∨X.env.kindOf y.1=some .free:=fun y hy e=>by
 have q:=List.all_eq_true.mp S.free y hy;rw [e]at q;simpa using q
theorem CompSc.hasCell (S:CompSc X scope N k fr) (ok:X.Ok):∀y∈scope.names,y.2= .free→ ∃c,X.env.cells.lookup y.1=some c:=fun y hy e=>ok.has y.1 (S.kinds y hy e)
theorem CompSc.sub (S:CompSc X scope N k fr) (ok:X.Ok) {x:Str}{c:Addr}(h:(zga X.env.cells scope.names []).lookup x=some c):X.env.cells.lookup x=some c:=by
 rcases zgZ scope.names [] (S.hasCell ok) h with q |q
 ·simp at q
 ·exact q
end
section
variable {X:Cx}{pins:List (Addr×Obj)}{σ:St}{H:Hp}{s:Shared}{scope:Scope}{N:List Str}{k:Nat}{fr:List Nat}{fp:List Addr}
theorem zqG (I:Inv X pins σ H s) (S:CompSc X scope N k fr) (hfp:∀b∈fp,zhp X pins H b) (hob:∀b∈fp,∃o,s.heap.get? b=some o):(zaT X scope N s H fp pins).Ok where
  mod:=I.ok.mod
  kind:=S.kind
  glob:=I.ok.glob
  blt:=I.ok.blt
  above:=Nat.le_refl _
  inj:=fun x y c h1 h2=>I.ok.inj x y c (S.sub I.ok h1) (S.sub I.ok h2)
  has:=fun x hx=>zeZ scope.names [] (.inl (by
    rcases hx with hx |hx
    · exact zci S.cell' hx (.inl rfl)
    · exact zci S.cell' hx (.inr rfl)))
  cab:=fun x c h _=>absurd h (by show ¬(false=true);decide)
  hd:=I.ok.hd
  frames:=I.ok.frames
  stk:= .inl rfl
  exf:=fun b hb=>⟨by
    obtain⟨o,e⟩:=hob b hb;exact Nat.ne_of_lt (Heap.lt_size e),fun x c h=>(hfp b hb).2.2.2.2.1 x c (S.sub I.ok h)⟩
  bs:=I.bs
  bsz:=Nat.le_trans I.ok.bsz I.sz
  noex:=fun b o e hb=>by
    rcases(hfp b hb).2.2.2.1 with z |z
    · exact I.ok.noex b o e z
    · exact absurd (Nat.lt_of_lt_of_le (Heap.lt_size (I.ok.bs b o e).1) z) (Nat.lt_irrefl _)
  exfs:=fun b hb z=>by
    rcases List.mem_cons.mp (I.stkSub b z) with q |q
    · exact(hfp b hb).2.1 q
    · exact(hfp b hb).2.2.1 q
  funs:=I.stack
  frf:=I.stkFree
theorem zre (I:Inv X pins σ H s) (S:CompSc X scope N k fr) {H':Hp}{b:Addr}(hb:b∈fp) (hf:zhp X pins H b) (hob:∃o,s.heap.get? b=some o) (hn:H' b=none):zhp (zaT X scope N s H fp pins) [] H' b:=by
 refine⟨hn,?_,fun z=>?_, .inl hb,fun x c h=>hf.2.2.2.2.1 x c (S.sub I.ok h),fun p hp=>?_⟩
 ·obtain⟨o,e⟩:=hob;exact Nat.ne_of_lt (Heap.lt_size e)
 ·rcases List.mem_cons.mp (I.stkSub b z) with q |q
  ·exact hf.2.1 q
  ·exact hf.2.2.1 q
 ·rcases List.mem_append.mp hp with z |z
  ·exact hf.2.2.2.2.2 p z
  ·cases z
theorem zlv{j:Nat}{v:V}(h:(zfJ σ fr)[j]? =some (some v)):∃i,fr[j]? =some i∧σ[i]? =some (some v):=by
 unfold zfJ at h;rw [List.getElem?_map]at h;cases e:fr[j]? with
 |none=>rw [e]at h;cases h
 |some i=>
  rw [e]at h;have h':(σ[i]?).join=some v:=Option.some.inj h;refine⟨i,rfl,?_⟩;cases q:σ[i]? with
  |none=>rw [q]at h';cases h'
  |some o=>
   rw [q]at h';have h2:o=some v:=h';rw [h2]
theorem zoF (I:Inv X pins σ H s) (S:CompSc X scope N k fr) (hfp:∀b∈fp,zhp X pins H b) (hob:∀b∈fp,∃o,s.heap.get? b=some o) {h1:Heap}{tk:Nat}{m:Str→Option Value}
    (hns:h1.Ns s.heap.objs.size m) (hk:∀b o,s.heap.get? b=some o→h1.get? b=some o):Inv (zaT X scope N s H fp pins) [] (zkU σ k fr) H { s with heap:=h1,toks:=tk } where
  ok:=zqG I S hfp hob
  os:=rfl
  bare:=I.bare
  base:=Un.kept hk
  loc:=⟨m,hns,fun i x v e1 e2 e3=>by
    have e2':(List.replicate k (none:Option V)++zfJ σ fr)[i]? =some (some v):=e2;have hi:k≤i:=by
      refine Nat.le_of_not_lt fun z=>?_;rw [List.getElem?_append_left (by simpa using z),List.getElem?_replicate]at e2';split at e2'<;>cases e2'
    rw [List.getElem?_append_right (by simpa using hi),List.length_replicate]at e2';obtain⟨j,f1,f2⟩:=zlv e2';have e1':N[i]? =some x:=e1;have d1:(N.drop k)[i - k]? =some x:=by
      rw [List.getElem?_drop];have:k+(i - k)=i:=by omega
      rw [this];exact e1'
    have d2:=d1;rw [S.pl,List.getElem?_map,f1]at d2;have d3:X.N.getD j Str.empty=x:=Option.some.inj d2;have jl:j<X.N.length:=of_decide_eq_true (List.all_eq_true.mp S.plen j (List.mem_of_getElem? f1));have d4:X.N[j]? =some x:=by
      rw [List.getD_eq_getElem?_getD,List.getElem?_eq_getElem jl]at d3;rw [List.getElem?_eq_getElem jl];exact congrArg some d3
    have fk:scope.names.lookup x=some .free:=by
      have q:=List.all_eq_true.mp S.frs x (List.mem_of_getElem? d1);simpa using q
    have hmem:(x,NameKind.free)∈scope.names:=PySem.mem_of_lookup fk;have kd:=S.kinds _ hmem rfl;have vis:Vis X.env.scope x:=by
      rcases kd with z |z
      · exact .inr (.inl z)
      · exact .inr (.inr z)
    obtain⟨m0,_,hl⟩:=I.loc;obtain⟨u,ru,lk⟩:=hl j x v d4 f2 vis;refine⟨u,ru, .inr ⟨zcX fk,?_⟩⟩;have kd':X.env.kindOf x=some .cell∨X.env.kindOf x=some .free:=kd;rcases lk with⟨z,_⟩ |⟨_,c,hc,hcell⟩
    · rcases kd' with q |q<;>(rw [z]at q;cases q)
    · obtain⟨c',hc'⟩:=zeZ (cells:=X.env.cells) scope.names [] (.inl hmem);have e:=S.sub I.ok hc';rw [hc]at e;cases e;exact⟨c,hc',hcell.keeps hk⟩⟩
  cell:=fun x c h=>by
    obtain⟨v,z⟩:=I.cell x c (S.sub I.ok h);exact⟨v,z.keeps hk⟩
  free:=I.hok.fresh (Nat.le_refl _)
  freeC:=fun x c h=>I.freeC x c (S.sub I.ok h)
  pin:=fun p hp=>by
    have hp':p∈X.pn++pins:=by
      rcases List.mem_append.mp hp with z |z
      · exact z
      · cases z
    obtain⟨e,n,ne,nf,d⟩:=I.pin p hp';refine⟨hk _ _ e,n,Nat.ne_of_lt (Heap.lt_size e),fun z=>?_,d⟩;rcases List.mem_cons.mp (I.stkSub p.1 z) with q |q
    · exact ne q
    · exact nf q
  hok:=I.hok.kept hk
  len:=by
    show(List.replicate k (none:Option V)++zfJ σ fr).length=N.length;rw [List.length_append,List.length_replicate,S.len];unfold zfJ;rw [List.length_map]
theorem ziv{σ':St}{H':Hp}{s':Shared}{h':Heap}(I:Inv X pins σ H s) (hfp:∀b∈fp,zhp X pins H b) (J:Inv (zaT X scope N s H fp pins) [] σ' H' s') (sb:Heap.SameBut s.heap.objs.size s'.heap h'):Inv X pins σ H' { s' with heap:=h' }:=by
 have neC:∀b o,s.heap.get? b=some o→b≠s.heap.objs.size:=fun b o e=>Nat.ne_of_lt (Heap.lt_size e);have frC:H' s.heap.objs.size=none:=J.free;refine Inv.call' (s':={ s' with heap:=h' }) (ch:=fp) I J.os ⟨fun b o e n hf hx=>?_,fun b o e n hf hx=>?_,fun b o e n hx=>J.base.free b o e n hx,fun b o e hx=>?_,J.base.tups,J.base.frzs,J.base.tbls⟩ (fun b o e=>?_) J.bare fun b hb=>⟨(hfp b hb).2.2.2.1,(hfp b hb).2.1,(hfp b hb).2.2.2.2.1,(hfp b hb).2.2.2.2.2⟩
 ·exact(sb.2 b (neC b o e)).trans (J.base.keep b o e n hf hx)
 ·obtain⟨sl,q⟩:=J.base.slot b o e n hf hx;exact⟨sl,(sb.2 b (neC b o e)).trans q⟩
 ·obtain⟨o',q⟩:=J.base.there b o e hx;exact⟨o',(sb.2 b (neC b o e)).trans q⟩
 ·refine(J.hok b o e).stay (fun c v hc q=>(sb.2 c ?_).trans q) (fun _ q=>q) fun _ _ q=>q;rintro rfl;rcases hc with rfl |hc
  ·rw [frC]at e;cases e
  ·rw [frC]at hc;cases hc
end
noncomputable def PTs (X:Cx) (ifs:List Expr) (t:TT):Prop:=
 ∀(pins:List (Addr×Obj)) (s:Shared) (σ:St) (H:Hp) (Q:Bool→Hp→Prop),Inv X pins σ H s→t σ H Q→
  wpAny (model X.prog X.w) X.A (forIn ifs true fun c r=>if r=true then do let ok ←isTrue c X.env (eval c X.env);pure (ForInStep.yield ok) else pure (ForInStep.yield r)) (TP X pins σ Q) X.xe s
noncomputable def zwT:TT:=fun _ H Q=>Q true H
theorem zrE{X:Cx}:PTs X [] zwT:=fun _ _ _ H _ I h=>wpAny_tests_nil ⟨H,I,h⟩
noncomputable def zvL (X:Cx) (scope:Scope) (N:List Str) (tg:Expr) (ifs:List Expr) (elt:Expr) (l:Addr) (x:V) (σ:St) (H:Hp) (M:St→Hp→Prop):Prop:=
 ∀(s₀:Shared) (H₀:Hp) (fp:List Addr) (pn:List (Addr×Obj)),∃(g:TG) (tt:TT) (te:TE),PG (zaT X scope N s₀ H₀ fp pn) tg g∧PTs (zaT X scope N s₀ H₀ fp pn) ifs tt∧PE (zaT X scope N s₀ H₀ fp pn) elt te∧
  g x σ H fun σ2 H2=>tt σ2 H2 fun b H3=>if b=true then te σ2 H3 fun y H4=>∃ys,H4 l=some (.lst ys)∧ys.length<sizeLine∧M σ2 (upd H4 l (.lst (ys++[y]))) else M σ2 H3
noncomputable def zrb (X:Cx) (scope:Scope) (N:List Str) (k:Nat) (fr:List Nat) (tg:Expr) (ifs:List Expr) (elt:Expr) (σ:St) (Q:VK) (J:It) (H1:Hp):Prop:=∀l,H1 l=none→
 ∃W:Nat→Nat→St→Hp→Prop,(∃m,W 0 m (zkU σ k fr) (upd H1 l (.lst [])))∧ ∀i m σ' H',W i m σ' H'→
  (J.stop i H'∧Q (.ref l) H')∨(J.go i H'∧ ∃M:St→Hp→Prop,(∀σ'' H'',M σ'' H''→ ∃m',m'<m∧W (i+1) m' σ'' H'')∧ ∀x H2,J.yld i H' x H2→zvL X scope N tg ifs elt l x σ' H2 M)
noncomputable def zpt (X:Cx) (scope:Scope) (N:List Str) (k:Nat) (fr:List Nat) (tg:Expr) (ifs:List Expr) (elt:Expr) (wi:TI):TE:=fun σ H Q=>wi σ H fun J H1=>zrb X scope N k fr tg ifs elt σ Q J H1
theorem zhz{X:Cx}{use:Option (Value→Sem Unit)}{Qf:Value→Shared→Prop}{pins:List (Addr×Obj)}{s:Shared}{σ:St}{H:Hp}{Q:VK}{scope:Scope}{N:List Str}{k:Nat}{fr:List Nat}{tg iter elt:Expr}{ifs:List Expr}{wi:TI}{pos:Pos}(hx:X.xe=fun _ _=>False) (hc:X.calm=true) (S:CompSc X scope N k fr) (hi:PI X tg iter wi) (I:Inv X pins σ H s)
  (fin:∀{s3 s6:Shared}{H3 H5:Hp}{fp:List Addr}{σ5:St}{l:Addr}{a:Flow},Inv X pins σ H3 s3→(∀b∈fp,zhp X pins H3 b)→Inv (zaT X scope N s3 H3 fp pins) [] σ5 H5 s6→Q (.ref l) H5→compPost (model X.prog X.w) X.A X.xe use Qf (.ref l) s3.heap.objs.size (.ok a) s6)
  (h:zpt X scope N k fr tg ifs elt wi σ H Q)
  (hs:∀x,foldedSetIterable iter X.env x=pure x:=by intro _;rfl):wpAny (model X.prog X.w) X.A (comprehension (.ListComp elt [⟨tg,iter,ifs,0⟩] scope pos) scope X.env (firstIterPos [⟨tg,iter,ifs,0⟩] pos) (newList []) (firstAsync [⟨tg,iter,ifs,0⟩]) (firstIter [⟨tg,iter,ifs,0⟩] X.env) use) Qf X.xe s:=by
 refine wpAny_comprehension_free (use:=use) rfl hs (zla (S.hasCell I.ok)) S.kind S.loc' (thn (hi pins s σ H _ I h) fun v s1 h1=>thn h1 fun itv s2 h2=>?_);obtain⟨it,fp,tn,J,H2,e,I2,T,st2,f2,h2⟩:=h2;subst e;have fr2:H2 s2.heap.objs.size=none:=I2.hok.fresh (Nat.le_refl _);obtain⟨W,⟨m0,w0⟩,turn⟩:=h2 s2.heap.objs.size fr2;refine wpAny_newList ?_ (by show 0≤sizeLine;exact Nat.zero_le _);have I3:Inv X pins σ (upd H2 s2.heap.objs.size (.lst [])) { s2 with heap:=s2.heap.push { cls:= .type "list",data:= .seq ([]:List Value).toArray } }:=I2.lnew (t':=s2.toks) (ys:=[]) .nil (Nat.zero_le _);have old:∀b o,s2.heap.get? b=some o→(s2.heap.push { cls:= .type "list",data:= .seq ([]:List Value).toArray }).get? b=some o:=fun b o e=>Heap.get?_push_of_some _ e;have fpo2:∀b∈fp,∃o,s2.heap.get? b=some o:=fun b hb=>by
  obtain⟨o,e,_⟩:=T.obj _ _ st2 b hb;exact⟨o,e⟩
 have fpo:∀b∈fp,∃o,(s2.heap.push { cls:= .type "list",data:= .seq ([]:List Value).toArray }).get? b=some o:=fun b hb=>by
  obtain⟨o,e⟩:=fpo2 b hb;exact⟨o,old b o e⟩
 have f3:∀b∈fp,zhp X pins (upd H2 s2.heap.objs.size (.lst [])) b:=fun b hb=>by
  obtain⟨o,e⟩:=fpo2 b hb;refine⟨?_,(f2 b hb).2⟩;rw [zaq (Nat.ne_of_lt (Heap.lt_size e))];exact(f2 b hb).1
 generalize hs3:({ s2 with heap:=s2.heap.push { cls:= .type "list",data:= .seq ([]:List Value).toArray } }:Shared)=s3 at I3⊢;have st3:tn 0 s3.heap:=by
  rw [←hs3];exact T.keep _ _ _ st2 fun b _ o e=>old b o e
 have fpo3:∀b∈fp,∃o,s3.heap.get? b=some o:=by rw [←hs3];exact fpo
 clear fpo old hs3;refine wpAny_newFunctionEnv S.cell' (by intro y hy;simp at hy) (fun h1 hns1 hsb1=>?_) S.kind;have hk1:∀b o,s3.heap.get? b=some o→h1.get? b=some o:=fun b o e=>hsb1.extBut b o (Nat.ne_of_lt (Heap.lt_size e)) (Heap.get?_push_of_some _ e);have I4:=zoF (tk:=s3.toks+([]:List (Str×Value)).length) I3 S f3 fpo3 hns1 hk1;have st4:tn 0 h1:=T.keep _ _ _ st3 fun b _ o e=>hk1 b o e;have stat:∀{H':Hp},(∀b∈fp,H' b=none)→ ∀b∈fp,zhp (zaT X scope N s3 (upd H2 s2.heap.objs.size (.lst [])) fp pins) [] H' b:=fun hn b hb=>zre I3 S hb (f3 b hb) (fpo3 b hb) (hn b hb);have loop:∀s4:Shared,s4={ s3 with heap:=h1,toks:=s3.toks+([]:List (Str×Value)).length }→
   codeAny (model X.prog X.w) X.A (.compLoop (.ListComp elt [⟨tg,iter,ifs,0⟩] scope pos) 0 (.ref it) (.ref s2.heap.objs.size) (compEnvC scope (zga X.env.cells scope.names []) s3.heap.objs.size X.env))
    (compPost (model X.prog X.w) X.A X.xe use Qf (.ref s2.heap.objs.size) s3.heap.objs.size) s4:=by
  rintro s4 rfl;refine ziu (fun n s'=>∃i σ' H',Inv (zaT X scope N s3 (upd H2 s2.heap.objs.size (.lst [])) fp pins) [] σ' H' s'∧tn i s'.heap∧(∀b∈fp,H' b=none)∧W i n σ' H') ?_ m0 ⟨0,_,_,I4,st4,fun b hb=>(f3 b hb).1,w0⟩;rintro n s5 ⟨i,σ5,H5,I5,st5,fr5,w5⟩;rcases turn i n σ5 H5 w5 with⟨stop,qn⟩ |⟨go,M,hM,step⟩
  ·refine thn (T.done (zaT X scope N s3 (upd H2 s2.heap.objs.size (.lst [])) fp pins) rfl rfl rfl hc i [] s5 σ5 H5 _ I5 (stat fr5) st5 stop) fun r s6 ⟨hr,I6⟩=>?_;subst hr;exact fin I3 f3 I6 qn
  ·refine thn (T.item (zaT X scope N s3 (upd H2 s2.heap.objs.size (.lst [])) fp pins) rfl rfl rfl hc i [] s5 σ5 H5 _ I5 (stat fr5) st5 go) fun r s6 ⟨u,hr,h6⟩=>?_;subst hr;refine thn h6 fun _ s7 ⟨x,H7,I7,r7,y7,st7,fr7⟩=>?_;have I7':=I7.pinned (stat fr7) (T.obj _ _ st7);obtain⟨g,tt,te,hg,ht,he,q⟩:=step x H7 y7 s3 (upd H2 s2.heap.objs.size (.lst [])) fp pins;have again:∀{s8:Shared}{σ8:St}{H8:Hp},Inv (zaT X scope N s3 (upd H2 s2.heap.objs.size (.lst [])) fp pins) ([]++zhE fp s7.heap) σ8 H8 s8→M σ8 H8→
     ∃m,m<n∧ ∃i σ' H',Inv (zaT X scope N s3 (upd H2 s2.heap.objs.size (.lst [])) fp pins) [] σ' H' s8∧tn i s8.heap∧(∀b∈fp,H' b=none)∧W i m σ' H':=fun {s8 σ8 H8} I8 n8=>by
    obtain⟨m',hm,w8⟩:=hM σ8 H8 n8;refine⟨m',hm,i+1,σ8,H8,I8.unpinned,T.keep _ _ _ st7 fun b hb o e=>(I8.pin (b,o) (List.mem_append_right _ (List.mem_append_right _ (zdj hb e)))).1,fun b hb=>?_,w8⟩;obtain⟨o,e,d⟩:=T.obj _ _ st7 b hb;exact(I8.pin (b,o) (List.mem_append_right _ (List.mem_append_right _ (zdj hb e)))).2.1
   refine thn (hg _ s7 σ5 H7 x u _ I7' r7 q) fun _ s8 ⟨σ8,H8,I8,q8⟩=>?_;refine thn (ht _ s8 σ8 H8 _ I8 q8) fun b s9 ⟨H9,I9,q9⟩=>?_;cases b with
   |false=>exact again I9 q9
   |true=>
    refine thn (he _ s9 σ8 H9 _ I9 q9) fun y s10 ⟨yv,H10,I10,r10,ys,hl,hz,qM⟩=>?_;exact thn (ziA _ s10 σ8 H10 (.ref s2.heap.objs.size) [yv] (.ref s2.heap.objs.size) [y] (fun _ H'=>M σ8 H') I10 rfl (.cons r10 .nil) ⟨_,ys,yv,rfl,rfl,hl,hz,qM⟩) fun _ s11 ⟨_,H11,I11,_,q11⟩=>again I11 q11
 exact codeAny_compStart_list (loop _ rfl) (T.self _ 0 _ _ _ st4 (loop _ rfl))
theorem zqZ{X:Cx}{scope:Scope}{N:List Str}{k:Nat}{fr:List Nat}{tg iter elt:Expr}{ifs:List Expr}{wi:TI}{pos:Pos}(hx:X.xe=fun _ _=>False) (hc:X.calm=true) (S:CompSc X scope N k fr) (hi:PI X tg iter wi)
  (hs:∀x,foldedSetIterable iter X.env x=pure x:=by intro _;rfl):PE X (.ListComp elt [⟨tg,iter,ifs,0⟩] scope pos) (zpt X scope N k fr tg ifs elt wi):=by
 intro pins s σ H Q I h;rw [eval_ListComp];refine zhz hx hc S hi I (fun {s3 s6 H3 H5 fp σ5 l a} I3 f3 I6 qn=>?_) h hs;obtain⟨m6,ns6,_⟩:=I6.loc;exact⟨m6,ns6,fun h' sb=>⟨.ref l,H5,ziv I3 f3 I6 sb,rfl,qn⟩⟩
theorem zrp{X:Cx}{scope:Scope}{N:List Str}{k:Nat}{fr:List Nat}{tg iter elt:Expr}{ifs:List Expr}{wi:TI}{pos spos pos':Pos}{i:Nat}{x:Str}(hx:X.xe=fun _ _=>False) (hc:X.calm=true) (S:CompSc X scope N k fr) (hi:PI X tg iter wi)
  (hN:X.N.Nodup) (hxi:X.N[i]? =some x) (hxl:Loc X.env.scope x) (hw:swapsWith (.ListComp elt [⟨tg,iter,ifs,0⟩] scope pos) (some (.Name x pos')) spos.line X.env=pure true) (hf:X.fn x=true∨X.env.scope.names.lookup x=some .local)
  (hs:∀x,foldedSetIterable iter X.env x=pure x:=by intro _;rfl):PS X (.Assign [.Name x pos'] (.ListComp elt [⟨tg,iter,ifs,0⟩] scope pos) spos) (zwL (zpt X scope N k fr tg ifs elt wi) (zsr i)):=by
 intro pins s σ H D I h;rw [exec_Assign_Name_used x pos' _ spos hw];refine wpAny_bind (wpAny_standAt (wpAny_bind ?_));rw [arm_evalThenUse_ListComp];refine wpAny_bind ?_;refine zhz (Qf:=fun _ s'=>wpAny (model X.prog X.w) X.A (pure ()) (fun _ s2=>wpAny (model X.prog X.w) X.A (pure Flow.next) (SP X pins D) X.xe s2) X.xe s') hx hc S hi I (fun {s3 s6 H3 H5 fp σ5 l a} I3 f3 I6 qn=>?_) h hs;have IX:Inv X pins σ H5 s6:=ziv (h':=s6.heap) I3 f3 I6 ⟨rfl,fun _ _=>rfl⟩;obtain⟨m6,ns6,_⟩:=I6.loc;have ns6:s6.heap.Ns s3.heap.objs.size m6:=ns6;have frC:H5 s3.heap.objs.size=none:=I6.free;have fC:zhp X pins H5 s3.heap.objs.size:=I3.fpOk (Nat.le_refl _) frC;refine wpAny_assign_Name (zhV IX hN hxi hxl (v:= .ref l) rfl (fun s7 I7 ⟨b,sb,hb⟩=>?_) hf);have hbC:s3.heap.objs.size≠b:=by
  rcases hb with rfl |hb
  ·exact fC.2.1
  ·exact Ne.symm (fC.2.2.2.2.1 _ _ hb)
 refine⟨m6,ns6.sameBut sb hbC,fun h' sb2=>wpAny_pure (wpAny_pure ⟨_,H5,?_,qn⟩)⟩;refine Inv.call' (s':={ s7 with heap:=h' }) (ch:=[s3.heap.objs.size]) I7 rfl ⟨fun c o e n hfs hex=>?_,fun c o e n hfs hex=>?_,fun c o e n _=>n,fun c o e hex=>?_,fun _ _ q=>q,fun _ _ _ q=>q,fun _ ps q=>⟨#[],by simpa using q⟩⟩ (fun c o e=>?_) I7.bare fun c hcm=>?_
 ·exact(sb2.2 c (fun z=>hex (by simp [z]))).trans e
 ·exact⟨o.slots,(sb2.2 c (fun z=>hex (by simp [z]))).trans e⟩
 ·exact⟨o,(sb2.2 c (fun z=>hex (by simp [z]))).trans e⟩
 ·refine(I7.hok c o e).stay (fun d v hd q=>(sb2.2 d ?_).trans q) (fun _ q=>q) fun _ _ q=>q;rintro rfl;rcases hd with rfl |hd
  ·rw [frC]at e;cases e
  ·rw [frC]at hd;cases hd
 ·rw [List.mem_singleton.mp hcm];exact⟨fC.2.2.2.1,fC.2.1,fC.2.2.2.2.1,fC.2.2.2.2.2⟩
noncomputable def Its (x:Str):It:=⟨fun i _=>i<x.cps.size,fun i H v H'=>H'=H∧ ∃c,x.cps[i]? =some c∧v= .str ⟨#[c]⟩,fun i _=>i=x.cps.size⟩
theorem zkR{P:Program}{w:World}{K:PySem.W.Frag}{tg:Expr}(it:Addr) (x:Str) (t:Tok) (ty:String)
    (hn: ["enumerate", "zip", "dict_itemiterator", "dict_reverseitemiterator", "odict_iterator", "itertools.zip_longest", "itertools.pairwise"].contains ty=false)
    (hW:∀A':Around,A'.handled=none→Walks P w A' it [it] [it] x.cps.size (SignAt x) (fun i h=>h.IsStrIter it ty x t i))
    (hself:∀(A:Around) (i:Nat) (s:Shared) (Q:Value→Shared→Prop) (E:Value→Shared→Prop),s.heap.IsStrIter it ty x t i→Q (.ref it) s→wpAny (model P w) A (pyIter (.ref it)) Q E s) :
    Turn P w K tg (Its x) [it] it (fun i h=>h.IsStrIter it ty x t i) where
  mem:=by simp
  obj:=fun i h st b hb=>by
    have e:b=it:=by simpa using hb
    subst e;obtain⟨o,e,c,d⟩:=st;exact⟨o,e,fun v z=>by rw [d]at z;cases z⟩
  keep:=fun i h h' st k=>by
    obtain⟨o,e,r⟩:=st;exact⟨o,k it (by simp) o e,r⟩
  item:=by
    intro X hP hw hK hc i pins s σ H E I hf st hg;subst hP hw hK;obtain⟨f0,f1,f2,f3,f4,f5⟩:=hf it (by simp);refine(hW X.A (I.ok.hd hc)).item i s _ _ hg st fun v h' tk hv st' kk=>?_;obtain⟨c,u,hc',rfl⟩:=hv;have I1:Inv X pins σ H { s with heap:=h',toks:=tk }:=I.turned (fun b o hb e=>kk b o (by simpa using hb) e) f0 f1 f3 f4 f5;obtain⟨o,e,c',d⟩:=id st';exact⟨_,rfl,zmG (s:={ s with heap:=h',toks:=tk }) e c' d hn ⟨.str ⟨#[c]⟩,H,I1,⟨u,rfl⟩,⟨rfl,c,hc',rfl⟩,st',fun b hb=>(hf b hb).1⟩⟩
  done:=by
    intro X hP hw hK hc i pins s σ H E I hf st hg;subst hP hw hK;obtain⟨f0,f1,f2,f3,f4,f5⟩:=hf it (by simp);have hi:i=x.cps.size:=hg;subst hi;exact(hW X.A (I.ok.hd hc)).done s _ _ st fun h' tk kk=>⟨rfl,I.turned (fun b o hb e=>kk b o (by simpa using hb) e) f0 f1 f3 f4 f5⟩
  self:=hself
noncomputable def TupsOn (H H':Hp):Prop:=∀b xs,H b=some (.tup xs)→H' b=some (.tup xs)
theorem TupsOn.trans{H H1 H2:Hp}(a:TupsOn H H1) (b:TupsOn H1 H2):TupsOn H H2:=fun c xs h=>b c xs (a c xs h)
section
variable {X:Cx}
theorem zil:OpR X (compareOp .LtE) (fun x y H Q=>∃i j,x= .str i∧y= .str j∧Q (.bl (!decide (j.cps.toList<i.cps.toList))) H):=by
 intro pins s σ H x y v u Q I rx ry h;obtain⟨i,j,rfl,rfl,q⟩:=h;obtain⟨t,rfl⟩:=rx;obtain⟨t',rfl⟩:=ry;exact PySem.P.le_str (zkD I q rfl)
theorem zjY (a b:Nat):(([a]:List Nat)< [b])↔a<b:=by
 rw [List.cons_lt_cons_iff];constructor
 ·rintro(h |⟨_,h⟩)
  ·exact h
  ·exact absurd h (List.lt_irrefl _)
 ·exact .inl
noncomputable def rSlS:V→Option Int→Option Int→Hp→VK→Prop:=fun x lo hi H Q=>∃z,x= .str z∧z.length≤sizeLine∧Q (.str (Txt.slice z lo hi)) H
theorem sl_str:SlR X rSlS:=by
 intro pins s σ H x v vl vu lo hi sl Q I rx hs pl pu h;obtain⟨z,rfl,hz,q⟩:=h;obtain⟨t,rfl⟩:=rx;refine⟨"str",_,F.slot_str_getitem.lookup,typeIs_str _ _ _,?_⟩;obtain⟨o,ho,hc,hd⟩:=hs;have fin:∀t' k,EP X pins σ Q (.str (Txt.slice z lo hi) t') { s with toks:=k }:=fun t' k=>⟨.str _,H,I.tok _,⟨t',rfl⟩,q⟩;have le:=Nat.le_trans (Txt.slice_le z lo hi) hz;cases pl with
 |none=>
  cases pu with
  |none=>exact wpAny_getItem_str_slice (l:=none) (u:=none) (st:=none) ⟨o,ho,hc,hd⟩ rfl (post_val_or_str ⟨le,fin⟩)
  |int j u=>exact wpAny_getItem_str_slice (l:=none) (u:=some (j,u)) (st:=none) ⟨o,ho,hc,hd⟩ rfl (post_val_or_str ⟨le,fin⟩)
 |int i w=>
  cases pu with
  |none=>exact wpAny_getItem_str_slice (l:=some (i,w)) (u:=none) (st:=none) ⟨o,ho,hc,hd⟩ rfl (post_val_or_str ⟨le,fin⟩)
  |int j u=>exact wpAny_getItem_str_slice (l:=some (i,w)) (u:=some (j,u)) (st:=none) ⟨o,ho,hc,hd⟩ rfl (post_val_or_str ⟨le,fin⟩)
noncomputable def zvc (xs:List Nat) (lo hi:Option Int):List Nat:=(xs.drop (HT.sIx xs.length 0 lo)).take (HT.sIx xs.length xs.length hi - HT.sIx xs.length 0 lo)
theorem zpR (lo hi:Option Int) (n:Nat):Builtin.Str.strSliceIndices lo hi 1 n=sliceRange ((HT.sIx n 0 lo:Nat):Int) ((HT.sIx n n hi:Nat):Int) 1:=by
 have one:(1:Int) > 0:=by decide
 have a:∀(v:Option Int) (d:Nat),(match v with |none=>(d:Int) |some i=>(if(1:Int) > 0 then max 0 (min (if i<0 then i+(n:Int) else i) (n:Int)) else max (-1) (min (if i<0 then i+(n:Int) else i) ((n:Int) - 1))))=((HT.sIx n d v:Nat):Int):=by
  intro v d;cases v with
  |none=>rfl
  |some i=>
   simp only[HT.sIx,one,if_true];by_cases h:i<0
   ·simp only[h,if_true];omega
   ·simp only[h,if_false];omega
 have l:=a lo 0;have u:=a hi n;unfold Builtin.Str.strSliceIndices;simp only[one,if_true]at l u⊢
 first
  |rw [l,u]
  | (cases lo<;>cases hi<;>simp_all)
theorem zmP (z:Str) (lo hi:Option Int):(Txt.slice z lo hi).cps.toList=zvc z.cps.toList lo hi:=by
 have hn:z.length=z.cps.toList.length:=by simp [Str.length]
 have hp:(Builtin.Str.strSliceIndices lo hi 1 z.length).filterMap (z.cps[·]?)=zvc z.cps.toList lo hi:=by
  rw [zpR,sliceRange_one,pick_run,hn];rfl
 unfold Txt.slice;split
 ·rename_i h;have h1:(Builtin.Str.strSliceIndices lo hi 1 z.length).length=z.length:=by simpa using h
  rw [zpR,sliceRange_one,List.length_map,List.length_range]at h1;have le1:=HT.sIx_le z.length z.length (Nat.le_refl _) hi;unfold zvc;rw [←hn];have e0:HT.sIx z.length 0 lo=0∨z.length=0:=by omega
  have hz:z.cps.toList.length=z.length:=hn.symm;rcases e0 with e0 |e0
  ·rw [e0,List.drop_zero,List.take_of_length_le (by omega)]
  ·have:z.cps.toList=[]:=List.eq_nil_of_length_eq_zero (by omega);rw [this];simp
 ·show(List.filterMap _ _).toArray.toList=_;rw [hp]
theorem zoq (hc:X.calm=true):CallR X (.builtin "all") (fun xs H Q=>∃(p:Addr) (bs:List Bool),xs=[.ref p]∧SqL X.K H p (bs.map V.bl)∧Q (.bl (bs.all id)) H):=by
 intro pins s σ H xs us Q I r h;obtain⟨p,bs,rfl,hq,q⟩:=h;obtain⟨u,rfl,rx⟩:=ziW r;cases rx;obtain⟨its,r',pl,hz⟩:=I.list hq;have hlen:bs.length=its.length:=by have:=r'.length;rw [List.length_map]at this;exact this
 have hp:p<s.heap.objs.size:=by obtain⟨o,n,e,_⟩:=pl;exact Heap.lt_size e
 have hd:X.A.in1.handled=none:=I.ok.hd hc;have get:∀(i:Nat) (v:Value),its.toArray[i]? =some v→v= .bool (bs.getD i false):=fun i v e=>by
  have e':its[i]? =some v:=by simpa using e
  have hi:i<bs.length:=by rw [hlen];exact(List.getElem?_eq_some_iff.mp e').1
  obtain⟨u,hu,ru⟩:=r'.get (i:=i) (x:= .bl (bs.getD i false)) (by rw [List.getElem?_map,List.getElem?_eq_getElem hi,List.getD_eq_getElem?_getD,List.getElem?_eq_getElem hi];rfl);rw [e']at hu;cases hu;exact ru
 refine call_all_walk (wpAny_pyIter_list pl.isList ?_);refine⟨s.heap.objs.size,_,_,_,_,_,fun i=>bs.getD i false,rfl,Walks.list hd _ p (Nat.ne_of_lt hp) its.toArray,⟨⟨_,Heap.get?_push_size _ rfl,rfl,rfl⟩,pl.isList.push _⟩,fun i v s' Q' E' hP hQ=>?_,fun h' tk hk=>?_⟩
 ·rw [get i v hP];exact wpAny_truthy_bool hQ
 ·have e:(List.range its.toArray.size).all (fun i=>bs.getD i false)=bs.all id:=by
   rw [List.size_toArray,←hlen];have:bs=(List.range bs.length).map fun i=>bs.getD i false:=by
    apply List.ext_getElem?;intro i;rw [List.getElem?_map];by_cases hi:i<bs.length
    ·rw [List.getElem?_range hi,List.getElem?_eq_getElem hi];show some bs[i]=some (bs.getD i false);rw [List.getD_eq_getElem?_getD,List.getElem?_eq_getElem hi];rfl
    ·rw [List.getElem?_eq_none (by omega),List.getElem?_eq_none (by simpa using hi)];rfl
   conv=>rhs;rw [this]
   rw [List.all_map];rfl
  have I1:Inv X pins σ H { s with heap:=h',toks:=tk }:=I.kept fun b o e=>hk b o (fun z=>by
   have z':b=s.heap.objs.size:=by simpa using z
   rw [z']at e;exact absurd (Heap.lt_size e) (Nat.lt_irrefl _)) (Heap.get?_push_of_some _ e)
  exact⟨.bl _,H,I1,by rw [e];exact rfl,q⟩
theorem zpp:CallR X (.builtin "isinstance") (fun xs H Q=>∃x t c b,xs=[x, .ty c]∧TyOf X.K H x t∧PySem.W.kitOne X.K t (.type c)=some b∧Q (.bl b) H):=by
 intro pins s σ H xs us Q I r h;obtain⟨x,t,c,b,rfl,ty,e,q⟩:=h;obtain⟨u,v,rfl,rx,ry⟩:=zwc r;cases(show v=Value.type c from ry);exact znV I rx ty e fun tk=>⟨.bl b,H,I.tok _,rfl,q⟩
end
section
variable {X:Cx}
theorem zdG (l:Addr) (items:Array Value) (n:Nat) (b:Addr) (items2:Array Value) (n2:Nat) (dd:Option Addr) (sl:Array (Option Value)) (hs0:¬(!items.isEmpty&&Builtin.List.listTooLong (items.size+items2.size))=true) (hs1:items.size≤sizeLine) (hs2:items.size+items2.size≤sizeLine+1) :
  Meets (Builtin.«list.extend» ⟨[.ref l, .ref b],[]⟩) (fun _ R s=>s.heap.get? l=some { cls:= .type "list",dict:=none,data:= .seq items n,slots:= #[] }∧s.heap.get? b=some { cls:= .type "tuple",dict:=dd,data:= .seq items2 n2,slots:=sl }∧R (.ok (.ret Value.none)) { s with heap:=s.heap.update l (Obj.mapSeq fun x=>x++items2),toks:=s.toks }):=
 .of_wp fun prog w A R s h=>by
  obtain⟨hp,g,d,tk,os⟩:=s;obtain⟨hl,hb,h⟩:=h;have f1:=AutoSeq1.idx_int;have f2:=AutoSeq1.sub_tuple_tuple;have f3:=AutoSeq1.sub_list_list;have f4:=AutoSeq1.sub_tuple_list;have f5:=AutoSeq1.sub_list_tuple;have hz':(items++items2).size≤sizeLine+1:=by rw [Array.size_append];exact hs2
  wp_walk using(wpAny_updateSeq hl rfl (hz:=hs1) (_hz':=hz')),AutoSeq1.wpAny_loadPart' hl,AutoSeq1.wpAny_loadPart' hb;exact⟨_,rfl,h⟩
noncomputable def zkc (K:PySem.W.Frag):V→List V→Hp→VK→Prop:=fun x vs H Q=>∃l b xs zs,x= .ref l∧vs=[.ref b]∧H l=some (.lst xs)∧SqT K H b zs∧xs.length+zs.length≤sizeLine∧Q .non (upd H l (.lst (xs++zs)))
theorem zlu:MtM X "list.extend" (zkc X.K):=by
 intro pins s σ H x vs v us Q I rx rv h;obtain⟨l,b,xs,zs,rfl,rfl,hH,hB,hz,q⟩:=h;cases rx;obtain⟨u,rfl,ru⟩:=rv.one;cases ru;obtain⟨z,its,n,r,hl,e⟩:=I.lstM hH;obtain⟨its2,r2,ht,hz2⟩:=I.tuple hB;obtain⟨⟨cls,dd,data,sl⟩,e2,hc,n2,hd⟩:=ht;simp only at hc hd;subst hc hd;have hl2:=r2.length;have hsz:its.toArray.size+its2.toArray.size≤sizeLine:=by rw [List.size_toArray,List.size_toArray];omega
 have hlong:¬(!its.toArray.isEmpty&&Builtin.List.listTooLong (its.toArray.size+its2.toArray.size))=true:=by
  rw [zke hsz,Bool.and_false];exact Bool.false_ne_true
 refine call_meets F.slot_list_extend ⟨_,e,rfl⟩ F.entry_list_extend (F.args_list_extend_2 _ _)
  (zdG l its.toArray n b its2.toArray n2 dd sl hlong (by rw [List.size_toArray];omega) (by omega)) ⟨e,e2,?_⟩
 refine⟨.non,_,I.lset (its':=its++its2) hH e (by simp) (r.append r2) ?_,rfl,q⟩;rw [List.length_append];omega
noncomputable def zsX (K:PySem.W.Frag):V→List V→Hp→VK→Prop:=fun x vs H Q=>∃(z:Str) (b:Addr) (ys:List Str),x= .str z∧vs=[.ref b]∧SqL K H b (ys.map V.str)∧(ys.map (·.length)).sum+ys.length*z.length≤16777216∧Q (.str (Str.join z ys)) H
theorem zrN{ys:List Str}:∀{us:List Value},Vals (ys.map V.str) us→StrsAre us ys:=by
 induction ys with
 |nil=>
  intro us r;cases r;exact .nil
 |cons y ys ih=>
  intro us r;cases r with
  |cons a b=>
   obtain⟨t,rfl⟩:=a;exact .cons y t (ih b)
theorem zqD:MtM X "str.join" (zsX X.K):=by
 intro pins s σ H x vs v us Q I rx rv h;obtain⟨z,b,ys,rfl,rfl,hB,hz,q⟩:=h;obtain⟨t,rfl⟩:=rx;obtain⟨u,rfl,ru⟩:=rv.one;cases ru;obtain⟨its,r,pl,_⟩:=I.list hB;refine join_list pl.isList (by simpa using zrN r) hz fun t' k=>⟨.str (Str.join z ys),H,I.tok _,⟨t',?_⟩,q⟩;show Value.str (Builtin.Str.glued z ys) t'=_;rw [StrLaws.glued_eq_join]
end
theorem zeL:fillsNumberSlot (.type "tuple") "mul" =pure false:=
 PySem.fillsNumberSlot_seq (id:= "tuple.__mul__") (r:=some (.builtin "tuple.__rmul__")) F.slot_tuple_mul.lookup (by decide +kernel) F.slot_tuple_rmul.lookup (by decide +kernel)
theorem zhY:seqRepeat? (.type "tuple")=pure (some (.builtin "tuple.__mul__")):=by
 unfold seqRepeat?;rw [PySem.seqSlot_of (T:= "tuple") (name:= "__mul__") (id:= "tuple.__mul__") F.slot_tuple_mul.lookup (by decide +kernel),PySem.seqSlot_of (T:= "tuple") (name:= "__rmul__") (id:= "tuple.__rmul__") F.slot_tuple_rmul.lookup (by decide +kernel)];rfl
theorem zlz (a:Int) (t:Tok) (l:Addr) (items:Array Value) (n:Nat) (dd:Option Addr) (sl:Array (Option Value)) :
  Meets (Builtin.«int.__rmul__» ⟨[.int a t, .ref l],[]⟩) (fun _ R s=>s.heap.get? l=some { cls:= .type "tuple",dict:=dd,data:= .seq items n,slots:=sl }∧R (.ok (.ret Value.notImplemented)) s):=
 .of_wp fun prog w A R s h=>by obtain⟨hp,g,d,tk,os⟩:=s;obtain⟨hl,h⟩:=h;wp_walk;exact⟨_,rfl,h⟩
theorem zhi (l:Addr) (items:Array Value) (n:Nat) (dd:Option Addr) (sl:Array (Option Value)) (u:Tok) :
  Meets (Builtin.«tuple.__mul__» ⟨[.ref l, .int 1 u],[]⟩) (fun _ R s=>s.heap.get? l=some { cls:= .type "tuple",dict:=dd,data:= .seq items n,slots:=sl }∧R (.ok (.ret (.ref l))) s):=
 .of_wp fun prog w A R s h=>by
  obtain⟨hp,g,d,tk,os⟩:=s;obtain⟨hl,h⟩:=h;have f1:=AutoSeq1.idx_int;have f2:=AutoSeq1.sub_tuple_tuple
  wp_walk using AutoSeq1.wpAny_loadPart' hl
  exact⟨_,rfl,h⟩
theorem zgR (l:Addr) (items:Array Value) (n:Nat) (dd:Option Addr) (sl:Array (Option Value)) (x:Int) (u:Tok) (h0:x≤0) (h1: -(2 ^ 63)≤x) (hne:items.isEmpty=false) :
  Meets (Builtin.«tuple.__mul__» ⟨[.ref l, .int x u],[]⟩) (fun _ R s=>s.heap.get? l=some { cls:= .type "tuple",dict:=dd,data:= .seq items n,slots:=sl }∧R (.ok (.ret (.ref s.heap.objs.size))) { s with heap:=s.heap.push { cls:= .type "tuple",data:= .seq #[] } }):=
 .of_wp fun prog w A R s h=>by
  obtain⟨hp,g,d,tk,os⟩:=s;obtain⟨hl,h⟩:=h;have f1:=AutoSeq1.idx_int;have f2:=AutoSeq1.sub_tuple_tuple;have c1:(decide (x< -2 ^ 63) || decide (x≥2 ^ 63))=false:=by
   rw [decide_eq_false (by omega),decide_eq_false (by omega)];rfl
  have c2:(items.isEmpty || x == 1)=false:=by
   rw [hne,beq_false_of_ne (by omega)];rfl
  have c3:(decide (x≤0) || items.isEmpty)=true:=by rw [decide_eq_true h0];rfl
  wp_walk using AutoSeq1.wpAny_loadPart' hl
  refine wpAny_ite_split (fun z=>absurd z (Bool.eq_false_iff.mp c1)) fun _=>?_
  wp_walk using AutoSeq1.wpAny_loadPart' hl
  refine wpAny_ite_split (fun z=>absurd z (Bool.eq_false_iff.mp c2)) fun _=>?_;refine wpAny_ite_split (fun _=>?_) (fun z=>absurd c3 z)
  wp_walk using AutoSeq1.wpAny_loadPart' hl
  exact⟨_,rfl,h⟩
theorem zgg (l:Addr) (items:Array Value) (n:Nat) (dd:Option Addr) (sl:Array (Option Value)) (x:Int) (u:Tok) (h0:2≤x) (h1:x<2 ^ 63) (hne:items.isEmpty=false) (hz:items.size*x.toNat≤sizeLine) :
  Meets (Builtin.«tuple.__mul__» ⟨[.ref l, .int x u],[]⟩) (fun _ R s=>s.heap.get? l=some { cls:= .type "tuple",dict:=dd,data:= .seq items n,slots:=sl }∧R (.ok (.ret (.ref s.heap.objs.size))) { s with heap:=s.heap.push { cls:= .type "tuple",data:= .seq (List.foldl (fun x1 x2=>x1++x2) #[] (List.replicate x.toNat items)) } }):=
 .of_wp fun prog w A R s h=>by
  obtain⟨hp,g,d,tk,os⟩:=s;obtain⟨hl,h⟩:=h;have f1:=AutoSeq1.idx_int;have f2:=AutoSeq1.sub_tuple_tuple;have hx:((x.toNat:Nat):Int)=x:=by omega
  have hzi:(items.size:Int)*x≤16777216:=by
   have:((items.size*x.toNat:Nat):Int)≤(sizeLine:Nat):=by exact_mod_cast hz
   rw [Int.natCast_mul,hx]at this;exact this
  have c1:(decide (x< -2 ^ 63) || decide (x≥2 ^ 63))=false:=by
   rw [decide_eq_false (by omega),decide_eq_false (by omega)];rfl
  have c2:(items.isEmpty || x == 1)=false:=by
   rw [hne,beq_false_of_ne (by omega)];rfl
  have c3:(decide (x≤0) || items.isEmpty)=false:=by rw [hne,decide_eq_false (by omega)];rfl
  have c4:¬(items.size:Int)*x > (2 ^ 63 - 1) / 8:=by omega
  have c5:Builtin.Tuple.tupleTooMany ((items.size:Int)*x)=false:=decide_eq_false (by
   have:((sizeLine:Nat):Int)=16777216:=by decide
   omega)
  have hsz:(List.foldl (fun x1 x2=>x1++x2) #[] (List.replicate x.toNat items)).size≤sizeLine:=by
   rw [AutoSeq1.size_joined];simp;rw [Nat.mul_comm];exact hz
  wp_walk using AutoSeq1.wpAny_loadPart' hl
  refine wpAny_ite_split (fun z=>absurd z (Bool.eq_false_iff.mp c1)) fun _=>?_
  wp_walk using AutoSeq1.wpAny_loadPart' hl
  refine wpAny_ite_split (fun z=>absurd z (Bool.eq_false_iff.mp c2)) fun _=>?_;refine wpAny_ite_split (fun z=>absurd z (Bool.eq_false_iff.mp c3)) fun _=>?_;refine wpAny_ite_split (fun z=>absurd z c4) fun _=>?_;refine wpAny_ite_split (fun z=>absurd z (Bool.eq_false_iff.mp c5)) fun _=>?_
  wp_walk using AutoSeq1.wpAny_loadPart' hl
  exact⟨_,rfl,h⟩
section
variable {X:Cx}
noncomputable def zuj (K:PySem.W.Frag):R2:=fun x y H Q=>∃a k xs,x= .ref a∧y= .int k∧SqT K H a xs∧xs≠ []∧ -(2 ^ 63)≤k∧k<2 ^ 63∧xs.length*k.toNat≤sizeLine∧
 (k=1→Q (.ref a) H)∧(k≠1→ ∀p,H p=none→Q (.ref p) (upd H p (.tup (List.replicate k.toNat xs).flatten)))
theorem zri:OpR X (binaryOp .Mult) (zuj X.K):=by
 intro pins s σ H x y v u Q I rx ry h;obtain⟨a,k,xs,rfl,rfl,ha,hne,h1,h2,hz,q1,q2⟩:=h;cases rx;obtain⟨t,rfl⟩:=ry;obtain⟨its,r,ht,hz0⟩:=I.tuple ha;have hlen:=r.length;have ty:=ht.typeIs;obtain⟨⟨cls,dd,data,sl⟩,e,hc,n,hd⟩:=ht;simp only at hc hd;subst hc hd;have hemp:its.toArray.isEmpty=false:=by
  cases its with
  |nil=>
   have:xs=[]:=List.eq_nil_of_length_eq_zero (by rw [hlen];rfl);exact absurd this hne
  |cons b bs=>rfl
 have fin:∀{its':List Value}{ys:List V},Vals ys its'→ys.length≤sizeLine→(∀p,H p=none→Q (.ref p) (upd H p (.tup ys)))→EP X pins σ Q (.ref s.heap.objs.size) { s with heap:=s.heap.push { cls:= .type "tuple",data:= .seq its'.toArray } }:=fun {its' ys} rv hl q=>
  ⟨.ref s.heap.objs.size,_,I.laid (t':=s.toks) (o:= .tup ys) (fun b ob q=>Heap.get?_push_of_some _ q) (Nat.le_refl _) ⟨hl,_,rv,IsTup.new _ _⟩,rfl,q _ (I.hok.fresh (Nat.le_refl _))⟩
 refine wpAny_binaryOp_repeat_ref (T:= "tuple") (U:= "int") (by decide) ty (fun s'=>typeIs_int s' k t) zeL F.fills_int_mul F.slot_int_rmul zhY F.slot_int_index.lookup
  (call_meets F.slot_int_rmul (typeIs_int s k t) F.entry_int_rmul (F.args_int_rmul_2 _ _) (zlz k t a its.toArray n dd sl) ⟨e,rfl,ty,?_⟩)
 by_cases hk:k=1
 ·subst hk;exact call_meets F.slot_tuple_mul ty F.entry_tuple_mul (F.args_tuple_mul_2 _ _) (zhi a its.toArray n dd sl t) ⟨e, .ref a,H,I,rfl,q1 rfl⟩
 ·by_cases h0:k≤0
  ·refine call_meets F.slot_tuple_mul ty F.entry_tuple_mul (F.args_tuple_mul_2 _ _) (zgR a its.toArray n dd sl k t h0 h1 hemp) ⟨e,?_⟩;have z:k.toNat=0:=by omega
   have q2':=q2 hk;rw [z]at q2';exact fin (its':=[]) (ys:=[]) .nil (Nat.zero_le _) q2'
  ·refine call_meets F.slot_tuple_mul ty F.entry_tuple_mul (F.args_tuple_mul_2 _ _) (zgg a its.toArray n dd sl k t (by omega) h2 hemp (by rw [List.size_toArray,←hlen];exact hz)) ⟨e,?_⟩;have hf:=zhK its k.toNat [];rw [List.nil_append]at hf;have hf':List.foldl (fun x1 x2=>x1++x2) #[] (List.replicate k.toNat its.toArray)=(List.replicate k.toNat its).flatten.toArray:=hf;rw [hf'];exact fin (r.rep k.toNat) (by rw [zqF,Nat.mul_comm];exact hz) (q2 hk)
end
inductive W where
  |non |bl (b:Bool) |int (i:Int) |str (x:Str) |tup (ws:List W) |ref (a:Addr) |scr (ns:List Int)
inductive Ob where
  |lst (ws:List W)
  |dct (kvs:List (List Int×W))
  |ins (C:Addr) (fs:List (Str×W))
noncomputable abbrev Sto:=Addr→Option Ob
noncomputable def put (S:Sto) (a:Addr) (o:Ob):Sto:=fun b=>if b=a then some o else S b
noncomputable def FzL (K:PySem.W.Frag) (H:Hp) (a:Addr) (xs:List V):Prop:=
 (∃o,H a=some (.frz o (.lst xs)))∨
  ∃(o:Obj) (its:Array Value) (n:Nat),K.lookup a=some o∧o.cls= .type "list" ∧o.dict=none∧o.data= .seq its n∧its.size≤sizeLine∧Vals xs its.toList
mutual
inductive Rep (K:PySem.W.Frag) (H:Hp):W→V→Prop
 |non:Rep K H .non .non
 |bl (b:Bool):Rep K H (.bl b) (.bl b)
 |int (i:Int):Rep K H (.int i) (.int i)
 |str (x:Str):Rep K H (.str x) (.str x)
 |ref (a:Addr):Rep K H (.ref a) (.ref a)
 |scr {a:Addr}{ns:List Int}:FzL K H a (ns.map V.int)→Rep K H (.scr ns) (.ref a)
 |tup {a:Addr}{vs:List V}{ws:List W}:H a=some (.tup vs)→Reps K H ws vs→Rep K H (.tup ws) (.ref a)
inductive Reps (K:PySem.W.Frag) (H:Hp):List W→List V→Prop
 |nil:Reps K H [] []
 |cons {w:W}{v:V}{ws:List W}{vs:List V}:Rep K H w v→Reps K H ws vs→Reps K H (w::ws) (v::vs)
end
structure Ext (H:Hp) (S:Sto) (H':Hp) (S':Sto):Prop where
  tup:∀b xs,H b=some (.tup xs)→H' b=some (.tup xs)
  frz:∀b o u,H b=some (.frz o u)→H' b=some (.frz o u)
  fr:∀b xs,H b=some (.lst xs)→S b=none→H' b=some (.lst xs)∧S' b=none
  all:∀b o,H b=some o→ ∃o',H' b=some o'
noncomputable def Sub (S S':Sto):Prop:=∀a o,S a=some o→S' a=some o
section
variable {K:PySem.W.Frag}{H H' H1 H2:Hp}{S S' S1 S2:Sto}
theorem zah{a:Addr}{o:Ob}:put S a o a=some o:=by unfold put;rw [if_pos rfl]
theorem zaE{a b:Addr}{o:Ob}(h:b≠a):put S a o b=S b:=by unfold put;rw [if_neg h]
theorem zbT{a:Addr}{o o':Ob}:put (put S a o) a o'=put S a o':=by funext b;unfold put;split<;>rfl
theorem Ext.refl:Ext H S H S:=⟨fun _ _ h=>h,fun _ _ _ h=>h,fun _ _ h g=>⟨h,g⟩,fun _ o h=>⟨o,h⟩⟩
theorem Ext.trans (a:Ext H S H1 S1) (b:Ext H1 S1 H2 S2):Ext H S H2 S2:=⟨fun c xs h=>b.tup c xs (a.tup c xs h),fun c o u h=>b.frz c o u (a.frz c o u h),
 fun c o h g=>by
  obtain⟨h1,g1⟩:=a.fr c o h g;exact b.fr c o h1 g1,fun c o h=>by
  obtain⟨o1,h1⟩:=a.all c o h;exact b.all c o1 h1⟩
theorem Ext.new{p:Addr}{o:HO}(h:H p=none):Ext H S (upd H p o) S:=
  ⟨fun b xs e=>by rw [zaq (zan e h)];exact e,fun b ob u e=>by rw [zaq (zan e h)];exact e,
   fun b ob e g=>⟨by rw [zaq (zan e h)];exact e,g⟩,fun b ob e=>⟨ob,by rw [zaq (zan e h)];exact e⟩⟩
theorem Ext.newS{p:Addr}{o:HO}{ob:Ob}(h:H p=none):Ext H S (upd H p o) (put S p ob):=
  ⟨fun b xs e=>by rw [zaq (zan e h)];exact e,fun b ob u e=>by rw [zaq (zan e h)];exact e,
   fun b ob e g=>⟨by rw [zaq (zan e h)];exact e,by rw [zaE (zan e h)];exact g⟩,fun b ob e=>⟨ob,by rw [zaq (zan e h)];exact e⟩⟩
theorem Ext.mut{p:Addr}{o u:HO}{ob ob0:Ob}(h:H p=some u) (hs:S p=some ob0) (ht:∀xs,u≠ .tup xs) (hf:∀ob q,u≠ .frz ob q):Ext H S (upd H p o) (put S p ob):=
  ⟨fun b xs e=>by rw [zaq (zoe e h fun z=>ht xs z.symm)];exact e,fun b ob q e=>by rw [zaq (zoe e h fun z=>hf ob q z.symm)];exact e,
   fun b ob e g=>by
     have hb:b≠p:=by rintro rfl;rw [hs]at g;cases g
     exact⟨by rw [zaq hb];exact e,by rw [zaE hb];exact g⟩,fun b ob e=>by
     by_cases hb:b=p
     · subst hb;exact⟨o,zat⟩
     · exact⟨ob,by rw [zaq hb];exact e⟩⟩
theorem Ext.lst{p:Addr}{o:HO}{ob ob0:Ob}{xs:List V}(h:H p=some (.lst xs)) (hs:S p=some ob0):Ext H S (upd H p o) (put S p ob):= .mut h hs (fun _ z=>nomatch z) fun _ _ z=>nomatch z
theorem Ext.drop (h:Sub S' S):Ext H S H S':=⟨fun _ _ h=>h,fun _ _ _ h=>h,fun b o e g=>⟨e,by
 cases q:S' b with
 |none=>rfl
 |some z=>rw [h b z q]at g;cases g⟩,fun _ o h=>⟨o,h⟩⟩
theorem Ext.free (e:Ext H S H' S') {p:Addr}(h:H' p=none):H p=none:=by
 cases q:H p with
 |none=>rfl
 |some o=>obtain⟨o',z⟩:=e.all p o q;rw [h]at z;cases z
theorem Ext.fz{a:Addr}{xs:List V}(e:Ext H S H' S') (h:FzL K H a xs):FzL K H' a xs:=by
 rcases h with⟨o,h⟩ |h
 ·exact .inl ⟨o,e.frz _ _ _ h⟩
 ·exact .inr h
theorem FzL.sq{a:Addr}{xs:List V}(h:FzL K H a xs):SqL K H a xs:=by
 rcases h with⟨o,h⟩ |h
 ·exact .inl (.inr ⟨o,h⟩)
 ·exact .inr h
mutual
theorem Rep.ext (e:Ext H S H' S') {w:W}{v:V}:Rep K H w v→Rep K H' w v
 | .non=> .non
 | .bl b=> .bl b
 | .int i=> .int i
 | .str x=> .str x
 | .ref a=> .ref a
 | .scr h=> .scr (e.fz h)
 | .tup h hs=> .tup (e.tup _ _ h) (Reps.ext e hs)
theorem Reps.ext (e:Ext H S H' S') {ws:List W}{vs:List V}:Reps K H ws vs→Reps K H' ws vs
 | .nil=> .nil
 | .cons h hs=> .cons (Rep.ext e h) (Reps.ext e hs)
end
theorem Reps.length:∀{ws:List W}{vs:List V},Reps K H ws vs→ws.length=vs.length
 |_,_, .nil=>rfl
 |_,_, .cons _ hs=>congrArg (· +1) (Reps.length hs)
theorem Reps.get:∀{ws:List W}{vs:List V}{i:Nat}{w:W},Reps K H ws vs→ws[i]? =some w→ ∃v,vs[i]? =some v∧Rep K H w v
 |_,_,_,_, .nil,e=>by simp at e
 |_,_,0,_, .cons h _,e=>by simp at e;subst e;exact⟨_,rfl,h⟩
 |_,_,i+1,w, .cons _ hs,e=>by
  obtain⟨v,h1,h2⟩:=Reps.get (i:=i) (w:=w) hs (by simpa using e);exact⟨v,by simpa using h1,h2⟩
theorem Reps.append:∀{ws us:List W}{vs xs:List V},Reps K H ws vs→Reps K H us xs→Reps K H (ws++us) (vs++xs)
 |_,_,_,_, .nil,h=>h
 |_,_,_,_, .cons r t,h=> .cons r (Reps.append t h)
theorem Reps.take:∀{ws:List W}{vs:List V}(n:Nat),Reps K H ws vs→Reps K H (ws.take n) (vs.take n)
 |_,_,0,_=> .nil
 |_,_,_+1, .nil=> .nil
 |_,_,n+1, .cons r t=> .cons r (Reps.take n t)
theorem Reps.drop:∀{ws:List W}{vs:List V}(n:Nat),Reps K H ws vs→Reps K H (ws.drop n) (vs.drop n)
 |_,_,0,r=>r
 |_,_,_+1, .nil=> .nil
 |_,_,n+1, .cons _ t=>Reps.drop n t
theorem Reps.one{w:W}{v:V}(h:Rep K H w v):Reps K H [w] [v]:= .cons h .nil
theorem Reps.ofInts:∀(ns:List Int),Reps K H (ns.map W.int) (ns.map V.int)
 | []=> .nil
 |n::ns=> .cons (.int n) (Reps.ofInts ns)
end
noncomputable def RepO (K:PySem.W.Frag) (H:Hp) (a:Addr):Ob→Prop
 | .lst ws=>∃vs,H a=some (.lst vs)∧Reps K H ws vs
 | .dct kvs=>∃ps:List (List Key×V),H a=some (.dT ps)∧Paired (fun q p=>p.1=q.1.map Sum.inl∧Rep K H q.2 p.2) kvs ps
 | .ins C fs=>False
noncomputable def RepS (K:PySem.W.Frag) (H:Hp) (S:Sto):Prop:=∀a o,S a=some o→RepO K H a o
section
variable {K:PySem.W.Frag}{H H':Hp}{S S' S0 S0':Sto}{a b p:Addr}{o:Ob}
theorem Sub.refl:Sub S S:=fun _ _ h=>h
theorem Sub.trans{S1 S2 S3:Sto}(h:Sub S1 S2) (g:Sub S2 S3):Sub S1 S3:=fun a o e=>g a o (h a o e)
theorem RepS.sub (h:RepS K H S') (q:Sub S S'):RepS K H S:=fun a o e=>h a o (q a o e)
theorem RepO.some (h:RepO K H a o):∃u,H a=some u:=by
 cases o with
 |lst ws=>obtain⟨vs,e,_⟩:=h;exact⟨_,e⟩
 |dct kvs=>obtain⟨vs,e,_⟩:=h;exact⟨_,e⟩
 |ins C fs=>exact h.elim
theorem RepS.free (h:RepS K H S) (e:H p=none):S p=none:=by
 cases q:S p with
 |none=>rfl
 |some o=>obtain⟨u,z⟩:=(h p o q).some;rw [e]at z;cases z
theorem RepO.keep (e:Ext H S0 H' S0') (k:∀u,H a=Option.some u→H' a=Option.some u) (h:RepO K H a o):RepO K H' a o:=by
 cases o with
 |lst ws=>obtain⟨vs,e1,r⟩:=h;exact⟨vs,k _ e1,r.ext e⟩
 |dct kvs=>obtain⟨vs,e1,r⟩:=h;exact⟨vs,k _ e1,Paired.mapP r fun _ _ z=>⟨z.1,z.2.ext e⟩⟩
 |ins C fs=>exact h.elim
theorem RepS.new{u:HO}(h:RepS K H S) (e:H p=none):RepS K (upd H p u) S:=fun a o q=>
 (h a o q).keep (.new (S:=S) e) fun v z=>by rw [zaq (zan z e)];exact z
theorem RepS.put_lst{ws:List W}{vs:List V}(h:RepS K H S) (e:H p=none) (r:Reps K (upd H p (.lst vs)) ws vs):RepS K (upd H p (.lst vs)) (put S p (.lst ws)):=fun a o q=>by
 by_cases ha:a=p
 ·subst ha;rw [zah]at q;cases q;exact⟨vs,zat,r⟩
 ·rw [zaE ha]at q;exact h.new e a o q
theorem RepS.set_lst{ws0 ws:List W}{vs:List V}(h:RepS K H S) (e:S a=some (.lst ws0)) (r:Reps K H ws vs):Ext H S (upd H a (.lst vs)) (put S a (.lst ws))∧RepS K (upd H a (.lst vs)) (put S a (.lst ws)):=by
 obtain⟨vs0,e0,_⟩:=h a _ e;have x:Ext H S (upd H a (.lst vs)) (put S a (.lst ws)):= .lst e0 e;refine⟨x,fun b o q=>?_⟩;by_cases hb:b=a
 ·subst hb;rw [zah]at q;cases q;exact⟨vs,zat,r.ext x⟩
 ·rw [zaE hb]at q;exact(h b o q).keep x fun u z=>by rw [zaq hb];exact z
end
noncomputable abbrev WSt:=List (Option W)
noncomputable abbrev WK:=W→Sto→Prop
noncomputable abbrev WX:=Str→WSt→Sto→Prop
noncomputable abbrev WE:=WX→WSt→Sto→WK→Prop
noncomputable abbrev WT:=WX→WSt→Sto→(Bool→Sto→Prop)→Prop
noncomputable abbrev WA:=WX→WSt→Sto→(List W→Sto→Prop)→Prop
structure WEnds where
  nx:WSt→Sto→Prop
  rt:WK
  bk:WSt→Sto→Prop:=fun _ _=>False
  ct:WSt→Sto→Prop:=fun _ _=>False
noncomputable abbrev WS:=WX→WEnds→WSt→Sto→Prop
noncomputable abbrev WG:=W→WSt→Sto→(WSt→Sto→Prop)→Prop
noncomputable abbrev WSp:=List W→Sto→WK→(Str→Sto→Prop)→Prop
noncomputable abbrev WI:=WX→WSt→Sto→(List W→(Sto→Prop)→Sto→Prop)→Prop
noncomputable abbrev WL:=WX→WSt→Sto→(List W→Sto→Prop)→Prop
noncomputable def RpO (K:PySem.W.Frag) (H:Hp):Option W→Option V→Prop
 |none,_=>True
 |some w,some v=>Rep K H w v
 |some _,none=>False
noncomputable def RpSt (K:PySem.W.Frag) (H:Hp) (σW:WSt) (σ:St):Prop:=Paired (RpO K H) σW σ
section
variable {K:PySem.W.Frag}{H H':Hp}{S S':Sto}
theorem RpO.ext (e:Ext H S H' S'):∀{w:Option W}{v:Option V},RpO K H w v→RpO K H' w v
 |none,_,_=>trivial
 |some _,some _,h=>Rep.ext e h
 |some _,none,h=>h.elim
theorem RpSt.ext (e:Ext H S H' S') {σW:WSt}{σ:St}(h:RpSt K H σW σ):RpSt K H' σW σ:=Paired.mapP h fun _ _ r=>RpO.ext e r
theorem RpSt.get:∀{σW:WSt}{σ:St}{i:Nat}{w:W},RpSt K H σW σ→σW[i]? =some (some w)→ ∃v,σ[i]? =some (some v)∧Rep K H w v
 |_,_,_,_, .nil,e=>by simp at e
 |_,_,0,_, .cons (b:=b) h _,e=>by
  simp at e;subst e;cases b with
  |none=>exact(show False from h).elim
  |some v=>exact⟨v,rfl,h⟩
 |_,_,i+1,w, .cons _ hs,e=>by
  obtain⟨v,h1,h2⟩:=RpSt.get (i:=i) (w:=w) hs (by simpa using e);exact⟨v,by simpa using h1,h2⟩
theorem RpSt.set{w:W}{v:V}(h:Rep K H w v):∀{σW:WSt}{σ:St}(i:Nat),RpSt K H σW σ→RpSt K H (σW.set i (some w)) (σ.set i (some v))
 |_,_,_, .nil=> .nil
 |_,_,0, .cons _ t=> .cons h t
 |_,_,i+1, .cons q t=> .cons q (RpSt.set h i t)
end
noncomputable def Wish (K:PySem.W.Frag) (H:Hp) (S:Sto) (QW:WK) (Q:VK):Prop:=∀w S' v H',Ext H S H' S'→Rep K H' w v→RepS K H' S'→QW w S'→Q v H'
noncomputable def zvf (K:PySem.W.Frag) (t:WSt→Sto→WK→Prop):TE:=fun σ H Q=>∃σW S QW,RpSt K H σW σ∧RepS K H S∧t σW S QW∧Wish K H S QW Q
noncomputable def zrj (K:PySem.W.Frag) (t:WSt→Sto→(Bool→Sto→Prop)→Prop):TT:=fun σ H Q=>∃σW S QW,RpSt K H σW σ∧RepS K H S∧t σW S QW∧ ∀b S' H',Ext H S H' S'→RepS K H' S'→QW b S'→Q b H'
noncomputable def zwr (K:PySem.W.Frag) (t:WSt→Sto→(List W→Sto→Prop)→Prop):TA:=fun σ H Q=>∃σW S QW,RpSt K H σW σ∧RepS K H S∧t σW S QW∧ ∀ws S' vs H',Ext H S H' S'→Reps K H' ws vs→RepS K H' S'→QW ws S'→Q vs H'
noncomputable def Goes (K:PySem.W.Frag) (H:Hp) (S:Sto) (P:WSt→Sto→Prop) (Q:St→Hp→Prop):Prop:=∀σW S' σ H',Ext H S H' S'→RpSt K H' σW σ→RepS K H' S'→P σW S'→Q σ H'
structure Meets (K:PySem.W.Frag) (H:Hp) (S:Sto) (DW:WEnds) (D:Ends):Prop where
  nx:Goes K H S DW.nx D.nx
  rt:Wish K H S DW.rt D.rt
  bk:Goes K H S DW.bk D.bk
  ct:Goes K H S DW.ct D.ct
noncomputable def zuY (K:PySem.W.Frag) (t:WEnds→WSt→Sto→Prop):TS:=fun D σ H=>∃σW S DW,RpSt K H σW σ∧RepS K H S∧t DW σW S∧Meets K H S DW D
noncomputable def zvK (K:PySem.W.Frag) (t:WG):TG:=fun v σ H Q=>∃w σW S P,Rep K H w v∧RpSt K H σW σ∧RepS K H S∧t w σW S P∧Goes K H S P Q
noncomputable def ItW (K:PySem.W.Frag) (J:It) (ws:List W) (G:Sto→Prop) (H0:Hp) (S0:Sto):Prop:=∀i S H,Ext H0 S0 H S→RepS K H S→G S→
 (∀w,ws[i]? =some w→J.go i H∧ ∀x H',J.yld i H x H'→Ext H S H' S∧RepS K H' S∧Rep K H' w x)∧(i=ws.length→J.stop i H)
noncomputable def zug (K:PySem.W.Frag) (t:WSt→Sto→(List W→(Sto→Prop)→Sto→Prop)→Prop):TI:=fun σ H R=>∃σW S QW,RpSt K H σW σ∧RepS K H S∧t σW S QW∧
 ∀ws G S' J H',Ext H S H' S'→RepS K H' S'→G S'→ItW K J ws G H' S'→QW ws G S'→R J H'
noncomputable def ztp (K:PySem.W.Frag) (t:WSt→Sto→(List W→Sto→Prop)→Prop):TE:=fun σ H Q=>∃σW S QW,RpSt K H σW σ∧RepS K H S∧t σW S QW∧
 ∀ws S' vs a H',Ext H S H' S'→H a=none→H' a=some (.lst vs)→S' a=none→Reps K H' ws vs→RepS K H' S'→QW ws S'→Q (.ref a) H'
noncomputable def zbI (K:PySem.W.Frag) (sp:WSp):Sp:=fun vs H Q E=>∃ws S QW EW,Reps K H ws vs∧RepS K H S∧sp ws S QW EW∧Wish K H S QW Q∧
 ∀cl C S' H',PySem.W.nsIn K mainGlobals cl=some (some (.ref C))→RepS K H' S'→EW cl S'→E (.ref C) none H'
noncomputable def Fly (g h:Heap) (H:Hp) (a C:Addr):Prop:=g.get? a=none∧H a=none∧ ∃oe vs T oT ts,h.get? a=some oe∧oe.cls= .ref C∧oe.data= .fields vs∧vs[1]? =some (.ref T)∧
 g.get? T=none∧H T=none∧T≠a∧h.get? T=some oT∧oT.data= .fields ts∧ts[3]? =some .none
noncomputable def CX1 (P:Program) (w:World):CXT:=fun outer H s E e s'=>∃a C H',e= .ref a∧s'.os=s.os∧AllBare s'.gens∧Un (frs outer) [] H H' s.heap s'.heap∧HOk P w H' s'.heap∧Fly s.heap s'.heap H' a C∧E (.ref C) none H'
structure Hook (X:Cx) (E:WX):Prop where
  own:PassesOwn (model X.prog X.w) X.A X.env X.xe
  far:∀(pins:List (Addr×Obj)) (σ:St) (H:Hp) (s:Shared) (σW:WSt) (cl:Str) (C a:Addr) (H':Hp) (S':Sto) (s':Shared),Inv X pins σ H s→RpSt X.K H σW σ→PySem.W.nsIn X.K mainGlobals cl=some (some (.ref C))→
    s'.os=s.os→AllBare s'.gens→Un (frs X.stack) [] H H' s.heap s'.heap→HOk X.prog X.w H' s'.heap→Fly s.heap s'.heap H' a C→RepS X.K H' S'→E cl σW S'→X.xe (.ref a) s'
  near:∀(pins:List (Addr×Obj)) (σ:St) (H:Hp) (s:Shared) (σW:WSt) (cl:Str) (C a:Addr) (S:Sto) (h':Heap) (args:List Value),Inv X pins σ H s→RpSt X.K H σW σ→PySem.W.nsIn X.K mainGlobals cl=some (some (.ref C))→
    Heap.MadeExcOf s.heap h' a (.ref C) args→RepS X.K H S→E cl σW S→X.xe (.ref a) { s with heap:=h' }
noncomputable def JE (X:Cx) (e:Expr) (t:WE):Prop:=∀E,Hook X E→PE X e (zvf X.K (t E))
noncomputable def JT (X:Cx) (e:Expr) (t:WT):Prop:=∀E,Hook X E→PT X e (zrj X.K (t E))
noncomputable def JW (X:Cx) (e:Expr) (t:WT):Prop:=∀E,Hook X E→PW X e (zrj X.K (t E))
noncomputable def JA (X:Cx) (es:List Expr) (t:WA):Prop:=∀E,Hook X E→PA X es (zwr X.K (t E))
noncomputable def JS (X:Cx) (st:Stmt) (t:WS):Prop:=∀E,Hook X E→PS X st (zuY X.K (t E))
noncomputable def JSs (X:Cx) (st:List Stmt) (t:WS):Prop:=∀E,Hook X E→PSs X st (zuY X.K (t E))
noncomputable def JG (X:Cx) (tg:Expr) (t:WG):Prop:=∀E,Hook X E→PG X tg (zvK X.K t)
noncomputable def JI (X:Cx) (tg iter:Expr) (t:WI):Prop:=∀E,Hook X E→PI X tg iter (zug X.K (t E))
noncomputable def JL (X:Cx) (e:Expr) (t:WL):Prop:=∀E,Hook X E→PE X e (ztp X.K (t E))
theorem PE.mono{X:Cx}{e:Expr}{t t':TE}(h:PE X e t) (q:∀σ H Q,t' σ H Q→t σ H Q):PE X e t':=fun pins s σ H Q I z=>h pins s σ H Q I (q σ H Q z)
theorem PT.mono{X:Cx}{e:Expr}{t t':TT}(h:PT X e t) (q:∀σ H Q,t' σ H Q→t σ H Q):PT X e t':=fun pins s σ H Q I z=>h pins s σ H Q I (q σ H Q z)
theorem PW.mono{X:Cx}{e:Expr}{t t':TT}(h:PW X e t) (q:∀σ H Q,t' σ H Q→t σ H Q):PW X e t':=fun wh pins s σ H Q I z=>h wh pins s σ H Q I (q σ H Q z)
theorem PA.mono{X:Cx}{e:List Expr}{t t':TA}(h:PA X e t) (q:∀σ H Q,t' σ H Q→t σ H Q):PA X e t':=fun pos pins s σ H Q I z=>h pos pins s σ H Q I (q σ H Q z)
theorem PS.mono{X:Cx}{e:Stmt}{t t':TS}(h:PS X e t) (q:∀D σ H,t' D σ H→t D σ H):PS X e t':=fun pins s σ H D I z=>h pins s σ H D I (q D σ H z)
theorem PSs.mono{X:Cx}{e:List Stmt}{t t':TS}(h:PSs X e t) (q:∀D σ H,t' D σ H→t D σ H):PSs X e t':=fun pins s σ H D I z=>h pins s σ H D I (q D σ H z)
theorem PG.mono{X:Cx}{e:Expr}{t t':TG}(h:PG X e t) (q:∀v σ H Q,t' v σ H Q→t v σ H Q):PG X e t':=fun pins s σ H v u Q I r z=>h pins s σ H v u Q I r (q v σ H Q z)
theorem PI.mono{X:Cx}{tg e:Expr}{t t':TI}(h:PI X tg e t) (q:∀σ H R,t' σ H R→t σ H R):PI X tg e t':=fun pins s σ H R I z=>h pins s σ H R I (q σ H R z)
noncomputable def wVar (i:Nat):WE:=fun _ σ S Q=>match σ[i]? with
 |some (some w)=>Q w S
 |_=>False
noncomputable def wC (w:W):WE:=fun _ _ S Q=>Q w S
section
variable {X:Cx}
theorem jv (i:Nat) {x:Str}{pos:Pos}(hN:X.N[i]? =some x:=by rfl) (hv:Vis X.env.scope x:=by first |exact Or.inl rfl |exact Or.inr (Or.inl rfl) |exact Or.inr (Or.inr rfl)) (hd:(x == ("__debug__" :Str))=false:=by decide)
  (hcd:(x == ("__classdict__" :Str))=false:=by decide):JE X (.Name x pos) (wVar i):=fun E hE=>(zlC hN hv hd hcd).mono fun σ H Q ⟨σW,S,QW,hσ,hS,ht,hQ⟩=>by
 unfold wVar at ht;split at ht
 ·rename_i w e;obtain⟨v,e',r⟩:=hσ.get e;exact⟨v,e',hQ w S v H .refl r hS ht⟩
 ·exact ht.elim
theorem zme{e:Expr}{v:V}{w:W}(h:PE X e (tC v)) (r:∀K H,Rep K H w v):JE X e (wC w):=fun E hE=>h.mono fun σ H Q ⟨σW,S,QW,hσ,hS,ht,hQ⟩=>hQ w S v H .refl (r _ _) hS ht
theorem zae{i j pos}:JE X (.Constant (.int i) j pos) (wC (.int i)):=zme zsO fun _ _=> .int i
theorem zbH{b j pos}:JE X (.Constant (.bool b) j pos) (wC (.bl b)):=zme zvR fun _ _=> .bl b
theorem zeF{j pos}:JE X (.Constant .none j pos) (wC .non):=zme ztU fun _ _=> .non
theorem zeh{x j pos}:JE X (.Constant (.str x) j pos) (wC (.str x)):=zme zus fun _ _=> .str x
theorem zcV{x:Str}{i:Int}{u:Tok}{pos:Pos}(hg:Gl X x) (hm:X.mg x=some (.int i u)) (hd:(x == ("__debug__" :Str))=false:=by decide):JE X (.Name x pos) (wC (.int i)):=zme (v:= .int i) (znh hg hm ⟨u,rfl⟩ hd) fun _ _=> .int i
end
noncomputable abbrev W2:=W→W→Sto→WK→Prop
noncomputable def wOp (r:W2) (a b:WE):WE:=fun E σ S Q=>a E σ S fun x S1=>b E σ S1 fun y S2=>r x y S2 Q
noncomputable def OpW (K:PySem.W.Frag) (r:R2) (wr:W2):Prop:=∀H x y wx wy S (Q:VK) (QW:WK),Rep K H wx x→Rep K H wy y→RepS K H S→wr wx wy S QW→Wish K H S QW Q→r x y H Q
theorem Wish.from{K:PySem.W.Frag}{H H':Hp}{S S':Sto}{QW:WK}{Q:VK}(h:Wish K H S QW Q) (e:Ext H S H' S'):Wish K H' S' QW Q:=fun w S v H'' e' r hS q=>h w S v H'' (e.trans e') r hS q
theorem Goes.from{K:PySem.W.Frag}{H H':Hp}{S S':Sto}{P:WSt→Sto→Prop}{Q:St→Hp→Prop}(h:Goes K H S P Q) (e:Ext H S H' S'):Goes K H' S' P Q:=fun σW S σ H'' e' r hS q=>h σW S σ H'' (e.trans e') r hS q
theorem Meets.from{K:PySem.W.Frag}{H H':Hp}{S S':Sto}{DW:WEnds}{D:Ends}(h:Meets K H S DW D) (e:Ext H S H' S'):Meets K H' S' DW D:=⟨h.nx.from e,h.rt.from e,h.bk.from e,h.ct.from e⟩
section
variable {X:Cx}{a b:Expr}{pos:Pos}
theorem zfe{K:PySem.W.Frag}{ta tb:WSt→Sto→WK→Prop}{wr:W→W→Sto→WK→Prop}{σ:St}{H:Hp}{Q:VK}{R:V→V→Hp→Prop}
  (h:zvf K (fun σ S Q=>ta σ S fun x S1=>tb σ S1 fun y S2=>wr x y S2 Q) σ H Q)
  (hR:∀H2 x y wx wy S (QW:WK),Rep K H2 wx x→Rep K H2 wy y→RepS K H2 S→wr wx wy S QW→Wish K H2 S QW Q→R x y H2) :
  zvf K ta σ H fun x H1=>zvf K tb σ H1 fun y H2=>R x y H2:=by
 obtain⟨σW,S,QW,hσ,hS,ht,hQ⟩:=h;refine⟨σW,S,_,hσ,hS,ht,fun w1 S1 v1 H1 e1 r1 hS1 h1=>?_⟩;refine⟨σW,S1,_,hσ.ext e1,hS1,h1,fun w2 S2 v2 H2 e2 r2 hS2 h2=>?_⟩;exact hR H2 v1 v2 w1 w2 S2 QW (r1.ext e2) r2 hS2 h2 (hQ.from (e1.trans e2))
theorem ziX{op:Operator}{r:R2}{wr:W2}{ta tb:WE}(ho:OpR X (binaryOp op) r) (hw:OpW X.K r wr) (ha:JE X a ta) (hb:JE X b tb):JE X (.BinOp a op b pos) (wOp wr ta tb):=fun E hE=>
 (zrz ho (ha E hE) (hb E hE)).mono fun σ H Q h=>zfe h fun H2 x y wx wy S QW rx ry hS q hQ=>hw H2 x y wx wy S Q QW rx ry hS q hQ
theorem zlE{op:CmpOp}{r:R2}{wr:W2}{ta tb:WE}(ho:OpR X (compareOp op) r) (hw:OpW X.K r wr) (ha:JE X a ta) (hb:JE X b tb) (hm:behindInMarks op b=false):JE X (.Compare a [op] [b] pos) (wOp wr ta tb):=fun E hE=>
 (zrX ho (ha E hE) (hb E hE) hm).mono fun σ H Q h=>zfe h fun H2 x y wx wy S QW rx ry hS q hQ=>hw H2 x y wx wy S Q QW rx ry hS q hQ
end
theorem ObjOk.ex{P:Program}{w:World}{H:Hp}{h:Heap}{a:Addr}{o:HO}(x:ObjOk P w H h a o):∃u,h.get? a=some u:=by
 cases o with
 |lst xs=>obtain⟨_,_,_,_,e⟩:=x;exact⟨_,e⟩
 |tup xs=>obtain⟨_,_,_,o,e,_⟩:=x;exact⟨_,e⟩
 |dK kvs=>obtain⟨_,_,_,_,o,_,_,e,_⟩:=x;exact⟨_,e⟩
 |dT kvs=>obtain⟨_,_,_,_,o,_,_,e,_⟩:=x;exact⟨_,e⟩
 |set S n=>obtain⟨o,_,_,_,e,_⟩:=x;exact⟨_,e⟩
 |ins C dx fs=>obtain⟨_,_,_,e,_⟩:=x;exact⟨_,e⟩
 |own y=>exact x
 |xd fs=>obtain⟨_,⟨_,_,_,e,_⟩,_⟩:=x;exact⟨_,e⟩
 |rng lo hi=>obtain⟨_,_,_,e⟩:=x;exact⟨_,e⟩
 |frz ob u=>obtain⟨e,_⟩:=x;exact⟨_,e⟩
 |tbl ps=>exact⟨_,show h.get? a=some _ from x⟩
 |met f y=>exact⟨_,show h.get? a=some _ from x⟩
 |ext φ=>exact x.2.1
noncomputable def unt (H:Hp) (S:Sto):Hp:=fun b=>match H b with
 |some (.lst xs)=>match S b with
  |none=>none
  |some _=>some (.lst xs)
 |o=>o
noncomputable def rtk (H:Hp) (S:Sto) (H':Hp):Hp:=fun b=>match unt H S b with
 |none=>match H b with
  |some o=>some o
  |none=>H' b
 |some _=>match H' b with
  |some o=>some o
  |none=>some (.ext fun h=>∃o,h.get? b=some o)
section
variable {w:World}{K:PySem.W.Frag}{H:Hp}{S:Sto}{h:Heap}{b:Addr}{o:HO}
theorem zki (e:unt H S b=some o):H b=some o:=by
 unfold unt at e;split at e
 ·rename_i xs q;split at e
  ·cases e
  ·rw [q];exact e
 ·exact e
theorem zdJ (e:H b=none):unt H S b=none:=by unfold unt;rw [e]
theorem zkA (e:H b=some o) (n:∀xs,o≠ .lst xs):unt H S b=some o:=by
 unfold unt;rw [e];cases o<;>first |rfl |exact absurd rfl (n _)
theorem zpU{u:Ob}(e:H b=some o) (hs:S b=some u):unt H S b=some o:=by
 unfold unt;rw [e];cases o<;>first |rfl | (dsimp only;rw [hs])
theorem zlF{xs:List V}(e:H b=some (.lst xs)) (hs:S b=none):unt H S b=none:=by
 unfold unt;rw [e];dsimp only;rw [hs]
theorem ztr (e:unt H S b=none) (q:H b=some o):(∃xs,o= .lst xs)∧S b=none:=by
 unfold unt at e;rw [q]at e;cases o<;>first |cases e |skip;rename_i xs;dsimp only at e;split at e
 ·exact⟨⟨xs,rfl⟩, ‹_›⟩
 ·cases e
mutual
theorem Rep.mv{H1:Hp}(t:∀b xs,H b=some (.tup xs)→H1 b=some (.tup xs)) (f:∀b o u,H b=some (.frz o u)→H1 b=some (.frz o u)) {w:W}{v:V}:Rep K H w v→Rep K H1 w v
 | .non=> .non
 | .bl b=> .bl b
 | .int i=> .int i
 | .str x=> .str x
 | .ref a=> .ref a
 | .scr h=> .scr (by
  rcases h with⟨o,h⟩ |h
  ·exact .inl ⟨o,f _ _ _ h⟩
  ·exact .inr h)
 | .tup h hs=> .tup (t _ _ h) (Reps.mv t f hs)
theorem Reps.mv{H1:Hp}(t:∀b xs,H b=some (.tup xs)→H1 b=some (.tup xs)) (f:∀b o u,H b=some (.frz o u)→H1 b=some (.frz o u)) {ws:List W}{vs:List V}:Reps K H ws vs→Reps K H1 ws vs
 | .nil=> .nil
 | .cons h hs=> .cons (Rep.mv t f h) (Reps.mv t f hs)
end
theorem zfr:∀b xs,H b=some (.tup xs)→unt H S b=some (.tup xs):=fun b xs e=>zkA e fun _ z=>nomatch z
theorem zgI:∀b o u,H b=some (.frz o u)→unt H S b=some (.frz o u):=fun b o u e=>zkA e fun _ z=>nomatch z
theorem RepS.unt (r:RepS K H S):RepS K (unt H S) S:=fun a o e=>by
 have q:=r a o e;cases o with
 |lst ws=>obtain⟨vs,z,rs⟩:=q;exact⟨vs,zpU z e,Reps.mv zfr zgI rs⟩
 |dct kvs=>obtain⟨ps,z,rs⟩:=q;exact⟨ps,zpU z e,Paired.mapP rs fun _ _ z=>⟨z.1,Rep.mv zfr zgI z.2⟩⟩
 |ins C fs=>exact q.elim
theorem HOk.unt (x:HOk P w H h):HOk P w (unt H S) h:=fun a o e=>
 (x a o (zki e)).stay (fun _ _ _ q=>q) (fun b q=>zkA q fun _ z=>nomatch z) fun b xs q=>zfr b xs q
theorem zdu (ok:HOk P w H h) (un:Un fs [] (unt H S) H' h h') (e:H' b=some o):rtk H S H' b=some o:=by
 unfold rtk;split
 ·rename_i q;split
  ·rename_i u z;obtain⟨ob,eo⟩:=(ok b u z).ex;rw [un.free b ob eo q (by simp)]at e;cases e
  ·exact e
 ·rw [e]
theorem zkP (un:Un fs [] (unt H S) H' h h') (ok:HOk P w H h):Un fs [] H (rtk H S H') h h' where
  keep:=fun b o e n hb hx=>un.keep b o e (zdJ n) hb hx
  slot:=fun b o e n hb hx=>un.slot b o e (zdJ n) hb hx
  free:=fun b o e n hx=>by
    unfold rtk;rw [zdJ n,n];exact un.free b o e (zdJ n) hx
  there:=un.there
  tups:=fun b xs e=>zdu ok un (un.tups b xs (zfr b xs e))
  frzs:=fun b o u e=>zdu ok un (un.frzs b o u (zgI b o u e))
  tbls:=fun b ps e=>by
    obtain⟨m,z⟩:=un.tbls b ps (zkA e fun _ z=>nomatch z);exact⟨m,zdu ok un z⟩
theorem zqf (un:Un fs [] (unt H S) H' h h') (ok:HOk P w H h) (ok':HOk P w H' h') (hf:∀b∈fs,H b=none):HOk P w (rtk H S H') h':=fun b o e=>by
 have back:∀{o},H' b=some o→ObjOk P w (rtk H S H') h' b o:=fun {o} q=>(ok' b o q).stay (fun _ _ _ z=>z) (fun c z=>zdu ok un z) fun c xs z=>zdu ok un z;unfold rtk at e;split at e
 ·rename_i q;split at e
  ·rename_i u z;cases e;obtain⟨⟨xs,rfl⟩,_⟩:=ztr q z;obtain⟨l,its,n,r,g⟩:=ok b _ z;exact⟨l,its,n,r,un.keep b _ g q (fun hb=>by rw [hf b hb]at z;cases z) (by simp)⟩
  ·exact back e
 ·rename_i u q;split at e
  ·rename_i u' z;cases e;exact back z
  ·rename_i z;cases e;obtain⟨ob,eo⟩:=(ok b u (zki q)).ex;obtain⟨ob',eo'⟩:=un.there b ob eo (by simp);exact⟨⟨ob',eo'⟩,⟨ob',eo'⟩,fun h1 h2 ⟨o,z⟩ k=>⟨o,k o z⟩⟩
theorem zqW (e:H b=some o):∃o',rtk H S H' b=some o':=by
 unfold rtk;split
 ·rw [e];exact⟨_,rfl⟩
 ·split
  ·exact⟨_,rfl⟩
  ·exact⟨_,rfl⟩
theorem zmV (un:Un fs [] (unt H S) H' h h') (ok:HOk P w H h) (r:RepS K H' S'):Ext H S (rtk H S H') S' where
  tup:=fun b xs e=>(zkP un ok).tups b xs e
  frz:=fun b o u e=>(zkP un ok).frzs b o u e
  fr:=fun b xs e hs=>by
    refine⟨?_,?_⟩
    · unfold rtk;rw [zlF e hs,e]
    · cases q:S' b with
      |none=>rfl
      |some u=>
        obtain⟨v,z⟩:=(r b u q).some;obtain⟨ob,eo⟩:=(ok b _ e).ex;rw [un.free b ob eo (zlF e hs) (by simp)]at z;cases z
  all:=fun b o e=>zqW e
theorem zqr (un:Un fs [] (unt H S) H' h h') (ok:HOk P w H h):Ext H' S' (rtk H S H') S' where
  tup:=fun b xs e=>zdu ok un e
  frz:=fun b o u e=>zdu ok un e
  fr:=fun b xs e hs=>⟨zdu ok un e,hs⟩
  all:=fun b o e=>⟨o,zdu ok un e⟩
theorem zur (un:Un fs [] (unt H S) H' h h') (ok:HOk P w H h) (r:RepS K H' S'):RepS K (rtk H S H') S':=fun a o e=>(r a o e).keep (zqr (S':=S') un ok) fun u z=>zdu ok un z
end
theorem ztD{X:Cx}{k:Nat}{f:Addr}{fd:FuncData}{ps:List Str}{c:WSp}{E:WX}{pins:List (Addr×Obj)}{σ:St}{σW:WSt}{H:Hp}{S:Sto}{s:Shared}{Q:VK}{QW:WK}{us:List Value}{vs:List V}{ws:List W}
  (F:FnOk X.prog X.w X.K X.mg X.base (CX1 X.prog X.w) k f fd ps (zbI X.K c)) (hr:Room k X.A) (hb:Binds X.K fd ps []) (I:Inv X pins σ H s) (r:Vals vs us) (rs:Reps X.K H ws vs) (hσ:RpSt X.K H σW σ) (hS:RepS X.K H S)
  (h:c ws S QW fun cl S'=>E cl σW S') (hQ:Wish X.K H S QW Q)
  (hx:∀(cl:Str) (C a:Addr) (H':Hp) (S':Sto) (s':Shared),PySem.W.nsIn X.K mainGlobals cl=some (some (.ref C))→s'.os=s.os→AllBare s'.gens→Un (frs X.stack) [] H H' s.heap s'.heap→HOk X.prog X.w H' s'.heap→Fly s.heap s'.heap H' a C→Ext H S H' S'→RepS X.K H' S'→E cl σW S'→X.xe (.ref a) s'):wpAny (model X.prog X.w) X.A (call (.ref f) us) (EP X pins σ Q) X.xe s:=by
 have e0:=I.env0;have sp:zbI X.K c vs (unt H S) (fun v H'=>∃w S',Rep X.K H' w v∧RepS X.K H' S'∧QW w S') (fun cv _ H'=>∃cl C S',cv= .ref C∧PySem.W.nsIn X.K mainGlobals cl=some (some (.ref C))∧RepS X.K H' S'∧E cl σW S'):=
  ⟨ws,S,QW,_,Reps.mv zfr zgI rs,hS.unt,h,fun w S' v H' _ r1 r2 q=>⟨w,S',r1,r2,q⟩,fun cl C S' H' hn hS' q=>⟨cl,C,S',rfl,hn,hS',q⟩⟩
 have e1:Env0 X.prog X.w X.K X.mg X.base X.A X.stack s (unt H S):=⟨e0.frames,e0.mod,fun b o e=>⟨(e0.bs b o e).1,zdJ (e0.bs b o e).2⟩,e0.bsz,e0.funs,fun b hb=>zdJ (e0.frf b hb),e0.hok.unt,e0.bare⟩;have hl:us.length=ps.length:=by rw [←r.length];exact F.len _ _ _ _ sp
 have hb':=hb s us I.kIn (by rw [List.append_nil];exact hl);rw [List.append_nil]at hb';refine wpAny_call (codeAny_mono (F.run X.A X.stack s (unt H S) ⟨us,[]⟩ us vs _ _ hr e1 hb' r sp) fun rr s' hq=>?_);cases rr with
 |error e=>
  obtain⟨a,C,H',rfl,os,bare,un,ok',fly,cl,C',S',ec,hn,hS',q⟩:=hq;cases ec;refine hx cl C a (rtk H S H') S' s' hn os bare (zkP un I.hok) (zqf un I.hok ok' e0.frf) ?_ (zmV un I.hok hS') (zur un I.hok hS') q;obtain⟨g1,g2,oe,vs',T,oT,ts,a1,a2,a3,a4,a5,a6,a7⟩:=fly;have free:∀{b:Addr},s.heap.get? b=none→H' b=none→rtk H S H' b=none:=fun {b} q1 q2=>by
   have hn:H b=none:=by
    cases z:H b with
    |none=>rfl
    |some u=>obtain⟨ob,eo⟩:=(I.hok b u z).ex;rw [q1]at eo;cases eo
   unfold rtk;rw [zdJ hn,hn];exact q2
  exact⟨g1,free g1 g2,oe,vs',T,oT,ts,a1,a2,a3,a4,a5,free a5 a6,a7⟩
 |ok fl=>
  cases fl with
  |ret u=>
   obtain⟨v,H',os,bare,un,ok',rv,w,S',r1,r2,q⟩:=hq;exact⟨v,rtk H S H',I.call' os (zkP un I.hok) (zqf un I.hok ok' e0.frf) bare (fun _ z=>nomatch z),rv,hQ w S' v _ (zmV un I.hok r2) (r1.ext (zqr (S':=S') un I.hok)) (zur un I.hok r2) q⟩
  |next=>exact False.elim hq
  |brk=>exact False.elim hq
  |cont=>exact False.elim hq
theorem zvG{X:Cx}{k:Nat}{f:Addr}{fd:FuncData}{ps:List Str}{c:WSp}{E:WX}{pins:List (Addr×Obj)}{σ:St}{σW:WSt}{H:Hp}{S:Sto}{s:Shared}{Q:VK}{QW:WK}{us:List Value}{vs:List V}{ws:List W}
  (F:FnOk X.prog X.w X.K X.mg X.base (CX1 X.prog X.w) k f fd ps (zbI X.K c)) (hr:Room k X.A) (hb:Binds X.K fd ps []) (hE:Hook X E) (I:Inv X pins σ H s) (r:Vals vs us) (rs:Reps X.K H ws vs) (hσ:RpSt X.K H σW σ) (hS:RepS X.K H S)
  (h:c ws S QW fun cl S'=>E cl σW S') (hQ:Wish X.K H S QW Q):wpAny (model X.prog X.w) X.A (call (.ref f) us) (EP X pins σ Q) X.xe s:=
 ztD (E:=E) F hr hb I r rs hσ hS h hQ fun cl C a H' S' s' hn os bare un ok fly _ hS' q=>hE.far pins σ H s σW cl C a H' S' s' I hσ hn os bare un ok fly hS' q
theorem zmu{X:Cx}{pins:List (Addr×Obj)}{σ:St}{H':Hp}{s':Shared}{a C:Addr}{hid:List Addr}{h':Heap}(I:Inv X pins σ H' s') (hst:X.stack=X.env::X.outer) (hf:X.env.frame=some X.env.locals) (hex:X.ex=[])
  (h0:∀b∈hid,X.s₀.heap.get? b=none∧H' b=none) (ha:a∈hid) (L:Heap.Left (PySem.W.hideAll s'.heap (hid++frs X.stack)) X.stack a (.ref C) s'.heap h') :
  Un X.fs [] X.H₀ H' X.s₀.heap h'∧HOk X.prog X.w H' h'∧Fly X.s₀.heap h' H' a C:=by
 obtain⟨st,ff,tr,sl⟩:=L;have keepB:∀b o,s'.heap.get? b=some o→b∉hid→b∉frs X.stack→h'.get? b=some o:=fun b o e h1 h2=>st b o (PySem.W.hideAll_get _ e fun z=>(List.mem_append.mp z).elim h1 h2);have nh:∀b o,X.s₀.heap.get? b=some o→b∉hid:=fun b o e hb=>by rw [(h0 b hb).1]at e;cases e
 have slotB:∀b o,b∈frs X.stack→s'.heap.get? b=some o→ ∃sl,h'.get? b=some { o with slots:=sl }:=fun b o hb e=>by
  obtain⟨_,o',eo',nf⟩:=I.stack.mem hb;rw [e]at eo';cases eo';exact sl b o e nf
 have nx:∀b:Addr,b∉X.ex:=fun b=>by rw [hex];simp
 have fsS:∀b∈X.fs,b∈frs X.stack:=fun b hb=>by
  rw [hst];unfold frs;rw [List.filterMap_cons,hf];exact List.mem_cons_of_mem _ hb
 refine⟨⟨fun b o e n hb _=>?_,fun b o e n hb _=>?_,fun b o e n _=>I.base.free b o e n (nx b),fun b o e _=>?_,I.base.tups,I.base.frzs,I.base.tbls⟩,fun b o e=>?_,(h0 a ha).1,(h0 a ha).2,?_⟩
 ·refine keepB b o (I.base.keep b o e n hb (nx b)) (nh b o e) fun z=>?_;rcases List.mem_cons.mp (I.stkSub b z) with q |q
  ·exact absurd (Nat.lt_of_lt_of_le (Heap.lt_size e) I.ok.above) (by rw [q];exact Nat.lt_irrefl _)
  ·exact hb q
 ·obtain⟨sl1,e1⟩:=I.base.slot b o e n hb (nx b);obtain⟨sl2,e2⟩:=slotB b _ (fsS b hb) e1;exact⟨sl2,e2⟩
 ·obtain⟨o',e1⟩:=I.base.there b o e (nx b);by_cases hb:b∈frs X.stack
  ·obtain⟨sl2,e2⟩:=slotB b _ hb e1;exact⟨_,e2⟩
  ·exact⟨o',keepB b o' e1 (nh b o e) hb⟩
 ·refine(I.hok b o e).stay (fun c u hc q=>?_) (fun _ q=>q) fun _ _ q=>q;have tk:∃v,H' c=some v:=by
   rcases hc with z |z
   ·exact⟨o,by rw [z];exact e⟩
   ·exact⟨_,z⟩
  obtain⟨v,tk⟩:=tk;exact keepB c u q (fun z=>by rw [(h0 c z).2]at tk;cases tk) fun z=>by rw [I.stkFree c z]at tk;cases tk
 ·obtain⟨oe,vs,T,oT,ts,e1,e2,e3,e4,e5,e6,e7,e8,e9⟩:=tr;have nf:T∉frs X.stack:=fun hb=>by
   obtain⟨_,o,eo,nf⟩:=ff.mem hb;rw [e7]at eo;cases eo;exact nf ts e8
  have both:X.s₀.heap.get? T=none∧H' T=none:=by
   by_cases hT:T∈hid
   ·exact h0 T hT
   ·have z:s'.heap.get? T=none:=by
     cases q:s'.heap.get? T with
     |none=>rfl
     |some o=>
      rw [PySem.W.hideAll_get _ q fun z=>(List.mem_append.mp z).elim hT nf]at e5;cases e5
    constructor
    ·cases q:X.s₀.heap.get? T with
     |none=>rfl
     |some o=>obtain⟨o',q'⟩:=I.base.there T o q (nx T);rw [z]at q';cases q'
    ·cases q:H' T with
     |none=>rfl
     |some u=>obtain⟨o',q'⟩:=(I.hok T u q).ex;rw [z]at q';cases q'
  exact⟨oe,vs,T,oT,ts,e1,e2,e3,e4,both.1,both.2,e6,e7,e8,e9⟩
theorem zgH{h base:Heap}{l:List Env}{hid:List Addr}(hl:h.FunFrames base l):h.FunFrames (PySem.W.hideAll h (hid++frs l)) l:=
 PySem.W.funFrames_hide hl fun env he a ha=>List.mem_append_right _ (List.mem_filterMap.mpr ⟨env,he,ha⟩)
theorem zpr{P:Program}{w:World}{K:PySem.W.Frag}{mg:Str→Option Value}{base:Heap}{N:List Str}{qual:Str}{scope:Scope}{f:Addr}{cdv:Value}{A:Around}{outer:List Env}{s:Shared}{H:Hp}{E:XK}{EW:Str→Sto→Prop}
    (hEW:∀cl C S' H',PySem.W.nsIn K mainGlobals cl=some (some (.ref C))→RepS K H' S'→EW cl S'→E (.ref C) none H'):Hook (zrR (CX1 P w) P w K mg base N qual scope f cdv A outer s H E) (fun c _ S'=>EW c S') where
  own:=PassesOwn.leaving
  far:=fun pins σ H1 s1 σW cl C a H' S' s' I hσ hn os bare un ok fly hS q=>by
    have I':=I.call' os un ok bare (fun _ z=>nomatch z);obtain⟨g1,g2,oe,vs,T,oT,ts,e1,e2,e3,e4,g3,g4,e5,e6,e7,e8⟩:=fly;have s0:∀{b:Addr},s1.heap.get? b=none→s.heap.get? b=none:=fun {b} z=>by
      cases q:s.heap.get? b with
      |none=>rfl
      |some o=>obtain⟨o',q'⟩:=I.base.there b o q (by exact fun z=>nomatch z);rw [z]at q';cases q'
    refine wpAny_leaving_next (base:=PySem.W.hideAll s'.heap ([a,T]++frs (envOfC qual scope s.heap.objs.size f cdv::outer))) I'.ok.frames (zgH I'.stack) rfl ⟨oe,vs,T,oT,ts,e1,e2,e3,e4,PySem.W.hideAll_none _ (by simp),e5,e6,e7,e8⟩ (fun b o z=>PySem.W.of_hideAll _ z) (PySem.W.hideAll_none _ (by simp)) fun h' L=>?_;obtain⟨u1,u2,u3⟩:=zmu (hid:=[a,T]) I' rfl rfl rfl (fun b hb=>by
      rcases List.mem_cons.mp hb with rfl |hb
      · exact⟨s0 g1,g2⟩
      · rw [List.mem_singleton.mp hb];exact⟨s0 g3,g4⟩) (by simp) L
    exact⟨a,C,H',rfl,I'.os,I'.bare,u1,u2,u3,hEW cl C S' H' hn hS q⟩
  near:=fun pins σ H1 s1 σW cl C a S h' args I hσ hn me hS q=>by
    have I':=I.kept (t':=s1.toks) me.keeps;obtain⟨t,e1,_,_⟩:=me.there;have s0:s.heap.get? a=none:=by
      cases q:s.heap.get? a with
      |none=>rfl
      |some o=>obtain⟨o',q'⟩:=I.base.there a o q (by exact fun z=>nomatch z);rw [me.new]at q';cases q'
    have h1:H1 a=none:=by
      cases q:H1 a with
      |none=>rfl
      |some u=>obtain⟨o',q'⟩:=(I.hok a u q).ex;rw [me.new]at q';cases q'
    refine wpAny_leaving_first (base:=PySem.W.hideAll h' ([a]++frs (envOfC qual scope s.heap.objs.size f cdv::outer))) (s:={ s1 with heap:=h' }) I'.ok.frames (zgH I'.stack) rfl e1 (fun b o z=>PySem.W.of_hideAll _ z) (PySem.W.hideAll_none _ (by simp)) rfl rfl fun h'' L=>?_;obtain⟨u1,u2,u3⟩:=zmu (hid:=[a]) I' rfl rfl rfl (fun b hb=>by rw [List.mem_singleton.mp hb];exact⟨s0,h1⟩) (by simp) L
    exact⟨a,C,H1,rfl,I'.os,I'.bare,u1,u2,u3,hEW cl C S H1 hn hS q⟩
noncomputable def zbG (S:Sto) (a:Addr) (Q:List W→Prop):Prop:=match S a with
 |some (.lst ws)=>Q ws
 |_=>False
theorem zak{S:Sto}{a:Addr}{Q:List W→Prop}{ws:List W}(h:S a=some (.lst ws)):zbG S a Q=Q ws:=by unfold zbG;rw [h]
theorem zaR{S:Sto}{a:Addr}{Q:List W→Prop}(h:zbG S a Q):∃ws,S a=some (.lst ws)∧Q ws:=by
 unfold zbG at h;split at h
 ·exact⟨_, ‹_›,h⟩
 ·exact h.elim
noncomputable def zqz:W→Sto→(Bool→Sto→Prop)→Prop
 | .non,S,Q=>Q false S
 | .bl b,S,Q=>Q b S
 | .int i,S,Q=>Q (i != 0) S
 | .str x,S,Q=>x.length≤sizeLine∧Q ((x.length:Int) != 0) S
 | .tup ws,S,Q=>Q (!ws.isEmpty) S
 | .ref a,S,Q=>zbG S a fun ws=>Q (!ws.isEmpty) S
 | .scr ns,S,Q=>Q (!ns.isEmpty) S
noncomputable def zjT (t:WE):WT:=fun E σ S Q=>t E σ S fun w S'=>zqz w S' Q
noncomputable def wTb (t:WE):WT:=fun E σ S Q=>t E σ S fun w S'=>match w with
 | .bl b=>Q b S'
 |_=>False
noncomputable def zrO (t u:WT):WT:=fun E σ S Q=>t E σ S fun c S1=>if c=true then u E σ S1 Q else Q false S1
noncomputable def wOr (t u:WT):WT:=fun E σ S Q=>t E σ S fun c S1=>if c=true then Q true S1 else u E σ S1 Q
noncomputable def zsj (t:WT):WT:=fun E σ S Q=>t E σ S fun c S1=>Q (!c) S1
noncomputable def zgj (t u:WE):WE:=fun E σ S Q=>t E σ S fun w S1=>match w with
 | .bl true=>u E σ S1 Q
 | .bl false=>Q (.bl false) S1
 |_=>False
noncomputable def zoa (t:WE):WE:=fun E σ S Q=>t E σ S fun w S1=>match w with
 | .bl b=>Q (.bl !b) S1
 |_=>False
noncomputable def zdx (c:WT) (t u:WS):WS:=fun E D σ S=>c E σ S fun b S1=>if b=true then t E D σ S1 else u E D σ S1
noncomputable def wNext:WS:=fun _ D σ S=>D.nx σ S
noncomputable def zay (t u:WS):WS:=fun E D σ S=>t E { D with nx:=u E D } σ S
noncomputable def wRet (e:WE):WS:=fun E D σ S=>e E σ S D.rt
noncomputable def zbZ (e:WE):WS:=fun E D σ S=>e E σ S fun _ S1=>D.nx σ S1
noncomputable def wGN (i:Nat):WG:=fun w σ S Q=>Q (σ.set i (some w)) S
noncomputable def wAsg (e:WE) (g:WG):WS:=fun E D σ S=>e E σ S fun w S1=>g w σ S1 D.nx
noncomputable abbrev WGs:=List W→WSt→Sto→(WSt→Sto→Prop)→Prop
noncomputable def zgc:WGs:=fun ws σ S Q=>match ws with
 | []=>Q σ S
 |_=>False
noncomputable def zbJ (g:WG) (u:WGs):WGs:=fun ws σ S Q=>match ws with
 | []=>False
 |w::r=>g w σ S fun σ' S'=>u r σ' S' Q
noncomputable def wGT (u:WGs):WG:=fun w σ S Q=>match w with
 | .tup ws=>u ws σ S Q
 |_=>False
section
variable {X:Cx}{a b c e:Expr}{pos:Pos}{ta tb:WE}{tc tA tB':WT}{st:Stmt}{rest:List Stmt}{t u:WS}
theorem zsg{K:PySem.W.Frag}{H:Hp}{w:W}{v:V}{S:Sto}{QW:Bool→Sto→Prop}(r:Rep K H w v) (hS:RepS K H S) (h:zqz w S QW):∃k,zwB K v H k∧QW k S:=by
 cases r with
 |non=>exact⟨false,rfl,h⟩
 |bl b=>exact⟨b,rfl,h⟩
 |int i=>exact⟨_,rfl,h⟩
 |str x=>exact⟨_,⟨h.1,rfl⟩,h.2⟩
 |ref a=>
  obtain⟨ws,e,h⟩:=zaR h;obtain⟨vs,e1,r1⟩:=hS a _ e;refine⟨_, .inl ⟨vs, .of e1,rfl⟩,?_⟩;have q:vs.isEmpty=ws.isEmpty:=by cases r1<;>rfl
  rw [q];exact h
 | @scr a ns f=>
  refine⟨_, .inl ⟨_,f.sq,rfl⟩,?_⟩;have q:(ns.map V.int).isEmpty=ns.isEmpty:=by cases ns<;>rfl
  rw [q];exact h
 | @tup a vs ws f hs=>
  refine⟨_, .inr (.inl ⟨vs, .of f,rfl⟩),?_⟩;have q:vs.isEmpty=ws.isEmpty:=by cases hs<;>rfl
  rw [q];exact h
theorem zcN (ha:JE X a ta) (he:∀whole,isTrue a X.env whole=(do let v ←whole;standAt a.pos;holding [v] (truthy v)):=by intro _;rfl):JT X a (zjT ta):=fun E hE=>
 (zot (ha E hE) he).mono fun σ H Q ⟨σW,S,QW,hσ,hS,ht,hQ⟩=>⟨σW,S,_,hσ,hS,ht,fun w S1 v H1 e1 r1 hS1 h1=>by
  obtain⟨k,hk,q⟩:=zsg r1 hS1 h1;exact⟨k,hk,hQ k S1 H1 e1 hS1 q⟩⟩
theorem zfS{op:CmpOp}{r:R2}{wr:W2}(ho:OpR X (compareOp op) r) (hw:OpW X.K r wr) (ha:JE X a ta) (hb:JE X b tb) (hm:behindInMarks op b=false):JT X (.Compare a [op] [b] pos) (wTb (wOp wr ta tb)):=fun E hE=>
 (zqX ho (ha E hE) (hb E hE) hm).mono fun σ H Q ⟨σW,S,QW,hσ,hS,ht,hQ⟩=>by
  refine zfe (Q:=fun v H1=>∃k,v= .bl k∧Q k H1) ⟨σW,S,fun w S'=>match w with
   | .bl b=>QW b S'
   |_=>False,hσ,hS,ht,fun w S1 v H1 e1 r1 hS1 h1=>?_⟩ fun H2 x y wx wy S QW rx ry hS q hQ=>hw H2 x y wx wy S _ QW rx ry hS q hQ
  cases r1 with
  |bl k=>exact⟨k,rfl,hQ k S1 H1 e1 hS1 h1⟩
  |_=>exact h1.elim
theorem zhW (ha:JT X a tA):JT X (.UnaryOp .Not a pos) (zsj tA):=fun E hE=>
 (ztM (ha E hE)).mono fun σ H Q ⟨σW,S,QW,hσ,hS,ht,hQ⟩=>⟨σW,S,_,hσ,hS,ht,fun b S1 H1 e1 hS1 h1=>hQ _ S1 H1 e1 hS1 h1⟩
theorem JW.jt (h:JW X a tA):JT X a tA:=fun E hE=>(h E hE).pt
theorem ziQ (ha:JT X a tA):JW X (.BoolOp .And [a] pos) tA:=fun E hE=>zrC (ha E hE)
theorem zpO (ha:JT X a tA):JW X (.BoolOp .Or [a] pos) tA:=fun E hE=>ztI (ha E hE)
theorem zlR{rest:List Expr}(ha:JT X a tA) (hb:JW X (.BoolOp .And (b::rest) pos) tB'):JW X (.BoolOp .And (a::b::rest) pos) (zrO tA tB'):=fun E hE=>
 (ztd (ha E hE) (hb E hE)).mono fun σ H Q ⟨σW,S,QW,hσ,hS,ht,hQ⟩=>⟨σW,S,_,hσ,hS,ht,fun b S1 H1 e1 hS1 h1=>by
  cases b with
  |true=>exact⟨σW,S1,_,hσ.ext e1,hS1,h1,fun b S2 H2 e2 hS2 h2=>hQ b S2 H2 (e1.trans e2) hS2 h2⟩
  |false=>exact hQ _ S1 H1 e1 hS1 h1⟩
theorem zqY{rest:List Expr}(ha:JT X a tA) (hb:JW X (.BoolOp .Or (b::rest) pos) tB'):JW X (.BoolOp .Or (a::b::rest) pos) (wOr tA tB'):=fun E hE=>
 (zvC (ha E hE) (hb E hE)).mono fun σ H Q ⟨σW,S,QW,hσ,hS,ht,hQ⟩=>⟨σW,S,_,hσ,hS,ht,fun b S1 H1 e1 hS1 h1=>by
  cases b with
  |false=>exact⟨σW,S1,_,hσ.ext e1,hS1,h1,fun b S2 H2 e2 hS2 h2=>hQ b S2 H2 (e1.trans e2) hS2 h2⟩
  |true=>exact hQ _ S1 H1 e1 hS1 h1⟩
theorem zhH{op}(h:JE X a ta):JE X (.BoolOp op [a] pos) ta:=fun E hE=>ztH (h E hE)
theorem ziH{rest:List Expr}(ha:JE X a ta) (hb:JE X (.BoolOp .And (b::rest) pos) tb):JE X (.BoolOp .And (a::b::rest) pos) (zgj ta tb):=fun E hE=>
 (zuQ (ha E hE) (hb E hE)).mono fun σ H Q ⟨σW,S,QW,hσ,hS,ht,hQ⟩=>⟨σW,S,_,hσ,hS,ht,fun w S1 v H1 e1 r1 hS1 h1=>by
  cases r1 with
  |bl k=>
   refine⟨k,rfl,?_⟩;cases k with
   |true=>exact⟨σW,S1,_,hσ.ext e1,hS1,h1,hQ.from e1⟩
   |false=>exact hQ _ S1 _ H1 e1 (.bl false) hS1 h1
  |_=>exact h1.elim⟩
theorem zlS (ha:JE X a ta):JE X (.UnaryOp .Not a pos) (zoa ta):=fun E hE=>
 (zsF (ha E hE)).mono fun σ H Q ⟨σW,S,QW,hσ,hS,ht,hQ⟩=>⟨σW,S,_,hσ,hS,ht,fun w S1 v H1 e1 r1 hS1 h1=>by
  cases r1 with
  |bl k=>exact⟨k,rfl,hQ _ S1 _ H1 e1 (.bl _) hS1 h1⟩
  |_=>exact h1.elim⟩
theorem zaU:JSs X [] wNext:=fun E hE=>pss_nil.mono fun D σ H ⟨σW,S,DW,hσ,hS,ht,hD⟩=>hD.nx σW S σ H .refl hσ hS ht
theorem zad (h1:JS X st t) (h2:JSs X rest u):JSs X (st::rest) (zay t u):=fun E hE=>
 (zoI (h1 E hE) (h2 E hE)).mono fun D σ H ⟨σW,S,DW,hσ,hS,ht,hD⟩=>
  ⟨σW,S,{ DW with nx:=u E DW },hσ,hS,ht,⟨fun σW' S' σ' H' e r hS' q=>⟨σW',S',DW,r,hS',q,hD.from e⟩,hD.rt,hD.bk,hD.ct⟩⟩
theorem zai (h1:JS X st t):JSs X [st] t:=fun E hE=>znF (h1 E hE)
theorem zbs (he:JE X e ta) (hs:swapsWith e none pos.line X.env=pure false:=by rfl):JS X (.Expr e pos) (zbZ ta):=fun E hE=>
 (zmd (he E hE) hs).mono fun D σ H ⟨σW,S,DW,hσ,hS,ht,hD⟩=>⟨σW,S,_,hσ,hS,ht,fun w S1 v H1 e1 r1 hS1 h1=>hD.nx σW S1 σ H1 e1 (hσ.ext e1) hS1 h1⟩
theorem zao (he:JE X e ta):JS X (.Return (some e) pos) (wRet ta):=fun E hE=>
 (zpP (he E hE)).mono fun D σ H ⟨σW,S,DW,hσ,hS,ht,hD⟩=>⟨σW,S,_,hσ,hS,ht,hD.rt⟩
theorem zbA{a b:List Stmt}(hc:JT X c tc) (ha:JSs X a t) (hb:JSs X b u):JS X (.If c a b pos) (zdx tc t u):=fun E hE=>
 (zuE (hc E hE) (ha E hE) (hb E hE)).mono fun D σ H ⟨σW,S,DW,hσ,hS,ht,hD⟩=>⟨σW,S,_,hσ,hS,ht,fun k S1 H1 e1 hS1 h1=>by
  cases k with
  |true=>exact⟨σW,S1,DW,hσ.ext e1,hS1,h1,hD.from e1⟩
  |false=>exact⟨σW,S1,DW,hσ.ext e1,hS1,h1,hD.from e1⟩⟩
theorem zaw{i:Nat}{x:Str}(hN:X.N.Nodup) (hi:X.N[i]? =some x) (hx:Loc X.env.scope x) (hf:X.fn x=true∨X.env.scope.names.lookup x=some .local:=by first |exact .inl rfl |exact .inr rfl |assumption):JG X (.Name x pos) (wGN i):=fun E hE=>
 (zrQ hN hi hx hf).mono fun v σ H Q ⟨w,σW,S,P,r,hσ,hS,ht,hP⟩=>hP _ S _ H .refl (hσ.set r i) hS ht
noncomputable def JGs (X:Cx) (tgs:List Expr) (t:WGs):Prop:=∀E,Hook X E→PGs X tgs (fun vs σ H Q=>∃ws σW S P,Reps X.K H ws vs∧RpSt X.K H σW σ∧RepS X.K H S∧t ws σW S P∧Goes X.K H S P Q)
theorem ziS:JGs X [] zgc:=fun E hE pins s σ H vs us Q I r h=>by
 obtain⟨ws,σW,S,P,rs,hσ,hS,ht,hP⟩:=h;unfold zgc at ht;split at ht
 ·cases rs;exact zrw pins s σ H [] us Q I r ⟨rfl,hP σW S σ H .refl hσ hS ht⟩
 ·exact ht.elim
theorem zdl{es:List Expr}{g:WG}{gs:WGs}(h1:JG X e g) (h2:JGs X es gs)
  (hs:(assignEach (e::es) X.env).map (·.2)=assign e X.env::(assignEach es X.env).map (·.2):=by rfl):JGs X (e::es) (zbJ g gs):=fun E hE pins s σ H vs us Q I r h=>by
 obtain⟨ws,σW,S,P,rs,hσ,hS,ht,hP⟩:=h;unfold zbJ at ht;split at ht
 ·exact ht.elim
 ·cases rs with
  |cons r1 r2=>
   refine zoY (h1 E hE) (h2 E hE) hs pins s σ H _ us Q I r ⟨_,_,rfl,⟨_,σW,S,_,r1,hσ,hS,ht,fun σW' S' σ' H' e' rr hS' q=>?_⟩⟩;exact⟨_,σW',S',P,r2.ext e',rr,hS',q,hP.from e'⟩
theorem zmO{es:List Expr}{k n:Nat}{gs:WGs}(h:JGs X es gs) (hlen:∀ws σ S P,gs ws σ S P→ws.length=n)
  (hn:(assignEach es X.env).length=n:=by rfl) (hst:(assignEach es X.env).findIdx? (·.1)=none:=by rfl) (hcl:X.calm=true:=by rfl):JG X (.Tuple es k pos) (wGT gs):=fun E hE=>
 (zuk hcl (h E hE) hn hst).mono fun v σ H Q ⟨w,σW,S,P,r,hσ,hS,ht,hP⟩=>by
  cases r with
  |tup f hs=>exact⟨_,_,rfl, .of f,by rw [←hs.length];exact hlen _ _ _ _ ht,⟨_,σW,S,P,hs,hσ,hS,ht,hP⟩⟩
  |_=>exact ht.elim
theorem zal{i:Nat}{x:Str}{pos':Pos}(hN:X.N.Nodup) (hi:X.N[i]? =some x) (hx:Loc X.env.scope x) (he:JE X e ta) (hs:swapsWith e (some (.Name x pos')) pos.line X.env=pure false:=by rfl)
  (hf:X.fn x=true∨X.env.scope.names.lookup x=some .local:=by first |exact .inl rfl |exact .inr rfl |assumption):JS X (.Assign [.Name x pos'] e pos) (wAsg ta (wGN i)):=fun E hE=>
 (zvb hN hi hx (he E hE) hs hf).mono fun D σ H ⟨σW,S,DW,hσ,hS,ht,hD⟩=>⟨σW,S,_,hσ,hS,ht,fun w S1 v H1 e1 r1 hS1 h1=>hD.nx _ S1 _ H1 e1 ((hσ.ext e1).set r1 i) hS1 h1⟩
end
noncomputable def waNil:WA:=fun _ _ S Q=>Q [] S
noncomputable def zab (t:WE) (u:WA):WA:=fun E σ S Q=>t E σ S fun w S1=>u E σ S1 fun ws S2=>Q (w::ws) S2
noncomputable def zgi (t:WA):WE:=fun E σ S Q=>t E σ S fun ws S1=>ws.length≤sizeLine∧Q (.tup ws) S1
noncomputable def zeK (t:WA):WL:=fun E σ S Q=>t E σ S fun ws S1=>ws.length≤sizeLine∧Q ws S1
noncomputable def zdn (t:WL):WE:=fun E σ S Q=>t E σ S fun ws S1=>∀a,S1 a=none→Q (.ref a) (put S1 a (.lst ws))
section
variable {X:Cx}{e:Expr}{es:List Expr}{te:WE}{ta:WA}{tl:WL}{pos:Pos}
theorem zac:JA X [] waNil:=fun E hE=>pa_nil.mono fun σ H Q ⟨σW,S,QW,hσ,hS,ht,hQ⟩=>hQ [] S [] H .refl .nil hS ht
theorem zaa (ha:JE X e te) (hr:JA X es ta) (hs:starEach (e::es) X.env=(false,eval e X.env)::starEach es X.env:=by rfl):JA X (e::es) (zab te ta):=fun E hE=>
 (zby (ha E hE) (hr E hE) hs).mono fun σ H Q ⟨σW,S,QW,hσ,hS,ht,hQ⟩=>⟨σW,S,_,hσ,hS,ht,fun w S1 v H1 e1 r1 hS1 h1=>⟨σW,S1,_,hσ.ext e1,hS1,h1,fun ws S2 vs H2 e2 r2 hS2 h2=>
  hQ (w::ws) S2 (v::vs) H2 (e1.trans e2) (.cons (r1.ext e2) r2) hS2 h2⟩⟩
theorem zbv{x1}(h:JA X es ta):JE X (.Tuple es x1 pos) (zgi ta):=fun E hE=>
 (zsY (h E hE)).mono fun σ H Q ⟨σW,S,QW,hσ,hS,ht,hQ⟩=>⟨σW,S,_,hσ,hS,ht,fun ws S1 vs H1 e1 r1 hS1 h1=>by
  refine⟨by rw [←r1.length];exact h1.1,fun p hp=>hQ (.tup ws) S1 _ _ (e1.trans (.new hp)) (.tup zat (r1.ext (.new (S:=S1) hp))) (hS1.new hp) h1.2⟩⟩
theorem zaP (h:JA X es ta):JL X (.List es pos) (zeK ta):=fun E hE=>
 (zuL (h E hE)).mono fun σ H Q ⟨σW,S,QW,hσ,hS,ht,hQ⟩=>⟨σW,S,_,hσ,hS,ht,fun ws S1 vs H1 e1 r1 hS1 h1=>by
  refine⟨by rw [←r1.length];exact h1.1,fun p hp=>hQ ws S1 vs p _ (e1.trans (.new hp)) (e1.free hp) zat (hS1.free hp) (r1.ext (.new (S:=S1) hp)) (hS1.new hp) h1.2⟩⟩
theorem zaF (h:JL X e tl):JE X e (zdn tl):=fun E hE=>
 (h E hE).mono fun σ H Q ⟨σW,S,QW,hσ,hS,ht,hQ⟩=>⟨σW,S,_,hσ,hS,ht,fun ws S1 vs a H1 e1 fa ea na r1 hS1 h1=>by
  refine hQ (.ref a) (put S1 a (.lst ws)) (.ref a) H1 ⟨e1.tup,e1.frz,fun b o q g=>by
   have hb:b≠a:=by rintro rfl;rw [fa]at q;cases q
   rw [zaE hb];exact e1.fr b o q g,e1.all⟩ (.ref a) (fun b o q=>?_) (h1 a na)
  by_cases hb:b=a
  ·subst hb;rw [zah]at q;cases q;exact⟨vs,ea,r1⟩
  ·rw [zaE hb]at q;exact hS1 b o q⟩
end
noncomputable def zam (c:WSp) (t:WA):WE:=fun E σ S Q=>t E σ S fun ws S1=>c ws S1 Q fun cl S2=>E cl σ S2
noncomputable def zcx (n k:Nat) (body:WS):WSp:=fun ws S Q E=>ws.length=k∧body (fun c _ S'=>E c S') { nx:=fun _ S'=>∃S'',Sub S'' S'∧Q .non S'',rt:=fun w S'=>∃S'',Sub S'' S'∧Q w S'' } (ws.map some++List.replicate (n - k) none) S
section
variable {X:Cx}{k:Nat}{f:Addr}{fd:FuncData}{ps:List Str}{c:WSp}{x:Str}{p pos:Pos}{e:Expr}{es:List Expr}{t:WA}
theorem zaf (F:FnOk X.prog X.w X.K X.mg X.base (CX1 X.prog X.w) k f fd ps (zbI X.K c)) (hr:Room k X.A) (hg:Gl X x) (hm:X.mg x=some (.ref f)) (hk:PySem.W.keepIn X.K (.ref f)=true) (hb:Binds X.K fd ps [])
  (ha:JA X (e::es) t) (hdb:(x == ("__debug__" :Str))=false:=by decide) (he:starEach (e::es) X.env=(false,eval e X.env)::starEach es X.env:=by rfl) (hpl:(backTo pos (starEach es X.env)).any (·.1)=false:=by rfl) :
  JE X (.Call (.Name x p) (e::es) [] pos) (zam c t):=fun E hE pins s σ H Q I h=>by
 obtain⟨σW,S,QW,hσ,hS,ht,hQ⟩:=h;refine wpAny_Call_Name_kw (zeA I hg hm ?_ hdb);refine PySem.W.callWith_K (h₀:=X.base) I.ok.mod.kin hk (thn (ha E hE pos pins s σ H (fun vs H1=>∃ws S1,Reps X.K H1 ws vs∧RpSt X.K H1 σW σ∧RepS X.K H1 S1∧c ws S1 QW (fun cl S'=>E cl σW S')∧Wish X.K H1 S1 QW Q) I
  ⟨σW,S,_,hσ,hS,ht,fun ws S1 vs H1 e1 r1 hS1 h1=>⟨ws,S1,r1,hσ.ext e1,hS1,h1,hQ.from e1⟩⟩) fun us s1 ⟨vs,H1,I1,r,ws,S1,r1,hσ1,hS1,h1,hQ1⟩=>⟨I1.kIn,?_⟩) he hpl
 exact zvG F hr hb hE I1 r r1 hσ1 hS1 h1 hQ1
theorem zmM{K:PySem.W.Frag}{H:Hp}{N:List Str}{ws:List W}{vs:List V}(h:Reps K H ws vs):RpSt K H (ws.map some++List.replicate (N.length - ws.length) none) (start N vs):=by
 have go:∀{ws:List W}{vs:List V}(m:Nat),Reps K H ws vs→RpSt K H (ws.map some++List.replicate m none) (vs.map some++List.replicate m none):=by
  intro ws
  induction ws with
  |nil=>
   intro vs m h;cases h
   induction m with
   |zero=>exact .nil
   |succ m ih=>exact .cons trivial ih
  |cons w ws ih=>
   intro vs m h;cases h with
   |cons r rs=>exact .cons r (ih m rs)
 unfold start;rw [←h.length];exact go _ h
theorem zaS{P:Program}{w:World}{K:PySem.W.Frag}{mg:Str→Option Value}{base:Heap}{x qual:Str}{st:Stmt}{f:Addr}{fd:FuncData}{N ps:List Str}{r n k:Nat}{body:WS}(F:Fun K x qual st f fd) (S:FnScope N ps (zaj st)) (hn:N.length=n) (hk:ps.length=k)
  (hbody:∀(cdv:Value) (A:Around) (outer:List Env) (s:Shared) (H:Hp) (E:XK),Room r (A.deeper (envOfC qual (zaj st) s.heap.objs.size f cdv))→
   JSs (zrR (CX1 P w) P w K mg base N qual (zaj st) f cdv A outer s H E) (zes st) body):FnOk P w K mg base (CX1 P w) (r+1) f fd ps (zbI K (zcx n k body)):=by
 obtain⟨oc,od,kV,doc,pm,an,cdv,ct,osl,rfl,lk,hcd⟩:=F.ex;refine zvk lk hcd S (fun vs H Q E h=>?_) fun A outer s H vs Q E hr h=>?_
 ·obtain⟨ws,S,QW,EW,rs,_,h,_⟩:=h;rw [←rs.length,h.1,hk]
 ·obtain⟨ws,S',QW,EW,rs,hS,h,hQ,hEW⟩:=h;refine⟨_,hbody cdv A outer s H E hr (fun c _ S'=>EW c S') (zpr hEW),?_⟩;refine⟨_,S',{ nx:=fun _ S'=>∃S'',Sub S'' S'∧QW .non S'',rt:=fun w S'=>∃S'',Sub S'' S'∧QW w S'' },zmM (N:=N) rs,hS,by rw [hn,h.1];exact h.2,⟨fun σW S1 σ H1 e1 rr hS1 q=>?_,fun w S1 v H1 e1 rr hS1 q=>?_,fun _ _ _ _ _ _ _ q=>q,fun _ _ _ _ _ _ _ q=>q⟩⟩
  ·obtain⟨S2,sb,q⟩:=q;exact hQ .non S2 .non H1 (e1.trans (.drop sb)) .non (hS1.sub sb) q
  ·obtain⟨S2,sb,q⟩:=q;exact hQ w S2 v H1 (e1.trans (.drop sb)) rr (hS1.sub sb) q
end
noncomputable def zeI (C:Int→Int→Prop) (g:Int→Int→W):W2
 | .int i, .int j,S,Q=>C i j∧Q (g i j) S
 |_,_,_,_=>False
noncomputable def ziK (g:Int→Int→W):W2
 | .int i, .int j,S,Q=>Q (g i j) S
 |_,_,_,_=>False
theorem zgK{K:PySem.W.Frag}{C:Int→Int→Prop}{g:Int→Int→Int}:OpW K (rI C fun i j=> .int (g i j)) (zeI C fun i j=> .int (g i j)):=fun H x y wx wy S Q QW rx ry hS h hQ=>by
 cases rx<;>cases ry<;>first |exact⟨_,_,rfl,rfl,h.1,hQ _ S _ H .refl (.int _) hS h.2⟩ |exact h.elim
theorem zog{K:PySem.W.Frag}{g:Int→Int→Int}:OpW K (rI0 fun i j=> .int (g i j)) (ziK fun i j=> .int (g i j)):=fun H x y wx wy S Q QW rx ry hS h hQ=>by
 cases rx<;>cases ry<;>first |exact⟨_,_,rfl,rfl,hQ _ S _ H .refl (.int _) hS h⟩ |exact h.elim
theorem zgP{K:PySem.W.Frag}{g:Int→Int→Bool}:OpW K (rI0 fun i j=> .bl (g i j)) (ziK fun i j=> .bl (g i j)):=fun H x y wx wy S Q QW rx ry hS h hQ=>by
 cases rx<;>cases ry<;>first |exact⟨_,_,rfl,rfl,hQ _ S _ H .refl (.bl _) hS h⟩ |exact h.elim
noncomputable def zfY:W2
 | .int i, .int j,S,Q=>Q (.int (i+j)) S
 | .str x, .str y,S,Q=>x.length+y.length≤sizeLine∧Q (.str (x++y)) S
 | .tup xs, .tup ys,S,Q=>xs.length+ys.length≤sizeLine∧Q (.tup (xs++ys)) S
 | .ref a, .ref b,S,Q=>zbG S a fun xs=>zbG S b fun ys=>xs.length+ys.length≤sizeLine∧ ∀p,S p=none→Q (.ref p) (put S p (.lst (xs++ys)))
 |_,_,_,_=>False
section
variable {X:Cx}
theorem Reps.nil_r{K:PySem.W.Frag}{H:Hp}{ws:List W}(h:Reps K H ws []):ws=[]:=by cases h;rfl
theorem op_catT0:OpR X (binaryOp .Add) (fun x y H Q=>∃a b ys,x= .ref a∧y= .ref b∧SqT X.K H a []∧SqT X.K H b ys∧Q (.ref b) H):=by
 intro pins s σ H x y v u Q I rx ry h;obtain⟨a,b,ys,rfl,rfl,ha,hb,q⟩:=h;cases rx;cases ry;obtain⟨its,r1,p1,_⟩:=I.tuple ha;obtain⟨its2,r2,p2,_⟩:=I.tuple hb;cases r1;obtain⟨⟨cls,dd,data,sl⟩,ho,hc,n,hd⟩:=id p1;obtain⟨⟨cls2,dd2,data2,sl2⟩,ho2,hc2,n2,hd2⟩:=id p2;simp only at hc hd hc2 hd2;subst hc hd hc2 hd2;exact concat_meets ⟨_,ho,rfl⟩ ⟨_,ho2,rfl⟩ noFill_tuple_add seq_tuple_add PySem.F.slot_tuple_add PySem.F.entry_tuple_add (PySem.F.args_tuple_add_2 _ _)
   (tuple_addW0 a b _ _ n n2 dd dd2 sl sl2 (by simp)) ⟨ho,ho2,⟨.ref b,H,I,rfl,q⟩⟩
theorem zlT:OpR X (binaryOp .Add) (fun x y H Q=>(rI0 fun i j=> .int (i+j)) x y H Q∨(∃i j,x= .str i∧y= .str j∧i.length+j.length≤sizeLine∧Q (.str (i++j)) H)∨
  (∃a b ys,x= .ref a∧y= .ref b∧SqT X.K H a []∧SqT X.K H b ys∧Q (.ref b) H)∨zsa X.K x y H Q∨zwb x y H Q):=op_add.or (op_add_str.or (op_catT0.or (op_catT.or zmC)))
theorem zrs{K:PySem.W.Frag}:OpW K (fun x y H Q=>(rI0 fun i j=> .int (i+j)) x y H Q∨(∃i j,x= .str i∧y= .str j∧i.length+j.length≤sizeLine∧Q (.str (i++j)) H)∨
  (∃a b ys,x= .ref a∧y= .ref b∧SqT K H a []∧SqT K H b ys∧Q (.ref b) H)∨zsa K x y H Q∨zwb x y H Q) zfY:=fun H x y wx wy S Q QW rx ry hS h hQ=>by
 cases rx with
 |int i=>
  cases ry with
  |int j=>exact .inl ⟨i,j,rfl,rfl,hQ _ S _ H .refl (.int _) hS h⟩
  |_=>exact h.elim
 |str i=>
  cases ry with
  |str j=>exact .inr (.inl ⟨i,j,rfl,rfl,h.1,hQ _ S _ H .refl (.str _) hS h.2⟩)
  |_=>exact h.elim
 | @tup a vs ws f hs=>
  cases ry with
  | @tup b us zs g ks=>
   cases hs with
   |nil=>exact .inr (.inr (.inl ⟨a,b,us,rfl,rfl, .of f, .of g,hQ (.tup zs) S _ H .refl (.tup g ks) hS h.2⟩))
   |cons h1 h2=>
    refine .inr (.inr (.inr (.inl ⟨a,b,_,us,rfl,rfl, .of f, .of g,by simp,?_,fun e=>?_,fun e p hp=>?_⟩)))
    ·rw [←(Reps.cons h1 h2).length,←ks.length];exact h.1
    ·subst e;have e':=ks.nil_r;subst e';have q:=h.2;rw [List.append_nil]at q;exact hQ _ S _ H .refl (.tup f (.cons h1 h2)) hS q
    ·exact hQ _ S _ _ (.new hp) (.tup zat (((Reps.cons h1 h2).append ks).ext (.new (S:=S) hp))) (hS.new hp) h.2
  |_=>exact h.elim
 |ref a=>
  cases ry with
  |ref b=>
   obtain⟨xs,ea,h⟩:=zaR h;obtain⟨ys,eb,h⟩:=zaR h;obtain⟨vs,e1,r1⟩:=hS a _ ea;obtain⟨us,e2,r2⟩:=hS b _ eb;refine .inr (.inr (.inr (.inr ⟨a,b,vs,us,rfl,rfl,e1,e2,by rw [←r1.length,←r2.length];exact h.1,fun p hp=>?_⟩)))
   exact hQ _ _ _ _ (.newS hp) (.ref p) (hS.put_lst hp ((r1.append r2).ext (.new (S:=S) hp))) (h.2 p (hS.free hp))
  |_=>exact h.elim
 |_=>exact h.elim
variable {a b:Expr}{pos:Pos}{ta tb:WE}
theorem zbY (ha:JE X a ta) (hb:JE X b tb):JE X (.BinOp a .Add b pos) (wOp zfY ta tb):=ziX zlT zrs ha hb
theorem zqk (ha:JE X a ta) (hb:JE X b tb):JE X (.BinOp a .Sub b pos) (wOp (ziK fun i j=> .int (i - j)) ta tb):=ziX zsA zog ha hb
theorem zqm (ha:JE X a ta) (hb:JE X b tb):JE X (.BinOp a .Mult b pos) (wOp (zeI CMul fun i j=> .int (i*j)) ta tb):=ziX ztK zgK ha hb
theorem zfl (ha:JE X a ta) (hb:JE X b tb):JE X (.BinOp a .FloorDiv b pos) (wOp (zeI zrV fun i j=> .int (i / j)) ta tb):=ziX zqQ zgK ha hb
theorem zcM (ha:JE X a ta) (hb:JE X b tb):JE X (.BinOp a .Mod b pos) (wOp (zeI (fun _ j=>0<j) fun i j=> .int (i % j)) ta tb):=ziX zuW zgK ha hb
theorem zsQ (ha:JE X a ta) (hb:JE X b tb):JE X (.BinOp a .Pow b pos) (wOp (zeI zvS fun i j=> .int (i ^ j.toNat)) ta tb):=ziX zuO zgK ha hb
noncomputable def zkX (t:WE):WE:=fun E σ S Q=>t E σ S fun w S1=>match w with
 | .int i=>Q (.int (-i)) S1
 |_=>False
theorem zde (ha:JE X a ta):JE X (.UnaryOp .USub a pos) (zkX ta):=fun E hE=>
 (zvw zuC (ha E hE)).mono fun σ H Q ⟨σW,S,QW,hσ,hS,ht,hQ⟩=>⟨σW,S,_,hσ,hS,ht,fun w S1 v H1 e1 r1 hS1 h1=>by
  cases r1 with
  |int i=>exact⟨i,rfl,hQ _ S1 _ H1 e1 (.int _) hS1 h1⟩
  |_=>exact h1.elim⟩
noncomputable def zwG (t u:WE):WL:=fun E σ S Q=>t E σ S fun x S1=>u E σ S1 fun y S2=>match x,y with
 | .ref a, .ref b=>zbG S2 a fun xs=>zbG S2 b fun ys=>xs.length+ys.length≤sizeLine∧Q (xs++ys) S2
 |_,_=>False
end
noncomputable def zek (f:W→W→Option Bool):List W→List W→Option Bool
 | [],[]=>some true
 | [],_=>some false
 |_,[]=>some false
 |x::xs,y::ys=>match f x y,zek f xs ys with
  |some a,some b=>some (a&&b)
  |_,_=>none
noncomputable def eqF (S:Sto):Nat→W→W→Option Bool
 |0,_,_=>none
 |n+1,w,u=>match w,u with
  | .non, .non=>some true
  | .bl a, .bl b=>some (a == b)
  | .int a, .int b=>some (a == b)
  | .str a, .str b=>some (a == b)
  | .tup _, .int _=>some false
  | .int _, .tup _=>some false
  | .tup xs, .tup ys=>zek (eqF S n) xs ys
  | .ref a, .ref b=>match S a with
   |some (.lst xs)=>match S b with
    |some (.lst ys)=>zek (eqF S n) xs ys
    |_=>none
   |_=>none
  |_,_=>none
theorem zky{f:W→W→Option Bool}:∀{xs ys:List W}{b:Bool},zek f xs ys=some b→
  (∀j,j<xs.length→j<ys.length→ ∃c,f (xs.getD j .non) (ys.getD j .non)=some c)∧
  ((List.range (min xs.length ys.length)).all (fun j=>(f (xs.getD j .non) (ys.getD j .non)).getD true)&&xs.length == ys.length)=b
 | [],[],b,h=>by
  have:true=b:=Option.some.inj h;subst this;exact⟨fun j h=>absurd h (by simp),by simp⟩
 | [],y::ys,b,h=>by
  have:false=b:=Option.some.inj h;subst this;exact⟨fun j h=>absurd h (by simp),by simp⟩
 |x::xs,[],b,h=>by
  have:false=b:=Option.some.inj h;subst this;exact⟨fun j _ h=>absurd h (by simp),by simp⟩
 |x::xs,y::ys,b,h=>by
  unfold zek at h;split at h
  ·rename_i c d e1 e2;have hb:(c&&d)=b:=Option.some.inj h;obtain⟨h1,h2⟩:=zky e2;refine⟨fun j j1 j2=>?_,?_⟩
   ·cases j with
    |zero=>exact⟨c,by simpa using e1⟩
    |succ j=>simpa using h1 j (by simpa using j1) (by simpa using j2)
   ·have hm:min (xs.length+1) (ys.length+1)=min xs.length ys.length+1:=by omega
    have hl:(xs.length+1 == ys.length+1)=(xs.length == ys.length):=by simp
    rw [List.length_cons,List.length_cons,hm,List.range_succ_eq_map,List.all_cons,List.all_map,hl];have q:((fun j=>(f ((x::xs).getD j .non) ((y::ys).getD j .non)).getD true)∘Nat.succ)=fun j=>(f (xs.getD j .non) (ys.getD j .non)).getD true:=by
     funext j;simp
    rw [q,Bool.and_assoc,h2];have q0:(f ((x::xs).getD 0 .non) ((y::ys).getD 0 .non)).getD true=c:=by simp [e1]
    rw [q0,hb]
  ·cases h
section
variable {X:Cx}{pins:List (Addr×Obj)}{σ:St}{H:Hp}{s:Shared}{S:Sto}
theorem zhd (I:Inv X pins σ H s):∀(n:Nat) {wx wy:W}{v:V}{b:Bool},Rep X.K H wx v→Rep X.K H wy v→RepS X.K H S→eqF S n wx wy=some b→b=true
 |0,_,_,_,_,_,_,_,h=>by cases h
 |n+1,wx,wy,v,b,rx,ry,hS,h=>by
  have list:∀{ws us:List W}{vs:List V}{b:Bool},Reps X.K H ws vs→Reps X.K H us vs→zek (eqF S n) ws us=some b→b=true:=by
   intro ws
   induction ws with
   |nil=>
    intro us vs b r1 r2 e;cases r1;cases r2;exact(Option.some.inj e).symm
   |cons w ws ih=>
    intro us vs b r1 r2 e;cases r1 with
    |cons a1 a2=>
     cases r2 with
     |cons c1 c2=>
      unfold zek at e;split at e
      ·rename_i c d e1 e2;have q1:=zhd I n a1 c1 hS e1;have q2:=ih a2 c2 e2;have:=Option.some.inj e;rw [q1,q2]at this;exact this.symm
      ·cases e
  cases rx with
  |non=>cases ry;exact(Option.some.inj h).symm
  |bl k=>cases ry;have:=Option.some.inj h;simpa using this.symm
  |int k=>cases ry;have:=Option.some.inj h;simpa using this.symm
  |str k=>cases ry;have:=Option.some.inj h;simpa using this.symm
  |ref a=>
   cases ry with
   |ref _=>
    have h':(match S a with
     |some (.lst xs)=>match S a with
      |some (.lst ys)=>zek (eqF S n) xs ys
      |_=>none
     |_=>none)=some b:=h
    cases e:S a with
    |none=>rw [e]at h';cases h'
    |some o=>
     rw [e]at h';cases o with
     |lst ws=>
      obtain⟨vs,_,r⟩:=hS a _ e;exact list r r h'
     |dct _=>cases h'
     |ins _ _=>cases h'
   |scr _=>cases h
   |tup _ _=>cases h
  |scr f=>cases ry<;>cases h
  |tup f hs=>
   cases ry with
   |ref _=>cases h
   |scr _=>cases h
   |tup g ks=>
    have e:=I.tuple_inj (.of f) (.of g);subst e;exact list hs ks h
theorem ziN{A:Around}:A.in1.units=A.units+1:=rfl
theorem zkF (I:Inv X pins σ H s) (hS:RepS X.K H S):∀(n:Nat) {A:Around}{wx wy:W}{x y:V}{u v:Value}{b:Bool},A.units+n<cLine→Rep X.K H wx x→Rep X.K H wy y→RelV x u→RelV y v→eqF S n wx wy=some b→
  SeqAt.EqAt A s u v b∧SeqAt.RcAt A s u v b∧SeqAt.RcNeAt A s u v (!b)
 |0,_,_,_,_,_,_,_,_,_,_,_,_,_,h=>by cases h
 |n+1,A,wx,wy,x,y,u,v,b,hu,rx,ry,ru,rv,h=>by
  have hu0:A.units<cLine:=by omega
  have items:∀{ws zs:List W}{xs ys:List V}{us vs:List Value}{b:Bool},Reps X.K H ws xs→Reps X.K H zs ys→Vals xs us→Vals ys vs→zek (eqF S n) ws zs=some b→
    (∀j (h1:j<us.toArray.size) (h2:j<vs.toArray.size),SeqAt.EqAt A.in1 s us.toArray[j] vs.toArray[j] ((eqF S n (ws.getD j .non) (zs.getD j .non)).getD true))∧
    ((List.range (min us.toArray.size vs.toArray.size)).all (fun j=>(eqF S n (ws.getD j .non) (zs.getD j .non)).getD true)&&us.toArray.size == vs.toArray.size)=b:=by
   intro ws zs xs ys us vs b r1 r2 q1 q2 e;obtain⟨h1,h2⟩:=zky e;have l1:=r1.length;have l2:=r2.length;have l3:=q1.length;have l4:=q2.length;refine⟨fun j j1 j2=>?_,?_⟩
   ·rw [List.size_toArray]at j1 j2;obtain⟨c,hc⟩:=h1 j (by omega) (by omega);have jw:j<ws.length:=by omega
    have jz:j<zs.length:=by omega
    obtain⟨x',ex,rx'⟩:=r1.get (List.getElem?_eq_getElem jw);obtain⟨y',ey,ry'⟩:=r2.get (List.getElem?_eq_getElem jz);obtain⟨u',eu,ru'⟩:=q1.get ex;obtain⟨v',ev,rv'⟩:=q2.get ey;have e1:us.toArray[j]=u':=by
     obtain⟨_,e⟩:=List.getElem?_eq_some_iff.mp eu;simpa using e
    have e2:vs.toArray[j]=v':=by
     obtain⟨_,e⟩:=List.getElem?_eq_some_iff.mp ev;simpa using e
    have g1:ws.getD j .non=ws[j]:=by rw [List.getD_eq_getElem?_getD,List.getElem?_eq_getElem jw];rfl
    have g2:zs.getD j .non=zs[j]:=by rw [List.getD_eq_getElem?_getD,List.getElem?_eq_getElem jz];rfl
    rw [e1,e2,hc];rw [g1,g2]at hc;exact(zkF I hS n (by rw [ziN];omega) rx' ry' ru' rv' hc).1
   ·rw [List.size_toArray,List.size_toArray,←l3,←l4,←l1,←l2];exact h2
  cases rx with
  |non=>
   cases(show u=Value.none from ru);cases ry with
   |non=>cases(show v=Value.none from rv);cases h;exact⟨.same _, .none_none, .none_none⟩
   |_=>cases h
  |bl k=>
   cases(show u=Value.bool k from ru);cases ry with
   |bl j=>cases(show v=Value.bool j from rv);cases h;exact⟨.bool_bool _ _, .bool_bool _ _, .bool_bool _ _⟩
   |_=>cases h
  |int k=>
   obtain⟨t0,rfl⟩:=ru;cases ry with
   |int j=>obtain⟨t,rfl⟩:=rv;cases h;exact⟨.int_int _ _ _ _, .int_int _ _ _ _, .int_int _ _ _ _⟩
   |tup f hs=>cases(show v=Value.ref _ from rv);cases h;obtain⟨its,_,p,_⟩:=I.tuple (.of f);exact⟨.int_tuple _ _ p hu0, .int_tuple _ _ p hu0, .int_tuple _ _ p hu0⟩
   |_=>cases h
  |str k=>
   obtain⟨t0,rfl⟩:=ru;cases ry with
   |str j=>obtain⟨t,rfl⟩:=rv;cases h;exact⟨.str_str _ _ _ _, .str_str _ _ _ _, .str_str _ _ _ _⟩
   |_=>cases h
  | @tup a xs ws f hs=>
   cases(show u=Value.ref a from ru);obtain⟨its,q1,p,_⟩:=I.tuple (.of f);cases ry with
   |int j=>obtain⟨t,rfl⟩:=rv;cases h;exact⟨.tuple_int _ _ p hu0, .tuple_int _ _ p hu0, .tuple_int _ _ p hu0⟩
   | @tup c ys zs g ks=>
    cases(show v=Value.ref c from rv);obtain⟨its2,q2,p2,_⟩:=I.tuple (.of g);obtain⟨h1,h2⟩:=items hs ks q1 q2 h;have rc:SeqAt.RcAt A s (.ref a) (.ref c) b:=by
     have:=SeqAt.RcAt.tuples p p2 hu0 h1;rw [h2]at this;exact this
    have rn:SeqAt.RcNeAt A s (.ref a) (.ref c) (!b):=by
     have:=SeqAt.RcNeAt.tuples p p2 hu0 h1;rw [h2]at this;exact this
    refine⟨?_,rc,rn⟩;by_cases e:a=c
    ·subst e;have:=zhd I (n+1) (.tup f hs) (.tup g ks) hS h;rw [this];exact .same _
    ·exact .of_refs e rc
   |_=>cases h
  |ref a=>
   cases(show u=Value.ref a from ru);cases ry with
   |ref c=>
    cases(show v=Value.ref c from rv);have h':(match S a with
     |some (.lst xs)=>match S c with
      |some (.lst ys)=>zek (eqF S n) xs ys
      |_=>none
     |_=>none)=some b:=h
    cases e:S a with
    |none=>rw [e]at h';cases h'
    |some o=>
     rw [e]at h';cases o with
     |dct _=>cases h'
     |ins _ _=>cases h'
     |lst ws=>
      cases e2:S c with
      |none=>rw [e2]at h';cases h'
      |some o2=>
       rw [e2]at h';cases o2 with
       |dct _=>cases h'
       |ins _ _=>cases h'
       |lst zs=>
        obtain⟨xs,f,hs⟩:=hS a _ e;obtain⟨ys,g,ks⟩:=hS c _ e2;obtain⟨its,q1,p,_⟩:=I.list (.of f);obtain⟨its2,q2,p2,_⟩:=I.list (.of g);obtain⟨h1,h2⟩:=items hs ks q1 q2 h';have both:SeqAt.RcAt A s (.ref a) (.ref c) b∧SeqAt.RcNeAt A s (.ref a) (.ref c) (!b):=by
         by_cases hz:its.toArray.size=its2.toArray.size
         ·have t1:=SeqAt.RcAt.lists p.isList p2.isList hz hu0 h1;have t2:=SeqAt.RcNeAt.lists p.isList p2.isList hz hu0 h1;rw [←hz,Nat.min_self,beq_self_eq_true,Bool.and_true]at h2;rw [h2]at t1 t2;exact⟨t1,t2⟩
         ·have hz':(its.toArray.size != its2.toArray.size)=true:=by simpa using hz
          have hz2:(its.toArray.size == its2.toArray.size)=false:=by simpa using hz
          rw [hz2,Bool.and_false]at h2;subst h2;exact⟨.lists_lengths p.isList p2.isList hz' hu0, .lists_lengths p.isList p2.isList hz' hu0⟩
        refine⟨?_,both.1,both.2⟩;by_cases ee:a=c
        ·subst ee;have:=zhd I (n+1) (.ref a) (.ref a) hS h;rw [this];exact .same _
        ·exact .of_refs ee both.1
   |_=>cases h
  |scr f=>cases ry<;>cases h
end
noncomputable def oEq (neg:Bool):W2:=fun x y S Q=>match eqF S 60 x y with
 |some b=>Q (.bl (if neg then !b else b)) S
 |none=>False
noncomputable def zvn (K:PySem.W.Frag) (neg:Bool):R2:=fun x y H Q=>∃wx wy S b,Rep K H wx x∧Rep K H wy y∧RepS K H S∧eqF S 60 wx wy=some b∧Q (.bl (if neg then !b else b)) H
section
variable {X:Cx}
theorem zpM (hu:X.A.units+60<cLine):OpR X (compareOp .Eq) (zvn X.K false):=by
 intro pins s σ H x y v u Q I rx ry h;obtain⟨wx,wy,S,b,r1,r2,hS,e,q⟩:=h;exact(zkF I hS 60 hu r1 r2 rx ry e).2.1 _ _ _ _ ⟨.bl b,H,I,rfl,q⟩
theorem zub (hu:X.A.units+60<cLine):OpR X (compareOp .NotEq) (zvn X.K true):=by
 intro pins s σ H x y v u Q I rx ry h;obtain⟨wx,wy,S,b,r1,r2,hS,e,q⟩:=h;exact(zkF I hS 60 hu r1 r2 rx ry e).2.2 _ _ _ _ ⟨.bl (!b),H,I,rfl,q⟩
theorem zmE{K:PySem.W.Frag}{neg:Bool}:OpW K (zvn K neg) (oEq neg):=fun H x y wx wy S Q QW rx ry hS h hQ=>by
 unfold oEq at h;split at h
 ·rename_i b e;exact⟨wx,wy,S,b,rx,ry,hS,e,hQ _ S _ H .refl (.bl _) hS h⟩
 ·exact h.elim
variable {a b c:Expr}{pos:Pos}{ta tb:WE}
theorem zmh{k:Nat}(hr:Room k X.A) (ha:JE X a ta) (hb:JE X b tb):JE X (.Compare a [.Eq] [b] pos) (wOp (oEq false) ta tb):=zlE (zpM (by have:=hr.units;omega)) zmE ha hb (nomark b)
theorem zeJ{k:Nat}(hr:Room k X.A) (ha:JE X a ta) (hb:JE X b tb):JT X (.Compare a [.Eq] [b] pos) (wTb (wOp (oEq false) ta tb)):=zfS (zpM (by have:=hr.units;omega)) zmE ha hb (nomark b)
theorem zow{k:Nat}(hr:Room k X.A) (ha:JE X a ta) (hb:JE X b tb):JT X (.Compare a [.NotEq] [b] pos) (wTb (wOp (oEq true) ta tb)):=zfS (zub (by have:=hr.units;omega)) zmE ha hb (nomark b)
noncomputable abbrev oLt:W2:=ziK fun i j=> .bl (decide (i<j))
noncomputable abbrev oGt:W2:=ziK fun i j=> .bl (decide (j<i))
noncomputable def oLe:W2
 | .int i, .int j,S,Q=>Q (.bl (decide (i≤j))) S
 | .str i, .str j,S,Q=>Q (.bl (!decide (j.cps.toList<i.cps.toList))) S
 |_,_,_,_=>False
theorem zqw{K:PySem.W.Frag}:OpW K (fun x y H Q=>rI0 (fun i j=> .bl (decide (i≤j))) x y H Q∨(∃i j,x= .str i∧y= .str j∧Q (.bl (!decide (j.cps.toList<i.cps.toList))) H)) oLe:=fun H x y wx wy S Q QW rx ry hS h hQ=>by
 cases rx with
 |int i=>
  cases ry with
  |int j=>exact .inl ⟨i,j,rfl,rfl,hQ _ S _ H .refl (.bl _) hS h⟩
  |_=>exact h.elim
 |str i=>
  cases ry with
  |str j=>exact .inr ⟨i,j,rfl,rfl,hQ _ S _ H .refl (.bl _) hS h⟩
  |_=>exact h.elim
 |_=>exact h.elim
theorem zvH (ha:JE X a ta) (hb:JE X b tb):JT X (.Compare a [.Lt] [b] pos) (wTb (wOp oLt ta tb)):=zfS zvX zgP ha hb (nomark b)
theorem zwp (ha:JE X a ta) (hb:JE X b tb):JE X (.Compare a [.Gt] [b] pos) (wOp oGt ta tb):=zlE zuP zgP ha hb (nomark b)
theorem ztY (ha:JE X a ta) (hb:JE X b tb):JT X (.Compare a [.Gt] [b] pos) (wTb (wOp oGt ta tb)):=zfS zuP zgP ha hb (nomark b)
noncomputable def zhD (r r':W2) (a b c:WE):WE:=fun E σ S Q=>a E σ S fun x S1=>b E σ S1 fun y S2=>r x y S2 fun z S3=>match z with
 | .bl true=>c E σ S3 fun u S4=>r' y u S4 Q
 | .bl false=>Q (.bl false) S3
 |_=>False
noncomputable def oIs (neg:Bool):W2
 | .non, .non,S,Q=>Q (.bl (!neg)) S
 | .bl a, .bl b,S,Q=>Q (.bl (if neg then a != b else a == b)) S
 | .bl _, .non,S,Q=>Q (.bl neg) S
 | .int _, .non,S,Q=>Q (.bl neg) S
 | .str _, .non,S,Q=>Q (.bl neg) S
 | .tup _, .non,S,Q=>Q (.bl neg) S
 | .ref _, .non,S,Q=>Q (.bl neg) S
 |_,_,_,_=>False
theorem zqh:OpR X (compareOp .Is) (fun x y H Q=>(y= .non∧Q (.bl (decide (x= .non))) H)∨ ∃a b,x= .bl a∧y= .bl b∧Q (.bl (a == b)) H):=op_isN.or (by
 intro pins s σ H x y v u Q I rx ry h;obtain⟨a,b,rfl,rfl,q⟩:=h;cases rx;cases ry;exact is_bool ⟨.bl _,H,I,rfl,q⟩)
theorem znl:OpR X (compareOp .IsNot) (fun x y H Q=>(y= .non∧Q (.bl (!decide (x= .non))) H)∨ ∃a b,x= .bl a∧y= .bl b∧Q (.bl (a != b)) H):=op_notN.or (by
 intro pins s σ H x y v u Q I rx ry h;obtain⟨a,b,rfl,rfl,q⟩:=h;cases rx;cases ry;exact isnot_bool ⟨.bl _,H,I,rfl,q⟩)
theorem zpK{K:PySem.W.Frag}:OpW K (fun x y H Q=>(y= .non∧Q (.bl (decide (x= .non))) H)∨ ∃a b,x= .bl a∧y= .bl b∧Q (.bl (a == b)) H) (oIs false):=fun H x y wx wy S Q QW rx ry hS h hQ=>by
 cases ry with
 |non=>cases rx<;>first |exact .inl ⟨rfl,by simpa using hQ _ S _ H .refl (.bl _) hS h⟩ |exact h.elim
 |bl b=>
  cases rx with
  |bl a=>exact .inr ⟨a,b,rfl,rfl,hQ _ S _ H .refl (.bl _) hS h⟩
  |_=>exact h.elim
 |_=>cases rx<;>exact h.elim
theorem zmD{K:PySem.W.Frag}:OpW K (fun x y H Q=>(y= .non∧Q (.bl (!decide (x= .non))) H)∨ ∃a b,x= .bl a∧y= .bl b∧Q (.bl (a != b)) H) (oIs true):=fun H x y wx wy S Q QW rx ry hS h hQ=>by
 cases ry with
 |non=>cases rx<;>first |exact .inl ⟨rfl,by simpa using hQ _ S _ H .refl (.bl _) hS h⟩ |exact h.elim
 |bl b=>
  cases rx with
  |bl a=>exact .inr ⟨a,b,rfl,rfl,hQ _ S _ H .refl (.bl _) hS h⟩
  |_=>exact h.elim
 |_=>cases rx<;>exact h.elim
theorem zuV (ha:JE X a ta) (hb:JE X b tb):JE X (.Compare a [.Is] [b] pos) (wOp (oIs false) ta tb):=zlE zqh zpK ha hb (nomark b)
theorem zoS (ha:JE X a ta) (hb:JE X b tb):JT X (.Compare a [.Is] [b] pos) (wTb (wOp (oIs false) ta tb)):=zfS zqh zpK ha hb (nomark b)
theorem zjP (ha:JE X a ta) (hb:JE X b tb):JT X (.Compare a [.IsNot] [b] pos) (wTb (wOp (oIs true) ta tb)):=zfS znl zmD ha hb (nomark b)
end
noncomputable def inF (S:Sto) (x:W):List W→Option Bool
 | []=>some false
 |w::ws=>match eqF S 59 w x with
  |some a=>match inF S x ws with
   |some b=>some (a || b)
   |none=>none
  |none=>none
section
variable {X:Cx}{pins:List (Addr×Obj)}{σ:St}{H:Hp}{s:Shared}{S:Sto}
theorem zjJ (I:Inv X pins σ H s) (hS:RepS X.K H S):∀(n:Nat) {w w' u:W}{v:V}{b b':Bool},Rep X.K H w v→Rep X.K H w' v→eqF S n w u=some b→eqF S n w' u=some b'→b=b'
 |0,_,_,_,_,_,_,_,_,h,_=>by cases h
 |n+1,w,w',u,v,b,b',r,r',h,h'=>by
  have list:∀{us ws zs:List W}{vs:List V}{b b':Bool},Reps X.K H ws vs→Reps X.K H zs vs→zek (eqF S n) ws us=some b→zek (eqF S n) zs us=some b'→b=b':=by
   intro us
   induction us with
   |nil=>
    intro ws zs vs b b' r1 r2 e1 e2;cases r1 with
    |nil=>cases r2;rw [e1]at e2;exact Option.some.inj e2
    |cons _ _=>cases r2 with
     |cons _ _=>have:=Option.some.inj e1;have:=Option.some.inj e2;subst_vars;rfl
   |cons u us ih=>
    intro ws zs vs b b' r1 r2 e1 e2;cases r1 with
    |nil=>cases r2;rw [e1]at e2;exact Option.some.inj e2
    |cons a1 a2=>
     cases r2 with
     |cons c1 c2=>
      unfold zek at e1 e2;split at e1
      ·rename_i p q f1 f2;split at e2
       ·rename_i p' q' g1 g2;have h1:=zjJ I hS n a1 c1 f1 g1;have h2:=ih a2 c2 f2 g2;rw [←Option.some.inj e1,←Option.some.inj e2,h1,h2]
       ·cases e2
      ·cases e1
  have nolist:∀{a:Addr}{vs:List V}{ws:List W},H a=some (.tup vs)→S a=some (.lst ws)→False:=fun f e=>by
   obtain⟨_,g,_⟩:=hS _ _ e;rw [f]at g;cases g
  cases r with
  |non=>cases r';rw [h]at h';exact Option.some.inj h'
  |bl k=>cases r';rw [h]at h';exact Option.some.inj h'
  |int k=>cases r';rw [h]at h';exact Option.some.inj h'
  |str k=>cases r';rw [h]at h';exact Option.some.inj h'
  |scr f=>cases u<;>cases h
  | @tup a vs ws f hs=>
   cases r' with
   | @tup _ us zs g ks=>
    rw [f]at g;cases g;cases u with
    |tup us=>exact list hs ks h h'
    |int _=>have:=Option.some.inj h;have:=Option.some.inj h';subst_vars;rfl
    |_=>cases h
   |scr _=>cases u<;>cases h'
   |ref _=>
    exfalso;cases u with
    |ref c=>
     have h2:(match S a with
      |some (.lst xs)=>match S c with
       |some (.lst ys)=>zek (eqF S n) xs ys
       |_=>none
      |_=>none)=some b':=h'
     split at h2
     ·exact nolist f ‹_›
     ·cases h2
    |_=>cases h'
  |ref a=>
   cases r' with
   |ref _=>rw [h]at h';exact Option.some.inj h'
   |scr _=>cases u<;>cases h'
   |tup f hs=>
    exfalso;cases u with
    |ref c=>
     have h2:(match S a with
      |some (.lst xs)=>match S c with
       |some (.lst ys)=>zek (eqF S n) xs ys
       |_=>none
      |_=>none)=some b:=h
     split at h2
     ·exact nolist f ‹_›
     ·cases h2
    |_=>cases h
open Classical in
theorem zpJ (I:Inv X pins σ H s) (hS:RepS X.K H S) {A:Around}{ws:List W}{vs:List V}{us:List Value}{wx:W}{x:V}{u:Value}{b:Bool}(hu:A.units+60<cLine) (r:Reps X.K H ws vs) (rv:Vals vs us) (rx:Rep X.K H wx x) (ru:RelV x u) (h:inF S wx ws=some b) :
  ∃e:Value→Bool,(∀y,y∈us.toArray→SeqAt.EqAt A.in1 s y u (e y))∧us.toArray.any e=b:=by
 refine⟨fun y=>decide (∃w v,Rep X.K H w v∧RelV v y∧eqF S 59 w wx=some true),?_,?_⟩
 ·have go:∀{ws:List W}{vs:List V}{us:List Value}{b:Bool},Reps X.K H ws vs→Vals vs us→inF S wx ws=some b→ ∀y∈us,SeqAt.EqAt A.in1 s y u (decide (∃w v,Rep X.K H w v∧RelV v y∧eqF S 59 w wx=some true)):=by
   intro ws
   induction ws with
   |nil=>intro vs us b r rv h y hy;cases r;cases rv;cases hy
   |cons w ws ih=>
    intro vs us b r rv h y hy;cases r with
    |cons r1 r2=>
     cases rv with
     |cons q1 q2=>
      unfold inF at h;split at h
      ·rename_i c e1;split at h
       ·rename_i d e2;rcases List.mem_cons.mp hy with rfl |hy
        ·have ok:=(zkF I hS 59 (A:=A.in1) (by rw [ziN];omega) r1 rx q1 ru e1).1;have ec:c=decide (∃w v,Rep X.K H w v∧RelV v y∧eqF S 59 w wx=some true):=by
          cases c with
          |true=>exact(decide_eq_true ⟨w,_,r1,q1,e1⟩).symm
          |false=>
           symm;refine decide_eq_false fun⟨w',v',r',q',e'⟩=>?_;have:=RelV.inj q' q1;subst this;exact absurd (zjJ I hS 59 r1 r' e1 e') (by simp)
         rw [←ec];exact ok
        ·exact ih r2 q2 e2 y hy
       ·cases h
      ·cases h
  intro y hy;exact go r rv h y (by simpa using hy)
 ·have go:∀{ws:List W}{vs:List V}{us:List Value}{b:Bool},Reps X.K H ws vs→Vals vs us→inF S wx ws=some b→us.any (fun y=>decide (∃w v,Rep X.K H w v∧RelV v y∧eqF S 59 w wx=some true))=b:=by
   intro ws
   induction ws with
   |nil=>intro vs us b r rv h;cases r;cases rv;exact Option.some.inj h
   |cons w ws ih=>
    intro vs us b r rv h;cases r with
    |cons r1 r2=>
     cases rv with
     | @cons _ _ _ _ q1 q2=>
      rename_i y _;unfold inF at h;split at h
      ·rename_i c e1;split at h
       ·rename_i d e2;have ec:decide (∃w v,Rep X.K H w v∧RelV v y∧eqF S 59 w wx=some true)=c:=by
          cases c with
          |true=>exact decide_eq_true ⟨w,_,r1,q1,e1⟩
          |false=>
           refine decide_eq_false fun⟨w',v',r',q',e'⟩=>?_;have:=RelV.inj q' q1;subst this;exact absurd (zjJ I hS 59 r1 r' e1 e') (by simp)
        rw [List.any_cons,ih r2 q2 e2,ec];exact Option.some.inj h
       ·cases h
      ·cases h
  have:=go r rv h;simpa using this
end
noncomputable def oIn (neg:Bool):W2:=fun x y S Q=>match y with
 | .str j=>match x with
  | .str i=>Q (.bl (if neg then !(!(Builtin.Str.occurrences j i 0 j.length 1).isEmpty) else !(Builtin.Str.occurrences j i 0 j.length 1).isEmpty)) S
  |_=>False
 | .tup ws=>match inF S x ws with
  |some b=>Q (.bl (if neg then !b else b)) S
  |none=>False
 | .ref a=>zbG S a fun ws=>match inF S x ws with
  |some b=>Q (.bl (if neg then !b else b)) S
  |none=>False
 |_=>False
noncomputable def zwP (K:PySem.W.Frag) (neg:Bool):R2:=fun x y H Q=>∃wx ws vs S p b,y= .ref p∧(SqL K H p vs∨SqT K H p vs)∧Reps K H ws vs∧Rep K H wx x∧RepS K H S∧inF S wx ws=some b∧Q (.bl (if neg then !b else b)) H
section
variable {X:Cx}{a b:Expr}{pos:Pos}{ta tb:WE}
theorem zsC (hu:X.A.units+60<cLine):OpR X (compareOp .In) (zwP X.K false):=by
 intro pins s σ H x y v u Q I rx ry h;obtain⟨wx,ws,vs,S,p,b,rfl,hq,rs,r,hS,e,q⟩:=h;cases ry;rcases hq with hq |hq
 ·obtain⟨its,rv,p,_⟩:=I.list hq;obtain⟨f,h1,h2⟩:=zpJ I hS hu rs rv r rx e;exact SeqAt.in_listAt f p.isList h1 (by rw [h2];exact⟨.bl b,H,I,rfl,q⟩)
 ·obtain⟨its,rv,p,_⟩:=I.tuple hq;obtain⟨f,h1,h2⟩:=zpJ I hS hu rs rv r rx e;exact SeqAt.in_tupleAt f p h1 (by rw [h2];exact⟨.bl b,H,I,rfl,q⟩)
theorem zkZ{K:PySem.W.Frag}{neg:Bool}{H:Hp}{x y:V}{wx wy:W}{S:Sto}{Q:VK}{QW:WK}(rx:Rep K H wx x) (ry:Rep K H wy y) (hS:RepS K H S) (h:oIn neg wx wy S QW) (hQ:Wish K H S QW Q) :
  (∃i j,x= .str i∧y= .str j∧Q (.bl (if neg then !(!(Builtin.Str.occurrences j i 0 j.length 1).isEmpty) else !(Builtin.Str.occurrences j i 0 j.length 1).isEmpty)) H)∨zwP K neg x y H Q:=by
 cases ry with
 |str j=>
  cases rx with
  |str i=>exact .inl ⟨i,j,rfl,rfl,hQ _ S _ H .refl (.bl _) hS h⟩
  |_=>exact h.elim
 |tup f hs=>
  refine .inr ?_;unfold oIn at h;dsimp only at h;split at h
  ·exact⟨wx,_,_,S,_,_,rfl, .inr (.of f),hs,rx,hS, ‹_›,hQ _ S _ H .refl (.bl _) hS h⟩
  ·exact h.elim
 |ref a=>
  refine .inr ?_;obtain⟨ws,e,h⟩:=zaR h;obtain⟨vs,f,hs⟩:=hS a _ e;split at h
  ·exact⟨wx,_,_,S,_,_,rfl, .inl (.of f),hs,rx,hS, ‹_›,hQ _ S _ H .refl (.bl _) hS h⟩
  ·exact h.elim
 |_=>exact h.elim
theorem zwv{k:Nat}(hr:Room k X.A) (ha:JE X a ta) (hb:JE X b tb) (hm:behindInMarks .In b=false:=by with_unfolding_all rfl):JT X (.Compare a [.In] [b] pos) (wTb (wOp (oIn false) ta tb)):=
 zfS (op_in_str.or (zsC (by have:=hr.units;omega))) (fun H x y wx wy S Q QW rx ry hS h hQ=>zkZ rx ry hS h hQ) ha hb hm
end
noncomputable def oIx:W2:=fun x y S Q=>match y with
 | .int i=>match x with
  | .tup ws=>match atI ws i with
   |some w=>Q w S
   |none=>False
  | .ref a=>zbG S a fun ws=>match atI ws i with
   |some w=>Q w S
   |none=>False
  | .scr ns=>match atI ns i with
   |some n=>Q (.int n) S
   |none=>False
  | .str x=>x.length≤sizeLine∧match atI x.cps.toList i with
   |some c=>Q (.str ⟨#[c]⟩) S
   |none=>False
  |_=>False
 |_=>False
theorem ziT{K:PySem.W.Frag}{H:Hp}{ws:List W}{vs:List V}{i:Int}{w:W}(r:Reps K H ws vs) (e:atI ws i=some w):∃v,atI vs i=some v∧Rep K H w v:=by
 unfold atI at e⊢;rw [←r.length];cases q:ixN ws.length i with
 |none=>rw [q]at e;cases e
 |some j=>rw [q]at e;exact r.get e
theorem zrk{α β:Type}{f:α→β}{xs:List α}{i:Int}{x:α}(e:atI xs i=some x):atI (xs.map f) i=some (f x):=by
 unfold atI at e⊢;rw [List.length_map];cases q:ixN xs.length i with
 |none=>rw [q]at e;cases e
 |some j=>
  rw [q]at e;show(xs.map f)[j]? =_;rw [List.getElem?_map,show xs[j]? =some x from e];rfl
theorem zsT{K:PySem.W.Frag}:OpW K (rIx K) oIx:=fun H x y wx wy S Q QW rx ry hS h hQ=>by
 cases ry with
 |int i=>
  cases rx with
  |tup f hs=>
   unfold oIx at h;dsimp only at h;split at h
   ·obtain⟨v,ev,r⟩:=ziT hs ‹_›;exact .inr (.inl ⟨_,_,i,v,rfl,rfl, .of f,ev,hQ _ S _ H .refl r hS h⟩)
   ·exact h.elim
  |ref a=>
   obtain⟨ws,e,h⟩:=zaR h;obtain⟨vs,f,hs⟩:=hS a _ e;split at h
   ·obtain⟨v,ev,r⟩:=ziT hs ‹_›;exact .inl ⟨_,_,i,v,rfl,rfl, .of f,ev,hQ _ S _ H .refl r hS h⟩
   ·exact h.elim
  |scr f=>
   unfold oIx at h;dsimp only at h;split at h
   ·exact .inl ⟨_,_,i,_,rfl,rfl,f.sq,zrk ‹_›,hQ _ S _ H .refl (.int _) hS h⟩
   ·exact h.elim
  |str z=>
   unfold oIx at h;dsimp only at h;obtain⟨hz,h⟩:=h;split at h
   ·exact .inr (.inr ⟨z,i,_,rfl,rfl,hz, ‹_›,hQ _ S _ H .refl (.str _) hS h⟩)
   ·exact h.elim
  |_=>exact h.elim
 |_=>exact h.elim
section
variable {X:Cx}{a b e:Expr}{pos p2:Pos}{ta tb te:WE}{lo hi:Option Expr}
theorem zav (ha:JE X a ta) (hb:JE X b tb) (hs:ziP b:=by intro _ _;rfl):JE X (.Subscript a b pos) (wOp oIx ta tb):=fun E hE=>
 (ztf zpZ (ha E hE) (hb E hE) hs).mono fun σ H Q h=>zfe h fun H2 x y wx wy S QW rx ry hS q hQ=>zsT H2 x y wx wy S Q QW rx ry hS q hQ
noncomputable abbrev WO:=WX→WSt→Sto→(Option Int→Sto→Prop)→Prop
noncomputable def zvm (K:PySem.W.Frag) (t:WSt→Sto→(Option Int→Sto→Prop)→Prop):TO:=fun σ H Q=>∃σW S QW,RpSt K H σW σ∧RepS K H S∧t σW S QW∧ ∀b S' H',Ext H S H' S'→RepS K H' S'→QW b S'→Q b H'
noncomputable def JO (X:Cx) (e:Option Expr) (t:WO):Prop:=∀E,Hook X E→PO X e (zvm X.K (t E))
noncomputable def woN:WO:=fun _ _ S Q=>Q none S
noncomputable def woS (t:WE):WO:=fun E σ S Q=>t E σ S fun w S1=>match w with
 | .int i=>Q (some i) S1
 |_=>False
theorem PO.mono{X:Cx}{e:Option Expr}{t t':TO}(h:PO X e t) (q:∀σ H Q,t' σ H Q→t σ H Q):PO X e t':=fun pins s σ H Q I z=>h pins s σ H Q I (q σ H Q z)
theorem zcp:JO X none woN:=fun E hE=>po_none.mono fun σ H Q ⟨σW,S,QW,hσ,hS,ht,hQ⟩=>hQ none S H .refl hS ht
theorem zcn (h:JE X e te):JO X (some e) (woS te):=fun E hE=>(zrL (h E hE)).mono fun σ H Q ⟨σW,S,QW,hσ,hS,ht,hQ⟩=>⟨σW,S,_,hσ,hS,ht,fun w S1 v H1 e1 r1 hS1 h1=>by
 cases r1 with
 |int i=>exact⟨i,rfl,hQ _ S1 H1 e1 hS1 h1⟩
 |_=>exact h1.elim⟩
noncomputable def zeW {α:Type}(xs:List α) (lo hi:Option Int):List α:=(xs.drop (HT.sIx xs.length 0 lo)).take (HT.sIx xs.length xs.length hi - HT.sIx xs.length 0 lo)
theorem zgT{K:PySem.W.Frag}{H:Hp}{ws:List W}{vs:List V}{lo hi:Option Int}(r:Reps K H ws vs):Reps K H (zeW ws lo hi) (zmx vs lo hi):=by
 unfold zeW zmx;rw [r.length];exact(r.drop _).take _
theorem zkz{α β:Type}{f:α→β}{xs:List α}{lo hi:Option Int}:zeW (xs.map f) lo hi=(zeW xs lo hi).map f:=by
 unfold zeW;rw [List.length_map,List.map_take,List.map_drop]
theorem zdI{prog:Program}{w:World}{A:Around}{E:Value→Shared→Prop}{s:Shared}{t sl:Addr}{items:Array Value}{vl vu:Value}{lo hi:Option Int}{Q:Value→Shared→Prop}(ht:IsTup s.heap t items) (hs:s.heap.IsSliceOf sl vl vu .none) (pl:IsPart vl lo) (pu:IsPart vu hi)
  (hw:HT.sIx items.size 0 lo=0∧HT.sIx items.size items.size hi=items.size) (h:Q (.ref t) s):wpAny (model prog w) A (getItem (.ref t) (.ref sl)) Q E s:=by
 obtain⟨os,hos,hcs,hds⟩:=id hs;have hTs:s.TypeIs (.ref sl) "slice" :=⟨os,hos,hcs⟩;unfold getItem
 try with_reducible refine wpAny_holding ?_
 first |refine wpAny_bind (wpAny_pure ?_) |skip
 refine wpAny_bind (wpAny_sequenceKey ht.typeIs (by decide) ?_);refine wpAny_bind (wpAny_callSpecial?_slot (name:=Str.ofString "__getitem__") ht.typeIs PyProof.Rows.slot_tuple_getitem
  (wpAny_call_entry PyProof.Rows.slot_tuple_getitem ht.typeIs entry_tuple_getitem ?_ (args_tuple_getitem _ _)))
 show wpAny _ _ (Builtin.Tuple.tupleItemsOf (.ref t) >>= _) _ _ s;refine wpAny_bind (tupleItemsOf_ ht ?_);refine wpAny_bind (wpAny_typeOf hTs ?_);rw [if_pos (by decide)];refine wpAny_bind (HT.sliceApplied_gen hs pl pu ?_);show wpAny _ _ (if(((HT.sIx items.size 0 lo:Nat):Int) == 0&&(1:Int) == 1&&(HT.sIx items.size items.size hi - HT.sIx items.size 0 lo) == items.size)=true then _ else _) _ _ s;rw [hw.1,hw.2,if_pos (by simp)];unfold Builtin.Tuple.tupleIsExact;refine wpAny_bind (wpAny_bind (wpAny_typeOf ht.typeIs (wpAny_pure ?_)));rw [if_pos (by decide)];exact wpAny_bind (wpAny_rule (wpAny_pure ⟨_,rfl,wpAny_pure h⟩))
theorem sl_tupW:SlR X (fun x lo hi H Q=>∃a xs,x= .ref a∧SqT X.K H a xs∧((HT.sIx xs.length 0 lo=0∧HT.sIx xs.length xs.length hi=xs.length)∧Q (.ref a) H∨ ¬(HT.sIx xs.length 0 lo=0∧HT.sIx xs.length xs.length hi=xs.length)∧ ∀p,H p=none→Q (.ref p) (upd H p (.tup (zmx xs lo hi))))):=by
 intro pins s σ H x v vl vu lo hi sl Q I rx hs pl pu h;obtain⟨a,xs,rfl,hx,⟨hw,q⟩ |⟨hw,q⟩⟩:=h
 ·cases rx;obtain⟨its,r,ht,hz⟩:=I.tuple hx;have hlen:its.toArray.size=xs.length:=by rw [List.size_toArray];exact r.length.symm
  refine⟨"tuple",_,PyProof.Rows.slot_tuple_getitem.lookup,ht.typeIs,?_⟩;exact zdI ht hs pl pu (by rw [hlen];exact hw) ⟨.ref a,H,I,rfl,q⟩
 ·exact zsK pins s σ H _ v vl vu lo hi sl Q I rx hs pl pu ⟨a,xs,rfl,hx,hw,q⟩
noncomputable def oSl:W→Option Int→Option Int→Sto→WK→Prop
 | .tup ws,lo,hi,S,Q=>Q (.tup (zeW ws lo hi)) S
 | .str z,lo,hi,S,Q=>z.length≤sizeLine∧Q (.str (Txt.slice z lo hi)) S
 | .ref a,lo,hi,S,Q=>zbG S a fun ws=>∀p,S p=none→Q (.ref p) (put S p (.lst (zeW ws lo hi)))
 | .scr ns,lo,hi,S,Q=>∀p,S p=none→Q (.ref p) (put S p (.lst ((zeW ns lo hi).map W.int)))
 |_,_,_,_,_=>False
noncomputable def wSl (t:WE) (l h:WO):WE:=fun E σ S Q=>t E σ S fun x S1=>l E σ S1 fun lo S2=>h E σ S2 fun hi S3=>oSl x lo hi S3 Q
theorem zln{α:Type}{xs:List α}{lo hi:Option Int}(h:HT.sIx xs.length 0 lo=0∧HT.sIx xs.length xs.length hi=xs.length):zeW xs lo hi=xs:=by
 unfold zeW;rw [h.1,h.2,List.drop_zero,Nat.sub_zero,List.take_length]
theorem zgY{tl th:WO}(he:JE X e te) (hl:JO X lo tl) (hh:JO X hi th):JE X (.Subscript e (.Slice lo hi none p2) pos) (wSl te tl th):=fun E hE=>
 (zkj (sl_tupW.or (sl_str.or znH)) (he E hE) (hl E hE) (hh E hE)).mono fun σ H Q ⟨σW,S,QW,hσ,hS,ht,hQ⟩=>
  ⟨σW,S,_,hσ,hS,ht,fun w S1 v H1 e1 r1 hS1 h1=>⟨σW,S1,_,hσ.ext e1,hS1,h1,fun lo S2 H2 e2 hS2 h2=>⟨σW,S2,_,(hσ.ext e1).ext e2,hS2,h2,fun hi S3 H3 e3 hS3 h3=>by
   have hQ':=hQ.from (e1.trans (e2.trans e3));have r3:=(r1.ext e2).ext e3;cases r3 with
   | @tup a vs ws f hs=>
    refine .inl ⟨a,vs,rfl, .of f,?_⟩;by_cases hw:HT.sIx vs.length 0 lo=0∧HT.sIx vs.length vs.length hi=vs.length
    ·refine .inl ⟨hw,hQ' (.tup ws) S3 _ H3 .refl (.tup f hs) hS3 ?_⟩;have:=zln (xs:=ws) (lo:=lo) (hi:=hi) (by rw [hs.length];exact hw);have h3':QW (.tup (zeW ws lo hi)) S3:=h3;rw [this]at h3';exact h3'
    ·exact .inr ⟨hw,fun p hp=>hQ' _ S3 _ _ (.new hp) (.tup zat ((zgT hs).ext (.new (S:=S3) hp))) (hS3.new hp) h3⟩
   |str z=>exact .inr (.inl ⟨z,rfl,h3.1,hQ' _ S3 _ H3 .refl (.str _) hS3 h3.2⟩)
   |ref a=>
    obtain⟨ws,ea,h⟩:=zaR h3;obtain⟨vs,f,hs⟩:=hS3 a _ ea;exact .inr (.inr ⟨a,vs,rfl, .of f,fun p hp=>hQ' _ _ _ _ (.newS hp) (.ref p) (hS3.put_lst hp ((zgT hs).ext (.new (S:=S3) hp))) (h p (hS3.free hp))⟩)
   | @scr a ns f=>
    refine .inr (.inr ⟨a,_,rfl,f.sq,fun p hp=>hQ' _ _ _ _ (.newS hp) (.ref p) (hS3.put_lst hp ?_) (h3 p (hS3.free hp))⟩);have q:zmx (ns.map V.int) lo hi=(zeW ns lo hi).map V.int:=zkz;rw [q];exact Reps.ofInts _
   |_=>exact h3.elim⟩⟩⟩
noncomputable def zwy (t:WE) (l h:WO):WL:=fun E σ S Q=>t E σ S fun x S1=>l E σ S1 fun lo S2=>h E σ S2 fun hi S3=>match x with
 | .ref a=>zbG S3 a fun ws=>Q (zeW ws lo hi) S3
 | .scr ns=>Q ((zeW ns lo hi).map W.int) S3
 |_=>False
theorem zwl{tl th:WO}(he:JE X e te) (hl:JO X lo tl) (hh:JO X hi th):JL X (.Subscript e (.Slice lo hi none p2) pos) (zwy te tl th):=fun E hE=>
 (zkj znH (he E hE) (hl E hE) (hh E hE)).mono fun σ H Q ⟨σW,S,QW,hσ,hS,ht,hQ⟩=>
  ⟨σW,S,_,hσ,hS,ht,fun w S1 v H1 e1 r1 hS1 h1=>⟨σW,S1,_,hσ.ext e1,hS1,h1,fun lo S2 H2 e2 hS2 h2=>⟨σW,S2,_,(hσ.ext e1).ext e2,hS2,h2,fun hi S3 H3 e3 hS3 h3=>by
   have e':=e1.trans (e2.trans e3);have r3:=(r1.ext e2).ext e3;cases r3 with
   |ref a=>
    obtain⟨ws,ea,h⟩:=zaR h3;obtain⟨vs,f,hs⟩:=hS3 a _ ea;exact⟨a,vs,rfl, .of f,fun p hp=>hQ _ S3 _ p _ (e'.trans (.new hp)) (e'.free hp) zat (hS3.free hp) ((zgT hs).ext (.new (S:=S3) hp)) (hS3.new hp) h⟩
   | @scr a ns f=>
    refine⟨a,_,rfl,f.sq,fun p hp=>hQ _ S3 _ p _ (e'.trans (.new hp)) (e'.free hp) zat (hS3.free hp) ?_ (hS3.new hp) h3⟩;have q:zmx (ns.map V.int) lo hi=(zeW ns lo hi).map V.int:=zkz;rw [q];exact Reps.ofInts _
   |_=>exact h3.elim⟩⟩⟩
end
noncomputable abbrev WF:=List W→Sto→WK→Prop
noncomputable def wB (f:WF) (t:WA):WE:=fun E σ S Q=>t E σ S fun ws S1=>f ws S1 Q
noncomputable def zma (K:PySem.W.Frag) (r:List V→Hp→VK→Prop) (f:WF):Prop:=∀H vs ws S (Q:VK) (QW:WK),Reps K H ws vs→RepS K H S→f ws S QW→Wish K H S QW Q→r vs H Q
noncomputable def wBL (f:WF) (t:WL):WE:=fun E σ S Q=>t E σ S fun ws S1=>f ws S1 Q
noncomputable def zoD (K:PySem.W.Frag) (r:List V→Hp→VK→Prop) (f:WF):Prop:=∀H a vs ws S (Q:VK) (QW:WK),H a=some (.lst vs)→S a=none→Reps K H ws vs→RepS K H S→f ws S QW→Wish K H S QW Q→r [.ref a] H Q
section
variable {X:Cx}{x:Str}{p pos:Pos}{e:Expr}{es:List Expr}{t:WA}{tl:WL}{id T:String}{r:List V→Hp→VK→Prop}{f:WF}
theorem ztJ (hc:CallR X (.builtin id) r) (hw:zma X.K r f) (hg:Gl X x) (hm:X.mg x=none) (hv:bootBuiltins x=some (.builtin id)) (ha:JA X (e::es) t) (hn:x≠ "__name__" :=by decide) (hdb:(x == ("__debug__" :Str))=false:=by decide)
  (he:starEach (e::es) X.env=(false,eval e X.env)::starEach es X.env:=by rfl) (hpl:(backTo pos (starEach es X.env)).any (·.1)=false:=by rfl):JE X (.Call (.Name x p) (e::es) [] pos) (wB f t):=fun E hE=>
 (zej hc hg hm hv (ha E hE) hn hdb he hpl).mono fun σ H Q ⟨σW,S,QW,hσ,hS,ht,hQ⟩=>⟨σW,S,_,hσ,hS,ht,fun ws S1 vs H1 e1 r1 hS1 h1=>hw H1 vs ws S1 Q QW r1 hS1 h1 (hQ.from e1)⟩
theorem ztt (hc:CallR X (.type T) r) (hw:zma X.K r f) (hg:Gl X x) (hm:X.mg x=none) (hv:bootBuiltins x=some (.type T)) (ha:JA X (e::es) t) (hn:x≠ "__name__" :=by decide) (hdb:(x == ("__debug__" :Str))=false:=by decide)
  (he:starEach (e::es) X.env=(false,eval e X.env)::starEach es X.env:=by rfl) (hpl:(backTo pos (starEach es X.env)).any (·.1)=false:=by rfl):JE X (.Call (.Name x p) (e::es) [] pos) (wB f t):=fun E hE=>
 (zfN hc hg hm hv (ha E hE) hn hdb he hpl).mono fun σ H Q ⟨σW,S,QW,hσ,hS,ht,hQ⟩=>⟨σW,S,_,hσ,hS,ht,fun ws S1 vs H1 e1 r1 hS1 h1=>hw H1 vs ws S1 Q QW r1 hS1 h1 (hQ.from e1)⟩
theorem zqC (hc:CallR X (.builtin id) r) (hw:zoD X.K r f) (hg:Gl X x) (hm:X.mg x=none) (hv:bootBuiltins x=some (.builtin id)) (ha:JL X e tl) (hn:x≠ "__name__" :=by decide) (hdb:(x == ("__debug__" :Str))=false:=by decide)
  (he:starEach [e] X.env=(false,eval e X.env)::starEach [] X.env:=by rfl) (hpl:(backTo pos (starEach [] X.env)).any (·.1)=false:=by rfl):JE X (.Call (.Name x p) [e] [] pos) (wBL f tl):=fun E hE=>
 (zej hc hg hm hv (zby (ha E hE) pa_nil he) hn hdb he hpl).mono fun σ H Q ⟨σW,S,QW,hσ,hS,ht,hQ⟩=>⟨σW,S,_,hσ,hS,ht,fun ws S1 vs a H1 e1 fa ea na r1 hS1 h1=>hw H1 a vs ws S1 Q QW ea na r1 hS1 h1 (hQ.from e1)⟩
theorem ztX (hc:CallR X (.type T) r) (hw:zoD X.K r f) (hg:Gl X x) (hm:X.mg x=none) (hv:bootBuiltins x=some (.type T)) (ha:JL X e tl) (hn:x≠ "__name__" :=by decide) (hdb:(x == ("__debug__" :Str))=false:=by decide)
  (he:starEach [e] X.env=(false,eval e X.env)::starEach [] X.env:=by rfl) (hpl:(backTo pos (starEach [] X.env)).any (·.1)=false:=by rfl):JE X (.Call (.Name x p) [e] [] pos) (wBL f tl):=fun E hE=>
 (zfN hc hg hm hv (zby (ha E hE) pa_nil he) hn hdb he hpl).mono fun σ H Q ⟨σW,S,QW,hσ,hS,ht,hQ⟩=>⟨σW,S,_,hσ,hS,ht,fun ws S1 vs a H1 e1 fa ea na r1 hS1 h1=>hw H1 a vs ws S1 Q QW ea na r1 hS1 h1 (hQ.from e1)⟩
noncomputable def zlq:WF:=fun ws S Q=>match ws with
 | [.tup us]=>Q (.int us.length) S
 | [.ref a]=>zbG S a fun us=>Q (.int us.length) S
 | [.scr ns]=>Q (.int ns.length) S
 | [.str z]=>z.length≤sizeLine∧Q (.int z.length) S
 |_=>False
theorem znK{K:PySem.W.Frag}:zma K (fun xs H Q=>(∃p ys,xs=[.ref p]∧(SqL K H p ys∨SqT K H p ys)∧Q (.int ys.length) H)∨ ∃z,xs=[.str z]∧z.length≤sizeLine∧Q (.int z.length) H) zlq:=fun H vs ws S Q QW r hS h hQ=>by
 cases r with
 |nil=>exact h.elim
 |cons r1 r2=>
  cases r2 with
  |cons _ _=>cases r1<;>exact h.elim
  |nil=>
   cases r1 with
   |tup f hs=>exact .inl ⟨_,_,rfl, .inr (.of f),by rw [←hs.length];exact hQ _ S _ H .refl (.int _) hS h⟩
   |ref a=>
    obtain⟨us,e,h⟩:=zaR h;obtain⟨vs,f,hs⟩:=hS a _ e;exact .inl ⟨_,_,rfl, .inl (.of f),by rw [←hs.length];exact hQ _ S _ H .refl (.int _) hS h⟩
   |scr f=>exact .inl ⟨_,_,rfl, .inl f.sq,by rw [List.length_map];exact hQ _ S _ H .refl (.int _) hS h⟩
   |str z=>exact .inr ⟨z,rfl,h.1,hQ _ S _ H .refl (.int _) hS h.2⟩
   |_=>exact h.elim
theorem zfn (hg:Gl X "len") (hm:X.mg "len" =none) (ha:JA X (e::es) t) 
  (he:starEach (e::es) X.env=(false,eval e X.env)::starEach es X.env:=by rfl) (hpl:(backTo pos (starEach es X.env)).any (·.1)=false:=by rfl):JE X (.Call (.Name "len" p) (e::es) [] pos) (wB zlq t):=
 ztJ (call_len_seq.or zhJ) znK hg hm PySem.boot_len ha (by decide) (by decide) he hpl
noncomputable def zfP:WF:=fun ws S Q=>match ws with
 | [.tup us]=>Q (.tup us) S
 | [.ref a]=>zbG S a fun us=>Q (.tup us) S
 |_=>False
theorem zjG{K:PySem.W.Frag}:zma K (fun xs H Q=>∃p ys,xs=[.ref p]∧((SqL K H p ys∧ ∀l,H l=none→Q (.ref l) (upd H l (.tup ys)))∨(SqT K H p ys∧Q (.ref p) H))) zfP:=fun H vs ws S Q QW r hS h hQ=>by
 cases r with
 |nil=>exact h.elim
 |cons r1 r2=>
  cases r2 with
  |cons _ _=>cases r1<;>exact h.elim
  |nil=>
   cases r1 with
   |tup f hs=>exact⟨_,_,rfl, .inr ⟨.of f,hQ _ S _ H .refl (.tup f hs) hS h⟩⟩
   |ref a=>
    obtain⟨us,e,h⟩:=zaR h;obtain⟨vs,f,hs⟩:=hS a _ e;exact⟨_,_,rfl, .inl ⟨.of f,fun l hl=>hQ _ S _ _ (.new hl) (.tup zat (hs.ext (.new (S:=S) hl))) (hS.new hl) h⟩⟩
   |_=>exact h.elim
noncomputable def zgJ:WF:=fun ws S Q=>Q (.tup ws) S
theorem ziV{K:PySem.W.Frag}:zoD K (fun xs H Q=>∃p ys,xs=[.ref p]∧((SqL K H p ys∧ ∀l,H l=none→Q (.ref l) (upd H l (.tup ys)))∨(SqT K H p ys∧Q (.ref p) H))) zgJ:=fun H a vs ws S Q QW ea na r hS h hQ=>
 ⟨a,vs,rfl, .inl ⟨.of ea,fun l hl=>hQ _ S _ _ (.new hl) (.tup zat (r.ext (.new (S:=S) hl))) (hS.new hl) h⟩⟩
noncomputable def zjg (t:WE):WL:=fun E σ S Q=>t E σ S fun w S1=>match w with
 | .tup ws=>Q ws S1
 | .ref a=>zbG S1 a fun ws=>Q ws S1
 | .scr ns=>Q (ns.map W.int) S1
 |_=>False
theorem zqK{te:WE}(hg:Gl X "list") (hm:X.mg "list" =none) (ha:JE X e te)
  (he:starEach [e] X.env=(false,eval e X.env)::starEach [] X.env:=by rfl) (hpl:(backTo pos (starEach [] X.env)).any (·.1)=false:=by rfl):JL X (.Call (.Name "list" p) [e] [] pos) (zjg te):=fun E hE=>
 (zfN zig hg hm PyProof.Rows.boot_list (zby (ha E hE) pa_nil he) (by decide) (by decide) he hpl).mono fun σ H Q ⟨σW,S,QW,hσ,hS,ht,hQ⟩=>⟨σW,S,_,hσ,hS,ht,fun w S1 v H1 e1 r1 hS1 h1=>by
  cases r1 with
  |tup f hs=>exact⟨_,_,rfl, .inr (.of f),fun l hl=>hQ _ S1 _ l _ (e1.trans (.new hl)) (e1.free hl) zat (hS1.free hl) (hs.ext (.new (S:=S1) hl)) (hS1.new hl) h1⟩
  |ref a=>
   obtain⟨ws,ea,h⟩:=zaR h1;obtain⟨vs,f,hs⟩:=hS1 a _ ea;exact⟨_,_,rfl, .inl (.of f),fun l hl=>hQ _ S1 _ l _ (e1.trans (.new hl)) (e1.free hl) zat (hS1.free hl) (hs.ext (.new (S:=S1) hl)) (hS1.new hl) h⟩
  |scr f=>exact⟨_,_,rfl, .inl f.sq,fun l hl=>hQ _ S1 _ l _ (e1.trans (.new hl)) (e1.free hl) zat (hS1.free hl) (Reps.ofInts _) (hS1.new hl) h1⟩
  |_=>exact h1.elim⟩
noncomputable def zfX:List W→Option (List Bool)
 | []=>some []
 | .bl b::ws=>(zfX ws).map (b:: ·)
 |_=>none
theorem zlG{K:PySem.W.Frag}{H:Hp}:∀{ws:List W}{vs:List V}{bs:List Bool},Reps K H ws vs→zfX ws=some bs→vs=bs.map V.bl
 | [],_,_, .nil,e=>by have:=Option.some.inj e;subst this;rfl
 |w::ws,_,_, .cons r rs,e=>by
  cases r with
  |bl b=>
   have e':(zfX ws).map (b:: ·)=some _:=e;cases q:zfX ws with
   |none=>rw [q]at e';cases e'
   |some cs=>
    rw [q]at e';have:=Option.some.inj e';subst this;rw [List.map_cons,zlG rs q]
  |_=>cases e
noncomputable def zjc:WF:=fun ws S Q=>match zfX ws with
 |some bs=>Q (.bl (bs.all _root_.id)) S
 |none=>False
theorem zmS{K:PySem.W.Frag}:zoD K (fun xs H Q=>∃(p:Addr) (bs:List Bool),xs=[.ref p]∧SqL K H p (bs.map V.bl)∧Q (.bl (bs.all _root_.id)) H) zjc:=fun H a vs ws S Q QW ea na r hS h hQ=>by
 unfold zjc at h;split at h
 ·rename_i bs e;have:=zlG r e;subst this;exact⟨a,bs,rfl, .of ea,hQ _ S _ H .refl (.bl _) hS h⟩
 ·exact h.elim
noncomputable def tyW:W→Sto→(String→Prop)→Prop
 | .non,_,Q=>Q "NoneType"
 | .bl _,_,Q=>Q "bool"
 | .int _,_,Q=>Q "int"
 | .str _,_,Q=>Q "str"
 | .tup _,_,Q=>Q "tuple"
 | .ref a,S,Q=>zbG S a fun _=>Q "list"
 | .scr _,_,_=>False
noncomputable def zbl (A B:String):Bool:=A == B || (A == "bool" &&B == "int")
noncomputable def ztN (T:String) (t:WE):WE:=fun E σ S Q=>t E σ S fun w S1=>tyW w S1 fun A=>Q (.bl (zbl A T)) S1
theorem znO{a:Expr}{ta:WE}{p2:Pos}{T:Str}{T':String}(hg:Gl X "isinstance") (hm:X.mg "isinstance" =none) (hgT:Gl X T) (hmT:X.mg T=none) (hv:bootBuiltins T=some (.type T')) (ha:JE X a ta) (hn:T≠ "__name__") (hd:(T == ("__debug__" :Str))=false)
  (hk:∀A∈ ["NoneType", "bool", "int", "str", "tuple", "list"],PySem.W.kitOne X.K (.type A) (.type T')=some (zbl A T'))
  (he:starEach [a, .Name T p2] X.env=(false,eval a X.env)::starEach [.Name T p2] X.env:=by rfl) (he2:starEach [.Name T p2] X.env=(false,eval (.Name T p2) X.env)::starEach [] X.env:=by rfl) (hpl:(backTo pos (starEach [.Name T p2] X.env)).any (·.1)=false:=by rfl) :
  JE X (.Call (.Name "isinstance" p) [a, .Name T p2] [] pos) (ztN T' ta):=fun E hE=>
 (zej zpp hg hm PyProof.Rows.boot_isinstance (zby (ha E hE) (zby (znf (v:= .ty T') hgT hmT hv rfl hn hd) pa_nil he2) he) (by decide) (by decide) he hpl).mono fun σ H Q ⟨σW,S,QW,hσ,hS,ht,hQ⟩=>⟨σW,S,_,hσ,hS,ht,fun w S1 v H1 e1 r1 hS1 h1=>by
  have fin:∀{t:Value}(A:String),t= .type A→A∈ ["NoneType", "bool", "int", "str", "tuple", "list"]→TyOf X.K H1 v t→QW (.bl (zbl A T')) S1→ ∃x t c b,[v,V.ty T']=[x, .ty c]∧TyOf X.K H1 x t∧PySem.W.kitOne X.K t (.type c)=some b∧Q (.bl b) H1:=fun A e hA ty q=>by
   subst e;exact⟨v,_,T',_,rfl,ty,hk A hA,hQ _ S1 _ H1 e1 (.bl _) hS1 q⟩
  cases r1 with
  |non=>exact fin _ rfl (by simp) .non h1
  |bl b=>exact fin _ rfl (by simp) (.bl b) h1
  |int i=>exact fin _ rfl (by simp) (.int i) h1
  |str z=>exact fin _ rfl (by simp) (.str z) h1
  |tup f hs=>exact fin _ rfl (by simp) (.tup f) h1
  |ref a=>
   obtain⟨ws,ea,h⟩:=zaR h1;obtain⟨vs,f,hs⟩:=hS1 a _ ea;exact fin _ rfl (by simp) (.lst f) h
  |scr f=>exact h1.elim⟩
end
noncomputable abbrev WMf:=W→List W→Sto→WK→Prop
noncomputable def rvL:W→Sto→Prop
 | .ref a,S=>zbG S a fun _=>True
 |_,_=>False
noncomputable def rvS:W→Sto→Prop
 | .str _,_=>True
 |_,_=>False
noncomputable def wM (rv:W→Sto→Prop) (f:WMf) (to:WE) (t:WA):WE:=fun E σ S Q=>to E σ S fun w S1=>rv w S1∧t E σ S1 fun ws S2=>f w ws S2 Q
noncomputable def wML (rv:W→Sto→Prop) (f:WMf) (to:WE) (t:WL):WE:=fun E σ S Q=>to E σ S fun w S1=>rv w S1∧t E σ S1 fun ws S2=>f w ws S2 Q
noncomputable def MtW (K:PySem.W.Frag) (r:V→List V→Hp→VK→Prop) (f:WMf):Prop:=∀H x w vs ws S (Q:VK) (QW:WK),Rep K H w x→Reps K H ws vs→RepS K H S→f w ws S QW→Wish K H S QW Q→r x vs H Q
noncomputable def MtL (K:PySem.W.Frag) (r:V→List V→Hp→VK→Prop) (f:WMf):Prop:=∀H x w a vs ws S (Q:VK) (QW:WK),Rep K H w x→H a=some (.lst vs)→S a=none→Reps K H ws vs→RepS K H S→f w ws S QW→Wish K H S QW Q→r x [.ref a] H Q
noncomputable def zuZ (K:PySem.W.Frag) (T:String) (rv:W→Sto→Prop):Prop:=∀H w v S,Rep K H w v→RepS K H S→rv w S→tyV K T v H
theorem zqn{K:PySem.W.Frag}:zuZ K "list" rvL:=fun H w v S r hS h=>by
 cases r with
 |ref a=>
  obtain⟨ws,e,_⟩:=zaR h;obtain⟨vs,f,_⟩:=hS a _ e;exact .inl ⟨rfl,vs, .of f⟩
 |_=>exact h.elim
theorem zqB{K:PySem.W.Frag}:zuZ K "str" rvS:=fun H w v S r hS h=>by
 cases r with
 |str x=>exact rfl
 |_=>exact h.elim
section
variable {X:Cx}{o e:Expr}{es:List Expr}{to:WE}{t:WA}{tl:WL}{name:Str}{apos cpos:Pos}{id T:String}{r:V→List V→Hp→VK→Prop}{f:WMf}{rv:W→Sto→Prop}
theorem zwO (pa:PlainAttrs T) (slot:Slot T name id) (hty:typeOf (.builtin id)=pure (.type "method_descriptor")) (hrv:zuZ X.K T rv) (hm:MtR X id r) (hw:MtW X.K r f) (ho:JE X o to) (ha:JA X (e::es) t)
  (hbase:attributeBase o name X.env (eval o X.env)=eval o X.env:=by rfl)
  (hfew:((backTo cpos (starEach (e::es) X.env)).all (fun x=> !x.1)&&(backToKw cpos (keywordEach [] X.env)).all (fun x=>x.1.isSome)
   &&decide ((e::es).length+([]:List Keyword).length+(if([]:List Keyword).isEmpty then 0 else 1)<30))=true:=by rfl)
  (hline:(apos.endLine == cpos.line)=true:=by rfl) (hs:starEach (e::es) X.env=(false,eval e X.env)::starEach es X.env:=by rfl) (hplain:(backTo cpos (starEach es X.env)).any (·.1)=false:=by rfl) :
  JE X (.Call (.Attribute o name apos) (e::es) [] cpos) (wM rv f to t):=fun E hE=>
 (ztV pa slot hty hm (ho E hE) (ha E hE) hbase hfew hline hs hplain).mono fun σ H Q ⟨σW,S,QW,hσ,hS,ht,hQ⟩=>⟨σW,S,_,hσ,hS,ht,fun w S1 v H1 e1 r1 hS1 h1=>
  ⟨hrv H1 w v S1 r1 hS1 h1.1,σW,S1,_,hσ.ext e1,hS1,h1.2,fun ws S2 vs H2 e2 r2 hS2 h2=>hw H2 v w vs ws S2 Q QW (r1.ext e2) r2 hS2 h2 (hQ.from (e1.trans e2))⟩⟩
theorem zvA (pa:PlainAttrs T) (slot:Slot T name id) (hty:typeOf (.builtin id)=pure (.type "method_descriptor")) (hrv:zuZ X.K T rv) (hm:MtR X id r) (hw:MtL X.K r f) (ho:JE X o to) (ha:JL X e tl)
  (hbase:attributeBase o name X.env (eval o X.env)=eval o X.env:=by rfl)
  (hfew:((backTo cpos (starEach [e] X.env)).all (fun x=> !x.1)&&(backToKw cpos (keywordEach [] X.env)).all (fun x=>x.1.isSome)
   &&decide ([e].length+([]:List Keyword).length+(if([]:List Keyword).isEmpty then 0 else 1)<30))=true:=by rfl)
  (hline:(apos.endLine == cpos.line)=true:=by rfl) (hs:starEach [e] X.env=(false,eval e X.env)::starEach [] X.env:=by rfl) (hplain:(backTo cpos (starEach [] X.env)).any (·.1)=false:=by rfl) :
  JE X (.Call (.Attribute o name apos) [e] [] cpos) (wML rv f to tl):=fun E hE=>
 (ztV pa slot hty hm (ho E hE) (zby (ha E hE) pa_nil hs) hbase hfew hline hs hplain).mono fun σ H Q ⟨σW,S,QW,hσ,hS,ht,hQ⟩=>⟨σW,S,_,hσ,hS,ht,fun w S1 v H1 e1 r1 hS1 h1=>
  ⟨hrv H1 w v S1 r1 hS1 h1.1,σW,S1,_,hσ.ext e1,hS1,h1.2,fun ws S2 vs a H2 e2 fa ea na r2 hS2 h2=>hw H2 v w a vs ws S2 Q QW (r1.ext e2) ea na r2 hS2 h2 (hQ.from (e1.trans e2))⟩⟩
theorem zwx (pa:PlainAttrs T) (slot:Slot T name id) (hty:typeOf (.builtin id)=pure (.type "method_descriptor")) (hrv:zuZ X.K T rv) (hm:MtR X id r) (hw:MtW X.K r f) (ho:JE X o to)
  (hbase:attributeBase o name X.env (eval o X.env)=eval o X.env:=by rfl) (hline:(apos.endLine == cpos.line)=true:=by rfl):JE X (.Call (.Attribute o name apos) [] [] cpos) (wM rv f to waNil):=fun E hE=>
 (zuK pa slot hty hm (ho E hE) hbase hline).mono fun σ H Q ⟨σW,S,QW,hσ,hS,ht,hQ⟩=>⟨σW,S,_,hσ,hS,ht,fun w S1 v H1 e1 r1 hS1 h1=>
  ⟨hrv H1 w v S1 r1 hS1 h1.1,hw H1 v w [] [] S1 Q QW r1 .nil hS1 h1.2 (hQ.from e1)⟩⟩
noncomputable def zcC:WMf:=fun w ws S Q=>match w with
 | .ref a=>zbG S a fun xs=>match ws with
  | [y]=>xs.length<sizeLine∧Q .non (put S a (.lst (xs++[y])))
  |_=>False
 |_=>False
theorem zlg{K:PySem.W.Frag}:MtW K znu zcC:=fun H x w vs ws S Q QW r rs hS h hQ=>by
 cases r with
 |ref a=>
  obtain⟨xs,ea,h⟩:=zaR h;obtain⟨us,f,hs⟩:=hS a _ ea;cases rs with
  |nil=>exact h.elim
  |cons r1 r2=>
   cases r2 with
   |cons _ _=>exact h.elim
   |nil=>
    obtain⟨e,hS'⟩:=hS.set_lst ea (hs.append (.one r1));exact⟨a,us,_,rfl,rfl,f,by rw [←hs.length];exact h.1,hQ _ _ _ _ e .non hS' h.2⟩
 |_=>exact h.elim
theorem zcs (ho:JE X o to) (ha:JA X (e::es) t)
  (hbase:attributeBase o "append" X.env (eval o X.env)=eval o X.env:=by rfl)
  (hfew:((backTo cpos (starEach (e::es) X.env)).all (fun x=> !x.1)&&(backToKw cpos (keywordEach [] X.env)).all (fun x=>x.1.isSome)
   &&decide ((e::es).length+([]:List Keyword).length+(if([]:List Keyword).isEmpty then 0 else 1)<30))=true:=by rfl)
  (hline:(apos.endLine == cpos.line)=true:=by rfl) (hs:starEach (e::es) X.env=(false,eval e X.env)::starEach es X.env:=by rfl) (hplain:(backTo cpos (starEach es X.env)).any (·.1)=false:=by rfl) :
  JE X (.Call (.Attribute o "append" apos) (e::es) [] cpos) (wM rvL zcC to t):=zwO PySem.F.plainAttrs_list PySem.F.slot_list_append PySem.F.type_list_append zqn ziA zlg ho ha hbase hfew hline hs hplain
noncomputable def zxH:WMf:=fun w ws S Q=>match w with
 | .ref a=>zbG S a fun xs=>match ws with
  | []=>match xs[xs.length - 1]? with
   |some y=>Q y (put S a (.lst xs.dropLast))
   |none=>False
  |_=>False
 |_=>False
noncomputable def zfp:WMf:=fun w ws S Q=>match w with
 | .ref a=>zbG S a fun xs=>match ws with
  | [.tup ys]=>xs.length+ys.length≤sizeLine∧Q .non (put S a (.lst (xs++ys)))
  | [.ref b]=>zbG S b fun ys=>xs.length+ys.length≤sizeLine∧Q .non (put S a (.lst (xs++ys)))
  |_=>False
 |_=>False
theorem zld{K:PySem.W.Frag}:MtW K (fun x vs H Q=>zlN x vs H Q∨zkc K x vs H Q) zfp:=fun H x w vs ws S Q QW r rs hS h hQ=>by
 cases r with
 |ref a=>
  obtain⟨xs,ea,h⟩:=zaR h;obtain⟨us,f,hs⟩:=hS a _ ea;cases rs with
  |nil=>exact h.elim
  |cons r1 r2=>
   cases r2 with
   |cons _ _=>cases r1<;>exact h.elim
   |nil=>
    cases r1 with
    |tup g ks=>
     obtain⟨e,hS'⟩:=hS.set_lst ea (hs.append ks);exact .inr ⟨a,_,us,_,rfl,rfl,f, .of g,by rw [←hs.length,←ks.length];exact h.1,hQ _ _ _ _ e .non hS' h.2⟩
    |ref b=>
     obtain⟨ys,eb,h⟩:=zaR h;obtain⟨zs,g,ks⟩:=hS b _ eb;obtain⟨e,hS'⟩:=hS.set_lst ea (hs.append ks);exact .inl ⟨a,b,us,zs,rfl,rfl,f,g,by rw [←hs.length,←ks.length];exact h.1,hQ _ _ _ _ e .non hS' h.2⟩
    |_=>exact h.elim
 |_=>exact h.elim
theorem zmw (ho:JE X o to) (ha:JA X (e::es) t)
  (hbase:attributeBase o "extend" X.env (eval o X.env)=eval o X.env:=by rfl)
  (hfew:((backTo cpos (starEach (e::es) X.env)).all (fun x=> !x.1)&&(backToKw cpos (keywordEach [] X.env)).all (fun x=>x.1.isSome)
   &&decide ((e::es).length+([]:List Keyword).length+(if([]:List Keyword).isEmpty then 0 else 1)<30))=true:=by rfl)
  (hline:(apos.endLine == cpos.line)=true:=by rfl) (hs:starEach (e::es) X.env=(false,eval e X.env)::starEach es X.env:=by rfl) (hplain:(backTo cpos (starEach es X.env)).any (·.1)=false:=by rfl) :
  JE X (.Call (.Attribute o "extend" apos) (e::es) [] cpos) (wM rvL zfp to t):=zwO PySem.F.plainAttrs_list PySem.F.slot_list_extend PySem.F.type_list_extend zqn (MtR.or zmo zlu) zld ho ha hbase hfew hline hs hplain
noncomputable def zpy:WMf:=fun w ws S Q=>match w with
 | .ref a=>zbG S a fun xs=>xs.length+ws.length≤sizeLine∧Q .non (put S a (.lst (xs++ws)))
 |_=>False
noncomputable def zeH:List W→Option (List Str)
 | []=>some []
 | .str b::ws=>(zeH ws).map (b:: ·)
 |_=>none
theorem zkk{K:PySem.W.Frag}{H:Hp}:∀{ws:List W}{vs:List V}{bs:List Str},Reps K H ws vs→zeH ws=some bs→vs=bs.map V.str
 | [],_,_, .nil,e=>by have:=Option.some.inj e;subst this;rfl
 |w::ws,_,_, .cons r rs,e=>by
  cases r with
  |str b=>
   have e':(zeH ws).map (b:: ·)=some _:=e;cases q:zeH ws with
   |none=>rw [q]at e';cases e'
   |some cs=>
    rw [q]at e';have:=Option.some.inj e';subst this;rw [List.map_cons,zkk rs q]
  |_=>cases e
noncomputable def zia:WMf:=fun w ws S Q=>match w with
 | .str z=>match zeH ws with
  |some ys=>(ys.map (·.length)).sum+ys.length*z.length≤16777216∧Q (.str (Str.join z ys)) S
  |none=>False
 |_=>False
theorem zpj{K:PySem.W.Frag}:MtL K (zsX K) zia:=fun H x w a vs ws S Q QW r ea na rs hS h hQ=>by
 cases r with
 |str z=>
  unfold zia at h;dsimp only at h;split at h
  ·rename_i ys e;have:=zkk rs e;subst this;exact⟨z,a,ys,rfl,rfl, .of ea,h.1,hQ _ S _ H .refl (.str _) hS h.2⟩
  ·exact h.elim
 |_=>exact h.elim
theorem zpl (ho:JE X o to) (ha:JL X e tl)
  (hbase:attributeBase o "join" X.env (eval o X.env)=eval o X.env:=by rfl)
  (hfew:((backTo cpos (starEach [e] X.env)).all (fun x=> !x.1)&&(backToKw cpos (keywordEach [] X.env)).all (fun x=>x.1.isSome)
   &&decide ([e].length+([]:List Keyword).length+(if([]:List Keyword).isEmpty then 0 else 1)<30))=true:=by rfl)
  (hline:(apos.endLine == cpos.line)=true:=by rfl) (hs:starEach [e] X.env=(false,eval e X.env)::starEach [] X.env:=by rfl) (hplain:(backTo cpos (starEach [] X.env)).any (·.1)=false:=by rfl) :
  JE X (.Call (.Attribute o "join" apos) [e] [] cpos) (wML rvS zia to tl):=zvA PySem.F.plainAttrs_str PySem.F.slot_str_join PySem.F.type_str_join zqB zqD zpj ho ha hbase hfew hline hs hplain
noncomputable def ztg:WMf:=fun w ws S Q=>match w with
 | .str z=>match ws with
  | [.str y]=>match Builtin.Str.occurrences z y 0 z.length 1 with
   |i::_=>Q (.int i) S
   | []=>False
  |_=>False
 |_=>False
end
noncomputable def zul (i:Nat) (g:Int→Int→Int) (e:WE):WS:=fun E D σ S=>match σ[i]? with
 |some (some (.int a))=>e E σ S fun w S1=>match w with
  | .int b=>D.nx (σ.set i (some (.int (g a b)))) S1
  |_=>False
 |_=>False
section
variable {X:Cx}{e:Expr}{te:WE}{pos pos':Pos}
theorem zpT{i:Nat}{x:Str}(hN:X.N.Nodup) (hi:X.N[i]? =some x) (hx:Loc X.env.scope x) (he:JE X e te) (hf:X.fn x=true∨X.env.scope.names.lookup x=some .local:=by first |exact .inl rfl |exact .inr rfl |assumption) :
  JS X (.AugAssign (.Name x pos') .Add e pos) (zul i (fun a b=>a+b) te):=fun E hE=>
 (ztW hN hi hx (he E hE) zsN hf).mono fun D σ H ⟨σW,S,DW,hσ,hS,ht,hD⟩=>by
  unfold zul at ht;split at ht
  ·rename_i a ea;obtain⟨v,ev,rv⟩:=hσ.get ea;cases rv;refine⟨_,ev,σW,S,_,hσ,hS,ht,fun w S1 v H1 e1 r1 hS1 h1=>?_⟩;cases r1 with
   |int b=>exact⟨a,b,rfl,rfl,hD.nx _ S1 _ H1 e1 ((hσ.ext e1).set (.int _) i) hS1 h1⟩
   |_=>exact h1.elim
  ·exact ht.elim
end
noncomputable def zpW (c:WT) (b:WS):WS:=fun E D σ S=>∃I:Nat→WSt→Sto→Prop,(∃m,I m σ S)∧ ∀m σ S,I m σ S→c E σ S fun k S1=>if k=true then
 b E { D with nx:=fun σ' S'=>∃m' S'',m'<m∧Sub S'' S'∧I m' σ' S'',ct:=fun σ' S'=>∃m' S'',m'<m∧Sub S'' S'∧I m' σ' S'',bk:=D.nx } σ S1 else D.nx σ S1
section
variable {X:Cx}{c:Expr}{body:List Stmt}{tc:WT}{tb:WS}{pos:Pos}
theorem zpm (hc:JT X c tc) (hb:JSs X body tb):JS X (.While c body [] pos) (zpW tc tb):=fun E hE=>
 (znZ hE.own (hc E hE) (hb E hE)).mono fun D σ H ⟨σW,S,DW,hσ,hS,⟨J,⟨n,ht⟩,step⟩,hD⟩=>by
  refine⟨fun m σ1 H1=>∃σW1 S1,Ext H S H1 S1∧RpSt X.K H1 σW1 σ1∧RepS X.K H1 S1∧J m σW1 S1,⟨n,σW,S, .refl,hσ,hS,ht⟩,?_⟩;rintro m σ1 H1 ⟨σW1,S1,e1,hσ1,hS1,h1⟩;refine⟨σW1,S1,_,hσ1,hS1,step m σW1 S1 h1,fun k S2 H2 e2 hS2 h2=>?_⟩;cases k with
  |false=>exact hD.nx σW1 S2 σ1 H2 (e1.trans e2) (hσ1.ext e2) hS2 h2
  |true=>
   rw [if_pos rfl]at h2⊢;refine⟨fun σ' H'=>∃m',m'<m∧ ∃σW1 S1,Ext H S H' S1∧RpSt X.K H' σW1 σ'∧RepS X.K H' S1∧J m' σW1 S1,fun σ' H' n'=>n',σW1,S2,_,hσ1.ext e2,hS2,h2,?_⟩;have e12:=e1.trans e2;have go:Goes X.K H2 S2 (fun σ' S'=>∃m' S'',m'<m∧Sub S'' S'∧J m' σ' S'') (fun σ' H'=>∃m',m'<m∧ ∃σW1 S1,Ext H S H' S1∧RpSt X.K H' σW1 σ'∧RepS X.K H' S1∧J m' σW1 S1):=fun σW3 S3 σ3 H3 e3 hσ3 hS3 ⟨m',S4,hm,sb,q⟩=>
    ⟨m',hm,σW3,S4,(e12.trans e3).trans (.drop sb),hσ3,hS3.sub sb,q⟩
   exact⟨go,hD.rt.from e12,hD.nx.from e12,go⟩
end
noncomputable def zdA (g:WG) (b:WS) (E:WX) (D:WEnds) (G:Sto→Prop):List W→WSt→Sto→Prop
 | [],σ,S=>D.nx σ S
 |w::ws,σ,S=>g w σ S fun σ1 S1=>b E { D with nx:=fun σ' S'=>∃S'',Sub S'' S'∧G S''∧zdA g b E D G ws σ' S'',ct:=fun σ' S'=>∃S'',Sub S'' S'∧G S''∧zdA g b E D G ws σ' S'',bk:=D.nx } σ1 S1
noncomputable def zjL (q:WI) (g:WG) (b:WS):WS:=fun E D σ S=>q E σ S fun ws G S1=>zdA g b E D G ws σ S1
section
variable {X:Cx}{tg iter:Expr}{body:List Stmt}{q:WI}{g:WG}{tb:WS}{pos:Pos}
theorem zcO (hi:JI X tg iter q) (hg:JG X tg g) (hb:JSs X body tb) (hcl:X.calm=true:=by rfl)
  (hs:∀x,foldedSetIterable iter X.env x=pure x:=by intro _;rfl):JS X (.For tg iter body [] pos) (zjL q g tb):=fun E hE=>
 (ztO hE.own hcl (hi E hE) (hg E hE) (hb E hE) hs).mono fun D σ H ⟨σW,S,DW,hσ,hS,ht,hD⟩=>by
  refine⟨σW,S,_,hσ,hS,ht,fun ws G S1 J H1 e1 hS1 hG1 hJ h1=>?_⟩;refine⟨fun i m σ2 H2=>∃σW2 S2,Ext H1 S1 H2 S2∧RpSt X.K H2 σW2 σ2∧RepS X.K H2 S2∧G S2∧m=ws.length - i∧i≤ws.length∧zdA g tb E DW G (ws.drop i) σW2 S2,
   ⟨ws.length,σW,S1, .refl,hσ.ext e1,hS1,hG1,rfl,Nat.zero_le _,h1⟩,?_⟩
  rintro i m σ2 H2 ⟨σW2,S2,e2,hσ2,hS2,hG2,rfl,hi2,h2⟩;obtain⟨ji,js⟩:=hJ i S2 H2 e2 hS2 hG2;by_cases hlt:i<ws.length
  ·obtain⟨jgo,jy⟩:=ji ws[i] (List.getElem?_eq_getElem hlt);refine .inr ⟨jgo,fun σ' H'=>∃σW2 S2,Ext H1 S1 H' S2∧RpSt X.K H' σW2 σ'∧RepS X.K H' S2∧G S2∧ws.length - (i+1)=ws.length - (i+1)∧i+1≤ws.length∧zdA g tb E DW G (ws.drop (i+1)) σW2 S2,fun σ' H' z=>⟨_,by omega,z⟩,fun x H3 y3=>?_⟩
   obtain⟨e3,hS3,r3⟩:=jy x H3 y3;rw [List.drop_eq_getElem_cons hlt]at h2;refine⟨_,σW2,S2,_,r3,hσ2.ext e3,hS3,h2,fun σW4 S4 σ4 H4 e4 hσ4 hS4 h4=>?_⟩;have e14:Ext H1 S1 H4 S4:=(e2.trans e3).trans e4;refine⟨σW4,S4,_,hσ4,hS4,h4,?_⟩;have go:Goes X.K H4 S4 (fun σ' S'=>∃S'',Sub S'' S'∧G S''∧zdA g tb E DW G (ws.drop (i+1)) σ' S'') (fun σ' H'=>∃σW2 S2,Ext H1 S1 H' S2∧RpSt X.K H' σW2 σ'∧RepS X.K H' S2∧G S2∧ws.length - (i+1)=ws.length - (i+1)∧i+1≤ws.length∧zdA g tb E DW G (ws.drop (i+1)) σW2 S2):=
    fun σW5 S5 σ5 H5 e5 hσ5 hS5 ⟨S6,sb,hG6,q⟩=>⟨σW5,S6,(e14.trans e5).trans (.drop sb),hσ5,hS5.sub sb,hG6,rfl,hlt,q⟩
   exact⟨go,hD.rt.from (e1.trans e14),hD.nx.from (e1.trans e14),go⟩
  ·have hl:i=ws.length:=by omega
   rw [List.drop_of_length_le (Nat.le_of_eq hl.symm)]at h2;exact .inl ⟨js hl,hD.nx σW2 S2 σ2 H2 (e1.trans e2) hσ2 hS2 h2⟩
end
section
variable {X:Cx}{tg:Expr}
noncomputable def zxD (K:PySem.W.Frag) (tl:TE):TI:=fun σ H R=>tl σ H fun x H1=>(∃a,x= .ref a∧(∃xs,SqL K H1 a xs)∧R (Itl K a) H1)∨(∃a,x= .ref a∧(∃xs,SqT K H1 a xs)∧R (Itt K a) H1)∨ ∃z,x= .str z∧R (Its z) H1
theorem zuG{l:Expr}{tl:TE}(hl:PE X l tl):PI X tg l (zxD X.K tl):=by
 intro pins s σ H R I h;refine thn (hl pins s σ H _ I h) fun v s1 ⟨x,H1,I1,r1,q1⟩=>?_;have fp:∀b∈ [s1.heap.objs.size],zhp X pins H1 b:=fun b hb=>by
  have e:b=s1.heap.objs.size:=by simpa using hb
  subst e;exact I1.fpOk (Nat.le_refl _) (I1.hok.fresh (Nat.le_refl _))
 rcases q1 with⟨a,e,⟨xs,hq⟩,q⟩ |⟨a,e,⟨xs,hq⟩,q⟩ |⟨z,e,q⟩
 ·subst e;cases r1;obtain⟨its,rv,p,hz⟩:=I1.list hq;refine wpAny_pyIter_list p.isList ?_;exact⟨s1.heap.objs.size,[s1.heap.objs.size],_,_,H1,rfl,I1.kept (t':=s1.toks) fun b o e=>Heap.get?_push_of_some _ e,zna a _,⟨_,Heap.get?_push_size _ rfl,rfl,rfl⟩,fp,q⟩
 ·subst e;cases r1;obtain⟨its,rv,p,hz⟩:=I1.tuple hq;refine wpAny_pyIter_tuple (show s1.heap.IsTuple a its.toArray from p) ?_;exact⟨s1.heap.objs.size,[s1.heap.objs.size],_,_,H1,rfl,I1.kept (t':=s1.toks) fun b o e=>Heap.get?_push_of_some _ e,zkY a _,⟨_,Heap.get?_push_size _ rfl,rfl,rfl⟩,fp,q⟩
 ·subst e;obtain⟨t,rfl⟩:=r1;cases ha:z.cps.all (· <128)
  ·refine wpAny_pyIter_wide ha ?_;exact⟨s1.heap.objs.size,[s1.heap.objs.size],_,_,H1,rfl,I1.kept (t':=s1.toks) fun b o e=>Heap.get?_push_of_some _ e,
    zkR _ z t "str_iterator" (by decide) (fun A' hA=>Walks.strWide hA _ z t) (fun _ _ _ _ _ st h=>wpAny_pyIter_striter_wide st h),⟨_,Heap.get?_push_size _ rfl,rfl,rfl⟩,fp,q⟩
  ·refine wpAny_pyIter_ascii ha ?_;exact⟨s1.heap.objs.size,[s1.heap.objs.size],_,_,H1,rfl,I1.kept (t':=s1.toks) fun b o e=>Heap.get?_push_of_some _ e,
    zkR _ z t "str_ascii_iterator" (by decide) (fun A' hA=>Walks.strAscii hA _ z t) (fun _ _ _ _ _ st h=>wpAny_pyIter_striter_ascii st h),⟨_,Heap.get?_push_size _ rfl,rfl,rfl⟩,fp,q⟩
noncomputable def ziy (z:Str):List W:=z.cps.toList.map fun c=> .str ⟨#[c]⟩
noncomputable def wIv (t:WE):WI:=fun E σ S Q=>t E σ S fun w S1=>match w with
 | .tup ws=>Q ws (fun _=>True) S1
 | .ref a=>zbG S1 a fun ws=>Q ws (fun S'=>S' a=some (.lst ws)) S1
 | .scr ns=>Q (ns.map W.int) (fun _=>True) S1
 | .str z=>Q (ziy z) (fun _=>True) S1
 |_=>False
theorem znx{K:PySem.W.Frag}{a:Addr}{ws:List W}{G:Sto→Prop}{H0:Hp}{S0:Sto}(h:∀S H,Ext H0 S0 H S→RepS K H S→G S→ ∃vs,SqL K H a vs∧Reps K H ws vs):ItW K (Itl K a) ws G H0 S0:=fun i S H e hS hG=>by
 obtain⟨vs,hq,r⟩:=h S H e hS hG;refine⟨fun w ew=>?_,fun hl=>⟨vs,hq,by rw [←r.length,hl];exact Nat.le_refl _⟩⟩
 obtain⟨v,ev,rv⟩:=r.get ew;refine⟨⟨vs,v,hq,ev⟩,fun x H' ⟨e1,e2⟩=>?_⟩;subst e1;have e3:=e2 vs hq;rw [ev]at e3;cases e3;exact⟨.refl,hS,rv⟩
theorem zta{K:PySem.W.Frag}{a:Addr}{ws:List W}{vs:List V}{H0:Hp}{S0:Sto}(f:H0 a=some (.tup vs)) (r:Reps K H0 ws vs):ItW K (Itt K a) ws (fun _=>True) H0 S0:=fun i S H e hS hG=>by
 have f':=e.tup _ _ f;have r':=r.ext e;refine⟨fun w ew=>?_,fun hl=>⟨vs, .of f',by rw [←r'.length,hl];exact Nat.le_refl _⟩⟩
 obtain⟨v,ev,rv⟩:=r'.get ew;refine⟨⟨vs,v, .of f',ev⟩,fun x H' ⟨e1,e2⟩=>?_⟩;subst e1;have e3:=e2 vs (.of f');rw [ev]at e3;cases e3;exact⟨.refl,hS,rv⟩
theorem zuz{K:PySem.W.Frag}{z:Str}{H0:Hp}{S0:Sto}:ItW K (Its z) (ziy z) (fun _=>True) H0 S0:=fun i S H e hS hG=>by
 unfold ziy;refine⟨fun w ew=>?_,fun hl=>?_⟩
 ·rw [List.getElem?_map]at ew;cases ec:z.cps.toList[i]? with
  |none=>rw [ec]at ew;cases ew
  |some c=>
   rw [ec]at ew;have ew':=Option.some.inj ew;subst ew';have hi:i<z.cps.size:=by
    have:=(List.getElem?_eq_some_iff.mp ec).1;simpa using this
   refine⟨hi,fun x H' ⟨e1,c',e2,e3⟩=>?_⟩;subst e1 e3;have:c'=c:=by
    have q:z.cps.toList[i]? =some c':=by rw [←e2];simp
    rw [ec]at q;exact(Option.some.inj q).symm
   subst this;exact⟨.refl,hS, .str _⟩
 ·show i=z.cps.size;simpa using hl
theorem zck{l:Expr}{tl:WE}(hl:JE X l tl):JI X tg l (wIv tl):=fun E hE=>
 (zuG (hl E hE)).mono fun σ H R ⟨σW,S,QW,hσ,hS,ht,hR⟩=>⟨σW,S,_,hσ,hS,ht,fun w S1 v H1 e1 r1 hS1 h1=>by
  cases r1 with
  |tup f hs=>exact .inr (.inl ⟨_,rfl,⟨_, .of f⟩,hR _ _ S1 _ H1 e1 hS1 trivial (zta f hs) h1⟩)
  |ref a=>
   obtain⟨ws,ea,h⟩:=zaR h1;obtain⟨vs,f,hs⟩:=hS1 a _ ea;refine .inl ⟨_,rfl,⟨_, .of f⟩,hR _ _ S1 _ H1 e1 hS1 ea (znx fun S2 H2 e2 hS2 g2=>?_) h⟩;obtain⟨vs2,f2,hs2⟩:=hS2 a _ g2;exact⟨vs2, .of f2,hs2⟩
  |scr f=>exact .inl ⟨_,rfl,⟨_,f.sq⟩,hR _ _ S1 _ H1 e1 hS1 trivial (znx fun S2 H2 e2 hS2 g2=>⟨_,(e2.fz f).sq,Reps.ofInts _⟩) h1⟩
  |str z=>exact .inr (.inr ⟨z,rfl,hR _ _ S1 _ H1 e1 hS1 trivial zuz h1⟩)
  |_=>exact h1.elim⟩
noncomputable def zmm (lo:Int) (n:Nat):List W:=(List.range n).map fun(i:Nat)=> .int (lo+(i:Int))
theorem ztq{K:PySem.W.Frag}{lo:Int}{n:Nat}{H0:Hp}{S0:Sto}:ItW K (Itr lo n) (zmm lo n) (fun _=>True) H0 S0:=fun i S H e hS hG=>by
 unfold zmm;refine⟨fun w ew=>?_,fun hl=>by
  have:i=n:=by simpa using hl
  exact Nat.le_of_eq this.symm⟩
 rw [List.getElem?_map]at ew;by_cases hi:i<n
 ·rw [List.getElem?_range hi]at ew;have ew':=Option.some.inj ew;subst ew';refine⟨hi,fun x H' ⟨e1,e2⟩=>?_⟩;subst e1 e2;exact⟨.refl,hS, .int _⟩
 ·rw [List.getElem?_eq_none (by simpa using hi)]at ew;cases ew
noncomputable def zsv (t:WA):WI:=fun E σ S Q=>t E σ S fun ws S1=>match ws with
 | [.int j]=>(-(2 ^ 62)≤j∧j<2 ^ 62)∧Q (zmm 0 j.toNat) (fun _=>True) S1
 |_=>False
theorem zeO{a:Expr}{ta:WA}{p pos:Pos}(hg:Gl X "range") (hm:X.mg "range" =none) (ha:JA X [a] ta) (hs:starEach [a] X.env=[(false,eval a X.env)]:=by rfl):JI X tg (.Call (.Name "range" p) [a] [] pos) (zsv ta):=fun E hE=>
 (zmi hg hm (ha E hE) hs).mono fun σ H R ⟨σW,S,QW,hσ,hS,ht,hR⟩=>⟨σW,S,_,hσ,hS,ht,fun ws S1 vs H1 e1 r1 hS1 h1=>by
  cases r1 with
  |nil=>exact h1.elim
  |cons r2 r3=>
   cases r3 with
   |cons _ _=>cases r2<;>exact h1.elim
   |nil=>
    cases r2 with
    |int j=>exact⟨j,rfl,h1.1.1,h1.1.2,hR _ _ S1 _ H1 e1 hS1 trivial ztq h1.2⟩
    |_=>exact h1.elim⟩
end
noncomputable def ziO:WT:=fun _ _ S Q=>Q true S
noncomputable def JTs (X:Cx) (ifs:List Expr) (t:WT):Prop:=∀E,Hook X E→PTs X ifs (zrj X.K (t E))
theorem zbU{X:Cx}:JTs X [] ziO:=fun E hE pins s σ H Q I ⟨σW,S,QW,hσ,hS,ht,hQ⟩=>zrE pins s σ H Q I (hQ true S H .refl hS ht)
noncomputable def zgb (g:WG) (c:WT) (e:WE) (E:WX) (G:Sto→Prop) (Q:List W→Sto→Prop):List W→List W→WSt→Sto→Prop
 | [],acc,_,S=>Q acc S
 |w::ws,acc,σ,S=>g w σ S fun σ1 S1=>c E σ1 S1 fun b S2=>if b=true then e E σ1 S2 fun y S3=>acc.length<sizeLine∧ ∃S4,Sub S4 S3∧G S4∧zgb g c e E G Q ws (acc++[y]) σ1 S4
   else ∃S4,Sub S4 S2∧G S4∧zgb g c e E G Q ws acc σ1 S4
noncomputable abbrev noE:WX:=fun _ _ _=>False
theorem zjj{X:Cx}(h:X.xe=fun _ _=>False):Hook X noE:=⟨by rw [h];exact PassesOwn.never,fun _ _ _ _ _ _ _ _ _ _ _ _ _ _ _ _ _ _ _ _ z=>z.elim,fun _ _ _ _ _ _ _ _ _ _ _ _ _ _ _ _ z=>z.elim⟩
theorem PS.nox{X:Cx}{st:Stmt}{t:TS}(h:PS X.nox st t):PS X st t:=fun pins s σ H D I hw=>
 wpAny_mono (h pins s σ H D (I.wish _) hw) (fun _ _ q=>q.unwish) fun _ _ z=>False.elim z
noncomputable def zdm (k:Nat) (fr:List Nat) (q:WI) (g:WG) (c:WT) (e:WE):WL:=fun _ σ S Q=>q noE σ S fun ws G S1=>zgb g c e noE G Q ws [] (List.replicate k none++fr.map fun j=>(σ[j]?).join) S1
theorem zlw{K:PySem.W.Frag}{H:Hp}{σW:WSt}{σ:St}{k:Nat}{fr:List Nat}(h:RpSt K H σW σ):RpSt K H (List.replicate k none++fr.map fun j=>(σW[j]?).join) (zkU σ k fr):=by
 have one:∀j:Nat,RpO K H (σW[j]?).join (σ[j]?).join:=fun j=>by
  cases e:σW[j]? with
  |none=>exact trivial
  |some w=>
   cases w with
   |none=>exact trivial
   |some w=>
    obtain⟨v,ev,r⟩:=h.get e;rw [ev];exact r
 have go:∀fr:List Nat,RpSt K H (fr.map fun j=>(σW[j]?).join) (zfJ σ fr):=by
  intro fr
  induction fr with
  |nil=>exact .nil
  |cons j fr ih=>exact .cons (one j) ih
 unfold zkU
 induction k with
 |zero=>exact go fr
 |succ k ih=>exact .cons trivial ih
section
variable {X:Cx}{scope:Scope}{N:List Str}{k:Nat}{fr:List Nat}{tg iter elt:Expr}{ifs:List Expr}{pos:Pos}{q:WI}{g:WG}{c:WT}{e:WE}
theorem Ext.loose{H H':Hp}(a:∀b xs,H b=some (.tup xs)→H' b=some (.tup xs)) (b:∀c o u,H c=some (.frz o u)→H' c=some (.frz o u)) (d:∀b o,H b=some o→ ∃o',H' b=some o'):Ext H (fun _=>some (.lst [])) H' (fun _=>some (.lst [])):=
 ⟨a,b,(fun _ _ _ g=>nomatch g),d⟩
theorem Ext.over{H H':Hp}{S S':Sto}{l:Addr}{o:HO}(e:Ext H S H' S') (h:H l=none):Ext H S (upd H' l o) S':=
 ⟨fun b xs q=>by rw [zaq (zan q h)];exact e.tup b xs q,fun b ob u q=>by rw [zaq (zan q h)];exact e.frz b ob u q,fun b ob q z=>by rw [zaq (zan q h)];exact e.fr b ob q z,fun b ob q=>by rw [zaq (zan q h)];exact e.all b ob q⟩
theorem zif (hg:∀s₀ H₀ fp pn,JG (zaT X scope N s₀ H₀ fp pn) tg g) (hc:∀s₀ H₀ fp pn,JTs (zaT X scope N s₀ H₀ fp pn) ifs c) (he:∀s₀ H₀ fp pn,JE (zaT X scope N s₀ H₀ fp pn) elt e)
  {E:WX}(σ:St) (H:Hp) (Q:VK):ztp X.K (zdm k fr q g c e E) σ H Q→zpt X scope N k fr tg ifs elt (zug X.K (q noE)) σ H Q:=fun⟨σW,S0,QW,hσ,hS,ht,hQ⟩=>by
  refine⟨σW,S0,_,hσ,hS,ht,fun ws G S1 J H1 e1 hS1 hG1 hJ h1 l hl=>?_⟩;have upl:∀{H':Hp}{vs us:List V}{S':Sto},H' l=some (.lst vs)→S' l=none→RepS X.K H' S'→Ext H' (fun _=>some (.lst [])) (upd H' l (.lst us)) (fun _=>some (.lst []))∧RepS X.K (upd H' l (.lst us)) S':=fun {H' vs us S'} f n hS'=>by
   have x:Ext H' (fun _=>some (.lst [])) (upd H' l (.lst us)) (fun _=>some (.lst [])):= .loose (fun b xs q=>by rw [zaq (zoe q f fun z=>nomatch z)];exact q) (fun b o u q=>by rw [zaq (zoe q f fun z=>nomatch z)];exact q) fun b o q=>by
    by_cases hb:b=l
    ·subst hb;exact⟨_,zat⟩
    ·exact⟨o,by rw [zaq hb];exact q⟩
   refine⟨x,fun a o q=>(hS' a o q).keep x fun u z=>?_⟩;have ha:a≠l:=by rintro rfl;rw [n]at q;cases q
   rw [zaq ha];exact z
  refine⟨fun i m σ' H'=>∃σW' S' acc vs,Ext H1 S1 H' S'∧H' l=some (.lst vs)∧S' l=none∧Reps X.K H' acc vs∧RpSt X.K H' σW' σ'∧RepS X.K H' S'∧G S'∧m=ws.length - i∧i≤ws.length∧zgb g c e noE G QW (ws.drop i) acc σW' S',
   ⟨ws.length,_,S1,[],[], .new hl,zat,hS1.free hl, .nil,zlw (hσ.ext (e1.trans (.new (S:=S1) hl))),hS1.new hl,hG1,rfl,Nat.zero_le _,h1⟩,?_⟩
  rintro i m σ' H' ⟨σW',S',acc,vs,e2,f2,n2,ra,hσ2,hS2,hG2,rfl,hi2,h2⟩;obtain⟨ji,js⟩:=hJ i S' H' e2 hS2 hG2;by_cases hlt:i<ws.length
  ·obtain⟨jgo,jy⟩:=ji ws[i] (List.getElem?_eq_getElem hlt);refine .inr ⟨jgo,fun σ'' H''=>∃σW' S' acc vs,Ext H1 S1 H'' S'∧H'' l=some (.lst vs)∧S' l=none∧Reps X.K H'' acc vs∧RpSt X.K H'' σW' σ''∧RepS X.K H'' S'∧G S'∧ws.length - (i+1)=ws.length - (i+1)∧i+1≤ws.length∧zgb g c e noE G QW (ws.drop (i+1)) acc σW' S',
    fun σ'' H'' z=>⟨_,by omega,z⟩,fun x H3 y3=>?_⟩
   obtain⟨e3,hS3,r3⟩:=jy x H3 y3;rw [List.drop_eq_getElem_cons hlt]at h2;intro s₀ H₀ fp pn;have hk:Hook (zaT X scope N s₀ H₀ fp pn) noE:=zjj rfl;refine⟨_,_,_,hg s₀ H₀ fp pn noE hk,hc s₀ H₀ fp pn noE hk,he s₀ H₀ fp pn noE hk,?_⟩;refine⟨_,σW',S',_,r3,hσ2.ext e3,hS3,h2,fun σW4 S4 σ4 H4 e4 hσ4 hS4 h4=>?_⟩;refine⟨σW4,S4,_,hσ4,hS4,h4,fun b S5 H5 e5 hS5 h5=>?_⟩;have e15:Ext H' S' H5 S5:=(e3.trans e4).trans e5;have hσ5:=hσ4.ext e5;obtain⟨f5,n5⟩:=e15.fr l _ f2 n2;cases b with
   |false=>
    have h5:∃S4,Sub S4 S5∧G S4∧zgb g c e noE G QW (ws.drop (i+1)) acc σW4 S4:=h5;refine zxw ?_;obtain⟨S6,sb,hG6,h6⟩:=h5;have e16:=e15.trans (.drop sb);exact⟨σW4,S6,acc,vs,e2.trans e16,f5,(e16.fr l _ f2 n2).2,ra.ext e15,hσ5,hS5.sub sb,hG6,rfl,hlt,h6⟩
   |true=>
    rw [if_pos rfl]at h5;refine zwZ ?_;refine⟨σW4,S5,_,hσ5,hS5,h5,fun y S6 v H6 e6 r6 hS6 h6=>?_⟩;have e17:=e15.trans e6;obtain⟨f6,n6⟩:=e17.fr l _ f2 n2;obtain⟨hz,S7,sb,hG7,h7⟩:=h6;obtain⟨x6,hS6'⟩:=upl (us:=vs++[v]) f6 n6 hS6;have ra6:Reps X.K H6 (acc++[y]) (vs++[v]):=(ra.ext e17).append (.one r6);refine⟨vs,f6,by rw [←ra.length];exact hz,σW4,S7,acc++[y],vs++[v],?_,zat,((e17.trans (.drop sb)).fr l _ f2 n2).2,ra6.ext x6,(hσ5.ext e6).ext x6,hS6'.sub sb,hG7,rfl,hlt,h7⟩
    exact(e2.trans (e17.trans (.drop sb))).over hl
  ·have hll:i=ws.length:=by omega
   rw [List.drop_of_length_le (Nat.le_of_eq hll.symm)]at h2;exact .inl ⟨js hll,hQ acc S' vs l H' (e1.trans e2) (e1.free hl) f2 n2 ra hS2 h2⟩
theorem zcT (S:CompSc X.nox scope N k fr) (hi:JI X.nox tg iter q) (hg:∀s₀ H₀ fp pn,JG (zaT X.nox scope N s₀ H₀ fp pn) tg g) (hc:∀s₀ H₀ fp pn,JTs (zaT X.nox scope N s₀ H₀ fp pn) ifs c) (he:∀s₀ H₀ fp pn,JE (zaT X.nox scope N s₀ H₀ fp pn) elt e)
  (hs:∀x,foldedSetIterable iter X.env x=pure x:=by intro _;rfl) (hcl:X.calm=true:=by rfl):JL X (.ListComp elt [⟨tg,iter,ifs,0⟩] scope pos) (zdm k fr q g c e):=fun E hE=>
 (PE.nox (zqZ rfl hcl S (hi noE (zjj rfl)) hs)).mono (zif (X:=X.nox) hg hc he)
theorem zjn{i:Nat}{x:Str}{pos' spos:Pos}(hN:X.N.Nodup) (hxi:X.N[i]? =some x) (hxl:Loc X.env.scope x) (S:CompSc X.nox scope N k fr) (hi:JI X.nox tg iter q) (hg:∀s₀ H₀ fp pn,JG (zaT X.nox scope N s₀ H₀ fp pn) tg g) (hc:∀s₀ H₀ fp pn,JTs (zaT X.nox scope N s₀ H₀ fp pn) ifs c) (he:∀s₀ H₀ fp pn,JE (zaT X.nox scope N s₀ H₀ fp pn) elt e)
  (hw:swapsWith (.ListComp elt [⟨tg,iter,ifs,0⟩] scope pos) (some (.Name x pos')) spos.line X.env=pure true:=by rfl) (hf:X.fn x=true∨X.env.scope.names.lookup x=some .local:=by first |exact .inl rfl |exact .inr rfl |assumption)
  (hs:∀x,foldedSetIterable iter X.env x=pure x:=by intro _;rfl) (hcl:X.calm=true:=by rfl):JS X (.Assign [.Name x pos'] (.ListComp elt [⟨tg,iter,ifs,0⟩] scope pos) spos) (wAsg (zdn (zdm k fr q g c e)) (wGN i)):=fun E hE=>
 (PS.nox (zrp (X:=X.nox) rfl hcl S (hi noE (zjj rfl)) hN hxi hxl hw hf hs)).mono fun D σ H ⟨σW,S0,DW,hσ,hS,ht,hD⟩=>
  zif (X:=X.nox) (E:=E) hg hc he σ H _ ⟨σW,S0,_,hσ,hS,ht,fun ws S1 vs a H1 e1 fa ea na r1 hS1 h1=>by
   have ex:Ext H S0 H1 (put S1 a (.lst ws)):=⟨e1.tup,e1.frz,fun b o q g=>by
    have hb:b≠a:=by rintro rfl;rw [fa]at q;cases q
    rw [zaE hb];exact e1.fr b o q g,e1.all⟩
   refine hD.nx _ (put S1 a (.lst ws)) _ H1 ex ((hσ.ext ex).set (.ref a) i) (fun b o q=>?_) (h1 a na);by_cases hb:b=a
   ·subst hb;rw [zah]at q;cases q;exact⟨vs,ea,r1⟩
   ·rw [zaE hb]at q;exact hS1 b o q⟩
end
noncomputable def SeqIt (k:Bool) (h:Heap) (it a:Addr) (i:Nat):Prop:=if k=true then h.IsListIter it a i else h.IsTupleIter it a i
noncomputable def SeqIs (k:Bool) (h:Heap) (a:Addr) (its:Array Value):Prop:=if k=true then h.IsList a its else h.IsTuple a its
section
variable {k:Bool}{h h':Heap}{it a:Addr}{i:Nat}{its:Array Value}
theorem SeqIt.at (x:SeqIt k h it a i) (e:∀o,h.get? it=some o→h'.get? it=some o):SeqIt k h' it a i:=by
 cases k with
 |true=>exact Heap.IsListIter.at (show h.IsListIter it a i from x) e
 |false=>exact Heap.IsTupleIter.at (show h.IsTupleIter it a i from x) e
theorem SeqIs.at (x:SeqIs k h a its) (e:∀o,h.get? a=some o→h'.get? a=some o):SeqIs k h' a its:=by
 cases k with
 |true=>exact Heap.IsList.at (show h.IsList a its from x) e
 |false=>obtain⟨o,ho,r⟩:=(show h.IsTuple a its from x);exact⟨o,e o ho,r⟩
theorem SeqIt.ob (x:SeqIt k h it a i):∃o vs,h.get? it=some o∧o.data= .fields vs:=by
 cases k with
 |true=>obtain⟨o,ho,_,hd⟩:=(show h.IsListIter it a i from x);exact⟨o,_,ho,hd⟩
 |false=>obtain⟨o,ho,_,hd⟩:=(show h.IsTupleIter it a i from x);exact⟨o,_,ho,hd⟩
end
section
variable {prog:Program}{w:World}{A:Around}{E:Value→Shared→Prop}{s:Shared}
theorem zfM{it t:Addr}{i:Nat}{its:Array Value}{x:Value}{Q:Value→Shared→Prop}(hit:s.heap.IsTupleIter it t i) (ht:s.heap.IsTuple t its) (hx:its[i]? =some x)
  (hQ:∀g,g.IsTupleIter it t (i+1)→Heap.SameBut it s.heap g→Q x { s with heap:=g }):wpAny (model prog w) A (Builtin.SmallTypes.nextOf (.ref it)) Q E s:=by
 obtain⟨o,ho,hc,hd⟩:=id hit;obtain⟨ot,hot,_,nt,hdt⟩:=ht;unfold Builtin.SmallTypes.nextOf;refine wpAny_bind (wpAny_callSpecial?_slot (name:=Str.ofString "__next__") hit.typeIs PySem.F.slot_tuple_iterator_next (wpAny_call_entry PySem.F.slot_tuple_iterator_next hit.typeIs PySem.F.entry_tuple_iterator_next ?_ (PySem.F.args_tuple_iterator_next_1 _)));show wpAny _ _ (field (.ref it) 0 >>= _) _ _ s;refine wpAny_bind (wpAny_field ho hd (x:= .ref t) rfl ?_);show wpAny _ _ (if(Value.ref t == Value.none)=true then _ else _) _ _ s;rw [if_neg (show ¬((Value.ref t == Value.none)=true) from Bool.false_ne_true)];show wpAny _ _ (field (.ref it) 1 >>= _) _ _ s;refine wpAny_bind (wpAny_field ho hd (x:= .int i 0) rfl ?_);show wpAny _ _ (seqItems? (.ref t) >>= _) _ _ s;refine wpAny_bind (wpAny_seqItems hot hdt ?_);simp only[Int.toNat_natCast,hx];refine wpAny_bind (wpAny_setField ho hd (by simp) (wpAny_pure ⟨x,rfl,wpAny_pure (hQ _ ?_ (Heap.SameBut.update ..))⟩));exact⟨_,Heap.get?_update_self _ ho (Obj.isFreed_of_fields (Obj.data_mapFields hd _)),(Obj.cls_mapFields ..).trans hc,by rw [Obj.data_mapFields hd];simp [rawInt]⟩
theorem zgk{it t:Addr}{i:Nat}{its:Array Value}{Q:Value→Shared→Prop}(hh:A.handled=none) (hit:s.heap.IsTupleIter it t i) (ht:s.heap.IsTuple t its) (hx:its[i]? =none)
  (hE:∀g e,Heap.ExtBut it s.heap g→(∃o,g.get? e=some o∧o.cls= .type "StopIteration")→E (.ref e) { s with heap:=g }):wpAny (model prog w) A (Builtin.SmallTypes.nextOf (.ref it)) Q E s:=by
 obtain⟨o,ho,hc,hd⟩:=id hit;obtain⟨ot,hot,_,nt,hdt⟩:=ht;unfold Builtin.SmallTypes.nextOf;refine wpAny_bind (wpAny_callSpecial?_slot (name:=Str.ofString "__next__") hit.typeIs PySem.F.slot_tuple_iterator_next (wpAny_call_entry PySem.F.slot_tuple_iterator_next hit.typeIs PySem.F.entry_tuple_iterator_next ?_ (PySem.F.args_tuple_iterator_next_1 _)));show wpAny _ _ (field (.ref it) 0 >>= _) _ _ s;refine wpAny_bind (wpAny_field ho hd (x:= .ref t) rfl ?_);show wpAny _ _ (if(Value.ref t == Value.none)=true then _ else _) _ _ s;rw [if_neg (show ¬((Value.ref t == Value.none)=true) from Bool.false_ne_true)];show wpAny _ _ (field (.ref it) 1 >>= _) _ _ s;refine wpAny_bind (wpAny_field ho hd (x:= .int i 0) rfl ?_);show wpAny _ _ (seqItems? (.ref t) >>= _) _ _ s;refine wpAny_bind (wpAny_seqItems hot hdt ?_);simp only[Int.toNat_natCast,hx];refine wpAny_bind (wpAny_rule (wpAny_bind (wpAny_setField ho hd (by simp) ?_)));show wpAny _ _ (newExc (.type "StopIteration") [] >>= _) _ _ _;refine wpAny_bind ?_;simp only[newExc,newTuple];refine wpAny_bind (wpAny_newObj_type ?_ (by size_fits));refine wpAny_bind (m:=firstArgMember _ _) (wpAny_of_eq (a:=Value.none) (by first |rfl | (simp only[firstArgMember];rfl)) ?_);refine wpAny_newObj_type ?_ (by size_fits);simp only[raiseNew];refine wpAny_bind (wpAny_handled ?_)
 first |rw [show A.in1.handled=none from hh] |rw [hh]
 refine wpAny_bind (wpAny_pure (wpAny_throw ?_));exact hE _ _ (((Heap.SameBut.update ..).extBut.push _).push _) ⟨_,Heap.get?_push_size _ rfl,rfl⟩
theorem zft{k:Bool}{it t:Addr}{i:Nat}{its:Array Value}{x:Value}{Q:Value→Shared→Prop}(hit:SeqIt k s.heap it t i) (ht:SeqIs k s.heap t its) (hx:its[i]? =some x)
  (hQ:∀g,SeqIt k g it t (i+1)→Heap.SameBut it s.heap g→Q x { s with heap:=g }):wpAny (model prog w) A (Builtin.SmallTypes.nextOf (.ref it)) Q E s:=by
 cases k with
 |true=>exact wpAny_nextOf_list_item hit ht hx hQ
 |false=>exact zfM hit ht hx hQ
theorem zkE{k:Bool}{it t:Addr}{i:Nat}{its:Array Value}{Q:Value→Shared→Prop}(hh:A.handled=none) (hit:SeqIt k s.heap it t i) (ht:SeqIs k s.heap t its) (hx:its[i]? =none)
  (hE:∀g e,Heap.ExtBut it s.heap g→(∃o,g.get? e=some o∧o.cls= .type "StopIteration")→E (.ref e) { s with heap:=g }):wpAny (model prog w) A (Builtin.SmallTypes.nextOf (.ref it)) Q E s:=by
 cases k with
 |true=>exact wpAny_nextOf_list_end hh hit ht hx hE
 |false=>exact zgk hh hit ht hx hE
end
noncomputable def zfV (k:Bool) (a:Addr):Obj:={ cls:= .type (if k=true then "list_iterator" else "tuple_iterator"),data:= .fields #[.ref a, .int 0 0] }
theorem zkb{k:Bool}{h:Heap}{it a:Addr}(e:h.get? it=some (zfV k a)):SeqIt k h it a 0:=by
 cases k with
 |true=>exact⟨_,e,rfl,rfl⟩
 |false=>exact⟨_,e,rfl,rfl⟩
theorem zgp{k:Bool}{a:Addr}:(zfV k a).isFreed=false:=by cases k<;>rfl
section
variable {prog:Program}{w:World}{A:Around}{E:Value→Shared→Prop}{s:Shared}
theorem zkg{k:Bool}{a:Addr}{its:Array Value}{Q:Value→Shared→Prop}(ha:SeqIs k s.heap a its) (hQ:Q (.ref s.heap.objs.size) { s with heap:=s.heap.push (zfV k a) }):wpAny (model prog w) A (pyIter (.ref a)) Q E s:=by
 cases k with
 |true=>exact wpAny_pyIter_list ha hQ
 |false=>exact wpAny_pyIter_tuple ha hQ
end
theorem SeqIs.push{k:Bool}{h:Heap}{a:Addr}{its:Array Value}(x:SeqIs k h a its) (o:Obj):SeqIs k (h.push o) a its:=x.at fun _ e=>Heap.get?_push_of_some _ e
section
variable {X:Cx}{pins:List (Addr×Obj)}{σ:St}{H:Hp}{s:Shared}{g:Heap}{fp:List Addr}
theorem Inv.turnNew{p:Addr}{o:HO}{t':Nat}(I:Inv X pins σ H s) (hp:s.heap.objs.size≤p) (k:∀b u,b∉fp→s.heap.get? b=some u→g.get? b=some u) (hf:∀b∈fp,zhp X pins H b) (new:ObjOk X.prog X.w (upd H p o) g p o) :
  Inv X pins σ (upd H p o) { s with heap:=g,toks:=t' }:=by
 have hn:=I.hok.fresh hp;have lt:∀{b u},s.heap.get? b=some u→b≠p:=fun e=>Nat.ne_of_lt (Nat.lt_of_lt_of_le (Heap.lt_size e) hp);have nfp:∀{b u},H b=some u→b∉fp:=fun e z=>by rw [(hf _ z).1]at e;cases e
 refine I.call (g':=s.gens) (d':=s.drawn) (ch:=fp) ⟨fun b u e _ _ hx=>k b u hx e,fun b u e _ _ hx=>⟨u.slots,k b u hx e⟩,fun b u e n _=>by rw [zaq (lt e)];exact n,fun b u e hx=>⟨u,k b u hx e⟩,
  fun b xs e=>by rw [zaq (zan e hn)];exact e,fun b u xs e=>by rw [zaq (zan e hn)];exact e,fun b ps e=>⟨#[],by rw [zaq (zan e hn),e];simp⟩⟩ (fun b u e=>?_) I.bare fun b hb=>⟨(hf b hb).2.2.2.1,(hf b hb).2.1,(hf b hb).2.2.2.2.1,(hf b hb).2.2.2.2.2⟩
 by_cases hb:b=p
 ·subst hb;rw [zat]at e;cases e;exact new
 ·rw [zaq hb]at e;refine(I.hok b u e).stay (fun c v hc q=>k c v ?_ q) (fun c q=>by rw [zaq (zan q hn)];exact q) fun c xs q=>by rw [zaq (zan q hn)];exact q
  rcases hc with rfl |hc
  ·exact nfp e
  ·exact nfp hc
theorem Inv.turnedL{t':Nat}(I:Inv X pins σ H s) (k:∀b u,b∉fp→s.heap.get? b=some u→g.get? b=some u) (hf:∀b∈fp,zhp X pins H b):Inv X pins σ H { s with heap:=g,toks:=t' }:=by
 have nfp:∀{b u},H b=some u→b∉fp:=fun e z=>by rw [(hf _ z).1]at e;cases e
 refine I.call (g':=s.gens) (d':=s.drawn) (ch:=fp) ⟨fun b u e _ _ hx=>k b u hx e,fun b u e _ _ hx=>⟨u.slots,k b u hx e⟩,fun b u e n _=>n,fun b u e hx=>⟨u,k b u hx e⟩,
  fun b xs e=>e,fun b u xs e=>e,fun b ps e=>⟨#[],by rw [e];simp⟩⟩ (fun b u e=>?_) I.bare fun b hb=>⟨(hf b hb).2.2.2.1,(hf b hb).2.1,(hf b hb).2.2.2.2.1,(hf b hb).2.2.2.2.2⟩
 refine(I.hok b u e).stay (fun c v hc q=>k c v ?_ q) (fun c q=>q) fun c xs q=>q;rcases hc with rfl |hc
 ·exact nfp e
 ·exact nfp hc
noncomputable def SqK (k:Bool) (K:PySem.W.Frag) (H:Hp) (a:Addr) (xs:List V):Prop:=if k=true then SqL K H a xs else SqT K H a xs
theorem Inv.seq{k:Bool}{a:Addr}{xs:List V}(I:Inv X pins σ H s) (h:SqK k X.K H a xs):∃its:List Value,Vals xs its∧SeqIs k s.heap a its.toArray∧xs.length≤sizeLine:=by
 cases k with
 |true=>obtain⟨its,r,p,z⟩:=I.list h;exact⟨its,r,p.isList,z⟩
 |false=>obtain⟨its,r,p,z⟩:=I.tuple h;exact⟨its,r,p,z⟩
theorem Inv.seq_inj{k:Bool}{a:Addr}{xs ys:List V}(I:Inv X pins σ H s) (h:SqK k X.K H a xs) (h':SqK k X.K H a ys):xs=ys:=by
 cases k with
 |true=>exact I.list_inj h h'
 |false=>exact I.tuple_inj h h'
end
section
noncomputable def zpV:W→Sto→(List W→(Sto→Prop)→Prop)→Prop
 | .tup ws,_,Q=>Q ws fun _=>True
 | .ref a,S,Q=>zbG S a fun ws=>Q ws fun S'=>S' a=some (.lst ws)
 | .scr ns,_,Q=>Q (ns.map W.int) fun _=>True
 |_,_,_=>False
end
section
variable {prog:Program}{w:World}{A:Around}{E:Value→Shared→Prop}{s:Shared}
theorem zoO{k1 k2:Bool}{z TI TO i1 i2 l1 l2:Addr}{n1 n2:Nat}{xs ys:Array Value}{x y a b:Value}{Q:Option Value→Shared→Prop}(D:ZipApart z TI TO i1 i2 l1 l2)
  (hz:IsZip s.heap z TI TO .none) (hTI:IsPair s.heap TI (.ref i1) (.ref i2)) (hTO:IsPair s.heap TO a b) (h1:SeqIt k1 s.heap i1 l1 n1) (h2:SeqIt k2 s.heap i2 l2 n2) (hl1:SeqIs k1 s.heap l1 xs) (hl2:SeqIs k2 s.heap l2 ys) (hx:xs[n1]? =some x) (hy:ys[n2]? =some y)
  (hQ:∀g,IsZip g z TI TO (rawInt s.heap.objs.size)→IsPair g TO x y→SeqIt k1 g i1 l1 (n1+1)→SeqIt k2 g i2 l2 (n2+1)→IsPair g s.heap.objs.size x y→g.objs.size=s.heap.objs.size+1→
   (∀c o,c≠z→c≠TO→c≠i1→c≠i2→s.heap.get? c=some o→g.get? c=some o)→Q (some (.ref s.heap.objs.size)) { s with heap:=g }):wpAny (model prog w) A (pyNext (.ref z)) Q E s:=by
 have hT:s.TypeIs (.ref z) "zip" :=⟨_,hz,rfl⟩;unfold pyNext;refine wpAny_bind (wpAny_attempt (wpAny_callSpecial?_slot (name:=Str.ofString "__next__") hT PySem.F.slot_zip_next (wpAny_call_entry PySem.F.slot_zip_next hT PySem.F.entry_zip_next ?_ (PySem.F.args_zip_next_1 _))));show wpAny _ _ (field (.ref z) 2 >>= _) _ _ _;refine wpAny_bind (wpAny_field hz rfl (x:= .bool false) rfl ?_);show wpAny _ _ (field (.ref z) 3 >>= _) _ _ _;refine wpAny_bind (wpAny_field hz rfl (x:= .ref TI) rfl ?_);refine wpAny_bind (wpAny_seqItems hTI rfl ?_);show wpAny _ _ (Builtin.SmallTypes.ownedTupleIsFree (.ref z) >>= _) _ _ _;refine wpAny_bind ?_;unfold Builtin.SmallTypes.ownedTupleIsFree;refine wpAny_bind (wpAny_field hz rfl (x:= .none) rfl (wpAny_pure ?_));simp only[if_true];refine wpAny_bind (wpAny_rule ?_);refine wpAny_bind (wpAny_field hz rfl (x:= .ref TO) rfl ?_);refine wpAny_bind (wpAny_setField_rec hz (by simp) fun g1 hz1 hs1=>?_);replace hz1:IsZip g1 z TI TO .ellipsis:=hz1;refine wpAny_bind ?_;simp only[List.zipIdx_cons,List.zipIdx_nil,List.forIn_cons,List.forIn_nil];refine wpAny_bind (wpAny_bind (wpAny_onRaise ?_));show wpAny _ _ (Builtin.SmallTypes.nextOf (.ref i1) >>= _) _ _ _;refine wpAny_bind (zft (h1.at fun o e=>hs1.extBut _ o D.i1z e) (hl1.at fun o e=>hs1.extBut _ o D.l1z e) hx fun g2 h12 hs2=>wpAny_pure ?_);have hTO2:IsPair g2 TO a b:=hs2.extBut _ _ D.TOi1 (hs1.extBut _ _ D.TOz hTO);refine wpAny_bind (wpAny_seqItems hTO2 rfl ?_);refine wpAny_bind (wpAny_updateSeq_pair hTO2 fun g3 hTO3 hs3=>?_);replace hTO3:IsPair g3 TO x b:=hTO3;refine wpAny_bind (wpAny_letGo (wpAny_pure ?_));refine wpAny_bind (wpAny_bind (wpAny_onRaise ?_));show wpAny _ _ (Builtin.SmallTypes.nextOf (.ref i2) >>= _) _ _ _;refine wpAny_bind (zft (h2.at fun o e=>hs3.extBut _ o D.TOi2.symm (hs2.extBut _ o D.i12.symm (hs1.extBut _ o D.i2z e))) (hl2.at fun o e=>hs3.extBut _ o D.l2TO (hs2.extBut _ o D.l2i1 (hs1.extBut _ o D.l2z e))) hy fun g4 h24 hs4=>wpAny_pure ?_);have hTO4:IsPair g4 TO x b:=hs4.extBut _ _ D.TOi2 hTO3;refine wpAny_bind (wpAny_seqItems hTO4 rfl ?_);refine wpAny_bind (wpAny_updateSeq_pair hTO4 fun g5 hTO5 hs5=>?_);replace hTO5:IsPair g5 TO x y:=hTO5;refine wpAny_bind (wpAny_letGo (wpAny_pure (wpAny_pure ?_)));refine wpAny_bind (wpAny_seqItems hTO5 rfl ?_);refine wpAny_bind (wpAny_newTuple ?_);have hsz:g5.objs.size=s.heap.objs.size:=by rw [hs5.1,hs4.1,hs3.1,hs2.1,hs1.1]
 have hz5:IsZip g5 z TI TO .ellipsis:=hs5.extBut _ _ D.TOz.symm (hs4.extBut _ _ D.i2z.symm (hs3.extBut _ _ D.TOz.symm (hs2.extBut _ _ D.i1z.symm hz1)));have hk5:∀c o,c≠z→c≠TO→c≠i1→c≠i2→s.heap.get? c=some o→g5.get? c=some o:=fun c o c1 c2 c3 c4 e=>hs5.extBut _ _ c2 (hs4.extBut _ _ c4 (hs3.extBut _ _ c2 (hs2.extBut _ _ c3 (hs1.extBut _ _ c1 e))));have h15:SeqIt k1 g5 i1 l1 (n1+1):=h12.at fun o e=>hs5.extBut _ o D.TOi1.symm (hs4.extBut _ o D.i12 (hs3.extBut _ o D.TOi1.symm e));have h25:SeqIt k2 g5 i2 l2 (n2+1):=h24.at fun o e=>hs5.extBut _ o D.TOi2.symm e;have hzlt:z<g5.objs.size:=Heap.lt_size hz5;show wpAny _ _ (Builtin.SmallTypes.ownedTupleHandOut (.ref z) (.ref g5.objs.size) >>= _) _ _ _;refine wpAny_bind ?_;unfold Builtin.SmallTypes.ownedTupleHandOut;have hz6:IsZip (g5.push { cls:= .type "tuple",data:= .seq #[x,y] }) z TI TO .ellipsis:=Heap.get?_push_of_some _ hz5;refine wpAny_bind (wpAny_setField_rec hz6 (by simp) fun g7 hz7 hs7=>?_);replace hz7:IsZip g7 z TI TO (rawInt g5.objs.size):=hz7;refine wpAny_setField_rec hz7 (by simp) fun g8 hz8 hs8=>?_;replace hz8:IsZip g8 z TI TO (rawInt g5.objs.size):=hz8;have up:∀c o,c≠z→g5.get? c=some o→g8.get? c=some o:=fun c o c1 e=>hs8.extBut _ _ c1 (hs7.extBut _ _ c1 (Heap.get?_push_of_some _ e));have hT8:IsPair g8 g5.objs.size x y:=hs8.extBut _ _ (Nat.ne_of_gt hzlt) (hs7.extBut _ _ (Nat.ne_of_gt hzlt) (Heap.get?_push_size _ rfl));have hzz:g8.objs.size=g5.objs.size+1:=by rw [hs8.1,hs7.1,Heap.size_push]
 rw [hsz]at hz8 hT8 hzz;refine wpAny_pure ⟨_,rfl,wpAny_pure ?_⟩;show Q (some (.ref g5.objs.size)) _;rw [hsz];exact hQ g8 hz8 (up _ _ D.TOz hTO5) (h15.at fun o e=>up _ o D.i1z e) (h25.at fun o e=>up _ o D.i2z e) hT8 hzz fun c o c1 c2 c3 c4 e=>up c o c1 (hk5 c o c1 c2 c3 c4 e)
theorem zqT{k1 k2:Bool}{z TI TO i1 i2 l1 l2:Addr}{n1 n2:Nat}{xs ys:Array Value}{a b:Value}{Q:Option Value→Shared→Prop}(hh:A.handled=none) (D:ZipApart z TI TO i1 i2 l1 l2)
  (hz:IsZip s.heap z TI TO .none) (hTI:IsPair s.heap TI (.ref i1) (.ref i2)) (hTO:IsPair s.heap TO a b) (h1:SeqIt k1 s.heap i1 l1 n1) (h2:SeqIt k2 s.heap i2 l2 n2) (hl1:SeqIs k1 s.heap l1 xs) (hl2:SeqIs k2 s.heap l2 ys) (hend:xs[n1]? =none∨ys[n2]? =none)
  (hQ:∀g,(∀c o,c≠z→c≠TO→c≠i1→c≠i2→s.heap.get? c=some o→g.get? c=some o)→Q none { s with heap:=g }):wpAny (model prog w) A (pyNext (.ref z)) Q E s:=by
 have hT:s.TypeIs (.ref z) "zip" :=⟨_,hz,rfl⟩;have fin:∀(g:Heap) (e:Addr),(∀c o,c≠z→c≠TO→c≠i1→c≠i2→s.heap.get? c=some o→g.get? c=some o)→(∃o,g.get? e=some o∧o.cls= .type "StopIteration")→
   wpAny (model prog w) A (do if(←isInstance (.ref e) (.type "StopIteration")) then pure none else throw (.ref e)) Q E { s with heap:=g }:=fun g e hk ⟨o,ho,hc⟩=>
  wpAny_bind (wpAny_isInstance (T:= "StopIteration") (b:=true) ⟨o,ho,hc⟩ isSubtype_stop (wpAny_pure (hQ _ hk)))
 unfold pyNext;refine wpAny_bind (wpAny_attempt (wpAny_callSpecial?_slot (name:=Str.ofString "__next__") hT PySem.F.slot_zip_next (wpAny_call_entry PySem.F.slot_zip_next hT PySem.F.entry_zip_next ?_ (PySem.F.args_zip_next_1 _))));show wpAny _ _ (field (.ref z) 2 >>= _) _ _ _;refine wpAny_bind (wpAny_field hz rfl (x:= .bool false) rfl ?_);show wpAny _ _ (field (.ref z) 3 >>= _) _ _ _;refine wpAny_bind (wpAny_field hz rfl (x:= .ref TI) rfl ?_);refine wpAny_bind (wpAny_seqItems hTI rfl ?_);show wpAny _ _ (Builtin.SmallTypes.ownedTupleIsFree (.ref z) >>= _) _ _ _;refine wpAny_bind ?_;unfold Builtin.SmallTypes.ownedTupleIsFree;refine wpAny_bind (wpAny_field hz rfl (x:= .none) rfl (wpAny_pure ?_));simp only[if_true];refine wpAny_bind (wpAny_rule ?_);refine wpAny_bind (wpAny_field hz rfl (x:= .ref TO) rfl ?_);refine wpAny_bind (wpAny_setField_rec hz (by simp) fun g1 hz1 hs1=>?_);replace hz1:IsZip g1 z TI TO .ellipsis:=hz1;refine wpAny_bind ?_;simp only[List.zipIdx_cons,List.zipIdx_nil,List.forIn_cons,List.forIn_nil];refine wpAny_bind (wpAny_bind (wpAny_onRaise ?_));show wpAny _ _ (Builtin.SmallTypes.nextOf (.ref i1) >>= _) _ _ _;cases hx:xs[n1]? with
 |none=>
  refine wpAny_bind (zkE hh (h1.at fun o e=>hs1.extBut _ o D.i1z e) (hl1.at fun o e=>hs1.extBut _ o D.l1z e) hx fun g2 e hs2 he=>?_);obtain⟨oe,hoe,hce⟩:=he;have hz2:IsZip g2 z TI TO .ellipsis:=hs2 _ _ D.i1z.symm hz1;have hez:e≠z:=fun x=>by subst x;rw [hz2]at hoe;cases hoe;simp at hce
  refine wpAny_setField_rec hz2 (by simp) fun g3 _ hs3=>fin g3 e (fun c o c1 _ c3 _ x=>hs3.extBut _ _ c1 (hs2 _ _ c3 (hs1.extBut _ _ c1 x))) ⟨oe,hs3.extBut _ _ hez hoe,hce⟩
 |some x=>
  have hy:ys[n2]? =none:=by rcases hend with h |h;rw [hx]at h;cases h;exact h
  refine wpAny_bind (zft (h1.at fun o e=>hs1.extBut _ o D.i1z e) (hl1.at fun o e=>hs1.extBut _ o D.l1z e) hx fun g2 h12 hs2=>wpAny_pure ?_);have hTO2:IsPair g2 TO a b:=hs2.extBut _ _ D.TOi1 (hs1.extBut _ _ D.TOz hTO);refine wpAny_bind (wpAny_seqItems hTO2 rfl ?_);refine wpAny_bind (wpAny_updateSeq_pair hTO2 fun g3 hTO3 hs3=>?_);refine wpAny_bind (wpAny_letGo (wpAny_pure ?_));refine wpAny_bind (wpAny_bind (wpAny_onRaise ?_));show wpAny _ _ (Builtin.SmallTypes.nextOf (.ref i2) >>= _) _ _ _;refine wpAny_bind (zkE hh (h2.at fun o e=>hs3.extBut _ o D.TOi2.symm (hs2.extBut _ o D.i12.symm (hs1.extBut _ o D.i2z e))) (hl2.at fun o e=>hs3.extBut _ o D.l2TO (hs2.extBut _ o D.l2i1 (hs1.extBut _ o D.l2z e))) hy fun g4 e hs4 he=>?_);obtain⟨oe,hoe,hce⟩:=he;have hz4:IsZip g4 z TI TO .ellipsis:=hs4 _ _ D.i2z.symm (hs3.extBut _ _ D.TOz.symm (hs2.extBut _ _ D.i1z.symm hz1));have hez:e≠z:=fun x=>by subst x;rw [hz4]at hoe;cases hoe;simp at hce
  refine wpAny_setField_rec hz4 (by simp) fun g5 _ hs5=>fin g5 e (fun c o c1 c2 c3 c4 x=>hs5.extBut _ _ c1 (hs4 _ _ c4 (hs3.extBut _ _ c2 (hs2.extBut _ _ c3 (hs1.extBut _ _ c1 x))))) ⟨oe,hs5.extBut _ _ hez hoe,hce⟩
end
noncomputable abbrev zH1 (k1:Bool) (h:Heap) (l1:Addr):Heap:=h.push (zfV k1 l1)
noncomputable abbrev zH2 (k1 k2:Bool) (h:Heap) (l1 l2:Addr):Heap:=(zH1 k1 h l1).push (zfV k2 l2)
noncomputable abbrev zH3 (k1 k2:Bool) (h:Heap) (l1 l2:Addr):Heap:=(zH2 k1 k2 h l1 l2).push { cls:= .type "tuple",data:= .seq #[.ref h.objs.size, .ref (zH1 k1 h l1).objs.size] }
noncomputable abbrev zH4 (k1 k2:Bool) (h:Heap) (l1 l2:Addr):Heap:=(zH3 k1 k2 h l1 l2).push { cls:= .type "tuple",data:= .seq #[.none, .none] }
noncomputable abbrev zH5 (k1 k2:Bool) (h:Heap) (l1 l2:Addr):Heap:=(zH4 k1 k2 h l1 l2).push { cls:= .type "zip",data:= .fields #[.none, .bool false, .bool false, .ref (zH2 k1 k2 h l1 l2).objs.size, .ref (zH3 k1 k2 h l1 l2).objs.size] }
theorem zlr{k1 k2:Bool}(l1 l2:Addr) (xs ys:Array Value) :
  PySem.Meets (Builtin.«zip.__new__» ⟨[.type "zip", .ref l1, .ref l2],[]⟩) (fun _ R s=>SeqIs k1 s.heap l1 xs∧SeqIs k2 s.heap l2 ys∧R (.ok (.ret (.ref (zH4 k1 k2 s.heap l1 l2).objs.size))) { s with heap:=zH5 k1 k2 s.heap l1 l2 }):=
 .of_wp fun prog w A R s h=>by
  obtain⟨hp,g,d,tk,os⟩:=s;obtain⟨hl1,hl2,h⟩:=h;have hsub:=sub_zip;have f1:∀{A:Around}{E:Value→Shared→Prop}{Q:Value→Shared→Prop},Q (.ref hp.objs.size) ⟨hp.push (zfV k1 l1),g,d,tk,os⟩→wpAny (model prog w) A (pyIter (.ref l1)) Q E ⟨hp,g,d,tk,os⟩:=fun q=>zkg (s:=⟨hp,g,d,tk,os⟩) hl1 q;have f2:∀{A:Around}{E:Value→Shared→Prop}{Q:Value→Shared→Prop},Q (.ref (hp.push (zfV k1 l1)).objs.size) ⟨(hp.push (zfV k1 l1)).push (zfV k2 l2),g,d,tk,os⟩→wpAny (model prog w) A (pyIter (.ref l2)) Q E ⟨hp.push (zfV k1 l1),g,d,tk,os⟩:=fun q=>zkg (s:=⟨hp.push (zfV k1 l1),g,d,tk,os⟩) (hl2.push _) q
  wp_walk using f1,f2
  exact⟨_,rfl,h⟩
section
variable {prog:Program}{w:World}{A:Around}{E:Value→Shared→Prop}{s:Shared}
theorem zou{k1 k2:Bool}{l1 l2:Addr}{xs ys:Array Value}{Q:Value→Shared→Prop}(hl1:SeqIs k1 s.heap l1 xs) (hl2:SeqIs k2 s.heap l2 ys)
  (h:∀g,IsZip g (s.heap.objs.size+4) (s.heap.objs.size+2) (s.heap.objs.size+3) .none→IsPair g (s.heap.objs.size+2) (.ref s.heap.objs.size) (.ref (s.heap.objs.size+1))→
   IsPair g (s.heap.objs.size+3) .none .none→SeqIt k1 g s.heap.objs.size l1 0→SeqIt k2 g (s.heap.objs.size+1) l2 0→g.objs.size=s.heap.objs.size+5→
   (∀c o,s.heap.get? c=some o→g.get? c=some o)→Q (.ref (s.heap.objs.size+4)) { s with heap:=g }):wpAny (model prog w) A (call (.type "zip") [.ref l1, .ref l2]) Q E s:=by
 refine callType_new PySem.F.called_zip (by decide) (PySem.F.typeCall_zip_2 _ _) (PySem.F.newCall_zip_2 _ _) (fun obj=>PySem.F.args_object_init_3 obj _ _) PySem.F.entry_zip_new (zlr (k1:=k1) (k2:=k2) l1 l2 xs ys) ⟨hl1,hl2,?_⟩;have z1:(zH1 k1 s.heap l1).objs.size=s.heap.objs.size+1:=Heap.size_push ..;have z2:(zH2 k1 k2 s.heap l1 l2).objs.size=s.heap.objs.size+2:=by rw [Heap.size_push,z1]
 have z3:(zH3 k1 k2 s.heap l1 l2).objs.size=s.heap.objs.size+3:=by rw [Heap.size_push,z2]
 have z4:(zH4 k1 k2 s.heap l1 l2).objs.size=s.heap.objs.size+4:=by rw [Heap.size_push,z3]
 have z5:(zH5 k1 k2 s.heap l1 l2).objs.size=s.heap.objs.size+5:=by rw [Heap.size_push,z4]
 have g5:(zH5 k1 k2 s.heap l1 l2).get? (zH4 k1 k2 s.heap l1 l2).objs.size=some _:=Heap.get?_push_size _ rfl;have g4:(zH5 k1 k2 s.heap l1 l2).get? (zH3 k1 k2 s.heap l1 l2).objs.size=some _:=Heap.get?_push_of_some _ (Heap.get?_push_size _ rfl);have g3:(zH5 k1 k2 s.heap l1 l2).get? (zH2 k1 k2 s.heap l1 l2).objs.size=some _:=Heap.get?_push_of_some _ (Heap.get?_push_of_some _ (Heap.get?_push_size _ rfl));have g2:(zH5 k1 k2 s.heap l1 l2).get? (zH1 k1 s.heap l1).objs.size=some _:=Heap.get?_push_of_some _ (Heap.get?_push_of_some _ (Heap.get?_push_of_some _ (Heap.get?_push_size _ zgp)));have g1:(zH5 k1 k2 s.heap l1 l2).get? s.heap.objs.size=some _:=Heap.get?_push_of_some _ (Heap.get?_push_of_some _ (Heap.get?_push_of_some _ (Heap.get?_push_of_some _ (Heap.get?_push_size _ zgp))));show _∧_;rw [z2,z3,z4]at g5;rw [z1,z2]at g3;rw [z3]at g4;rw [z1]at g2;rw [z4];exact⟨⟨_,g5,rfl⟩,h _ g5 g3 g4 (zkb g1) (zkb g2) z5 fun c o x=>Heap.get?_push_of_some _ (Heap.get?_push_of_some _ (Heap.get?_push_of_some _ (Heap.get?_push_of_some _ (Heap.get?_push_of_some _ x))))⟩
end
noncomputable def SqZ (k:Bool) (K:PySem.W.Frag) (H:Hp) (a:Addr) (xs:List V):Prop:=if k=true then SqL K H a xs else H a=some (.tup xs)
theorem SqZ.sq{k:Bool}{K:PySem.W.Frag}{H:Hp}{a:Addr}{xs:List V}(h:SqZ k K H a xs):SqK k K H a xs:=by
 cases k with
 |true=>exact h
 |false=>exact .of h
theorem SeqIs.ob{k:Bool}{h:Heap}{a:Addr}{its:Array Value}(x:SeqIs k h a its):∃o n,h.get? a=some o∧o.data= .seq its n∧(k=true→o.cls= .type "list"):=by
 cases k with
 |true=>obtain⟨o,ho,hc,n,hd⟩:=(show h.IsList a its from x);exact⟨o,n,ho,hd,fun _=>hc⟩
 |false=>obtain⟨o,ho,hc,n,hd⟩:=(show h.IsTuple a its from x);exact⟨o,n,ho,hd,fun z=>by cases z⟩
theorem SeqIs.ne_fields{k:Bool}{h:Heap}{a b:Addr}{its:Array Value}{o:Obj}{vs:Array Value}(x:SeqIs k h a its) (e:h.get? b=some o) (d:o.data= .fields vs):a≠b:=fun z=>by
 subst z;obtain⟨o',n,ho,hd,_⟩:=x.ob;rw [ho]at e;cases e;rw [hd]at d;cases d
noncomputable def Itz (k1 k2:Bool) (K:PySem.W.Frag) (a b:Addr):It:=
  ⟨fun i H=>∃xs ys x y,SqZ k1 K H a xs∧SqZ k2 K H b ys∧xs[i]? =some x∧ys[i]? =some y,
   fun i H v H'=>∃p x y,H p=none∧v= .ref p∧H'=upd H p (.tup [x,y])∧(∀xs,SqZ k1 K H a xs→xs[i]? =some x)∧ ∀ys,SqZ k2 K H b ys→ys[i]? =some y,
   fun i H=>∃xs ys,SqZ k1 K H a xs∧SqZ k2 K H b ys∧(xs.length≤i∨ys.length≤i)⟩
structure ZipFar (z TI TO i1 i2:Addr):Prop where
  TIz:TI≠z
  TOz:TO≠z
  i1z:i1≠z
  i2z:i2≠z
  TITO:TI≠TO
  TIi1:TI≠i1
  TIi2:TI≠i2
  TOi1:TO≠i1
  TOi2:TO≠i2
  i12:i1≠i2
noncomputable def zui (k1 k2:Bool) (z TI TO i1 i2 a b:Addr) (i:Nat) (h:Heap):Prop:=IsZip h z TI TO .none∧IsPair h TI (.ref i1) (.ref i2)∧(∃u v,IsPair h TO u v)∧SeqIt k1 h i1 a i∧SeqIt k2 h i2 b i
section
variable {X:Cx}{pins:List (Addr×Obj)}{σ:St}{H:Hp}{s:Shared}
theorem zis{k1 k2:Bool}{z TI TO i1 i2 a b:Addr}{i:Nat}{xs ys:List V}(I:Inv X pins σ H s) (hTO:H TO=none) (D:ZipFar z TI TO i1 i2) (st:zui k1 k2 z TI TO i1 i2 a b i s.heap) (ha:SqZ k1 X.K H a xs) (hb:SqZ k2 X.K H b ys):ZipApart z TI TO i1 i2 a b:=by
 obtain⟨hz,hTI,⟨u,v,hTOo⟩,h1,h2⟩:=st;obtain⟨o1,v1,e1,d1⟩:=h1.ob;obtain⟨o2,v2,e2,d2⟩:=h2.ob;obtain⟨its,_,pa,_⟩:=I.seq ha.sq;obtain⟨its2,_,pb,_⟩:=I.seq hb.sq;have nTO:∀{k:Bool}{c:Addr}{zs:List V}{its:Array Value},SqZ k X.K H c zs→SeqIs k s.heap c its→c≠TO:=fun {k c zs its} hc pc e=>by
  subst e;cases k with
  |false=>rw [show H c=some (.tup zs) from hc]at hTO;cases hTO
  |true=>
   obtain⟨o,n,ho,_,hcl⟩:=pc.ob;rw [hTOo]at ho;cases ho;have:=hcl rfl;simp at this
 exact⟨D.TIz,D.TOz,D.i1z,D.i2z,D.TITO,D.TIi1,D.TIi2,D.TOi1,D.TOi2,D.i12,pa.ne_fields hz rfl,nTO ha pa,pa.ne_fields e1 d1,pa.ne_fields e2 d2,pb.ne_fields hz rfl,nTO hb pb,pb.ne_fields e1 d1,pb.ne_fields e2 d2⟩
end
theorem zpe{P:Program}{w:World}{K:PySem.W.Frag}{es:List Expr}{x1:Nat}{pos:Pos}(k1 k2:Bool) (a b z TI TO i1 i2:Addr) (D:ZipFar z TI TO i1 i2):Turn P w K (.Tuple es x1 pos) (Itz k1 k2 K a b) [z,TI,TO,i1,i2] z (zui k1 k2 z TI TO i1 i2 a b) where
  mem:=by simp
  obj:=fun i h ⟨hz,hTI,⟨u,v,hTO⟩,h1,h2⟩ c hc=>by
    obtain⟨o1,v1,e1,d1⟩:=h1.ob;obtain⟨o2,v2,e2,d2⟩:=h2.ob;simp only[List.mem_cons,List.not_mem_nil,or_false]at hc;rcases hc with rfl |rfl |rfl |rfl |rfl
    · exact⟨_,hz,fun v z=>by cases z⟩
    · exact⟨_,hTI,fun v z=>by cases z⟩
    · exact⟨_,hTO,fun v z=>by cases z⟩
    · exact⟨_,e1,fun v z=>by rw [d1]at z;cases z⟩
    · exact⟨_,e2,fun v z=>by rw [d2]at z;cases z⟩
  keep:=fun i h h' ⟨hz,hTI,⟨u,v,hTO⟩,h1,h2⟩ kk=>⟨kk z (by simp) _ hz,kk TI (by simp) _ hTI,⟨u,v,kk TO (by simp) _ hTO⟩,h1.at fun o q=>kk i1 (by simp) o q,h2.at fun o q=>kk i2 (by simp) o q⟩
  item:=by
    intro X hP hw hK hc i pins s σ H E I hf st hg;subst hP hw hK;obtain⟨xs,ys,x,y,ha,hb,hx,hy⟩:=hg;have Z:=zis I (hf TO (by simp)).1 D st ha hb;obtain⟨hz,hTI,⟨c0,d0,hTO⟩,h1,h2⟩:=st;obtain⟨its,rv,pa,_⟩:=I.seq ha.sq;obtain⟨its2,rv2,pb,_⟩:=I.seq hb.sq;obtain⟨u,hu,ru⟩:=rv.get hx;obtain⟨u2,hu2,ru2⟩:=rv2.get hy;refine zoO Z hz hTI hTO h1 h2 pa pb (x:=u) (y:=u2) (by simpa using hu) (by simpa using hu2) fun g hz1 hTO1 h11 h21 hp hz' kk=>⟨_,rfl,?_⟩;refine wpAny_letOwnedTupleGo_zip hz1 fun g2 hz2 hs2=>?_;have hs2':∀c o,c≠z→g.get? c=some o→g2.get? c=some o:=fun c o hc e=>(hs2.2 c hc).trans e;have kk2:∀c o,c∉ [z,TI,TO,i1,i2]→s.heap.get? c=some o→g2.get? c=some o:=fun c o hc q=>by
      simp only[List.mem_cons,List.not_mem_nil,or_false,not_or]at hc;exact hs2' c o hc.1 (kk c o hc.1 hc.2.2.1 hc.2.2.2.1 hc.2.2.2.2 q)
    have hn:=I.hok.fresh (Nat.le_refl s.heap.objs.size);have hpz:s.heap.objs.size≠z:=Nat.ne_of_gt (Heap.lt_size hz);have ht2:g2.get? s.heap.objs.size=some { cls:= .type "tuple",data:= .seq #[u,u2] }:=hs2' _ _ hpz hp;refine⟨.ref s.heap.objs.size,upd H s.heap.objs.size (.tup [x,y]),I.turnNew (fp:=[z,TI,TO,i1,i2]) (t':=s.toks) (Nat.le_refl _) kk2 hf ⟨by show 2≤sizeLine;rw [sizeLine_eq];decide,[u,u2], .cons ru (.cons ru2 .nil),⟨_,ht2,rfl,_,rfl⟩⟩,rfl,
      ⟨_,x,y,hn,rfl,rfl,fun zs hy=>by rw [I.seq_inj hy.sq ha.sq];exact hx,fun zs hy'=>by rw [I.seq_inj hy'.sq hb.sq];exact hy⟩,
      ⟨hz2,hs2' _ _ D.TIz (kk _ _ D.TIz D.TITO D.TIi1 D.TIi2 hTI),⟨u,u2,hs2' _ _ D.TOz hTO1⟩,h11.at fun o q=>hs2' _ o D.i1z q,h21.at fun o q=>hs2' _ o D.i2z q⟩,fun c hc=>?_⟩
    have hlt:∃o,s.heap.get? c=some o:=by
      obtain⟨o1,v1,e1,d1⟩:=h1.ob;obtain⟨o2,v2,e2,d2⟩:=h2.ob;simp only[List.mem_cons,List.not_mem_nil,or_false]at hc;rcases hc with rfl |rfl |rfl |rfl |rfl
      · exact⟨_,hz⟩
      · exact⟨_,hTI⟩
      · exact⟨_,hTO⟩
      · exact⟨_,e1⟩
      · exact⟨_,e2⟩
    obtain⟨o,ho⟩:=hlt;rw [zaq (Nat.ne_of_lt (Heap.lt_size ho))];exact(hf c hc).1
  done:=by
    intro X hP hw hK hc i pins s σ H E I hf st hg;subst hP hw hK;obtain⟨xs,ys,ha,hb,hx⟩:=hg;have Z:=zis I (hf TO (by simp)).1 D st ha hb;obtain⟨hz,hTI,⟨c0,d0,hTO⟩,h1,h2⟩:=st;obtain⟨its,rv,pa,_⟩:=I.seq ha.sq;obtain⟨its2,rv2,pb,_⟩:=I.seq hb.sq;have hl:=rv.length;have hl2:=rv2.length;refine zqT (I.ok.hd hc) Z hz hTI hTO h1 h2 pa pb ?_ fun g eb=>⟨rfl,I.turnedL (fp:=[z,TI,TO,i1,i2]) (t':=s.toks) (fun c o hc q=>?_) hf⟩
    · rcases hx with hx |hx
      · exact .inl (by simp;omega)
      · exact .inr (by simp;omega)
    · simp only[List.mem_cons,List.not_mem_nil,or_false,not_or]at hc;exact eb c o hc.1 hc.2.2.1 hc.2.2.2.1 hc.2.2.2.2 q
  self:=fun A i s Q E st h=>wpAny_pyIter_zip st.1 h
section
variable {X:Cx}{es:List Expr}{x1:Nat}{tpos:Pos}
noncomputable def zxh (K:PySem.W.Frag) (ta:TA):TI:=fun σ H R=>ta σ H fun vs H1=>∃k1 k2 a b xs ys,vs=[.ref a, .ref b]∧SqZ k1 K H1 a xs∧SqZ k2 K H1 b ys∧R (Itz k1 k2 K a b) H1
theorem ztE{a b:Expr}{ta:TA}{p pos:Pos}(hg:Gl X "zip") (hm:X.mg "zip" =none) (ha:PA X [a,b] ta) (hs:starEach [a,b] X.env=[(false,eval a X.env),(false,eval b X.env)]:=by rfl) (hs2:starEach [b] X.env=[(false,eval b X.env)]:=by rfl):PI X (.Tuple es x1 tpos) (.Call (.Name "zip" p) [a,b] [] pos) (zxh X.K ta):=by
 intro pins s σ H R I h;refine Call_ (zgC I hg hm boot_zip (PyProof.Rows.callWith_type1 (thn (ha pos pins s σ H _ I h) fun us s1 ⟨vs,H1,I1,r1,q1⟩=>?_) (by rw [hs,hs2]) (by rw [hs2];rfl)));obtain⟨k1,k2,a,b,xs,ys,e,hq1,hq2,q⟩:=q1;subst e;cases r1 with
 |cons r rr=>
  cases rr with
  |cons r' rr=>
   cases rr;cases(show _=Value.ref a from r);cases(show _=Value.ref b from r');obtain⟨its,rv,pl,_⟩:=I1.seq hq1.sq;obtain⟨its2,rv2,pl2,_⟩:=I1.seq hq2.sq;refine zou pl pl2 fun g hz hTI hTO h1 h2 hz' kk=>wpAny_pyIter_zip hz ?_;have I2:Inv X pins σ H1 { s1 with heap:=g }:=I1.kept (t':=s1.toks) kk;have ne:∀(n i j:Nat),i≠j→n+i≠n+j:=fun n i j h e=>h (Nat.add_left_cancel e);have D:ZipFar (s1.heap.objs.size+4) (s1.heap.objs.size+2) (s1.heap.objs.size+3) s1.heap.objs.size (s1.heap.objs.size+1):=
    ⟨ne _ 2 4 (by decide),ne _ 3 4 (by decide),ne _ 0 4 (by decide),ne _ 1 4 (by decide),ne _ 2 3 (by decide),ne _ 2 0 (by decide),ne _ 2 1 (by decide),ne _ 3 0 (by decide),ne _ 3 1 (by decide),ne _ 0 1 (by decide)⟩
   refine⟨_,_,_,_,H1,rfl,I2,zpe k1 k2 a b _ _ _ _ _ D,⟨hz,hTI,⟨_,_,hTO⟩,h1,h2⟩,fun c hc=>?_,q⟩;have hb':s1.heap.objs.size≤c:=by
    simp only[List.mem_cons,List.not_mem_nil,or_false]at hc;rcases hc with rfl |rfl |rfl |rfl |rfl
    ·exact Nat.le_add_right _ _
    ·exact Nat.le_add_right _ _
    ·exact Nat.le_add_right _ _
    ·exact Nat.le_refl _
    ·exact Nat.le_add_right _ _
   exact I1.fpOk hb' (I1.hok.fresh hb')
noncomputable def zbM:List W→List W→List W
 |x::xs,y::ys=> .tup [x,y]::zbM xs ys
 |_,_=>[]
theorem zht:∀{xs ys:List W}{i:Nat}{u:W},(zbM xs ys)[i]? =some u→ ∃x y,xs[i]? =some x∧ys[i]? =some y∧u= .tup [x,y]
 | [],_,_,_,h=>by simp [zbM]at h
 |_::_,[],_,_,h=>by simp [zbM]at h
 |x::xs,y::ys,0,u,h=>by
  simp [zbM]at h;exact⟨x,y,rfl,rfl,h.symm⟩
 |x::xs,y::ys,i+1,u,h=>by simpa using zht (xs:=xs) (ys:=ys) (i:=i) (u:=u) (by simpa [zbM]using h)
theorem zhB:∀{xs ys:List W},(zbM xs ys).length=min xs.length ys.length
 | [],_=>by simp [zbM]
 |_::_,[]=>by simp [zbM]
 |x::xs,y::ys=>by simp [zbM,zhB (xs:=xs) (ys:=ys)]
theorem zuD{K:PySem.W.Frag}{k1 k2:Bool}{a b:Addr}{ws us:List W}{G:Sto→Prop}{H0:Hp}{S0:Sto}(h:∀S H,Ext H0 S0 H S→RepS K H S→G S→(∃vs,SqZ k1 K H a vs∧Reps K H ws vs)∧ ∃vs,SqZ k2 K H b vs∧Reps K H us vs):ItW K (Itz k1 k2 K a b) (zbM ws us) G H0 S0:=fun i S H e hS hG=>by
 obtain⟨⟨xs,hq,r⟩,⟨ys,hq2,r2⟩⟩:=h S H e hS hG;refine⟨fun u eu=>?_,fun hl=>⟨xs,ys,hq,hq2,?_⟩⟩
 ·obtain⟨x,y,ex,ey,rfl⟩:=zht eu;obtain⟨v,ev,rv⟩:=r.get ex;obtain⟨v2,ev2,rv2⟩:=r2.get ey;refine⟨⟨xs,ys,v,v2,hq,hq2,ev,ev2⟩,fun x H' ⟨p,y1,y2,hp,e1,e2,e3,e4⟩=>?_⟩;subst e1 e2;have f1:=e3 xs hq;have f2:=e4 ys hq2;rw [ev]at f1;cases f1;rw [ev2]at f2;cases f2;exact⟨.new hp,hS.new hp, .tup zat (.cons (rv.ext (.new (S:=S) hp)) (.cons (rv2.ext (.new (S:=S) hp)) .nil))⟩
 ·rw [zhB]at hl;rw [←r.length,←r2.length];omega
theorem zko{K:PySem.W.Frag}{H:Hp}{S:Sto}{w:W}{v:V}{Q:List W→(Sto→Prop)→Prop}(r:Rep K H w v) (hS:RepS K H S) (h:zpV w S Q) :
  ∃k a ws G,v= .ref a∧G S∧(∀S' H',Ext H S H' S'→RepS K H' S'→G S'→ ∃vs,SqZ k K H' a vs∧Reps K H' ws vs)∧Q ws G:=by
 cases r with
 |tup f hs=>exact⟨false,_,_,_,rfl,trivial,fun S' H' e hS' _=>⟨_,e.tup _ _ f,hs.ext e⟩,h⟩
 |ref a=>
  obtain⟨ws,ea,h⟩:=zaR h;exact⟨true,_,ws,_,rfl,ea,fun S' H' e hS' g=>by
   obtain⟨vs,f,hs⟩:=hS' a _ g;exact⟨vs, .of f,hs⟩,h⟩
 |scr f=>exact⟨true,_,_,_,rfl,trivial,fun S' H' e hS' _=>⟨_,(e.fz f).sq,Reps.ofInts _⟩,h⟩
 |_=>exact h.elim
noncomputable def zst (t u:WE):WI:=fun E σ S Q=>t E σ S fun x S1=>u E σ S1 fun y S2=>zpV x S2 fun xs G=>zpV y S2 fun ys G'=>Q (zbM xs ys) (fun S'=>G S'∧G' S') S2
theorem zlD{a b:Expr}{ta tb:WE}{p pos:Pos}(hg:Gl X "zip") (hm:X.mg "zip" =none) (ha:JE X a ta) (hb:JE X b tb) (hs:starEach [a,b] X.env=[(false,eval a X.env),(false,eval b X.env)]:=by rfl) (hs2:starEach [b] X.env=[(false,eval b X.env)]:=by rfl)
  (h3:starEach [a,b] X.env=(false,eval a X.env)::starEach [b] X.env:=by rfl) (h4:starEach [b] X.env=(false,eval b X.env)::starEach [] X.env:=by rfl):JI X (.Tuple es x1 tpos) (.Call (.Name "zip" p) [a,b] [] pos) (zst ta tb):=fun E hE=>
 (ztE hg hm (zby (ha E hE) (zby (hb E hE) pa_nil h4) h3) hs hs2).mono fun σ H R ⟨σW,S,QW,hσ,hS,ht,hR⟩=>⟨σW,S,_,hσ,hS,ht,fun x S1 v H1 e1 r1 hS1 h1=>⟨σW,S1,_,hσ.ext e1,hS1,h1,fun y S2 v2 H2 e2 r2 hS2 h2=>by
  obtain⟨k1,a,ws,G,rfl,hG,hq,h⟩:=zko (r1.ext e2) hS2 h2;obtain⟨k2,b,us,G',rfl,hG',hq',h⟩:=zko r2 hS2 h;obtain⟨vs,hv,_⟩:=hq S2 H2 .refl hS2 hG;obtain⟨vs',hv',_⟩:=hq' S2 H2 .refl hS2 hG';exact⟨k1,k2,a,b,vs,vs',rfl,hv,hv',hR _ _ S2 _ H2 (e1.trans e2) hS2 ⟨hG,hG'⟩ (zuD fun S' H' e hS' g=>⟨hq S' H' e hS' g.1,hq' S' H' e hS' g.2⟩) h⟩⟩⟩
end
noncomputable def Itd (hi:Int) (n:Nat):It:=⟨fun i _=>i<n,fun i H x H'=>H'=H∧x= .int (hi - i),fun i _=>n≤i⟩
theorem zne{P:Program}{w:World}{K:PySem.W.Frag}{tg:Expr}(it:Addr) (hi:Int) (n:Nat):Turn P w K tg (Itd hi n) [it] it (fun i h=>IsRangeIter h it (hi+(i:Nat)*(-1)) ((n:Int) - (i:Nat)) (-1)) where
  mem:=by simp
  obj:=fun i h st b hb=>by
    have e:b=it:=by simpa using hb
    subst e;exact⟨_,st,fun v z=>by
      have z':Data.fields _=Data.cell v:=z;cases z'⟩
  keep:=fun i h h' st k=>k it (by simp) _ st
  item:=by
    intro X hP hw hK hc i pins s σ H E I hf st hg;subst hP hw hK;obtain⟨f0,f1,f2,f3,f4,f5⟩:=hf it (by simp);have W:=Walks.range (prog:=X.prog) (w:=X.w) (I.ok.hd hc) it hi (-1) n;refine W.item i s _ _ hg st fun v h' tk hv st' kk=>?_;obtain⟨t,rfl⟩:=hv;have I1:Inv X pins σ H { s with heap:=h',toks:=tk }:=I.turned (fun b o hb e=>kk b o (by simpa using hb) e) f0 f1 f3 f4 f5;refine⟨_,rfl,zmG (s:={ s with heap:=h',toks:=tk }) (n:= "range_iterator") st' rfl rfl (by decide) ⟨.int (hi - i),H,I1,⟨t,?_⟩,⟨rfl,rfl⟩,st',fun b hb=>(hf b hb).1⟩⟩;congr 1;omega
  done:=by
    intro X hP hw hK hc i pins s σ H E I hf st hg;subst hP hw hK;obtain⟨f0,f1,f2,f3,f4,f5⟩:=hf it (by simp);exact wpAny_pyNext_range_end (I.ok.hd hc) st (by have:n≤i:=hg;omega) fun h' eb=>⟨rfl,I.turned (t':=s.toks) (fun b o hb e=>eb b o hb e) f0 f1 f3 f4 f5⟩
  self:=fun _ _ _ _ _ st h=>wpAny_pyIter_rangeiter st h
theorem zds (a b:Int):Builtin.Range.rangeSize a b (-1)=if b<a then a - b else 0:=by
 unfold Builtin.Range.rangeSize;simp only[show ¬((-1:Int) > 0) by decide,if_false,show(-(-1:Int))=1 by decide,Int.ediv_one]
 split<;>omega
theorem zlt{a b:Int}(ha: -(2 ^ 62)≤a) (ha':a<2 ^ 62) (hb: -(2 ^ 62)≤b) (hb':b<2 ^ 62):Builtin.Range.small a b (-1)=true:=by
 unfold Builtin.Range.small;rw [zds];simp only[Builtin.Range.rangeFitsLong,Bool.and_eq_true,Bool.or_eq_true,decide_eq_true_eq,beq_iff_eq,show ¬((-1:Int) > 0) by decide,if_false]
 split<;>omega
section
variable {X:Cx}{tg:Expr}
theorem zrU{pins:List (Addr×Obj)}{σ:St}{H:Hp}{s:Shared}{R:It→Hp→Prop}{E:Value→Shared→Prop}{hi lo:Int}{t u v:Tok}{tk:Nat}(I:Inv X pins σ H s) (h1: -(2 ^ 62)≤hi) (h2:hi<2 ^ 62) (h3: -(2 ^ 62)≤lo) (h4:lo<2 ^ 62)
  (q:R (Itd hi (hi - lo).toNat) H):wpAny (model X.prog X.w) X.A (pyIter (.ref s.heap.objs.size)) (PIE X pins σ tg R) E { s with heap:=s.heap.push { cls:= .type "range",data:= .fields #[.int hi t, .int lo u, .int (-1) v] },toks:=tk }:=by
 refine wpAny_pyIter_range (IsRange.new ..) (zlt h1 h2 h3 h4) ?_;have I1:Inv X pins σ H { s with heap:=s.heap.push { cls:= .type "range",data:= .fields #[.int hi t, .int lo u, .int (-1) v] },toks:=tk }:=I.kept fun b o e=>Heap.get?_push_of_some _ e;refine⟨(s.heap.push { cls:= .type "range",data:= .fields #[.int hi t, .int lo u, .int (-1) v] }).objs.size,[(s.heap.push { cls:= .type "range",data:= .fields #[.int hi t, .int lo u, .int (-1) v] }).objs.size],_,_,H,rfl,
  I1.kept (t':=tk) fun b o e=>Heap.get?_push_of_some _ e,zne _ hi (hi - lo).toNat,?_,fun b hb=>?_,q⟩
 ·have e1:hi+((0:Nat):Int)*(-1)=hi:=by simp
  have e2:(((hi - lo).toNat:Nat):Int) - ((0:Nat):Int)=Builtin.Range.rangeSize hi lo (-1):=by rw [zds];split<;>omega
  show IsRangeIter _ _ (hi+((0:Nat):Int)*(-1)) ((((hi - lo).toNat:Nat):Int) - ((0:Nat):Int)) (-1);rw [e1,e2];exact Heap.get?_push_size _ rfl
 ·have e:b=(s.heap.push { cls:= .type "range",data:= .fields #[.int hi t, .int lo u, .int (-1) v] }).objs.size:=by simpa using hb
  subst e;exact I1.fpOk (Nat.le_refl _) (I1.hok.fresh (Nat.le_refl _))
noncomputable def zwE (ta:TA):TI:=fun σ H R=>ta σ H fun vs H1=>∃i j:Int,vs=[.int i, .int j, .int (-1)]∧(-(2 ^ 62)≤i∧i<2 ^ 62∧ -(2 ^ 62)≤j∧j<2 ^ 62)∧R (Itd i (i - j).toNat) H1
theorem zqO{a b c:Expr}{ta:TA}{p pos:Pos}(hg:Gl X "range") (hm:X.mg "range" =none) (ha:PA X [a,b,c] ta) (hs:starEach [a,b,c] X.env=[(false,eval a X.env),(false,eval b X.env),(false,eval c X.env)]:=by rfl) (hs2:starEach [b,c] X.env=[(false,eval b X.env),(false,eval c X.env)]:=by rfl) :
  PI X tg (.Call (.Name "range" p) [a,b,c] [] pos) (zwE ta):=by
 intro pins s σ H R I h;refine Call_ (zgC I hg hm boot_range (PyProof.Rows.callWith_type1 (thn (ha pos pins s σ H _ I h) fun us s1 ⟨vs,H1,I1,r1,q1⟩=>?_) (by rw [hs,hs2]) (by rw [hs2];rfl)));obtain⟨i,j,e,⟨q1,q2,q3,q4⟩,q⟩:=q1;subst e;cases r1 with
 |cons r rr=>
  cases rr with
  |cons r' rr=>
   cases rr with
   |cons r'' rr=>
    cases rr;obtain⟨t,rfl⟩:=r;obtain⟨t',rfl⟩:=r';obtain⟨t'',rfl⟩:=r'';exact call_range_3 (by decide) (zrU I1 q1 q2 q3 q4 q) (.inl (PyProof.noPylong_small (by decide)))
noncomputable def zgw (hi:Int) (n:Nat):List W:=(List.range n).map fun(i:Nat)=> .int (hi - (i:Int))
theorem zqU{K:PySem.W.Frag}{hi:Int}{n:Nat}{H0:Hp}{S0:Sto}:ItW K (Itd hi n) (zgw hi n) (fun _=>True) H0 S0:=fun i S H e hS hG=>by
 unfold zgw;refine⟨fun w ew=>?_,fun hl=>by
  have:i=n:=by simpa using hl
  exact Nat.le_of_eq this.symm⟩
 rw [List.getElem?_map]at ew;by_cases hh:i<n
 ·rw [List.getElem?_range hh]at ew;have ew':=Option.some.inj ew;subst ew';refine⟨hh,fun x H' ⟨e1,e2⟩=>?_⟩;subst e1 e2;exact⟨.refl,hS, .int _⟩
 ·rw [List.getElem?_eq_none (by simpa using hh)]at ew;cases ew
noncomputable def zpu (t:WA):WI:=fun E σ S Q=>t E σ S fun ws S1=>match ws with
 | [.int i, .int j, .int c]=>c= -1∧(-(2 ^ 62)≤i∧i<2 ^ 62∧ -(2 ^ 62)≤j∧j<2 ^ 62)∧Q (zgw i (i - j).toNat) (fun _=>True) S1
 |_=>False
theorem zmN{a b c:Expr}{ta:WA}{p pos:Pos}(hg:Gl X "range") (hm:X.mg "range" =none) (ha:JA X [a,b,c] ta) (hs:starEach [a,b,c] X.env=[(false,eval a X.env),(false,eval b X.env),(false,eval c X.env)]:=by rfl) (hs2:starEach [b,c] X.env=[(false,eval b X.env),(false,eval c X.env)]:=by rfl):JI X tg (.Call (.Name "range" p) [a,b,c] [] pos) (zpu ta):=fun E hE=>
 (zqO hg hm (ha E hE) hs hs2).mono fun σ H R ⟨σW,S,QW,hσ,hS,ht,hR⟩=>⟨σW,S,_,hσ,hS,ht,fun ws S1 vs H1 e1 r1 hS1 h1=>by
  split at h1
  ·rename_i i j c;cases r1 with
   |cons x1 x2=>cases x2 with
    |cons x2 x3=>cases x3 with
     |cons x3 x4=>
      cases x4;cases x1;cases x2;cases x3;obtain⟨rfl,hb,h⟩:=h1;exact⟨i,j,rfl,hb,hR _ _ S1 _ H1 e1 hS1 trivial zqU h⟩
  ·exact h1.elim⟩
end
section
variable {X:Cx}{a b c:Expr}{pos:Pos}{ta tb tc:WE}
theorem zpk{op op':CmpOp}{r r':R2}{wr wr':W2}(ho:OpR X (compareOp op) r) (hw:OpW X.K r wr) (ho':OpR X (compareOp op') r') (hw':OpW X.K r' wr') (ha:JE X a ta) (hb:JE X b tb) (hc:JE X c tc)
  (hm:lastMarks [op,op'] [b,c]=false:=by with_unfolding_all rfl):JE X (.Compare a [op,op'] [b,c] pos) (zhD wr wr' ta tb tc):=fun E hE=>
 (zpB ho ho' (ha E hE) (hb E hE) (hc E hE) hm).mono fun σ H Q ⟨σW,S,QW,hσ,hS,ht,hQ⟩=>by
  refine⟨σW,S,_,hσ,hS,ht,fun x S1 v1 H1 e1 r1 hS1 h1=>⟨σW,S1,_,hσ.ext e1,hS1,h1,fun y S2 v2 H2 e2 r2 hS2 h2=>?_⟩⟩;refine hw H2 v1 v2 x y S2 _ _ (r1.ext e2) r2 hS2 h2 fun z S3 v3 H3 e3 r3 hS3 h3=>?_;cases r3 with
  |bl k=>
   refine⟨k,rfl,?_⟩;cases k with
   |true=>
    refine⟨σW,S3,_,((hσ.ext e1).ext e2).ext e3,hS3,h3,fun u S4 v4 H4 e4 r4 hS4 h4=>?_⟩;exact hw' H4 v2 v4 y u S4 Q QW ((r2.ext e3).ext e4) r4 hS4 h4 (hQ.from (((e1.trans e2).trans e3).trans e4))
   |false=>exact hQ _ S3 _ H3 ((e1.trans e2).trans e3) (.bl false) hS3 h3
  |_=>exact h3.elim
theorem zlU (ha:JE X a ta) (hb:JE X b tb) (hc:JE X c tc) (hm:lastMarks [.LtE, .LtE] [b,c]=false:=by with_unfolding_all rfl):JE X (.Compare a [.LtE, .LtE] [b,c] pos) (zhD oLe oLe ta tb tc):=zpk (op_le.or zil) zqw (op_le.or zil) zqw ha hb hc hm
end
section
variable {X:Cx}{e:Expr}{es:List Expr}{t:WA}{p pos:Pos}
noncomputable def zss:WF:=fun ws S Q=>match ws with
 | [.int i]=>Q (.int i) S
 | [.bl b]=>Q (.int (if b then 1 else 0)) S
 |_=>False
theorem znj{K:PySem.W.Frag}:zma K (fun xs H Q=>(∃i,xs=[.int i]∧Q (.int i) H)∨ ∃k,xs=[.bl k]∧Q (.int (if k then 1 else 0)) H) zss:=fun H vs ws S Q QW r hS h hQ=>by
 cases r with
 |nil=>exact h.elim
 |cons r1 r2=>
  cases r2 with
  |cons _ _=>cases r1<;>exact h.elim
  |nil=>
   cases r1 with
   |int i=>exact .inl ⟨i,rfl,hQ _ S _ H .refl (.int _) hS h⟩
   |bl b=>exact .inr ⟨b,rfl,hQ _ S _ H .refl (.int _) hS h⟩
   |_=>exact h.elim
theorem znt (hg:Gl X "int") (hm:X.mg "int" =none) (ha:JA X (e::es) t)
  (he:starEach (e::es) X.env=(false,eval e X.env)::starEach es X.env:=by rfl) (hpl:(backTo pos (starEach es X.env)).any (·.1)=false:=by rfl):JE X (.Call (.Name "int" p) (e::es) [] pos) (wB zss t):=
 ztt zmn znj hg hm PyProof.Rows.boot_int ha (by decide) (by decide) he hpl
noncomputable def zwh:WF:=fun ws S Q=>match ws with
 | [.int i, .int j]=>Q (.int (if j > i then j else i)) S
 |_=>False
noncomputable def zvx:WF:=fun ws S Q=>match ws with
 | [.int i, .int j]=>Q (.int (if j<i then j else i)) S
 |_=>False
theorem zjv{tl:WL}(hg:Gl X "all") (hm:X.mg "all" =none) (ha:JL X e tl)
  (he:starEach [e] X.env=(false,eval e X.env)::starEach [] X.env:=by rfl) (hpl:(backTo pos (starEach [] X.env)).any (·.1)=false:=by rfl) (hcl:X.calm=true:=by rfl):JE X (.Call (.Name "all" p) [e] [] pos) (wBL zjc tl):=fun E hE=>zqC (zoq hcl) zmS hg hm PyProof.Rows.boot_all ha (by decide) (by decide) he hpl E hE
theorem znS{tl:WL}(hg:Gl X "tuple") (hm:X.mg "tuple" =none) (ha:JL X e tl)
  (he:starEach [e] X.env=(false,eval e X.env)::starEach [] X.env:=by rfl) (hpl:(backTo pos (starEach [] X.env)).any (·.1)=false:=by rfl):JE X (.Call (.Name "tuple" p) [e] [] pos) (wBL zgJ tl):=ztX zdW ziV hg hm PyProof.Rows.boot_tuple ha (by decide) (by decide) he hpl
theorem zkK (hg:Gl X "tuple") (hm:X.mg "tuple" =none) (ha:JA X (e::es) t)
  (he:starEach (e::es) X.env=(false,eval e X.env)::starEach es X.env:=by rfl) (hpl:(backTo pos (starEach es X.env)).any (·.1)=false:=by rfl):JE X (.Call (.Name "tuple" p) (e::es) [] pos) (wB zfP t):=ztt zdW zjG hg hm PyProof.Rows.boot_tuple ha (by decide) (by decide) he hpl
end
theorem zwe{K:PySem.W.Frag}:∀T∈ ["int", "bool", "str", "tuple", "list"],∀A∈ ["NoneType", "bool", "int", "str", "tuple", "list"],PySem.W.kitOne K (.type A) (.type T)=some (zbl A T):=by
 intro T hT A hA;simp only[List.mem_cons,List.not_mem_nil,or_false]at hT hA;rcases hT with rfl |rfl |rfl |rfl |rfl<;>rcases hA with rfl |rfl |rfl |rfl |rfl |rfl<;>rfl
theorem gl0:∀(ws:List W) (σ:WSt) (S:Sto) (P:WSt→Sto→Prop),zgc ws σ S P→ws.length=0:=fun ws σ S P h=>by
 cases ws with
 |nil=>rfl
 |cons _ _=>exact h.elim
theorem glS{i n:Nat}{u:WGs}(h:∀(ws:List W) (σ:WSt) (S:Sto) (P:WSt→Sto→Prop),u ws σ S P→ws.length=n):∀(ws:List W) (σ:WSt) (S:Sto) (P:WSt→Sto→Prop),zbJ (wGN i) u ws σ S P→ws.length=n+1:=fun ws σ S P q=>by
 cases ws with
 |nil=>exact q.elim
 |cons w ws=>exact congrArg (· +1) (h _ _ _ _ q)
noncomputable def zba:WSp:=fun _ _ _ _=>False
theorem zuh{P:Program}{w:World}{K:PySem.W.Frag}{mg:Str→Option Value}{base:Heap}{f:Addr}{fd:FuncData}{ps:List Str}{k:Nat}:FnOk P w K mg base (CX1 P w) k f fd ps (zbI K zba):=
 ⟨fun vs H Q E ⟨_,_,_,_,_,_,h,_⟩=>h.elim,fun A outer s H args us vs Q E _ _ _ _ ⟨_,_,_,_,_,_,h,_⟩=>h.elim⟩
section
variable {X:Cx}{a b:Expr}{pos:Pos}{ta tb:WE}{la lb:WL}
noncomputable def zvU (t:WL) (u:WE):WE:=fun E σ S Q=>t E σ S fun ws S1=>u E σ S1 fun y S2=>match y with
 | .int i=>match atI ws i with
  |some w=>Q w S2
  |none=>False
 |_=>False
theorem ztc (ha:JL X a la) (hb:JE X b tb) (hs:ziP b:=by intro _ _;rfl):JE X (.Subscript a b pos) (zvU la tb):=fun E hE=>
 (ztf zpZ (ha E hE) (hb E hE) hs).mono fun σ H Q ⟨σW,S,QW,hσ,hS,ht,hQ⟩=>⟨σW,S,_,hσ,hS,ht,fun ws S1 vs p H1 e1 fp ep np r1 hS1 h1=>⟨σW,S1,_,hσ.ext e1,hS1,h1,fun y S2 v2 H2 e2 r2 hS2 h2=>by
  cases r2 with
  |int i=>
   dsimp only at h2;split at h2
   ·obtain⟨v,ev,r⟩:=ziT (r1.ext e2) ‹_›;exact .inl ⟨p,vs,i,v,rfl,rfl, .of (e2.fr p _ ep np).1,ev,hQ _ S2 _ H2 (e1.trans e2) r hS2 h2⟩
   ·exact h2.elim
  |_=>exact h2.elim⟩⟩
noncomputable def zra (t:WE) (u:WL):WL:=fun E σ S Q=>t E σ S fun x S1=>u E σ S1 fun ys S2=>match x with
 | .ref a=>zbG S2 a fun xs=>xs.length+ys.length≤sizeLine∧Q (xs++ys) S2
 |_=>False
noncomputable def zqP (t u:WL):WL:=fun E σ S Q=>t E σ S fun xs S1=>u E σ S1 fun ys S2=>xs.length+ys.length≤sizeLine∧Q (xs++ys) S2
theorem zmg (ha:JE X a ta) (hb:JL X b lb):JL X (.BinOp a .Add b pos) (zra ta lb):=fun E hE=>
 (zrz zmC (ha E hE) (hb E hE)).mono fun σ H Q ⟨σW,S,QW,hσ,hS,ht,hQ⟩=>⟨σW,S,_,hσ,hS,ht,fun w1 S1 v1 H1 e1 r1 hS1 h1=>⟨σW,S1,_,hσ.ext e1,hS1,h1,fun ys S2 us q H2 e2 fq eq nq r2 hS2 h2=>by
  cases r1 with
  |ref p=>
   obtain⟨xs,ea,h⟩:=zaR h2;obtain⟨vs,f1,q1⟩:=hS2 p _ ea;exact⟨p,q,vs,us,rfl,rfl,f1,eq,by rw [←q1.length,←r2.length];exact h.1,fun p hp=>hQ _ S2 _ p _ ((e1.trans e2).trans (.new hp)) ((e1.trans e2).free hp) zat (hS2.free hp) ((q1.append r2).ext (.new (S:=S2) hp)) (hS2.new hp) h.2⟩
  |_=>exact h2.elim⟩⟩
theorem zru (ha:JL X a la) (hb:JL X b lb):JL X (.BinOp a .Add b pos) (zqP la lb):=fun E hE=>
 (zrz zmC (ha E hE) (hb E hE)).mono fun σ H Q ⟨σW,S,QW,hσ,hS,ht,hQ⟩=>⟨σW,S,_,hσ,hS,ht,fun xs S1 vs p H1 e1 fp ep np r1 hS1 h1=>⟨σW,S1,_,hσ.ext e1,hS1,h1,fun ys S2 us q H2 e2 fq eq nq r2 hS2 h2=>
  ⟨p,q,vs,us,rfl,rfl,(e2.fr p _ ep np).1,eq,by rw [←r1.length,←r2.length];exact h2.1,fun z hz=>hQ _ S2 _ z _ ((e1.trans e2).trans (.new hz)) ((e1.trans e2).free hz) zat (hS2.free hz) (((r1.ext e2).append r2).ext (.new (S:=S2) hz)) (hS2.new hz) h2.2⟩⟩⟩
theorem Reps.rep{K:PySem.W.Frag}{H:Hp}{ws:List W}{vs:List V}(h:Reps K H ws vs):∀k:Nat,Reps K H (List.replicate k ws).flatten (List.replicate k vs).flatten
 |0=> .nil
 |k+1=>by
  rw [List.replicate_succ,List.replicate_succ,List.flatten_cons,List.flatten_cons];exact h.append (Reps.rep h k)
end
theorem zoX{K:PySem.W.Frag}{H:Hp}{a:Addr}{ns:List Int}{c:WSp}{E:XK}(hO:zve H) (hS:SqL K H a (ns.map V.int)) (h:c [.scr ns] (fun _=>none) (fun w _=>w= .bl true) (fun _ _=>False)):zbI K c [.ref a] H (fun v _=>v= .bl true) E:=by
 have fz:FzL K H a (ns.map V.int):=by
  rcases hS with(hS |⟨o,hS⟩) |hS
  ·rcases hO a with z |⟨o,xs,z⟩
   ·rw [hS]at z;cases z
   ·rw [hS]at z;cases z
  ·exact .inl ⟨o,hS⟩
  ·exact .inr hS
 refine⟨[.scr ns],fun _=>none,_,fun _ _=>False, .one (.scr fz),(fun a o e=>by cases e),h,fun w S v H' e r hS' q=>?_,fun _ _ _ _ _ _ z=>z.elim⟩
 subst q;cases r;rfl
section
variable {X:Cx}{a b:Expr}{p pos:Pos}
noncomputable def znY:W2
 | .tup xs, .int k,S,Q=>(xs≠ []∧ -(2 ^ 63)≤k∧k<2 ^ 63∧xs.length*k.toNat≤sizeLine)∧Q (.tup (List.replicate k.toNat xs).flatten) S
 |_,_,_,_=>False
theorem zoy{K:PySem.W.Frag}:OpW K (zuj K) znY:=fun H x y wx wy S Q QW rx ry hS h hQ=>by
 cases rx with
 | @tup a vs ws f hs=>
  cases ry with
  |int k=>
   obtain⟨⟨h0,h1,h2,h3⟩,h⟩:=h;have hl:=hs.length;refine⟨a,k,vs,rfl,rfl, .of f,?_,h1,h2,by rw [←hl];exact h3,fun hk=>?_,fun hk p hp=>?_⟩
   ·rintro rfl;cases hs;exact h0 rfl
   ·subst hk;have:(List.replicate (Int.toNat 1) ws).flatten=ws:=by simp
    rw [this]at h;exact hQ _ S _ H .refl (.tup f hs) hS h
   ·exact hQ _ S _ _ (.new hp) (.tup zat ((hs.rep k.toNat).ext (.new (S:=S) hp))) (hS.new hp) h
  |_=>exact h.elim
 |_=>cases ry<;>exact h.elim
theorem zsc{ta tb:WE}(ha:JE X a ta) (hb:JE X b tb):JE X (.BinOp a .Mult b pos) (wOp znY ta tb):=ziX zri zoy ha hb
end
section
variable {K:PySem.W.Frag}{H:Hp}
noncomputable abbrev RepD (K:PySem.W.Frag) (H:Hp):List (List Int×W)→List (List Key×V)→Prop:=Paired fun q p=>p.1=q.1.map Sum.inl∧Rep K H q.2 p.2
theorem RepD.length{kvs:List (List Int×W)}{ps:List (List Key×V)}(r:RepD K H kvs ps):kvs.length=ps.length:=Paired.length r
end
section
variable {X:Cx}{o:Expr}{to:WE}{apos cpos:Pos}
noncomputable def zqs:V→List V→Hp→VK→Prop:=fun x vs H Q=>∃z:Str,x= .str z∧vs=[]∧z.length≤5592405∧Q (.str (Txt.upper z)) H
theorem zoh:MtR X "str.upper" zqs:=by
 intro pins s σ H x vs v us Q I rx rv h;obtain⟨z,rfl,rfl,hz,q⟩:=h;obtain⟨t,rfl⟩:=rx;cases rv;exact SCL.upper hz fun _=>⟨.str (Txt.upper z),H,I.tok _,⟨_,rfl⟩,q⟩
noncomputable def zkf:WMf:=fun w ws S Q=>match w,ws with
 | .str z,[]=>z.length≤5592405∧Q (.str (Txt.upper z)) S
 |_,_=>False
theorem znd{K:PySem.W.Frag}:MtW K zqs zkf:=fun H x w vs ws S Q QW r rs hS h hQ=>by
 cases r with
 |str z=>
  cases rs with
  |nil=>exact⟨z,rfl,rfl,h.1,hQ _ S _ H .refl (.str _) hS h.2⟩
  |cons _ _=>exact h.elim
 |_=>exact h.elim
theorem zpH (ho:JE X o to) (hbase:attributeBase o "upper" X.env (eval o X.env)=eval o X.env:=by rfl) (hline:(apos.endLine == cpos.line)=true:=by rfl):JE X (.Call (.Attribute o "upper" apos) [] [] cpos) (wM rvS zkf to waNil):=
 zwx PySem.F.plainAttrs_str PySem.F.slot_str_upper PySem.F.type_str_upper zqB zoh znd ho hbase hline
end
end L2
end
section
namespace L2
open PySem PySem.Spec PyProof.Rows PySem.W PySem.Calls Builtin Builtin.ObjectAttr Builtin.Getset_descriptor
structure XcOk (K:Frag) (C:Addr):Prop where
  ga:findIn K (.ref C) "__getattribute__" =some (some (.builtin "BaseException.__getattribute__"))
  gt:findIn K (.ref C) "__getattr__" =some none
  cl:findIn K (.ref C) "__class__" =some (some (.builtin "object.__class__"))
  ob:mroIn K C (.type "object")=some true
  be:mroIn K C (.type "BaseException")=some true
section
variable {prog:Program}{w:World}{A:Around}{E:Value→Shared→Prop}{h:Heap}{g:Array GenState}{d:Drawn}{t:Nat}{os:OsState}{a C:Addr}{o:Obj}{K:Frag}
theorem zpc{M:Model}(hx:h.get? a=some o) (hc:o.cls= .ref C):Looks M h (typeOf (.ref a)) (.ref C):=hc▸(Looks.ld hx).andThen .now
theorem zsI{R:Result→Shared→Prop}(O:XcOk K C) (X:K.In h) (hx:h.get? a=some o) (hc:o.cls= .ref C) (hq:R (.ok (.ret (.ref C))) ⟨h,g,d,t,os⟩) :
  codeAny (model prog w) A (.call (.builtin "getset_descriptor.__get__") ⟨[.builtin "object.__class__", .ref a, .ref C],[]⟩) R ⟨h,g,d,t,os⟩:=by
 have L0:=zpc (M:=model prog w) hx hc;have L1:=looks_mroIn (M:=model prog w) X O.ob;refine codeAny_call_builtin KF.slot_gs.plain KF.entry_gs (KF.slot_gs.check _ _ _ _ _ _ _ _ KF.type_class (KF.args_gs _ _ _) ?_);unfold Builtin.«getset_descriptor.__get__» descrGet;rw [dga_obj];refine wpAny_bind (wpAny_pure ?_);unfold descrGetter descrCheckInstance descrNameAndClass isInstance;simp only[KF.owner_class]
 repeat lk
 refine⟨Code.quiet_builtin _ (by decide +kernel),codeAny_builtin KF.entry_class ?_⟩;unfold Builtin.«object.__class__» shownTypeOf
 repeat lk
 exact hq
theorem zpq{tk:Tok}{Q:Fin→Shared→Prop}(O:XcOk K C) (X:K.In h) (hx:h.get? a=some o) (hc:o.cls= .ref C) (hq:Q (.done (.ret (.ref C))) ⟨h,g,d,t,os⟩) :
  wpAny (model prog w) A (Builtin.«object.__getattribute__» ⟨[.ref a, .str "__class__" tk],[]⟩) Q E ⟨h,g,d,t,os⟩:=by
 have hT5:(⟨h,g,d,t,os⟩:Shared).TypeIs (.builtin "object.__class__") "getset_descriptor" :=F.typeOf_object_class;have f5:=F.typeOf_object_class;have f6:=F.slot_gs_get.lookup;have f7:=F.slot_gs_set.lookup;have L1:=looks_findIn (M:=model prog w) X O.cl
 repeat (any_goals (first |assumption | (with_reducible refine wpAny_loadPart_at hx ?_;rw [hc]) |with_reducible refine L1.at ?_ |wp_step))
 refine zsI O X hx hc ?_
 repeat (any_goals (first |assumption |wp_step))
theorem zoR{M:Model}{nameV:Value}{Q:Unit→Shared→Prop}(O:XcOk K C) (X:K.In h) (hx:h.get? a=some o) (hc:o.cls= .ref C) (hq:Q () ⟨h,g,d,t,os⟩):wpAny M A (checkBuiltinCall "BaseException.__getattribute__" ⟨[.ref a,nameV],[]⟩) Q E ⟨h,g,d,t,os⟩:=by
 have hk:builtinKind "BaseException.__getattribute__" =some .slot:=by decide +kernel
 have hsplit:splitId "BaseException.__getattribute__" =some ("BaseException", "__getattribute__"):=by decide +kernel
 have L1:=looks_mroIn (M:=M) X O.be;have ha:=F.args_bexc_ga (.ref a) nameV;simp only[checkBuiltinCall,hk,hsplit];refine wpAny_bind ?_;unfold isInstance
 repeat (first | (with_reducible refine wpAny_loadPart_at hx ?_;rw [hc]) |with_reducible refine L1.at ?_ |wp_step)
 exact hq
theorem zqM{tk:Tok}{R:Result→Shared→Prop}(O:XcOk K C) (X:K.In h) (hx:h.get? a=some o) (hc:o.cls= .ref C) (hq:R (.ok (.ret (.ref C))) ⟨h,g,d,t,os⟩) :
  codeAny (model prog w) A (.call (.builtin "BaseException.__getattribute__") ⟨[.ref a, .str "__class__" tk],[]⟩) R ⟨h,g,d,t,os⟩:=
 codeAny_call_builtin F.excAttr_ValueError.ga.plain F.entry_bexc_ga (zoR O X hx hc (zpq O X hx hc hq))
theorem zwt{tk:Tok}{fill expr:Bool}{Q:Value→Shared→Prop}(O:XcOk K C) (X:K.In h) (hx:h.get? a=some o) (hc:o.cls= .ref C) (hq:Q (.ref C) ⟨h,g,d,t,os⟩) :
  wpAny (model prog w) A (getAttrBy (.ref a) (.str "__class__" tk) fill expr) Q E ⟨h,g,d,t,os⟩:=by
 have f3:=F.excAttr_ValueError.ga.bind (.ref a);have hx0:(expr&&onTheHeap (Value.builtin "BaseException.__getattribute__"))=false:=by cases expr<;>rfl
 have hx2:(Value.builtin "BaseException.__getattribute__" == Value.builtin "object.__getattribute__")=false:=by decide +kernel
 have hx1:(onTheHeap (Value.ref C)&&Value.builtin "BaseException.__getattribute__" == Value.builtin "object.__getattribute__")=false:=by rw [hx2];rfl
 have L1:=looks_findIn (M:=model prog w) X O.ga;have L2:=looks_findIn (M:=model prog w) X O.gt
 repeat (any_goals (first |assumption | (with_reducible refine wpAny_loadPart_at hx ?_;rw [hc]) |with_reducible refine L1.at ?_ |with_reducible refine L2.at ?_ |wp_step))
 refine zqM O X hx hc ?_
 repeat (any_goals (first |assumption |wp_step))
theorem zrT{Q:Option Value→Shared→Prop}(O:XcOk K C) (X:K.In h) (hx:h.get? a=some o) (hc:o.cls= .ref C) (hq:Q (some (.ref C)) ⟨h,g,d,t+1,os⟩):wpAny (model prog w) A (getAttr? (.ref a) "__class__") Q E ⟨h,g,d,t,os⟩:=by
 unfold getAttr? getAttrBy?
 repeat (any_goals (first |assumption |with_reducible apply zwt O X hx hc |wp_step))
theorem zoA (O:XcOk K C):KitX K (.ref a) (.ref C) (fun h=>∃o,h.get? a=some o∧o.cls= .ref C) where
  ty:=fun _ _ _ ⟨o,hx,hc⟩=>zpc hx hc
  it:=fun _ _ X _=>by
    obtain⟨cd,hcD,_⟩:=Option.bind_eq_some_iff.mp O.ob;unfold clsIn at hcD;split at hcD
    · rename_i c' d' cd' sl' ho;intro A' Q' E' s' k q;unfold isType loadHead;exact wpAny_bind (wpAny_loadPart (k _ _ (X _ _ ho)) (wpAny_pure q))
    · cases hcD
  ne:=fun h tp dd its n sl X htp=>by
    obtain⟨cd,hcD,_⟩:=Option.bind_eq_some_iff.mp O.ob;refine Bool.eq_false_iff.mpr fun q=>?_;have e:C=tp:=Value.ref.inj (beq_iff_eq.mp q);subst e;unfold clsIn at hcD;split at hcD
    · rename_i c' d' cd' sl' ho;have z:=(X _ _ ho).symm.trans htp;cases z
    · cases hcD
  ca:=fun {_ _ _ _ _ s} X ⟨o,hx,hc⟩ k=>by
    obtain⟨h,g,d,t,os⟩:=s;exact zrT O X hx hc k
end
noncomputable abbrev bmV:List Value:=[.type "ValueError", .type "Exception", .type "BaseException", .type "object"]
structure XcIn (K:PySem.W.Frag) (x:Str) (C:Addr):Prop where
  nm:PySem.W.nsIn K mainGlobals x=some (some (.ref C))
  ex:PySem.W.excIn K C bmV "ValueError.__new__" =true
  xc:XcOk K C
theorem XcIn.own{K:PySem.W.Frag}{x:Str}{C:Addr}{h:Heap}{mg:Str→Option Value}(O:XcIn K x C) (X:K.In h) (G:h.Ns mainGlobals mg):OwnCls x C bmV "ValueError.__new__" mg h:=by
 have q:=O.ex;refine⟨PySem.W.mg_of X G O.nm,?_⟩;unfold PySem.W.excIn at q;split at q
 ·rename_i dd cd sl ho;split at q
  ·rename_i C' bm k0 k1 k2 k3 n k5 hm hs;simp only[Bool.and_eq_true,beq_iff_eq,Bool.not_eq_true']at q;obtain⟨⟨⟨⟨⟨rfl,hnn⟩,hdel⟩,ht⟩,hok⟩,hni⟩:=q;obtain⟨nm,bs,mro,ns,qn,hd,sn,sub,ab,col,del⟩:=cd;dsimp only at hm hdel hok hni;subst hm hdel;have hsl:sl= #[k0,k1,k2,k3,some (.builtin n),k5]:=by
    obtain⟨l⟩:=sl;simp only at hs;rw [hs]
   subst hsl;subst hnn;exact⟨bm,ns,nm,qn,bs,hd,sn,sub,ab,col,dd,k0,k1,k2,k3,k5,_,X _ _ ho, .of_isNs (PySem.W.isNs_of_in X hok),PySem.W.nsMap_none_of_in X hok hni,PySem.W.tail_of_in X ht⟩
  ·cases q
 ·cases q
noncomputable def zhR (x:Str) (t:WA):WS:=fun E _ σ S=>t E σ S fun ws S1=>ws.length≤sizeLine∧E x σ S1
theorem zgW{X:Cx}{x:Str}{C:Addr}{e:Expr}{es:List Expr}{t:WA}{np cpos pos:Pos}(O:XcIn X.K x C) (hg:Gl X x) (hm:X.mg x=some (.ref C)) (ha:JA X (e::es) t) (hcl:X.calm=true:=by rfl) (hdb:(x == ("__debug__" :Str))=false:=by decide)
  (he:starEach (e::es) X.env=(false,eval e X.env)::starEach es X.env:=by rfl) (hpl:(backTo cpos (starEach es X.env)).any (·.1)=false:=by rfl) :
  JS X (.Raise (some (.Call (.Name x np) (e::es) [] cpos)) none pos) (zhR x t):=fun E hE pins s σ H D I z=>by
 obtain⟨σW,S,DW,hσ,hS,ht,hD⟩:=z;have OC:=(O.own I.mod.kin I.mod.glob).keeps I.bk;obtain⟨tl,N,nm,q,bs,hdct,sn,sub,ab,col,dd,k0,k1,k2,k3,k5,mN,hC,hN,hni,T⟩:=(O.own I.mod.kin I.mod.glob).obj;refine wpAny_Raise_call_subT (C:=C) (nm:=nm) (q:=q) (N:=N) (bs:=bs) (bm:=tl) (hdct:=hdct) (sn:=sn) (sub:=sub) (ab:=ab) (col:=col) (dd:=dd) (k0:=k0) (k1:=k1) (k2:=k2) (k3:=k3) (k5:=k5)
  F.excBase_ValueError (mN:=mN) (T.hasType F.excBase_ValueError.hasBase) (I.ok.hd hcl) (by rw [he];show(false || (backTo cpos (starEach es X.env)).any (·.1))=false;rw [hpl];rfl) hni (zeA I hg hm ⟨rfl,?_⟩ hdb)
 have go:=ha E hE cpos pins s σ H (fun vs H1=>∃ws S1,Reps X.K H1 ws vs∧RpSt X.K H1 σW σ∧RepS X.K H1 S1∧ws.length≤sizeLine∧E x σW S1) I ⟨σW,S,_,hσ,hS,ht,fun ws S1 vs H1 e1 r1 hS1 h1=>⟨ws,S1,r1,hσ.ext e1,hS1,h1.1,h1.2⟩⟩;rw [he]at go⊢;refine Calls.evalArgs_plain (wpAny_mono go (fun us s2 ⟨vs,H1,I1,r,ws,S1,r1,hσ1,hS1,hl,h1⟩=>?_) fun _ _ y=>y);refine⟨rfl,by rw [←r.length,←r1.length];exact hl,I1.bk _ _ hC,hN.keeps I1.bk,T.keeps I1.bk,fun h' a me=>?_⟩
 exact hE.near pins σ H1 s2 σW x C a S1 h' us I1 hσ1 O.nm me hS1 h1
noncomputable abbrev noX:WX:=fun _ _ _=>False
theorem zrJ{X:Cx}(h:PassesOwn (model X.prog X.w) X.A X.env X.xe):Hook X noX:=⟨h,fun _ _ _ _ _ _ _ _ _ _ _ _ _ _ _ _ _ _ _ _ z=>z.elim,fun _ _ _ _ _ _ _ _ _ _ _ _ _ _ _ _ z=>z.elim⟩
noncomputable abbrev Cx.at (X:Cx) (pn:List (Addr×Obj)) (E:Value→Shared→Prop):Cx:={ X with pn:=pn,xe:=E }
section
variable {X:Cx}{pins pins':List (Addr×Obj)}{σ:St}{H:Hp}{s:Shared}{E:Value→Shared→Prop}
theorem Cx.Ok.at (ok:X.Ok) (pn:List (Addr×Obj)) (E:Value→Shared→Prop):(X.at pn E).Ok:=
 ⟨ok.mod,ok.kind,ok.glob,ok.blt,ok.above,ok.inj,ok.has,ok.cab,ok.hd,ok.frames,ok.stk,ok.exf,ok.bs,ok.bsz,ok.noex,ok.exfs,ok.funs,ok.frf⟩
theorem Cx.Ok.unat{pn:List (Addr×Obj)}(ok:(X.at pn E).Ok):X.Ok:=
 ⟨ok.mod,ok.kind,ok.glob,ok.blt,ok.above,ok.inj,ok.has,ok.cab,ok.hd,ok.frames,ok.stk,ok.exf,ok.bs,ok.bsz,ok.noex,ok.exfs,ok.funs,ok.frf⟩
theorem Inv.at (I:Inv X pins σ H s) (E:Value→Shared→Prop):Inv (X.at (X.pn++pins) E) [] σ H s:=⟨I.ok.at _ E,I.os,I.bare,I.base,I.loc,I.cell,I.free,I.freeC,fun p hp=>I.pin p (by simpa using hp),I.hok,I.len⟩
theorem Inv.unat (I:Inv (X.at (X.pn++pins) E) pins' σ H s):Inv X pins σ H s:=⟨I.ok.unat,I.os,I.bare,I.base,I.loc,I.cell,I.free,I.freeC,fun p hp=>I.pin p (List.mem_append_left _ hp),I.hok,I.len⟩
theorem SP.unat{D:Ends}{f:Flow}{s':Shared}(h:SP (X.at (X.pn++pins) E) [] D f s'):SP X pins D f s':=by
 cases f with
 |next=>obtain⟨σ',H',I,q⟩:=h;exact⟨σ',H',I.unat,q⟩
 |brk=>obtain⟨σ',H',I,q⟩:=h;exact⟨σ',H',I.unat,q⟩
 |cont=>obtain⟨σ',H',I,q⟩:=h;exact⟨σ',H',I.unat,q⟩
 |ret u=>obtain⟨v,σ',H',I,r,q⟩:=h;exact⟨v,σ',H',I.unat,r,q⟩
end
noncomputable def Falls (X:Cx) (pins:List (Addr×Obj)) (σ:St) (σW:WSt) (H:Hp) (S:Sto) (E:WX) (e:Value) (s':Shared):Prop:=∃(cl:Str) (C a:Addr) (H1:Hp) (s1:Shared) (H':Hp) (S':Sto),e= .ref a∧PySem.W.nsIn X.K mainGlobals cl=some (some (.ref C))∧Inv X pins σ H1 s1∧
 s'.os=s1.os∧AllBare s'.gens∧Un (frs X.stack) [] H1 H' s1.heap s'.heap∧HOk X.prog X.w H' s'.heap∧Fly s1.heap s'.heap H' a C∧Ext H S H' S'∧RepS X.K H' S'∧E cl σW S'
theorem Falls.from{X:Cx}{pins:List (Addr×Obj)}{σ:St}{σW:WSt}{H H1:Hp}{S S1:Sto}{E:WX}{v:Value}{s':Shared}(e:Ext H S H1 S1) (h:Falls X pins σ σW H1 S1 E v s'):Falls X pins σ σW H S E v s':=by
 obtain⟨cl,C,a,H2,s1,H',S',a1,a2,a3,a4,a5,a6,a7,a8,a9,a10⟩:=h;exact⟨cl,C,a,H2,s1,H',S',a1,a2,a3,a4,a5,a6,a7,a8,e.trans a9,a10⟩
noncomputable def zwF (X:Cx) (E:WX) (t:WE):TE:=fun σ H Q=>∃σW S QW,RpSt X.K H σW σ∧RepS X.K H S∧t E σW S QW∧Wish X.K H S QW Q∧ ∀pins e s',Falls X pins σ σW H S E e s'→X.xe e s'
noncomputable def zqg (X:Cx) (E:WX) (t:WS):TS:=fun D σ H=>∃σW S DW,RpSt X.K H σW σ∧RepS X.K H S∧t E DW σW S∧Meets X.K H S DW D∧ ∀pins e s',Falls X pins σ σW H S E e s'→X.xe e s'
noncomputable def JXE (X:Cx) (e:Expr) (t:WE):Prop:=∀E,PassesOwn (model X.prog X.w) X.A X.env X.xe→PE X e (zwF X E t)
noncomputable def JXS (X:Cx) (st:Stmt) (t:WS):Prop:=∀E,PassesOwn (model X.prog X.w) X.A X.env X.xe→PS X st (zqg X E t)
noncomputable def JXs (X:Cx) (st:List Stmt) (t:WS):Prop:=∀E,PassesOwn (model X.prog X.w) X.A X.env X.xe→PSs X st (zqg X E t)
noncomputable def zeC (c:WSp) (t:WA):WE:=fun E σ S Q=>t noX σ S fun ws S1=>c ws S1 Q fun cl S2=>E cl σ S2
noncomputable def zsu (c:WT) (t u:WS):WS:=fun E D σ S=>c noX σ S fun b S1=>if b=true then t E D σ S1 else u E D σ S1
section
variable {X:Cx}{k:Nat}{f:Addr}{fd:FuncData}{ps:List Str}{c:WSp}{x:Str}{p pos:Pos}{e cond:Expr}{es:List Expr}{t:WA}{te:WE}{tc:WT}{st:Stmt}{a b:List Stmt}{ta tb:WS}
theorem zex (F:FnOk X.prog X.w X.K X.mg X.base (CX1 X.prog X.w) k f fd ps (zbI X.K c)) (hr:Room k X.A) (hg:Gl X x) (hm:X.mg x=some (.ref f)) (hk:PySem.W.keepIn X.K (.ref f)=true) (hb:Binds X.K fd ps [])
  (ha:JA X (e::es) t) (hdb:(x == ("__debug__" :Str))=false:=by decide) (he:starEach (e::es) X.env=(false,eval e X.env)::starEach es X.env:=by rfl) (hpl:(backTo pos (starEach es X.env)).any (·.1)=false:=by rfl) :
  JXE X (.Call (.Name x p) (e::es) [] pos) (zeC c t):=fun E hp pins s σ H Q I h=>by
 obtain⟨σW,S,QW,hσ,hS,ht,hQ,hF⟩:=h;refine wpAny_Call_Name_kw (zeA I hg hm ?_ hdb);refine PySem.W.callWith_K (h₀:=X.base) I.ok.mod.kin hk (thn (ha noX (zrJ hp) pos pins s σ H (fun vs H1=>∃ws S1,Reps X.K H1 ws vs∧RpSt X.K H1 σW σ∧RepS X.K H1 S1∧c ws S1 QW (fun cl S'=>E cl σW S')∧Wish X.K H1 S1 QW Q∧Ext H S H1 S1) I
  ⟨σW,S,_,hσ,hS,ht,fun ws S1 vs H1 e1 r1 hS1 h1=>⟨ws,S1,r1,hσ.ext e1,hS1,h1,hQ.from e1,e1⟩⟩) fun us s1 ⟨vs,H1,I1,r,ws,S1,r1,hσ1,hS1,h1,hQ1,e1⟩=>⟨I1.kIn,?_⟩) he hpl
 exact ztD (E:=E) F hr hb I1 r r1 hσ1 hS1 h1 hQ1 fun cl C a H' S' s' hn os bare un ok fly ex hS' q=>hF pins _ s' ⟨cl,C,a,H1,s1,H',S',rfl,hn,I1,os,bare,un,ok,fly,e1.trans ex,hS',q⟩
theorem zfm (he:JXE X e te) (hs:swapsWith e none pos.line X.env=pure false:=by rfl):JXS X (.Expr e pos) (zbZ te):=fun E hp=>
 (zmd (he E hp) hs).mono fun D σ H ⟨σW,S,DW,hσ,hS,ht,hD,hF⟩=>⟨σW,S,_,hσ,hS,ht,fun w S1 v H1 e1 r1 hS1 h1=>hD.nx σW S1 σ H1 e1 (hσ.ext e1) hS1 h1,hF⟩
theorem zuA (he:JXE X e te):JXS X (.Return (some e) pos) (wRet te):=fun E hp=>
 (zpP (he E hp)).mono fun D σ H ⟨σW,S,DW,hσ,hS,ht,hD,hF⟩=>⟨σW,S,_,hσ,hS,ht,hD.rt,hF⟩
theorem zoE (hc:JT X cond tc) (ha:JXs X a ta) (hb:JXs X b tb):JXS X (.If cond a b pos) (zsu tc ta tb):=fun E hp=>
 (zuE (hc noX (zrJ hp)) (ha E hp) (hb E hp)).mono fun D σ H ⟨σW,S,DW,hσ,hS,ht,hD,hF⟩=>⟨σW,S,_,hσ,hS,ht,fun k S1 H1 e1 hS1 h1=>by
  cases k with
  |true=>exact⟨σW,S1,DW,hσ.ext e1,hS1,h1,hD.from e1,fun pins e s' F=>hF pins e s' (F.from e1)⟩
  |false=>exact⟨σW,S1,DW,hσ.ext e1,hS1,h1,hD.from e1,fun pins e s' F=>hF pins e s' (F.from e1)⟩⟩
theorem zdz (h:JXS X st ta):JXs X [st] ta:=fun E hp=>znF (h E hp)
end
theorem zuX{P:Program}{w:World}{base g h h3:Heap}{l:List Env}{H1 H':Hp}{a C:Addr}{hid:List Addr}(un:Un (frs l) [] H1 H' g h) (ok:HOk P w H' h) (ff0:h.FunFrames base l) (fr:∀b∈frs l,H' b=none)
  (h0:∀b∈hid,g.get? b=none∧H' b=none) (ha:a∈hid) (L:Heap.Left (PySem.W.hideAll h (hid++frs l)) l a (.ref C) h h3):Un (frs l) [] H1 H' g h3∧HOk P w H' h3∧Fly g h3 H' a C:=by
 obtain⟨st,ff,tr,sl⟩:=L;have keepB:∀b o,h.get? b=some o→b∉hid→b∉frs l→h3.get? b=some o:=fun b o e h1 h2=>st b o (PySem.W.hideAll_get _ e fun z=>(List.mem_append.mp z).elim h1 h2);have nh:∀b o,g.get? b=some o→b∉hid:=fun b o e hb=>by rw [(h0 b hb).1]at e;cases e
 have slotB:∀b o,b∈frs l→h.get? b=some o→ ∃sl,h3.get? b=some { o with slots:=sl }:=fun b o hb e=>by
  obtain⟨_,o',eo',nf⟩:=ff0.mem hb;rw [e]at eo';cases eo';exact sl b o e nf
 have nx:∀b:Addr,b∉([]:List Addr):=fun b=>by simp
 refine⟨⟨fun b o e n hb _=>keepB b o (un.keep b o e n hb (nx b)) (nh b o e) hb,fun b o e n hb _=>?_,fun b o e n _=>un.free b o e n (nx b),fun b o e _=>?_,un.tups,un.frzs,un.tbls⟩,fun b o e=>?_,(h0 a ha).1,(h0 a ha).2,?_⟩
 ·obtain⟨sl1,e1⟩:=un.slot b o e n hb (nx b);obtain⟨sl2,e2⟩:=slotB b _ hb e1;exact⟨sl2,e2⟩
 ·obtain⟨o',e1⟩:=un.there b o e (nx b);by_cases hb:b∈frs l
  ·obtain⟨sl2,e2⟩:=slotB b _ hb e1;exact⟨_,e2⟩
  ·exact⟨o',keepB b o' e1 (nh b o e) hb⟩
 ·refine(ok b o e).stay (fun c u hc q=>?_) (fun _ q=>q) fun _ _ q=>q;have tk:∃v,H' c=some v:=by
   rcases hc with z |z
   ·exact⟨o,by rw [z];exact e⟩
   ·exact⟨_,z⟩
  obtain⟨v,tk⟩:=tk;exact keepB c u q (fun z=>by rw [(h0 c z).2]at tk;cases tk) fun z=>by rw [fr c z]at tk;cases tk
 ·obtain⟨oe,vs,T,oT,ts,e1,e2,e3,e4,e5,e6,e7,e8,e9⟩:=tr;have nf:T∉frs l:=fun hb=>by
   obtain⟨_,o,eo,nf⟩:=ff.mem hb;rw [e7]at eo;cases eo;exact nf ts e8
  have both:g.get? T=none∧H' T=none:=by
   by_cases hT:T∈hid
   ·exact h0 T hT
   ·have z:h.get? T=none:=by
     cases q:h.get? T with
     |none=>rfl
     |some o=>
      rw [PySem.W.hideAll_get _ q fun z=>(List.mem_append.mp z).elim hT nf]at e5;cases e5
    constructor
    ·cases q:g.get? T with
     |none=>rfl
     |some o=>obtain⟨o',q'⟩:=un.there T o q (nx T);rw [z]at q';cases q'
    ·cases q:H' T with
     |none=>rfl
     |some u=>obtain⟨o',q'⟩:=(ok T u q).ex;rw [z]at q';cases q'
  exact⟨oe,vs,T,oT,ts,e1,e2,e3,e4,both.1,both.2,e6,e7,e8,e9⟩
theorem Heap.TracedW.tr{h base:Heap}{e:Addr}{cls a0:Value}(x:Heap.TracedW h base e cls a0):Heap.Traced h base e cls:=by
 obtain⟨oe,vs,T,oT,ts,he,⟨hcls,h0⟩,r⟩:=x;exact⟨oe,vs,T,oT,ts,he,hcls,r⟩
section
variable {X:Cx}{pins:List (Addr×Obj)}{σ:St}{H1 H':Hp}{s1 s':Shared}{a C:Addr}{M:Model}{A:Around}{E:Value→Shared→Prop}{R:Shared→Prop}
theorem zit (I1:Inv X pins σ H1 s1) (hst:X.stack=X.env::X.outer) (hf:X.env.frame=some X.env.locals) (os:s'.os=s1.os) (bare:AllBare s'.gens) (un:Un (frs X.stack) [] H1 H' s1.heap s'.heap) (ok:HOk X.prog X.w H' s'.heap) (fly:Fly s1.heap s'.heap H' a C) (hA:A.frames=some X.stack)
  (k:∀h3,Inv X pins σ H' { s' with heap:=h3 }→Un (frs X.stack) [] H1 H' s1.heap h3→HOk X.prog X.w H' h3→Fly s1.heap h3 H' a C→R { s' with heap:=h3 }) :
  wpAny M A (noteFrame (.ref a) X.env) (fun _ s₂=>wpAny M A (setFlight (.ref a) none) (fun _ s₃=>R s₃) E s₂) E s':=by
 have I2:Inv X pins σ H' s':=I1.call' os un ok bare (fun _ z=>nomatch z);have ff:=I2.stack;have fr:=I2.stkFree;obtain⟨g1,g2,oe,vs,T,oT,ts,e1,e2,e3,e4,g3,g4,e5,e6,e7,e8⟩:=fly;have sz:1<vs.size:=(Array.getElem?_eq_some_iff.mp e4).1;have hid:∀b∈ [a,T],s1.heap.get? b=none∧H' b=none:=fun b hb=>by
  rcases List.mem_cons.mp hb with rfl |hb
  ·exact⟨g1,g2⟩
  ·rw [List.mem_singleton.mp hb];exact⟨g3,g4⟩
 have st:∀h3,Heap.Left (PySem.W.hideAll s'.heap ([a,T]++frs X.stack)) X.stack a (.ref C) s'.heap h3→R { s' with heap:=h3 }:=fun h3 L=>by
  obtain⟨u1,u2,u3⟩:=zuX un ok ff fr hid (by simp) L;exact k h3 (I1.call' (s':={ s' with heap:=h3 }) os u1 u2 bare (fun _ z=>nomatch z)) u1 u2 u3
 rw [hst]at hA ff st;refine wpAny_noteFrame_onW (base:=PySem.W.hideAll s'.heap ([a,T]++frs (X.env::X.outer))) (cls:= .ref C) (a0:=vs[0]) hA (zgH ff) hf ⟨oe,vs,T,oT,ts,e1,⟨e2,Array.getElem?_eq_getElem _⟩,e3,e4,PySem.W.hideAll_none _ (by simp),e5,e6,e7,e8⟩ (fun b o z=>PySem.W.of_hideAll _ z) (PySem.W.hideAll_none _ (by simp)) fun h2 N=>?_;obtain⟨n1,n2,n3,n4⟩:=N;refine wpAny_setFlight_noneW (s:={ s' with heap:=h2 }) n1 n2 n3 fun h3 k1 k2 k3 k4=>?_;exact st h3 ⟨k1,k2,Heap.TracedW.tr k3,fun b o e nf=>by
  obtain⟨sl,z⟩:=n4 b o e nf;exact⟨sl,k4 b _ z nf⟩⟩
theorem zwJ (I1:Inv X pins σ H1 s1) (os:s'.os=s1.os) (bare:AllBare s'.gens) (un:Un (frs X.stack) [] H1 H' s1.heap s'.heap) (ok:HOk X.prog X.w H' s'.heap) (fly:Fly s1.heap s'.heap H' a C)
  (k:∀h3,Inv X pins σ H' { s' with heap:=h3 }→Fly s1.heap h3 H' a C→R { s' with heap:=h3 }):wpAny M A (setFlight (.ref a) none) (fun _ s₃=>R s₃) E s':=by
 have I2:Inv X pins σ H' s':=I1.call' os un ok bare (fun _ z=>nomatch z);have ff:=I2.stack;have fr:=I2.stkFree;obtain⟨g1,g2,oe,vs,T,oT,ts,e1,e2,e3,e4,g3,g4,e5,e6,e7,e8⟩:=fly;have sz:1<vs.size:=(Array.getElem?_eq_some_iff.mp e4).1;have hid:∀b∈ [a,T],s1.heap.get? b=none∧H' b=none:=fun b hb=>by
  rcases List.mem_cons.mp hb with rfl |hb
  ·exact⟨g1,g2⟩
  ·rw [List.mem_singleton.mp hb];exact⟨g3,g4⟩
 refine wpAny_setFlight_noneW (base:=PySem.W.hideAll s'.heap ([a,T]++frs X.stack)) (l:=X.stack) (cls:= .ref C) (a0:=vs[0]) (fl:= .none) (fun b o z=>PySem.W.of_hideAll _ z) (zgH ff) ⟨oe,vs,T,oT,ts,e1,⟨e2,Array.getElem?_eq_getElem _⟩,e3,e4,PySem.W.hideAll_none _ (by simp),e5,e6,e7,e8⟩ fun h3 k1 k2 k3 k4=>?_;obtain⟨u1,u2,u3⟩:=zuX un ok ff fr hid (by simp) ⟨k1,k2,Heap.TracedW.tr k3,fun b o e nf=>⟨o.slots,k4 b o e nf⟩⟩;exact k h3 (I1.call' (s':={ s' with heap:=h3 }) os u1 u2 bare (fun _ z=>nomatch z)) u3
end
noncomputable abbrev Cx.hot (X:Cx) (a:Addr) (pn:List (Addr×Obj)):Cx:={ X with A:=X.A.mark (some (.ref a)),calm:=false,pn:=pn,xe:=fun _ _=>False }
section
variable {X:Cx}{pins pins':List (Addr×Obj)}{σ:St}{H:Hp}{s:Shared}{a:Addr}{oa:Obj}
theorem Cx.Ok.hot (ok:X.Ok) (a:Addr) (pn:List (Addr×Obj)):(X.hot a pn).Ok:=
 ⟨ok.mod,ok.kind,ok.glob,ok.blt,ok.above,ok.inj,ok.has,ok.cab,(fun z=>nomatch z),ok.frames,ok.stk,ok.exf,ok.bs,ok.bsz,ok.noex,ok.exfs,ok.funs,ok.frf⟩
theorem Inv.hot{vs:Array Value}(I:Inv X pins σ H s) (e:s.heap.get? a=some oa) (n:H a=none) (d:oa.data= .fields vs):Inv (X.hot a (X.pn++pins++[(a,oa)])) [] σ H s:=
 ⟨I.ok.hot a _,I.os,I.bare,I.base,I.loc,I.cell,I.free,I.freeC,(fun p hp=>by
  rw [List.append_nil]at hp;rcases List.mem_append.mp hp with hp |hp
  ·exact I.pin p hp
  ·rw [List.mem_singleton.mp hp];refine⟨e,n,fun z=>?_,fun z=>?_,fun v z=>?_⟩
   ·obtain⟨m,⟨o,es,ep,ho,hd,_⟩,_⟩:=I.loc;have e':s.heap.get? X.env.locals=some oa:=by rw [←show a=X.env.locals from z];exact e
    rw [ho]at e';cases e';rw [hd]at d;cases d
   ·obtain⟨_,o,ho,nf⟩:=I.funs.mem z;have e':s.heap.get? a=some o:=ho;rw [e]at e';cases e';exact nf vs d
   ·have z':oa.data= .cell v:=z;rw [d]at z';cases z'),I.hok,I.len⟩
theorem Inv.unhot (I0:X.Ok) (I:Inv (X.hot a (X.pn++pins++[(a,oa)])) pins' σ H s):Inv X pins σ H s:=
 ⟨I0,I.os,I.bare,I.base,I.loc,I.cell,I.free,I.freeC,fun p hp=>I.pin p (List.mem_append_left _ (List.mem_append_left _ hp)),I.hok,I.len⟩
theorem zvg{M:Model}{A:Around}{E:Value→Shared→Prop}{i:Nat}{n:Str}{pos:Pos}{Q:Unit→Shared→Prop}(I:Inv X pins σ H s) (hN:X.N.Nodup) (hi:X.N[i]? =some n) (hl:X.env.scope.names.lookup n=some .local)
  (h:∀s',Inv X pins (σ.set i none) H s'→Q () s'):wpAny M A (do bindName X.env n .none;unbindBehindTheSuite X.env n pos) Q E s:=by
 obtain⟨m,hn,hlk⟩:=id I.loc;have hcls:(X.env.scope.kind == .class || (X.env.scope.kind == .module&&X.env.locals != X.env.globals))=false:=by rw [I.ok.kind];rfl
 have hiσ:i<σ.length:=by rw [I.len];exact(List.getElem?_eq_some_iff.mp hi).1
 have cne:=I.cne;refine wpAny_nameGoes_keeps (show X.env.kindOf n=some .local from hl) hn hcls fun h' v hn' hs=>?_;obtain⟨oL,_,_,hoL,_⟩:=id hn;have lt:∀b o,X.s₀.heap.get? b=some o→b≠X.env.locals:=fun b o e=>Nat.ne_of_lt (Nat.lt_of_lt_of_le (Heap.lt_size e) I.ok.above);refine h _ ⟨I.ok,I.os,I.bare,⟨fun b o e n hb hx=>?_,fun b o e n hb hx=>?_,I.base.free,fun b o e hx=>?_,I.base.tups,I.base.frzs,I.base.tbls⟩,⟨_,hn',fun j y v' e1 e2 e3=>?_⟩,fun y c e=>?_,I.free,I.freeC,fun p hp=>?_,fun b ob e=>?_,by simpa using I.len⟩
 ·exact(hs.2 b (lt b o e)).trans (I.base.keep b o e n hb hx)
 ·obtain⟨sl,e1⟩:=I.base.slot b o e n hb hx;exact⟨sl,(hs.2 b (lt b o e)).trans e1⟩
 ·obtain⟨o',e1⟩:=I.base.there b o e hx;exact⟨o',(hs.2 b (lt b o e)).trans e1⟩
 ·by_cases hj:j=i
  ·subst hj;rw [List.getElem?_set_self hiσ]at e2;cases e2
  ·rw [List.getElem?_set_ne (Ne.symm hj)]at e2;obtain⟨u',r',q⟩:=hlk j y v' e1 e2 e3;refine⟨u',r',?_⟩;rcases q with⟨k,e⟩ |⟨k,c,e,z⟩
   ·refine .inl ⟨k,?_⟩;have:y≠n:=fun e=>hj (zgU hN e1 (e▸hi));simp [this,e]
   ·exact .inr ⟨k,c,e,z.sameBut hs (cne y c e)⟩
 ·obtain⟨w',z⟩:=I.cell y c e;exact⟨w',z.sameBut hs (cne y c e)⟩
 ·obtain⟨e,n,ne,nf,d⟩:=I.pin p hp;exact⟨(hs.2 p.1 ne).trans e,n,ne,nf,d⟩
 ·refine(I.hok b ob e).stay (fun c w' hc q=>(hs.2 c ?_).trans q) (fun _ q=>q) fun _ _ q=>q;rintro rfl;rcases hc with z |hc
  ·rw [←z,I.free]at e;cases e
  ·rw [I.free]at hc;cases hc
end
theorem RpSt.setN{K:PySem.W.Frag}{H:Hp}:∀{σW:WSt}{σ:St}(i:Nat),RpSt K H σW σ→RpSt K H (σW.set i none) (σ.set i none)
 |_,_,_, .nil=> .nil
 |_,_,0, .cons _ t=> .cons trivial t
 |_,_,i+1, .cons q t=> .cons q (RpSt.setN i t)
noncomputable def znb (i:Nat) (al:List Str) (t:WS) (u:Str→Addr→WS):WS:=fun _ D σ S=>t (fun cl σ' S'=>cl∈al∧ ∀a,u cl a noX { nx:=fun σ'' S''=>D.nx (σ''.set i none) S'',rt:=D.rt,bk:=fun σ'' S''=>D.bk (σ''.set i none) S'',ct:=fun σ'' S''=>D.ct (σ''.set i none) S'' } (σ'.set i (some (.ref a))) S') D σ S
noncomputable def wTry (al:List Str) (t u:WS):WS:=fun _ D σ S=>t (fun cl σ' S'=>cl∈al∧u noX D σ' S') D σ S
section
variable {X:Cx}{b:List Stmt}{x n:Str}{CT:Addr}{b₀:Stmt}{suite:List Stmt}{np hpos pos:Pos}{i:Nat}{t:WS}{u:Str→Addr→WS}{v:WS}{al:List Str}
theorem zup{X:Cx}(h:X.xe=fun _ _=>False):Hook X noX:=zrJ (by rw [h];exact PassesOwn.never)
theorem zol (hb:∀pn xe,JXs (X.at pn xe) b t)
  (hal:∀cl∈al,∃C,XcIn X.K cl C∧PySem.W.exmOne X.K (.ref C) (.ref CT)=some true∧ ∀(a:Addr) (oa:Obj) (pn:List (Addr×Obj)),(a,oa)∈pn→oa.cls= .ref C→JSs (X.hot a pn) (b₀::suite) (u cl a))
  (hg:Gl X x) (hm:X.mg x=some (.ref CT)) (hN:X.N.Nodup) (hi:X.N[i]? =some n) (hl:X.env.scope.names.lookup n=some .local) (hst:X.stack=X.env::X.outer:=by rfl) (hf:X.env.frame=some X.env.locals:=by rfl) (hdb:(x == ("__debug__" :Str))=false:=by decide) :
  JS X (.Try b [.ExceptHandler (some (.Name x np)) (some n) (b₀::suite) hpos] [] [] pos) (znb i al t u):=fun E hE pins s σ H D I z=>by
 obtain⟨σW,S,DW,hσ,hS,ht,hD⟩:=z;refine wpAny_Try_except ?_;refine wpAny_mono (hb (X.pn++pins) (fun e s₁=>wpAny (model X.prog X.w) X.A (noteFrame e X.env) (fun _ s₂=>wpAny (model X.prog X.w) X.A (setFlight e none) (fun _ s₃=>wpAny (model X.prog X.w) X.A (handleBy e X.env [.ExceptHandler (some (.Name x np)) (some n) (b₀::suite) hpos]) (SP X pins D) X.xe s₃) X.xe s₂) X.xe s₁)
  _ PassesOwn.looking [] s σ H D (I.at _) ⟨σW,S,DW,hσ,hS,ht,hD,fun pins' e s' F=>?_⟩) (fun f s1 q=>?_) fun e s1 q=>q
 ·obtain⟨cl,C,a,H1,s1,H',S',rfl,hn,I1,os,bare,un,ok,fly,ex,hS',hcl,hu⟩:=F;obtain⟨C',O,hx,hs⟩:=hal cl hcl;have hn':PySem.W.nsIn X.K mainGlobals cl=some (some (.ref C)):=hn;have eC:C'=C:=by
   have:=O.nm;rw [hn']at this;exact(Value.ref.inj (Option.some.inj (Option.some.inj this))).symm
  subst eC;refine zit (X:=X) (pins:=pins) I1.unat hst hf os bare un ok fly I.ok.frames fun h3 I3 u3 ok3 fly3=>?_;obtain⟨g1,g2,oe,vs,_,_,_,e1,e2,e3,_⟩:=id fly3;refine wpAny_handleBy_cons (codeAny_handlers_test ?_) (by intro q;cases q);refine zeA (X:=X.hot a (X.pn++pins++[(a,oe)])) (I3.hot e1 g2 e3) hg hm ?_ hdb;refine(PySem.W.exm_one I3.kIn (zpc e1 e2) hx).here ?_;refine codeAny_handlers_suite_as ?_;refine zwJ (X:=X) (pins:=pins) (s':={ s' with heap:=h3 }) I1.unat os bare u3 ok3 fly3 fun h4 I4 fly4=>?_;obtain⟨g1',g2',oe4,vs4,_,_,_,e1',e2',e3',_⟩:=id fly4;refine zeS (X:=X.hot a (X.pn++pins++[(a,oe4)])) (I4.hot e1' g2' e3') hN hi (.inl hl) (v:= .ref a) rfl (fun s5 I5=>?_) (.inr hl);have me:Meets X.K H' S' { nx:=fun σ'' S''=>DW.nx (σ''.set i none) S'',rt:=DW.rt,bk:=fun σ'' S''=>DW.bk (σ''.set i none) S'',ct:=fun σ'' S''=>DW.ct (σ''.set i none) S'' } { nx:=fun σ H=>D.nx (σ.set i none) H,rt:=D.rt,bk:=fun σ H=>D.bk (σ.set i none) H,ct:=fun σ H=>D.ct (σ.set i none) H }:=by
   have hD':=hD.from ex;exact⟨fun σW3 S3 σ3 H3 e3 r3 hS3 q=>hD'.nx _ S3 _ H3 e3 (r3.setN i) hS3 q,hD'.rt,fun σW3 S3 σ3 H3 e3 r3 hS3 q=>hD'.bk _ S3 _ H3 e3 (r3.setN i) hS3 q,fun σW3 S3 σ3 H3 e3 r3 hS3 q=>hD'.ct _ S3 _ H3 e3 (r3.setN i) hS3 q⟩
  refine wpAny_mono (hs a oe4 (X.pn++pins++[(a,oe4)]) (by simp) e2' noX (zup rfl) [] s5 (σ.set i (some (.ref a))) H' _ I5 ⟨_,S',_,(hσ.ext ex).set (.ref a) i,hS',hu a,me⟩) (fun f s6 q=>?_) fun _ _ z=>z.elim;cases f with
  |next=>obtain⟨σ',H'',I6,q⟩:=q;exact zvg (I6.unhot I.ok) hN hi hl fun s7 I7=>⟨_,H'',I7,q⟩
  |brk=>obtain⟨σ',H'',I6,q⟩:=q;exact zvg (I6.unhot I.ok) hN hi hl fun s7 I7=>⟨_,H'',I7,q⟩
  |cont=>obtain⟨σ',H'',I6,q⟩:=q;exact zvg (I6.unhot I.ok) hN hi hl fun s7 I7=>⟨_,H'',I7,q⟩
  |ret w=>obtain⟨v,σ',H'',I6,r,q⟩:=q;exact zvg (I6.unhot I.ok) hN hi hl fun s7 I7=>⟨v,_,H'',I7,r,q⟩
 ·cases f with
  |next=>exact wpAny_execs_nil q.unat
  |ret v=>exact q.unat
  |brk=>exact q.unat
  |cont=>exact q.unat
theorem ztZ (hb:∀pn xe,JXs (X.at pn xe) b t)
  (hal:∀cl∈al,∃C,XcIn X.K cl C∧PySem.W.exmOne X.K (.ref C) (.ref CT)=some true) (hs:∀(a:Addr) (pn:List (Addr×Obj)),JSs (X.hot a pn) (b₀::suite) v)
  (hg:Gl X x) (hm:X.mg x=some (.ref CT)) (hst:X.stack=X.env::X.outer:=by rfl) (hf:X.env.frame=some X.env.locals:=by rfl) (hdb:(x == ("__debug__" :Str))=false:=by decide) :
  JS X (.Try b [.ExceptHandler (some (.Name x np)) none (b₀::suite) hpos] [] [] pos) (wTry al t v):=fun E hE pins s σ H D I z=>by
 obtain⟨σW,S,DW,hσ,hS,ht,hD⟩:=z;refine wpAny_Try_except ?_;refine wpAny_mono (hb (X.pn++pins) (fun e s₁=>wpAny (model X.prog X.w) X.A (noteFrame e X.env) (fun _ s₂=>wpAny (model X.prog X.w) X.A (setFlight e none) (fun _ s₃=>wpAny (model X.prog X.w) X.A (handleBy e X.env [.ExceptHandler (some (.Name x np)) none (b₀::suite) hpos]) (SP X pins D) X.xe s₃) X.xe s₂) X.xe s₁)
  _ PassesOwn.looking [] s σ H D (I.at _) ⟨σW,S,DW,hσ,hS,ht,hD,fun pins' e s' F=>?_⟩) (fun f s1 q=>?_) fun e s1 q=>q
 ·obtain⟨cl,C,a,H1,s1,H',S',rfl,hn,I1,os,bare,un,ok,fly,ex,hS',hcl,hu⟩:=F;obtain⟨C',O,hx⟩:=hal cl hcl;have hn':PySem.W.nsIn X.K mainGlobals cl=some (some (.ref C)):=hn;have eC:C'=C:=by
   have:=O.nm;rw [hn']at this;exact(Value.ref.inj (Option.some.inj (Option.some.inj this))).symm
  subst eC;refine zit (X:=X) (pins:=pins) I1.unat hst hf os bare un ok fly I.ok.frames fun h3 I3 u3 ok3 fly3=>?_;obtain⟨g1,g2,oe,vs,_,_,_,e1,e2,e3,_⟩:=id fly3;refine wpAny_handleBy_cons (codeAny_handlers_test ?_) (by intro q;cases q);refine zeA (X:=X.hot a (X.pn++pins++[(a,oe)])) (I3.hot e1 g2 e3) hg hm ?_ hdb;refine(PySem.W.exm_one I3.kIn (zpc e1 e2) hx).here ?_;refine codeAny_handlers_suite ?_;refine zwJ (X:=X) (pins:=pins) (s':={ s' with heap:=h3 }) I1.unat os bare u3 ok3 fly3 fun h4 I4 fly4=>?_;obtain⟨g1',g2',oe4,vs4,_,_,_,e1',e2',e3',_⟩:=id fly4;refine wpAny_mono (hs a (X.pn++pins++[(a,oe4)]) noX (zup rfl) [] { s' with heap:=h4 } σ H' D (I4.hot e1' g2' e3') ⟨_,S',_,hσ.ext ex,hS',hu,hD.from ex⟩) (fun f s6 q=>?_) fun _ _ z=>z.elim;cases f with
  |next=>obtain⟨σ',H'',I6,q⟩:=q;exact⟨_,H'',I6.unhot I.ok,q⟩
  |brk=>obtain⟨σ',H'',I6,q⟩:=q;exact⟨_,H'',I6.unhot I.ok,q⟩
  |cont=>obtain⟨σ',H'',I6,q⟩:=q;exact⟨_,H'',I6.unhot I.ok,q⟩
  |ret w=>obtain⟨v,σ',H'',I6,r,q⟩:=q;exact⟨v,_,H'',I6.unhot I.ok,r,q⟩
 ·cases f with
  |next=>exact wpAny_execs_nil q.unat
  |ret v=>exact q.unat
  |brk=>exact q.unat
  |cont=>exact q.unat
end
section
variable {X:Cx}{a C:Addr}{oa:Obj}
theorem zkx (hp:(a,oa)∈X.pn) (hc:oa.cls= .ref C) (O:XcOk X.K C):CallR X (.builtin "isinstance") (fun xs H Q=>∃c b,((∃D,xs=[.ref a, .ref D]∧c=Value.ref D)∨(∃T,xs=[.ref a, .ty T]∧c=Value.type T))∧PySem.W.kitOne X.K (.ref C) c=some b∧Q (.bl b) H):=by
 intro pins s σ H xs us Q I r h;obtain⟨c,b,hx,e,q⟩:=h;have at':=(I.pin (a,oa) (List.mem_append_left _ hp)).1;have eu:us=[.ref a,c]:=by
  rcases hx with⟨D,rfl,rfl⟩ |⟨T,rfl,rfl⟩
  ·cases r with
   |cons r1 r2=>cases r2 with
    |cons r2 r3=>cases r3;cases r1;cases r2;rfl
  ·cases r with
   |cons r1 r2=>cases r2 with
    |cons r2 r3=>cases r3;cases r1;cases r2;rfl
 subst eu;exact PySem.W.kia_one (zoA O) I.kIn ⟨oa,at',hc⟩ e (by intro z;cases z) fun tk=>⟨.bl b,H,I.tok tk,rfl,q⟩
end
noncomputable def zpf (i:Nat) (a:Addr) (b:Bool):WE:=fun _ σ S Q=>σ[i]? =some (some (.ref a))∧Q (.bl b) S
section
variable {X:Cx}{a C D:Addr}{oa:Obj}{i:Nat}{n x:Str}{b:Bool}{p p1 p2 pos:Pos}{T':String}
theorem znN{K:PySem.W.Frag}{H:Hp}{v:V}(h:Rep K H (.ref a) v):v= .ref a:=by cases h;rfl
theorem zdq (hp:(a,oa)∈X.pn) (hc:oa.cls= .ref C) (O:XcOk X.K C) (hb:PySem.W.kitOne X.K (.ref C) (.ref D)=some b) (hg:Gl X "isinstance") (hm:X.mg "isinstance" =none) (hN:X.N[i]? =some n) (hv:Vis X.env.scope n) (hgD:Gl X x) (hmD:X.mg x=some (.ref D))
  (hd:(n == ("__debug__" :Str))=false:=by decide) (hcd:(n == ("__classdict__" :Str))=false:=by decide) (hdD:(x == ("__debug__" :Str))=false:=by decide)
  (he:starEach (.Name n p1::[.Name x p2]) X.env=(false,eval (.Name n p1) X.env)::starEach [.Name x p2] X.env:=by rfl) (hpl:(backTo pos (starEach [.Name x p2] X.env)).any (·.1)=false:=by rfl) (he2:starEach (.Name x p2::[]) X.env=(false,eval (.Name x p2) X.env)::starEach [] X.env:=by rfl) :
  JE X (.Call (.Name "isinstance" p) [.Name n p1, .Name x p2] [] pos) (zpf i a b):=fun E hE=>
 (zej (zkx hp hc O) hg hm PyProof.Rows.boot_isinstance (zby (zlC hN hv hd hcd) (zby (znh (v:= .ref D) hgD hmD rfl hdD) pa_nil he2) he) (by decide) (by decide) he hpl).mono fun σ H Q ⟨σW,S,QW,hσ,hS,⟨hi,h⟩,hQ⟩=>by
  obtain⟨v,e',r⟩:=hσ.get hi;have:=znN r;subst this;exact⟨_,e', .ref D,b, .inl ⟨D,rfl,rfl⟩,hb,hQ (.bl b) S (.bl b) H .refl (.bl b) hS h⟩
theorem zmJ (hp:(a,oa)∈X.pn) (hc:oa.cls= .ref C) (O:XcOk X.K C) (hb:PySem.W.kitOne X.K (.ref C) (.type T')=some b) (hg:Gl X "isinstance") (hm:X.mg "isinstance" =none) (hN:X.N[i]? =some n) (hv:Vis X.env.scope n) (hgD:Gl X x) (hmD:X.mg x=none) (hvD:bootBuiltins x=some (.type T'))
  (hd:(n == ("__debug__" :Str))=false:=by decide) (hcd:(n == ("__classdict__" :Str))=false:=by decide) (hnD:x≠ "__name__" :=by decide) (hdD:(x == ("__debug__" :Str))=false:=by decide)
  (he:starEach (.Name n p1::[.Name x p2]) X.env=(false,eval (.Name n p1) X.env)::starEach [.Name x p2] X.env:=by rfl) (hpl:(backTo pos (starEach [.Name x p2] X.env)).any (·.1)=false:=by rfl) (he2:starEach (.Name x p2::[]) X.env=(false,eval (.Name x p2) X.env)::starEach [] X.env:=by rfl) :
  JE X (.Call (.Name "isinstance" p) [.Name n p1, .Name x p2] [] pos) (zpf i a b):=fun E hE=>
 (zej (zkx hp hc O) hg hm PyProof.Rows.boot_isinstance (zby (zlC hN hv hd hcd) (zby (znf (v:= .ty T') hgD hmD hvD rfl hnD hdD) pa_nil he2) he) (by decide) (by decide) he hpl).mono fun σ H Q ⟨σW,S,QW,hσ,hS,⟨hi,h⟩,hQ⟩=>by
  obtain⟨v,e',r⟩:=hσ.get hi;have:=znN r;subst this;exact⟨_,e', .type T',b, .inr ⟨T',rfl,rfl⟩,hb,hQ (.bl b) S (.bl b) H .refl (.bl b) hS h⟩
end
noncomputable def zdM (cl D:Str):Bool:=cl == D || (D == "TurnError" || D == "ValueError")
theorem aln{P:Str→Prop}:∀cl∈([]:List Str),P cl:=fun _ h=>nomatch h
theorem alc{P:Str→Prop}{c:Str}{l:List Str}(h:P c) (t:∀cl∈l,P cl):∀cl∈c::l,P cl:=fun cl m=>by
 rcases List.mem_cons.mp m with rfl |m
 ·exact h
 ·exact t cl m
inductive Tr where
  |bl (n:Int)
  |nd (s:Str) (ts:List Tr)
noncomputable def Tr.kids:Tr→List Tr
 | .bl _=>[]
 | .nd _ ts=>ts
mutual
noncomputable def Tr.weight:Tr→Nat
 | .bl _=>1
 | .nd _ ts=>1+wts ts
noncomputable def wts:List Tr→Nat
 | []=>0
 |t::ts=>t.weight+wts ts
end
mutual
noncomputable def Tr.depth:Tr→Nat
 | .bl _=>1
 | .nd _ ts=>1+dts ts
noncomputable def dts:List Tr→Nat
 | []=>0
 |t::ts=>max t.depth (dts ts)
end
theorem zmT:wts []=0:=by unfold wts;rfl
theorem zeb (t:Tr) (ts:List Tr):wts (t::ts)=t.weight+wts ts:=by
 conv=>lhs;unfold wts
theorem zdk:∀(ts us:List Tr),wts (ts++us)=wts ts+wts us
 | [],us=>by
  show wts us=wts []+wts us;rw [zmT];omega
 |t::ts,us=>by
  show wts (t::(ts++us))=_;rw [zeb,zeb,zdk ts us];omega
theorem zlA:dts []=0:=by unfold dts;rfl
theorem zeR (t:Tr) (ts:List Tr):dts (t::ts)=max t.depth (dts ts):=by
 conv=>lhs;unfold dts
theorem zdK (t:Tr):t.weight=1+wts t.kids:=by
 cases t with
 |bl n=>
  show Tr.weight (.bl n)=1+wts [];unfold Tr.weight wts;rfl
 |nd s ts=>
  show Tr.weight (.nd s ts)=1+wts ts
  conv=>lhs;unfold Tr.weight
theorem zet (t:Tr):t.depth=1+dts t.kids:=by
 cases t with
 |bl n=>
  show Tr.depth (.bl n)=1+dts [];unfold Tr.depth dts;rfl
 |nd s ts=>
  show Tr.depth (.nd s ts)=1+dts ts
  conv=>lhs;unfold Tr.depth
theorem zey (t:Tr):1≤t.weight:=by rw [zdK];omega
theorem zcv (t:Tr):1≤t.depth:=by rw [zet];omega
theorem zgq:∀(ts us:List Tr),dts (ts++us)=max (dts ts) (dts us)
 | [],us=>by
  show dts us=max (dts []) (dts us);rw [zlA];omega
 |t::ts,us=>by
  show dts (t::(ts++us))=_;rw [zeR,zeR,zgq ts us];exact(Nat.max_assoc _ _ _).symm
theorem zcl:∀(ts:List Tr),ts.length≤wts ts
 | []=>Nat.zero_le _
 |t::ts=>by
  have:=zcl ts;have:=zey t;rw [zeb,List.length_cons];omega
theorem zdd{t:Tr}:∀{ts:List Tr},t∈ts→t.weight≤wts ts
 | [],h=>by cases h
 |u::ts,h=>by
  rw [zeb];rcases List.mem_cons.mp h with e |h
  ·rw [e];omega
  ·have:=zdd h;omega
theorem zhn:∀{ts:List Tr},ts≠ []→dts ts=1+dts (ts.flatMap Tr.kids)
 | [],h=>absurd rfl h
 | [t],_=>by
  rw [List.flatMap_cons,List.flatMap_nil,List.append_nil,zeR,zlA,zet];omega
 |t::u::r,_=>by
  have ih:=zhn (ts:=u::r) (by simp);have e:(t::u::r).flatMap Tr.kids=t.kids++(u::r).flatMap Tr.kids:=List.flatMap_cons ..;rw [zeR,ih,e,zgq,zet];omega
theorem zgX:∀(ts:List Tr),wts (ts.flatMap Tr.kids)+ts.length=wts ts
 | []=>by rw [List.flatMap_nil,zmT];rfl
 |t::ts=>by
  have ih:=zgX ts;rw [List.flatMap_cons,zdk,zeb,List.length_cons,zdK];omega
mutual
noncomputable def enc:Tr→W
 | .bl n=> .int n
 | .nd s ts=> .tup (.str s::zaA ts)
noncomputable def zaA:List Tr→List W
 | []=>[]
 |t::ts=>enc t::zaA ts
end
theorem zaZ:∀ts:List Tr,zaA ts=ts.map enc
 | []=>by simp [zaA]
 |t::ts=>by simp [zaA,zaZ ts]
theorem zbo (ts:List Tr):(zaA ts).length=ts.length:=by rw [zaZ,List.length_map]
theorem zji:zbl "int" "int" =true:=by decide +kernel
theorem ziC:zbl "int" "bool" =false:=by decide +kernel
theorem ziR:zbl "int" "str" =false:=by decide +kernel
theorem zgO:zbl "int" "tuple" =false:=by decide +kernel
theorem zhS:zbl "int" "list" =false:=by decide +kernel
theorem zhZ:zbl "bool" "int" =true:=by decide +kernel
theorem zhk:zbl "bool" "bool" =true:=by decide +kernel
theorem ziw:zbl "bool" "str" =false:=by decide +kernel
theorem zgl:zbl "bool" "tuple" =false:=by decide +kernel
theorem zhc:zbl "bool" "list" =false:=by decide +kernel
theorem zja:zbl "str" "int" =false:=by decide +kernel
theorem ziM:zbl "str" "bool" =false:=by decide +kernel
theorem zjl:zbl "str" "str" =true:=by decide +kernel
theorem zgS:zbl "str" "tuple" =false:=by decide +kernel
theorem ziF:zbl "str" "list" =false:=by decide +kernel
theorem zgM:zbl "tuple" "int" =false:=by decide +kernel
theorem zgh:zbl "tuple" "bool" =false:=by decide +kernel
theorem zhm:zbl "tuple" "str" =false:=by decide +kernel
theorem sub_tuple_tuple:zbl "tuple" "tuple" =true:=by decide +kernel
theorem sub_tuple_list:zbl "tuple" "list" =false:=by decide +kernel
theorem zhP:zbl "list" "int" =false:=by decide +kernel
theorem zgQ:zbl "list" "bool" =false:=by decide +kernel
theorem ziG:zbl "list" "str" =false:=by decide +kernel
theorem sub_list_tuple:zbl "list" "tuple" =false:=by decide +kernel
theorem sub_list_list:zbl "list" "list" =true:=by decide +kernel
section
variable {α:Type}{x:α}{xs:List α}
theorem zoL (n:Nat):zeW xs (some (n:Int)) none=xs.drop n:=by
 unfold zeW;rw [HT.sIx_nat,HT.sIx_none];by_cases h:n≤xs.length
 ·rw [Nat.min_eq_left h,List.take_of_length_le (by rw [List.length_drop];omega)]
 ·rw [Nat.min_eq_right (by omega),List.drop_of_length_le (Nat.le_refl _),List.drop_of_length_le (by omega),List.take_nil]
theorem zsq:zeW (x::xs) (some 1) none=xs:=by rw [show(1:Int)=((1:Nat):Int) from rfl,zoL];rfl
theorem zdN{n:Nat}:atI xs (n:Int)=xs[n]? :=by
 unfold atI ixN;rw [if_pos (by omega)];by_cases h:n<xs.length
 ·rw [if_pos (by omega)];simp
 ·rw [if_neg (by omega)];simp;omega
theorem zjZ:atI (x::xs) 0=some x:=zdN (n:=0)
end
section
variable {S S':Sto}{a b:Addr}{o:Ob}{Q:List W→Prop}{ws:List W}
theorem zhg:zbG (put S a (.lst ws)) a Q=Q ws:=zak zah
theorem zdY (h:put S a o b=none):S b=none∧b≠a:=by
 have hb:b≠a:=by rintro rfl;rw [zah]at h;cases h
 rw [zaE hb]at h;exact⟨h,hb⟩
theorem zpG{u:Ob}(h:S a=some u) (n:S b=none):a≠b:=by rintro rfl;rw [h]at n;cases n
theorem Sub.put (h:Sub S S') (n:S a=none):Sub S (L2.put S' a o):=fun b u e=>by rw [zaE (zpG e n)];exact h b u e
theorem Sub.put2{u:Ob}(h:Sub S S'):Sub (L2.put S a u) (L2.put S' a u):=fun b w e=>by
 by_cases hb:b=a
 ·subst hb;rw [zah]at e⊢;exact e
 ·rw [zaE hb]at e⊢;exact h b w e
end
theorem zti (S:Sto) (a b:Int):eqF S 60 (.int a) (.int b)=some (a == b):=by have h:eqF S 60 (.int a) (.int b)=some (a == b):=rfl;exact h
theorem zty (S:Sto) (a b:Str):eqF S 60 (.str a) (.str b)=some (a == b):=by have h:eqF S 60 (.str a) (.str b)=some (a == b):=rfl;exact h
theorem zwm (S:Sto) (a b:Bool):eqF S 60 (.bl a) (.bl b)=some (a == b):=by have h:eqF S 60 (.bl a) (.bl b)=some (a == b):=rfl;exact h
theorem zag{n:Nat}(h:n≤16777216):n≤sizeLine:=by rw [sizeLine_eq];exact h
theorem zdE{n:Nat}(h:n<16777216):n<sizeLine:=by rw [sizeLine_eq];exact h
section
variable {S:Sto}{Q:WK}{QB:Bool→Sto→Prop}{QS:List W→(Sto→Prop)→Prop}{QT:String→Prop}
theorem zgF{a:Addr}{o:Ob}(h:S a=some o):put S a o=S:=by
 funext b;unfold put;split
 ·rename_i e;rw [e,h]
 ·rfl
theorem _root_.pz{a b:Prop}(h:a→b) (g:b→a):a=b:=propext ⟨h,g⟩
theorem zov{b:Bool}:zqz (.bl b) S QB=QB b S:=pz id id
theorem znQ{i:Int}:zqz (.int i) S QB=QB (i != 0) S:=pz id id
theorem zmt{ws:List W}:zqz (.tup ws) S QB=QB (!ws.isEmpty) S:=pz id id
theorem zmR{a:Addr}:zqz (.ref a) S QB=zbG S a fun ws=>QB (!ws.isEmpty) S:=pz id id
theorem znr:zqz .non S QB=QB false S:=pz id id
theorem zhG{ws:List W}:zpV (.tup ws) S QS=QS ws fun _=>True:=pz id id
theorem zhT{a:Addr}:zpV (.ref a) S QS=zbG S a fun ws=>QS ws fun S'=>S' a=some (.lst ws):=pz id id
theorem zry{b:Bool}:tyW (.bl b) S QT=QT "bool" :=pz id id
theorem zpd{i:Int}:tyW (.int i) S QT=QT "int" :=pz id id
theorem zoW{i:Str}:tyW (.str i) S QT=QT "str" :=pz id id
theorem zos{i:List W}:tyW (.tup i) S QT=QT "tuple" :=pz id id
theorem zpn:tyW .non S QT=QT "NoneType" :=pz id id
theorem zoN{a:Addr}:tyW (.ref a) S QT=zbG S a fun _=>QT "list" :=pz id id
theorem zny{i j:Int}:zfY (.int i) (.int j) S Q=Q (.int (i+j)) S:=pz id id
theorem zmr{i j:Str}:zfY (.str i) (.str j) S Q=(i.length+j.length≤sizeLine∧Q (.str (i++j)) S):=pz id id
theorem zlZ{i j:List W}:zfY (.tup i) (.tup j) S Q=(i.length+j.length≤sizeLine∧Q (.tup (i++j)) S):=pz id id
theorem zml{a b:Addr}:zfY (.ref a) (.ref b) S Q=zbG S a fun xs=>zbG S b fun ys=>xs.length+ys.length≤sizeLine∧ ∀p,S p=none→Q (.ref p) (put S p (.lst (xs++ys))):=pz id id
theorem zww{C:Int→Int→Prop}{g:Int→Int→W}{i j:Int}:zeI C g (.int i) (.int j) S Q=(C i j∧Q (g i j) S):=pz id id
theorem ztn{g:Int→Int→W}{i j:Int}:ziK g (.int i) (.int j) S Q=Q (g i j) S:=pz id id
theorem zoJ{i j:Int}:oLe (.int i) (.int j) S Q=Q (.bl (decide (i≤j))) S:=pz id id
theorem zob{i j:Str}:oLe (.str i) (.str j) S Q=Q (.bl (!decide (j.cps.toList<i.cps.toList))) S:=pz id id
theorem znB{us:List W}:zlq [.tup us] S Q=Q (.int us.length) S:=pz id id
theorem zms{a:Addr}:zlq [.ref a] S Q=zbG S a fun us=>Q (.int us.length) S:=pz id id
theorem zmq{ns:List Int}:zlq [.scr ns] S Q=Q (.int ns.length) S:=pz id id
theorem zmc{z:Str}:zlq [.str z] S Q=(z.length≤sizeLine∧Q (.int z.length) S):=pz id id
theorem zps{ws:List W}{i:Int}:oIx (.tup ws) (.int i) S Q=match atI ws i with
 |some w=>Q w S
 |none=>False:=pz id id
theorem zor{a:Addr}{i:Int}:oIx (.ref a) (.int i) S Q=zbG S a fun ws=>match atI ws i with
 |some w=>Q w S
 |none=>False:=pz id id
theorem zph{ns:List Int}{i:Int}:oIx (.scr ns) (.int i) S Q=match atI ns i with
 |some n=>Q (.int n) S
 |none=>False:=pz id id
theorem zof{x:Str}{i:Int}:oIx (.str x) (.int i) S Q=(x.length≤sizeLine∧match atI x.cps.toList i with
 |some c=>Q (.str ⟨#[c]⟩) S
 |none=>False):=pz id id
theorem zoP{ws:List W}{lo hi:Option Int}:oSl (.tup ws) lo hi S Q=Q (.tup (zeW ws lo hi)) S:=pz id id
theorem zoG{z:Str}{lo hi:Option Int}:oSl (.str z) lo hi S Q=(z.length≤sizeLine∧Q (.str (Txt.slice z lo hi)) S):=pz id id
theorem zpD{a:Addr}{lo hi:Option Int}:oSl (.ref a) lo hi S Q=zbG S a fun ws=>∀p,S p=none→Q (.ref p) (put S p (.lst (zeW ws lo hi))):=pz id id
theorem zoj{ns:List Int}{lo hi:Option Int}:oSl (.scr ns) lo hi S Q= ∀p,S p=none→Q (.ref p) (put S p (.lst ((zeW ns lo hi).map W.int))):=pz id id
theorem zjx{us:List W}:zfP [.tup us] S Q=Q (.tup us) S:=pz id id
theorem zju{a:Addr}:zfP [.ref a] S Q=zbG S a fun us=>Q (.tup us) S:=pz id id
theorem zon{a:Addr}{y:W}:zcC (.ref a) [y] S Q=zbG S a fun xs=>xs.length<sizeLine∧Q .non (put S a (.lst (xs++[y]))):=pz id id
theorem zwa{a:Addr}:zxH (.ref a) [] S Q=zbG S a fun xs=>match xs[xs.length - 1]? with
 |some y=>Q y (put S a (.lst xs.dropLast))
 |none=>False:=pz id id
theorem zio{a:Addr}{ys:List W}:zfp (.ref a) [.tup ys] S Q=zbG S a fun xs=>xs.length+ys.length≤sizeLine∧Q .non (put S a (.lst (xs++ys))):=pz id id
theorem zir{a b:Addr}:zfp (.ref a) [.ref b] S Q=zbG S a fun xs=>zbG S b fun ys=>xs.length+ys.length≤sizeLine∧Q .non (put S a (.lst (xs++ys))):=pz id id
theorem zmI{a:Addr}{ws:List W}:zpy (.ref a) ws S Q=zbG S a fun xs=>xs.length+ws.length≤sizeLine∧Q .non (put S a (.lst (xs++ws))):=pz id id
theorem zvo{a:Addr}:rvL (.ref a) S=zbG S a fun _=>True:=pz id id
theorem zwf{x:Str}:rvS (.str x) S=True:=pz id id
theorem zpC{b:Bool}:zss [.bl b] S Q=Q (.int (if b then 1 else 0)) S:=pz id id
theorem zlL{i:Int}:zss [.int i] S Q=Q (.int i) S:=pz id id
theorem ztT{i j:Int}:zwh [.int i, .int j] S Q=Q (.int (if j > i then j else i)) S:=pz id id
theorem zsS{i j:Int}:zvx [.int i, .int j] S Q=Q (.int (if j<i then j else i)) S:=pz id id
theorem zth{z:Str}{ws:List W}:zia (.str z) ws S Q=match zeH ws with
 |some ys=>(ys.map (·.length)).sum+ys.length*z.length≤16777216∧Q (.str (Str.join z ys)) S
 |none=>False:=pz id id
theorem zrZ{z y:Str}:ztg (.str z) [.str y] S Q=match Builtin.Str.occurrences z y 0 z.length 1 with
 |i::_=>Q (.int i) S
 | []=>False:=pz id id
theorem zop{neg:Bool}:oIs neg .non .non S Q=Q (.bl (!neg)) S:=pz id id
theorem zsf{neg a b:Bool}:oIs neg (.bl a) (.bl b) S Q=Q (.bl (if neg then a != b else a == b)) S:=pz id id
theorem zse{neg a:Bool}:oIs neg (.bl a) .non S Q=Q (.bl neg) S:=pz id id
theorem zsd{neg:Bool}{ws:List W}:oIs neg (.tup ws) .non S Q=Q (.bl neg) S:=pz id id
theorem zrY{neg:Bool}{a:Addr}:oIs neg (.ref a) .non S Q=Q (.bl neg) S:=pz id id
theorem zrG{neg:Bool}{a:Int}:oIs neg (.int a) .non S Q=Q (.bl neg) S:=pz id id
theorem zok{neg:Bool}{x:W}{ws:List W}:oIn neg x (.tup ws) S Q=match inF S x ws with
 |some b=>Q (.bl (if neg then !b else b)) S
 |none=>False:=pz id id
theorem zpb{neg:Bool}{x:W}{a:Addr}:oIn neg x (.ref a) S Q=zbG S a fun ws=>match inF S x ws with
 |some b=>Q (.bl (if neg then !b else b)) S
 |none=>False:=pz id id
theorem zoQ{neg:Bool}{i j:Str}:oIn neg (.str i) (.str j) S Q=Q (.bl (if neg then !(!(Builtin.Str.occurrences j i 0 j.length 1).isEmpty) else !(Builtin.Str.occurrences j i 0 j.length 1).isEmpty)) S:=pz id id
end
theorem znk{g:WG}{b:WS}{E:WX}{D:WEnds}{G:Sto→Prop}(I:List W→WSt→Sto→Prop)
  (step:∀w ws σ S (N:WSt→Sto→Prop),I (w::ws) σ S→(∀σ' S' S'',Sub S'' S'→G S''→I ws σ' S''→N σ' S')→g w σ S fun σ1 S1=>b E { D with nx:=N,ct:=N,bk:=D.nx } σ1 S1)
  (done:∀σ S,I [] σ S→D.nx σ S):∀(ws:List W) (σ:WSt) (S:Sto),I ws σ S→zdA g b E D G ws σ S
 | [],σ,S,h=>done σ S h
 |w::ws,σ,S,h=>step w ws σ S _ h fun σ' S' S'' sb hG hI=>⟨S'',sb,hG,znk I step done ws σ' S'' hI⟩
section
variable {E:WX}{σ:WSt}{S:Sto}{Q:WK}{QB:Bool→Sto→Prop}{QA:List W→Sto→Prop}{QI:List W→(Sto→Prop)→Sto→Prop}{QO:Option Int→Sto→Prop}{P:WSt→Sto→Prop}{D:WEnds}{w x y:W}{ws:List W}{EX:Str→Sto→Prop}
theorem ztA{i:Nat}:(wVar i E σ S Q)=(match σ[i]? with
 |some (some w)=>Q w S
 |_=>False):=pz id id
theorem zxk{w:W}:(wC w E σ S Q)=(Q w S):=pz id id
theorem zvF{r:W2}{a b:WE}:(wOp r a b E σ S Q)=(a E σ S fun x S1=>b E σ S1 fun y S2=>r x y S2 Q):=pz id id
theorem zto{t:WE}:(zjT t E σ S QB)=(t E σ S fun w S'=>zqz w S' QB):=pz id id
theorem zvi{t:WE}:(wTb t E σ S QB)=(t E σ S fun w S'=>match w with
 | .bl b=>QB b S'
 |_=>False):=pz id id
theorem zuu{t u:WT}:(zrO t u E σ S QB)=(t E σ S fun c S1=>if c=true then u E σ S1 QB else QB false S1):=pz id id
theorem zws{t u:WT}:(wOr t u E σ S QB)=(t E σ S fun c S1=>if c=true then QB true S1 else u E σ S1 QB):=pz id id
theorem zte{t:WT}:(zsj t E σ S QB)=(t E σ S fun c S1=>QB (!c) S1):=pz id id
theorem zsi{t u:WE}:(zgj t u E σ S Q)=(t E σ S fun w S1=>match w with
 | .bl true=>u E σ S1 Q
 | .bl false=>Q (.bl false) S1
 |_=>False):=pz id id
theorem zrq{t:WE}:(zoa t E σ S Q)=(t E σ S fun w S1=>match w with
 | .bl b=>Q (.bl !b) S1
 |_=>False):=pz id id
theorem zux{c:WT}{t u:WS}:(zdx c t u E D σ S)=(c E σ S fun b S1=>if b=true then t E D σ S1 else u E D σ S1):=pz id id
theorem zrK:(wNext  E D σ S)=(D.nx σ S):=pz id id
theorem zuM{t u:WS}:(zay t u E D σ S)=(t E { D with nx:=u E D } σ S):=pz id id
theorem zuy{e:WE}:(wRet e E D σ S)=(e E σ S D.rt):=pz id id
theorem zqS{e:WE}:(zbZ e E D σ S)=(e E σ S fun _ S1=>D.nx σ S1):=pz id id
theorem zjH{i:Nat}:(wGN i w σ S P)=(P (σ.set i (some w)) S):=pz id id
theorem zun{e:WE}{g:WG}:(wAsg e g E D σ S)=(e E σ S fun w S1=>g w σ S1 D.nx):=pz id id
theorem zmU:(zgc  ws σ S P)=(match ws with
 | []=>P σ S
 |_=>False):=pz id id
theorem zhb{g:WG}{u:WGs}:(zbJ g u ws σ S P)=(match ws with
 | []=>False
 |w::r=>g w σ S fun σ' S'=>u r σ' S' P):=pz id id
theorem zuS{u:WGs}:(wGT u w σ S P)=(match w with
 | .tup ws=>u ws σ S P
 |_=>False):=pz id id
theorem zrM:(waNil  E σ S QA)=(QA [] S):=pz id id
theorem zoM{t:WE}{u:WA}:(zab t u E σ S QA)=(t E σ S fun w S1=>u E σ S1 fun ws S2=>QA (w::ws) S2):=pz id id
theorem zuI{t:WA}:(zgi t E σ S Q)=(t E σ S fun ws S1=>ws.length≤sizeLine∧Q (.tup ws) S1):=pz id id
theorem ztS{t:WA}:(zeK t E σ S QA)=(t E σ S fun ws S1=>ws.length≤sizeLine∧QA ws S1):=pz id id
theorem ztz{t:WL}:(zdn t E σ S Q)=(t E σ S fun ws S1=>∀a,S1 a=none→Q (.ref a) (put S1 a (.lst ws))):=pz id id
theorem zrF{c:WSp}{t:WA}:(zam c t E σ S Q)=(t E σ S fun ws S1=>c ws S1 Q fun cl S2=>E cl σ S2):=pz id id
theorem zeG{n k:Nat}{body:WS}:(zcx n k body ws S Q EX)=(ws.length=k∧body (fun c _ S'=>EX c S') { nx:=fun _ S'=>∃S'',Sub S'' S'∧Q .non S'',rt:=fun w S'=>∃S'',Sub S'' S'∧Q w S'' } (ws.map some++List.replicate (n - k) none) S):=pz id id
theorem ztP{t:WE}:(zkX t E σ S Q)=(t E σ S fun w S1=>match w with
 | .int i=>Q (.int (-i)) S1
 |_=>False):=pz id id
theorem zvq{t u:WE}:(zwG t u E σ S QA)=(t E σ S fun x S1=>u E σ S1 fun y S2=>match x,y with
 | .ref a, .ref b=>zbG S2 a fun xs=>zbG S2 b fun ys=>xs.length+ys.length≤sizeLine∧QA (xs++ys) S2
 |_,_=>False):=pz id id
theorem zvZ{neg:Bool}:(oEq neg x y S Q)=(match eqF S 60 x y with
 |some b=>Q (.bl (if neg then !b else b)) S
 |none=>False):=pz id id
theorem zpv{r r':W2}{a b c:WE}:(zhD r r' a b c E σ S Q)=(a E σ S fun x S1=>b E σ S1 fun y S2=>r x y S2 fun z S3=>match z with
 | .bl true=>c E σ S3 fun u S4=>r' y u S4 Q
 | .bl false=>Q (.bl false) S3
 |_=>False):=pz id id
theorem zvu:(woN  E σ S QO)=(QO none S):=pz id id
theorem zwD{t:WE}:(woS t E σ S QO)=(t E σ S fun w S1=>match w with
 | .int i=>QO (some i) S1
 |_=>False):=pz id id
theorem zvE{t:WE}{l h:WO}:(wSl t l h E σ S Q)=(t E σ S fun x S1=>l E σ S1 fun lo S2=>h E σ S2 fun hi S3=>oSl x lo hi S3 Q):=pz id id
theorem zxl{f:WF}{t:WA}:(wB f t E σ S Q)=(t E σ S fun ws S1=>f ws S1 Q):=pz id id
theorem zvD{f:WF}{t:WL}:(wBL f t E σ S Q)=(t E σ S fun ws S1=>f ws S1 Q):=pz id id
theorem zmk:(zgJ  ws S Q)=(Q (.tup ws) S):=pz id id
theorem znm{t:WE}:(zjg t E σ S QA)=(t E σ S fun w S1=>match w with
 | .tup ws=>QA ws S1
 | .ref a=>zbG S1 a fun ws=>QA ws S1
 | .scr ns=>QA (ns.map W.int) S1
 |_=>False):=pz id id
theorem zrP:(zjc  ws S Q)=(match zfX ws with
 |some bs=>Q (.bl (bs.all _root_.id)) S
 |none=>False):=pz id id
theorem ztb{T:String}{t:WE}:(ztN T t E σ S Q)=(t E σ S fun w S1=>tyW w S1 fun A=>Q (.bl (zbl A T)) S1):=pz id id
theorem zxf{rv:W→Sto→Prop}{f:WMf}{to:WE}{t:WA}:(wM rv f to t E σ S Q)=(to E σ S fun w S1=>rv w S1∧t E σ S1 fun ws S2=>f w ws S2 Q):=pz id id
theorem zvM{rv:W→Sto→Prop}{f:WMf}{to:WE}{t:WL}:(wML rv f to t E σ S Q)=(to E σ S fun w S1=>rv w S1∧t E σ S1 fun ws S2=>f w ws S2 Q):=pz id id
theorem ztk{i:Nat}{g:Int→Int→Int}{e:WE}:(zul i g e E D σ S)=(match σ[i]? with
 |some (some (.int a))=>e E σ S fun w S1=>match w with
  | .int b=>D.nx (σ.set i (some (.int (g a b)))) S1
  |_=>False
 |_=>False):=pz id id
theorem zuB{q:WI}{g:WG}{b:WS}:(zjL q g b E D σ S)=(q E σ S fun ws G S1=>zdA g b E D G ws σ S1):=pz id id
theorem zvT{t:WE}:(wIv t E σ S QI)=(t E σ S fun w S1=>match w with
 | .tup ws=>QI ws (fun _=>True) S1
 | .ref a=>zbG S1 a fun ws=>QI ws (fun S'=>S' a=some (.lst ws)) S1
 | .scr ns=>QI (ns.map W.int) (fun _=>True) S1
 | .str z=>QI (ziy z) (fun _=>True) S1
 |_=>False):=pz id id
theorem zsy{t:WA}:(zsv t E σ S QI)=(t E σ S fun ws S1=>match ws with
 | [.int j]=>(-(2 ^ 62)≤j∧j<2 ^ 62)∧QI (zmm 0 j.toNat) (fun _=>True) S1
 |_=>False):=pz id id
theorem zsB:(ziO  E σ S QB)=(QB true S):=pz id id
theorem zqI{k:Nat}{fr:List Nat}{q:WI}{g:WG}{c:WT}{e:WE}:(zdm k fr q g c e E σ S QA)=(q noE σ S fun ws G S1=>zgb g c e noE G QA ws [] (List.replicate k none++fr.map fun j=>(σ[j]?).join) S1):=pz id id
theorem zsz{t u:WE}:(zst t u E σ S QI)=(t E σ S fun x S1=>u E σ S1 fun y S2=>zpV x S2 fun xs G=>zpV y S2 fun ys G'=>QI (zbM xs ys) (fun S'=>G S'∧G' S') S2):=pz id id
theorem zrA{t:WA}:(zpu t E σ S QI)=(t E σ S fun ws S1=>match ws with
 | [.int i, .int j, .int c]=>c= -1∧(-(2 ^ 62)≤i∧i<2 ^ 62∧ -(2 ^ 62)≤j∧j<2 ^ 62)∧QI (zgw i (i - j).toNat) (fun _=>True) S1
 |_=>False):=pz id id
theorem zrc{t:WE}{l h:WO}:(zwy t l h E σ S QA)=(t E σ S fun x S1=>l E σ S1 fun lo S2=>h E σ S2 fun hi S3=>match x with
 | .ref a=>zbG S3 a fun ws=>QA (zeW ws lo hi) S3
 | .scr ns=>QA ((zeW ns lo hi).map W.int) S3
 |_=>False):=pz id id
theorem zsP{t:WL}{u:WE}:(zvU t u E σ S Q)=(t E σ S fun ws S1=>u E σ S1 fun y S2=>match y with
 | .int i=>match atI ws i with
  |some w=>Q w S2
  |none=>False
 |_=>False):=pz id id
theorem zrI{t:WE}{u:WL}:(zra t u E σ S QA)=(t E σ S fun x S1=>u E σ S1 fun ys S2=>match x with
 | .ref a=>zbG S2 a fun xs=>xs.length+ys.length≤sizeLine∧QA (xs++ys) S2
 |_=>False):=pz id id
theorem zsp{t u:WL}:(zqP t u E σ S QA)=(t E σ S fun xs S1=>u E σ S1 fun ys S2=>xs.length+ys.length≤sizeLine∧QA (xs++ys) S2):=pz id id
end
section
variable {S:Sto}{Q:WK}
theorem ztB{xs:List W}{k:Int}:znY (.tup xs) (.int k) S Q=((xs≠ []∧ -(2 ^ 63)≤k∧k<2 ^ 63∧xs.length*k.toNat≤sizeLine)∧Q (.tup (List.replicate k.toNat xs).flatten) S):=pz id id
theorem zqV{z:Str}:zkf (.str z) [] S Q=(z.length≤5592405∧Q (.str (Txt.upper z)) S):=pz id id
end
end L2
end
section
def L2.wZ (d:String):Lean.MacroM (Lean.TSyntax `tactic):=do
  let a:Array Lean.Term:=(("L2.ztA L2.zxk L2.zvF L2.zto L2.zvi L2.zuu L2.zws L2.zte L2.zsi L2.zrq L2.zux L2.zrK L2.zuM L2.zuy L2.zqS L2.zjH L2.zun L2.zmU L2.zhb L2.zuS L2.zrM L2.zoM L2.zuI L2.ztS L2.ztz L2.zrF L2.zeG L2.ztP L2.zvZ L2.zpv L2.zvu L2.zwD L2.zvE L2.zxl L2.zvD L2.zmk L2.znm L2.zrP L2.ztb L2.zxf L2.zvM L2.ztk L2.zuB L2.zvT L2.zsy L2.zsB L2.zqI L2.zsz L2.zrA L2.zrc L2.zsP L2.zrI L2.zsp zpw zsV ztC zoo zsR L2.ztB L2.zqV L2.zhg L2.zbT L2.zti L2.zty L2.zwm L2.zsq L2.zjZ L2.zji L2.ziC L2.ziR L2.zgO L2.zhS L2.zhZ L2.zhk L2.ziw L2.zgl L2.zhc L2.zja L2.ziM L2.zjl L2.zgS L2.ziF L2.zgM L2.zgh L2.zhm L2.sub_tuple_tuple L2.sub_tuple_list L2.zhP L2.zgQ L2.ziG L2.sub_list_tuple L2.sub_list_list L2.zov L2.znQ L2.zmt L2.zmR L2.znr L2.zhG L2.zhT L2.zry L2.zpd L2.zoW L2.zos L2.zpn L2.zoN L2.zny L2.zmr L2.zlZ L2.zml L2.zww L2.ztn L2.zoJ L2.zob L2.znB L2.zms L2.zmq L2.zmc L2.zps L2.zor L2.zph L2.zof L2.zoP L2.zoG L2.zpD L2.zoj L2.zjx L2.zju L2.zon L2.zwa L2.zio L2.zir L2.zmI L2.zvo L2.zwf L2.zpC L2.zlL L2.ztT L2.zsS L2.zth L2.zrZ L2.zop L2.zsf L2.zse L2.zsd L2.zrY L2.zrG L2.zok L2.zpb L2.zoQ List.map_cons List.map_nil List.length_cons List.length_nil List.cons_append List.nil_append List.append_nil List.replicate List.getElem?_cons_zero List.getElem?_cons_succ List.getElem?_nil List.set_cons_zero List.set_cons_succ Nat.reduceAdd Nat.reduceSub true_and and_true if_true if_false Bool.false_eq_true reduceIte Bool.not_true Bool.not_false Option.join_some Option.join_none decide_eq_true_eq and_self".splitOn " ").filter (· != d)).toArray.map fun s=>Lean.mkIdent s.toName
  `(tactic| simp only [$[$a:term],*])
local macro_rules | `(tactic| walk_at "wp") => L2.wZ ""
section
namespace L2
open PySem PySem.Spec PyProof.Rows
section
variable {E:WX}{D:WEnds}{σ:WSt}{S:Sto}{Q:WK}
theorem zpw{c:WSp}{t:WA}:(zeC c t E σ S Q)=(t noX σ S fun ws S1=>c ws S1 Q fun cl S2=>E cl σ S2):=pz id id
theorem zsV{c:WT}{t u:WS}:(zsu c t u E D σ S)=(c noX σ S fun b S1=>if b=true then t E D σ S1 else u E D σ S1):=pz id id
theorem ztC{i:Nat}{a:Addr}{b:Bool}:(zpf i a b E σ S Q)=(σ[i]? =some (some (.ref a))∧Q (.bl b) S):=pz id id
theorem zeV{x:Str}{t:WA}:(zhR x t E D σ S)=(t E σ S fun ws S1=>ws.length≤sizeLine∧E x σ S1):=pz id id
theorem zoo{i:Nat}{al:List Str}{t:WS}{u:Str→Addr→WS}:(znb i al t u E D σ S)=(t (fun cl σ' S'=>cl∈al∧ ∀a,u cl a noX { nx:=fun σ'' S''=>D.nx (σ''.set i none) S'',rt:=D.rt,bk:=fun σ'' S''=>D.bk (σ''.set i none) S'',ct:=fun σ'' S''=>D.ct (σ''.set i none) S'' } (σ'.set i (some (.ref a))) S') D σ S):=pz id id
theorem zsR{al:List Str}{t u:WS}:(wTry al t u E D σ S)=(t (fun cl σ' S'=>cl∈al∧u noX D σ' S') D σ S):=pz id id
end
noncomputable def zct:Nat→WSp
 |0=>zba
 |r+1=>zcx 1 1 (zay (zdx (zjT (ztN "int" (wVar 0))) (wRet (zgi waNil)) wNext)
  (wRet (wSl (wVar 0) (woS (wC (.int 1))) woN)))
noncomputable def zaQ (r:Nat) (self:WSp):WS:=(zbZ (wM rvL zfp (wVar 1) (zab (zam (zct r) (zab (wVar 2) waNil)) waNil)))
noncomputable def zaD:Nat→WSp
 |0=>zba
 |r+1=>zcx 3 1 (zay (wAsg (zdn (zeK waNil)) (wGN 1))
  (zay (zjL (wIv (wVar 0)) (wGN 2) (zaQ r zba))
  (wRet (wVar 1))))
noncomputable def zcQ (r:Nat) (self:WSp):WS:=(zay (zul 1 (fun a b=>a+b) (wB zlq (zab (wVar 3) waNil)))
  (zay (zul 2 (fun a b=>a+b) (wC (.int 1)))
  (zay (zdx (wOr (wTb (wOp oGt (wVar 1) (wC (.int 400)))) (wTb (wOp oGt (wVar 2) (wC (.int 40))))) (wRet (wC (.bl false))) wNext)
  (wAsg (zam (zaD r) (zab (wVar 3) waNil)) (wGN 3)))))
noncomputable def zbz:Nat→WSp
 |0=>zba
 |r+1=>zcx 4 1 (zay (wAsg (wC (.int 0)) (wGN 1))
  (zay (wAsg (wC (.int 0)) (wGN 2))
  (zay (wAsg (zdn (zeK (zab (wVar 0) waNil))) (wGN 3))
  (zay (zpW (zjT (wVar 3)) (zcQ r zba))
  (wRet (wC (.bl true)))))))
noncomputable def zgA (r:Nat) (self:WSp):WE:=(zam self (zab (wVar 0) (zab (wVar 1) waNil)))
noncomputable def zbL:Nat→WSp
 |0=>zba
 |r+1=>zcx 2 2 (zay (zdx (zjT (ztN "int" (wVar 0))) (wRet (wOp oIx (wVar 1) (wVar 0))) wNext)
  (wRet (wOp zfY (zgi (zab (wOp oIx (wVar 0) (wC (.int 0))) waNil)) (wBL zgJ (zdm 1 [1] (wIv (wSl (wVar 0) (woS (wC (.int 1))) woN)) (wGN 0) ziO (zgA r (zbL r)))))))
noncomputable def zbc:Nat→WSp
 |0=>zba
 |r+1=>zcx 2 2 (wRet (zgj (wOp (oEq false) (wOp oIx (wVar 0) (wC (.int 0))) (wOp oIx (wVar 1) (wC (.int 0)))) (wOp (oEq false) (wB zlq (zab (wVar 0) waNil)) (wB zlq (zab (wVar 1) waNil)))))
noncomputable def zbp (r:Nat) (self:WSp):WS:=(zdx (zsj (zjT (zam self (zab (wVar 3) (zab (wVar 4) (zab (wVar 2) waNil)))))) (wRet (wC (.bl false))) wNext)
noncomputable def zas:Nat→WSp
 |0=>zba
 |r+1=>zcx 5 3 (zay (zdx (zjT (ztN "int" (wVar 0))) (zay (zbZ (wM rvL zcC (wVar 2) (zab (wVar 1) waNil)))
  (wRet (wC (.bl true)))) wNext)
  (zay (zdx (zsj (zjT (zam (zbc r) (zab (wVar 0) (zab (wVar 1) waNil))))) (wRet (wC (.bl false))) wNext)
  (zay (zjL (zst (wSl (wVar 0) (woS (wC (.int 1))) woN) (wSl (wVar 1) (woS (wC (.int 1))) woN)) (wGT (zbJ (wGN 3) (zbJ (wGN 4) zgc))) (zbp r (zas r)))
  (wRet (wC (.bl true))))))
noncomputable def zbD:Nat→WSp
 |0=>zba
 |r+1=>zcx 3 2 (zay (wAsg (zdn (zeK waNil)) (wGN 2))
  (zay (zdx (zjT (zam (zas r) (zab (wVar 0) (zab (wVar 1) (zab (wVar 2) waNil))))) (wRet (wVar 2)) wNext)
  (wRet (wC .non))))
noncomputable def zbF (r:Nat) (self:WSp):WE:=(zhD oLe oLe (wC (.str "a")) (wVar 0) (wC (.str "z")))
noncomputable def zaB:Nat→WSp
 |0=>zba
 |r+1=>zcx 1 1 (wRet (wBL zjc (zdm 1 [] (wIv (wVar 0)) (wGN 0) ziO (zbF r zba))))
noncomputable def zdg:Nat→WSp
 |0=>zba
 |r+1=>zcx 1 1 (wRet (zgj (zhD oLe oLe (wC (.int 1)) (wB zlq (zab (wVar 0) waNil)) (wC (.int 8))) (zam (zaB r) (zab (wVar 0) waNil))))
noncomputable def zdp (r:Nat) (self:WSp):WS:=(zdx (wTb (wOp (oEq false) (wOp oIx (wVar 2) (wC (.int 0))) (wVar 1))) (wRet (wVar 2)) wNext)
noncomputable def zaC:Nat→WSp
 |0=>zba
 |r+1=>zcx 3 2 (zay (zjL (wIv (wVar 0)) (wGN 2) (zdp r zba))
  (wRet (wC .non)))
noncomputable def zeE (r:Nat) (self:WSp):WE:=(zam self (zab (wVar 0) waNil))
noncomputable def zbO:Nat→WSp
 |0=>zba
 |r+1=>zcx 1 1 (wRet (zgj (zam (zdg r) (zab (wOp oIx (wVar 0) (wC (.int 0))) waNil)) (wBL zjc (zdm 1 [] (wIv (wSl (wVar 0) (woS (wC (.int 1))) woN)) (wGN 0) ziO (zeE r (zbO r))))))
noncomputable def zau:Nat→WSp
 |0=>zba
 |r+1=>zcx 1 1 (zay (zdx (zsj (zjT (zam (zbz r) (zab (wVar 0) waNil)))) (zhR "TooGreat" (zab (wC (.str "the shape is not small")) waNil)) wNext)
  (wRet (wVar 0)))
noncomputable def zdt (r:Nat) (self:WSp):WE:=(zam self (zab (wVar 1) (zab (wVar 0) (zab (wVar 2) waNil))))
noncomputable def zaX:Nat→WSp
 |0=>zba
 |r+1=>zcx 5 3 (zay (wAsg (zdn (zdm 1 [0,2] (wIv (wSl (wVar 1) (woS (wC (.int 1))) woN)) (wGN 0) ziO (zdt r (zaX r)))) (wGN 3))
  (zay (wAsg (zam (zaC r) (zab (wVar 0) (zab (wOp oIx (wVar 1) (wC (.int 0))) waNil))) (wGN 4))
  (zay (zdx (wTb (wOp (oIs false) (wVar 4) (wC .non))) (wRet (wOp zfY (zgi (zab (wOp oIx (wVar 1) (wC (.int 0))) waNil)) (wB zfP (zab (wVar 3) waNil)))) wNext)
  (wRet (zam (zbL r) (zab (wOp oIx (wVar 4) (wVar 2)) (zab (wVar 3) waNil)))))))
noncomputable def zcy:Nat→WSp
 |0=>zba
 |r+1=>zcx 2 2 (wRet (zam (zau r) (zab (zam (zaX r) (zab (wVar 0) (zab (wVar 1) (zab (wC (.int 1)) waNil)))) waNil)))
noncomputable def zdv:Nat→WSp
 |0=>zba
 |r+1=>zcx 2 2 (wRet (zam (zau r) (zab (zam (zaX r) (zab (wVar 0) (zab (wVar 1) (zab (wC (.int 2)) waNil)))) waNil)))
noncomputable def zbk:Nat→WSp
 |0=>zba
 |r+1=>zcx 4 3 (zay (wAsg (zam (zcy r) (zab (wVar 0) (zab (wVar 1) waNil))) (wGN 3))
  (zay (zdx (wTb (wOp (oEq true) (zam (zcy r) (zab (wVar 0) (zab (wVar 2) waNil))) (wVar 3))) (zhR "Apart" (zab (wC (.str "the ways have not the same source")) waNil)) wNext)
  (wRet (wVar 3))))
noncomputable def zfW (r:Nat) (self:WSp):WE:=(zam self (zab (wVar 2) (zab (wVar 0) (zab (wVar 1) waNil))))
noncomputable def zbB:Nat→WSp
 |0=>zba
 |r+1=>zcx 8 3 (zay (wAsg (zam (zaC r) (zab (wVar 0) (zab (wOp oIx (wVar 1) (wC (.int 0))) waNil))) (wGN 3))
  (zay (wAsg (zam (zaC r) (zab (wVar 0) (zab (wOp oIx (wVar 2) (wC (.int 0))) waNil))) (wGN 4))
  (zay (wAsg (wSl (wVar 1) (woS (wC (.int 1))) woN) (wGN 5))
  (zay (wAsg (wSl (wVar 2) (woS (wC (.int 1))) woN) (wGN 6))
  (zay (zdx (zrO (wTb (wOp (oIs false) (wVar 3) (wC .non))) (wTb (wOp (oIs true) (wVar 4) (wC .non)))) (wAsg (zam (zbD r) (zab (wOp oIx (wVar 4) (wC (.int 1))) (zab (wVar 1) waNil))) (wGN 5)) wNext)
  (zay (zdx (zrO (wTb (wOp (oIs true) (wVar 3) (wC .non))) (wTb (wOp (oIs false) (wVar 4) (wC .non)))) (wAsg (zam (zbD r) (zab (wOp oIx (wVar 3) (wC (.int 1))) (zab (wVar 2) waNil))) (wGN 6)) wNext)
  (zay (wAsg (zdn (zdm 2 [0] (zst (wVar 5) (wVar 6)) (wGT (zbJ (wGN 0) (zbJ (wGN 1) zgc))) ziO (zfW r (zbB r)))) (wGN 7))
  (zay (zdx (wTb (wOp (oIs false) (wVar 4) (wC .non))) (wRet (wOp zfY (zgi (zab (wOp oIx (wVar 1) (wC (.int 0))) waNil)) (wB zfP (zab (wVar 7) waNil)))) wNext)
  (wRet (zam (zbL r) (zab (wOp oIx (wVar 4) (wC (.int 2))) (zab (wVar 7) waNil))))))))))))
noncomputable def zdi:Nat→WSp
 |0=>zba
 |r+1=>zcx 3 3 (zay (zbZ (zam (zbk r) (zab (wVar 0) (zab (wVar 1) (zab (wVar 2) waNil)))))
  (zay (zbZ (zam (zdv r) (zab (wVar 0) (zab (wVar 2) waNil))))
  (wRet (zam (zbB r) (zab (wVar 0) (zab (wVar 1) (zab (wVar 2) waNil)))))))
noncomputable def zbE (r:Nat) (self:WSp):WS:=(zay (zdx (wTb (wOp (oEq true) (zam (zcy r) (zab (wVar 0) (zab (wVar 3) waNil))) (wVar 2))) (wRet (wC (.bl false))) wNext)
  (wAsg (zam (zdv r) (zab (wVar 0) (zab (wVar 3) waNil))) (wGN 2)))
noncomputable def zbw:Nat→WSp
 |0=>zba
 |r+1=>zcx 4 2 (zay (wAsg (zam (zau r) (zab (wOp oIx (wVar 1) (wC (.int 0))) waNil)) (wGN 2))
  (zay (zjL (wIv (wOp oIx (wVar 1) (wC (.int 1)))) (wGN 3) (zbE r zba))
  (wRet (wC (.bl true)))))
noncomputable def zaH:Nat→WSp
 |0=>zba
 |r+1=>zcx 2 2 (wTry ["TooGreat"] (wRet (zeC (zbw r) (zab (wVar 0) (zab (wVar 1) waNil)))) (wRet (wC (.bl false))))
noncomputable def zjm (r:Nat):WS:=(wRet (zam (zdv r) (zab (wVar 0) (zab (wOp oIx (wOp oIx (wVar 1) (wC (.int 1))) (zkX (wC (.int 1)))) waNil))))
noncomputable def zjB (r:Nat) (T:WS):WS:=(zay (zdx (zsj (zjT (wOp oIx (wVar 1) (wC (.int 1))))) (wRet (wOp oIx (wVar 1) (wC (.int 0)))) wNext) T)
noncomputable def znC:Nat→WSp
 |0=>zba
 |r+1=>zcx 2 2 (zjB r (zjm r))
noncomputable def zbR (r:Nat) (self:WSp):WS:=(zbZ (zam (zdv r) (zab (wVar 0) (zab (wVar 2) waNil))))
noncomputable def zaz:Nat→WSp
 |0=>zba
 |r+1=>zcx 3 2 (zjL (wIv (wVar 1)) (wGN 2) (zbR r zba))
noncomputable def zbn (r:Nat):WS:=(wRet (wVar 3))
noncomputable def zbg (r:Nat):WS:=(zbZ (wM rvL zcC (wVar 3) (zab (wVar 5) waNil)))
noncomputable def zbe (r:Nat) (T:WS):WS:=(zay (zbZ (zam (zaz r) (zab (wVar 0) (zab (zdn (zeK (zab (wVar 5) waNil))) waNil)))) T)
noncomputable def zbf (r:Nat) (T:WS):WS:=(zay (wAsg (zam (zbB r) (zab (wVar 0) (zab (wOp oIx (wVar 3) (zkX (wC (.int 1)))) (zab (wVar 4) waNil)))) (wGN 5)) T)
noncomputable def zbm (r:Nat) (self:WSp):WS:=(zbf r (zbe r (zbg r)))
noncomputable def zbq (r:Nat) (T:WS):WS:=(zay (zjL (wIv (wVar 2)) (wGN 4) (zbm r zba)) T)
noncomputable def zbr (r:Nat) (T:WS):WS:=(zay (wAsg (zdn (zeK (zab (wVar 1) waNil))) (wGN 3)) T)
noncomputable def zaK:Nat→WSp
 |0=>zba
 |r+1=>zcx 6 3 (zbr r (zbq r (zbn r)))
noncomputable def zeY (r:Nat):WS:=(wRet (zgi (zab (wVar 3) (zab (wVar 5) waNil))))
noncomputable def zjV (r:Nat) (self:WSp):WE:=(zam (zbB r) (zab (wVar 2) (zab (wVar 0) (zab (wVar 1) waNil))))
noncomputable def zcZ (r:Nat):WS:=(zbZ (wM rvL zcC (wVar 5) (zab (wVar 4) waNil)))
noncomputable def zcU (r:Nat) (T:WS):WS:=(zay (zbZ (wM rvL zcC (wVar 3) (zab (wVar 7) waNil))) T)
noncomputable def zda (r:Nat) (T:WS):WS:=(zay (wAsg (zdn (zdm 2 [0] (zst (wVar 4) (wVar 7)) (wGT (zbJ (wGN 0) (zbJ (wGN 1) zgc))) ziO (zjV r zba))) (wGN 4)) T)
noncomputable def zdX (r:Nat) (T:WS):WS:=(zay (wAsg (zam (zaK r) (zab (wVar 0) (zab (wVar 6) (zab (wVar 4) waNil)))) (wGN 7)) T)
noncomputable def zeU (r:Nat) (self:WSp):WS:=(zdX r (zda r (zcU r (zcZ r))))
noncomputable def zff (r:Nat) (T:WS):WS:=(zay (zjL (wIv (wOp oIx (wVar 1) (wC (.int 1)))) (wGN 6) (zeU r zba)) T)
noncomputable def zdT (r:Nat) (T:WS):WS:=(zay (wAsg (zdn (zeK (zab (wVar 4) waNil))) (wGN 5)) T)
noncomputable def zed (r:Nat) (T:WS):WS:=(zay (wAsg (zdn (zjg (wOp oIx (wVar 2) (wC (.int 1))))) (wGN 4)) T)
noncomputable def zdZ (r:Nat) (T:WS):WS:=(zay (wAsg (zdn (zeK waNil)) (wGN 3)) T)
noncomputable def zfc (r:Nat) (T:WS):WS:=(zay (zbZ (zam (zaz r) (zab (wVar 0) (zab (wOp oIx (wVar 2) (wC (.int 1))) waNil)))) T)
noncomputable def zeQ (r:Nat) (T:WS):WS:=(zay (zbZ (zam (zaz r) (zab (wVar 0) (zab (wOp oIx (wVar 1) (wC (.int 1))) waNil)))) T)
noncomputable def zdO (r:Nat) (T:WS):WS:=(zay (zbZ (zam (zau r) (zab (wOp oIx (wVar 1) (wC (.int 0))) waNil))) T)
noncomputable def zfh (r:Nat) (T:WS):WS:=(zay (zdx (wTb (wOp (oEq true) (wOp oIx (wVar 1) (wC (.int 0))) (wOp oIx (wVar 2) (wC (.int 0))))) (zhR "Apart" (zab (wC (.str "the roads are not from one shape")) waNil)) wNext) T)
noncomputable def zcS:Nat→WSp
 |0=>zba
 |r+1=>zcx 8 3 (zfh r (zdO r (zeQ r (zfc r (zdZ r (zed r (zdT r (zff r (zeY r)))))))))
noncomputable def zdr (r:Nat) (self:WSp):WE:=(wOp oIx (wVar 0) (zkX (wC (.int 1))))
noncomputable def zaV:Nat→WSp
 |0=>zba
 |r+1=>zcx 1 1 (wRet (zdn (zdm 1 [] (wIv (wOp oIx (wVar 0) (wC (.int 0)))) (wGN 0) ziO (zdr r zba))))
noncomputable def zbV (r:Nat):WS:=(wRet (zgi (zab (zam (znC r) (zab (wVar 0) (zab (wVar 2) waNil))) (zab (wVar 3) waNil))))
noncomputable def zbS (r:Nat) (T:WS):WS:=(zay (wAsg (zam (zaV r) (zab (zam (zcS r) (zab (wVar 0) (zab (wVar 1) (zab (wVar 2) waNil)))) waNil)) (wGN 3)) T)
noncomputable def zaM:Nat→WSp
 |0=>zba
 |r+1=>zcx 4 3 (zbS r (zbV r))
noncomputable def zbX (r:Nat):WS:=(wRet (zgi (zab (wOp oIx (wVar 1) (wC (.int 0))) (zab (wOp zfY (wOp oIx (wVar 1) (wC (.int 1))) (wOp oIx (wVar 3) (zkX (wC (.int 1))))) waNil))))
noncomputable def zbQ (r:Nat) (T:WS):WS:=(zay (wAsg (wOp oIx (zam (zcS r) (zab (wVar 0) (zab (wVar 1) (zab (wVar 2) waNil)))) (wC (.int 1))) (wGN 3)) T)
noncomputable def zaJ:Nat→WSp
 |0=>zba
 |r+1=>zcx 4 3 (zbQ r (zbX r))
noncomputable def zei (r:Nat) (self:WSp):WE:=(zam (zbO r) (zab (wVar 0) waNil))
noncomputable def zbh:Nat→WSp
 |0=>zba
 |r+1=>zcx 1 1 (wRet (wBL zjc (zdm 1 [] (wIv (wVar 0)) (wGN 0) ziO (zei r zba))))
noncomputable def zcE:Nat→WSp
 |0=>zba
 |r+1=>zcx 3 3 (wRet (zam (zbh r) (zab (zam (zaV r) (zab (zam (zcS r) (zab (wVar 0) (zab (wVar 1) (zab (wVar 2) waNil)))) waNil)) waNil)))
noncomputable def zfj (r:Nat):WS:=(wRet (zgj (zam (zbh r) (zab (zam (zaV r) (zab (wVar 3) waNil)) waNil)) (zam (zbh r) (zab (wOp oIx (wOp oIx (wVar 3) (wC (.int 1))) (zkX (wC (.int 1)))) waNil))))
noncomputable def zfT (r:Nat) (T:WS):WS:=(zay (wAsg (zam (zcS r) (zab (wVar 0) (zab (wVar 1) (zab (wVar 2) waNil)))) (wGN 3)) T)
noncomputable def zdH:Nat→WSp
 |0=>zba
 |r+1=>zcx 4 3 (zfT r (zfj r))
noncomputable def zax:Nat→WSp
 |0=>zba
 |r+1=>zcx 2 2 (zay (zdx (wTb (wOp oLt (wVar 1) (wB zlq (zab (wVar 0) waNil)))) (wRet (wOp oIx (wVar 0) (wVar 1))) wNext)
  (wRet (wC (.int 0))))
noncomputable def zdo (r:Nat) (self:WSp):WE:=(wOp oIx (wVar 1) (wOp (zeI (fun _ j=>0<j) fun i j=> .int (i % j)) (wOp zfY (wOp oIx (wVar 2) (wVar 0)) (wOp (zeI CMul fun i j=> .int (i*j)) (wVar 3) (wB zss (zab (wOp (oEq false) (wVar 0) (wVar 4)) waNil)))) (wC (.int 26))))
noncomputable def zdw (r:Nat) (self:WSp):WS:=(zay (wAsg (wML rvS zia (wC (.str "")) (zdm 1 [3,5,6,7] (zsv (zab (wB zlq (zab (wVar 5) waNil)) waNil)) (wGN 0) ziO (zdo r zba))) (wGN 9))
  (zay (zdx (zjT (wVar 2)) (wAsg (wOp zfY (wM rvS zkf (wOp oIx (wVar 9) (wC (.int 0))) waNil) (wSl (wVar 9) (woS (wC (.int 1))) woN)) (wGN 9)) wNext)
  (zbZ (wM rvL zcC (wVar 8) (zab (wVar 9) waNil)))))
noncomputable def zcm (r:Nat) (self:WSp):WS:=(zay (zbZ (wM rvL zcC (wVar 5) (zab (wOp (zeI (fun _ j=>0<j) fun i j=> .int (i % j)) (wVar 4) (wC (.int 26))) waNil)))
  (wAsg (wOp (zeI zrV fun i j=> .int (i / j)) (wVar 4) (wC (.int 26))) (wGN 4)))
noncomputable def zbC:Nat→WSp
 |0=>zba
 |r+1=>zcx 10 3 (zay (wAsg (wC (.str "abcdefghijklmnopqrstuvwxyz")) (wGN 3))
  (zay (wAsg (wOp (zeI (fun _ j=>0<j) fun i j=> .int (i % j)) (wVar 1) (wOp (zeI zvS fun i j=> .int (i ^ j.toNat)) (wC (.int 26)) (wC (.int 8)))) (wGN 4))
  (zay (wAsg (zdn (zeK waNil)) (wGN 5))
  (zay (zjL (zsv (zab (wOp zfY (wC (.int 1)) (wOp (zeI (fun _ j=>0<j) fun i j=> .int (i % j)) (wVar 0) (wC (.int 8)))) waNil)) (wGN 6) (zcm r zba))
  (zay (wAsg (wOp (zeI (fun _ j=>0<j) fun i j=> .int (i % j)) (wOp (zeI zrV fun i j=> .int (i / j)) (wVar 0) (wC (.int 8))) (wB zlq (zab (wVar 5) waNil))) (wGN 7))
  (zay (wAsg (zdn (zeK waNil)) (wGN 8))
  (zay (zjL (zsv (zab (wC (.int 6)) waNil)) (wGN 6) (zdw r zba))
  (zay (zdx (zrO (wTb (wOp (oEq false) (wOp (zeI (fun _ j=>0<j) fun i j=> .int (i % j)) (wOp (zeI zrV fun i j=> .int (i / j)) (wVar 0) (wC (.int 64))) (wC (.int 2))) (wC (.int 1)))) (zsj (zjT (wVar 2)))) (wAsg (zdn (zqP (zwy (wVar 8) woN (woS (wC (.int 3)))) (zeK (zab (wOp oIx (wVar 8) (wC (.int 2))) (zab (wOp oIx (wVar 8) (wC (.int 2))) (zab (wOp oIx (wVar 8) (wC (.int 5))) waNil)))))) (wGN 8)) wNext)
  (wRet (wVar 8))))))))))
noncomputable def zdb (r:Nat) (self:WSp):WS:=(zdx (wTb (wOp (oIn false) (wVar 4) (wVar 2))) (wAsg (wOp zfY (wOp (zeI CMul fun i j=> .int (i*j)) (wC (.int 2)) (wVar 3)) (wC (.int 1))) (wGN 3)) (wAsg (wOp zfY (wVar 3) (wC (.int 1))) (wGN 3)))
noncomputable def zbt:Nat→WSp
 |0=>zba
 |r+1=>zcx 5 3 (zay (wAsg (wOp zfY (wVar 1) (wC (.int 1))) (wGN 3))
  (zay (zjL (zpu (zab (wOp (ziK fun i j=> .int (i - j)) (wVar 0) (wC (.int 1))) (zab (zkX (wC (.int 1))) (zab (zkX (wC (.int 1))) waNil)))) (wGN 4) (zdb r zba))
  (wRet (wVar 3))))
noncomputable def zdy (r:Nat) (self:WSp):WS:=(zdx (wTb (wOp (oEq false) (wVar 5) (wVar 2))) (wAsg (zgi (zab (wC (.str "A")) (zab (wVar 4) waNil))) (wGN 4)) (wAsg (zgi (zab (wOp oIx (wVar 3) (wC (.int 0))) (zab (wVar 4) waNil))) (wGN 4)))
noncomputable def zaI:Nat→WSp
 |0=>zba
 |r+1=>zcx 6 4 (zay (wAsg (wOp zfY (zgi (zab (wOp oIx (wVar 3) (wC (.int 5))) waNil)) (wOp znY (zgi (zab (zgi (zab (wOp oIx (wVar 3) (wC (.int 2))) waNil)) waNil)) (wVar 1))) (wGN 4))
  (zay (zjL (zpu (zab (wOp (ziK fun i j=> .int (i - j)) (wVar 0) (wC (.int 1))) (zab (zkX (wC (.int 1))) (zab (zkX (wC (.int 1))) waNil)))) (wGN 5) (zdy r zba))
  (wRet (wVar 4))))
noncomputable def zaW:Nat→WSp
 |0=>zba
 |r+1=>zcx 6 4 (zay (wAsg (zdn (zeK waNil)) (wGN 4))
  (zay (znb 5 ["TooGreat", "Apart"] (zsu (wTb (wOp (oEq false) (wVar 0) (wC (.int 0)))) (zbZ (zeC (zcS r) (zab (wVar 1) (zab (wVar 2) (zab (wVar 3) waNil))))) (zsu (wTb (wOp (oEq false) (wVar 0) (wC (.int 1)))) (zbZ (zeC (zaM r) (zab (wVar 1) (zab (wVar 2) (zab (wVar 3) waNil))))) (zsu (wTb (wOp (oEq false) (wVar 0) (wC (.int 2)))) (zbZ (zeC (zaJ r) (zab (wVar 1) (zab (wVar 2) (zab (wVar 3) waNil))))) (zsu (wTb (wOp (oEq false) (wVar 0) (wC (.int 3)))) (zbZ (zeC (zcE r) (zab (wVar 1) (zab (wVar 2) (zab (wVar 3) waNil))))) (zbZ (zeC (zdH r) (zab (wVar 1) (zab (wVar 2) (zab (wVar 3) waNil))))))))) (fun cl a=>(zay (wAsg (zdn (zeK (zab (zpf 5 a (zdM cl "TooGreat")) (zab (zpf 5 a (zdM cl "Apart")) (zab (zpf 5 a (zdM cl "NoUse")) (zab (zpf 5 a (zdM cl "NoWay")) waNil)))))) (wGN 4))
  (wAsg (zdn (zra (wVar 4) (zeK (zab (zpf 5 a (zdM cl "NoPlace")) (zab (zoa (zpf 5 a (zdM cl "ValueError"))) waNil))))) (wGN 4)))))
  (wRet (wVar 4))))
noncomputable def zaY:Nat→WSp
 |0=>zba
 |r+1=>zcx 2 2 (zay (zdx (wTb (wOp (oEq false) (wOp (zeI (fun _ j=>0<j) fun i j=> .int (i % j)) (wVar 0) (wC (.int 4))) (wC (.int 0)))) (wRet (zdn (zeK waNil))) wNext)
  (wRet (zdn (zeK (zab (wOp (zeI (fun _ j=>0<j) fun i j=> .int (i % j)) (wOp (zeI zrV fun i j=> .int (i / j)) (wVar 0) (wC (.int 4))) (wVar 1)) waNil)))))
noncomputable def zcc (r:Nat):WS:=(wRet (wOp (oEq false) (zam (zaH r) (zab (wVar 2) (zab (wVar 13) waNil))) (zoa (wVar 10))))
noncomputable def zcd (r:Nat) (T:WS):WS:=(zay (wAsg (zgi (zab (wOp oIx (wVar 8) (wC (.int 0))) (zab (zdn (zeK (zab (wOp oIx (wOp oIx (wVar 8) (wC (.int 1))) (wC (.int 0))) (zab (zam (zdi r) (zab (wVar 2) (zab (wOp oIx (wOp oIx (wVar 9) (wC (.int 1))) (wC (.int 0))) (zab (wOp oIx (wOp oIx (wVar 8) (wC (.int 1))) (wC (.int 0))) waNil)))) waNil)))) waNil))) (wGN 13)) T)
noncomputable def zcf (r:Nat) (T:WS):WS:=(zay (zdx (wOr (wTb (wOp (oEq false) (wVar 7) (wC (.int 1)))) (wOr (wTb (wOp (oEq false) (wVar 5) (zdn (zeK waNil)))) (wTb (wOp (oEq false) (wVar 6) (zdn (zeK waNil)))))) (wRet (zgj (wOp (oIs false) (zam (zaH r) (zab (wVar 2) (zab (wVar 8) waNil))) (wC (.bl true))) (wOp (oIs false) (zam (zaH r) (zab (wVar 2) (zab (wVar 9) waNil))) (wC (.bl true))))) wNext) T)
noncomputable def zfD (r:Nat) (self:WSp):WS:=(zdx (wTb (wOp (oEq true) (zam (zaW r) (zab (wVar 12) (zab (wVar 2) (zab (wVar 8) (zab (wVar 9) waNil))))) (wVar 11))) (wRet (wC (.bl false))) wNext)
noncomputable def zcg (r:Nat) (T:WS):WS:=(zay (zjL (zsv (zab (wC (.int 5)) waNil)) (wGN 12) (zfD r zba)) T)
noncomputable def zce (r:Nat) (T:WS):WS:=(zay (zdx (wTb (wOp (oEq false) (wVar 7) (wC (.int 1)))) (wAsg (zdn (zeK (zab (wC (.bl false)) (zab (wC (.bl true)) (zab (wC (.bl false)) (zab (wC (.bl false)) (zab (wC (.bl false)) (zab (wC (.bl false)) waNil)))))))) (wGN 11)) (zdx (zjT (wVar 10)) (wAsg (zdn (zeK (zab (wC (.bl true)) (zab (wC (.bl false)) (zab (wC (.bl false)) (zab (wC (.bl false)) (zab (wC (.bl false)) (zab (wC (.bl false)) waNil)))))))) (wGN 11)) wNext)) T)
noncomputable def zca (r:Nat) (T:WS):WS:=(zay (wAsg (zdn (zeK waNil)) (wGN 11)) T)
noncomputable def zcb (r:Nat) (T:WS):WS:=(zay (wAsg (wOp oGt (zam (zbt r) (zab (wVar 3) (zab (wVar 4) (zab (wOp zfY (wVar 5) (wVar 6)) waNil)))) (wC (.int 400))) (wGN 10)) T)
noncomputable def zfC (r:Nat) (self:WSp):WE:=(zam (zaI r) (zab (wVar 1) (zab (wOp zfY (wVar 3) (wVar 4)) (zab (wVar 0) (zab (wVar 2) waNil)))))
noncomputable def zcF (r:Nat) (T:WS):WS:=(zay (wAsg (zgi (zab (zam (zaI r) (zab (wVar 3) (zab (wOp zfY (wVar 4) (wVar 7)) (zab (zkX (wC (.int 1))) (zab (wVar 1) waNil))))) (zab (zdn (zdm 1 [3,1,4,7] (wIv (wVar 6)) (wGN 0) ziO (zfC r zba))) waNil))) (wGN 9)) T)
noncomputable def zeD (r:Nat) (self:WSp):WE:=(zam (zaI r) (zab (wVar 1) (zab (wVar 2) (zab (wVar 0) (zab (wVar 3) waNil)))))
noncomputable def zcz (r:Nat) (T:WS):WS:=(zay (wAsg (zgi (zab (zam (zaI r) (zab (wVar 3) (zab (wVar 4) (zab (zkX (wC (.int 1))) (zab (wVar 1) waNil))))) (zab (zdn (zdm 1 [3,4,1] (wIv (wVar 5)) (wGN 0) ziO (zeD r zba))) waNil))) (wGN 8)) T)
noncomputable def zcL (r:Nat) (T:WS):WS:=(zay (wAsg (wB zss (zab (wOp (oEq false) (wOp (zeI (fun _ j=>0<j) fun i j=> .int (i % j)) (zam (zax r) (zab (wVar 0) (zab (wC (.int 6)) waNil))) (wC (.int 5))) (wC (.int 1))) waNil)) (wGN 7)) T)
noncomputable def zcH (r:Nat) (T:WS):WS:=(zay (wAsg (zam (zaY r) (zab (zam (zax r) (zab (wVar 0) (zab (wC (.int 5)) waNil))) (zab (wVar 3) waNil))) (wGN 6)) T)
noncomputable def zcD (r:Nat) (T:WS):WS:=(zay (wAsg (zam (zaY r) (zab (zam (zax r) (zab (wVar 0) (zab (wC (.int 4)) waNil))) (zab (wVar 3) waNil))) (wGN 5)) T)
noncomputable def zcI (r:Nat) (T:WS):WS:=(zay (wAsg (wOp (zeI (fun _ j=>0<j) fun i j=> .int (i % j)) (zam (zax r) (zab (wVar 0) (zab (wC (.int 2)) waNil))) (zvU (zeK (zab (wC (.int 20)) (zab (wC (.int 100)) (zab (wC (.int 191)) waNil)))) (wOp (zeI (fun _ j=>0<j) fun i j=> .int (i % j)) (zam (zax r) (zab (wVar 0) (zab (wC (.int 3)) waNil))) (wC (.int 3))))) (wGN 4)) T)
noncomputable def zcK (r:Nat) (T:WS):WS:=(zay (wAsg (wOp zfY (wC (.int 2)) (wOp (zeI (fun _ j=>0<j) fun i j=> .int (i % j)) (wOp (zeI zrV fun i j=> .int (i / j)) (zam (zax r) (zab (wVar 0) (zab (wC (.int 3)) waNil))) (wC (.int 3))) (wC (.int 4)))) (wGN 3)) T)
noncomputable def zcJ (r:Nat) (T:WS):WS:=(zay (wAsg (zdn (zeK (zab (zgi (zab (wC (.str "A")) (zab (zgi (zab (wOp oIx (wVar 1) (wC (.int 0))) (zab (wC (.int 0)) waNil))) (zab (zgi (zab (wOp oIx (wVar 1) (wC (.int 4))) (zab (wC (.int 0)) (zab (wC (.int 0)) waNil)))) waNil)))) waNil))) (wGN 2)) T)
noncomputable def zcA (r:Nat) (T:WS):WS:=(zay (wAsg (zam (zbC r) (zab (zam (zax r) (zab (wVar 0) (zab (wC (.int 0)) waNil))) (zab (zam (zax r) (zab (wVar 0) (zab (wC (.int 1)) waNil))) (zab (wC (.bl false)) waNil)))) (wGN 1)) T)
noncomputable def zcu:Nat→WSp
 |0=>zba
 |r+1=>zcx 14 1 (zcA r (zcJ r (zcK r (zcI r (zcD r (zcH r (zcL r (zcz r (zcF r (zcb r (zca r (zce r (zcg r (zcf r (zcd r (zcc r))))))))))))))))
theorem zjK{r:Nat}{t:Tr}{S:Sto}{Q:WK}{E:Str→Sto→Prop}(h:Q (.tup (zaA t.kids)) S):zct (r+1) [enc t] S Q E:=by
 rw [zct];cases t with
 |bl n=>
  simp only[enc];walk_at "wp";exact⟨Nat.zero_le _,S, .refl,h⟩
 |nd s ts=>
  simp only[enc];walk_at "wp";exact⟨S, .refl,h⟩
noncomputable def Tr.at:Tr→List Int→Option Tr
 |t,[]=>some t
 | .bl _,_::_=>none
 | .nd _ ts,i::p=>if i<0 then none else match ts[i.toNat]? with
  |some u=>u.at p
  |none=>none
noncomputable def Low (c:Nat):Prop:=97≤c∧c≤122
noncomputable def zbj (x:Str):Prop:=1≤x.cps.toList.length∧x.cps.toList.length≤8∧ ∀c∈x.cps.toList,Low c
noncomputable def zbd (x:Str):Prop:=∃c r,x.cps.toList=c::r∧65≤c∧c≤90∧r.length≤7∧ ∀d∈r,Low d
theorem zrn:(Str.ofString "abcdefghijklmnopqrstuvwxyz").cps.toList=List.range' 97 26:=by decide +kernel
theorem zsZ:(Str.ofString "abcdefghijklmnopqrstuvwxyz").length=26:=by decide +kernel
theorem zhF:∀cs:List Nat,(Str.join (Str.ofString "") (cs.map fun c=>(⟨#[c]⟩:Str))).cps.toList=cs
 | []=>rfl
 | [c]=>rfl
 |c::d::r=>by
  have ih:=zhF (d::r);show((⟨#[c]⟩:Str)++Str.ofString "" ++Str.join (Str.ofString "") ((d::r).map fun c=>(⟨#[c]⟩:Str))).cps.toList=_;show(#[c]++(Str.ofString "").cps++(Str.join (Str.ofString "") ((d::r).map fun c=>(⟨#[c]⟩:Str))).cps).toList=_;rw [Array.toList_append,Array.toList_append,ih];rfl
theorem zpa (cs:List Nat):((cs.map fun c=>(⟨#[c]⟩:Str)).map (·.length)).sum=cs.length:=by
 induction cs with
 |nil=>rfl
 |cons c r ih=>
  rw [List.map_cons,List.map_cons,List.sum_cons,ih,List.length_cons];show 1+r.length=r.length+1;omega
theorem zfK:∀cs:List Nat,zeH (cs.map fun c=>W.str ⟨#[c]⟩)=some (cs.map fun c=>(⟨#[c]⟩:Str))
 | []=>rfl
 |c::cs=>by rw [List.map_cons,zeH,zfK cs];rfl
theorem zlM (cs:List Nat) (h:cs.length≤1000):(List.map (fun x=>x.length) (cs.map fun c=>(⟨#[c]⟩:Str))).sum+(cs.map fun c=>(⟨#[c]⟩:Str)).length*(Str.ofString "").length≤16777216:=by
 have e:=zpa cs;have z:(Str.ofString "").length=0:=by decide +kernel
 rw [e,z];omega
theorem zkq{lo:Int}{n:Nat}:(zmm lo n).length=n:=by simp [zmm]
theorem zdD (ts us:List Tr):zaA (ts++us)=zaA ts++zaA us:=by rw [zaZ,zaZ,zaZ,List.map_append]
mutual
noncomputable def Tr.plt (p:List Int):Tr→List (List Int×Tr)
 | .bl n=>[(p, .bl n)]
 | .nd s ts=>(p, .nd s ts)::zhv p 0 ts
noncomputable def zhv (p:List Int) (i:Nat):List Tr→List (List Int×Tr)
 | []=>[]
 |t::ts=>t.plt (p++[(i:Int)])++zhv p (i+1) ts
end
mutual
theorem znT:∀(t:Tr) (p:List Int),(t.plt p).length=t.weight
 | .bl _,p=>by simp [Tr.plt,Tr.weight]
 | .nd _ ts,p=>by simp [Tr.plt,Tr.weight,zku ts p 0];omega
theorem zku:∀(ts:List Tr) (p:List Int) (i:Nat),(zhv p i ts).length=wts ts
 | [],p,i=>by simp [zhv,wts]
 |t::ts,p,i=>by simp [zhv,wts,znT t,zku ts p (i+1)]
end
theorem zrx{s:Str}{ts:List Tr}{i:Nat}{q:List Int}{u:Tr}(h:ts[i]? =some u):(Tr.nd s ts).at ((i:Int)::q)=u.at q:=by
 rw [Tr.at,if_neg (by omega)];simp [h]
mutual
theorem zqq:∀(t:Tr) (p q:List Int) (u:Tr),(q,u)∈t.plt p→ ∃r,q=p++r∧t.at r=some u∧r.length<t.depth
 | .bl n,p,q,u,h=>by
  simp only[Tr.plt,List.mem_singleton,Prod.mk.injEq]at h;obtain⟨rfl,rfl⟩:=h;exact⟨[],by simp,by simp [Tr.at],by simp [Tr.depth]⟩
 | .nd s ts,p,q,u,h=>by
  simp only[Tr.plt,List.mem_cons,Prod.mk.injEq]at h;rcases h with⟨rfl,rfl⟩ |h
  ·exact⟨[],by simp,by simp [Tr.at],by simp [Tr.depth];omega⟩
  ·obtain⟨j,v,r,h1,h2,h3,h4⟩:=znA ts p 0 q u h;refine⟨(j:Int)::r,by rw [h2];simp,by rw [zrx h1];exact h3,by simp [Tr.depth];omega⟩
theorem znA:∀(ts:List Tr) (p:List Int) (i:Nat) (q:List Int) (u:Tr),(q,u)∈zhv p i ts→ ∃(j:Nat) (v:Tr) (r:List Int),ts[j]? =some v∧q=p++[((i+j:Nat):Int)]++r∧v.at r=some u∧r.length<dts ts
 | [],p,i,q,u,h=>by simp [zhv]at h
 |t::ts,p,i,q,u,h=>by
  simp only[zhv,List.mem_append]at h;rcases h with h |h
  ·obtain⟨r,h1,h2,h3⟩:=zqq t _ q u h;exact⟨0,t,r,rfl,by simpa using h1,h2,by simp [dts];omega⟩
  ·obtain⟨j,v,r,h1,h2,h3,h4⟩:=znA ts p (i+1) q u h;refine⟨j+1,v,r,by simpa using h1,?_,h3,by simp [dts];omega⟩
   rw [h2,show i+1+j=i+(j+1) by omega]
end
theorem keep{S:Sto}{a p:Addr}{o x:Ob}(f:S a=some o) (h:S p=none):put S p x a=some o:=by rw [zaE (zpG f h)];exact f
theorem zfL{u:Tr}:∀{ts:List Tr},u∈ts→u.depth≤dts ts
 |t::ts,h=>by
  rcases List.mem_cons.mp h with rfl |h
  ·simp [dts];omega
  ·have:=zfL h;simp [dts];omega
theorem zaO{α:Type}{g:WG}{e:WE}{E:WX}{G:Sto→Prop}{Q:List W→Sto→Prop}{S:Sto}(I:WSt→Prop) (k f:α→W) (hG:G S):∀(xs:List α) (acc:List W) (σ:WSt),I σ→acc.length+xs.length≤1000000→
  (∀x∈xs,∀σ (R:WSt→W→Sto→Prop),I σ→(∀σ1 S3,I σ1→Sub S S3→R σ1 (f x) S3)→g (k x) σ S fun σ1 S1=>e E σ1 S1 fun y S3=>R σ1 y S3)→
  Q (acc++xs.map f) S→zgb g ziO e E G Q (xs.map k) acc σ S
 | [],acc,σ,hI,hl,step,hQ=>by simpa [zgb]using hQ
 |x::xs,acc,σ,hI,hl,step,hQ=>by
  simp only[List.map_cons,zgb,ziO,if_true];simp only[List.length_cons]at hl;refine step x List.mem_cons_self σ _ hI fun σ1 S3 hI1 sb=>⟨zdE (by omega),S,sb,hG,zaO I k f hG xs (acc++[f x]) σ1 hI1 (by simp;omega) (fun y hy=>step y (List.mem_cons_of_mem _ hy)) ?_⟩;simpa using hQ
noncomputable def Tr.isBl:Tr→Bool
 | .bl _=>true
 | .nd _ _=>false
noncomputable def Tr.bls (t:Tr):List (List Int×Tr):=(t.plt []).filter fun x=>x.2.isBl
theorem zrH (t:Tr):t.bls.length≤t.weight:=by
 unfold Tr.bls;exact Nat.le_trans (List.length_filter_le ..) (by rw [znT];exact Nat.le_refl _)
mutual
noncomputable def Tr.fill (us:List Tr):Tr→Tr
 | .bl n=>us.getD n.toNat (.bl n)
 | .nd s ts=> .nd s (fills us ts)
noncomputable def fills (us:List Tr):List Tr→List Tr
 | []=>[]
 |t::ts=>t.fill us::fills us ts
end
mutual
noncomputable def Tr.fits (m:Nat):Tr→Prop
 | .bl n=>0≤n∧n<m
 | .nd _ ts=>fitss m ts
noncomputable def fitss (m:Nat):List Tr→Prop
 | []=>True
 |t::ts=>t.fits m∧fitss m ts
end
theorem zhu (us:List Tr):∀ts:List Tr,fills us ts=ts.map (Tr.fill us)
 | []=>by simp [fills]
 |t::ts=>by simp [fills,zhu us ts]
theorem zhw{m:Nat}{t:Tr}:∀{ts:List Tr},fitss m ts→t∈ts→t.fits m
 |u::ts,h,hm=>by
  simp only[fitss]at h;rcases List.mem_cons.mp hm with rfl |hm
  ·exact h.1
  ·exact zhw h.2 hm
theorem zfk{us:List Tr}{a:Addr}:∀(d:Nat) {t:Tr}{r:Nat}{S:Sto}{Q:WK}{E:Str→Sto→Prop},t.depth≤d→d≤r+1→S a=some (.lst (zaA us))→t.fits us.length→t.weight≤90000→Q (enc (t.fill us)) S→zbL (r+1) [enc t, .ref a] S Q E
 |0,t,r,S,Q,E,hd,hr,ha,hf,hw,h=>by have:=zcv t;omega
 |d+1, .bl n,r,S,Q,E,hd,hr,ha,hf,hw,h=>by
  simp only[Tr.fits]at hf;simp only[Tr.fill]at h;rw [zbL];simp only[enc];walk_at "wp";have e:atI (zaA us) n=some (enc (us.getD n.toNat (.bl n))):=by
   have q:=zdN (xs:=zaA us) (n:=n.toNat);rw [Int.toNat_of_nonneg hf.1]at q;rw [q,zaZ,List.getElem?_map,List.getD_eq_getElem?_getD,List.getElem?_eq_getElem (by omega)];rfl
  rw [zak ha,e];exact⟨S, .refl,h⟩
 |d+1, .nd s ts,r,S,Q,E,hd,hr,ha,hf,hw,h=>by
  simp only[Tr.fits]at hf;simp only[Tr.fill]at h;simp only[Tr.depth]at hd;simp only[Tr.weight]at hw;have hk:=zcl ts;rw [zbL];simp only[enc]at h⊢;walk_at "wp";refine⟨zag (by decide),?_⟩;rw [zaZ];refine zaO (fun σ=>∃x,σ=[x,some (.ref a)]) enc (fun t=>enc (t.fill us)) trivial ts [] _ ⟨none,rfl⟩ (by simp;omega) (fun x hx σ R hI hR=>?_) ?_
  ·obtain⟨y,rfl⟩:=hI;have hdx:=zfL hx;have hwx:=zdd hx;have:=zcv x;obtain⟨r,rfl⟩:∃r',r=r'+1:=⟨r - 1,by omega⟩
   simp only[zgA];walk_at "wp";exact zfk d (t:=x) (r:=r) (by omega) (by omega) ha (zhw hf hx) (by omega) (hR _ _ ⟨_,rfl⟩ .refl)
  ·rw [List.nil_append];refine⟨zag (by simp;omega),S, .refl,?_⟩;have e:zaA (fills us ts)=ts.map fun t=>enc (t.fill us):=by rw [zaZ,zhu,List.map_map];rfl
   rw [e]at h;exact h
theorem zqx (t:Tr):t.at []=some t:=by cases t<;>rfl
theorem zvs{s:Str}{ts:List Tr}{i:Int}{p:List Int}{u:Tr}(h:(Tr.nd s ts).at (i::p)=some u):∃v,0≤i∧ts[i.toNat]? =some v∧v.at p=some u:=by
 unfold Tr.at at h;split at h
 ·cases h
 ·split at h
  ·exact⟨_,by omega, ‹_›,h⟩
  ·cases h
mutual
noncomputable def Tr.same:Tr→Tr→Bool
 | .bl n, .bl m=>n == m
 | .nd s ts, .nd z us=>s == z&&zeM ts us
 |_,_=>false
noncomputable def zeM:List Tr→List Tr→Bool
 | [],[]=>true
 |t::ts,u::us=>t.same u&&zeM ts us
 |_,_=>false
end
mutual
theorem zfa:∀(t u:Tr),t.same u=true↔t=u
 | .bl n, .bl m=>by simp [Tr.same]
 | .nd s ts, .nd z us=>by simp [Tr.same,ziE ts us]
 | .bl n, .nd z us=>by simp [Tr.same]
 | .nd s ts, .bl m=>by simp [Tr.same]
theorem ziE:∀(ts us:List Tr),zeM ts us=true↔ts=us
 | [],[]=>by simp [zeM]
 |t::ts,u::us=>by simp [zeM,zfa t u,ziE ts us]
 | [],u::us=>by simp [zeM]
 |t::ts,[]=>by simp [zeM]
end
theorem zfO (t:Tr):t.same t=true:=(zfa t t).mpr rfl
theorem ztG{S:Sto}{n:Nat}{xs ys:List W}:eqF S (n+1) (.tup xs) (.tup ys)=zek (eqF S n) xs ys:=Eq.trans (b:=zek (eqF S n) xs ys) rfl rfl
theorem zuo{S:Sto}{n:Nat}{x y:Str}:eqF S (n+1) (.str x) (.str y)=some (x == y):=Eq.trans (b:=some (x == y)) rfl rfl
theorem zqv{S:Sto}{n:Nat}{x y:Int}:eqF S (n+1) (.int x) (.int y)=some (x == y):=Eq.trans (b:=some (x == y)) rfl rfl
theorem ztv{S:Sto}{n:Nat}{x:Int}{ys:List W}:eqF S (n+1) (.int x) (.tup ys)=some false:=Eq.trans (b:=some false) rfl rfl
theorem zuw{S:Sto}{n:Nat}{x:Int}{ys:List W}:eqF S (n+1) (.tup ys) (.int x)=some false:=Eq.trans (b:=some false) rfl rfl
mutual
theorem zoz{S:Sto}:∀(n:Nat) (t u:Tr),t.depth<n→eqF S n (enc t) (enc u)=some (t.same u)
 |0,t,u,h=>by omega
 |n+1, .bl k, .bl m,h=>by simp only[enc,zqv,Tr.same]
 |n+1, .nd s ts, .nd z us,h=>by
  simp only[Tr.depth]at h;obtain⟨n,rfl⟩:∃m,n=m+1:=⟨n - 1,by omega⟩
  simp only[enc,ztG,zek,zuo,Tr.same];rw [zqA (n+1) ts us (by omega)]
 |n+1, .bl k, .nd z us,h=>by simp only[enc,ztv,Tr.same]
 |n+1, .nd s ts, .bl m,h=>by simp only[enc,zuw,Tr.same]
theorem zqA{S:Sto}:∀(n:Nat) (ts us:List Tr),dts ts<n→zek (eqF S n) (zaA ts) (zaA us)=some (zeM ts us)
 |n,[],[],h=>by simp only[zaA,zek,zeM]
 |n,[],u::us,h=>by simp only[zaA,zek,zeM]
 |n,t::ts,[],h=>by simp only[zaA,zek,zeM]
 |n,t::ts,u::us,h=>by
  simp only[dts]at h;simp only[zaA,zek,zeM,zoz n t u (by omega),zqA n ts us (by omega)]
end
theorem ziB (j:Int) (m:Nat):zmm j (m+1)= .int j::zmm (j+1) m:=by
 unfold zmm;rw [List.range_succ_eq_map,List.map_cons,List.map_map];congr 1
 ·simp
 ·apply List.map_congr_left;intro i _;simp only[Function.comp,W.int.injEq];omega
theorem zmQ{α:Type}{xs:List α}{i:Int}(h0:0≤i) (h1:i<xs.length):∃x,atI xs i=some x∧x∈xs:=by
 have q:=zdN (xs:=xs) (n:=i.toNat);rw [Int.toNat_of_nonneg h0,List.getElem?_eq_getElem (by omega)]at q;exact⟨_,q,List.getElem_mem ..⟩
theorem zni{g:WG}{b:WS}{E:WX}{D:WEnds}(I:Nat→WSt→Sto→Prop) (n:Nat)
  (step:∀i,i<n→ ∀σ S (N:WSt→Sto→Prop),I i σ S→(∀σ' S' S'',Sub S'' S'→I (i+1) σ' S''→N σ' S')→g (.int i) σ S fun σ1 S1=>b E { D with nx:=N,ct:=N,bk:=D.nx } σ1 S1)
  (done:∀σ S,I n σ S→D.nx σ S) {σ:WSt}{S:Sto}(h:I 0 σ S):zdA g b E D (fun _=>True) (zmm 0 n) σ S:=by
 refine znk (fun ws σ S=>∃i,i≤n∧ws=zmm (i:Int) (n - i)∧I i σ S) ?_ ?_ _ _ _ ⟨0,Nat.zero_le _,rfl,h⟩
 ·rintro w ws σ S N ⟨i,hi,e,hI⟩ hN;obtain⟨m,hm⟩:∃m,n - i=m+1:=by
   rcases Nat.eq_zero_or_pos (n - i) with z |z
   ·rw [z]at e;cases e
   ·exact⟨n - i - 1,by omega⟩
  rw [hm,ziB]at e;cases e;exact step i (by omega) σ S N hI fun σ' S' S'' sb h'=>hN σ' S' S'' sb trivial ⟨i+1,by omega,by rw [show n - (i+1)=m by omega];push_cast;rfl,h'⟩
 ·rintro σ S ⟨i,hi,e,hI⟩;have:n - i=0:=by
   rcases Nat.eq_zero_or_pos (n - i) with z |z
   ·exact z
   ·obtain⟨m,hm⟩:∃m,n - i=m+1:=⟨n - i - 1,by omega⟩
    rw [hm,ziB]at e;cases e
  rw [show i=n by omega]at hI
  exact done σ S hI
theorem zqo{k:Nat}:∀{ts:List Tr},(∀t∈ts,t.depth≤k)→dts ts≤k
 | [],_=>by simp [dts]
 |t::ts,h=>by
  have:=h t List.mem_cons_self;have:=zqo (ts:=ts) fun u hu=>h u (List.mem_cons_of_mem _ hu);simp only[dts];omega
theorem zbK{g:WG}{b:WS}{E:WX}{D:WEnds}{G:Sto→Prop}{w:W}{ws:List W}{σ:WSt}{S:Sto}(h:∀N:WSt→Sto→Prop,(∀σ S S',Sub S' S→G S'→zdA g b E D G ws σ S'→N σ S)→g w σ S fun σ1 S1=>b E { D with nx:=N,ct:=N,bk:=D.nx } σ1 S1):zdA g b E D G (w::ws) σ S:=h _ fun σ S S' a c d=>⟨S',a,c,d⟩
mutual
noncomputable def Tr.mt:Tr→Tr→Option (List Tr)
 | .bl _,t=>some [t]
 | .nd s ls, .nd z us=>if s == z&&ls.length == us.length then mts ls us else none
 | .nd _ _, .bl _=>none
noncomputable def mts:List Tr→List Tr→Option (List Tr)
 | [],_=>some []
 |_::_,[]=>some []
 |l::ls,u::us=>match l.mt u with
  |none=>none
  |some xs=>match mts ls us with
   |none=>none
   |some ys=>some (xs++ys)
end
theorem zva{s z:Str}{ls us:List Tr}{r:Nat}{S:Sto}{Q:WK}{E:Str→Sto→Prop}(h:Q (.bl (s == z&&ls.length == us.length)) S):zbc (r+1) [enc (.nd s ls),enc (.nd z us)] S Q E:=by
 rw [zbc];simp only[enc];walk_at "wp";cases e:s == z with
 |false=>
  rw [e]at h;exact⟨_, .refl,h⟩
 |true=>
  rw [e]at h;walk_at "wp";refine⟨_, .refl,?_⟩;have:(((zaA ls).length+1:Nat):Int)=((zaA us).length+1:Nat)↔ls.length=us.length:=by rw [zbo,zbo];omega
  have e2:((((zaA ls).length+1:Nat):Int) == ((zaA us).length+1:Nat))=(ls.length == us.length):=by
   rw [Bool.eq_iff_iff,beq_iff_eq,beq_iff_eq];exact this
  rw [e2];simpa using h
mutual
theorem zqt:∀(l t:Tr) (ys:List Tr),l.mt t=some ys→ys.length≤l.weight
 | .bl _,t,ys,h=>by simp only[Tr.mt,Option.some.injEq]at h;subst h;simp [Tr.weight]
 | .nd s ls, .nd z us,ys,h=>by
  simp only[Tr.mt]at h;split at h
  ·have:=znn ls us ys h;simp only[Tr.weight];omega
  ·cases h
 | .nd _ _, .bl _,ys,h=>by simp [Tr.mt]at h
theorem znn:∀(ls us ys:List Tr),mts ls us=some ys→ys.length≤wts ls
 | [],us,ys,h=>by simp only[mts,Option.some.injEq]at h;subst h;simp
 |l::ls,[],ys,h=>by simp only[mts,Option.some.injEq]at h;subst h;simp
 |l::ls,u::us,ys,h=>by
  simp only[mts]at h;split at h
  ·cases h
  ·rename_i xs e1;split at h
   ·cases h
   ·rename_i zs e2;cases h;have:=zqt l u xs e1;have:=znn ls us zs e2;simp only[List.length_append,wts];omega
end
theorem zfs{r:Nat}{a:Addr}{E:WX}{D:WEnds}{x0 x1:Option W}:∀(ls us:List Tr)
  (one:∀l∈ls,∀{t:Tr}{S:Sto}{xs:List W}{Q:WK}{E:Str→Sto→Prop},t.fits 0→S a=some (.lst xs)→xs.length+l.weight≤100000→(∀ys,l.mt t=some ys→Q (.bl true) (put S a (.lst (xs++zaA ys))))→(l.mt t=none→ ∀ys,Q (.bl false) (put S a (.lst (xs++ys))))→zas r [enc l,enc t, .ref a] S Q E)
  {S:Sto}{xs:List W}{x3 x4:Option W},fitss 0 us→S a=some (.lst xs)→xs.length+wts ls≤100000→
  (∀ys x3 x4,mts ls us=some ys→D.nx [x0,x1,some (.ref a),x3,x4] (put S a (.lst (xs++zaA ys))))→(mts ls us=none→ ∀ys,D.rt (.bl false) (put S a (.lst (xs++ys))))→
  zdA (wGT (zbJ (wGN 3) (zbJ (wGN 4) zgc))) (zbp r (zas r)) E D (fun _=>True) (zbM (zaA ls) (zaA us)) [x0,x1,some (.ref a),x3,x4] S
 | [],us,one,S,xs,x3,x4,hf,ha,hl,h1,h0=>by
  have q:=h1 [] x3 x4 (by simp [mts]);simp only[zaA,List.append_nil,zgF ha]at q;simpa [zaA,zbM,zdA]using q
 |l::ls,[],one,S,xs,x3,x4,hf,ha,hl,h1,h0=>by
  have q:=h1 [] x3 x4 (by simp [mts]);simp only[zaA,List.append_nil,zgF ha]at q;simpa [zaA,zbM,zdA]using q
 |l::ls,u::us,one,S,xs,x3,x4,hf,ha,hl,h1,h0=>by
  simp only[fitss]at hf;simp only[wts]at hl;simp only[zaA,zbM];refine zbK fun N hN=>?_;simp only[zbp];walk_at "wp";refine one l List.mem_cons_self hf.1 ha (by omega) (fun ys e=>?_) fun e ys=>?_
  ·walk_at "wp";have hyl:=zqt l u ys e;refine hN _ _ _ .refl trivial (zfs ls us (fun l' hl'=>one l' (List.mem_cons_of_mem _ hl')) hf.2 zah (by rw [List.length_append,zbo];omega) (fun zs x3 x4 e2=>?_) fun e2 zs=>?_)
   ·rw [zbT,List.append_assoc,←zdD];exact h1 _ _ _ (by simp only[mts,e,e2])
   ·rw [zbT,List.append_assoc];exact h0 (by simp only[mts,e,e2]) _
  ·walk_at "wp";exact h0 (by simp only[mts,e]) ys
theorem zjX{a:Addr}:∀(d:Nat) {l t:Tr}{r:Nat}{S:Sto}{xs:List W}{Q:WK}{E:Str→Sto→Prop},l.depth≤d→d≤r→t.fits 0→S a=some (.lst xs)→xs.length+l.weight≤100000→
  (∀ys,l.mt t=some ys→Q (.bl true) (put S a (.lst (xs++zaA ys))))→(l.mt t=none→ ∀ys,Q (.bl false) (put S a (.lst (xs++ys))))→zas (r+1) [enc l,enc t, .ref a] S Q E
 |0,l,t,r,S,xs,Q,E,hd,hr,hf,ha,hl,h1,h0=>by have:=zcv l;omega
 |d+1, .bl n,t,r,S,xs,Q,E,hd,hr,hf,ha,hl,h1,h0=>by
  have hw:=zey (.bl n);rw [zas];simp only[enc];walk_at "wp";simp only[zak ha,true_and];refine⟨zdE (by omega),_, .refl,?_⟩;have:=h1 [t] (by simp [Tr.mt]);simpa only[zaA]using this
 |d+1, .nd s ls, .bl n,r,S,xs,Q,E,hd,hr,hf,ha,hl,h1,h0=>by
  simp only[Tr.fits]at hf;omega
 |d+1, .nd s ls, .nd z us,r,S,xs,Q,E,hd,hr,hf,ha,hl,h1,h0=>by
  simp only[Tr.fits]at hf;simp only[Tr.depth]at hd;simp only[Tr.weight]at hl;obtain⟨r,rfl⟩:∃r',r=r'+1:=⟨r - 1,by omega⟩
  have en:∀s ts,enc (.nd s ts)= .tup (.str s::zaA ts):=fun s ts=>by simp [enc]
  rw [zas];walk_at "wp";rw [en,en];walk_at "wp";rw [←en,←en];refine zva ?_;rw [en,en];walk_at "wp";simp only[Tr.mt]at h1 h0;cases e:(s == z&&ls.length == us.length) with
  |false=>
   rw [e]at h0;have:=h0 (by simp) [];rw [List.append_nil,zgF ha]at this;exact⟨_, .refl,this⟩
  |true=>
   rw [e]at h0 h1;simp only[if_true]at h0 h1;walk_at "wp";refine zfs ls us (fun l hl' {t S xs Q E} f1 f2 f3 f4 f5=>zjX d (by have:=zfL hl';omega) (by omega) f1 f2 f3 f4 f5) hf ha (by omega) (fun ys x3 x4 e=>?_) fun e ys=>?_
   ·walk_at "wp";exact⟨_, .refl,h1 ys e⟩
   ·exact⟨_, .refl,h0 e ys⟩
theorem zgE{l t:Tr}{r:Nat}{S:Sto}{Q:WK}{E:Str→Sto→Prop}(hr:l.depth<r) (hf:t.fits 0) (hw:l.weight≤90000) (h1:∀ys,l.mt t=some ys→ ∀a,S a=none→Q (.ref a) (put S a (.lst (zaA ys)))) (h0:l.mt t=none→Q .non S):zbD (r+1) [enc l,enc t] S Q E:=by
 obtain⟨r,rfl⟩:∃r',r=r'+1:=⟨r - 1,by omega⟩
 rw [zbD];walk_at "wp";refine⟨Nat.zero_le _,fun a ha=>zjX l.depth (Nat.le_refl _) (by omega) hf zah (by simpa using(by omega:l.weight≤100000)) (fun ys e=>?_) fun e ys=>?_⟩
 ·walk_at "wp";exact⟨_, .refl,h1 ys e a ha⟩
 ·walk_at "wp";exact⟨_, .put .refl ha,h0 e⟩
mutual
theorem zhL:∀(l t:Tr) (ys:List Tr),l.mt t=some ys→wts ys≤t.weight
 | .bl _,t,ys,h=>by simp only[Tr.mt,Option.some.injEq]at h;subst h;simp [wts]
 | .nd s ls, .nd z us,ys,h=>by
  simp only[Tr.mt]at h;split at h
  ·have:=zgu ls us ys h;simp only[Tr.weight];omega
  ·cases h
 | .nd _ _, .bl _,ys,h=>by simp [Tr.mt]at h
theorem zgu:∀(ls us ys:List Tr),mts ls us=some ys→wts ys≤wts us
 | [],us,ys,h=>by simp only[mts,Option.some.injEq]at h;subst h;simp [wts]
 |l::ls,[],ys,h=>by simp only[mts,Option.some.injEq]at h;subst h;simp [wts]
 |l::ls,u::us,ys,h=>by
  simp only[mts]at h;split at h
  ·cases h
  ·rename_i xs e1;split at h
   ·cases h
   ·rename_i zs e2;cases h;have:=zhL l u xs e1;have:=zgu ls us zs e2;simp only[zdk,wts];omega
end
noncomputable def zgv (c:Nat):Bool:=decide (97≤c)&&decide (c≤122)
noncomputable def small (xs:List Nat):Bool:=xs.all zgv
theorem zqL{s:Str}{a:Nat}(hs:s.cps.toList=[a]) (c:Nat):(!decide ((⟨#[c]⟩:Str).cps.toList<s.cps.toList))=decide (a≤c):=by
 rw [hs];show(!decide (([c]:List Nat)< [a]))=_;by_cases h:a≤c
 ·rw [decide_eq_true h,decide_eq_false (fun z=>by have:=(zjY c a).mp z;omega)];rfl
 ·rw [decide_eq_false h,decide_eq_true ((zjY c a).mpr (by omega))];rfl
theorem zrd{s:Str}{a:Nat}(hs:s.cps.toList=[a]) (c:Nat):(!decide (s.cps.toList<(⟨#[c]⟩:Str).cps.toList))=decide (c≤a):=by
 rw [hs];show(!decide (([a]:List Nat)< [c]))=_;by_cases h:c≤a
 ·rw [decide_eq_true h,decide_eq_false (fun z=>by have:=(zjY a c).mp z;omega)];rfl
 ·rw [decide_eq_false h,decide_eq_true ((zjY a c).mpr (by omega))];rfl
theorem zsW:(Str.ofString "a").cps.toList=[97]:=by decide +kernel
theorem zuJ:(Str.ofString "z").cps.toList=[122]:=by decide +kernel
theorem zkB (x:Str):(Txt.slice x (some 1) none).cps.toList=x.cps.toList.drop 1:=by
 rw [zmP];unfold zvc;rw [HT.sIx_none];have ez:HT.sIx x.cps.toList.length 0 (some 1)=min 1 x.cps.toList.length:=HT.sIx_nat x.cps.toList.length 0 1;rw [ez];by_cases h:1≤x.cps.toList.length
 ·rw [Nat.min_eq_left h,List.take_of_length_le (by rw [List.length_drop];exact Nat.le_refl _)]
 ·have:x.cps.toList=[]:=List.eq_nil_of_length_eq_zero (by omega);rw [this];rfl
theorem zdF (x:Str):x.length=x.cps.toList.length:=by simp [Str.length]
theorem zhx (bs:List Bool):zfX (bs.map W.bl)=some bs:=by
 induction bs with
 |nil=>rfl
 |cons b bs ih=>rw [List.map_cons,zfX,ih];rfl
theorem zhN{α:Type}(xs:List α) (f:α→Bool):((xs.map f).all _root_.id)=xs.all f:=by rw [List.all_map];rfl
theorem zlH{x:Str}{r:Nat}{S:Sto}{Q:WK}{E:Str→Sto→Prop}(hx:x.length≤1000) (h:Q (.bl (small x.cps.toList)) S):zaB (r+1) [.str x] S Q E:=by
 rw [zdF]at hx;rw [zaB];walk_at "wp";unfold ziy;refine zaO (fun σ=>∃x,σ=[x]) (fun c=> .str ⟨#[c]⟩) (fun c=> .bl (zgv c)) ?_ x.cps.toList [] _ ⟨none,rfl⟩ (by rw [List.length_nil];omega) (fun c hc σ R hI hR=>?_) ?_
 ·exact trivial
 ·obtain⟨y,rfl⟩:=hI;simp only[zbF];walk_at "wp";rw [zqL zsW,zrd zuJ];unfold zgv at hR;cases e:decide (97≤c) with
  |false=>rw [e]at hR;exact hR _ _ ⟨_,rfl⟩ .refl
  |true=>rw [e]at hR;exact hR _ _ ⟨_,rfl⟩ .refl
 ·have e:x.cps.toList.map (fun c=>W.bl (zgv c))=(x.cps.toList.map zgv).map W.bl:=by rw [List.map_map];rfl
  rw [List.nil_append,e,zhx];dsimp only;rw [zhN];exact⟨_, .refl,h⟩
theorem zmH{S:Sto}{x:Int}:∀xs:List Int,inF S (.int x) (xs.map W.int)=some (xs.contains x)
 | []=>rfl
 |y::ys=>by
  simp only[List.map_cons,inF,zqv,zmH ys,List.contains_cons];rw [show(y == x)=(x == y) from by rw [Bool.eq_iff_iff,beq_iff_eq,beq_iff_eq];exact eq_comm]
mutual
theorem zqd:∀(t:Tr) (p q:List Int) (u:Tr),t.at q=some u→(p++q,u)∈t.plt p
 | .bl n,p,[],u,h=>by rw [zqx]at h;cases h;simp [Tr.plt]
 | .bl n,p,i::q,u,h=>by cases h
 | .nd s ts,p,[],u,h=>by rw [zqx]at h;cases h;simp [Tr.plt]
 | .nd s ts,p,i::q,u,h=>by
  obtain⟨v,h0,e1,e2⟩:=zvs h;simp only[Tr.plt,List.mem_cons];refine .inr ?_;have:=znU ts p 0 i.toNat q u v e1 e2;rw [Nat.zero_add,Int.toNat_of_nonneg h0]at this;simpa using this
theorem znU:∀(ts:List Tr) (p:List Int) (i j:Nat) (q:List Int) (u v:Tr),ts[j]? =some v→v.at q=some u→(p++((i+j:Nat):Int)::q,u)∈zhv p i ts
 | [],p,i,j,q,u,v,h1,h2=>by simp at h1
 |t::ts,p,i,0,q,u,v,h1,h2=>by
  simp at h1;subst h1;simp only[zhv,List.mem_append];refine .inl ?_;have:=zqd t (p++[(i:Int)]) q u h2;simpa using this
 |t::ts,p,i,j+1,q,u,v,h1,h2=>by
  simp only[zhv,List.mem_append];refine .inr ?_;have:=znU ts p (i+1) j q u v (by simpa using h1) h2;rw [show i+1+j=i+(j+1) by omega]at this
  exact this
end
theorem zsn{t:Tr}{x:List Int×Tr}(h:x∈t.plt []):t.at x.1=some x.2∧x.1.length<t.depth:=by
 obtain⟨q,h3,h4,h5⟩:=zqq t [] x.1 x.2 h;simp at h3;subst h3;exact⟨h4,h5⟩
theorem zkn{α:Type}{g:WG}{b:WS}{E:WX}{D:WEnds}{G:Sto→Prop}{S:Sto}(hG:G S) (I:WSt→Prop) (key:α→W) (f:α→Option W):∀(xs:List α) (σ:WSt),I σ→
  (∀x∈xs,∀σ (N:WSt→Sto→Prop),I σ→(f x=none→ ∀σ' S',I σ'→Sub S S'→N σ' S')→(∀w,f x=some w→ ∀S',Sub S S'→D.rt w S')→g (key x) σ S fun σ1 S1=>b E { D with nx:=N,ct:=N,bk:=D.nx } σ1 S1)→
  (xs.findSome? f=none→ ∀σ,I σ→D.nx σ S)→(∀w,xs.findSome? f=some w→ ∀S',Sub S S'→D.rt w S')→zdA g b E D G (xs.map key) σ S
 | [],σ,hI,step,done,ret=>by
  have:=done rfl σ hI;simpa [zdA]using this
 |x::xs,σ,hI,step,done,ret=>by
  rw [List.map_cons];refine zbK fun N hN=>?_;refine step x List.mem_cons_self σ N hI (fun e σ' S' hI' sb=>?_) fun w e S' sb=>ret w (by rw [List.findSome?_cons,e]) S' sb;refine hN _ _ S sb hG (zkn hG I key f xs σ' hI' (fun y hy=>step y (List.mem_cons_of_mem _ hy)) (fun e2=>done (by rw [List.findSome?_cons,e];exact e2)) fun w e2=>ret w (by rw [List.findSome?_cons,e];exact e2))
noncomputable abbrev Tn:=Str×Tr×Tr
noncomputable def zbW (t:Tn):W:= .tup [.str t.1,enc t.2.1,enc t.2.2]
noncomputable def Tn0:Tn:=("", .bl 0, .bl 0)
noncomputable def lf (ts:List Tn) (j:Nat):Tr:=(ts.getD j Tn0).2.1
theorem zgB{r:Nat}{a b:Addr}{ps:List W}{E:WX}{D:WEnds}{x0:Option W}(hba:b≠a):∀(ts:List Tr) {S:Sto}{us:List Tr}{x2:Option W},S a=some (.lst (zaA us))→S b=some (.lst ps)→us.length+wts ts≤200000→
  (∀x2,D.nx [x0,some (.ref a),x2] (put S a (.lst (zaA (us++ts.flatMap Tr.kids)))))→
  zdA (wGN 2) (zaQ (r+1) zba) E D (fun S'=>S' b=some (.lst ps)) (zaA ts) [x0,some (.ref a),x2] S
 | [],S,us,x2,ha,hb,hl,h=>by
  have:=h x2;simp only[List.flatMap_nil,List.append_nil,zgF ha]at this;simpa [zaA,zdA]using this
 |t::ts,S,us,x2,ha,hb,hl,h=>by
  simp only[wts]at hl;have hk:=zcl t.kids;have hw:=zdK t;simp only[zaA];refine zbK fun N hN=>?_;simp only[zaQ];walk_at "wp";simp only[zak ha,true_and];refine zjK ?_;walk_at "wp";rw [zak ha];refine⟨zag (by rw [zbo,zbo];omega),hN _ _ _ .refl (by rw [zaE hba];exact hb) ?_⟩;rw [←zdD];refine zgB hba ts zah (by rw [zaE hba];exact hb) (by rw [List.length_append];omega) fun x2=>?_;rw [zbT];have:=h x2;rw [List.flatMap_cons,←List.append_assoc]at this;exact this
theorem zjk{ts:List Tr}{b:Addr}{r:Nat}{S:Sto}{Q:WK}{E:Str→Sto→Prop}(hb:S b=some (.lst (zaA ts))) (hw:wts ts≤100000) (h:∀a,S a=none→Q (.ref a) (put S a (.lst (zaA (ts.flatMap Tr.kids))))):zaD (r+2) [.ref b] S Q E:=by
 rw [zaD];walk_at "wp";refine⟨Nat.zero_le _,fun a ha=>?_⟩;have hba:=zpG hb ha;rw [zak (keep hb ha)];refine zgB (us:=[]) hba ts (by simp [zah,zaA]) (keep hb ha) (by simpa using(by omega:wts ts≤200000)) fun x2=>?_;rw [zbT];walk_at "wp";exact⟨_, .refl,h a ha⟩
noncomputable def Tr.small (t:Tr):Bool:=decide (t.weight≤400)&&decide (t.depth≤40)
theorem zls{t:Tr}{r:Nat}{S:Sto}{Q:WK}{E:Str→Sto→Prop}(hw:t.weight≤90000) (h:Q (.bl t.small) S):zbz (r+3) [enc t] S Q E:=by
 rw [zbz];walk_at "wp";refine⟨zag (by decide),fun a ha=>?_⟩;refine⟨fun m σ S'=>∃(ts:List Tr) (k d:Nat) (b:Addr),m=wts ts∧k+wts ts=t.weight∧d+dts ts=t.depth∧k≤400∧d≤40∧S b=none∧S'=put S b (.lst (zaA ts))∧σ=[some (enc t),some (.int k),some (.int d),some (.ref b)],⟨_,[t],0,0,a,rfl,by simp [wts],by simp [dts],by decide,by decide,ha,by simp [zaA],rfl⟩,?_⟩
 rintro m σ S' ⟨ts,k,d,b,rfl,hwt,hk,hk4,hd4,hb,rfl,rfl⟩;walk_at "wp";cases ts with
 |nil=>
  simp only[zaA,List.isEmpty_nil];walk_at "wp";simp only[dts,wts,Nat.add_zero]at hk hwt;have e:t.small=true:=by unfold Tr.small;rw [decide_eq_true (by omega),decide_eq_true (by omega)];rfl
  rw [e]at h;exact⟨_, .put .refl hb,h⟩
 |cons u us=>
  have hne:(zaA (u::us)).isEmpty=false:=by simp [zaA]
  rw [hne];have hfl:=zgX (u::us);have hdf:=zhn (ts:=u::us) (by simp);have hlw:=zcl (u::us);simp only[zcQ];walk_at "wp";rw [zbo];have no:400<t.weight∨40<t.depth→ ∃S'',Sub S'' (put S b (Ob.lst (zaA (u::us))))∧Q (W.bl false) S'':=fun z=>by
   have e:t.small=false:=by
    unfold Tr.small;rcases z with z |z
    ·rw [decide_eq_false (by omega)];rfl
    ·rw [decide_eq_false (p:=t.depth≤40) (by omega),Bool.and_false]
   rw [e]at h;exact⟨_, .put .refl hb,h⟩
  split
  ·exact no (.inl (by omega))
  ·split
   ·exact no (.inr (by omega))
   ·refine zjk zah (by omega) fun c hc=>?_;obtain⟨hc1,hc2⟩:=zdY hc;refine⟨wts ((u::us).flatMap Tr.kids),put S c (.lst (zaA ((u::us).flatMap Tr.kids))),by simp only[List.length_cons]at hfl;omega, .put2 (.put .refl hb),_,k+(u::us).length,d+1,c,rfl,by omega,by omega,by omega,by omega,hc1,rfl,?_⟩
    push_cast
    rfl
theorem zdf{ns:List Int}{k:Int}{r:Nat}{S:Sto}{Q:WK}{E:Str→Sto→Prop}(h0:0≤k) (h:∀n:Int,Q (.int n) S):zax (r+1) [.scr ns, .int k] S Q E:=by
 rw [zax];walk_at "wp";split
 ·obtain⟨x,e,_⟩:=zmQ (xs:=ns) (i:=k) h0 (by omega);rw [e];exact⟨S, .refl,h _⟩
 ·exact⟨S, .refl,h _⟩
noncomputable def lt (rs:List Int) (pos:Int) (k j:Nat):Nat:=97+((rs.getD j 0+(k:Int)*(if(0+(j:Int) == pos)=true then 1 else 0)) % 26).toNat
noncomputable def zea (rs:List Int) (pos:Int) (k:Nat):List Nat:=(List.range rs.length).map (lt rs pos k)
noncomputable def wd0 (rs:List Int) (pos:Int) (k:Nat):Str:=Str.join (Str.ofString "") ((zea rs pos k).map fun c=>(⟨#[c]⟩:Str))
noncomputable def wd1 (rs:List Int) (pos:Int) (k:Nat):Str:=Txt.upper ⟨#[lt rs pos k 0]⟩++Txt.slice (wd0 rs pos k) (some 1) none
noncomputable def wd (great:Bool) (rs:List Int) (pos:Int) (k:Nat):Str:=if great then wd1 rs pos k else wd0 rs pos k
theorem ziI (rs:List Int) (pos:Int) (k j:Nat):Low (lt rs pos k j):=by
 have h0:=Int.emod_nonneg (rs.getD j 0+(k:Int)*(if(0+(j:Int) == pos)=true then 1 else 0)) (show(26:Int)≠0 by decide)
 have h1:=Int.emod_lt_of_pos (rs.getD j 0+(k:Int)*(if(0+(j:Int) == pos)=true then 1 else 0)) (show(0:Int)<26 by decide)
 unfold lt Low;omega
theorem ztm{n:Int}(h0:0≤n) (h1:n<26):atI (Str.ofString "abcdefghijklmnopqrstuvwxyz").cps.toList n=some (97+n.toNat):=by
 have e:=zdN (xs:=(Str.ofString "abcdefghijklmnopqrstuvwxyz").cps.toList) (n:=n.toNat);rw [Int.toNat_of_nonneg h0]at e;rw [e,zrn,List.getElem?_range' (by omega)];simp
theorem zeP (rs:List Int) (pos:Int) (k:Nat):(wd0 rs pos k).cps.toList=zea rs pos k:=zhF _
theorem zin (rs:List Int) (pos:Int) (k:Nat):(zea rs pos k).length=rs.length:=by simp [zea]
theorem zmb{rs:List Int}{pos:Int}{k c:Nat}(h:c∈zea rs pos k):Low c:=by
 obtain⟨j,_,rfl⟩:=List.mem_map.mp h;exact ziI rs pos k j
theorem zli{rs:List Int}(pos:Int) (k:Nat) (h:1≤rs.length):zea rs pos k=lt rs pos k 0::(zea rs pos k).drop 1:=by
 unfold zea;obtain⟨n,hn⟩:∃n,rs.length=n+1:=⟨rs.length - 1,by omega⟩
 rw [hn,List.range_succ_eq_map];simp
theorem ziD{c:Nat}(h:Low c):Txt.upper ⟨#[c]⟩=⟨#[c - 32]⟩:=by
 unfold Low at h;rw [PySem.W.KOpn.upper_one (by omega),if_pos h]
theorem zpA{rs:List Int}(pos:Int) (k:Nat):(wd1 rs pos k).cps.toList=(lt rs pos k 0 - 32)::(zea rs pos k).drop 1:=by
 unfold wd1;rw [ziD (ziI _ _ _ _)];show((#[lt rs pos k 0 - 32]:Array Nat)++(Txt.slice (wd0 rs pos k) (some 1) none).cps).toList=_;rw [Array.toList_append,zkB,zeP];rfl
structure Base (rs:List Int) (pos:Int):Prop where
  l1:1≤rs.length
  l8:rs.length≤8
  p0:0≤pos
  p1:pos<rs.length
theorem zjM{rs:List Int}{pos:Int}(b:Base rs pos) (k:Nat):zbj (wd0 rs pos k):=by
 unfold zbj;rw [zeP,zin];exact⟨b.l1,b.l8,fun c hc=>zmb hc⟩
theorem zvt{rs:List Int}{pos:Int}(b:Base rs pos) {k m:Nat}(hk:k<26) (hm:m<26) (h:k≠m):lt rs pos k pos.toNat≠lt rs pos m pos.toNat:=by
 have p0:=b.p0;have e:(0+((pos.toNat:Nat):Int) == pos)=true:=by rw [beq_iff_eq];omega
 unfold lt;rw [e,if_pos rfl];omega
theorem zwH{great:Bool}{rs:List Int}{pos:Int}(b:Base rs pos) {k m:Nat}(hk:k<26) (hm:m<26) (h:k≠m):wd great rs pos k≠wd great rs pos m:=by
 have hn:=zvt b hk hm h;have p0:=b.p0;have p1:=b.p1;intro e;have e':=congrArg (fun x:Str=>x.cps.toList) e;cases great with
 |false=>
  simp only[wd,Bool.false_eq_true,if_false,zeP]at e';have e2:=congrArg (fun l=>l[pos.toNat]?) e';simp only[zea,List.getElem?_map,List.getElem?_range (show pos.toNat<rs.length by omega),Option.map_some,Option.some.injEq]at e2
  exact hn e2
 |true=>
  simp only[wd,if_true,zpA]at e';have e2:=congrArg (fun l=>l[pos.toNat]?) e';cases hp:pos.toNat with
  |zero=>
   rw [hp]at hn;have h1:=ziI rs pos k 0;have h2:=ziI rs pos m 0;unfold Low at h1 h2;simp only[hp,List.getElem?_cons_zero,Option.some.injEq]at e2;omega
  |succ n=>
   rw [hp]at hn;simp only[hp,List.getElem?_cons_succ,List.getElem?_drop,zea,List.getElem?_map]at e2;rw [show 1+n=n+1 by omega,List.getElem?_range (show n+1<rs.length by omega)]at e2
   simp only[Option.map_some,Option.some.injEq]at e2;exact hn e2
noncomputable def znp (great:Bool) (ws:List Str):Prop:=∃rs pos,Base rs pos∧(ws=(List.range 6).map (wd great rs pos)∨(great=false∧ws=[wd0 rs pos 0,wd0 rs pos 1,wd0 rs pos 2,wd0 rs pos 2,wd0 rs pos 2,wd0 rs pos 5]))
structure Signs (w0 w1 w2 w3 w4 w5:Str):Prop where
  ok:∀x∈ [w0,w1,w2,w3,w4,w5],zbj x
  n0:∀x∈ [w1,w2,w3,w4,w5],w0≠x
  n1:∀x∈ [w2,w3,w4,w5],w1≠x
  n5:∀x∈ [w2,w3,w4],w5≠x
theorem zjr{ws:List Str}(h:znp false ws):∃w0 w1 w2 w3 w4 w5,ws=[w0,w1,w2,w3,w4,w5]∧Signs w0 w1 w2 w3 w4 w5:=by
 obtain⟨rs,pos,b,h⟩:=h;have hs:=fun k=>zjM b k;have hn:∀k m:Nat,k<26→m<26→k≠m→wd0 rs pos k≠wd0 rs pos m:=fun k m h1 h2 h3=>zwH (great:=false) b h1 h2 h3;rcases h with rfl |⟨_,rfl⟩
 ·refine⟨_,_,_,_,_,_,rfl,⟨?_,?_,?_,?_⟩⟩
  ·simp only[List.mem_cons,List.not_mem_nil,or_false,forall_eq_or_imp,forall_eq];exact⟨hs 0,hs 1,hs 2,hs 3,hs 4,hs 5⟩
  ·simp only[List.mem_cons,List.not_mem_nil,or_false,forall_eq_or_imp,forall_eq];exact⟨hn 0 1 (by decide) (by decide) (by decide),hn 0 2 (by decide) (by decide) (by decide),hn 0 3 (by decide) (by decide) (by decide),hn 0 4 (by decide) (by decide) (by decide),hn 0 5 (by decide) (by decide) (by decide)⟩
  ·simp only[List.mem_cons,List.not_mem_nil,or_false,forall_eq_or_imp,forall_eq];exact⟨hn 1 2 (by decide) (by decide) (by decide),hn 1 3 (by decide) (by decide) (by decide),hn 1 4 (by decide) (by decide) (by decide),hn 1 5 (by decide) (by decide) (by decide)⟩
  ·simp only[List.mem_cons,List.not_mem_nil,or_false,forall_eq_or_imp,forall_eq];exact⟨hn 5 2 (by decide) (by decide) (by decide),hn 5 3 (by decide) (by decide) (by decide),hn 5 4 (by decide) (by decide) (by decide)⟩
 ·refine⟨_,_,_,_,_,_,rfl,⟨?_,?_,?_,?_⟩⟩
  ·simp only[List.mem_cons,List.not_mem_nil,or_false,forall_eq_or_imp,forall_eq];exact⟨hs 0,hs 1,hs 2,hs 2,hs 2,hs 5⟩
  ·simp only[List.mem_cons,List.not_mem_nil,or_false,forall_eq_or_imp,forall_eq];exact⟨hn 0 1 (by decide) (by decide) (by decide),hn 0 2 (by decide) (by decide) (by decide),hn 0 2 (by decide) (by decide) (by decide),hn 0 2 (by decide) (by decide) (by decide),hn 0 5 (by decide) (by decide) (by decide)⟩
  ·simp only[List.mem_cons,List.not_mem_nil,or_false,forall_eq_or_imp,forall_eq];exact⟨hn 1 2 (by decide) (by decide) (by decide),hn 1 2 (by decide) (by decide) (by decide),hn 1 2 (by decide) (by decide) (by decide),hn 1 5 (by decide) (by decide) (by decide)⟩
  ·simp only[List.mem_cons,List.not_mem_nil,or_false,forall_eq_or_imp,forall_eq];exact⟨hn 5 2 (by decide) (by decide) (by decide),hn 5 2 (by decide) (by decide) (by decide),hn 5 2 (by decide) (by decide) (by decide)⟩
theorem zib:∀(ws:List W) {rs:List Int}{sp:Int}{a:Addr}{r:Nat}{S:Sto}{E:WX}{D:WEnds}{x0 x1 x2 x3 x6 x7 x8 x9:Option W},S a=some (.lst (rs.map W.int))→rs.length+ws.length≤1000→
  (∀(rs':List Int) sp' x6',rs'.length=rs.length+ws.length→D.nx [x0,x1,x2,x3,some (.int sp'),some (.ref a),x6',x7,x8,x9] (put S a (.lst (rs'.map W.int))))→
  zdA (wGN 6) (zcm r zba) E D (fun _=>True) ws [x0,x1,x2,x3,some (.int sp),some (.ref a),x6,x7,x8,x9] S
 | [],rs,sp,a,r,S,E,D,x0,x1,x2,x3,x6,x7,x8,x9,ha,hl,h=>by
  simp only[zdA];have:=h rs sp x6 (by simp);rw [zgF ha]at this;exact this
 |w::ws,rs,sp,a,r,S,E,D,x0,x1,x2,x3,x6,x7,x8,x9,ha,hl,h=>by
  simp only[zdA,zcm];walk_at "wp";simp only[List.length_cons]at hl h;simp only[zak ha,true_and];refine⟨by decide,zdE (by simp;omega),⟨by decide,by decide⟩,_, .refl,?_⟩
  refine zib (r:=r) ws (rs:=rs++[sp % 26]) (by rw [zah];simp) (by simp;omega) fun rs' sp' x6' h1=>?_;rw [zbT];exact h rs' sp' x6' (by simp at h1;omega)
theorem zoH{one two:Int}{great:Bool}{r:Nat}{S:Sto}{Q:WK}{E:Str→Sto→Prop}(h:∀(a:Addr) (ws:List Str),S a=none→znp great ws→Q (.ref a) (put S a (.lst (ws.map W.str)))):zbC (r+1) [.int one, .int two, .bl great] S Q E:=by
 rw [zbC];walk_at "wp";have o0:0≤one % 8:=Int.emod_nonneg _ (by decide);have o1:one % 8<8:=Int.emod_lt_of_pos _ (by decide);refine⟨⟨by decide,by decide,by decide⟩,by decide,Nat.zero_le _,fun a ha=>⟨by decide,⟨by omega,by omega⟩,?_⟩⟩
 refine zib _ (rs:=[]) zah (by simp [zkq];omega) fun rs sp x6 hl=>?_;rw [zbT];simp only[List.length_nil,zkq,Nat.zero_add]at hl;have hl':(rs.length:Int)=1+one % 8:=by rw [hl];omega
 have p0:0≤one / 8 % (rs.length:Int):=Int.emod_nonneg _ (by omega);have p1:one / 8 % (rs.length:Int)<(rs.length:Int):=Int.emod_lt_of_pos _ (by omega);have B:Base rs (one / 8 % (rs.length:Int)):=⟨by omega,by omega,p0,p1⟩
 walk_at "wp";simp only[List.length_map];refine⟨⟨by decide,by decide⟩,by omega,Nat.zero_le _,fun b hb=>⟨⟨by decide,by decide⟩,?_⟩⟩
 obtain⟨hb1,hb2⟩:=zdY hb;generalize hpos:one / 8 % (rs.length:Int)=pos at B p0 p1⊢;refine zni (fun i σ S'=>∃x6 x9,S'=put (put S a (.lst (rs.map W.int))) b (.lst (((List.range i).map (wd great rs pos)).map W.str))∧σ=[some (.int one),some (.int two),some (.bl great),some (.str (Str.ofString "abcdefghijklmnopqrstuvwxyz")),some (.int sp),some (.ref a),x6,some (.int pos),some (.ref b),x9]) 6 ?_ ?_ ⟨x6,none,rfl,rfl⟩
 ·rintro k hk σ S' N ⟨x6,x9,rfl,rfl⟩ hN;have ea:put (put S a (Ob.lst (rs.map W.int))) b (Ob.lst (((List.range k).map (wd great rs pos)).map W.str)) a=some (.lst (rs.map W.int)):=by rw [zaE (Ne.symm hb2),zah]
  simp only[zdw];walk_at "wp";rw [zak ea];simp only[List.length_map];refine⟨⟨by omega,by omega⟩,?_⟩
  rw [Int.toNat_natCast];refine zaO (fun σ=>∃x,σ=[x,some (.str (Str.ofString "abcdefghijklmnopqrstuvwxyz")),some (.ref a),some (.int (k:Int)),some (.int pos)]) (fun i:Nat=>W.int (0+(i:Int))) (fun i=>W.str ⟨#[lt rs pos k i]⟩) trivial (List.range rs.length) [] _ ⟨none,rfl⟩ (by simp;omega) (fun i hi σ R hI hR=>?_) ?_
  ·obtain⟨x,rfl⟩:=hI;have hi:=List.mem_range.mp hi;simp only[zdo];walk_at "wp";have e:=zdN (xs:=rs.map W.int) (n:=i);rw [show(i:Int)=0+(i:Int) by omega,List.getElem?_map,List.getElem?_eq_getElem hi]at e
   rw [zak ea,e];dsimp only[Option.map];walk_at "wp";have ec:=ztm (n:=(rs[i]+(k:Int)*(if(0+(i:Int) == pos)=true then 1 else 0)) % 26) (Int.emod_nonneg _ (by decide)) (Int.emod_lt_of_pos _ (by decide));rw [ec];have el:lt rs pos k i=97+((rs[i]+(k:Int)*(if(0+(i:Int) == pos)=true then 1 else 0)) % 26).toNat:=by
    unfold lt;rw [List.getD_eq_getElem?_getD,List.getElem?_eq_getElem hi];rfl
   rw [←el];exact⟨.inl ⟨by omega,by omega⟩,by decide,zag (by rw [zsZ];decide),hR _ _ ⟨_,rfl⟩ .refl⟩
  ·have es:(List.range rs.length).map (fun i=>W.str ⟨#[lt rs pos k i]⟩)=(zea rs pos k).map fun c=>W.str ⟨#[c]⟩:=by
    unfold zea;rw [List.map_map];rfl
   have hw:=zjM B k;rw [List.nil_append,es,zfK];refine⟨zlM _ (by rw [zin];omega),?_⟩;show _;have ew:Str.join (Str.ofString "") ((zea rs pos k).map fun c=>(⟨#[c]⟩:Str))=wd0 rs pos k:=rfl;rw [ew];have hl8:(wd0 rs pos k).length≤8:=by rw [zdF];exact hw.2.1
   have fin:∀z:Str,z=wd great rs pos k→ ∀x9:Option W,N [some (.int one),some (.int two),some (.bl great),some (.str (Str.ofString "abcdefghijklmnopqrstuvwxyz")),some (.int sp),some (.ref a),some (.int (k:Int)),some (.int pos),some (.ref b),x9] (put (put S a (.lst (rs.map W.int))) b (.lst (((List.range k).map (wd great rs pos)).map W.str++[.str z]))):=fun z hz x9=>by
    subst hz;refine hN _ _ _ .refl ⟨_,_,?_,rfl⟩;rw [List.range_succ,List.map_append,List.map_append];rfl
   have hxl:(((List.range k).map (wd great rs pos)).map W.str).length<sizeLine:=zdE (by simp;omega);cases great with
   |false=>
    try walk_at "wp"
    try simp only[zhg,zbT,true_and]
    exact⟨hxl,fin _ rfl _⟩
   |true=>
    walk_at "wp";rw [zeP,zli pos k B.l1,zjZ];dsimp only
    try walk_at "wp"
    try simp only[zhg,zbT,true_and]
    refine⟨zag (by omega),?_⟩;have h1:(⟨#[lt rs pos k 0]⟩:Str).length=1:=rfl;have h2:(Txt.upper ⟨#[lt rs pos k 0]⟩).length=1:=by rw [ziD (ziI _ _ _ _)];rfl
    have h3:(Txt.slice (wd0 rs pos k) (some 1) none).length≤8:=by
     rw [zdF,zkB,List.length_drop,←zdF];omega
    exact⟨by omega,zag (by omega),zag (by omega),hxl,fin _ rfl _⟩
 ·rintro σ S' ⟨x6,x9,rfl,rfl⟩;have eb:put (put S a (Ob.lst (rs.map W.int))) b (Ob.lst (((List.range 6).map (wd great rs pos)).map W.str)) b=some (.lst (((List.range 6).map (wd great rs pos)).map W.str)):=zah;walk_at "wp";cases great with
  |true=>
   walk_at "wp";refine⟨⟨by decide,by decide⟩,by decide,?_⟩
   split
   ·exact⟨_, .put2 (.put .refl ha),h b _ hb1 ⟨rs,pos,B, .inl rfl⟩⟩
   ·exact⟨_, .put2 (.put .refl ha),h b _ hb1 ⟨rs,pos,B, .inl rfl⟩⟩
  |false=>
   walk_at "wp";refine⟨⟨by decide,by decide⟩,by decide,?_⟩
   split
   ·have e6:((List.range 6).map (wd false rs pos)).map W.str=[.str (wd0 rs pos 0), .str (wd0 rs pos 1), .str (wd0 rs pos 2), .str (wd0 rs pos 3), .str (wd0 rs pos 4), .str (wd0 rs pos 5)]:=rfl;simp only[e6]
    try walk_at "wp"
    have c3:zeW [W.str (wd0 rs pos 0), .str (wd0 rs pos 1), .str (wd0 rs pos 2), .str (wd0 rs pos 3), .str (wd0 rs pos 4), .str (wd0 rs pos 5)] none (some 3)=[.str (wd0 rs pos 0), .str (wd0 rs pos 1), .str (wd0 rs pos 2)]:=rfl;have a2:atI [W.str (wd0 rs pos 0), .str (wd0 rs pos 1), .str (wd0 rs pos 2), .str (wd0 rs pos 3), .str (wd0 rs pos 4), .str (wd0 rs pos 5)] 2=some (.str (wd0 rs pos 2)):=rfl;have a5:atI [W.str (wd0 rs pos 0), .str (wd0 rs pos 1), .str (wd0 rs pos 2), .str (wd0 rs pos 3), .str (wd0 rs pos 4), .str (wd0 rs pos 5)] 5=some (.str (wd0 rs pos 5)):=rfl;simp only[c3,a2,a5]
    try walk_at "wp"
    refine⟨zag (by decide),zag (by decide),fun c hc=>?_⟩;obtain⟨hc1,hc2⟩:=zdY hc;obtain⟨hc1,hc3⟩:=zdY hc1;exact⟨_, .put2 (.put (.put .refl ha) hb1),h c _ hc1 ⟨rs,pos,B, .inr ⟨rfl,rfl⟩⟩⟩
   ·exact⟨_, .put2 (.put .refl ha),h b _ hb1 ⟨rs,pos,B, .inl rfl⟩⟩
mutual
noncomputable def Tr.nb:Tr→Nat
 | .bl _=>1
 | .nd _ ts=>nbs ts
noncomputable def nbs:List Tr→Nat
 | []=>0
 |t::ts=>t.nb+nbs ts
end
mutual
theorem zqe:∀(t:Tr) (p:List Int),((t.plt p).filter fun x=>x.2.isBl).length=t.nb
 | .bl n,p=>by simp [Tr.plt,Tr.isBl,Tr.nb]
 | .nd s ts,p=>by
  have:=zlI ts p 0;simpa [Tr.plt,Tr.isBl,Tr.nb]using this
theorem zlI:∀(ts:List Tr) (p:List Int) (i:Nat),((zhv p i ts).filter fun x=>x.2.isBl).length=nbs ts
 | [],p,i=>by simp [zhv,nbs]
 |t::ts,p,i=>by
  have h1:=zqe t (p++[(i:Int)]);have h2:=zlI ts p (i+1);rw [zhv,List.filter_append,List.length_append,h1,h2,nbs]
end
theorem zuc (t:Tr):t.bls.length=t.nb:=zqe t []
inductive Item (ws:List Str) (m:Nat):Tr→Prop
 |bl {n:Int}:0≤n→n<m→Item ws m (.bl n)
 |nd {s:Str}:s∈ws→Item ws m (.nd s [])
inductive RightT (ws:List Str) (m:Nat):Tr→Prop
 |one {t:Tr}:Item ws m t→RightT ws m t
 |un {s:Str}{t:Tr}:s∈ws→Item ws m t→RightT ws m (.nd s [t])
 |two {s:Str}{t u:Tr}:s∈ws→0<m→Item ws m t→Item ws m u→RightT ws m (.nd s [t,u])
 |deep {s z:Str}{t u:Tr}:s∈ws→z∈ws→0<m→Item ws m t→Item ws m u→RightT ws m (.nd s [.nd z [t],u])
noncomputable def zcj (n:Nat) (h c d:Str):List Tr:=
 match n with
 |0=>[.nd h [.bl 0]]
 |1=>[.nd h [.bl 0, .bl 1]]
 |2=>[.nd h [.nd c []], .nd h [.nd d [.bl 0]]]
 |3=>[.nd h [.nd c [], .bl 0], .nd h [.nd d [.bl 0], .bl 1]]
 |4=>[.nd h [.nd d [.nd d [.bl 0]], .bl 1, .bl 2], .nd h [.nd d [.nd c []], .bl 0, .bl 1]]
 |_=>[.nd h []]
section
variable {w0 w1 w2 w3 w4 w5:Str}
noncomputable abbrev six (w0 w1 w2 w3 w4 w5:Str):List W:=[.str w0, .str w1, .str w2, .str w3, .str w4, .str w5]
theorem six0:atI (six w0 w1 w2 w3 w4 w5) 0=some (.str w0):=rfl
theorem zwV:atI (six w0 w1 w2 w3 w4 w5) 2=some (.str w2):=rfl
theorem zwS:atI (six w0 w1 w2 w3 w4 w5) 4=some (.str w4):=rfl
theorem zxr:atI (six w0 w1 w2 w3 w4 w5) 5=some (.str w5):=rfl
end
noncomputable def zjs (x:Str):Bool:=decide (1≤x.cps.toList.length)&&(decide (x.cps.toList.length≤8)&&small x.cps.toList)
theorem zmF (xs:List Nat):small xs=true↔ ∀c∈xs,Low c:=by
 unfold small;rw [List.all_eq_true];simp only[zgv,Low,Bool.and_eq_true,decide_eq_true_eq]
theorem ziz (x:Str):zjs x=true↔zbj x:=by
 unfold zjs zbj;rw [Bool.and_eq_true,Bool.and_eq_true,decide_eq_true_eq,decide_eq_true_eq,zmF]
theorem zbP{x y:Str}(h:zbj x) (g:zbd y):x≠y:=by
 rintro rfl;obtain⟨c,r,e,h1,h2,_⟩:=g;have:=h.2.2 c (by rw [e];exact List.mem_cons_self);unfold Low at this;omega
theorem zlW{y:Str}(g:zbd y):1≤y.cps.toList.length∧y.cps.toList.length≤8:=by
 obtain⟨c,r,e,h1,h2,h3,_⟩:=g;rw [e,List.length_cons];omega
mutual
noncomputable def Tr.hd (P:Str→Prop):Tr→Prop
 | .bl _=>False
 | .nd s ts=>P s∧hds P ts
noncomputable def hds (P:Str→Prop):List Tr→Prop
 | []=>True
 |t::ts=>t.hd P∧hds P ts
end
mutual
noncomputable def Tr.hb (P:Str→Prop):Tr→Prop
 | .bl _=>True
 | .nd s ts=>P s∧hbs P ts
noncomputable def hbs (P:Str→Prop):List Tr→Prop
 | []=>True
 |t::ts=>t.hb P∧hbs P ts
end
theorem hds_iff{P:Str→Prop}:∀{ts:List Tr},hds P ts↔ ∀t∈ts,t.hd P
 | []=>by simp [hds]
 |t::ts=>by simp [hds,hds_iff (ts:=ts)]
mutual
theorem zhl{P P':Str→Prop}(h:∀s,P s→P' s):∀(t:Tr),t.hd P→t.hd P'
 | .bl _,q=>by simp [Tr.hd]at q
 | .nd s ts,q=>by
  simp only[Tr.hd]at q⊢;exact⟨h s q.1,zkJ h ts q.2⟩
theorem zkJ{P P':Str→Prop}(h:∀s,P s→P' s):∀(ts:List Tr),hds P ts→hds P' ts
 | [],_=>by simp [hds]
 |t::ts,q=>by
  simp only[hds]at q⊢;exact⟨zhl h t q.1,zkJ h ts q.2⟩
end
mutual
theorem zlK{P P':Str→Prop}(h:∀s,P s→P' s):∀(t:Tr),t.hb P→t.hb P'
 | .bl _,q=>by simp [Tr.hb]
 | .nd s ts,q=>by
  simp only[Tr.hb]at q⊢;exact⟨h s q.1,zjQ h ts q.2⟩
theorem zjQ{P P':Str→Prop}(h:∀s,P s→P' s):∀(ts:List Tr),hbs P ts→hbs P' ts
 | [],_=>by simp [hbs]
 |t::ts,q=>by
  simp only[hbs]at q⊢;exact⟨zlK h t q.1,zjQ h ts q.2⟩
end
mutual
theorem zjt{P:Str→Prop}{us:List Tr}(hu:∀u∈us,u.hd P):∀(t:Tr),t.hb P→t.fits us.length→(t.fill us).hd P
 | .bl n,h,f=>by
  simp only[Tr.fits]at f;simp only[Tr.fill];rw [List.getD_eq_getElem?_getD,List.getElem?_eq_getElem (show n.toNat<us.length by omega)]
  exact hu _ (List.getElem_mem ..)
 | .nd s ts,h,f=>by
  simp only[Tr.fits]at f;simp only[Tr.hb]at h;simp only[Tr.fill,Tr.hd];exact⟨h.1,zjN hu ts h.2 f⟩
theorem zjN{P:Str→Prop}{us:List Tr}(hu:∀u∈us,u.hd P):∀(ts:List Tr),hbs P ts→fitss us.length ts→hds P (fills us ts)
 | [],h,f=>by simp [fills,hds]
 |t::ts,h,f=>by
  simp only[fitss]at f;simp only[hbs]at h;simp only[fills,hds];exact⟨zjt hu t h.1 f.1,zjN hu ts h.2 f.2⟩
end
structure RightW (ws:List Str) (m:Nat) (t:Tr):Prop where
  dp:t.depth≤4
  fits:t.fits m
  hb:∀{P:Str→Prop},(∀x∈ws,P x)→t.hb P
  wt:t.weight≤7
noncomputable def zwM (B:List Tn):Prop:=∀t∈B,∀(us:List Tr) (M:Nat),us.length=t.2.1.nb→1≤M→(∀u∈us,u.weight≤M)→(t.2.2.fill us).weight≤2+2*M∧(t.2.1.nb=0→(t.2.2.fill us).weight≤1+M)
structure BookOk (w0 w1 w2 w3 w4 w5:Str) (tt:List Str) (B:List Tn):Prop where
  lf:∃n m:Nat,B.map (fun t=>t.2.1)=zcj n w0 w2 w3++zcj m w1 w2 w3
  ti:B.map (fun t=>t.1)=tt.take B.length
  ri:∀t∈B,RightW [w0,w1,w2,w3,w4,w5] t.2.1.nb t.2.2
structure LeftT (P:Str→Prop) (L:Tr):Prop where
  hb:L.hb P
  fits:L.fits L.nb
  wt:L.weight≤L.nb+3
  dp:L.depth≤4
  nb:L.nb≤3
  nd:∃s ts,L= .nd s ts
  fw:∀us:List Tr,us.length=L.nb→(L.fill us).weight≤3+wts us
  fw0:L.nb=0→(L.fill []).weight≤2
theorem zoC{P:Str→Prop}{n:Nat}{h c d:Str}(hh:P h) (hc:P c) (hd:P d):∀L∈zcj n h c d,LeftT P L:=by
 unfold zcj;intro L hL;split at hL<;>simp only[List.mem_cons,List.not_mem_nil,or_false]at hL
 all_goals first
  | (subst hL;exact⟨by simp [Tr.hb,hbs,hh,hc,hd],by simp [Tr.fits,fitss,Tr.nb,nbs],by simp [Tr.weight,wts,Tr.nb,nbs],by simp [Tr.depth,dts],by simp [Tr.nb,nbs],⟨_,_,rfl⟩,fun us hu=>by rcases us with _ |⟨u,_ |⟨v,_ |⟨x,_ |⟨y,us⟩⟩⟩⟩<;>simp [Tr.nb,nbs,Tr.fill,fills,Tr.weight,wts]at hu⊢ <;>omega,fun h0=>by simp [Tr.nb,nbs,Tr.fill,fills,Tr.weight,wts]at h0⊢⟩)
  | (rcases hL with rfl |rfl<;>exact⟨by simp [Tr.hb,hbs,hh,hc,hd],by simp [Tr.fits,fitss,Tr.nb,nbs],by simp [Tr.weight,wts,Tr.nb,nbs],by simp [Tr.depth,dts],by simp [Tr.nb,nbs],⟨_,_,rfl⟩,fun us hu=>by rcases us with _ |⟨u,_ |⟨v,_ |⟨x,_ |⟨y,us⟩⟩⟩⟩<;>simp [Tr.nb,nbs,Tr.fill,fills,Tr.weight,wts]at hu⊢ <;>omega,fun h0=>by simp [Tr.nb,nbs,Tr.fill,fills,Tr.weight,wts]at h0⊢⟩)
noncomputable def zaG (B:List Tn) (s:Str):Option Tn:=B.find? fun t=>t.1 == s
theorem zch:∀{B:List Tn}{t:Tn},(B.map fun t=>t.1).Nodup→t∈B→zaG B t.1=some t
 |u::B,t,hn,ht=>by
  unfold zaG;rw [List.map_cons,List.nodup_cons]at hn;rw [List.find?_cons];rcases List.mem_cons.mp ht with rfl |ht
  ·simp
  ·have hne:u.1≠t.1:=fun z=>hn.1 (by rw [z];exact List.mem_map.mpr ⟨t,ht,rfl⟩);have:(u.1 == t.1)=false:=by simpa using hne
   rw [this];exact zch hn.2 ht
theorem zfy{B:List Tn}{s:Str}(h:∀t∈B,t.1≠s):zaG B s=none:=by
 unfold zaG;rw [List.find?_eq_none];intro t ht;simpa using h t ht
noncomputable def topB (B:List Tn) (s:Str) (n:Nat):Bool:=match zaG B s with
 |none=>zjs s
 |some t=>n == t.2.1.nb
mutual
noncomputable def Tr.way (B:List Tn):Tr→Bool
 | .bl _=>false
 | .nd s ts=>topB B s ts.length&&zfd B ts
noncomputable def zfd (B:List Tn):List Tr→Bool
 | []=>true
 |t::ts=>t.way B&&zfd B ts
end
mutual
noncomputable def Tr.quiet:Tr→Bool
 | .bl _=>false
 | .nd s ts=>zjs s&&zhU ts
noncomputable def zhU:List Tr→Bool
 | []=>true
 |t::ts=>t.quiet&&zhU ts
end
theorem zho (B:List Tn):∀ts:List Tr,zfd B ts=ts.all (Tr.way B)
 | []=>by simp [zfd]
 |t::ts=>by simp [zfd,zho B ts]
theorem zgs:∀ts:List Tr,zhU ts=ts.all Tr.quiet
 | []=>by simp [zhU]
 |t::ts=>by simp [zhU,zgs ts]
mutual
theorem zhe{B:List Tn}(hB:∀t∈B,zbd t.1) {us:List Tr}(hu:∀u∈us,u.way B=true):∀(t:Tr),t.hb zbj→t.fits us.length→(t.fill us).way B=true
 | .bl n,h,f=>by
  simp only[Tr.fits]at f;simp only[Tr.fill];rw [List.getD_eq_getElem?_getD,List.getElem?_eq_getElem (show n.toNat<us.length by omega)]
  exact hu _ (List.getElem_mem ..)
 | .nd s ts,h,f=>by
  simp only[Tr.fits]at f;simp only[Tr.hb]at h;simp only[Tr.fill,Tr.way];rw [zik hB hu ts h.2 f,topB,zfy fun t ht=>(zbP h.1 (hB t ht)).symm,(ziz s).mpr h.1];rfl
theorem zik{B:List Tn}(hB:∀t∈B,zbd t.1) {us:List Tr}(hu:∀u∈us,u.way B=true):∀(ts:List Tr),hbs zbj ts→fitss us.length ts→zfd B (fills us ts)=true
 | [],h,f=>by simp [fills,zfd]
 |t::ts,h,f=>by
  simp only[fitss]at f;simp only[hbs]at h;rw [fills,zfd,zhe hB hu t h.1 f.1,zik hB hu ts h.2 f.2];rfl
end
inductive Pl where
  |nd (k bits:Int) (head:Str) (ps:List Pl)
mutual
noncomputable def Pl.dp:Pl→Nat
 | .nd _ _ _ ps=>1+znW ps
noncomputable def znW:List Pl→Nat
 | []=>0
 |p::ps=>max p.dp (znW ps)
end
mutual
noncomputable def Pl.nt:Pl→Nat
 | .nd k _ _ ps=>(if k<0 then 0 else 1)+zng ps
noncomputable def zng:List Pl→Nat
 | []=>0
 |p::ps=>p.nt+zng ps
end
inductive PlOk (ws:List Str) (B:List Tn):Pl→Prop
 |sign {b:Int}{h:Str}{ps:List Pl}:h∈ws→(∀p∈ps,PlOk ws B p)→PlOk ws B (.nd (-1) b h ps)
 |turn {k:Nat}{b:Int}{h:Str}{ps:List Pl}{t:Tn}:B[k]? =some t→ps.length=t.2.1.nb→0≤b→b<8→(∀p∈ps,PlOk ws B p)→PlOk ws B (.nd k b h ps)
mutual
noncomputable def Pl.ev (B:List Tn) (c:Int→Nat):Pl→Tr
 | .nd k b h ps=>if k<0 then .nd h (evs B c ps) else match c b with
  |0=>(B.getD k.toNat (h, .bl 0, .bl 0)).2.1.fill (evs B c ps)
  |1=> .nd (B.getD k.toNat (h, .bl 0, .bl 0)).1 (evs B c ps)
  |_=>(B.getD k.toNat (h, .bl 0, .bl 0)).2.2.fill (evs B c ps)
noncomputable def evs (B:List Tn) (c:Int→Nat):List Pl→List Tr
 | []=>[]
 |p::ps=>p.ev B c::evs B c ps
end
theorem zjw (B:List Tn) (c:Int→Nat):∀ps:List Pl,evs B c ps=ps.map (Pl.ev B c)
 | []=>by simp [evs]
 |p::ps=>by simp [evs,zjw B c ps]
theorem zgL{p:Pl}:∀{ps:List Pl},p∈ps→p.dp≤znW ps
 |q::ps,h=>by
  rcases List.mem_cons.mp h with rfl |h
  ·simp [znW];omega
  ·have:=zgL h;simp [znW];omega
theorem zbi{B:List Tn}{c:Int→Nat}{b:Int}{h:Str}{ps:List Pl}:(Pl.nd (-1) b h ps).ev B c= .nd h (ps.map (Pl.ev B c)):=by
 rw [Pl.ev,if_pos (by decide),zjw]
noncomputable def evT (t:Tn) (n:Nat) (us:List Tr):Tr:=match n with
 |0=>t.2.1.fill us
 |1=> .nd t.1 us
 |_=>t.2.2.fill us
theorem zaN{B:List Tn}{c:Int→Nat}{b:Int}{h:Str}{ps:List Pl}{k:Nat}{t:Tn}(e:B[k]? =some t):(Pl.nd k b h ps).ev B c=evT t (c b) (ps.map (Pl.ev B c)):=by
 rw [Pl.ev,if_neg (by omega),zjw,Int.toNat_natCast,List.getD_eq_getElem?_getD,e];rfl
section
variable {ws:List Str}{m:Nat}{t:Tr}
theorem zbN (h:Item ws m t):t.depth=1:=by
 cases h<;>simp [Tr.depth,dts]
theorem zjI (h:RightT ws m t):t.depth≤3:=by
 cases h with
 |one h=>rw [zbN h];decide
 |un hs h=>simp [Tr.depth,dts,zbN h]
 |two hs h0 h h'=>simp [Tr.depth,dts,zbN h,zbN h']
 |deep hs hz h0 h h'=>simp [Tr.depth,dts,zbN h,zbN h']
theorem zcq (h:Item ws m t):t.fits m:=by
 cases h with
 |bl h0 h1=>exact⟨h0,h1⟩
 |nd hs=>simp [Tr.fits,fitss]
theorem zle (h:RightT ws m t):t.fits m:=by
 cases h with
 |one h=>exact zcq h
 |un hs h=>simp [Tr.fits,fitss,zcq h]
 |two hs h0 h h'=>simp [Tr.fits,fitss,zcq h,zcq h']
 |deep hs hz h0 h h'=>simp [Tr.fits,fitss,zcq h,zcq h']
theorem zeq{P:Str→Prop}(hP:∀x∈ws,P x) (h:Item ws m t):t.hb P:=by
 cases h with
 |bl h0 h1=>simp [Tr.hb]
 |nd hs=>simp [Tr.hb,hbs,hP _ hs]
theorem zpg{P:Str→Prop}(hP:∀x∈ws,P x) (h:RightT ws m t):t.hb P:=by
 cases h with
 |one h=>exact zeq hP h
 |un hs h=>simp [Tr.hb,hbs,zeq hP h,hP _ hs]
 |two hs h0 h h'=>simp [Tr.hb,hbs,zeq hP h,zeq hP h',hP _ hs]
 |deep hs hz h0 h h'=>simp [Tr.hb,hbs,zeq hP h,zeq hP h',hP _ hs,hP _ hz]
theorem zbx (h:Item ws m t):t.weight=1:=by
 cases h<;>simp [Tr.weight,wts]
theorem zhQ (h:RightT ws m t):t.weight≤4:=by
 cases h with
 |one h=>rw [zbx h];decide
 |un hs h=>simp [Tr.weight,wts,zbx h]
 |two hs h0 h h'=>simp [Tr.weight,wts,zbx h,zbx h']
 |deep hs hz h0 h h'=>simp [Tr.weight,wts,zbx h,zbx h']
theorem zcw (h:Item ws m t) {us:List Tr}{M:Nat}(hl:us.length=m) (hM:1≤M) (hu:∀u∈us,u.weight≤M):(t.fill us).weight≤M:=by
 cases h with
 | @bl n h0 h1=>
  simp only[Tr.fill];rw [List.getD_eq_getElem?_getD,List.getElem?_eq_getElem (show n.toNat<us.length by omega)]
  exact hu _ (List.getElem_mem ..)
 |nd hs=>simp [Tr.fill,fills,Tr.weight,wts];omega
theorem zlx (h:RightT ws m t) {us:List Tr}{M:Nat}(hl:us.length=m) (hM:1≤M) (hu:∀u∈us,u.weight≤M):(t.fill us).weight≤2+2*M∧(m=0→(t.fill us).weight≤1+M):=by
 cases h with
 |one h=>
  have:=zcw h hl hM hu;omega
 |un hs h=>
  have:=zcw h hl hM hu;simp only[Tr.fill,fills,Tr.weight,wts];omega
 |two hs h0 h h'=>
  have:=zcw h hl hM hu;have:=zcw h' hl hM hu;simp only[Tr.fill,fills,Tr.weight,wts];omega
 |deep hs hz h0 h h'=>
  have:=zcw h hl hM hu;have:=zcw h' hl hM hu;simp only[Tr.fill,fills,Tr.weight,wts];omega
end
theorem RightT.w{ws:List Str}{m:Nat}{t:Tr}(h:RightT ws m t):RightW ws m t:=⟨Nat.le_succ_of_le (zjI h),zle h,fun hP=>zpg hP h,Nat.le_trans (zhQ h) (by decide)⟩
theorem zsb{ws:List Str}{B:List Tn}(h:∀t∈B,RightT ws t.2.1.nb t.2.2):zwM B:=fun t ht us M hl hM hu=>zlx (h t ht) hl hM hu
structure BkOk (ws hs:List Str) (B:List Tn):Prop where
  ti:∀t∈B,zbd t.1
  nd:(B.map fun t=>t.1).Nodup
  sg:∀x∈ws,zbj x
  sb:∀x∈hs,x∈ws
  lf:∀t∈B,LeftT zbj t.2.1
  ri:∀t∈B,RightW ws t.2.1.nb t.2.2
section
variable {ws hs:List Str}{B:List Tn}{c:Int→Nat}
theorem ztu (b:BkOk ws hs B) {p:Pl}(h:PlOk hs B p):(p.ev B c).way B=true:=by
 induction h with
 | @sign b' h ps hh hp ih=>
  rw [zbi,Tr.way,topB,zfy fun t ht=>(zbP (b.sg h (b.sb h hh)) (b.ti t ht)).symm,zho,(ziz h).mpr (b.sg h (b.sb h hh))];simp only[List.all_map,Bool.true_and,List.all_eq_true];exact fun p hp=>ih p hp
 | @turn k b' h ps t e hl b0 b1 hp ih=>
  have ht:t∈B:=List.mem_of_getElem? e;have hu:∀u∈ps.map (Pl.ev B c),u.way B=true:=fun u hu=>by
   obtain⟨p,hp,rfl⟩:=List.mem_map.mp hu;exact ih p hp
  rw [zaN e];unfold evT;split
  ·exact zhe b.ti hu _ (b.lf t ht).hb (by rw [List.length_map,hl];exact(b.lf t ht).fits)
  ·rw [Tr.way,topB,zch b.nd ht,zho];simp only[List.length_map,hl,beq_self_eq_true,Bool.true_and,List.all_eq_true];exact hu
  ·exact zhe b.ti hu _ ((b.ri t ht).hb b.sg) (by rw [List.length_map,hl];exact(b.ri t ht).fits)
theorem zhf{p:Pl}:∀{ps:List Pl},p∈ps→p.nt≤zng ps
 |q::ps,h=>by
  rcases List.mem_cons.mp h with rfl |h
  ·simp [zng]
  ·have:=zhf h;simp [zng];omega
end
mutual
noncomputable def Tr.mk (B:List Tn) (g:Tn→Tr):Tr→Tr
 | .bl n=> .bl n
 | .nd s ts=>match zaG B s with
  |none=> .nd s (mks B g ts)
  |some t=>(g t).fill (mks B g ts)
noncomputable def mks (B:List Tn) (g:Tn→Tr):List Tr→List Tr
 | []=>[]
 |t::ts=>t.mk B g::mks B g ts
end
theorem zeo (B:List Tn) (g:Tn→Tr):∀ts:List Tr,mks B g ts=ts.map (Tr.mk B g)
 | []=>by simp [mks]
 |t::ts=>by simp [mks,zeo B g ts]
theorem zdB{B:List Tn}{g:Tn→Tr}{s:Str}{ts:List Tr}(h:zaG B s=none):(Tr.nd s ts).mk B g= .nd s (ts.map (Tr.mk B g)):=by
 rw [Tr.mk,h,zeo]
theorem zeu{B:List Tn}{g:Tn→Tr}{s:Str}{ts:List Tr}{t:Tn}(h:zaG B s=some t):(Tr.nd s ts).mk B g=(g t).fill (ts.map (Tr.mk B g)):=by
 rw [Tr.mk,h,zeo]
theorem zar{B:List Tn}(hB:∀t∈B,zbd t.1) {s:Str}(h:zbj s):zaG B s=none:=zfy fun t ht=>(zbP h (hB t ht)).symm
mutual
theorem zeT{B:List Tn}{g:Tn→Tr}(hB:∀t∈B,zbd t.1):∀t:Tr,t.hd zbj→t.mk B g=t
 | .bl n,h=>by simp [Tr.hd]at h
 | .nd s ts,h=>by
  simp only[Tr.hd]at h;rw [Tr.mk,zar hB h.1,zii hB ts h.2]
theorem zii{B:List Tn}{g:Tn→Tr}(hB:∀t∈B,zbd t.1):∀ts:List Tr,hds zbj ts→mks B g ts=ts
 | [],h=>by simp [mks]
 |t::ts,h=>by
  simp only[hds]at h;rw [mks,zeT hB t h.1,zii hB ts h.2]
end
mutual
theorem zgV{B:List Tn}{g:Tn→Tr}(hB:∀t∈B,zbd t.1) {us:List Tr}:∀t:Tr,t.hb zbj→t.fits us.length→(t.fill us).mk B g=t.fill (us.map (Tr.mk B g))
 | .bl n,h,f=>by
  simp only[Tr.fits]at f;simp only[Tr.fill];rw [List.getD_eq_getElem?_getD,List.getD_eq_getElem?_getD,List.getElem?_map,List.getElem?_eq_getElem (show n.toNat<us.length by omega)]
  rfl
 | .nd s ts,h,f=>by
  simp only[Tr.hb]at h;simp only[Tr.fits]at f;simp only[Tr.fill];rw [Tr.mk,zar hB h.1];simp only[];rw [zkw hB ts h.2 f]
theorem zkw{B:List Tn}{g:Tn→Tr}(hB:∀t∈B,zbd t.1) {us:List Tr}:∀ts:List Tr,hbs zbj ts→fitss us.length ts→mks B g (fills us ts)=fills (us.map (Tr.mk B g)) ts
 | [],h,f=>by simp [fills,mks]
 |t::ts,h,f=>by
  simp only[hbs]at h;simp only[fitss]at f;rw [fills,mks,fills,zgV hB t h.1 f.1,zkw hB ts h.2 f.2]
end
section
variable {ws hs:List Str}{B:List Tn}{c d:Int→Nat}
theorem zuN (b:BkOk ws hs B) {g:Tn→Tr}(hg:∀t∈B,∀x:Int,0≤x→x<8→c x=1→ ∀us,(g t).fill us=evT t (d x) us) (h0:∀x:Int,0≤x→x<8→c x≠1→d x=c x) {p:Pl}(h:PlOk hs B p):(p.ev B c).mk B g=p.ev B d:=by
 induction h with
 | @sign b' h ps hh hp ih=>
  rw [zbi,zbi,zdB (zar b.ti (b.sg h (b.sb h hh))),List.map_map];congr 1;exact List.map_congr_left fun p hp=>ih p hp
 | @turn k b' h ps t e hl b0 b1 hp ih=>
  have ht:t∈B:=List.mem_of_getElem? e;have em:(ps.map (Pl.ev B c)).map (Tr.mk B g)=ps.map (Pl.ev B d):=by
   rw [List.map_map];exact List.map_congr_left fun p hp=>ih p hp
  rw [zaN e,zaN e];by_cases hc:c b'=1
  ·rw [←hg t ht b' b0 b1 hc,hc];show(Tr.nd t.1 _).mk B g=_;rw [zeu (zch b.nd ht),em]
  ·rw [h0 b' b0 b1 hc];unfold evT;split
   ·rw [zgV b.ti _ (b.lf t ht).hb (by rw [List.length_map,hl];exact(b.lf t ht).fits),em]
   ·rename_i z;exact absurd z hc
   ·rw [zgV b.ti _ ((b.ri t ht).hb b.sg) (by rw [List.length_map,hl];exact(b.ri t ht).fits),em]
noncomputable def zkW (c:Int→Nat):Int→Nat:=fun x=>if c x=1 then 0 else c x
noncomputable def zhy (c:Int→Nat):Int→Nat:=fun x=>if c x=1 then 2 else c x
theorem zqb (b:BkOk ws hs B) {p:Pl}(h:PlOk hs B p):(p.ev B c).mk B (fun t=>t.2.1)=p.ev B (zkW c):=
 zuN b (fun t ht x _ _ hx us=>by rw [zkW,if_pos hx];rfl) (fun x _ _ hx=>by rw [zkW,if_neg hx]) h
theorem zjf (b:BkOk ws hs B) {p:Pl}(h:PlOk hs B p):(p.ev B c).mk B (fun t=>t.2.2)=p.ev B (zhy c):=
 zuN b (fun t ht x _ _ hx us=>by rw [zhy,if_pos hx];rfl) (fun x _ _ hx=>by rw [zhy,if_neg hx]) h
theorem zjD{p:Pl}(h:PlOk hs B p) (hc:∀x:Int,0≤x→x<8→c x=d x):p.ev B c=p.ev B d:=by
 induction h with
 | @sign b' h ps hh hp ih=>
  rw [zbi,zbi];congr 1;exact List.map_congr_left fun p hp=>ih p hp
 | @turn k b' h ps t e hl b0 b1 hp ih=>
  rw [zaN e,zaN e,hc b' b0 b1];congr 1;exact List.map_congr_left fun p hp=>ih p hp
end
theorem zox{n:Nat}{h c d:Str}{L:Tr}(hL:L∈zcj n h c d) {us:List Tr}(hu:us.length=L.nb):L.mt (L.fill us)=some us:=by
 unfold zcj at hL;split at hL<;>simp only[List.mem_cons,List.not_mem_nil,or_false]at hL
 all_goals first
  | (subst hL;rcases us with _ |⟨u,_ |⟨v,_ |⟨x,_ |⟨y,us⟩⟩⟩⟩<;>simp [Tr.nb,nbs,Tr.fill,fills,Tr.mt,mts]at hu⊢ <;>omega)
  | (rcases hL with rfl |rfl<;>rcases us with _ |⟨u,_ |⟨v,_ |⟨x,_ |⟨y,us⟩⟩⟩⟩<;>simp [Tr.nb,nbs,Tr.fill,fills,Tr.mt,mts]at hu⊢ <;>omega)
noncomputable def zvV (B:List Tn):Prop:=∀t∈B,∀us:List Tr,us.length=t.2.1.nb→t.2.1.mt (t.2.1.fill us)=some us
mutual
inductive Mv (B:List Tn):Nat→Tr→Tr→Tr→Prop
 |nn {n:Nat}{s z:Str}{ts us cs:List Tr}:zaG B s=none→zaG B z=none→Mvs B n ts us cs→Mv B (n+1) (.nd s ts) (.nd z us) (.nd s cs)
 |ns {n:Nat}{s z:Str}{ts us cs ms:List Tr}{t:Tn}:zaG B s=none→zaG B z=some t→t.2.1.mt (.nd s ts)=some ms→cs.length=t.2.1.nb→Mvs B n ms us cs→Mv B (n+1) (.nd s ts) (.nd z us) (t.2.2.fill cs)
 |sn {n:Nat}{s z:Str}{ts us cs ms:List Tr}{t:Tn}:zaG B s=some t→zaG B z=none→t.2.1.mt (.nd z us)=some ms→Mvs B n ts ms cs→Mv B (n+1) (.nd s ts) (.nd z us) (.nd s cs)
 |ss {n:Nat}{s z:Str}{ts us cs:List Tr}{t t':Tn}:zaG B s=some t'→zaG B z=some t→cs.length=t.2.1.nb→Mvs B n ts us cs→Mv B (n+1) (.nd s ts) (.nd z us) (t.2.2.fill cs)
inductive Mvs (B:List Tn):Nat→List Tr→List Tr→List Tr→Prop
 |nil {n:Nat}:Mvs B n [] [] []
 |cons {n:Nat}{a b c:Tr}{as bs cs:List Tr}:Mv B n a b c→Mvs B n as bs cs→Mvs B n (a::as) (b::bs) (c::cs)
end
mutual
theorem Mv.monoA{B:List Tn}:∀{n:Nat}{a b c:Tr},Mv B n a b c→ ∀m,n≤m→Mv B m a b c
 |_,_,_,_, .nn h1 h2 h3=>fun m h=>by
  obtain⟨m,rfl⟩:∃m',m=m'+1:=⟨m - 1,by omega⟩
  exact .nn h1 h2 (Mvs.monoA h3 m (by omega))
 |_,_,_,_, .ns h1 h2 h3 h4 h5=>fun m h=>by
  obtain⟨m,rfl⟩:∃m',m=m'+1:=⟨m - 1,by omega⟩
  exact .ns h1 h2 h3 h4 (Mvs.monoA h5 m (by omega))
 |_,_,_,_, .sn h1 h2 h3 h4=>fun m h=>by
  obtain⟨m,rfl⟩:∃m',m=m'+1:=⟨m - 1,by omega⟩
  exact .sn h1 h2 h3 (Mvs.monoA h4 m (by omega))
 |_,_,_,_, .ss h1 h2 h3 h4=>fun m h=>by
  obtain⟨m,rfl⟩:∃m',m=m'+1:=⟨m - 1,by omega⟩
  exact .ss h1 h2 h3 (Mvs.monoA h4 m (by omega))
theorem Mvs.monoA{B:List Tn}:∀{n:Nat}{a b c:List Tr},Mvs B n a b c→ ∀m,n≤m→Mvs B m a b c
 |_,_,_,_, .nil=>fun _ _=> .nil
 |_,_,_,_, .cons h1 h2=>fun m h=> .cons (Mv.monoA h1 m h) (Mvs.monoA h2 m h)
end
theorem Mv.mono{B:List Tn}{n m:Nat}{a b c:Tr}(h:n≤m) (M:Mv B n a b c):Mv B m a b c:=Mv.monoA M m h
theorem Mvs.mono{B:List Tn}{n m:Nat}{a b c:List Tr}(h:n≤m) (M:Mvs B n a b c):Mvs B m a b c:=Mvs.monoA M m h
theorem Mvs.get{B:List Tn}{n:Nat}:∀{as bs cs:List Tr}{i:Nat},Mvs B n as bs cs→i<cs.length→ ∃a b c,as[i]? =some a∧bs[i]? =some b∧cs[i]? =some c∧Mv B n a b c
 |_,_,_,i, .nil,h=>by simp at h
 |_,_,_,0, .cons h1 _,h=>⟨_,_,_,rfl,rfl,rfl,h1⟩
 |_,_,_,i+1, .cons _ h2,h=>by
  obtain⟨a,b,c,e1,e2,e3,q⟩:=Mvs.get (i:=i) h2 (by simpa using h);exact⟨a,b,c,by simpa using e1,by simpa using e2,by simpa using e3,q⟩
theorem Mvs.of{B:List Tn}{n:Nat}{α:Type}{f g h:α→Tr}:∀(xs:List α),(∀x∈xs,Mv B n (f x) (g x) (h x))→Mvs B n (xs.map f) (xs.map g) (xs.map h)
 | [],_=> .nil
 |x::xs,q=> .cons (q x List.mem_cons_self) (Mvs.of xs fun y hy=>q y (List.mem_cons_of_mem _ hy))
mutual
theorem zjA{B:List Tn}(hB:∀t∈B,zbd t.1) {n:Nat}{us vs cs:List Tr}(h:Mvs B n us vs cs):∀t:Tr,t.hb zbj→t.fits cs.length→Mv B (n+t.depth) (t.fill us) (t.fill vs) (t.fill cs)
 | .bl k,q,f=>by
  simp only[Tr.fits]at f;obtain⟨a,b,c,e1,e2,e3,m⟩:=h.get (i:=k.toNat) (by omega);simp only[Tr.fill,List.getD_eq_getElem?_getD,e1,e2,e3,Option.getD_some];exact m.mono (by omega)
 | .nd s ts,q,f=>by
  simp only[Tr.hb]at q;simp only[Tr.fits]at f;have:=zka hB h ts q.2 f;simp only[Tr.fill,Tr.depth];rw [show n+(1+dts ts)=n+dts ts+1 by omega]
  exact .nn (zar hB q.1) (zar hB q.1) this
theorem zka{B:List Tn}(hB:∀t∈B,zbd t.1) {n:Nat}{us vs cs:List Tr}(h:Mvs B n us vs cs):∀ts:List Tr,hbs zbj ts→fitss cs.length ts→Mvs B (n+dts ts) (fills us ts) (fills vs ts) (fills cs ts)
 | [],q,f=>by simp only[fills];exact .nil
 |t::ts,q,f=>by
  simp only[hbs]at q;simp only[fitss]at f;have h1:=zjA hB h t q.1 f.1;have h2:=zka hB h ts q.2 f.2;simp only[fills,dts];exact .cons (h1.mono (by omega)) (h2.mono (by omega))
end
noncomputable def zje (c d:Int→Nat):Int→Nat:=fun x=>if d x=1 then 2 else c x
theorem ziU{ws hs:List Str}{B:List Tn}{c d:Int→Nat}(b:BkOk ws hs B) (hm:zvV B) (hc:∀x:Int,0≤x→x<8→(c x≤1∧d x≤1)∨(c x=2∧d x=2)) {p:Pl}(h:PlOk hs B p):Mv B (p.dp+3*p.nt) (p.ev B c) (p.ev B d) (p.ev B (zje c d)):=by
 induction h with
 | @sign b' h ps hh hp ih=>
  rw [zbi,zbi,zbi,Pl.dp,Pl.nt,if_pos (by decide),show 1+znW ps+3*(0+zng ps)=znW ps+3*zng ps+1 by omega]
  refine .nn (zar b.ti (b.sg h (b.sb h hh))) (zar b.ti (b.sg h (b.sb h hh))) (.of ps fun p hp=>(ih p hp).mono ?_);have:=zgL hp;have:=zhf hp;omega
 | @turn k b' h ps t e hl b0 b1 hp ih=>
  have ht:t∈B:=List.mem_of_getElem? e;have en:(Pl.nd k b' h ps).nt=1+zng ps:=by rw [Pl.nt,if_neg (by omega)]
  have M:Mvs B (znW ps+3*zng ps) (ps.map (Pl.ev B c)) (ps.map (Pl.ev B d)) (ps.map (Pl.ev B (zje c d))):= .of ps fun p hp=>(ih p hp).mono (by
   have:=zgL hp;have:=zhf hp;omega)
  have lc:(ps.map (Pl.ev B (zje c d))).length=t.2.1.nb:=by rw [List.length_map,hl]
  have l1:(ps.map (Pl.ev B c)).length=t.2.1.nb:=by rw [List.length_map,hl]
  have l2:(ps.map (Pl.ev B d)).length=t.2.1.nb:=by rw [List.length_map,hl]
  have tt:=zch b.nd ht;have L:=b.lf t ht;have R:=b.ri t ht;have hd:=L.dp;rw [zaN e,zaN e,zaN e,Pl.dp,en,show 1+znW ps+3*(1+zng ps)=znW ps+3*zng ps+3+1 by omega]
  have lsign:∀us,∃s ts,t.2.1.fill us= .nd s ts∧zaG B s=none:=fun us=>by
   obtain⟨s,ts,el⟩:=L.nd;have hb:=L.hb;rw [el,Tr.hb]at hb;exact⟨s,fills us ts,by rw [el,Tr.fill],zar b.ti hb.1⟩
  have hp:zje c d b'=if d b'=1 then 2 else c b':=rfl;rw [hp];rcases hc b' b0 b1 with⟨c1,d1⟩ |⟨c2,d2⟩
  ·by_cases dz:d b'=1
   ·rw [if_pos dz,dz];by_cases cz:c b'=1
    ·rw [cz];exact .ss tt tt lc (M.mono (by omega))
    ·rw [show c b'=0 by omega]
     obtain⟨s,ts,es,hs⟩:=lsign (ps.map (Pl.ev B c));have:=hm t ht _ l1;simp only[evT];rw [es]at this⊢;exact .ns hs tt this lc (M.mono (by omega))
   ·rw [if_neg dz,show d b'=0 by omega]
    by_cases cz:c b'=1
    ·rw [cz];obtain⟨s,ts,es,hs⟩:=lsign (ps.map (Pl.ev B d));have:=hm t ht _ l2;simp only[evT];rw [es]at this⊢;exact .sn tt hs this (M.mono (by omega))
    ·rw [show c b'=0 by omega]
     simp only[evT];exact(zjA b.ti M _ L.hb (by rw [lc];exact L.fits)).mono (by omega)
  ·rw [d2,if_neg (by decide),c2];simp only[evT];have:=R.dp;exact(zjA b.ti M _ (R.hb b.sg) (by rw [lc];exact R.fits)).mono (by omega)
theorem zlQ{P:Str→Prop}:∀{ts us:List Tr},hds P ts→hds P us→hds P (ts++us)
 | [],us,_,h=>h
 |t::ts,us,h,g=>by
  simp only[hds,List.cons_append]at h⊢;exact⟨h.1,zlQ h.2 g⟩
noncomputable def pad (w:Str):Pl:= .nd (-1) 0 w []
noncomputable def zkm (need:Nat) (w:Str) (ps:List Pl):List Pl:=List.replicate (need - ps.length) (pad w)++ps
noncomputable def push (need:Nat) (w:Str) (k b:Int) (h:Str) (ps:List Pl):List Pl:=
 (zkm need w ps).take ((zkm need w ps).length - need)++[.nd k b h ((zkm need w ps).drop ((zkm need w ps).length - need))]
section
variable {r:Nat}{S:Sto}{Q:WK}{E:Str→Sto→Prop}{a:Addr}{B:List Tn}
theorem zrr{x:Str}(hx:x.length≤1000) (h:Q (.bl (zjs x)) S):zdg (r+2) [.str x] S Q E:=by
 have hxl:=zdF x;rw [zdg];walk_at "wp";unfold zjs at h;rw [←hxl]at h;cases e1:decide (1≤x.length) with
 |false=>
  rw [e1]at h;have:¬1≤x.length:=by simpa using e1
  have e1':decide ((1:Int)≤(x.length:Int))=false:=by simp;omega
  rw [e1'];walk_at "wp";exact⟨zag (by omega),_, .refl,h⟩
 |true=>
  rw [e1]at h;have h1:1≤x.length:=by simpa using e1
  have e1':decide ((1:Int)≤(x.length:Int))=true:=by simp;omega
  rw [e1'];refine⟨zag (by omega),?_⟩;walk_at "wp";cases e2:decide (x.length≤8) with
  |false=>
   rw [e2]at h;have:¬x.length≤8:=by simpa using e2
   have e2':decide ((x.length:Int)≤8)=false:=by simp;omega
   rw [e2'];exact⟨_, .refl,h⟩
  |true=>
   rw [e2]at h;have h2:x.length≤8:=by simpa using e2
   have e2':decide ((x.length:Int)≤8)=true:=by simp;omega
   rw [e2'];walk_at "wp";exact zlH (by omega) ⟨_, .refl,h⟩
noncomputable def zdQ:Option Tn→W
 |some t=>zbW t
 |none=> .non
theorem zhs (B:List Tn) (s:Str):B.findSome? (fun t=>if t.1 == s then some (zbW t) else none)=(zaG B s).map zbW:=by
 unfold zaG
 induction B with
 |nil=>rfl
 |cons t B ih=>
  rw [List.findSome?_cons,List.find?_cons];cases e:t.1 == s with
  |true=>rfl
  |false=>simpa using ih
theorem zfx{s:Str}(ha:S a=some (.lst (B.map zbW))) (h:Q (zdQ (zaG B s)) S):zaC (r+1) [.ref a, .str s] S Q E:=by
 rw [zaC];walk_at "wp";rw [zak ha];refine zkn (S:=S) ?_ (fun σ=>∃x,σ=[some (.ref a),some (.str s),x]) zbW (fun t=>if t.1 == s then some (zbW t) else none) B _ ⟨_,rfl⟩ (fun t ht σ N hI hno hret=>?_) (fun e σ hI=>?_) fun w e S' sb=>?_
 ·exact ha
 ·obtain⟨x,rfl⟩:=hI;simp only[zdp];have ee:zbW t= .tup [.str t.1,enc t.2.1,enc t.2.2]:=rfl;rw [ee];walk_at "wp";cases e:t.1 == s with
  |true=>
   rw [e]at hret;exact hret _ rfl _ .refl
  |false=>
   rw [e]at hno;exact hno rfl _ _ ⟨_,rfl⟩ .refl
 ·obtain⟨x,rfl⟩:=hI;walk_at "wp";rw [zhs]at e;have:zaG B s=none:=by
   cases q:zaG B s with
   |none=>rfl
   |some t=>rw [q]at e;cases e
  rw [this]at h;exact⟨_, .refl,h⟩
 ·rw [zhs]at e;cases q:zaG B s with
  |none=>rw [q]at e;cases e
  |some t=>
   rw [q]at e h;cases e;exact⟨_,sb,h⟩
theorem zlm (ts:List Tr):zfX (ts.map fun t=>W.bl t.quiet)=some (ts.map Tr.quiet):=by
 have:=zhx (ts.map Tr.quiet);rw [List.map_map]at this;exact this
theorem zkO:∀(d:Nat) {t:Tr}{r:Nat}{Q:WK}{E:Str→Sto→Prop},t.depth≤d→d+5≤r→t.hd (fun s=>s.length≤1000)→t.weight≤90000→Q (.bl t.quiet) S→zbO (r+1) [enc t] S Q E
 |0,t,r,Q,E,hd,hr,hh,hw,h=>by have:=zcv t;omega
 |d+1, .bl n,r,Q,E,hd,hr,hh,hw,h=>by simp [Tr.hd]at hh
 |d+1, .nd s ts,r,Q,E,hd,hr,hh,hw,h=>by
  simp only[Tr.depth]at hd;simp only[Tr.weight]at hw;simp only[Tr.hd]at hh;have hk:=zcl ts;obtain⟨r,rfl⟩:∃r',r=r'+2:=⟨r - 2,by omega⟩
  rw [zbO];simp only[enc];walk_at "wp";refine zrr hh.1 ?_;rw [Tr.quiet]at h;cases e:zjs s with
  |false=>
   rw [e]at h;walk_at "wp";exact⟨_, .refl,h⟩
  |true=>
   rw [e]at h;walk_at "wp";rw [zaZ];refine zaO (fun σ=>∃x,σ=[x]) enc (fun t=> .bl t.quiet) trivial ts [] _ ⟨none,rfl⟩ (by simp;omega) (fun x hx σ R hI hR=>?_) ?_
   ·obtain⟨y,rfl⟩:=hI;have hdx:=zfL hx;have hwx:=zdd hx;have:=zcv x;simp only[zeE];walk_at "wp";exact zkO d (t:=x) (r:=r+1) (by omega) (by omega) (hds_iff.mp hh.2 x hx) (by omega) (hR _ _ ⟨_,rfl⟩ .refl)
   ·rw [List.nil_append,zlm];dsimp only;rw [zgs]at h;rw [zhN];exact⟨S, .refl,h⟩
end
noncomputable def byC (f:Int):Int→Nat:=fun b=>if b / f % 2=1 then 1 else 0
section
theorem zkd{P:Str→Prop}{w:Str}(h:P w) (n:Nat):hds P (List.replicate n (.nd w [])):=hds_iff.mpr fun t ht=>by rw [(List.mem_replicate.mp ht).2];simp [Tr.hd,hds,h]
end
theorem zoK{x:Str}(h:zbj x):x.length≤1000:=by rw [zdF];have:=h.2.1;omega
theorem zlh{x:Str}(h:zbd x):x.length≤1000:=by rw [zdF];have:=(zlW h).2;omega
noncomputable def zap (n:Int) (t:Tn):Tr:=if n=1 then t.2.1 else t.2.2
mutual
noncomputable def Tr.ar (B:List Tn):Tr→Prop
 | .bl _=>False
 | .nd s ts=>(∀t,zaG B s=some t→ts.length=t.2.1.nb)∧ars B ts
noncomputable def ars (B:List Tn):List Tr→Prop
 | []=>True
 |t::ts=>t.ar B∧ars B ts
end
theorem ars_iff{B:List Tn}:∀{ts:List Tr},ars B ts↔ ∀t∈ts,t.ar B
 | []=>by simp [ars]
 |t::ts=>by simp [ars,ars_iff (ts:=ts)]
mutual
theorem zsM{B:List Tn}:∀t:Tr,t.way B=true→t.ar B
 | .bl n,h=>by simp [Tr.way]at h
 | .nd s ts,h=>by
  simp only[Tr.way,Bool.and_eq_true]at h;simp only[Tr.ar];refine⟨fun t ht=>?_,zqj ts h.2⟩;have:=h.1;rw [topB,ht]at this;simpa using this
theorem zqj{B:List Tn}:∀ts:List Tr,zfd B ts=true→ars B ts
 | [],h=>by simp [ars]
 |t::ts,h=>by
  simp only[zfd,Bool.and_eq_true]at h;simp only[ars];exact⟨zsM t h.1,zqj ts h.2⟩
end
section
variable {n:Int}
theorem zrm (t:Tn) (h:n=1∨n=2):atI [W.str t.1,enc t.2.1,enc t.2.2] n=some (enc (zap n t)):=by
 rcases h with rfl |rfl<;>rfl
theorem zgG{t:Tr}(h1:t.weight≤400) (h2:t.depth≤40):t.small=true:=by
 unfold Tr.small;rw [decide_eq_true h1,decide_eq_true h2];rfl
end
noncomputable def zvd (r:Nat):WS:=(zay (wAsg (zdn (zdm 2 [0] (zst (wVar 5) (wVar 6)) (wGT (zbJ (wGN 0) (zbJ (wGN 1) zgc))) ziO (zfW r (zbB r)))) (wGN 7))
  (zay (zdx (wTb (wOp (oIs false) (wVar 4) (wC .non))) (wRet (wOp zfY (zgi (zab (wOp oIx (wVar 1) (wC (.int 0))) waNil)) (wB zfP (zab (wVar 7) waNil)))) wNext)
  (wRet (zam (zbL r) (zab (wOp oIx (wVar 4) (wC (.int 2))) (zab (wVar 7) waNil))))))
noncomputable def zoT (r:Nat) (T:WS):WS:=(zay (zdx (zrO (wTb (wOp (oIs false) (wVar 3) (wC .non))) (wTb (wOp (oIs true) (wVar 4) (wC .non)))) (wAsg (zam (zbD r) (zab (wOp oIx (wVar 4) (wC (.int 1))) (zab (wVar 1) waNil))) (wGN 5)) wNext)
  (zay (zdx (zrO (wTb (wOp (oIs true) (wVar 3) (wC .non))) (wTb (wOp (oIs false) (wVar 4) (wC .non)))) (wAsg (zam (zbD r) (zab (wOp oIx (wVar 3) (wC (.int 1))) (zab (wVar 2) waNil))) (wGN 6)) wNext)
  T))
theorem zly{r:Nat}:zbB (r+1)=zcx 8 3 (zay (wAsg (zam (zaC r) (zab (wVar 0) (zab (wOp oIx (wVar 1) (wC (.int 0))) waNil))) (wGN 3))
  (zay (wAsg (zam (zaC r) (zab (wVar 0) (zab (wOp oIx (wVar 2) (wC (.int 0))) waNil))) (wGN 4))
  (zay (wAsg (wSl (wVar 1) (woS (wC (.int 1))) woN) (wGN 5))
  (zay (wAsg (wSl (wVar 2) (woS (wC (.int 1))) woN) (wGN 6))
  (zoT r (zvd r)))))):=rfl
mutual
theorem zrv{P:Str→Prop}:∀(l t:Tr) (ys:List Tr),l.mt t=some ys→t.hd P→hds P ys∧wts ys≤t.weight
 | .bl _,t,ys,h,q=>by
  simp only[Tr.mt,Option.some.injEq]at h;subst h;simp only[hds,wts];exact⟨⟨q,trivial⟩,by omega⟩
 | .nd s ls, .nd z us,ys,h,q=>by
  simp only[Tr.mt]at h;simp only[Tr.hd]at q;split at h
  ·have:=zql ls us ys h q.2;simp only[Tr.weight];exact⟨this.1,by omega⟩
  ·cases h
 | .nd _ _, .bl _,ys,h,q=>by simp [Tr.mt]at h
theorem zql{P:Str→Prop}:∀(ls us ys:List Tr),mts ls us=some ys→hds P us→hds P ys∧wts ys≤wts us
 | [],us,ys,h,q=>by simp only[mts,Option.some.injEq]at h;subst h;simp [hds,wts]
 |l::ls,[],ys,h,q=>by simp only[mts,Option.some.injEq]at h;subst h;simp [hds,wts]
 |l::ls,u::us,ys,h,q=>by
  simp only[mts]at h;simp only[hds]at q;split at h
  ·cases h
  ·rename_i xs ex;split at h
   ·cases h
   ·rename_i zs ez;simp only[Option.some.injEq]at h;subst h;have h1:=zrv l u xs ex q.1;have h2:=zql ls us zs ez q.2;rw [zdk,wts];exact⟨zlQ h1.1 h2.1,by omega⟩
end
mutual
theorem zfv{P:Str→Prop}{m:Nat}:∀t:Tr,t.hd P→t.fits m
 | .bl n,h=>by simp [Tr.hd]at h
 | .nd s ts,h=>by
  simp only[Tr.hd]at h;simp only[Tr.fits];exact zkv ts h.2
theorem zkv{P:Str→Prop}{m:Nat}:∀ts:List Tr,hds P ts→fitss m ts
 | [],h=>by simp [fitss]
 |t::ts,h=>by
  simp only[hds]at h;simp only[fitss];exact⟨zfv t h.1,zkv ts h.2⟩
end
theorem Mvs.triples{B:List Tn}{n:Nat}:∀{as bs cs:List Tr},Mvs B n as bs cs→ ∃zs:List (Tr×Tr×Tr),as=zs.map (fun z=>z.1)∧bs=zs.map (fun z=>z.2.1)∧cs=zs.map (fun z=>z.2.2)∧ ∀z∈zs,Mv B n z.1 z.2.1 z.2.2
 |_,_,_, .nil=>⟨[],rfl,rfl,rfl,fun _ h=>nomatch h⟩
 |_,_,_, .cons (a:=a) (b:=b) (c:=c) h1 h2=>by
  obtain⟨zs,e1,e2,e3,h⟩:=Mvs.triples h2;exact⟨(a,b,c)::zs,by rw [e1];rfl,by rw [e2];rfl,by rw [e3];rfl,fun z hz=>(List.mem_cons.mp hz).elim (fun e=>by rw [e];exact h1) (h z)⟩
theorem zim:∀zs:List (Tr×Tr×Tr),zbM (zaA (zs.map fun z=>z.1)) (zaA (zs.map fun z=>z.2.1))=zs.map fun z=>W.tup [enc z.1,enc z.2.1]
 | []=>by simp [zaA,zbM]
 |z::zs=>by simp [zaA,zbM,zim zs]
noncomputable def zvI (f:Option Tn) (s:Str) (cs:List Tr):Tr:=match f with
 |none=> .nd s cs
 |some t=>t.2.2.fill cs
noncomputable def zsU (S:Sto) (v:W) (ws:List W):Prop:=v= .tup ws∨ ∃q,v= .ref q∧S q=some (.lst ws)
section
variable {S:Sto}{a:Addr}{B:List Tn}
theorem znM{v:W}{ws:List W}{Q:List W→(Sto→Prop)→Prop}(h:zsU S v ws) (hq:∀G:Sto→Prop,G S→(∀S',Sub S S'→G S')→Q ws G):zpV v S Q:=by
 rcases h with rfl |⟨q,rfl,e⟩
 ·rw [zhG];exact hq _ trivial fun _ _=>trivial
 ·rw [zhT,zak e];exact hq _ e fun S' sb=>sb _ _ e
theorem zpF{n r:Nat}{x y:Tr}{as bs cs:List Tr}{va vb vf:W}{f:Option Tn}{x7:Option W}{s:Str}{ts:List Tr}(hx:x= .nd s ts) (ha:S a=some (.lst (B.map zbW))) (h1:zsU S va (zaA as)) (h2:zsU S vb (zaA bs)) (M:Mvs B n as bs cs) (hl:as.length≤1000)
  (hR:∀t,f=some t→t.2.2.depth≤4∧t.2.2.weight≤100∧t.2.2.fits cs.length) (hr:5≤r)
  (one:∀{a' b' c':Tr}{Q:WK}{E:Str→Sto→Prop},a'∈as→b'∈bs→Mv B n a' b' c'→Q (enc c') S→zbB r [.ref a,enc a',enc b'] S Q E) {E:WX}{D:WEnds}
  (hQ:∀S',Sub S S'→D.rt (enc (zvI f s cs)) S') :
  zvd r E D [some (.ref a),some (enc x),some (enc y),some vf,some (zdQ f),some va,some vb,x7] S:=by
 obtain⟨zs,rfl,rfl,rfl,hz⟩:=M.triples;unfold zvd;walk_at "wp";refine znM h1 fun G1 g1 k1=>znM h2 fun G2 g2 k2=>?_;rw [zim];rw [List.length_map]at hl;refine zaO (fun σ=>∃x y,σ=[x,y,some (.ref a)]) (fun z=>W.tup [enc z.1,enc z.2.1]) (fun z=>enc z.2.2) ?_ zs [] _ ⟨none,none,rfl⟩ (by simp;omega) (fun z hz' σ R hI hR=>?_) ?_
 ·exact⟨g1,g2⟩
 ·obtain⟨u,v,rfl⟩:=hI;simp only[zfW];walk_at "wp";refine one (a':=z.1) (b':=z.2.1) (c':=z.2.2) (List.mem_map.mpr ⟨z,hz',rfl⟩) (List.mem_map.mpr ⟨z,hz',rfl⟩) (hz z hz') ?_;exact hR _ _ ⟨_,_,rfl⟩ .refl
 ·rw [List.nil_append];intro q hq;have eu:(zs.map fun z=>enc z.2.2)=zaA (zs.map fun z=>z.2.2):=by rw [zaZ,List.map_map];rfl
  rw [eu];have fq:put S q (Ob.lst (zaA (zs.map fun z=>z.2.2))) q=some (.lst (zaA (zs.map fun z=>z.2.2))):=zah;have sub:Sub S (put S q (Ob.lst (zaA (zs.map fun z=>z.2.2)))):= .put .refl hq;generalize put S q (Ob.lst (zaA (zs.map fun z=>z.2.2)))=S1 at fq sub⊢;obtain⟨r,rfl⟩:∃r',r=r'+1:=⟨r - 1,by omega⟩
  cases f with
  |none=>
   subst hx;simp only[zdQ,enc,zvI]at hQ⊢
   try walk_at "wp"
   try rw [zak fq]
   rw [zbo,List.length_map];exact⟨zag (by decide),zag (by omega),hQ _ sub⟩
  |some t=>
   have ee:zdQ (some t)= .tup [.str t.1,enc t.2.1,enc t.2.2]:=rfl;rw [ee]
   try walk_at "wp"
   rw [show atI [W.str t.1,enc t.2.1,enc t.2.2] 2=some (enc t.2.2) from rfl];dsimp only;obtain⟨g1,g2,g3⟩:=hR t rfl;exact zfk 4 g1 (by omega) fq (by rw [List.length_map];rw [List.length_map]at g3;exact g3) (by omega) (hQ _ sub)
theorem Mv.nd{n:Nat}{x y z:Tr}:Mv B n x y z→ ∃s ts z' us,x= .nd s ts∧y= .nd z' us
 | .nn _ _ _=>⟨_,_,_,_,rfl,rfl⟩
 | .ns _ _ _ _ _=>⟨_,_,_,_,rfl,rfl⟩
 | .sn _ _ _ _=>⟨_,_,_,_,rfl,rfl⟩
 | .ss _ _ _ _=>⟨_,_,_,_,rfl,rfl⟩
section
variable {T:WS}{E:WX}{D:WEnds}{r:Nat}{x0 x1 x2 x5 x6 x7:Option W}
theorem zrg (h:T E D [x0,x1,x2,some (zdQ none),some (zdQ none),x5,x6,x7] S):zoT r T E D [x0,x1,x2,some (zdQ none),some (zdQ none),x5,x6,x7] S:=by
 rw [show zdQ none=W.non from rfl]at h⊢;unfold zoT;walk_at "wp";exact h
theorem zso{t t':Tn}(h:T E D [x0,x1,x2,some (zdQ (some t')),some (zdQ (some t)),x5,x6,x7] S):zoT r T E D [x0,x1,x2,some (zdQ (some t')),some (zdQ (some t)),x5,x6,x7] S:=by
 have ee:∀t:Tn,zdQ (some t)= .tup [.str t.1,enc t.2.1,enc t.2.2]:=fun _=>rfl;rw [ee,ee]at h⊢;unfold zoT;walk_at "wp";exact h
theorem zsm{t:Tn}{x:Tr}{ms:List Tr}(e:t.2.1.mt x=some ms) (hr:t.2.1.depth<r) (ft:x.fits 0) (hw:t.2.1.weight≤90000) (h:∀q,S q=none→T E D [x0,some (enc x),x2,some (zdQ none),some (zdQ (some t)),some (.ref q),x6,x7] (put S q (.lst (zaA ms)))):zoT (r+1) T E D [x0,some (enc x),x2,some (zdQ none),some (zdQ (some t)),x5,x6,x7] S:=by
 have ee:∀t:Tn,zdQ (some t)= .tup [.str t.1,enc t.2.1,enc t.2.2]:=fun _=>rfl;have a1:∀t:Tn,atI [W.str t.1,enc t.2.1,enc t.2.2] 1=some (enc t.2.1):=fun _=>rfl;rw [ee,show zdQ none=W.non from rfl]at *;unfold zoT;walk_at "wp";rw [a1];dsimp only;refine zgE hr ft hw (fun ys hys q hq=>?_) fun h0=>by rw [e]at h0;cases h0
 rw [e]at hys;cases hys
 try walk_at "wp"
 exact h q hq
theorem zsl{t:Tn}{y:Tr}{ms:List Tr}(e:t.2.1.mt y=some ms) (hr:t.2.1.depth<r) (ft:y.fits 0) (hw:t.2.1.weight≤90000) (h:∀q,S q=none→T E D [x0,x1,some (enc y),some (zdQ (some t)),some (zdQ none),x5,some (.ref q),x7] (put S q (.lst (zaA ms)))):zoT (r+1) T E D [x0,x1,some (enc y),some (zdQ (some t)),some (zdQ none),x5,x6,x7] S:=by
 have ee:∀t:Tn,zdQ (some t)= .tup [.str t.1,enc t.2.1,enc t.2.2]:=fun _=>rfl;have a1:∀t:Tn,atI [W.str t.1,enc t.2.1,enc t.2.2] 1=some (enc t.2.1):=fun _=>rfl;rw [ee,show zdQ none=W.non from rfl]at *;unfold zoT;walk_at "wp";rw [a1];dsimp only;refine zgE hr ft hw (fun ys hys q hq=>?_) fun h0=>by rw [e]at h0;cases h0
 rw [e]at hys;cases hys
 try walk_at "wp"
 exact h q hq
end
theorem zkL (hB:∀t∈B,t.2.1.depth≤4∧t.2.1.weight≤100∧t.2.2.depth≤4∧t.2.2.weight≤100∧t.2.2.fits t.2.1.nb):∀(n:Nat) {S:Sto}{x y z:Tr}{r:Nat}{Q:WK}{E:Str→Sto→Prop},S a=some (.lst (B.map zbW))→Mv B n x y z→n+12≤r→x.hd (fun _=>True)→y.hd (fun _=>True)→x.weight≤1000→y.weight≤1000→Q (enc z) S→zbB (r+1) [.ref a,enc x,enc y] S Q E
 |0,S,x,y,z,r,Q,E,ha,M,hr,hx,hy,wx,wy,h=>by cases M
 |n+1,S,x,y,z,r,Q,E,ha,M,hr,hx,hy,wx,wy,h=>by
  obtain⟨r,rfl⟩:∃r',r=r'+1:=⟨r - 1,by omega⟩
  have one:∀{as bs:List Tr},hds (fun _=>True) as→hds (fun _=>True) bs→wts as≤1000→wts bs≤1000→ ∀(S1:Sto),Sub S S1→ ∀{a' b' c':Tr}{Q:WK}{E:Str→Sto→Prop},a'∈as→b'∈bs→Mv B n a' b' c'→Q (enc c') S1→zbB (r+1) [.ref a,enc a',enc b'] S1 Q E:=fun {as bs} h1 h2 h3 h4 S1 sb {a' b' c' Q E} m1 m2 M q=>
   zkL hB n (sb _ _ ha) M (by omega) (hds_iff.mp h1 _ m1) (hds_iff.mp h2 _ m2) (by have:=zdd m1;omega) (by have:=zdd m2;omega) q
  have start:∀{s z:Str}{ts us:List Tr}{E':WX}{D:WEnds}{S1:Sto}{va vb vf:W}{f:Option Tn}{as bs cs:List Tr},S1 a=some (.lst (B.map zbW))→Sub S S1→zsU S1 va (zaA as)→zsU S1 vb (zaA bs)→Mvs B n as bs cs→hds (fun _=>True) as→hds (fun _=>True) bs→wts as≤1000→wts bs≤1000→(∀t,f=some t→t∈B∧cs.length=t.2.1.nb)→(∀S',Sub S S'→D.rt (enc (zvI f s cs)) S')→
    zvd (r+1) E' D [some (.ref a),some (W.tup (W.str s::zaA ts)),some (W.tup (W.str z::zaA us)),some vf,some (zdQ f),some va,some vb,none] S1:=fun {s z ts us E' D S1 va vb vf f as bs cs} hS1 sb q1 q2 M h1 h2 h3 h4 hf hQ=>by
   have hl:=zcl as;have:=zpF (x:= .nd s ts) (y:= .nd z us) (vf:=vf) (f:=f) (x7:=none) (E:=E') (D:=D) rfl hS1 q1 q2 M (by omega) (fun t ht=>by
    obtain⟨m,e⟩:=hf t ht;obtain⟨g1,g2,g3,g4,g5⟩:=hB t m;exact⟨g3,g4,by rw [e];exact g5⟩) (by omega) (one h1 h2 h3 h4 S1 sb) fun S' sb'=>hQ S' (sb.trans sb')
   simpa only[enc]using this
  obtain⟨s,ts,z',us,rfl,rfl⟩:=M.nd;have ex:enc (.nd s ts)= .tup (.str s::zaA ts):=by simp only[enc]
  have ey:enc (.nd z' us)= .tup (.str z'::zaA us):=by simp only[enc]
  have hx':=hx;have hy':=hy;have wx':=wx;have wy':=wy;simp only[Tr.hd]at hx' hy';simp only[Tr.weight]at wx' wy';rw [zly,ex,ey];walk_at "wp";refine zfx ha (zfx ha ?_);cases M with
  | @nn _ _ _ _ _ cs e1 e2 M=>
   rw [e1,e2];exact zrg (start (f:=none) ha .refl (.inl rfl) (.inl rfl) M hx'.2 hy'.2 (by omega) (by omega) (fun _ h=>nomatch h) fun S' sb=>⟨_,sb,h⟩)
  | @ns _ _ _ _ _ cs ms t e1 e2 e3 e4 M=>
   have ht:t∈B:=List.mem_of_find?_eq_some e2;have hm:=zrv t.2.1 _ _ e3 hx;have ft:=zfv (m:=0) _ hx;obtain⟨g1,g2,g3,g4,g5⟩:=hB t ht;rw [e1,e2,←ex];refine zsm e3 (by omega) ft (by omega) fun q hq=>?_;rw [ex];exact start (f:=some t) (keep ha hq) (.put .refl hq) (.inr ⟨q,rfl,zah⟩) (.inl rfl) M hm.1 hy'.2 (by omega) (by omega) (fun _ h=>by cases h;exact⟨ht,e4⟩) fun S' sb=>⟨_,sb,h⟩
  | @sn _ _ _ _ _ cs ms t e1 e2 e3 M=>
   have ht:t∈B:=List.mem_of_find?_eq_some e1;have hm:=zrv t.2.1 _ _ e3 hy;have ft:=zfv (m:=0) _ hy;obtain⟨g1,g2,g3,g4,g5⟩:=hB t ht;rw [e1,e2,←ey];refine zsl e3 (by omega) ft (by omega) fun q hq=>?_;rw [ey];exact start (f:=none) (keep ha hq) (.put .refl hq) (.inl rfl) (.inr ⟨q,rfl,zah⟩) M hx'.2 hm.1 (by omega) (by omega) (fun _ h=>nomatch h) fun S' sb=>⟨_,sb,h⟩
  | @ss _ _ _ _ _ cs t t' e1 e2 e3 M=>
   have ht:t∈B:=List.mem_of_find?_eq_some e2;rw [e1,e2];exact zso (start (f:=some t) ha .refl (.inl rfl) (.inl rfl) M hx'.2 hy'.2 (by omega) (by omega) (fun _ h=>by cases h;exact⟨ht,e3⟩) fun S' sb=>⟨_,sb,h⟩)
end
theorem zrh:zap 1=fun t=>t.2.1:=by funext t;exact if_pos rfl
theorem zvh:zap 2=fun t=>t.2.2:=by funext t;exact if_neg (by decide)
section
mutual
theorem zvO:∀(L t:Tr) (ys:List Tr),L.mt t=some ys→ ∀y∈ys,y.depth≤t.depth
 | .bl n,t,ys,e,y,hy=>by
  rw [Tr.mt]at e;cases e;rw [List.mem_singleton]at hy;rw [hy];exact Nat.le_refl _
 | .nd s ls, .bl n,ys,e,y,hy=>by rw [Tr.mt]at e;cases e
 | .nd s ls, .nd z us,ys,e,y,hy=>by
  rw [Tr.mt]at e;split at e
  ·have:=zlY ls us ys e y hy;rw [Tr.depth];omega
  ·cases e
theorem zlY:∀(ls us ys:List Tr),mts ls us=some ys→ ∀y∈ys,y.depth≤dts us
 | [],us,ys,e,y,hy=>by rw [mts]at e;cases e;cases hy
 |l::ls,[],ys,e,y,hy=>by rw [mts]at e;cases e;cases hy
 |l::ls,u::us,ys,e,y,hy=>by
  rw [mts]at e;cases q1:l.mt u with
  |none=>rw [q1]at e;cases e
  |some xs=>
   rw [q1]at e;cases q2:mts ls us with
   |none=>rw [q2]at e;cases e
   |some zs=>
    rw [q2]at e;cases e;rw [dts];rcases List.mem_append.mp hy with hy |hy
    ·have:=zvO l u xs q1 y hy;omega
    ·have:=zlY ls us zs q2 y hy;omega
end
structure Pk (ws hs:List Str) (B:List Tn) (p:Pl):Prop where
  b:BkOk ws hs B
  m:zvV B
  o:PlOk hs B p
  dp:∀{c:Int→Nat},(p.ev B c).depth≤40
  wt:∀{c:Int→Nat},(p.ev B c).weight≤400
noncomputable def Ok2 (c d:Int→Nat):Prop:=∀x:Int,0≤x→x<8→(c x≤1∧d x≤1)∨(c x=2∧d x=2)
theorem zhq{x y e1 e2 e3:W}(k1:∀{Q:WK}{E:Str→Sto→Prop},Q e1 S→zbk r [.ref a,x,y] S Q E) (k2:∀{Q:WK}{E:Str→Sto→Prop},Q e2 S→zdv r [.ref a,y] S Q E) (k3:∀{Q:WK}{E:Str→Sto→Prop},Q e3 S→zbB r [.ref a,x,y] S Q E) (h:Q e3 S):zdi (r+1) [.ref a,x,y] S Q E:=by
 rw [zdi];walk_at "wp";exact k1 (k2 (k3 ⟨_, .refl,h⟩))
end
theorem zmL (f x:Int):byC f x≤1:=by unfold byC;split<;>omega
noncomputable def pps (B:List Tn) (s:Str) (n:Nat):List (List Int):=match zaG B s with
 |none=>(List.range n).map fun(i:Nat)=>[(i:Int)]
 |some t=>t.2.1.bls.map fun x=>x.1
mutual
noncomputable def Tr.us (B:List Tn) (p:List Int):Tr→List (List Int×Str)
 | .bl _=>[]
 | .nd s ts=>(match zaG B s with
  |none=>[]
  |some _=>[(p,s)])++usz B p (pps B s ts.length) ts
noncomputable def usz (B:List Tn) (p:List Int):List (List Int)→List Tr→List (List Int×Str)
 |q::qs,t::ts=>t.us B (p++q)++usz B p qs ts
 |_,_=>[]
end
noncomputable def ppl (B:List Tn) (k:Int) (n:Nat):List (List Int):=if k<0 then(List.range n).map fun(i:Nat)=>[(i:Int)] else(B.getD k.toNat (⟨#[]⟩, .bl 0, .bl 0)).2.1.bls.map fun x=>x.1
mutual
noncomputable def Pl.ns (B:List Tn) (p:List Int):Pl→List (List Int×Int×Str)
 | .nd k b h ps=>(if k<0 then [] else [(p,b,(B.getD k.toNat (⟨#[]⟩, .bl 0, .bl 0)).1)])++nsz B p (ppl B k ps.length) ps
noncomputable def nsz (B:List Tn) (p:List Int):List (List Int)→List Pl→List (List Int×Int×Str)
 |q::qs,t::ts=>t.ns B (p++q)++nsz B p qs ts
 |_,_=>[]
end
noncomputable def zxG (c:Int→Nat) (xs:List (List Int×Int×Str)):List (List Int×Str):=(xs.filter fun x=>c x.2.1 == 1).map fun x=>(x.1,x.2.2)
noncomputable def ziZ (B:List Tn) (t:Tr):Option Tn:=B.find? fun u=>(u.2.1.mt t).isSome
mutual
noncomputable def Tr.op (B:List Tn) (p:List Int):Tr→List (List Int×Str)
 | .bl _=>[]
 | .nd s ts=>(match ziZ B (.nd s ts) with
  |none=>[]
  |some t=>[(p,t.1)])++ops B p 0 ts
noncomputable def ops (B:List Tn) (p:List Int) (i:Nat):List Tr→List (List Int×Str)
 | []=>[]
 |t::ts=>t.op B (p++[(i:Int)])++ops B p (i+1) ts
end
theorem zgo{n:Nat}{h c d:Str}{L:Tr}(hL:L∈zcj n h c d):∃ts,L= .nd h ts:=by
 unfold zcj at hL;split at hL<;>simp only[List.mem_cons,List.not_mem_nil,or_false]at hL
 all_goals first
  | (subst hL;exact⟨_,rfl⟩)
  | (rcases hL with rfl |rfl<;>exact⟨_,rfl⟩)
theorem zrf{s z:Str}{ls us:List Tr}(h:((Tr.nd s ls).mt (.nd z us)).isSome=true):s=z:=by
 simp only[Tr.mt]at h;split at h
 ·rename_i q;simp only[Bool.and_eq_true,beq_iff_eq]at q;exact q.1
 ·cases h
section
variable {w0 w1 w2 w3 w4 w5:Str}{tt:List Str}{B:List Tn}
theorem zfG (n:Nat) (h c d:Str):(zcj n h c d).Nodup:=by
 unfold zcj;split<;>simp
theorem BookOk.inj (b:BookOk w0 w1 w2 w3 w4 w5 tt B) (G:Signs w0 w1 w2 w3 w4 w5):(B.map fun t=>t.2.1).Nodup:=by
 obtain⟨n,m,e⟩:=b.lf;rw [e,List.nodup_append];refine⟨zfG ..,zfG ..,fun x hx y hy=>?_⟩;obtain⟨ts,rfl⟩:=zgo hx;obtain⟨us,rfl⟩:=zgo hy;intro z;cases z;exact G.n0 _ (by simp) rfl
end
mutual
inductive Wi (B:List Tn) (wn:List (List Int)):Nat→List Int→Tr→Tr→Prop
 |no {n:Nat}{p:List Int}{s:Str}{ts us:List Tr}:p∉wn→zaG B s=none→Wis B wn n p ((List.range ts.length).map fun(i:Nat)=>[(i:Int)]) ts us→Wi B wn (n+1) p (.nd s ts) (.nd s us)
 |yes {n:Nat}{p:List Int}{s:Str}{ts us ms:List Tr}{t:Tn}:p∈wn→ziZ B (.nd s ts)=some t→t.2.1.mt (.nd s ts)=some ms→zaG B t.1=some t→Wis B wn n p (t.2.1.bls.map fun x=>x.1) ms us→Wi B wn (n+1) p (.nd s ts) (.nd t.1 us)
inductive Wis (B:List Tn) (wn:List (List Int)):Nat→List Int→List (List Int)→List Tr→List Tr→Prop
 |nil {n:Nat}{p:List Int}:Wis B wn n p [] [] []
 |cons {n:Nat}{p q:List Int}{qs:List (List Int)}{t u:Tr}{ts us:List Tr}:Wi B wn n (p++q) t u→Wis B wn n p qs ts us→Wis B wn n p (q::qs) (t::ts) (u::us)
end
noncomputable def zbb (qs:List (List Int)):Prop:=qs.Pairwise fun a b=>¬a <+:b∧ ¬b <+:a
section
variable {c:Int→Nat}
noncomputable def One (c:Int→Nat):Prop:=∀x:Int,0≤x→x<8→c x≤1
theorem One.src (hc:One c):∀x:Int,0≤x→x<8→zkW c x=0:=fun x h0 h1=>by
 have:=hc x h0 h1;unfold zkW;split<;>omega
end
theorem zfQ (f:Int):One (byC f):=fun x _ _=>zmL f x
noncomputable def ztl (B:List Tn) (x:List Int×Tr):List (List Int×Str):=(ziZ B x.2).toList.map fun b=>(x.1,b.1)
mutual
theorem znc (B:List Tn):∀(t:Tr) (p:List Int),t.fits 0→(t.plt p).flatMap (ztl B)=t.op B p
 | .bl n,p,h=>by
  simp only[Tr.fits]at h;omega
 | .nd s ts,p,h=>by
  simp only[Tr.fits]at h;rw [Tr.plt,List.flatMap_cons,zmp B ts p 0 h,Tr.op,ztl];cases ziZ B (.nd s ts)<;>rfl
theorem zmp (B:List Tn):∀(ts:List Tr) (p:List Int) (i:Nat),fitss 0 ts→(zhv p i ts).flatMap (ztl B)=ops B p i ts
 | [],p,i,h=>by simp [zhv,ops]
 |t::ts,p,i,h=>by
  simp only[fitss]at h;rw [zhv,ops,List.flatMap_append,znc B t _ h.1,zmp B ts p (i+1) h.2]
end
theorem zqR{S:Sto}{n:Nat}{a b:Addr}{xs:List W}(ha:S a=some (.lst xs)) (hb:S b=some (.lst xs)) (h:zek (eqF S n) xs xs=some true):eqF S (n+1) (.ref a) (.ref b)=some true:=by
 show(match S a with
  |some (.lst xs)=>match S b with
   |some (.lst ys)=>zek (eqF S n) xs ys
   |_=>none
  |_=>none)=some true
 rw [ha,hb];exact h
section
variable {c d:Int→Nat}
theorem ziY{c d:Int→Nat}(hc:One c) (hd:One d):Ok2 c d:=fun x h0 h1=> .inl ⟨hc x h0 h1,hd x h0 h1⟩
end
noncomputable def u1 (B:List Tn) (p:Pl):List (List Int×Str):=zxG (byC 1) (p.ns B [])
mutual
noncomputable def Tr.ord (k:Nat):Tr→Option Nat
 | .bl n=>if n=(k:Int) then some (k+1) else none
 | .nd _ ts=>zkV k ts
noncomputable def zkV (k:Nat):List Tr→Option Nat
 | []=>some k
 |t::ts=>match t.ord k with
  |some m=>zkV m ts
  |none=>none
end
noncomputable def zvB (B:List Tn) (z:Str):Prop:=∀u∈B,∀s ls,u.2.1= .nd s ls→s≠z
structure Ort (B:List Tn):Prop where
  inn:∀t∈B,∃s ls,t.2.1= .nd s ls∧hbs (zvB B) ls
  mt:zvV B
  fm:∀t∈B,∀x ys,t.2.1.mt x=some ys→x=t.2.1.fill ys∧ys.length=t.2.1.nb
  one:∀u∈B,∀v∈B,∀x:Tr,(u.2.1.mt x).isSome=true→(v.2.1.mt x).isSome=true→u=v
  od:∀t∈B,t.2.1.ord 0=some t.2.1.nb
mutual
theorem zqa:∀(L x:Tr) (ys:List Tr) (k m:Nat),L.ord k=some m→L.mt x=some ys→ys.length+k=m∧ ∀pre post:List Tr,pre.length=k→L.fill (pre++ys++post)=x
 | .bl n,x,ys,k,m,h,e=>by
  rw [Tr.ord]at h;split at h
  ·rename_i hn;cases h;rw [Tr.mt]at e;cases e;refine⟨by simp;omega,fun pre post hp=>?_⟩;rw [Tr.fill,hn,Int.toNat_natCast,List.getD_eq_getElem?_getD,List.append_assoc,List.getElem?_append_right (by omega),hp,Nat.sub_self];rfl
  ·cases h
 | .nd s ls, .bl n,ys,k,m,h,e=>by rw [Tr.mt]at e;cases e
 | .nd s ls, .nd z us,ys,k,m,h,e=>by
  rw [Tr.mt]at e;split at e
  ·rename_i hc;rw [Bool.and_eq_true,beq_iff_eq,beq_iff_eq]at hc;rw [Tr.ord]at h;obtain⟨h1,h2⟩:=zmA ls us ys k m hc.2 h e;exact⟨h1,fun pre post hp=>by rw [Tr.fill,h2 pre post hp,hc.1]⟩
  ·cases e
theorem zmA:∀(ls us ys:List Tr) (k m:Nat),ls.length=us.length→zkV k ls=some m→mts ls us=some ys→ys.length+k=m∧ ∀pre post:List Tr,pre.length=k→fills (pre++ys++post) ls=us
 | [],us,ys,k,m,hl,h,e=>by
  rw [zkV]at h;cases h;rw [mts]at e;cases e;cases us with
  |nil=>exact⟨by simp,fun _ _ _=>by rw [fills]⟩
  |cons _ _=>cases hl
 |l::ls,[],ys,k,m,hl,h,e=>by cases hl
 |l::ls,u::us,ys,k,m,hl,h,e=>by
  rw [zkV]at h;rw [mts]at e;cases q:l.ord k with
  |none=>rw [q]at h;cases h
  |some j=>
   rw [q]at h;cases q1:l.mt u with
   |none=>rw [q1]at e;cases e
   |some xs=>
    rw [q1]at e;cases q2:mts ls us with
    |none=>rw [q2]at e;cases e
    |some zs=>
     rw [q2]at e;cases e;obtain⟨h1,h2⟩:=zqa l u xs k j q q1;obtain⟨h3,h4⟩:=zmA ls us zs j m (by simpa using hl) h q2;refine⟨by rw [List.length_append];omega,fun pre post hp=>?_⟩;rw [fills];have e1:=h2 pre (zs++post) hp;have e2:=h4 (pre++xs) post (by rw [List.length_append];omega);have a1:pre++(xs++zs)++post=pre++xs++(zs++post):=by simp
     have a2:pre++(xs++zs)++post=pre++xs++zs++post:=by simp
     rw [a1,e1,←a1,a2,e2]
end
theorem zkS{n:Nat}{h c d:Str}{L:Tr}(hL:L∈zcj n h c d):L.ord 0=some L.nb:=by
 unfold zcj at hL;split at hL<;>simp only[List.mem_cons,List.not_mem_nil,or_false]at hL
 all_goals first
  | (subst hL;simp [Tr.ord,zkV,Tr.nb,nbs])
  | (rcases hL with rfl |rfl<;>simp [Tr.ord,zkV,Tr.nb,nbs])
structure Wy (ws:List Str) (B:List Tn) (a:Tr):Prop where
  hd:a.hd fun s=>s∈ws∨ ∃t∈B,t.1=s
  ar:a.ar B
noncomputable abbrev src (B:List Tn) (a:Tr):Tr:=a.mk B fun t=>t.2.1
noncomputable abbrev gol (B:List Tn) (a:Tr):Tr:=a.mk B fun t=>t.2.2
section
variable {ws:List Str}{B:List Tn}
theorem zjq{P:Str→Prop}:∀{ts:List Tr}{t:Tr},hds P ts→t∈ts→t.hd P
 |u::ts,t,h,ht=>by
  rw [hds]at h;rcases List.mem_cons.mp ht with rfl |ht
  ·exact h.1
  ·exact zjq h.2 ht
theorem zjy:∀{ts:List Tr}{t:Tr},ars B ts→t∈ts→t.ar B
 |u::ts,t,h,ht=>by
  rw [ars]at h;rcases List.mem_cons.mp ht with rfl |ht
  ·exact h.1
  ·exact zjy h.2 ht
theorem Wy.cases (b:BkOk ws ws B) {a:Tr}(h:Wy ws B a):(∃s as,a= .nd s as∧s∈ws∧zaG B s=none∧ ∀x∈as,Wy ws B x)∨(∃t as,t∈B∧a= .nd t.1 as∧zaG B t.1=some t∧as.length=t.2.1.nb∧ ∀x∈as,Wy ws B x):=by
 obtain⟨h1,h2⟩:=h;cases a with
 |bl n=>rw [Tr.hd]at h1;exact h1.elim
 |nd s as=>
  rw [Tr.hd]at h1;rw [Tr.ar]at h2;have kids:∀x∈as,Wy ws B x:=fun x hx=>⟨zjq h1.2 hx,zjy h2.2 hx⟩;rcases h1.1 with h |⟨t,ht,rfl⟩
  ·exact .inl ⟨s,as,rfl,h,zar b.ti (b.sg s h),kids⟩
  ·have e:=zch b.nd ht;exact .inr ⟨t,as,ht,rfl,e,h2.1 t e,kids⟩
theorem zfz{g:Tn→Tr}{s:Str}{as:List Tr}(h:zaG B s=none):(Tr.nd s as).mk B g= .nd s (as.map (Tr.mk B g)):=by
 rw [Tr.mk,h,zeo]
theorem zem{g:Tn→Tr}{t:Tn}{as:List Tr}(h:zaG B t.1=some t):(Tr.nd t.1 as).mk B g=(g t).fill (as.map (Tr.mk B g)):=by
 rw [Tr.mk,h,zeo]
mutual
theorem zua (b:BkOk ws ws B) (O:Ort B):∀(L a:Tr),L.hb (zvB B)→Wy ws B a→(L.mt (src B a)).isSome=true→(L.mt a).isSome=true
 | .bl n,a,_,_,_=>by rw [Tr.mt];rfl
 | .nd z ls,a,hL,ha,h=>by
  rw [Tr.hb]at hL;rcases ha.cases b with⟨s,as,rfl,hs,e,kids⟩ |⟨t,as,ht,rfl,e,hl,kids⟩
  ·rw [show src B (.nd s as)= .nd s (as.map (src B)) from zfz e,Tr.mt,List.length_map]at h;rw [Tr.mt];split at h
   ·rename_i hc;rw [if_pos hc];exact zjh b O ls as hL.2 kids h
   ·cases h
  ·obtain⟨s0,l0,e0,_⟩:=O.inn t ht;rw [show src B (.nd t.1 as)=t.2.1.fill (as.map (src B)) from zem e,e0,Tr.fill]at h;exact absurd (zrf h).symm (hL.1 t ht s0 l0 e0)
theorem zjh (b:BkOk ws ws B) (O:Ort B):∀(ls as:List Tr),hbs (zvB B) ls→(∀x∈as,Wy ws B x)→(mts ls (as.map (src B))).isSome=true→(mts ls as).isSome=true
 | [],as,_,_,_=>by rw [mts];rfl
 |l::ls,[],_,_,_=>by rw [mts];rfl
 |l::ls,a::as,hL,ha,h=>by
  rw [hbs]at hL;rw [List.map_cons,mts]at h;cases q1:l.mt (src B a) with
  |none=>rw [q1]at h;cases h
  |some xs=>
   rw [q1]at h;cases q2:mts ls (as.map (src B)) with
   |none=>rw [q2]at h;cases h
   |some zs=>
    have h1:=zua b O l a hL.1 (ha a (by simp)) (by rw [q1];rfl);have h2:=zjh b O ls as hL.2 (fun x hx=>ha x (List.mem_cons_of_mem _ hx)) (by rw [q2];rfl);obtain⟨x1,h1⟩:=Option.isSome_iff_exists.mp h1;obtain⟨x2,h2⟩:=Option.isSome_iff_exists.mp h2;rw [mts,h1,h2];rfl
end
end
section
variable {ws:List Str}{B:List Tn}
theorem Wy.kids{s:Str}{as:List Tr}(h:Wy ws B (.nd s as)):∀x∈as,Wy ws B x:=fun x hx=>by
 obtain⟨h1,h2⟩:=h;rw [Tr.hd]at h1;rw [Tr.ar]at h2;exact⟨zjq h1.2 hx,zjy h2.2 hx⟩
mutual
theorem zsJ:∀(L a:Tr) (ys:List Tr),L.mt a=some ys→Wy ws B a→ ∀y∈ys,Wy ws B y
 | .bl n,a,ys,e,h,y,hy=>by
  rw [Tr.mt]at e;cases e;rw [List.mem_singleton]at hy;rw [hy];exact h
 | .nd s ls, .bl n,ys,e,h,y,hy=>by rw [Tr.mt]at e;cases e
 | .nd s ls, .nd z us,ys,e,h,y,hy=>by
  rw [Tr.mt]at e;split at e
  ·exact zqp ls us ys e h.kids y hy
  ·cases e
theorem zqp:∀(ls us ys:List Tr),mts ls us=some ys→(∀x∈us,Wy ws B x)→ ∀y∈ys,Wy ws B y
 | [],us,ys,e,h,y,hy=>by rw [mts]at e;cases e;cases hy
 |l::ls,[],ys,e,h,y,hy=>by rw [mts]at e;cases e;cases hy
 |l::ls,u::us,ys,e,h,y,hy=>by
  rw [mts]at e;cases q1:l.mt u with
  |none=>rw [q1]at e;cases e
  |some xs=>
   rw [q1]at e;cases q2:mts ls us with
   |none=>rw [q2]at e;cases e
   |some zs=>
    rw [q2]at e;cases e;rcases List.mem_append.mp hy with hy |hy
    ·exact zsJ l u xs q1 (h u (by simp)) y hy
    ·exact zqp ls us zs q2 (fun x hx=>h x (List.mem_cons_of_mem _ hx)) y hy
end
theorem zom (b:BkOk ws ws B) {t:Tn}(ht:t∈B) {vs:List Tr}(hl:vs.length=t.2.1.nb) (g:Tn→Tr):(t.2.1.fill vs).mk B g=t.2.1.fill (vs.map (Tr.mk B g)):=
 zgV b.ti _ (b.lf t ht).hb (by rw [hl];exact(b.lf t ht).fits)
theorem zfB (b:BkOk ws ws B) (O:Ort B) {t:Tn}(ht:t∈B) {s:Str}{bs us:List Tr}(e:zaG B s=none) (hw:Wy ws B (.nd s bs)) (hl:us.length=t.2.1.nb) (h:src B (.nd s bs)=t.2.1.fill us) :
  ∃vs, .nd s bs=t.2.1.fill vs∧vs.length=t.2.1.nb∧vs.map (src B)=us∧(∀x∈vs,Wy ws B x)∧wts vs≤(Tr.nd s bs).weight:=by
 obtain⟨s0,ls,e0,hin⟩:=O.inn t ht;have hm:t.2.1.mt (src B (.nd s bs))=some us:=by rw [h];exact O.mt t ht us hl
 have h1:(t.2.1.mt (.nd s bs)).isSome=true:=by
  have hm':=hm;rw [show src B (.nd s bs)= .nd s (bs.map (src B)) from zfz e,e0,Tr.mt,List.length_map]at hm';rw [e0,Tr.mt];split at hm'
  ·rename_i hc;rw [if_pos hc];exact zjh b O ls bs hin hw.kids (by rw [hm'];rfl)
  ·cases hm'
 obtain⟨vs,hv⟩:=Option.isSome_iff_exists.mp h1;obtain⟨h2,h3⟩:=O.fm t ht _ _ hv;refine⟨vs,h2,h3,?_,zsJ _ _ _ hv hw,zhL _ _ _ hv⟩;rw [h2,show src B (t.2.1.fill vs)=_ from zom b ht h3 _,O.mt t ht _ (by rw [List.length_map,h3])]at hm;exact Option.some.inj hm
theorem zfw{s:Str}{as:List Tr}:(Tr.nd s as).weight=1+wts as:=by rw [Tr.weight]
inductive PlB (P:Int→Prop):Pl→Prop
 |sign {b:Int}{h:Str}{ps:List Pl}:(∀p∈ps,PlB P p)→PlB P (.nd (-1) b h ps)
 |turn {k:Nat}{b:Int}{h:Str}{ps:List Pl}:P b→(∀p∈ps,PlB P p)→PlB P (.nd k b h ps)
noncomputable def zsx (x:Int):Prop:=x=1∨x=2∨x=3
theorem ztL (b:BkOk ws ws B) (O:Ort B):∀(n:Nat) (x y:Tr),x.weight+y.weight≤n→Wy ws B x→Wy ws B y→src B x=src B y→ ∃p,PlOk ws B p∧PlB zsx p∧p.ev B (byC 1)=x∧p.ev B (byC 2)=y
 |0,x,y,hn,hx,hy,e=>by
  rcases hx.cases b with⟨s,as,rfl,_⟩ |⟨t,as,_,rfl,_⟩<;>rw [zfw]at hn<;>omega
 |n+1,x,y,hn,hx,hy,e=>by
  have lists:∀(xs ys:List Tr),wts xs+wts ys≤n→(∀x∈xs,Wy ws B x)→(∀y∈ys,Wy ws B y)→xs.map (src B)=ys.map (src B)→ ∃ps:List Pl,(∀p∈ps,PlOk ws B p)∧(∀p∈ps,PlB zsx p)∧ps.map (Pl.ev B (byC 1))=xs∧ps.map (Pl.ev B (byC 2))=ys:=by
   intro xs
   induction xs with
   |nil=>
    intro ys _ _ _ e;cases ys with
    |nil=>exact⟨[],by simp,by simp,rfl,rfl⟩
    |cons y ys=>cases e
   |cons x xs ih=>
    intro ys hw h1 h2 e;cases ys with
    |nil=>cases e
    |cons y ys=>
     rw [List.map_cons,List.map_cons,List.cons.injEq]at e;rw [wts,wts]at hw;obtain⟨p,hp,hq,e1,e2⟩:=ztL b O n x y (by omega) (h1 x (by simp)) (h2 y (by simp)) e.1;obtain⟨ps,hps,hqs,e3,e4⟩:=ih ys (by omega) (fun z hz=>h1 z (List.mem_cons_of_mem _ hz)) (fun z hz=>h2 z (List.mem_cons_of_mem _ hz)) e.2;exact⟨p::ps,fun q hq=>by
      rcases List.mem_cons.mp hq with rfl |hq
      ·exact hp
      ·exact hps q hq,fun q hz=>by
      rcases List.mem_cons.mp hz with rfl |hz
      ·exact hq
      ·exact hqs q hz,by rw [List.map_cons,e1,e3],by rw [List.map_cons,e2,e4]⟩
  rcases hx.cases b with⟨s,as,rfl,hs,es,ka⟩ |⟨t,as,ht,rfl,et,la,ka⟩
  ·rcases hy.cases b with⟨s',bs,rfl,hs',es',kb⟩ |⟨t,bs,ht,rfl,et,lb,kb⟩
   ·rw [show src B (.nd s as)=_ from zfz es,show src B (.nd s' bs)=_ from zfz es']at e;injection e with e1 e2;subst e1;rw [zfw,zfw]at hn;obtain⟨ps,hps,hqs,e3,e4⟩:=lists as bs (by omega) ka kb e2;exact⟨.nd (-1) 0 s ps, .sign hs hps, .sign hqs,by rw [zbi,e3],by rw [zbi,e4]⟩
   ·rw [show src B (.nd t.1 bs)=_ from zem et]at e;obtain⟨vs,ev,lv,ms,kv,wv⟩:=zfB b O ht es hx (by rw [List.length_map,lb]) e;rw [zfw (s:=t.1)]at hn;obtain⟨ps,hps,hqs,e3,e4⟩:=lists vs bs (by omega) kv kb ms;obtain⟨k,hk⟩:=List.getElem?_of_mem ht;refine⟨.nd k 2 t.1 ps, .turn hk (by rw [←lb,←e4,List.length_map]) (by decide) (by decide) hps, .turn (by unfold zsx;decide) hqs,?_,?_⟩
    ·rw [zaN hk,e3,ev,show byC 1 2=0 by decide];rfl
    ·rw [zaN hk,e4,show byC 2 2=1 by decide];rfl
  ·rcases hy.cases b with⟨s,bs,rfl,hs,es,kb⟩ |⟨u,bs,hu,rfl,eu,lb,kb⟩
   ·rw [show src B (.nd t.1 as)=_ from zem et]at e;obtain⟨vs,ev,lv,ms,kv,wv⟩:=zfB b O ht es hy (by rw [List.length_map,la]) e.symm;rw [zfw (s:=t.1)]at hn;obtain⟨ps,hps,hqs,e3,e4⟩:=lists as vs (by omega) ka kv ms.symm;obtain⟨k,hk⟩:=List.getElem?_of_mem ht;refine⟨.nd k 1 t.1 ps, .turn hk (by rw [←la,←e3,List.length_map]) (by decide) (by decide) hps, .turn (by unfold zsx;decide) hqs,?_,?_⟩
    ·rw [zaN hk,e3,show byC 1 1=1 by decide];rfl
    ·rw [zaN hk,e4,ev,show byC 2 1=0 by decide];rfl
   ·rw [show src B (.nd t.1 as)=_ from zem et,show src B (.nd u.1 bs)=_ from zem eu]at e;have m1:=O.mt t ht (as.map (src B)) (by rw [List.length_map,la]);have m2:=O.mt u hu (bs.map (src B)) (by rw [List.length_map,lb]);have:t=u:=O.one t ht u hu _ (by rw [m1];rfl) (by rw [show(t.2.1.fill (as.map (src B)))=_ from e,m2];rfl)
    subst this;have e2:as.map (src B)=bs.map (src B):=by
     rw [show(t.2.1.fill (as.map (src B)))=_ from e,m2]at m1;exact(Option.some.inj m1).symm
    rw [zfw,zfw]at hn;obtain⟨ps,hps,hqs,e3,e4⟩:=lists as bs (by omega) ka kb e2;obtain⟨k,hk⟩:=List.getElem?_of_mem ht;refine⟨.nd k 3 t.1 ps, .turn hk (by rw [←la,←e3,List.length_map]) (by decide) (by decide) hps, .turn (by unfold zsx;decide) hqs,?_,?_⟩
    ·rw [zaN hk,e3,show byC 1 3=1 by decide];rfl
    ·rw [zaN hk,e4,show byC 2 3=1 by decide];rfl
end
theorem znL:∀xs ys:List Tr,wts (xs++ys)=wts xs+wts ys
 | [],ys=>by rw [List.nil_append,wts,Nat.zero_add]
 |x::xs,ys=>by rw [List.cons_append,wts,wts,znL xs ys,Nat.add_assoc]
mutual
theorem zgN:∀(L:Tr) (k m:Nat),L.ord k=some m→k≤m∧L.nb+k=m∧ ∀(us:List Tr),m≤us.length→(L.fill us).weight+(m - k)=L.weight+wts ((us.drop k).take (m - k))∧ ∀u∈(us.drop k).take (m - k),u.depth≤(L.fill us).depth
 | .bl n,k,m,h=>by
  rw [Tr.ord]at h;split at h
  ·rename_i hn;cases h;refine⟨by omega,by rw [Tr.nb];omega,fun us hu=>?_⟩
   have hk:k<us.length:=by omega
   have e:(us.drop k).take (k+1 - k)=[us[k]]:=by
    rw [show k+1 - k=1 by omega,List.drop_eq_getElem_cons hk]
    rfl
   have f:(Tr.bl n).fill us=us[k]:=by
    rw [Tr.fill,hn,Int.toNat_natCast,List.getD_eq_getElem?_getD,List.getElem?_eq_getElem hk];rfl
   rw [e,f];refine⟨?_,fun u hu=>?_⟩
   ·simp only[Tr.weight,wts];omega
   ·rw [List.mem_singleton]at hu;rw [hu];exact Nat.le_refl _
  ·cases h
 | .nd s ls,k,m,h=>by
  rw [Tr.ord]at h;obtain⟨h1,h2,h3⟩:=zec ls k m h;refine⟨h1,by rw [Tr.nb];exact h2,fun us hu=>?_⟩
  obtain⟨h4,h5⟩:=h3 us hu;rw [Tr.fill,Tr.weight,Tr.weight,Tr.depth];exact⟨by omega,fun u hu'=>Nat.le_trans (h5 u hu') (by omega)⟩
theorem zec:∀(ls:List Tr) (k m:Nat),zkV k ls=some m→k≤m∧nbs ls+k=m∧ ∀(us:List Tr),m≤us.length→wts (fills us ls)+(m - k)=wts ls+wts ((us.drop k).take (m - k))∧ ∀u∈(us.drop k).take (m - k),u.depth≤dts (fills us ls)
 | [],k,m,h=>by
  rw [zkV]at h;cases h;refine⟨Nat.le_refl _,by rw [nbs];omega,fun us _=>?_⟩
  rw [Nat.sub_self,List.take_zero,fills];exact⟨rfl,fun u hu=>by cases hu⟩
 |l::ls,k,m,h=>by
  rw [zkV]at h;cases q:l.ord k with
  |none=>rw [q]at h;cases h
  |some j=>
   rw [q]at h;obtain⟨h1,h2,h3⟩:=zgN l k j q;obtain⟨g1,g2,g3⟩:=zec ls j m h;refine⟨by omega,by rw [nbs];omega,fun us hu=>?_⟩
   obtain⟨h4,h5⟩:=h3 us (by omega);obtain⟨g4,g5⟩:=g3 us hu;have e:(us.drop k).take (m - k)=(us.drop k).take (j - k)++(us.drop j).take (m - j):=by
    rw [show m - k=(j - k)+(m - j) by omega,List.take_add,List.drop_drop,show k+(j - k)=j by omega]
   rw [e,znL,fills,wts,wts,dts];refine⟨by omega,fun u hu=>?_⟩;rcases List.mem_append.mp hu with hu |hu
   ·have:=h5 u hu;omega
   ·have:=g5 u hu;omega
end
theorem zlX:∀(L:Tr),L.nb≤L.weight:=fun L=>by rw [←zuc];exact zrH L
theorem zmY:∀ls:List Tr,nbs ls≤wts ls
 | []=>by rw [nbs,wts];exact Nat.le_refl _
 |l::ls=>by rw [nbs,wts];have:=zlX l;have:=zmY ls;omega
section
variable {B:List Tn}
theorem Ort.fill (O:Ort B) {t:Tn}(ht:t∈B) {us:List Tr}(hl:us.length=t.2.1.nb):(t.2.1.fill us).weight+t.2.1.nb=t.2.1.weight+wts us∧1+wts us≤(t.2.1.fill us).weight∧1+dts us≤(t.2.1.fill us).depth:=by
 obtain⟨s,ls,e,_⟩:=O.inn t ht;have ho:=O.od t ht;obtain⟨_,h2,h3⟩:=zgN _ _ _ ho;obtain⟨h4,_⟩:=h3 us (by omega);rw [Nat.sub_zero,List.drop_zero,List.take_of_length_le (by omega)]at h4;have hw:1+t.2.1.nb≤t.2.1.weight:=by
  rw [e,Tr.nb,Tr.weight];have:=zmY ls;omega
 refine⟨h4,by omega,?_⟩
 rw [e]at ho hl⊢;rw [Tr.ord]at ho;obtain⟨_,_,g3⟩:=zec _ _ _ ho;obtain⟨_,g5⟩:=g3 us (by omega);rw [Nat.sub_zero,List.drop_zero,List.take_of_length_le (by omega)]at g5;rw [Tr.fill,Tr.depth];have:=zqo g5;omega
mutual
noncomputable def Pl.pn:Pl→Nat
 | .nd k _ _ ps=>(if k<0 then 0 else 1)+pns ps
noncomputable def pns:List Pl→Nat
 | []=>0
 |p::ps=>max p.pn (pns ps)
end
noncomputable def zr:Int→Nat:=fun _=>0
end
section
variable {B:List Tn}
mutual
noncomputable def Tr.ne (B:List Tn):Tr→Nat
 | .bl _=>0
 | .nd s ts=>(match zaG B s with
  |none=>0
  |some _=>1)+nes B ts
noncomputable def nes (B:List Tn):List Tr→Nat
 | []=>0
 |t::ts=>max (t.ne B) (nes B ts)
end
theorem zjp{t:Tr}:∀{ts:List Tr},t∈ts→t.ne B≤nes B ts
 |u::ts,h=>by
  rw [nes];rcases List.mem_cons.mp h with rfl |h
  ·omega
  ·have:=zjp h;omega
theorem zjW{n:Nat}:∀{ts:List Tr},(∀t∈ts,t.ne B≤n)→nes B ts≤n
 | [],_=>by rw [nes];omega
 |t::ts,h=>by
  rw [nes];have:=h t (by simp);have:=zjW fun u hu=>h u (List.mem_cons_of_mem _ hu);omega
mutual
theorem zjd (hB:∀t∈B,zbd t.1) {us:List Tr}:∀t:Tr,t.hb zbj→(t.fill us).ne B≤nes B us
 | .bl n,_=>by
  rw [Tr.fill,List.getD_eq_getElem?_getD];cases e:us[n.toNat]? with
  |none=>simp [Tr.ne]
  |some u=>exact zjp (List.mem_of_getElem? e)
 | .nd s ts,h=>by
  rw [Tr.hb]at h;rw [Tr.fill,Tr.ne,zar hB h.1];have:=zjR hB (us:=us) ts h.2;simpa using this
theorem zjR (hB:∀t∈B,zbd t.1) {us:List Tr}:∀ts:List Tr,hbs zbj ts→nes B (fills us ts)≤nes B us
 | [],_=>by rw [fills,nes];omega
 |t::ts,h=>by
  rw [hbs]at h;rw [fills,nes];have:=zjd hB (us:=us) t h.1;have:=zjR hB (us:=us) ts h.2;omega
end
mutual
theorem zqy:∀(L:Tr) (k m:Nat),L.ord k=some m→ ∀(us:List Tr),m≤us.length→ ∀u∈(us.drop k).take (m - k),u.ne B≤(L.fill us).ne B
 | .bl n,k,m,h,us,hu,u,hm=>by
  rw [Tr.ord]at h;split at h
  ·rename_i hn;cases h;have hk:k<us.length:=by omega
   have e:(us.drop k).take (k+1 - k)=[us[k]]:=by
    rw [show k+1 - k=1 by omega,List.drop_eq_getElem_cons hk]
    rfl
   have f:(Tr.bl n).fill us=us[k]:=by
    rw [Tr.fill,hn,Int.toNat_natCast,List.getD_eq_getElem?_getD,List.getElem?_eq_getElem hk];rfl
   rw [e,List.mem_singleton]at hm;rw [f,hm];exact Nat.le_refl _
  ·cases h
 | .nd s ls,k,m,h,us,hu,u,hm=>by
  rw [Tr.ord]at h;have:=zmf ls k m h us hu u hm;rw [Tr.fill,Tr.ne];omega
theorem zmf:∀(ls:List Tr) (k m:Nat),zkV k ls=some m→ ∀(us:List Tr),m≤us.length→ ∀u∈(us.drop k).take (m - k),u.ne B≤nes B (fills us ls)
 | [],k,m,h,us,hu,u,hm=>by
  rw [zkV]at h;cases h;rw [Nat.sub_self,List.take_zero]at hm;cases hm
 |l::ls,k,m,h,us,hu,u,hm=>by
  rw [zkV]at h;cases q:l.ord k with
  |none=>rw [q]at h;cases h
  |some j=>
   rw [q]at h;obtain⟨h1,_,_⟩:=zgN l k j q;obtain⟨g1,_,_⟩:=zec ls j m h;have e:(us.drop k).take (m - k)=(us.drop k).take (j - k)++(us.drop j).take (m - j):=by
    rw [show m - k=(j - k)+(m - j) by omega,List.take_add,List.drop_drop,show k+(j - k)=j by omega]
   rw [e]at hm;rw [fills,nes];rcases List.mem_append.mp hm with hm |hm
   ·have:=zqy l k j q us (by omega) u hm;omega
   ·have:=zmf ls j m h us hu u hm;omega
end
theorem Ort.ne (O:Ort B) {t:Tn}(ht:t∈B) {us:List Tr}(hl:us.length=t.2.1.nb):nes B us≤(t.2.1.fill us).ne B:=zjW fun u hu=>by
 refine zqy _ _ _ (O.od t ht) us (by omega) u ?_;rw [Nat.sub_zero,List.drop_zero,List.take_of_length_le (by omega)];exact hu
theorem zen{c:Int→Nat}{p:Pl}{ps:List Pl}(hp:p∈ps):(p.ev B c).ne B≤nes B (ps.map (Pl.ev B c)):=zjp (List.mem_map.mpr ⟨p,hp,rfl⟩)
theorem znw{n:Nat}:∀{ps:List Pl},(∀p∈ps,p.pn≤n)→pns ps≤n
 | [],_=>by rw [pns];omega
 |p::ps,h=>by
  rw [pns];have:=h p (by simp);have:=znw fun u hu=>h u (List.mem_cons_of_mem _ hu);omega
theorem zvy{c d:Int→Nat}(b:BkOk ws ws B) (O:Ort B) (hc:One c) (hd:One d) {p:Pl}(h:PlOk ws B p) (hb:PlB (fun x=>c x=1∨d x=1) p):p.pn≤(p.ev B c).ne B+(p.ev B d).ne B:=by
 induction h with
 | @sign b' h ps hh hp ih=>
  have kids:∀p∈ps,PlB (fun x=>c x=1∨d x=1) p:=by
   cases hb with
   |sign h=>exact h
  have:pns ps≤nes B (ps.map (Pl.ev B c))+nes B (ps.map (Pl.ev B d)):=znw fun p hp=>by
   have:=ih p hp (kids p hp);have:=zen (B:=B) (c:=c) hp;have:=zen (B:=B) (c:=d) hp;omega
  have e:=zar b.ti (b.sg h hh);rw [zbi,zbi,Pl.pn,if_pos (by decide),Tr.ne,Tr.ne,e];simpa using this
 | @turn k b' h ps t e hl b0 b1 hp ih=>
  have ht:t∈B:=List.mem_of_getElem? e;obtain⟨hb1,kids⟩:(c b'=1∨d b'=1)∧ ∀p∈ps,PlB (fun x=>c x=1∨d x=1) p:=by
   cases hb with
   |turn h1 h2=>exact⟨h1,h2⟩
  have key:pns ps≤nes B (ps.map (Pl.ev B c))+nes B (ps.map (Pl.ev B d)):=znw fun p hp=>by
   have:=ih p hp (kids p hp);have:=zen (B:=B) (c:=c) hp;have:=zen (B:=B) (c:=d) hp;omega
  have en:(Pl.nd k b' h ps).pn=1+pns ps:=by rw [Pl.pn,if_neg (by omega)]
  have low:∀c:Int→Nat,One c→nes B (ps.map (Pl.ev B c))+c b'≤(evT t (c b') (ps.map (Pl.ev B c))).ne B:=fun c hc=>by
   have l1:(ps.map (Pl.ev B c)).length=t.2.1.nb:=by rw [List.length_map,hl]
   have:=hc b' b0 b1;by_cases h1:c b'=1
   ·rw [h1];show _≤(Tr.nd t.1 _).ne B;rw [Tr.ne,zch b.nd ht];show _≤1+_;omega
   ·rw [show c b'=0 by omega]
    exact O.ne ht l1
  rw [zaN e,zaN e,en];have:=low c hc;have:=low d hd;omega
theorem zqE{c d:Int→Nat}(b:BkOk ws ws B) (O:Ort B) (hc:One c) (hd:One d) {p:Pl}(h:PlOk ws B p):(p.ev B (zje c d)).ne B≤(p.ev B c).ne B:=by
 induction h with
 | @sign b' h ps hh hp ih=>
  have:nes B (ps.map (Pl.ev B (zje c d)))≤nes B (ps.map (Pl.ev B c)):=zjW fun u hu=>by
   obtain⟨p,hp,rfl⟩:=List.mem_map.mp hu;exact Nat.le_trans (ih p hp) (zen hp)
  have e:=zar b.ti (b.sg h hh);rw [zbi,zbi,Tr.ne,Tr.ne,e];simpa using this
 | @turn k b' h ps t e hl b0 b1 hp ih=>
  have ht:t∈B:=List.mem_of_getElem? e;have key:nes B (ps.map (Pl.ev B (zje c d)))≤nes B (ps.map (Pl.ev B c)):=zjW fun u hu=>by
   obtain⟨p,hp,rfl⟩:=List.mem_map.mp hu;exact Nat.le_trans (ih p hp) (zen hp)
  have l1:(ps.map (Pl.ev B c)).length=t.2.1.nb:=by rw [List.length_map,hl]
  have low:nes B (ps.map (Pl.ev B c))+c b'≤(evT t (c b') (ps.map (Pl.ev B c))).ne B:=by
   have:=hc b' b0 b1;by_cases h1:c b'=1
   ·rw [h1];show _≤(Tr.nd t.1 _).ne B;rw [Tr.ne,zch b.nd ht];show _≤1+_;omega
   ·rw [show c b'=0 by omega]
    exact O.ne ht l1
  rw [zaN e,zaN e];refine Nat.le_trans ?_ low;have hp:zje c d b'=if d b'=1 then 2 else c b':=rfl;rw [hp];by_cases dz:d b'=1
  ·rw [if_pos dz];have:=zjd b.ti (us:=ps.map (Pl.ev B (zje c d))) t.2.2 ((b.ri t ht).hb b.sg);show(t.2.2.fill _).ne B≤_;omega
  ·rw [if_neg dz];have:=hc b' b0 b1;by_cases h1:c b'=1
   ·rw [h1];show(Tr.nd t.1 _).ne B≤_;rw [Tr.ne,zch b.nd ht];show 1+_≤_;omega
   ·rw [show c b'=0 by omega]
    have:=zjd b.ti (us:=ps.map (Pl.ev B (zje c d))) t.2.1 (b.lf t ht).hb;show(t.2.1.fill _).ne B≤_;omega
end
mutual
theorem Mv.one{B:List Tn}:∀{n m:Nat}{a b c d:Tr},Mv B n a b c→Mv B m a b d→c=d
 |_,_,_,_,_,_, .nn h1 h2 h3,g=>by
  cases g with
  |nn g1 g2 g3=>rw [Mvs.one h3 g3]
  |ns g1 g2 g3 g4 g5=>rw [h2]at g2;cases g2
  |sn g1 g2 g3 g4=>rw [h1]at g1;cases g1
  |ss g1 g2 g3 g4=>rw [h1]at g1;cases g1
 |_,_,_,_,_,_, .ns h1 h2 h3 h4 h5,g=>by
  cases g with
  |nn g1 g2 g3=>rw [h2]at g2;cases g2
  |ns g1 g2 g3 g4 g5=>
   rw [h2]at g2;cases g2;rw [h3]at g3;cases g3;rw [Mvs.one h5 g5]
  |sn g1 g2 g3 g4=>rw [h1]at g1;cases g1
  |ss g1 g2 g3 g4=>rw [h1]at g1;cases g1
 |_,_,_,_,_,_, .sn h1 h2 h3 h4,g=>by
  cases g with
  |nn g1 g2 g3=>rw [h1]at g1;cases g1
  |ns g1 g2 g3 g4 g5=>rw [h1]at g1;cases g1
  |sn g1 g2 g3 g4=>
   rw [h1]at g1;cases g1;rw [h3]at g3;cases g3;rw [Mvs.one h4 g4]
  |ss g1 g2 g3 g4=>rw [h2]at g2;cases g2
 |_,_,_,_,_,_, .ss h1 h2 h3 h4,g=>by
  cases g with
  |nn g1 g2 g3=>rw [h1]at g1;cases g1
  |ns g1 g2 g3 g4 g5=>rw [h1]at g1;cases g1
  |sn g1 g2 g3 g4=>rw [h2]at g2;cases g2
  |ss g1 g2 g3 g4=>
   rw [h2]at g2;cases g2;rw [Mvs.one h4 g4]
theorem Mvs.one{B:List Tn}:∀{n m:Nat}{a b c d:List Tr},Mvs B n a b c→Mvs B m a b d→c=d
 |_,_,_,_,_,_, .nil,g=>by
  cases g;rfl
 |_,_,_,_,_,_, .cons h1 h2,g=>by
  cases g with
  |cons g1 g2=>rw [Mv.one h1 g1,Mvs.one h2 g2]
end
open Classical in
noncomputable def res (B:List Tn) (x y:Tr):Tr:=if h:∃z n,Mv B n x y z then choose h else x
theorem Mv.res{B:List Tn}{n:Nat}{x y z:Tr}(h:Mv B n x y z):res B x y=z:=by
 unfold L2.res;have e:∃z n,Mv B n x y z:=⟨z,n,h⟩;rw [dif_pos e];obtain⟨m,h'⟩:=Classical.choose_spec e;exact Mv.one h' h
structure Bk2 (ws:List Str) (B:List Tn):Prop where
  b:BkOk ws ws B
  O:Ort B
  lw:∀t∈B,t.2.1.hb fun s=>s∈ws
  sl:zwM B
section
variable {ws:List Str}{B:List Tn}{x y:Tr}{p:Pl}
theorem Bk2.wy (K:Bk2 ws B) {c:Int→Nat}{p:Pl}(h:PlOk ws B p):Wy ws B (p.ev B c):=by
 refine⟨?_,zsM _ (ztu K.b h)⟩
 induction h with
 | @sign b' h ps hh hp ih=>
  rw [zbi,Tr.hd,hds_iff];refine⟨.inl hh,fun u hu=>?_⟩;obtain⟨p,hp,rfl⟩:=List.mem_map.mp hu;exact ih p hp
 | @turn k b' h ps t e hl b0 b1 hp ih=>
  have ht:t∈B:=List.mem_of_getElem? e;have hu:∀u∈ps.map (Pl.ev B c),u.hd fun s=>s∈ws∨ ∃t∈B,t.1=s:=fun u hu=>by
   obtain⟨p,hp,rfl⟩:=List.mem_map.mp hu;exact ih p hp
  rw [zaN e];unfold evT;split
  ·exact zjt hu _ (zlK (fun s hs=> .inl hs) _ (K.lw t ht)) (by rw [List.length_map,hl];exact(K.b.lf t ht).fits)
  ·rw [Tr.hd,hds_iff];exact⟨.inr ⟨t,ht,rfl⟩,hu⟩
  ·exact zjt hu _ ((K.b.ri t ht).hb (fun s hs=> .inl hs)) (by rw [List.length_map,hl];exact(K.b.ri t ht).fits)
theorem zwg (x:Int) (h:zsx x):byC 1 x=1∨byC 2 x=1:=by
 rcases h with rfl |rfl |rfl
 ·exact .inl (by decide)
 ·exact .inr (by decide)
 ·exact .inl (by decide)
theorem PlB.imp{P Q:Int→Prop}(h:∀x,P x→Q x) {p:Pl}(hp:PlB P p):PlB Q p:=by
 induction hp with
 |sign _ ih=>exact .sign ih
 |turn hb _ ih=>exact .turn (h _ hb) ih
theorem zqi (K:Bk2 ws B) (hx:Wy ws B x) (hy:Wy ws B y) (e:src B x=src B y):∃p,PlOk ws B p∧p.ev B (byC 1)=x∧p.ev B (byC 2)=y∧p.pn≤x.ne B+y.ne B∧p.ev B zr=src B x:=by
 obtain⟨p,hp,hb,e1,e2⟩:=ztL K.b K.O _ x y (Nat.le_refl _) hx hy e;refine⟨p,hp,e1,e2,?_,?_⟩
 ·have:=zvy K.b K.O (zfQ 1) (zfQ 2) hp (hb.imp zwg);rw [e1,e2]at this;exact this
 ·rw [←e1];show _=(p.ev B (byC 1)).mk B fun t=>t.2.1;rw [zqb K.b hp];exact zjD hp fun b h0 h1=>((zfQ 1).src b h0 h1).symm
structure Two (ws:List Str) (B:List Tn) (x y:Tr):Prop where
  K:Bk2 ws B
  ex:∃p c d,Pk ws ws B p∧One c∧One d∧p.ev B c=x∧p.ev B d=y
theorem Two.symm (h:Two ws B x y):Two ws B y x:=by
 obtain⟨p,c,d,k,hc,hd,e1,e2⟩:=h.ex;exact⟨h.K,p,d,c,k,hd,hc,e2,e1⟩
structure Moved (ws:List Str) (B:List Tn) (x y z:Tr):Prop where
  wy:Wy ws B z
  sr:src B z=gol B y
  go:gol B z=gol B (res B y x)
  ne:z.ne B≤x.ne B
end
section
variable {t:Tr}
structure Bd (t:Tr) (n:Nat):Prop where
  w:2 ^ n*t.weight≤400
  d:t.depth+3*n≤40
end
noncomputable def znX (B:List Tn):Tr→List Tr→Tr
 |t,[]=>t
 |_,x::xs=>znX B (gol B x) xs
noncomputable def Roa (ws:List Str) (B:List Tn):Tr→List Tr→Prop
 |_,[]=>True
 |t,x::xs=>Wy ws B x∧src B x=t∧Roa ws B (gol B x) xs
noncomputable def nR (B:List Tn):List Tr→Nat
 | []=>0
 |x::xs=>x.ne B+nR B xs
noncomputable def zcB (B:List Tn):Tr→List Tr→List Tr
 |x,[]=>[x]
 |x,o::os=>x::zcB B (res B x o) os
noncomputable def zel (B:List Tn):Tr→List Tr→List Tr
 |_,[]=>[]
 |x,o::os=>res B o x::zel B (res B x o) os
noncomputable def zeN (B:List Tn):Tr→List Tr→Tr
 |x,[]=>x
 |x,o::os=>zeN B (res B x o) os
noncomputable def zjz (B:List Tn):List Tr→List Tr→List (List Tr)
 | [],_=>[]
 |x::xs,os=>zcB B x os::zjz B xs (zel B x os)
noncomputable def zjC (B:List Tn):List Tr→List Tr→List (List Tr)
 | [],os=>[os]
 |x::xs,os=>os::zjC B xs (zel B x os)
noncomputable def zbu (B:List Tn):List Tr→List Tr→List Tr
 | [],_=>[]
 |x::xs,os=>zeN B x os::zbu B xs (zel B x os)
noncomputable def zdS (B:List Tn):List Tr→List Tr→List Tr
 | [],os=>os
 |x::xs,os=>zdS B xs (zel B x os)
section
variable {B:List Tn}
theorem zkt:∀(os:List Tr) (x:Tr),(zcB B x os).length=os.length+1
 | [],x=>rfl
 |o::os,x=>by rw [zcB,List.length_cons,zkt os];rfl
theorem zjE:∀(os:List Tr) (x:Tr),(zel B x os).length=os.length
 | [],x=>rfl
 |o::os,x=>by rw [zel,List.length_cons,zjE os];rfl
theorem zhr:∀(os:List Tr) (x:Tr),(zcB B x os).getLast? =some (zeN B x os)
 | [],x=>rfl
 |o::os,x=>by
  rw [zcB,List.getLast?_cons,zhr os,zeN];rfl
theorem zfb:∀(xs os:List Tr),(zbu B xs os).length=xs.length
 | [],os=>rfl
 |x::xs,os=>by rw [zbu,List.length_cons,zfb xs];rfl
theorem zhh:∀(xs os:List Tr),(zdS B xs os).length=os.length
 | [],os=>rfl
 |x::xs,os=>by rw [zdS,zhh xs,zjE]
end
theorem zgy{α β:Type}{R:α→β→Prop}:∀{xs:List α}{ys:List β}{xs':List α}{ys':List β},Paired R xs ys→Paired R xs' ys'→Paired R (xs++xs') (ys++ys')
 |_,_,_,_, .nil,h=>h
 |_,_,_,_, .cons h1 h2,h=> .cons h1 (zgy h2 h)
theorem zcr{α β:Type}{R R':α→β→Prop}(f:∀x y,R x y→R' x y):∀{xs:List α}{ys:List β},Paired R xs ys→Paired R' xs ys
 |_,_, .nil=> .nil
 |_,_, .cons h1 h2=> .cons (f _ _ h1) (zcr f h2)
structure Sh (ws:List Str) (B:List Tn) (t:Tr):Prop where
  wy:Wy ws B t
  q:src B t=t
section
variable {B:List Tn}
noncomputable def zxK (B:List Tn) (wn:List (List Int)) (p:List Int) (t:Tr):Prop:=∀q∈wn,∀e v,q=p++e→t.at e=some v→(ziZ B v).isSome=true
end
section
theorem zfF{α:Type}(xs:List α) (x:α):atI (xs++[x]) (-1)=some x:=by
 unfold atI ixN;rw [if_neg (by decide),List.length_append,List.length_singleton];rw [if_pos (by omega)];show(xs++[x])[_]? =some x;rw [show((-1+((xs.length+1:Nat):Int)).toNat)=xs.length by omega,List.getElem?_concat_length]
end
structure At (S0 S:Sto) (d o b:Addr) (xs:List Tr):Prop where
  d:b≠d
  o:b≠o
  e:S b=some (.lst (xs.map enc))
  z:S0 b=none
theorem zeX{S0 S:Sto}{q:Addr}(s:Sub S0 S) (h:S q=none):S0 q=none:=by
 cases e:S0 q with
 |none=>rfl
 |some v=>rw [s _ _ e]at h;cases h
theorem At.sub{S0 S S':Sto}{d o b:Addr}{xs:List Tr}(h:At S0 S d o b xs) (s:Sub S S'):At S0 S' d o b xs:=⟨h.d,h.o,s _ _ h.e,h.z⟩
theorem At.pd{S0 S:Sto}{d o b:Addr}{xs:List Tr}{v:Ob}(h:At S0 S d o b xs):At S0 (put S d v) d o b xs:=⟨h.d,h.o,by rw [zaE h.d];exact h.e,h.z⟩
theorem At.po{S0 S:Sto}{d o b:Addr}{xs:List Tr}{v:Ob}(h:At S0 S d o b xs):At S0 (put S o v) d o b xs:=⟨h.d,h.o,by rw [zaE h.o];exact h.e,h.z⟩
noncomputable abbrev Ats (S0 S:Sto) (d o:Addr) (bs:List Addr) (xss:List (List Tr)):Prop:=Paired (At S0 S d o) bs xss
theorem zdC{α β:Type}{R:α→β→Prop}{xs:List α}{ys:List β}{x:α}{y:β}(h:Paired R xs ys) (g:R x y):Paired R (xs++[x]) (ys++[y]):=zgy h (.cons g .nil)
theorem zkh{t:Tr}{r:Nat}{S:Sto}{Q:WK}{X:Str→Sto→Prop}(hw:t.weight≤400) (hd:t.depth≤40) (h:Q (enc t) S):zau (r+5) [enc t] S Q X:=by
 rw [show r+5=r+4+1 from rfl,zau];walk_at "wp";refine zls (r:=r+3) (by omega) ?_;rw [zgG hw hd]
 try walk_at "wp"
 exact⟨_, .refl,h⟩
theorem ziq{α β:Type}(f:α→W) (g:β→W):∀(xs:List α) (ys:List β),zbM (xs.map f) (ys.map g)=(xs.zip ys).map fun p=> .tup [f p.1,g p.2]
 | [],ys=>by simp [zbM]
 |x::xs,[]=>by simp [zbM]
 |x::xs,y::ys=>by rw [List.map_cons,List.map_cons,zbM,ziq f g xs ys];rfl
theorem zmz{B:List Tn}:∀(os:List Tr) (x:Tr),(os.zip (zcB B x os)).map (fun p=>res B p.1 p.2)=zel B x os
 | [],x=>rfl
 |o::os,x=>by rw [zcB,List.zip_cons_cons,List.map_cons,zmz os,zel]
section
variable {ws:List Str}{B:List Tn}{l1 l2 d o ρ:Addr}{r:Nat}{E:WX}{D:WEnds}{T:WS}{t:Tr}{xs os:List Tr}{S:Sto}{y0 y1 y2 y3 y4 y5 y6 y7:Option W}
theorem zxp (hw:t.weight≤400) (hd:t.depth≤40) (hr:60≤r) (h:T E D [y0,some (.tup [enc t, .ref l1]),y2,y3,y4,y5,y6,y7] S) :
  zdO r T E D [y0,some (.tup [enc t, .ref l1]),y2,y3,y4,y5,y6,y7] S:=by
 rw [zdO];walk_at "wp";obtain⟨r,rfl⟩:∃r',r=r'+5:=⟨r - 5,by omega⟩
 exact zkh hw hd h
theorem zxd (h:∀d,S d=none→T E D [y0,y1,y2,some (.ref d),y4,y5,y6,y7] (put S d (.lst []))):zdZ r T E D [y0,y1,y2,y3,y4,y5,y6,y7] S:=by
 rw [zdZ];walk_at "wp";exact⟨Nat.zero_le _,h⟩
theorem zxq{vs:List W}(hl:S l2=some (.lst vs)) (h:∀ρ,S ρ=none→T E D [y0,y1,some (.tup [enc t, .ref l2]),y3,some (.ref ρ),y5,y6,y7] (put S ρ (.lst vs))):zed r T E D [y0,y1,some (.tup [enc t, .ref l2]),y3,y4,y5,y6,y7] S:=by
 rw [zed];walk_at "wp";show zbG S l2 fun ws=>∀ρ,S ρ=none→T E D [y0,y1,some (.tup [enc t, .ref l2]),y3,some (.ref ρ),y5,y6,y7] (put S ρ (.lst ws));rw [zak hl];exact h
theorem zxs (h:∀o,S o=none→T E D [y0,y1,y2,y3,some (.ref ρ),some (.ref o),y6,y7] (put S o (.lst [.ref ρ]))):zdT r T E D [y0,y1,y2,y3,some (.ref ρ),y5,y6,y7] S:=by
 rw [zdT];walk_at "wp";exact⟨by decide,h⟩
theorem zwz{q:Addr}{vs:List W}(hd:S d=some (.lst vs)) (hn:vs.length≤1000) (h:T E D [y0,y1,y2,some (.ref d),y4,y5,y6,some (.ref q)] (put S d (.lst (vs++[.ref q])))) :
  zcU r T E D [y0,y1,y2,some (.ref d),y4,y5,y6,some (.ref q)] S:=by
 rw [zcU];walk_at "wp";rw [zak hd,zak hd];exact⟨trivial,zdE (by omega),h⟩
theorem zvJ{vs:List W}(hd:S o=some (.lst vs)) (hn:vs.length≤1000) (h:D.nx [y0,y1,y2,y3,some (.ref ρ),some (.ref o),y6,y7] (put S o (.lst (vs++[.ref ρ])))) :
  zcZ r E D [y0,y1,y2,y3,some (.ref ρ),some (.ref o),y6,y7] S:=by
 rw [zcZ];walk_at "wp";rw [zak hd,zak hd];exact⟨trivial,zdE (by omega),h⟩
structure Grd (S0 S:Sto) (B:List Tn) (xs os:List Tr) (d o:Addr):Prop where
  sub:Sub S0 S
  d0:S0 d=none
  o0:S0 o=none
  ne:d≠o
  ex:∃ds rs,S d=some (.lst (ds.map W.ref))∧S o=some (.lst (rs.map W.ref))∧Ats S0 S d o ds (zjz B xs os)∧Ats S0 S d o rs (zjC B xs os)
end
noncomputable def opl (B:List Tn) (t:Tr):List (List Int):=(t.op B []).map fun x=>x.1
theorem Sh.hdT{ws:List Str}{B:List Tn}{t:Tr}(h:Sh ws B t):t.hd fun _=>True:=zhl (fun _ _=>trivial) _ h.wy.hd
theorem Sh.wn{ws:List Str}{B:List Tn}{t:Tr}(h:Sh ws B t) {wn:List (List Int)}(hw:∀q∈wn,q∈opl B t):zxK B wn [] t:=by
 intro q hq e v he hv;rw [List.nil_append]at he;subst he;obtain⟨x,hx,rfl⟩:=List.mem_map.mp (hw q hq);rw [←znc B t [] (zfv _ h.hdT)]at hx;obtain⟨y,hy,hx⟩:=List.mem_flatMap.mp hx;unfold ztl at hx;obtain⟨u,hu,rfl⟩:=List.mem_map.mp hx;have:=(zsn hy).1;rw [this]at hv;cases hv;cases e:ziZ B y.2 with
 |none=>rw [e]at hu;cases hu
 |some _=>rfl
section
variable {B:List Tn}{t:Tr}{xs:List Tr}
theorem zkl:∀(xs:List Tr) (t u:Tr),znX B t (xs++[u])=gol B u
 | [],t,u=>rfl
 |x::xs,t,u=>zkl xs (gol B x) u
end
theorem zgt{α β:Type}{R:α→β→Prop}:∀{xs:List α}{ys:List β},Paired R xs ys→ ∃zs:List (α×β),zs.map (fun z=>z.1)=xs∧zs.map (fun z=>z.2)=ys∧ ∀z∈zs,R z.1 z.2
 |_,_, .nil=>⟨[],rfl,rfl,by simp⟩
 |_,_, .cons h1 h2=>by
  obtain⟨zs,e1,e2,h3⟩:=zgt h2;exact⟨(_,_)::zs,by rw [List.map_cons,e1],by rw [List.map_cons,e2],fun z hz=>by
   rcases List.mem_cons.mp hz with rfl |hz
   ·exact h1
   ·exact h3 z hz⟩
theorem zfA{α β γ:Type}{R:α→β→Prop}{R':β→γ→Prop}:∀{xs:List α}{ys:List β}{zs:List γ},Paired R xs ys→Paired R' ys zs→Paired (fun x z=>∃y,R x y∧R' y z) xs zs
 |_,_,_, .nil, .nil=> .nil
 |_,_,_, .cons h1 h2, .cons g1 g2=> .cons ⟨_,h1,g1⟩ (zfA h2 g2)
theorem zdL{α β:Type}{R:α→β→Prop}:∀{ys:List β}{xs:List α}{y:β},Paired R xs (ys++[y])→ ∃pre x,xs=pre++[x]∧R x y
 | [],_,y, .cons h .nil=>⟨[],_,rfl,h⟩
 |_::ys,_,y, .cons (a:=a) h g=>by
  obtain⟨pre,x,e,h⟩:=zdL g;exact⟨a::pre,x,by rw [e];rfl,h⟩
section
variable {B:List Tn}
theorem znD (os:List Tr) (x:Tr):∃l,zcB B x os=l++[zeN B x os]:=by
 have:=zhr (B:=B) os x;rw [List.getLast?_eq_some_iff]at this;exact this
theorem zix:∀(xs os:List Tr),Paired (fun line u=>∃l,line=l++[u]) (zjz B xs os) (zbu B xs os)
 | [],os=> .nil
 |x::xs,os=> .cons (znD os x) (zix xs _)
theorem zfH:∀(xs os:List Tr),∃l,zjC B xs os=l++[zdS B xs os]
 | [],os=>⟨[],rfl⟩
 |x::xs,os=>by
  obtain⟨l,e⟩:=zfH xs (zel B x os);exact⟨os::l,by rw [zjC,e,zdS];rfl⟩
theorem ziJ:∀(os:List Tr) (x:Tr) (xs:List Tr),zbu B os (x::xs)=zbu B (zel B x os) xs
 | [],x,xs=>by rw [zbu,zel,zbu]
 |o::os,x,xs=>by rw [zbu,zel,zel,zeN,zbu,ziJ os]
theorem zkp:∀(os:List Tr),zbu B os []=os
 | []=>by rw [zbu]
 |o::os=>by rw [zbu,zel,zeN,zkp os]
theorem zic:∀(xs os:List Tr),zdS B xs os=zbu B os xs
 | [],os=>by rw [zdS,zkp]
 |x::xs,os=>by rw [zdS,ziJ,zic xs]
end
section
variable {B:List Tn}{l d o:Addr}{r:Nat}{xs os:List Tr}{S:Sto}{Q:WK}{X:Str→Sto→Prop}
theorem zcW{S0:Sto}{ds:List Addr}(hd:S d=some (.lst (ds.map W.ref))) (hn:xs.length≤700) (AD:Ats S0 S d o ds (zjz B xs os)) (h:∀q,S q=none→Q (.ref q) (put S q (.lst ((zbu B xs os).map enc)))):zaV (r+1) [.tup [.ref d, .ref o]] S Q X:=by
 obtain⟨zs,e1,e2,h3⟩:=zgt (zfA AD (zix xs os));rw [zaV];walk_at "wp";rw [zak hd];have e3:ds.map W.ref=zs.map fun z=>W.ref z.1:=by rw [←e1,List.map_map];rfl
 have hz:zs.length=xs.length:=by rw [←zfb (B:=B) xs os,←e2,List.length_map]
 rw [e3];refine zaO (fun σ=>∃y,σ=[y]) (fun z:Addr×Tr=>W.ref z.1) (fun z=>enc z.2) (by rw [←e3];exact hd) zs [] _ ⟨none,rfl⟩ (by simp;omega) (fun z hz σ R hI hR=>?_) ?_
 ·obtain⟨y,rfl⟩:=hI;obtain⟨line,A,l,rfl⟩:=h3 z hz;rw [zdr];walk_at "wp";have Ae:=A.e;rw [List.map_append]at Ae;rw [zak Ae,show [z.2].map enc=[enc z.2] from rfl,zfF];exact hR _ _ ⟨_,rfl⟩ .refl
 ·intro q hq;have:=h q hq;rw [←e2,List.map_map]at this;exact⟨_, .refl,this⟩
end
structure Rds (S:Sto) (ws:List Str) (B:List Tn) (ab:Addr) (t:Tr) (l1 l2:Addr) (xs os:List Tr):Prop where
  K:Bk2 ws B
  fb:S ab=some (.lst (B.map zbW))
  sh:Sh ws B t
  bd:Bd t 4
  f1:S l1=some (.lst (xs.map enc))
  f2:S l2=some (.lst (os.map enc))
  r1:Roa ws B t xs
  r2:Roa ws B t os
  n:nR B xs+nR B os≤4
  x3:xs.length≤3
  o3:os.length≤3
  hB:B.length≤1000
theorem Rds.symm{S:Sto}{ws:List Str}{B:List Tn}{ab:Addr}{t:Tr}{l1 l2:Addr}{xs os:List Tr}(h:Rds S ws B ab t l1 l2 xs os):Rds S ws B ab t l2 l1 os xs:=⟨h.K,h.fb,h.sh,h.bd,h.f2,h.f1,h.r2,h.r1,by have:=h.n;omega,h.o3,h.x3,h.hB⟩
theorem zxe{x y:W}:atI [x,y] 1=some y:=by
 have h:([x,y]:List W)[1]? =some y:=by simp
 exact zrS (j:=1) h
section
variable {ws:List Str}{B:List Tn}{x t:Tr}{xs:List Tr}
theorem Wy.len (K:Bk2 ws B) (h:Wy ws B x):x.hd fun s=>s.length≤1000:=zhl (fun s hs=>by
 rcases hs with hs |⟨t,ht,rfl⟩
 ·exact zoK (K.b.sg s hs)
 ·exact zlh (K.b.ti t ht)) _ h.hd
theorem zkI{α:Type}(f:α→Bool):∀(xs:List α),zfX (xs.map fun x=>W.bl (f x))=some (xs.map f)
 | []=>rfl
 |x::xs=>by rw [List.map_cons,zfX,zkI f xs];rfl
end
section
variable {ws:List Str}{B:List Tn}
theorem Bk2.moved (K:Bk2 ws B) {x y:Tr}(hx:Wy ws B x) (hy:Wy ws B y) (e:L2.src B x=L2.src B y):Moved ws B x y (res B x y):=by
 obtain⟨p,hp,rfl,rfl,_,_⟩:=zqi K hx hy e;have o1:=zfQ 1;have o2:=zfQ 2;have m1:=(ziU (c:=byC 1) (d:=byC 2) K.b K.O.mt (ziY o1 o2) hp).res;have m2:=(ziU (c:=byC 2) (d:=byC 1) K.b K.O.mt (ziY o2 o1) hp).res;rw [m1];refine⟨K.wy hp,?_,?_,zqE K.b K.O o1 o2 hp⟩
 ·show(p.ev B (zje (byC 1) (byC 2))).mk B (fun t=>t.2.1)=(p.ev B (byC 2)).mk B fun t=>t.2.2;rw [zqb K.b hp,zjf K.b hp];refine zjD hp fun x h0 h1=>?_;have a:=zmL 1 x;have b:=zmL 2 x;unfold zkW zhy zje;generalize byC 1 x=m at a⊢;generalize byC 2 x=n at b⊢;obtain rfl |rfl:m=0∨m=1:=by omega
  all_goals obtain rfl |rfl:n=0∨n=1:=by omega
  all_goals rfl
 ·rw [m2];show(p.ev B (zje (byC 1) (byC 2))).mk B (fun t=>t.2.2)=(p.ev B (zje (byC 2) (byC 1))).mk B fun t=>t.2.2;rw [zjf K.b hp,zjf K.b hp];refine zjD hp fun x h0 h1=>?_;have a:=zmL 1 x;have b:=zmL 2 x;unfold zhy zje;generalize byC 1 x=m at a⊢;generalize byC 2 x=n at b⊢;obtain rfl |rfl:m=0∨m=1:=by omega
  all_goals obtain rfl |rfl:n=0∨n=1:=by omega
  all_goals rfl
theorem zdU (K:Bk2 ws B):∀(os:List Tr) {x t:Tr},Wy ws B x→L2.src B x=t→Roa ws B t os→Roa ws B (gol B x) (zel B x os)∧Wy ws B (zeN B x os)∧L2.src B (zeN B x os)=znX B t os∧znX B (gol B x) (zel B x os)=gol B (zeN B x os)
 | [],x,t,hx,ex,_=>⟨trivial,hx,ex,rfl⟩
 |o::os,x,t,hx,ex,⟨ho,eo,hr⟩=>by
  have m:=K.moved hx ho (ex.trans eo.symm);have m':=K.moved ho hx (eo.trans ex.symm);obtain⟨h1,h2,h3,h4⟩:=zdU K os m.wy m.sr hr;refine⟨?_,h2,h3,?_⟩
  ·rw [zel];refine⟨m'.wy,m'.sr,?_⟩;rw [m'.go];exact h1
  ·rw [zel,znX,zeN,m'.go];exact h4
theorem zef (K:Bk2 ws B):∀(xs os:List Tr) {t:Tr},Roa ws B t xs→Roa ws B t os→Roa ws B (znX B t os) (zbu B xs os)
 | [],os,t,_,_=>trivial
 |x::xs,os,t,⟨hx,ex,hr⟩,ho=>by
  obtain⟨h1,h2,h3,h4⟩:=zdU K os hx ex ho;rw [zbu];refine⟨h2,h3,?_⟩;rw [←h4];exact zef K xs _ hr h1
end
mutual
noncomputable def Tr.wd:Tr→Prop
 | .bl _=>True
 | .nd _ ts=>ts.length≤1000∧wds ts
noncomputable def wds:List Tr→Prop
 | []=>True
 |t::ts=>t.wd∧wds ts
end
theorem wds_iff:∀{ts:List Tr},wds ts↔ ∀t∈ts,t.wd
 | []=>by simp [wds]
 |t::ts=>by simp [wds,wds_iff (ts:=ts)]
theorem zqH{t:Tr}(h:t.wd):t.kids.length≤1000:=by
 cases t with
 |bl n=>simp [Tr.kids]
 |nd s ts=>simpa [Tr.kids]using h.1
theorem zrD{ts:List Tr}(h:∀x∈ts,x.wd):∀x∈ts.flatMap Tr.kids,x.wd:=fun x hx=>by
 obtain⟨t,ht,hk⟩:=List.mem_flatMap.mp hx;have:=h t ht;cases t with
 |bl n=>simp [Tr.kids]at hk
 |nd s us=>exact wds_iff.mp this.2 x (by simpa [Tr.kids]using hk)
theorem zfE{r:Nat}{a b:Addr}{ps:List W}{E:WX}{D:WEnds}{x0:Option W}(hba:b≠a):∀(ts:List Tr) {S:Sto}{us:List Tr}{x2:Option W},S a=some (.lst (zaA us))→S b=some (.lst ps)→(∀t∈ts,t.kids.length≤1000)→us.length+1000*ts.length≤500000→
  (∀x2,D.nx [x0,some (.ref a),x2] (put S a (.lst (zaA (us++ts.flatMap Tr.kids)))))→
  zdA (wGN 2) (zaQ (r+1) zba) E D (fun S'=>S' b=some (.lst ps)) (zaA ts) [x0,some (.ref a),x2] S
 | [],S,us,x2,ha,hb,hA,hl,h=>by
  have:=h x2;simp only[List.flatMap_nil,List.append_nil,zgF ha]at this;simpa [zaA,zdA]using this
 |t::ts,S,us,x2,ha,hb,hA,hl,h=>by
  simp only[List.length_cons]at hl;have hk:=hA t List.mem_cons_self;simp only[zaA];refine zbK fun N hN=>?_;simp only[zaQ];walk_at "wp";simp only[zak ha,true_and];refine zjK ?_;walk_at "wp";rw [zak ha];refine⟨zag (by rw [zbo,zbo];omega),hN _ _ _ .refl (by rw [zaE hba];exact hb) ?_⟩;rw [←zdD];refine zfE hba ts zah (by rw [zaE hba];exact hb) (fun u hu=>hA u (List.mem_cons_of_mem _ hu)) (by rw [List.length_append];omega) fun x2=>?_;rw [zbT];have:=h x2;rw [List.flatMap_cons,←List.append_assoc]at this;exact this
theorem ziL{ts:List Tr}{b:Addr}{r:Nat}{S:Sto}{Q:WK}{E:Str→Sto→Prop}(hb:S b=some (.lst (zaA ts))) (hA:∀t∈ts,t.kids.length≤1000) (hw:ts.length≤400) (h:∀a,S a=none→Q (.ref a) (put S a (.lst (zaA (ts.flatMap Tr.kids))))):zaD (r+2) [.ref b] S Q E:=by
 rw [zaD];walk_at "wp";refine⟨Nat.zero_le _,fun a ha=>?_⟩;have hba:=zpG hb ha;rw [zak (keep hb ha)];refine zfE (us:=[]) hba ts (by simp [zah,zaA]) (keep hb ha) hA (by simp;omega) fun x2=>?_;rw [zbT];walk_at "wp";exact⟨_, .refl,h a ha⟩
theorem zfu{t:Tr}{r:Nat}{S:Sto}{Q:WK}{E:Str→Sto→Prop}(hA:t.wd) (h:Q (.bl t.small) S):zbz (r+3) [enc t] S Q E:=by
 rw [zbz];walk_at "wp";refine⟨zag (by decide),fun a ha=>?_⟩;refine⟨fun m σ S'=>∃(ts:List Tr) (k d:Nat) (b:Addr),m=wts ts∧(∀x∈ts,x.wd)∧k+wts ts=t.weight∧d+dts ts=t.depth∧k≤400∧d≤40∧S b=none∧S'=put S b (.lst (zaA ts))∧σ=[some (enc t),some (.int k),some (.int d),some (.ref b)],⟨_,[t],0,0,a,rfl,(fun x hx=>by rw [List.mem_singleton.mp hx];exact hA),by simp [wts],by simp [dts],by decide,by decide,ha,by simp [zaA],rfl⟩,?_⟩
 rintro m σ S' ⟨ts,k,d,b,rfl,hds,hwt,hk,hk4,hd4,hb,rfl,rfl⟩;walk_at "wp";cases ts with
 |nil=>
  simp only[zaA,List.isEmpty_nil];walk_at "wp";simp only[dts,wts,Nat.add_zero]at hk hwt;have e:t.small=true:=by unfold Tr.small;rw [decide_eq_true (by omega),decide_eq_true (by omega)];rfl
  rw [e]at h;exact⟨_, .put .refl hb,h⟩
 |cons u us=>
  have hne:(zaA (u::us)).isEmpty=false:=by simp [zaA]
  rw [hne];have hfl:=zgX (u::us);have hdf:=zhn (ts:=u::us) (by simp);have hlw:=zcl (u::us);simp only[zcQ];walk_at "wp";rw [zbo];have no:400<t.weight∨40<t.depth→ ∃S'',Sub S'' (put S b (Ob.lst (zaA (u::us))))∧Q (W.bl false) S'':=fun z=>by
   have e:t.small=false:=by
    unfold Tr.small;rcases z with z |z
    ·rw [decide_eq_false (by omega)];rfl
    ·rw [decide_eq_false (p:=t.depth≤40) (by omega),Bool.and_false]
   rw [e]at h;exact⟨_, .put .refl hb,h⟩
  split
  ·exact no (.inl (by omega))
  ·split
   ·exact no (.inr (by omega))
   ·refine ziL zah (fun x hx=>zqH (hds x hx)) (by omega) fun c hc=>?_;obtain⟨hc1,hc2⟩:=zdY hc;refine⟨wts ((u::us).flatMap Tr.kids),put S c (.lst (zaA ((u::us).flatMap Tr.kids))),by simp only[List.length_cons]at hfl;omega, .put2 (.put .refl hb),_,k+(u::us).length,d+1,c,rfl,zrD hds,by omega,by omega,by omega,by omega,hc1,rfl,?_⟩
    push_cast
    rfl
structure SidesW (g:Tn→Tr) (B:List Tn):Prop where
  fits:∀t∈B,(g t).fits t.2.1.nb
  dp:∀t∈B,(g t).depth≤4
  wt:∀t∈B,(g t).weight≤20
section
variable {S:Sto}{a:Addr}{B:List Tn}{n:Int}
theorem zfI (ha:S a=some (.lst (B.map zbW))) (hn:n=1∨n=2) (hg:SidesW (zap n) B):∀(d:Nat) {t:Tr}{r:Nat}{Q:WK}{E:Str→Sto→Prop},t.depth≤d→d+10≤r→t.ar B→t.weight≤1000→Q (enc (t.mk B (zap n))) S→zaX (r+1) [.ref a,enc t, .int n] S Q E
 |0,t,r,Q,E,hd,hr,hh,hw,h=>by have:=zcv t;omega
 |d+1, .bl k,r,Q,E,hd,hr,hh,hw,h=>by simp [Tr.ar]at hh
 |d+1, .nd s ts,r,Q,E,hd,hr,hh,hw,h=>by
  simp only[Tr.depth]at hd;simp only[Tr.weight]at hw;simp only[Tr.ar]at hh;have hk:=zcl ts;obtain⟨r,rfl⟩:∃r',r=r'+1:=⟨r - 1,by omega⟩
  rw [zaX];simp only[enc];walk_at "wp";rw [zaZ];refine zaO (fun σ=>∃x,σ=[x,some (.ref a),some (.int n)]) enc (fun t=>enc (t.mk B (zap n))) trivial ts [] _ ⟨none,rfl⟩ (by simp;omega) (fun x hx σ R hI hR=>?_) ?_
  ·obtain⟨y,rfl⟩:=hI;have hdx:=zfL hx;have hwx:=zdd hx;simp only[zdt];walk_at "wp";exact zfI ha hn hg d (by omega) (by omega) (ars_iff.mp hh.2 x hx) (by omega) (hR _ _ ⟨_,rfl⟩ .refl)
  ·rw [List.nil_append];intro q hq;have eu:(ts.map fun t=>enc (t.mk B (zap n)))=zaA (ts.map (Tr.mk B (zap n))):=by rw [zaZ,List.map_map];rfl
   rw [eu];have fq:put S q (Ob.lst (zaA (ts.map (Tr.mk B (zap n))))) q=some (.lst (zaA (ts.map (Tr.mk B (zap n))))):=zah;have fa:=keep (x:=Ob.lst (zaA (ts.map (Tr.mk B (zap n))))) ha hq;have sub:Sub S (put S q (Ob.lst (zaA (ts.map (Tr.mk B (zap n)))))):= .put .refl hq;generalize put S q (Ob.lst (zaA (ts.map (Tr.mk B (zap n)))))=S1 at fq fa sub⊢;refine zfx fa ?_;cases e:zaG B s with
   |none=>
    rw [zdB e]at h;simp only[zdQ]
    try walk_at "wp"
    try rw [zak fq]
    rw [zbo,List.length_map];simp only[enc]at h;exact⟨zag (by decide),zag (by omega),_,sub,h⟩
   |some t=>
    have ht:t∈B:=List.mem_of_find?_eq_some e;have ee:zdQ (some t)= .tup [.str t.1,enc t.2.1,enc t.2.2]:=rfl;rw [zeu e]at h;rw [ee]
    try walk_at "wp"
    rw [zrm t hn];dsimp only;have hgw:=hg.wt t ht;exact zfk 4 (hg.dp t ht) (by omega) fq (by rw [List.length_map,hh.1 t e];exact hg.fits t ht) (by omega) ⟨_,sub,h⟩
theorem zer{t:Tr}{r:Nat}{Q:WK}{E:Str→Sto→Prop}(ha:S a=some (.lst (B.map zbW))) (hg:SidesW (zap 1) B) (hd:t.depth≤40) (hr:60≤r) (hh:t.ar B) (hw:t.weight≤1000) (hwd:(t.mk B (zap 1)).wd)
  (h1:(t.mk B (zap 1)).small=true→Q (enc (t.mk B (zap 1))) S) (h2:(t.mk B (zap 1)).small=false→E "TooGreat" S):zcy (r+1) [.ref a,enc t] S Q E:=by
 obtain⟨r,rfl⟩:∃r',r=r'+5:=⟨r - 5,by omega⟩
 rw [zcy];walk_at "wp";refine zfI ha (.inl rfl) hg 40 (r:=r+4) hd (by omega) hh hw ?_;rw [zau];walk_at "wp";refine zfu (r:=r+1) hwd ?_;cases e:(t.mk B (zap 1)).small with
 |true=>
  try walk_at "wp"
  exact⟨_, .refl,_, .refl,h1 e⟩
 |false=>
  try walk_at "wp"
  try rw [zeV]
  try walk_at "wp"
  exact⟨zag (by decide),h2 e⟩
theorem zoU{t:Tr}{r:Nat}{Q:WK}{E:Str→Sto→Prop}(ha:S a=some (.lst (B.map zbW))) (hg:SidesW (zap 2) B) (hd:t.depth≤40) (hr:60≤r) (hh:t.ar B) (hw:t.weight≤1000) (hwd:(t.mk B (zap 2)).wd)
  (h1:(t.mk B (zap 2)).small=true→Q (enc (t.mk B (zap 2))) S) (h2:(t.mk B (zap 2)).small=false→E "TooGreat" S):zdv (r+1) [.ref a,enc t] S Q E:=by
 obtain⟨r,rfl⟩:∃r',r=r'+5:=⟨r - 5,by omega⟩
 rw [zdv];walk_at "wp";refine zfI ha (.inr rfl) hg 40 (r:=r+4) hd (by omega) hh hw ?_;rw [zau];walk_at "wp";refine zfu (r:=r+1) hwd ?_;cases e:(t.mk B (zap 2)).small with
 |true=>
  try walk_at "wp"
  exact⟨_, .refl,_, .refl,h1 e⟩
 |false=>
  try walk_at "wp"
  try rw [zeV]
  try walk_at "wp"
  exact⟨zag (by decide),h2 e⟩
end
theorem zgn (us:List Tr):∀ts:List Tr,fills us ts=ts.map (Tr.fill us)
 | []=>by simp [fills]
 |t::ts=>by rw [fills,zgn us ts];rfl
noncomputable def tiA:Str:=Str.ofString "A"
theorem zeg:zbd tiA:=⟨65,[],by decide +kernel,by decide,by decide,by decide,fun _ h=>nomatch h⟩
mutual
theorem zkr{B:List Tn}(hB:∀t∈B,zbd t.1):∀t:Tr,t.hd zbj→t.ar B
 | .bl n,h=>by simp [Tr.hd]at h
 | .nd s ts,h=>by
  simp only[Tr.hd]at h;simp only[Tr.ar];exact⟨fun t ht=>(by rw [zar hB h.1]at ht;cases ht),zij hB ts h.2⟩
theorem zij{B:List Tn}(hB:∀t∈B,zbd t.1):∀ts:List Tr,hds zbj ts→ars B ts
 | [],h=>by simp [ars]
 |t::ts,h=>by
  simp only[hds]at h;simp only[ars];exact⟨zkr hB t h.1,zij hB ts h.2⟩
end
section
variable {t:Tn}
theorem zep (t:Tr):t.small=false↔((400:Int)<t.weight∨(40:Int)<t.depth):=by
 unfold Tr.small;rw [Bool.and_eq_false_iff,decide_eq_false_iff_not,decide_eq_false_iff_not];omega
end
noncomputable def tnA (w0 w4:Str):Tn:=(tiA, .nd w0 [.bl 0], .nd w4 [.bl 0, .bl 0])
noncomputable def stk (x:Tr):List Str→Tr
 | []=>x
 |h::hs=> .nd h [stk x hs]
noncomputable def bas (w2 w5:Str) (n:Nat):Tr:= .nd w5 (List.replicate n (.nd w2 []))
theorem zns (w:Str):∀n:Nat,wts (List.replicate n (.nd w []))=n
 |0=>rfl
 |n+1=>by rw [List.replicate_succ,wts,zns w n,Tr.weight,wts];omega
theorem znE (w:Str):∀n:Nat,dts (List.replicate n (.nd w []))≤1
 |0=>by simp [dts]
 |n+1=>by have:=znE w n;rw [List.replicate_succ,dts,Tr.depth,dts];omega
theorem zlP (w2 w5:Str) (n:Nat):(bas w2 w5 n).weight=n+1:=by rw [bas,Tr.weight,zns];omega
theorem zmy (w2 w5:Str) (n:Nat):(bas w2 w5 n).depth≤2:=by rw [bas,Tr.depth];have:=znE w2 n;omega
theorem znv{w2 w5:Str}(h2:zbj w2) (h5:zbj w5) (n:Nat):(bas w2 w5 n).hd zbj:=⟨h5,zkd h2 _⟩
theorem zpL (x:Tr):∀hs,(stk x hs).weight=hs.length+x.weight
 | []=>by simp [stk]
 |h::hs=>by rw [stk,Tr.weight,wts,wts,zpL x hs,List.length_cons];omega
theorem zpS (x:Tr):∀hs,(stk x hs).depth=hs.length+x.depth
 | []=>by simp [stk]
 |h::hs=>by rw [stk,Tr.depth,dts,dts,zpS x hs,List.length_cons];omega
theorem zpQ{P:Str→Prop}{x:Tr}(hx:x.hd P):∀hs:List Str,(∀h∈hs,P h)→(stk x hs).hd P
 | [],_=>hx
 |h::hs,hh=>⟨hh h List.mem_cons_self,zpQ hx hs (fun y hy=>hh y (List.mem_cons_of_mem _ hy)),trivial⟩
section
variable {w0 w1 w2 w4 w5:Str}
theorem mtA (y:Tr):(tnA w0 w4).2.1.mt (.nd w0 [y])=some [y]:=by simp [tnA,Tr.mt,mts]
theorem znI{B:List Tn}(hB:∀t∈B,zbd t.1) {t:Tn}(h1:zaG B tiA=some t) (h2:t.2.1= .nd w0 [.bl 0]) (s0:zbj w0) {x:Tr}(hx:x.hd zbj):∀hs:List Str,(∀h∈hs,h=tiA∨h=w0)→(stk x hs).mk B (zap 1)=stk x (List.replicate hs.length w0)
 | [],_=>zeT hB x hx
 |h::hs,hh=>by
  have ih:=znI hB h1 h2 s0 hx hs fun y hy=>hh y (List.mem_cons_of_mem _ hy);rw [stk,List.length_cons,List.replicate_succ,stk,←ih];rcases hh h List.mem_cons_self with e |e
  ·rw [e,zeu h1];simp [zap,h2,Tr.fill,fills]
  ·rw [e,zdB (zar hB s0)];rfl
theorem zlO (h:w0≠w5) {ts us:List Tr}:∀n m:Nat,stk (.nd w5 ts) (List.replicate n w0)=stk (.nd w5 us) (List.replicate m w0)→n=m∧ts=us
 |0,0,e=>by simpa [stk]using e
 |0,m+1,e=>by
  simp only[List.replicate_succ,List.replicate_zero,stk,Tr.nd.injEq]at e;exact absurd e.1.symm h
 |n+1,0,e=>by
  simp only[List.replicate_succ,List.replicate_zero,stk,Tr.nd.injEq]at e;exact absurd e.1 h
 |n+1,m+1,e=>by
  simp only[List.replicate_succ,stk,Tr.nd.injEq,List.cons.injEq,and_true,true_and]at e;obtain⟨a,b⟩:=zlO h n m e;exact⟨by rw [a],b⟩
theorem zpN{B:List Tn}(hB:∀t∈B,zbd t.1) {w:Str}(h:zbj w):∀n:Nat,Mvs B 1 (List.replicate n (.nd w [])) (List.replicate n (.nd w [])) (List.replicate n (.nd w []))
 |0=> .nil
 |n+1=>by
  rw [List.replicate_succ];exact .cons (.nn (zar hB h) (zar hB h) .nil) (zpN hB h n)
structure Fit (B:List Tn) (X:Tr):Prop where
  dp:X.depth≤40
  wt:X.weight≤1000
  ar:X.ar B
  w1:(X.mk B (zap 1)).wd
  w2:(X.mk B (zap 2)).wd
  hd:X.hd fun _=>True
end
section
variable {S:Sto}{a:Addr}{B:List Tn}{r:Nat}{Q:WK}{E:Str→Sto→Prop}{X Y:Tr}
theorem zpi{t:Tr}(h:t.small=true):t.depth<60:=by
 rcases Nat.lt_or_ge t.depth 60 with z |z
 ·exact z
 ·have:=(zep t).mpr (.inr (by omega));rw [this]at h;cases h
theorem zlo (ha:S a=some (.lst (B.map zbW))) (hg:SidesW (zap 1) B) (fX:Fit B X) (fY:Fit B Y) (hr:62≤r)
  (h1:(X.mk B (zap 1)).small=false∨(Y.mk B (zap 1)).small=false→E "TooGreat" S)
  (h2:(X.mk B (zap 1)).small=true→(Y.mk B (zap 1)).small=true→X.mk B (zap 1)≠Y.mk B (zap 1)→E "Apart" S)
  (h3:(X.mk B (zap 1)).small=true→(Y.mk B (zap 1)).small=true→X.mk B (zap 1)=Y.mk B (zap 1)→Q (enc (X.mk B (zap 1))) S):zbk (r+1) [.ref a,enc X,enc Y] S Q E:=by
 obtain⟨r,rfl⟩:∃r',r=r'+1:=⟨r - 1,by omega⟩
 rw [zbk];walk_at "wp";refine zer ha hg fX.dp (by omega) fX.ar fX.wt fX.w1 (fun e=>?_) fun e=>h1 (.inl e);refine zer ha hg fY.dp (by omega) fY.ar fY.wt fY.w1 (fun e2=>?_) fun e2=>h1 (.inr e2);rw [zoz 60 _ _ (zpi e2)];cases z:(Y.mk B (zap 1)).same (X.mk B (zap 1)) with
 |true=>
  try walk_at "wp"
  exact⟨_, .refl,h3 e e2 ((zfa _ _).mp z).symm⟩
 |false=>
  try walk_at "wp"
  try rw [zeV]
  try walk_at "wp"
  refine⟨zag (by decide),h2 e e2 fun k=>?_⟩;rw [k,zfO]at z;cases z
end
noncomputable def lTG:List W:=[.bl true, .bl false, .bl false, .bl false, .bl false, .bl false]
noncomputable def lAP:List W:=[.bl false, .bl true, .bl false, .bl false, .bl false, .bl false]
section
variable {w2 w5:Str}{hs:List Str}{n:Nat}
theorem zrW (n:Nat):enc (bas w2 w5 n)= .tup (.str w5::List.replicate n (.tup [.str w2])):=by
 rw [bas,show enc (.nd w5 (List.replicate n (.nd w2 [])))= .tup (.str w5::zaA (List.replicate n (.nd w2 []))) by simp [enc],zaZ,List.map_replicate]
 simp [enc,zaA]
theorem zhM (x:W):∀n:Nat,(List.replicate n [x]).flatten=List.replicate n x
 |0=>rfl
 |n+1=>by rw [List.replicate_succ,List.flatten_cons,zhM x n,List.replicate_succ];rfl
theorem zmZ (x:Tr) (h:Str) (hs:List Str):enc (stk x (h::hs))= .tup [.str h,enc (stk x hs)]:=by simp [stk,enc,zaA]
end
mutual
theorem zkT{us:List Tr}(hu:∀u∈us,u.wd):∀t:Tr,t.weight≤1000→(t.fill us).wd
 | .bl n,h=>by
  rw [Tr.fill,List.getD_eq_getElem?_getD];cases e:us[n.toNat]? with
  |none=>exact trivial
  |some u=>exact hu u (List.mem_of_getElem? e)
 | .nd s ts,h=>by
  rw [Tr.weight]at h;have:=zcl ts;rw [Tr.fill];refine⟨?_,zhO hu ts (by omega)⟩;rw [zgn,List.length_map];omega
theorem zhO{us:List Tr}(hu:∀u∈us,u.wd):∀ts:List Tr,wts ts≤1000→wds (fills us ts)
 | [],h=>by rw [fills];exact trivial
 |t::ts,h=>by
  rw [wts]at h;rw [fills];exact⟨zkT hu t (by omega),zhO hu ts (by omega)⟩
end
mutual
theorem zpE{B:List Tn}{g:Tn→Tr}(hg:∀t∈B,(g t).weight≤1000):∀t:Tr,t.weight≤1000→(t.mk B g).wd
 | .bl n,h=>by rw [Tr.mk];exact trivial
 | .nd s ts,h=>by
  rw [Tr.weight]at h;have hl:=zcl ts;have ih:=zpI hg ts (by omega);rw [zeo]at ih;cases e:zaG B s with
  |none=>
   rw [zdB e];exact⟨by rw [List.length_map];omega,ih⟩
  |some u=>
   rw [zeu e];exact zkT (wds_iff.mp ih) _ (hg u (List.mem_of_find?_eq_some e))
theorem zpI{B:List Tn}{g:Tn→Tr}(hg:∀t∈B,(g t).weight≤1000):∀ts:List Tr,wts ts≤1000→wds (mks B g ts)
 | [],h=>by rw [mks];exact trivial
 |t::ts,h=>by
  rw [wts]at h;rw [mks];exact⟨zpE hg t (by omega),zpI hg ts (by omega)⟩
end
theorem zeB{f:Tr→Tr}:∀as:List Tr,(∀x∈as,x.weight≤(f x).weight)→wts as≤wts (as.map f)
 | [],h=>by simp [wts]
 |x::as,h=>by
  have:=zeB as fun y hy=>h y (List.mem_cons_of_mem _ hy);have:=h x List.mem_cons_self;rw [List.map_cons,wts,wts];omega
theorem zev{f:Tr→Tr}:∀as:List Tr,(∀x∈as,x.depth≤(f x).depth)→dts as≤dts (as.map f)
 | [],h=>by simp [dts]
 |x::as,h=>by
  have:=zev as fun y hy=>h y (List.mem_cons_of_mem _ hy);have:=h x List.mem_cons_self;rw [List.map_cons,dts,dts];omega
section
variable {ws:List Str}{B:List Tn}
theorem zlJ (K:Bk2 ws B):∀(n:Nat) (x:Tr),x.weight≤n→Wy ws B x→x.weight≤(src B x).weight∧x.depth≤(src B x).depth
 |0,x,hn,h=>by have:=zey x;omega
 |n+1,x,hn,h=>by
  rcases h.cases K.b with⟨s,as,rfl,hs,e,hk⟩ |⟨t,as,ht,rfl,e,hl,hk⟩
  ·rw [Tr.weight]at hn;have ih:∀y∈as,y.weight≤(src B y).weight∧y.depth≤(src B y).depth:=fun y hy=>zlJ K n y (by have:=zdd hy;omega) (hk y hy);have h1:=zeB (f:=src B) as fun y hy=>(ih y hy).1;have h2:=zev (f:=src B) as fun y hy=>(ih y hy).2;show _≤(Tr.mk B _ (Tr.nd s as)).weight∧_≤(Tr.mk B _ (Tr.nd s as)).depth;rw [zfz e,Tr.weight,Tr.weight,Tr.depth,Tr.depth];exact⟨Nat.add_le_add_left h1 1,Nat.add_le_add_left h2 1⟩
  ·rw [Tr.weight]at hn;have ih:∀y∈as,y.weight≤(src B y).weight∧y.depth≤(src B y).depth:=fun y hy=>zlJ K n y (by have:=zdd hy;omega) (hk y hy);have h1:=zeB (f:=src B) as fun y hy=>(ih y hy).1;have h2:=zev (f:=src B) as fun y hy=>(ih y hy).2;obtain⟨_,g1,g2⟩:=K.O.fill ht (us:=as.map (src B)) (by rw [List.length_map,hl]);show _≤(Tr.mk B _ (Tr.nd t.1 as)).weight∧_≤(Tr.mk B _ (Tr.nd t.1 as)).depth;rw [zem e,Tr.weight,Tr.depth];exact⟨Nat.le_trans (Nat.add_le_add_left h1 1) g1,Nat.le_trans (Nat.add_le_add_left h2 1) g2⟩
noncomputable def zvY (B:List Tn) (wn:List (List Int)) (p:List Int) (t:Tr):Prop:=∀e v,t.at e=some v→(p++e∈wn↔(ziZ B v).isSome=true)
theorem Sh.all{t:Tr}(h:Sh ws B t):zvY B (opl B t) [] t:=fun e v hv=>by
 have ft:=zfv (m:=0) _ h.hdT;rw [List.nil_append];constructor
 ·intro he;exact h.wn (fun q hq=>hq) e he e v (by simp) hv
 ·intro ho;obtain⟨u,ho⟩:=Option.isSome_iff_exists.mp ho;have m:=zqd t [] e v hv;rw [List.nil_append]at m;unfold opl;rw [←znc B t [] ft];refine List.mem_map.mpr ⟨(e,u.1),List.mem_flatMap.mpr ⟨(e,v),m,?_⟩,rfl⟩;unfold ztl;rw [ho];simp
structure Ful (ws:List Str) (B:List Tn) (t u:Tr):Prop where
  wi:Wi B (opl B t) t.depth [] t u
  sr:src B u=t
  wy:Wy ws B u
  us:u.us B []=t.op B []
open Classical in
noncomputable def fw (ws:List Str) (B:List Tn) (t:Tr):Tr:=if h:∃u,Ful ws B t u then choose h else t
noncomputable def hh (ws:List Str) (B:List Tn) (t:Tr):Nat→Tr
 |0=>t
 |k+1=>gol B (fw ws B (hh ws B t k))
noncomputable def wys (ws:List Str) (B:List Tn) (t:Tr) (k:Nat):List Tr:=(List.range k).map fun i=>fw ws B (hh ws B t i)
end
theorem zfi{t:Tr}(h:t.small=true):t.weight≤400∧t.depth≤40:=by
 have no:¬t.small=false:=by rw [h];simp
 constructor
 ·rcases Nat.lt_or_ge 400 t.weight with z |z
  ·exact absurd ((zep t).mpr (.inl (by omega))) no
  ·exact z
 ·rcases Nat.lt_or_ge 40 t.depth with z |z
  ·exact absurd ((zep t).mpr (.inr (by omega))) no
  ·exact z
structure WyF (ws:List Str) (B:List Tn) (x u:Tr):Prop where
  f:Ful ws B x u
  wt:u.weight≤400
  dp:u.depth≤40
  ar:u.ar B
  hd:u.hd fun _=>True
  wd:(u.mk B (zap 2)).wd
theorem znq{d:Nat}:∀{ts:List Tr},(∀x∈ts,x.depth≤d)→dts ts≤d
 | [],_=>by simp [dts]
 |t::ts,h=>by
  have h1:=h t List.mem_cons_self;have h2:=znq (ts:=ts) fun x hx=>h x (List.mem_cons_of_mem _ hx);rw [dts];omega
theorem zuU{B:List Tn}(O:Ort B) {t:Tn}(ht:t∈B) {s:Str}{ts ms:List Tr}(h:t.2.1.mt (.nd s ts)=some ms):dts ms≤dts ts:=by
 obtain⟨s0,l0,e0,_⟩:=O.inn t ht;rw [e0,Tr.mt]at h;split at h
 ·exact znq (zlY _ _ _ h)
 ·cases h
mutual
theorem Mv.bd{B:List Tn}(O:Ort B):∀{n:Nat}{x y z:Tr},Mv B n x y z→Mv B x.depth x y z
 |_,_,_,_, .nn a b m=>by
  rw [Tr.depth,Nat.add_comm];exact .nn a b (Mvs.bd O m)
 |_,_,_,_, .ns a b c d m=>by
  rw [Tr.depth,Nat.add_comm];exact .ns a b c d ((Mvs.bd O m).monoA _ (zuU O (List.mem_of_find?_eq_some b) c))
 |_,_,_,_, .sn a b c m=>by
  rw [Tr.depth,Nat.add_comm];exact .sn a b c (Mvs.bd O m)
 |_,_,_,_, .ss a b c m=>by
  rw [Tr.depth,Nat.add_comm];exact .ss a b c (Mvs.bd O m)
theorem Mvs.bd{B:List Tn}(O:Ort B):∀{n:Nat}{xs ys zs:List Tr},Mvs B n xs ys zs→Mvs B (dts xs) xs ys zs
 |_,_,_,_, .nil=> .nil
 |_,_,_,_, .cons a b=>by
  rw [dts];exact .cons ((Mv.bd O a).monoA _ (by omega)) ((Mvs.bd O b).monoA _ (by omega))
end
section
variable {ws:List Str}{B:List Tn}{x y:Tr}{a:Addr}{r:Nat}{S:Sto}{Q:WK}{E:Str→Sto→Prop}
theorem Bk2.mv (K:Bk2 ws B) (hx:Wy ws B x) (hy:Wy ws B y) (e:L2.src B x=L2.src B y):Mv B x.depth x y (res B x y):=by
 obtain⟨p,hp,rfl,rfl,_,_⟩:=zqi K hx hy e;have m:=ziU (c:=byC 1) (d:=byC 2) K.b K.O.mt (ziY (zfQ 1) (zfQ 2)) hp;have m1:=m.res;rw [m1];exact m.bd K.O
theorem Bk2.fitw (K:Bk2 ws B) (hx:Wy ws B x) (hs:(L2.src B x).small=true):x.depth≤40∧x.weight≤400∧x.ar B∧x.hd fun _=>True:=by
 obtain⟨g1,g2⟩:=zlJ K _ _ (Nat.le_refl _) hx;obtain⟨h1,h2⟩:=zfi hs;exact⟨by omega,by omega,hx.ar,zhl (fun _ _=>trivial) _ hx.hd⟩
theorem Bk2.gW (K:Bk2 ws B):SidesW (zap 2) B:=⟨fun t ht=>(K.b.ri t ht).fits,fun t ht=>(K.b.ri t ht).dp,fun t ht=>Nat.le_trans (K.b.ri t ht).wt (by decide)⟩
theorem Bk2.okmv (K:Bk2 ws B):∀t∈B,t.2.1.depth≤4∧t.2.1.weight≤100∧t.2.2.depth≤4∧t.2.2.weight≤100∧t.2.2.fits t.2.1.nb:=fun t ht=>by
 have h1:=K.b.lf t ht;have h2:=K.b.ri t ht;have h3:=h1.wt;have h4:=h1.nb;have h5:=h2.wt;exact⟨h1.dp,by omega,h2.dp,by omega,h2.fits⟩
structure Cel (ws:List Str) (B:List Tn) (x y:Tr):Prop where
  K:Bk2 ws B
  wx:Wy ws B x
  wy:Wy ws B y
  e:src B x=src B y
  sm:(src B y).small=true
theorem Cel.symm (h:Cel ws B x y):Cel ws B y x:=⟨h.K,h.wy,h.wx,h.e.symm,by rw [h.e];exact h.sm⟩
theorem Cel.ok_move (h:Cel ws B x y) (ha:S a=some (.lst (B.map zbW))) (hr:60≤r) (q:Q (enc (res B x y)) S):zbB (r+1) [.ref a,enc x,enc y] S Q E:=by
 obtain⟨d1,w1,_,h1⟩:=h.K.fitw h.wx (by rw [h.e];exact h.sm);obtain⟨d2,w2,_,h2⟩:=h.K.fitw h.wy h.sm;exact zkL h.K.okmv x.depth ha (h.K.mv h.wx h.wy h.e) (by omega) h1 h2 (by omega) (by omega) q
theorem Bk2.ok_goalX (K:Bk2 ws B) (hx:Wy ws B x) (hs:(L2.src B x).small=true) (ha:S a=some (.lst (B.map zbW))) (hr:60≤r) (h1:(L2.gol B x).small=true→Q (enc (L2.gol B x)) S) (h2:(L2.gol B x).small=false→E "TooGreat" S):zdv (r+1) [.ref a,enc x] S Q E:=by
 obtain⟨d1,w1,a1,_⟩:=K.fitw hx hs;have e2:x.mk B (zap 2)=L2.gol B x:=by rw [zvh]
 refine zoU ha K.gW d1 hr a1 (by omega) (zpE (fun t ht=>Nat.le_trans (K.gW.wt t ht) (by decide)) _ (by omega)) (fun z=>?_) fun z=>?_
 ·rw [e2]at z⊢;exact h1 z
 ·rw [e2]at z;exact h2 z
end
section
variable {ws:List Str}{B:List Tn}{a l q:Addr}{r:Nat}{E:WX}{D:WEnds}
theorem zkN{S:Sto}{G:Sto→Prop}(K:Bk2 ws B) (hG:G S) (ha:S a=some (.lst (B.map zbW))) (hr:60≤r):∀(xs:List Tr) {t:Tr}(y1 y2:Option W),Roa ws B t xs→t.small=true→((∀x∈xs,(gol B x).small=true)→ ∀z,D.nx [some (.ref a),y1,z] S)→((∃x∈xs,(gol B x).small=false)→ ∀σ,E "TooGreat" σ S)→zdA (wGN 2) (zbR (r+1) zba) E D G (xs.map enc) [some (.ref a),y1,y2] S
 | [],t,y1,y2,_,_,h,_=>h (fun _ hx=>nomatch hx) y2
 |x::xs,t,y1,y2,⟨h1,h2,h3⟩,hs,h,hE=>by
  rw [List.map_cons];refine zbK fun N hN=>?_;rw [zjH,zbR];walk_at "wp";refine K.ok_goalX h1 (by rw [h2];exact hs) ha (by omega) (fun z=>?_) fun z=>hE ⟨x,List.mem_cons_self,z⟩ _;refine hN _ _ _ .refl hG (zkN K hG ha hr xs y1 _ h3 z (fun k=>h fun u hu=>?_) fun⟨u,hu,e⟩=>hE ⟨u,List.mem_cons_of_mem _ hu,e⟩);rcases List.mem_cons.mp hu with e |e
  ·rw [e];exact z
  ·exact k u e
theorem zco{S:Sto}{xs:List Tr}{t:Tr}{Q:WK}{X:Str→Sto→Prop}(K:Bk2 ws B) (ha:S a=some (.lst (B.map zbW))) (hl:S l=some (.lst (xs.map enc))) (hx:Roa ws B t xs) (hs:t.small=true) (hr:60≤r) (h:(∀x∈xs,(gol B x).small=true)→Q .non S) (hX:(∃x∈xs,(gol B x).small=false)→X "TooGreat" S):zaz (r+2) [.ref a, .ref l] S Q X:=by
 rw [show r+2=r+1+1 from rfl,zaz];walk_at "wp";rw [zak hl];exact zkN K hl ha hr xs _ _ hx hs (fun k z=>⟨_, .refl,h k⟩) fun k σ=>hX k
noncomputable def LOk (B:List Tn):Tr→List Tr→Prop
 |_,[]=>True
 |x,o::os=>(gol B (res B x o)).small=true∧LOk B (res B x o) os
theorem zkQ{S0:Sto}{G:Sto→Prop}(K:Bk2 ws B) (ha:S0 a=some (.lst (B.map zbW))) (h0:S0 q=none) (hG:∀S,Sub S0 S→G S) (hr:64≤r):∀(os:List Tr) {x t:Tr},Wy ws B x→src B x=t→Roa ws B t os→t.small=true→(∀o∈os,(gol B o).small=true)→ ∀(xs:List W) {S:Sto}{y1 y2 y4 y5:Option W},xs.length+os.length≤900→Sub S0 S→S q=some (.lst (xs++[enc x]))→
  (LOk B x os→ ∀S' y4 y5,Sub S0 S'→S' q=some (.lst (xs++(zcB B x os).map enc))→D.nx [some (.ref a),y1,y2,some (.ref q),y4,y5] S')→(¬LOk B x os→ ∀σ S',Sub S0 S'→E "TooGreat" σ S')→
  zdA (wGN 4) (zbm r zba) E D G (os.map enc) [some (.ref a),y1,y2,some (.ref q),y4,y5] S
 | [],x,t,hx,ex,hR,hs,hg=>fun xs S y1 y2 y4 y5 hl sb hq h _=>h trivial S _ _ sb hq
 |o::os,x,t,hx,ex,⟨r1,r2,r3⟩,hs,hg=>by
  intro xs S y1 y2 y4 y5 hl sb hq h hE;have cl:Cel ws B x o:=⟨K,hx,r1,by rw [ex,r2],by rw [r2];exact hs⟩
  have m:=K.moved hx r1 cl.e;have go:=hg o List.mem_cons_self;rw [List.map_cons];rw [List.length_cons]at hl;refine zbK fun N hN=>?_;rw [zjH,zbm];rw [zbf];walk_at "wp";rw [zak hq,zfF];dsimp only;obtain⟨r',er⟩:∃r',r=r'+2:=⟨r - 2,by omega⟩
  rw [er];refine cl.ok_move (r:=r'+1) (sb _ _ ha) (by omega) ?_;rw [zbe];walk_at "wp";refine⟨by decide,fun v hv=>?_⟩;have sv:Sub S0 (put S v (Ob.lst [enc (res B x o)])):=sb.trans (.put .refl hv);refine zco (xs:=[res B x o]) (t:=gol B o) K (sv _ _ ha) zah ⟨m.wy,m.sr,trivial⟩ go (by omega) (fun k=>?_) fun⟨u,hu,e⟩=>?_
  ·have k0:=k _ List.mem_cons_self;rw [zbg];walk_at "wp";have fq:=keep (x:=Ob.lst [enc (res B x o)]) hq hv;rw [zak fq,zak fq];refine⟨trivial,zdE (by rw [List.length_append,List.length_singleton];omega),?_⟩;have sb2:Sub S0 (put (put S v (Ob.lst [enc (res B x o)])) q (.lst (xs++[enc x]++[enc (res B x o)]))):= .put sv h0;refine hN _ _ _ .refl (hG _ sb2) (zkQ K ha h0 hG hr os m.wy m.sr r3 go (fun u hu=>hg u (List.mem_cons_of_mem _ hu)) (xs++[enc x]) (by rw [List.length_append,List.length_singleton];omega) sb2 zah (fun lk S' z4 z5 s' hq'=>?_) fun nk=>hE fun lk=>nk lk.2);refine h ⟨k0,lk⟩ S' z4 z5 s' ?_;rw [hq',zcB,List.map_cons];simp
  ·rw [List.mem_singleton.mp hu]at e;exact hE (fun lk=>by rw [lk.1]at e;cases e) _ _ sv
theorem zge{S:Sto}{x t:Tr}{os:List Tr}{Q:WK}{X:Str→Sto→Prop}(K:Bk2 ws B) (ha:S a=some (.lst (B.map zbW))) (hl:S l=some (.lst (os.map enc))) (hx:Wy ws B x) (ex:src B x=t) (hR:Roa ws B t os) (hs:t.small=true) (hg:∀o∈os,(gol B o).small=true) (hn:os.length≤800) (hr:64≤r)
  (h:LOk B x os→ ∀S' q,Sub S S'→S q=none→S' q=some (.lst ((zcB B x os).map enc))→Q (.ref q) S') (hX:¬LOk B x os→ ∀S',Sub S S'→X "TooGreat" S'):zaK (r+1) [.ref a,enc x, .ref l] S Q X:=by
 rw [zaK,zeG];refine⟨rfl,?_⟩;rw [zbr];walk_at "wp";refine⟨by decide,fun q hq=>?_⟩;rw [zbq];walk_at "wp";rw [zak (keep hl hq)];refine zkQ K ha hq (fun S' sb=>sb _ _ hl) hr os hx ex hR hs hg [] (by simp;omega) (.put .refl hq) zah (fun lk S' y4 y5 sb hq'=>?_) fun nk σ S' sb=>hX nk S' sb;rw [zbn];walk_at "wp";exact⟨_, .refl,h lk S' q sb hq (by rw [hq',List.nil_append])⟩
end
noncomputable def GOk (B:List Tn):List Tr→List Tr→Prop
 | [],_=>True
 |x::xs,os=>LOk B x os∧GOk B xs (zel B x os)
section
variable {ws:List Str}{B:List Tn}
theorem zfq (K:Bk2 ws B):∀(os:List Tr) {x t:Tr},Wy ws B x→src B x=t→Roa ws B t os→LOk B x os→ ∀u∈zel B x os,(gol B u).small=true
 | [],x,t,_,_,_,_,u,hu=>by cases hu
 |o::os,x,t,hx,ex,⟨r1,r2,r3⟩,⟨l1,l2⟩,u,hu=>by
  have m:=K.moved hx r1 (by rw [ex,r2]);rw [zel]at hu;rcases List.mem_cons.mp hu with e |e
  ·rw [e,←m.go];exact l1
  ·exact zfq K os m.wy m.sr r3 l2 u e
theorem zjO (K:Bk2 ws B):∀(os:List Tr) {x t:Tr},Wy ws B x→src B x=t→Roa ws B t os→t.small=true→(∀o∈os,(gol B o).small=true)→ ∀p∈os.zip (zcB B x os),Cel ws B p.1 p.2
 | [],x,t,_,_,_,_,_,p,hp=>by cases hp
 |o::os,x,t,hx,ex,⟨r1,r2,r3⟩,hs,hg,p,hp=>by
  have cl:Cel ws B x o:=⟨K,hx,r1,by rw [ex,r2],by rw [r2];exact hs⟩
  have m:=K.moved hx r1 cl.e;rw [zcB,List.zip_cons_cons]at hp;rcases List.mem_cons.mp hp with rfl |hp
  ·exact cl.symm
  ·exact zjO K os m.wy m.sr r3 (hg o List.mem_cons_self) (fun u hu=>hg u (List.mem_cons_of_mem _ hu)) p hp
end
section
variable {ws:List Str}{B:List Tn}{a l1 l2 d o ρ:Addr}{r:Nat}{E:WX}{D:WEnds}{T:WS}{t t':Tr}{xs os:List Tr}{S:Sto}{y1 y2 y3 y4 y5 y6 y7:Option W}
theorem zuv{x:Tr}{q:Addr}(ha:S a=some (.lst (B.map zbW))) (hl:S ρ=some (.lst (os.map enc))) (hq:S q=some (.lst ((zcB B x os).map enc))) (hc:∀p∈os.zip (zcB B x os),Cel ws B p.1 p.2) (hn:os.length≤800) (hr:63≤r)
  (h:∀ρ',S ρ'=none→T E D [some (.ref a),y1,y2,y3,some (.ref ρ'),y5,y6,some (.ref q)] (put S ρ' (.lst ((zel B x os).map enc)))) :
  zda r T E D [some (.ref a),y1,y2,y3,some (.ref ρ),y5,y6,some (.ref q)] S:=by
 rw [zda];walk_at "wp";rw [zak hl,zak hq,ziq];refine zaO (fun σ=>∃u v,σ=[u,v,some (.ref a)]) (fun p:Tr×Tr=> .tup [enc p.1,enc p.2]) (fun p=>enc (res B p.1 p.2)) ⟨hl,hq⟩ (os.zip (zcB B x os)) [] _ ⟨none,none,rfl⟩ (by rw [List.length_zip,zkt];simp;omega) (fun p hp σ R hI hR=>?_) ?_
 ·obtain⟨u,v,rfl⟩:=hI;have h2:=hc p hp;rw [zuS];show zbJ (wGN 0) (zbJ (wGN 1) zgc) [enc p.1,enc p.2] _ S _;rw [zhb];show wGN 0 _ _ _ _;rw [zjH,zhb];show wGN 1 _ _ _ _;rw [zjH,zmU,zjV];show zam _ _ _ [some (enc p.1),some (enc p.2),some (.ref a)] _ _;walk_at "wp";obtain⟨r,rfl⟩:∃r',r=r'+1:=⟨r - 1,by omega⟩
  exact h2.ok_move ha (by omega) (hR _ _ ⟨_,_,rfl⟩ .refl)
 ·intro ρ' hρ;have:=h ρ' hρ;rw [←zmz,List.map_map]at this;exact this
theorem zkH{S0:Sto}{G:Sto→Prop}(K:Bk2 ws B) (ha:S0 a=some (.lst (B.map zbW))) (hd0:S0 d=none) (ho0:S0 o=none) (hdo:d≠o) (hG:∀S,Sub S0 S→G S) (hr:66≤r):∀(xs:List Tr) {os:List Tr}{t:Tr},Roa ws B t xs→Roa ws B t os→t.small=true→(∀x∈xs,(gol B x).small=true)→(∀x∈os,(gol B x).small=true)→ ∀{S:Sto}{ρ:Addr}{ds rs:List Addr}{Ds Rs:List (List Tr)}{y1 y2 y6 y7:Option W},os.length≤800→ds.length+xs.length≤800→rs.length+xs.length≤800→Sub S0 S→S d=some (.lst (ds.map W.ref))→S o=some (.lst (rs.map W.ref++[.ref ρ]))→Ats S0 S d o ds Ds→Ats S0 S d o rs Rs→At S0 S d o ρ os→
  (GOk B xs os→ ∀S' ds' rs' y4 y6 y7,Sub S0 S'→S' d=some (.lst (ds'.map W.ref))→S' o=some (.lst (rs'.map W.ref))→Ats S0 S' d o ds' (Ds++zjz B xs os)→Ats S0 S' d o rs' (Rs++zjC B xs os)→D.nx [some (.ref a),y1,y2,some (.ref d),y4,some (.ref o),y6,y7] S')→(¬GOk B xs os→ ∀σ S',Sub S0 S'→E "TooGreat" σ S')→
  zdA (wGN 6) (zeU r zba) E D G (xs.map enc) [some (.ref a),y1,y2,some (.ref d),some (.ref ρ),some (.ref o),y6,y7] S
 | [],os,t,u1,u2,u3,u4,u5=>by
  rename_i S ρ ds rs Ds Rs y1 y2 y6 y7;intro _ _ _ sb hd ho AD AR Aρ h _;refine h trivial S ds (rs++[ρ]) _ _ _ sb hd ?_ ?_ ?_
  ·rw [ho,List.map_append];rfl
  ·rw [zjz,List.append_nil];exact AD
  ·rw [zjC];exact zdC AR Aρ
 |x::xs,os,t,⟨x1,x2,x3⟩,hRo,hs,gx,go=>by
  rename_i S ρ ds rs Ds Rs y1 y2 y6 y7;intro n1 n2 n3 sb hd ho AD AR Aρ h hE;rw [List.length_cons]at n2 n3;rw [List.map_cons];refine zbK fun N hN=>?_;rw [zjH,zeU];rw [zdX];walk_at "wp";obtain⟨r',er⟩:∃r',r=r'+1:=⟨r - 1,by omega⟩
  have er2:zaK r=zaK (r'+1):=by rw [er]
  rw [er2];refine zge K (sb _ _ ha) Aρ.e x1 x2 hRo hs go n1 (by omega) (fun lk S1 q s1 hq0 hq=>?_) fun nk S1 s1=>hE (fun gk=>nk gk.1) _ _ (sb.trans s1);refine zuv (s1 _ _ (sb _ _ ha)) (s1 _ _ Aρ.e) hq (zjO K os x1 x2 hRo hs go) n1 (by omega) fun ρ' hρ=>?_;have s2:Sub S (put S1 ρ' (.lst ((zel B x os).map enc))):=s1.trans (.put .refl hρ);have qd:q≠d:=by rintro rfl;rw [hd]at hq0;cases hq0
  have qo:q≠o:=by rintro rfl;rw [ho]at hq0;cases hq0
  have ρd:ρ'≠d:=by rintro rfl;rw [s1 _ _ hd]at hρ;cases hρ
  have ρo:ρ'≠o:=by rintro rfl;rw [s1 _ _ ho]at hρ;cases hρ
  have Aq:At S0 (put S1 ρ' (.lst ((zel B x os).map enc))) d o q (zcB B x os):=⟨qd,qo,keep hq hρ,zeX sb hq0⟩;have Aρ':At S0 (put S1 ρ' (.lst ((zel B x os).map enc))) d o ρ' (zel B x os):=⟨ρd,ρo,zah,zeX (sb.trans s1) hρ⟩;have AD':=zcr (fun _ _ z=>At.sub z s2) AD;have AR':=zcr (fun _ _ z=>At.sub z s2) AR;have A0:=Aρ.sub s2;have hd2:=s2 _ _ hd;have ho2:=s2 _ _ ho;have sb2:=sb.trans s2;generalize put S1 ρ' (.lst ((zel B x os).map enc))=S2 at Aq Aρ' AD' AR' A0 hd2 ho2 sb2⊢;have ld:(ds.map W.ref).length≤1000:=by rw [List.length_map];omega
  have lo:(rs.map W.ref++[W.ref ρ]).length≤1000:=by rw [List.length_append,List.length_map,List.length_singleton];omega
  refine zwz hd2 ld ?_;refine zvJ (vs:=rs.map W.ref++[.ref ρ]) (by rw [zaE hdo.symm];exact ho2) lo ?_;have sb3:Sub S0 (put (put S2 d (.lst (ds.map W.ref++[.ref q]))) o (.lst (rs.map W.ref++[.ref ρ]++[.ref ρ']))):= .put (.put sb2 hd0) ho0;refine hN _ _ _ .refl (hG _ sb3) (zkH K ha hd0 ho0 hdo hG hr xs (ds:=ds++[q]) (rs:=rs++[ρ]) (Ds:=Ds++[zcB B x os]) (Rs:=Rs++[os]) x3 (zdU K os x1 x2 hRo).1 (gx x List.mem_cons_self) (fun u hu=>gx u (List.mem_cons_of_mem _ hu)) (zfq K os x1 x2 hRo lk) (by rw [zjE];exact n1) (by rw [List.length_append,List.length_singleton];omega) (by rw [List.length_append,List.length_singleton];omega) sb3 ?_ ?_ ?_ ?_ Aρ'.pd.po (fun gk S' ds' rs' z4 z6 z7 s' h1 h2 h3 h4=>?_) fun ng=>hE fun gk=>ng gk.2)
  ·rw [zaE hdo,zah,List.map_append];rfl
  ·rw [zah,List.map_append];rfl
  ·exact zdC (zcr (fun _ _ z=>At.po (At.pd z)) AD') Aq.pd.po
  ·exact zdC (zcr (fun _ _ z=>At.po (At.pd z)) AR') A0.pd.po
  ·refine h ⟨lk,gk⟩ S' ds' rs' z4 z6 z7 s' h1 h2 ?_ ?_
   ·rw [zjz];rw [List.append_assoc]at h3;exact h3
   ·rw [zjC];rw [List.append_assoc]at h4;exact h4
structure GGood (B:List Tn) (xs os:List Tr):Prop where
  gx:∀x∈xs,(gol B x).small=true
  go:∀x∈os,(gol B x).small=true
  ok:GOk B xs os
theorem zdR{Q:WK}{X:Str→Sto→Prop}(K:Bk2 ws B) (ha:S a=some (.lst (B.map zbW))) (h1:S l1=some (.lst (xs.map enc))) (h2:S l2=some (.lst (os.map enc))) (hx:Roa ws B t xs) (ho:Roa ws B t' os) (hs:t.small=true) (nx:xs.length≤700) (no:os.length≤700) (hr:70≤r)
  (hA:t≠t'→X "Apart" S) (hX:t=t'→ ¬GGood B xs os→ ∀S',Sub S S'→X "TooGreat" S')
  (h:t=t'→GGood B xs os→ ∀S' d o,Grd S S' B xs os d o→Q (.tup [.ref d, .ref o]) S'):zcS (r+1) [.ref a, .tup [enc t, .ref l1], .tup [enc t', .ref l2]] S Q X:=by
 obtain⟨b1,b2⟩:=zfi hs;rw [zcS,zeG];refine⟨rfl,?_⟩;rw [zfh];walk_at "wp";rw [zoz 60 _ _ (by omega)];cases e:t.same t' with
 |false=>
  try walk_at "wp"
  try rw [zeV]
  try walk_at "wp"
  refine⟨zag (by decide),hA fun k=>?_⟩;rw [k,zfO]at e;cases e
 |true=>
  have et:t=t':=(zfa _ _).mp e;subst et
  try walk_at "wp"
  refine zxp b1 b2 (by omega) ?_;rw [zeQ];walk_at "wp";obtain⟨r',er⟩:∃r',r=r'+2:=⟨r - 2,by omega⟩
  have er2:zaz r=zaz (r'+2):=by rw [er]
  rw [er2];refine zco K ha h1 hx hs (by omega) (fun gx=>?_) fun⟨u,hu,eu⟩=>hX rfl (fun g=>by have:=g.gx u hu;rw [eu]at this;cases this) _ .refl
  rw [zfc];walk_at "wp";rw [er2];refine zco K ha h2 ho hs (by omega) (fun go=>?_) fun⟨u,hu,eu⟩=>hX rfl (fun g=>by have:=g.go u hu;rw [eu]at this;cases this) _ .refl
  refine zxd fun d hd=>zxq (keep h2 hd) fun ρ hρ=>zxs fun o h0=>?_;have ρd:ρ≠d:=by rintro rfl;rw [zah]at hρ;cases hρ
  have od:o≠d:=by rintro rfl;rw [zaE ρd.symm,zah]at h0;cases h0
  have oρ:o≠ρ:=by rintro rfl;rw [zah]at h0;cases h0
  have oS:S o=none:=by rw [zaE oρ,zaE od]at h0;exact h0
  have sb:Sub S (put (put (put S d (.lst [])) ρ (.lst (os.map enc))) o (.lst [.ref ρ])):=(Sub.put .refl hd).trans ((Sub.put .refl hρ).trans (.put .refl h0));rw [zff];walk_at "wp";show zbG _ l1 _;rw [zak (sb _ _ h1)];refine zkH K ha hd oS od.symm (fun S' s'=>s' _ _ h1) (by omega) xs (ds:=[]) (rs:=[]) (Ds:=[]) (Rs:=[]) hx ho hs gx go (by omega) (by simp;omega) (by simp;omega) sb ?_ zah .nil .nil ⟨ρd,oρ.symm,?_,by rw [zaE ρd]at hρ;exact hρ⟩ (fun gk S' ds rs y4 y6 y7 s' g1 g2 g3 g4=>?_) fun ng σ S' s'=>hX rfl (fun g=>ng g.ok) _ s'
  ·rw [zaE od.symm,zaE ρd.symm,zah];rfl
  ·rw [zaE oρ.symm,zah]
  ·rw [zeY];walk_at "wp";exact⟨by decide,_, .refl,h rfl ⟨gx,go,gk⟩ S' d o ⟨s',hd,oS,od.symm,ds,rs,g1,g2,g3,g4⟩⟩
end
section
variable {ws:List Str}{B:List Tn}
theorem zgx:∀(os:List Tr) {x:Tr},LOk B x os→(gol B x).small=true→(gol B (zeN B x os)).small=true
 | [],x,_,h=>h
 |o::os,x,⟨l1,l2⟩,h=>zgx os l2 l1
theorem zew (K:Bk2 ws B):∀(xs os:List Tr) {t:Tr},Roa ws B t xs→Roa ws B t os→GOk B xs os→(∀x∈xs,(gol B x).small=true)→ ∀u∈zbu B xs os,(gol B u).small=true
 | [],os,t,_,_,_,_,u,hu=>by cases hu
 |x::xs,os,t,⟨x1,x2,x3⟩,ho,⟨g1,g2⟩,gx,u,hu=>by
  rw [zbu]at hu;rcases List.mem_cons.mp hu with e |e
  ·rw [e];exact zgx os g1 (gx x List.mem_cons_self)
  ·exact zew K xs _ x3 (zdU K os x1 x2 ho).1 g2 (fun v hv=>gx v (List.mem_cons_of_mem _ hv)) u e
theorem zgz (K:Bk2 ws B):∀(xs os:List Tr) {t:Tr},Roa ws B t xs→Roa ws B t os→GOk B xs os→(∀x∈os,(gol B x).small=true)→ ∀u∈zdS B xs os,(gol B u).small=true
 | [],os,t,_,_,_,go,u,hu=>go u hu
 |x::xs,os,t,⟨x1,x2,x3⟩,ho,⟨g1,g2⟩,go,u,hu=>by
  rw [zdS]at hu;exact zgz K xs _ x3 (zdU K os x1 x2 ho).1 g2 (zfq K os x1 x2 ho g1) u hu
theorem zee:∀(us:List Tr) {t:Tr},Roa ws B t us→t.small=true→(∀x∈us,(gol B x).small=true)→ ∀u∈us,Wy ws B u∧(src B u).small=true
 | [],t,_,_,_,u,hu=>by cases hu
 |x::us,t,⟨x1,x2,x3⟩,hs,g,u,hu=>by
  rcases List.mem_cons.mp hu with e |e
  ·rw [e];exact⟨x1,by rw [x2];exact hs⟩
  ·exact zee us x3 (g x List.mem_cons_self) (fun v hv=>g v (List.mem_cons_of_mem _ hv)) u e
theorem zdV:∀(us:List Tr) {t:Tr},t.small=true→(∀x∈us,(gol B x).small=true)→(znX B t us).small=true
 | [],t,hs,_=>hs
 |x::us,t,hs,g=>zdV us (g x List.mem_cons_self) fun v hv=>g v (List.mem_cons_of_mem _ hv)
theorem zno (K:Bk2 ws B) {xs os:List Tr}{t:Tr}(hx:Roa ws B t xs) (ho:Roa ws B t os):Roa ws B (znX B t xs) (zdS B xs os):=by
 rw [zic];exact zef K os xs ho hx
end
section
variable {ws:List Str}{B:List Tn}{x t t':Tr}{a l l1 l2:Addr}{r:Nat}{xs os:List Tr}{S:Sto}{Q:WK}{X:Str→Sto→Prop}
theorem zcY (K:Bk2 ws B) (hl:S l=some (.lst (xs.map enc))) (tx:∀x∈xs,Wy ws B x∧(src B x).small=true) (hn:xs.length≤1000) (hr:62≤r) (h:Q (.bl (xs.all Tr.quiet)) S):zbh (r+1) [.ref l] S Q X:=by
 rw [zbh];walk_at "wp";rw [zak hl];obtain⟨r,rfl⟩:∃r',r=r'+1:=⟨r - 1,by omega⟩
 refine zaO (fun σ=>∃y,σ=[y]) enc (fun x=>W.bl x.quiet) hl xs [] _ ⟨none,rfl⟩ (by simp;omega) (fun x hx σ R hI hR=>?_) ?_
 ·obtain⟨y,rfl⟩:=hI;obtain⟨h1,h2⟩:=tx x hx;obtain⟨d1,w1,_,_⟩:=K.fitw h1 h2;rw [zei];walk_at "wp";exact L2.zkO 40 d1 (by omega) (h1.len K) (by omega) (hR _ _ ⟨_,rfl⟩ .refl)
 ·rw [List.nil_append,zkI];refine⟨_, .refl,?_⟩;rw [List.all_map];exact h
theorem zrt (K:Bk2 ws B) (ha:S a=some (.lst (B.map zbW))) (hl:S l=some (.lst (xs.map enc))) (tx:∀x∈xs,Wy ws B x∧(src B x).small=true) (gx:∀x∈xs,(gol B x).small=true) (hr:64≤r) (h:Q (enc (znX B t xs)) S):znC (r+1) [.ref a, .tup [enc t, .ref l]] S Q X:=by
 rw [znC,zeG];refine⟨rfl,?_⟩;rw [zjB];walk_at "wp";rw [show atI [enc t,W.ref l] 1=some (.ref l) from rfl];walk_at "wp";rw [zak hl];rcases List.eq_nil_or_concat xs with rfl |⟨ys,u,rfl⟩
 ·exact⟨_, .refl,h⟩
 ·rw [List.concat_eq_append]at *;have hne:((ys++[u]).map enc).isEmpty=false:=by simp
  obtain⟨h1,h2⟩:=tx u (by simp);have h3:=gx u (by simp);rw [zkl]at h
  try rw [hne]
  rw [if_neg (by decide),zjm];walk_at "wp";rw [show atI [enc t,W.ref l] 1=some (.ref l) from rfl];walk_at "wp";rw [List.map_append]at hl;rw [zak hl,show [u].map enc=[enc u] from rfl,zfF];obtain⟨r,rfl⟩:∃r',r=r'+1:=⟨r - 1,by omega⟩
  exact K.ok_goalX h1 h2 ha (by omega) (fun _=>⟨_, .refl,h⟩) fun z=>by rw [h3]at z;cases z
theorem zlf (K:Bk2 ws B) (ha:S a=some (.lst (B.map zbW))) (h1:S l1=some (.lst (xs.map enc))) (h2:S l2=some (.lst (os.map enc))) (hx:Roa ws B t xs) (ho:Roa ws B t' os) (hs:t.small=true) (nx:xs.length≤700) (no:os.length≤700) (hr:75≤r)
  (hA:t≠t'→X "Apart" S) (hX:t=t'→ ¬GGood B xs os→ ∀S',Sub S S'→X "TooGreat" S')
  (h:t=t'→GGood B xs os→ ∀S',Sub S S'→Q (.bl ((zbu B xs os).all Tr.quiet)) S'):zcE (r+1) [.ref a, .tup [enc t, .ref l1], .tup [enc t', .ref l2]] S Q X:=by
 obtain⟨r,rfl⟩:∃r',r=r'+1:=⟨r - 1,by omega⟩
 rw [zcE];walk_at "wp";refine zdR K ha h1 h2 hx ho hs nx no (by omega) hA hX fun et gg S1 d o g=>?_;subst et;obtain⟨ds,rs,g1,g2,g3,g4⟩:=g.ex;refine zcW g1 nx g3 fun q hq=>?_;refine zcY K zah (zee _ (zef K xs os hx ho) (zdV os hs gg.go) (zew K xs os hx ho gg.ok gg.gx)) (by rw [zfb];omega) (by omega) ?_;exact⟨_, .refl,h rfl gg _ (g.sub.trans (.put .refl hq))⟩
theorem zgd (K:Bk2 ws B) (ha:S a=some (.lst (B.map zbW))) (h1:S l1=some (.lst (xs.map enc))) (h2:S l2=some (.lst (os.map enc))) (hx:Roa ws B t xs) (ho:Roa ws B t' os) (hs:t.small=true) (nx:xs.length≤700) (no:os.length≤700) (hr:75≤r)
  (hA:t≠t'→X "Apart" S) (hX:t=t'→ ¬GGood B xs os→ ∀S',Sub S S'→X "TooGreat" S')
  (h:t=t'→GGood B xs os→ ∀S' q,Sub S S'→S q=none→S' q=some (.lst ((zbu B xs os).map enc))→Q (.tup [enc (znX B t os), .ref q]) S'):zaM (r+1) [.ref a, .tup [enc t, .ref l1], .tup [enc t', .ref l2]] S Q X:=by
 obtain⟨r,rfl⟩:∃r',r=r'+1:=⟨r - 1,by omega⟩
 rw [zaM,zeG];refine⟨rfl,?_⟩;rw [zbS];walk_at "wp";refine zdR K ha h1 h2 hx ho hs nx no (by omega) hA hX fun et gg S1 d o g=>?_;subst et;obtain⟨ds,rs,g1,g2,g3,g4⟩:=g.ex;refine zcW g1 nx g3 fun q hq=>?_;have sb:Sub S (put S1 q (.lst ((zbu B xs os).map enc))):=g.sub.trans (.put .refl hq);have q0:S q=none:=zeX g.sub hq;have fq:put S1 q (.lst ((zbu B xs os).map enc)) q=some (.lst ((zbu B xs os).map enc)):=zah;generalize put S1 q (.lst ((zbu B xs os).map enc))=S2 at sb fq⊢;rw [zbV];walk_at "wp";refine zrt K (sb _ _ ha) (sb _ _ h2) (zee os ho hs gg.go) gg.go (by omega) ?_;exact⟨by decide,_, .refl,h rfl gg _ q sb q0 fq⟩
theorem zgf (K:Bk2 ws B) (ha:S a=some (.lst (B.map zbW))) (h1:S l1=some (.lst (xs.map enc))) (h2:S l2=some (.lst (os.map enc))) (hx:Roa ws B t xs) (ho:Roa ws B t' os) (hs:t.small=true) (nx:xs.length≤700) (no:os.length≤700) (hr:75≤r)
  (hA:t≠t'→X "Apart" S) (hX:t=t'→ ¬GGood B xs os→ ∀S',Sub S S'→X "TooGreat" S')
  (h:t=t'→GGood B xs os→ ∀S' q,Sub S S'→S q=none→S' q=some (.lst ((xs++zdS B xs os).map enc))→Q (.tup [enc t, .ref q]) S'):zaJ (r+1) [.ref a, .tup [enc t, .ref l1], .tup [enc t', .ref l2]] S Q X:=by
 obtain⟨r,rfl⟩:∃r',r=r'+1:=⟨r - 1,by omega⟩
 rw [zaJ,zeG];refine⟨rfl,?_⟩;rw [zbQ];walk_at "wp";refine zdR K ha h1 h2 hx ho hs nx no (by omega) hA hX fun et gg S1 d o g=>?_;subst et;obtain⟨ds,rs,g1,g2,g3,g4⟩:=g.ex;obtain⟨pl,el⟩:=zfH (B:=B) xs os;rw [el]at g4;obtain⟨pre,ρ,rfl,Aρ⟩:=zdL g4;rw [List.map_append]at g2;rw [zbX];walk_at "wp";rw [show atI [W.ref d,W.ref o] 1=some (.ref o) from rfl,show atI [enc t,W.ref l1] 1=some (.ref l1) from rfl];walk_at "wp";rw [zak g2,show [ρ].map W.ref=[W.ref ρ] from rfl,zfF];walk_at "wp";have h1':=g.sub _ _ h1;have Ae:=Aρ.e;have lo:(zdS B xs os).length≤700:=by rw [zhh];exact no
 rw [zak h1',zak Ae];refine⟨zag (by rw [List.length_map,List.length_map];omega),fun q hq=>⟨by decide,_, .refl,?_⟩⟩;exact h rfl gg _ q (g.sub.trans (.put .refl hq)) (zeX g.sub hq) (by rw [zah,List.map_append])
theorem zmB (K:Bk2 ws B) (ha:S a=some (.lst (B.map zbW))) (h1:S l1=some (.lst (xs.map enc))) (h2:S l2=some (.lst (os.map enc))) (hx:Roa ws B t xs) (ho:Roa ws B t' os) (hs:t.small=true) (nx:xs.length≤700) (no:os.length≤700) (hr:75≤r)
  (hA:t≠t'→X "Apart" S) (hX:t=t'→ ¬GGood B xs os→ ∀S',Sub S S'→X "TooGreat" S')
  (h:t=t'→GGood B xs os→ ∀S',Sub S S'→Q (.bl ((zbu B xs os).all Tr.quiet&&(zdS B xs os).all Tr.quiet)) S'):zdH (r+1) [.ref a, .tup [enc t, .ref l1], .tup [enc t', .ref l2]] S Q X:=by
 obtain⟨r,rfl⟩:∃r',r=r'+1:=⟨r - 1,by omega⟩
 rw [zdH,zeG];refine⟨rfl,?_⟩;rw [zfT];walk_at "wp";refine zdR K ha h1 h2 hx ho hs nx no (by omega) hA hX fun et gg S1 d o g=>?_;subst et;obtain⟨ds,rs,g1,g2,g3,g4⟩:=g.ex;rw [zfj];walk_at "wp";refine zcW g1 nx g3 fun q hq=>?_;refine zcY K zah (zee _ (zef K xs os hx ho) (zdV os hs gg.go) (zew K xs os hx ho gg.ok gg.gx)) (by rw [zfb];omega) (by omega) ?_;have sb:Sub S1 (put S1 q (.lst ((zbu B xs os).map enc))):= .put .refl hq;cases e:(zbu B xs os).all Tr.quiet with
 |false=>
  have:=h rfl gg _ (g.sub.trans sb);rw [e,Bool.false_and]at this;exact⟨_, .refl,this⟩
 |true=>
  obtain⟨pl,el⟩:=zfH (B:=B) xs os;rw [el]at g4;obtain⟨pre,ρ,rfl,Aρ⟩:=zdL g4;rw [List.map_append]at g2;have g2':=sb _ _ g2;have Ae:=(Aρ.sub sb).e;simp only[zxe]
  try walk_at "wp"
  rw [zak g2',show [ρ].map W.ref=[W.ref ρ] from rfl,zfF];refine zcY K Ae (zee _ (zno K hx ho) (zdV xs hs gg.gx) (zgz K xs os hx ho gg.ok gg.go)) (by rw [zhh];omega) (by omega) ?_;have:=h rfl gg _ (g.sub.trans sb);rw [e,Bool.true_and]at this;exact⟨_, .refl,this⟩
end
section
variable {ws:List Str}{B:List Tn}{x y t:Tr}{a:Addr}{r:Nat}{S:Sto}{Q:WK}{X:Str→Sto→Prop}
theorem Bk2.g1W (K:Bk2 ws B):SidesW (zap 1) B:=⟨fun t ht=>(K.b.lf t ht).fits,fun t ht=>(K.b.lf t ht).dp,fun t ht=>by
 have h1:=(K.b.lf t ht).wt;have h2:=(K.b.lf t ht).nb;show t.2.1.weight≤20;omega⟩
theorem Bk2.fitF (K:Bk2 ws B) (hx:Wy ws B x) (hs:(L2.src B x).small=true):Fit B x:=by
 obtain⟨d1,w1,a1,h1⟩:=K.fitw hx hs;exact⟨d1,by omega,a1,zpE (fun t ht=>Nat.le_trans (K.g1W.wt t ht) (by decide)) _ (by omega),zpE (fun t ht=>Nat.le_trans (K.gW.wt t ht) (by decide)) _ (by omega),h1⟩
theorem Cel.ok_behind (h:Cel ws B x y) (gy:(gol B y).small=true) (ha:S a=some (.lst (B.map zbW))) (hr:70≤r) (q:Q (enc (res B x y)) S):zdi (r+2) [.ref a,enc x,enc y] S Q X:=by
 have e1:∀z:Tr,z.mk B (zap 1)=src B z:=fun z=>by rw [zrh]
 have sx:(src B x).small=true:=by rw [h.e];exact h.sm
 refine zhq (r:=r+1) (e1:=enc (x.mk B (zap 1))) (e2:=enc (gol B y)) (fun {Q E} q=>?_) (fun {Q E} q=>?_) (fun {Q E} q=>h.ok_move ha (by omega) q) q
 ·refine zlo ha h.K.g1W (h.K.fitF h.wx sx) (h.K.fitF h.wy h.sm) (by omega) (fun z=>?_) (fun _ _ z=>?_) fun _ _ _=>q
  ·rw [e1,e1,sx,h.sm]at z;rcases z with z |z<;>cases z
  ·rw [e1,e1]at z;exact absurd h.e z
 ·exact h.K.ok_goalX h.wy h.sm ha (by omega) (fun _=>q) fun z=>by rw [gy]at z;cases z
end
noncomputable def bkA (w0 w4:Str):List Tn:=[tnA w0 w4]
section
variable {w0 w1 w2 w3 w4 w5:Str}
theorem nbA:(tnA w0 w4).2.1.nb=1:=by simp [tnA,Tr.nb,nbs]
theorem zoc:(tnA w0 w4).2.1∈zcj 0 w0 w2 w3:=by simp [tnA,zcj]
theorem zsE:RightT [w0,w1,w2,w3,w4,w5] 1 (tnA w0 w4).2.2:= .two (by simp) (by decide) (.bl (by decide) (by decide)) (.bl (by decide) (by decide))
theorem zoV{P:Tn→Prop}(h:P (tnA w0 w4)):∀t∈bkA w0 w4,P t:=fun t ht=>by rw [List.mem_singleton.mp ht];exact h
theorem zsw (G:Signs w0 w1 w2 w3 w4 w5):Bk2 [w0,w1,w2,w3,w4,w5] (bkA w0 w4):=by
 have rt:∀t∈bkA w0 w4,RightT [w0,w1,w2,w3,w4,w5] t.2.1.nb t.2.2:=zoV (by rw [nbA];exact zsE);have lf:∀t∈bkA w0 w4,LeftT zbj t.2.1:=zoV (zoC (G.ok w0 (by simp)) (G.ok w2 (by simp)) (G.ok w3 (by simp)) _ zoc);refine⟨⟨zoV zeg,by simp [bkA],G.ok,fun x hx=>hx,lf,fun t ht=>(rt t ht).w⟩,⟨zoV ⟨w0,[.bl 0],rfl,by simp [hbs,Tr.hb]⟩,zoV fun us hu=>zox (zoc (w2:=w2) (w3:=w3)) hu,zoV fun x ys h=>?_,fun u hu v hv x _ _=>?_,zoV (zkS (zoc (w2:=w2) (w3:=w3)))⟩,zoV (by simp [tnA,Tr.hb,hbs]),zsb rt⟩
 ·obtain⟨h1,h2⟩:=zqa _ x ys 0 _ (zkS (zoc (w0:=w0) (w2:=w2) (w3:=w3) (w4:=w4))) h;have:=h2 [] [] rfl;rw [List.nil_append,List.append_nil]at this;exact⟨this.symm,by omega⟩
 ·rw [List.mem_singleton.mp hu,List.mem_singleton.mp hv]
theorem zqu:zaG (bkA w0 w4) tiA=some (tnA w0 w4):=by simp [zaG,bkA,tnA]
theorem hBA:∀t∈bkA w0 w4,zbd t.1:=zoV zeg
end
noncomputable def wgt (b:Nat):List Bool→Nat
 | []=>b
 |true::fs=>2*wgt b fs+1
 |false::fs=>wgt b fs+1
section
variable {w0 w1 w2 w3 w4 w5:Str}{x:Tr}
noncomputable def isA (h:Str):Bool:=decide (h=tiA)
theorem zmK (G:Signs w0 w1 w2 w3 w4 w5) (hx:x.hd zbj):∀hs:List Str,(∀h∈hs,h=tiA∨h=w0)→(gol (bkA w0 w4) (stk x hs)).weight=wgt x.weight (hs.map isA)∧(gol (bkA w0 w4) (stk x hs)).depth=hs.length+x.depth
 | [],_=>by
  rw [show gol (bkA w0 w4) (stk x [])=x from zeT hBA x hx];simp [wgt]
 |h::hs,hh=>by
  obtain⟨i1,i2⟩:=zmK G hx hs fun y hy=>hh y (List.mem_cons_of_mem _ hy);have n0:w0≠tiA:=zbP (G.ok w0 (by simp)) zeg;rcases hh h List.mem_cons_self with e |e
  ·rw [e,show gol (bkA w0 w4) (stk x (tiA::hs))= .nd w4 [gol (bkA w0 w4) (stk x hs),gol (bkA w0 w4) (stk x hs)] by
    show Tr.mk _ _ (Tr.nd tiA [stk x hs])=_;rw [zeu zqu];simp [tnA,Tr.fill,fills]]
   rw [Tr.weight,wts,wts,wts,Tr.depth,dts,dts,dts,i1,i2,List.map_cons,show isA tiA=true from decide_eq_true rfl,wgt,List.length_cons];omega
  ·rw [e,show gol (bkA w0 w4) (stk x (w0::hs))= .nd w0 [gol (bkA w0 w4) (stk x hs)] from zdB (zar hBA (G.ok w0 (by simp)))];rw [Tr.weight,wts,wts,Tr.depth,dts,dts,i1,i2,List.map_cons,show isA w0=false from decide_eq_false n0,wgt,List.length_cons];omega
noncomputable def orA (hs gs:List Str):List Bool:=List.zipWith (fun h g=>isA h || isA g) hs gs
theorem zjU (G:Signs w0 w1 w2 w3 w4 w5) (hx:x.hd zbj) {k:Nat}(hM:Mv (bkA w0 w4) k x x x):∀hs gs:List Str,hs.length=gs.length→(∀h∈hs,h=tiA∨h=w0)→(∀h∈gs,h=tiA∨h=w0)→ ∃z,Mv (bkA w0 w4) (k+hs.length) (stk x hs) (stk x gs) z∧(gol (bkA w0 w4) z).weight=wgt x.weight (orA hs gs)∧(gol (bkA w0 w4) z).depth=hs.length+x.depth
 | [],[],_,_,_=>⟨x,hM,by rw [show gol (bkA w0 w4) x=x from zeT hBA x hx];simp [orA,wgt]⟩
 | [],g::gs,e,_,_=>by simp at e
 |h::hs,[],e,_,_=>by simp at e
 |h::hs,g::gs,e,h1,h2=>by
  obtain⟨z,M,i1,i2⟩:=zjU G hx hM hs gs (by simpa using e) (fun y hy=>h1 y (List.mem_cons_of_mem _ hy)) fun y hy=>h2 y (List.mem_cons_of_mem _ hy);have n0:w0≠tiA:=zbP (G.ok w0 (by simp)) zeg;have t0:zaG (bkA w0 w4) w0=none:=zar hBA (G.ok w0 (by simp));have t4:zaG (bkA w0 w4) w4=none:=zar hBA (G.ok w4 (by simp));have ln: [z].length=(tnA w0 w4).2.1.nb:=by rw [nbA];rfl
  have iA:isA tiA=true:=decide_eq_true rfl;have i0:isA w0=false:=decide_eq_false n0;have ef:(tnA w0 w4).2.2.fill [z]= .nd w4 [z,z]:=by simp [tnA,Tr.fill,fills]
  have fR:(gol (bkA w0 w4) (.nd w4 [z,z])).weight=wgt x.weight (true::orA hs gs)∧(gol (bkA w0 w4) (.nd w4 [z,z])).depth=hs.length+1+x.depth:=by
   rw [show gol (bkA w0 w4) (.nd w4 [z,z])= .nd w4 [gol (bkA w0 w4) z,gol (bkA w0 w4) z] from zdB t4,Tr.weight,wts,wts,wts,Tr.depth,dts,dts,dts,i1,i2,wgt];omega
  have fT:(gol (bkA w0 w4) (.nd tiA [z])).weight=wgt x.weight (true::orA hs gs)∧(gol (bkA w0 w4) (.nd tiA [z])).depth=hs.length+1+x.depth:=by
   rw [show gol (bkA w0 w4) (.nd tiA [z])= .nd w4 [gol (bkA w0 w4) z,gol (bkA w0 w4) z] by
    show Tr.mk _ _ (Tr.nd tiA [z])=_;rw [zeu zqu];simp [tnA,Tr.fill,fills]]
   rw [Tr.weight,wts,wts,wts,Tr.depth,dts,dts,dts,i1,i2,wgt];omega
  have f0:(gol (bkA w0 w4) (.nd w0 [z])).weight=wgt x.weight (false::orA hs gs)∧(gol (bkA w0 w4) (.nd w0 [z])).depth=hs.length+1+x.depth:=by
   rw [show gol (bkA w0 w4) (.nd w0 [z])= .nd w0 [gol (bkA w0 w4) z] from zdB t0,Tr.weight,wts,wts,Tr.depth,dts,dts,i1,i2,wgt];omega
  have eo:∀h g:Str,orA (h::hs) (g::gs)=(isA h || isA g)::orA hs gs:=fun _ _=>rfl;rw [stk,stk,List.length_cons,←Nat.add_assoc];rcases h1 h List.mem_cons_self with e1 |e1<;>rcases h2 g List.mem_cons_self with e2 |e2<;>rw [e1,e2,eo]
  ·rw [iA];have m:Mv (bkA w0 w4) (k+hs.length+1) (.nd tiA [stk x hs]) (.nd tiA [stk x gs]) _:= .ss zqu zqu ln (.cons M .nil);rw [ef]at m;exact⟨_,m,fR⟩
  ·rw [iA,i0];exact⟨_, .sn zqu t0 (mtA _) (.cons M .nil),fT⟩
  ·rw [iA,i0];have m:Mv (bkA w0 w4) (k+hs.length+1) (.nd w0 [stk x hs]) (.nd tiA [stk x gs]) _:= .ns t0 zqu (mtA _) ln (.cons M .nil);rw [ef]at m;exact⟨_,m,fR⟩
  ·rw [i0];exact⟨_, .nn t0 t0 (.cons M .nil),f0⟩
noncomputable def hdl (w0:Str) (n:Nat) (c:Int):List Str:=(List.range n).map fun(i:Nat)=>if(i:Int)=c then tiA else w0
theorem zcG (n:Nat) (c:Int):(hdl w0 n c).length=n:=by simp [hdl]
theorem zha (n:Nat) (c:Int):∀h∈hdl w0 n c,h=tiA∨h=w0:=fun h hm=>by
 unfold hdl at hm;obtain⟨i,_,rfl⟩:=List.mem_map.mp hm;split
 ·exact .inl rfl
 ·exact .inr rfl
theorem zkM (n:Nat):hdl w0 n (-1)=List.replicate n w0:=by
 unfold hdl;rw [List.eq_replicate_iff];refine⟨by simp,fun b hb=>?_⟩;obtain⟨i,_,rfl⟩:=List.mem_map.mp hb;rw [if_neg (by omega)]
noncomputable def flg (n:Nat) (cs:List Int):List Bool:=(List.range n).map fun(i:Nat)=>decide ((i:Int)∈cs)
theorem zjF (G:Signs w0 w1 w2 w3 w4 w5) (n:Nat) (c:Int):(hdl w0 n c).map isA=flg n [c]:=by
 have n0:w0≠tiA:=zbP (G.ok w0 (by simp)) zeg;unfold hdl flg;rw [List.map_map];refine List.map_congr_left fun i _=>?_;show isA (if(i:Int)=c then tiA else w0)=_;by_cases z:(i:Int)=c
 ·rw [if_pos z,decide_eq_true (by simp [z])];exact decide_eq_true rfl
 ·rw [if_neg z,decide_eq_false (by simpa using z)];exact decide_eq_false n0
theorem zsL (G:Signs w0 w1 w2 w3 w4 w5) (n:Nat) (c d:Int):orA (hdl w0 n c) (hdl w0 n d)=flg n [c,d]:=by
 have h1:=zjF G n c;have h2:=zjF G n d;unfold orA;rw [show List.zipWith (fun h g=>isA h || isA g) (hdl w0 n c) (hdl w0 n d)=List.zipWith (fun a b=>a || b) ((hdl w0 n c).map isA) ((hdl w0 n d).map isA) by rw [List.zipWith_map],h1,h2]
 unfold flg;rw [List.zipWith_map,List.zipWith_self];refine List.map_congr_left fun i _=>?_;by_cases z:(i:Int)=c<;>by_cases y:(i:Int)=d<;>simp [z,y]
theorem wg1 (b:Nat) (c:Int):∀(k i:Nat),wgt b ((List.range' i k).map fun(j:Nat)=>decide ((j:Int)∈ [c]))≤2*b+2*k∧(c<i→wgt b ((List.range' i k).map fun(j:Nat)=>decide ((j:Int)∈ [c]))=b+k)
 |0,i=>by simp [wgt];omega
 |k+1,i=>by
  obtain⟨h1,h2⟩:=wg1 b c k (i+1);rw [List.range'_succ,List.map_cons];by_cases z:(i:Int)=c
  ·rw [decide_eq_true (by simp [z]),wgt,h2 (by omega)];exact⟨by omega,fun y=>by omega⟩
  ·rw [decide_eq_false (by simpa using z),wgt];exact⟨by omega,fun y=>by have:=h2 (by omega);omega⟩
theorem znR (b n:Nat) (c:Int):wgt b (flg n [c])≤2*b+2*n:=by
 unfold flg;rw [List.range_eq_range'];exact(wg1 b c n 0).1
end
theorem zqc{g:WG}{b:WS}{E:WX}{D:WEnds}{hi:Int}(I:Nat→WSt→Sto→Prop) (n:Nat)
  (step:∀i,i<n→ ∀σ S (N:WSt→Sto→Prop),I i σ S→(∀σ' S' S'',Sub S'' S'→I (i+1) σ' S''→N σ' S')→g (.int (hi - (i:Int))) σ S fun σ1 S1=>b E { D with nx:=N,ct:=N,bk:=D.nx } σ1 S1)
  (done:∀σ S,I n σ S→D.nx σ S) {σ:WSt}{S:Sto}(h:I 0 σ S):zdA g b E D (fun _=>True) (zgw hi n) σ S:=by
 have all:∀(k i:Nat),i+k=n→ ∀σ S,I i σ S→zdA g b E D (fun _=>True) ((List.range' i k).map fun(i:Nat)=>W.int (hi - (i:Int))) σ S:=by
  intro k
  induction k with
  |zero=>
   intro i e σ S h;rw [show i=n by omega]at h
   have:=done σ S h;simpa [zdA]using this
  |succ k ih=>
   intro i e σ S h;rw [List.range'_succ,List.map_cons];refine zbK fun N hN=>?_;exact step i (by omega) σ S N h fun σ' S' S'' s hi'=>hN _ _ _ s trivial (ih (i+1) (by omega) σ' S'' hi')
 unfold zgw;rw [List.range_eq_range'];exact all n 0 (by omega) σ S h
section
variable {w0 w1 w2 w3 w4 w5:Str}{n m:Nat}{aw l:Addr}{r:Nat}{S:Sto}{Q:WK}{E:Str→Sto→Prop}{c:Int}
theorem zkC{i:Nat}(hi:i<n):(hdl w0 n c).drop (n - (i+1))=(if((n:Int) - 1 - (i:Int))=c then tiA else w0)::(hdl w0 n c).drop (n - i):=by
 have hl:n - (i+1)<(hdl w0 n c).length:=by rw [zcG];omega
 rw [List.drop_eq_getElem_cons hl,show n - (i+1)+1=n - i by omega]
 congr 1;have e:(((n - (i+1):Nat)):Int)=(n:Int) - 1 - (i:Int):=by omega
 simp only[hdl,List.getElem_map,List.getElem_range,e]
theorem zfg (hm:m≤200) (hn:1≤n) (hn5:n≤10) (fw:S aw=some (.lst (six w0 w1 w2 w3 w4 w5))) (h:Q (enc (stk (bas w2 w5 m) (hdl w0 n c))) S):zaI (r+1) [.int n, .int m, .int c, .ref aw] S Q E:=by
 have l1:1≤sizeLine:=zag (by decide);rw [zaI];walk_at "wp";simp only[zak fw,zwV,zxr];rw [Int.toNat_natCast,zhM];refine⟨l1,l1,l1,⟨by simp,by omega,by omega,zag (by omega)⟩,zag (by rw [List.length_replicate];omega),?_⟩
 rw [←zrW];refine⟨⟨by omega,by omega,by decide,by decide⟩,?_⟩
 rw [show((n:Int) - 1 - -1).toNat=n by omega]
 refine zqc (fun i σ S'=>S'=S∧ ∃x5,σ=[some (.int n),some (.int m),some (.int c),some (.ref aw),some (enc (stk (bas w2 w5 m) ((hdl w0 n c).drop (n - i)))),x5]) n ?_ ?_ ⟨rfl,none,by rw [Nat.sub_zero,List.drop_of_length_le (by rw [zcG];exact Nat.le_refl _)];rfl⟩
 ·rintro i hi σ S' N ⟨rfl,x5,rfl⟩ hN;simp only[zdy];walk_at "wp";simp only[zak fw,six0];split
  ·rename_i z;refine⟨zag (by decide),hN _ _ _ .refl ⟨rfl,some (.int ((n:Int) - 1 - (i:Int))),?_⟩⟩;rw [zkC hi,if_pos (by simpa using z),zmZ];rfl
  ·rename_i z;refine⟨zag (by decide),hN _ _ _ .refl ⟨rfl,some (.int ((n:Int) - 1 - (i:Int))),?_⟩⟩;rw [zkC hi,if_neg (by simpa using z),zmZ]
 ·rintro σ S' ⟨rfl,x5,rfl⟩;walk_at "wp";rw [Nat.sub_self,List.drop_zero];exact⟨_, .refl,h⟩
theorem zkG{cs:List Int}{i:Nat}(hi:i<n):(flg n cs).drop (n - (i+1))=decide (((n:Int) - 1 - (i:Int))∈cs)::(flg n cs).drop (n - i):=by
 have hl:n - (i+1)<(flg n cs).length:=by simp [flg];omega
 rw [List.drop_eq_getElem_cons hl,show n - (i+1)+1=n - i by omega]
 congr 1;have e:(((n - (i+1):Nat)):Int)=(n:Int) - 1 - (i:Int):=by omega
 simp only[flg,List.getElem_map,List.getElem_range,e]
theorem zlk{cs:List Int}(hn:1≤n) (hn5:n≤10) (hl:S l=some (.lst (cs.map W.int))) (h:Q (.int (wgt (m+1) (flg n cs):Int)) S):zbt (r+1) [.int n, .int m, .ref l] S Q E:=by
 rw [zbt];walk_at "wp";refine⟨⟨by omega,by omega,by decide,by decide⟩,?_⟩
 rw [show((n:Int) - 1 - -1).toNat=n by omega]
 refine zqc (fun i σ S'=>S'=S∧ ∃x4,σ=[some (.int n),some (.int m),some (.ref l),some (.int (wgt (m+1) ((flg n cs).drop (n - i)):Int)),x4]) n ?_ ?_ ⟨rfl,none,by rw [Nat.sub_zero,List.drop_of_length_le (by simp [flg])];simp [wgt]⟩
 ·rintro i hi σ S' N ⟨rfl,x4,rfl⟩ hN;simp only[zdb];walk_at "wp";rw [zak hl,zmH];dsimp only;by_cases z:((n:Int) - 1 - (i:Int))∈cs
  ·rw [List.contains_iff_mem.mpr z]
   try walk_at "wp"
   refine⟨.inl ⟨by decide,by decide⟩,hN _ _ _ .refl ⟨rfl,some (.int ((n:Int) - 1 - (i:Int))),?_⟩⟩
   rw [zkG hi,decide_eq_true z,wgt]
   push_cast
   rfl
  ·rw [show cs.contains ((n:Int) - 1 - (i:Int))=false by rw [Bool.eq_false_iff];exact fun k=>z (List.contains_iff_mem.mp k)]
   try walk_at "wp"
   refine hN _ _ _ .refl ⟨rfl,some (.int ((n:Int) - 1 - (i:Int))),?_⟩;rw [zkG hi,decide_eq_false z,wgt]
   push_cast
   rfl
 ·rintro σ S' ⟨rfl,x4,rfl⟩;walk_at "wp";rw [Nat.sub_self,List.drop_zero];exact⟨_, .refl,h⟩
theorem zie (hn:1≤n) (h:∀q cs,S q=none→(cs=[]∨ ∃c:Int,cs=[c]∧0≤c∧c<n)→Q (.ref q) (put S q (.lst (cs.map W.int)))):zaY (r+1) [.int c, .int n] S Q E:=by
 rw [zaY];walk_at "wp";refine⟨by decide,?_⟩;split
 ·exact⟨Nat.zero_le _,fun q hq=>⟨_, .refl,h q [] hq (.inl rfl)⟩⟩
 ·have b0:=Int.emod_nonneg (c / 4) (show(n:Int)≠0 by omega)
  have b1:=Int.emod_lt_of_pos (c / 4) (show(0:Int)<n by omega)
  exact⟨⟨by decide,by decide⟩,by omega,zag (by decide),fun q hq=>⟨_, .refl,h q [c / 4 % n] hq (.inr ⟨_,rfl,b0,b1⟩)⟩⟩
end
section
variable {ws:List Str}{B:List Tn}{a l:Addr}{r:Nat}{S:Sto}
theorem zjS{G:Sto→Prop}{E:WX}{D:WEnds}(K:Bk2 ws B) (hG:G S) (ha:S a=some (.lst (B.map zbW))) (hr:70≤r):∀(xs:List Tr) {t:Tr}{y1 y3:Option W},Roa ws B t xs→t.small=true→((∀x∈xs,(gol B x).small=true)→ ∀y2 y3,D.nx [some (.ref a),y1,y2,y3] S)→((∃x∈xs,(gol B x).small=false)→ ∀σ,E "TooGreat" σ S)→zdA (wGN 3) (zbE (r+1) zba) E D G (xs.map enc) [some (.ref a),y1,some (enc t),y3] S
 | [],t,y1,y3,_,_,h,_=>h (fun _ hx=>nomatch hx) _ _
 |x::xs,t,y1,y3,⟨h1,h2,h3⟩,hs,h,hE=>by
  have e1:x.mk B (zap 1)=src B x:=by rw [zrh]
  have sx:(src B x).small=true:=by rw [h2];exact hs
  have F:=K.fitF h1 sx;obtain⟨b1,b2⟩:=zfi hs;rw [List.map_cons];refine zbK fun N hN=>?_;rw [zjH];simp only[zbE];walk_at "wp";refine zer ha K.g1W F.dp (by omega) F.ar F.wt F.w1 (fun _=>?_) fun z=>?_
  ·rw [e1,h2,zoz 60 _ _ (by omega),zfO]
   try walk_at "wp"
   refine K.ok_goalX h1 sx ha (by omega) (fun z=>?_) fun z=>hE ⟨x,List.mem_cons_self,z⟩ _;refine hN _ _ _ .refl hG (zjS K hG ha hr xs h3 z (fun k=>h fun u hu=>?_) fun⟨u,hu,e⟩=>hE ⟨u,List.mem_cons_of_mem _ hu,e⟩);rcases List.mem_cons.mp hu with e |e
   ·rw [e];exact z
   ·exact k u e
  ·rw [e1,sx]at z;cases z
theorem zlB{xs:List Tr}{t:Tr}{Q:WK}{X:Str→Sto→Prop}(K:Bk2 ws B) (ha:S a=some (.lst (B.map zbW))) (hl:S l=some (.lst (xs.map enc))) (hx:Roa ws B t xs) (hs:t.small=true) (hr:80≤r) (h:(∀x∈xs,(gol B x).small=true)→Q (.bl true) S) (hX:(∃x∈xs,(gol B x).small=false)→X "TooGreat" S):zbw (r+1) [.ref a, .tup [enc t, .ref l]] S Q X:=by
 obtain⟨b1,b2⟩:=zfi hs;obtain⟨r',er⟩:∃r',r=r'+5:=⟨r - 5,by omega⟩
 have e1:zau r=zau (r'+5):=by rw [er]
 rw [zbw];walk_at "wp";rw [e1];refine zkh b1 b2 ?_;rw [show atI [enc t,W.ref l] 1=some (.ref l) from rfl];dsimp only
 try walk_at "wp"
 rw [zak hl];have e2:zbE r zba=zbE (r'+4+1) zba:=by rw [er]
 rw [e2];refine zjS K hl ha (by omega) xs hx hs (fun k y2 y3=>?_) fun k σ=>hX k
 try walk_at "wp"
 exact⟨_, .refl,h k⟩
theorem zez{xs:List Tr}{t:Tr}{Q:WK}{X:Str→Sto→Prop}(K:Bk2 ws B) (ha:S a=some (.lst (B.map zbW))) (hl:S l=some (.lst (xs.map enc))) (hx:Roa ws B t xs) (hs:t.small=true) (hr:82≤r) (h:(∀x∈xs,(gol B x).small=true)→Q (.bl true) S) (hX:(∃x∈xs,(gol B x).small=false)→Q (.bl false) S):zaH (r+1) [.ref a, .tup [enc t, .ref l]] S Q X:=by
 obtain⟨r',er⟩:∃r',r=r'+1:=⟨r - 1,by omega⟩
 have e1:zbw r=zbw (r'+1):=by rw [er]
 rw [zaH];walk_at "wp";rw [e1];exact zlB K ha hl hx hs (by omega) (fun k=>⟨_, .refl,h k⟩) fun k=>⟨by simp,_, .refl,hX k⟩
end
noncomputable def rdl (w0 w2 w5:Str) (n m:Nat) (cs:List Int):List Tr:=cs.map fun c=>stk (bas w2 w5 m) (hdl w0 n c)
noncomputable def zfZ (n:Nat) (cs:List Int):Prop:=cs=[]∨ ∃c:Int,cs=[c]∧0≤c∧c<n
section
variable {w0 w1 w2 w3 w4 w5:Str}{n m:Nat}
theorem zum (G:Signs w0 w1 w2 w3 w4 w5) (hs:List Str) (hh:∀h∈hs,h=tiA∨h=w0):Wy [w0,w1,w2,w3,w4,w5] (bkA w0 w4) (stk (bas w2 w5 m) hs)∧src (bkA w0 w4) (stk (bas w2 w5 m) hs)=stk (bas w2 w5 m) (List.replicate hs.length w0):=by
 have hb:=znv (G.ok w2 (by simp)) (G.ok w5 (by simp)) m;have hb2:(bas w2 w5 m).hd fun s=>s∈ [w0,w1,w2,w3,w4,w5]∨ ∃t∈bkA w0 w4,t.1=s:=⟨.inl (by simp),zkd (.inl (by simp)) _⟩;refine⟨⟨zpQ hb2 hs fun h hm=>?_,?_⟩,?_⟩
 ·rcases hh h hm with e |e
  ·exact .inr ⟨tnA w0 w4,by simp [bkA],by rw [e];rfl⟩
  ·rw [e];exact .inl (by simp)
 ·have ar:∀hs:List Str,(∀h∈hs,h=tiA∨h=w0)→(stk (bas w2 w5 m) hs).ar (bkA w0 w4):=by
   intro hs
   induction hs with
   |nil=>intro _;exact zkr hBA _ hb
   |cons h hs ih=>
    intro hh;rw [stk];simp only[Tr.ar,ars,and_true];refine⟨fun u hu=>?_,ih fun y hy=>hh y (List.mem_cons_of_mem _ hy)⟩;rcases hh h List.mem_cons_self with e |e
    ·rw [e,zqu]at hu;cases hu;rw [nbA];rfl
    ·rw [e,zar hBA (G.ok w0 (by simp))]at hu;cases hu
  exact ar hs hh
 ·have:=znI (w0:=w0) (B:=bkA w0 w4) (t:=tnA w0 w4) hBA zqu rfl (G.ok w0 (by simp)) hb hs hh;rw [zrh]at this;exact this
theorem zcR (G:Signs w0 w1 w2 w3 w4 w5) {cs:List Int}(h:zfZ n cs):Roa [w0,w1,w2,w3,w4,w5] (bkA w0 w4) (stk (bas w2 w5 m) (hdl w0 n (-1))) (rdl w0 w2 w5 n m cs):=by
 rcases h with rfl |⟨c,rfl,_,_⟩
 ·exact trivial
 ·obtain⟨h1,h2⟩:=zum (m:=m) G (hdl w0 n c) (zha n c);rw [zcG]at h2;exact⟨h1,by rw [zkM];exact h2,trivial⟩
theorem zdP (hn:n≤5) (hm:m≤191) (c:Int):(stk (bas w2 w5 m) (hdl w0 n (-1))).small=true:=by
 refine zgG ?_ ?_
 ·rw [zpL,zcG,zlP];omega
 ·rw [zpS,zcG];have:=zmy w2 w5 m;omega
theorem zdh (G:Signs w0 w1 w2 w3 w4 w5) (hn:n≤5) (hm:m≤191) {cs:List Int}(h:zfZ n cs):∀x∈rdl w0 w2 w5 n m cs,(gol (bkA w0 w4) x).small=true:=fun x hx=>by
 obtain⟨c,_,rfl⟩:=List.mem_map.mp hx;obtain⟨g1,g2⟩:=zmK G (znv (G.ok w2 (by simp)) (G.ok w5 (by simp)) m) (hdl w0 n c) (zha n c);have:=znR (m+1) n c;refine zgG ?_ ?_
 ·rw [g1,zjF G,zlP];omega
 ·rw [g2,zcG];have:=zmy w2 w5 m;omega
theorem zpX (G:Signs w0 w1 w2 w3 w4 w5) (hn:n≤5) (c d:Int):(gol (bkA w0 w4) (res (bkA w0 w4) (stk (bas w2 w5 m) (hdl w0 n c)) (stk (bas w2 w5 m) (hdl w0 n d)))).small=decide (wgt (m+1) (flg n [c,d])≤400):=by
 have s2:=zar (B:=bkA w0 w4) hBA (G.ok w5 (by simp));have b:Mv (bkA w0 w4) 2 (bas w2 w5 m) (bas w2 w5 m) (bas w2 w5 m):= .nn s2 s2 (zpN hBA (G.ok w2 (by simp)) m);obtain⟨z,M,g1,g2⟩:=zjU G (znv (G.ok w2 (by simp)) (G.ok w5 (by simp)) m) b (hdl w0 n c) (hdl w0 n d) (by rw [zcG,zcG]) (zha n c) (zha n d);rw [show res (bkA w0 w4) _ _=z from M.res];rw [zsL G,zlP]at g1;have dp:(gol (bkA w0 w4) z).depth≤40:=by
  rw [g2,zcG];have:=zmy w2 w5 m;omega
 unfold Tr.small;rw [g1,decide_eq_true dp,Bool.and_true]
theorem zpx (G:Signs w0 w1 w2 w3 w4 w5) (hn:n≤5) (hm:m≤190) {cs ds:List Int}(h1:zfZ n cs) (h2:zfZ n ds):GGood (bkA w0 w4) (rdl w0 w2 w5 n m cs) (rdl w0 w2 w5 n m ds)↔wgt (m+1) (flg n (cs++ds))≤400:=by
 have gx:=zdh (w1:=w1) (w3:=w3) (m:=m) G hn (by omega) h1;have go:=zdh (w1:=w1) (w3:=w3) (m:=m) G hn (by omega) h2;have one:∀c,wgt (m+1) (flg n [c])≤400:=fun c=>by have:=znR (m+1) n c;omega
 have nil:wgt (m+1) (flg n [])≤400:=by
  have e:flg n []=flg n [-1]:=by
   unfold flg;refine List.map_congr_left fun i _=>?_;rw [decide_eq_false (by simp),decide_eq_false (by simp)]
  rw [e];exact one (-1)
 rcases h1 with rfl |⟨c,rfl,_,_⟩
 ·constructor
  ·intro _;rcases h2 with rfl |⟨d,rfl,_,_⟩
   ·exact nil
   ·exact one d
  ·exact fun _=>⟨gx,go,trivial⟩
 ·rcases h2 with rfl |⟨d,rfl,_,_⟩
  ·constructor
   ·exact fun _=>one c
   ·exact fun _=>⟨gx,go,trivial,trivial⟩
  ·have e:=zpX (m:=m) G hn c d;constructor
   ·intro g;have:=g.ok.1.1;rw [show gol (bkA w0 w4) (res (bkA w0 w4) (stk (bas w2 w5 m) (hdl w0 n c)) (stk (bas w2 w5 m) (hdl w0 n d)))=_ from rfl]at this;rw [e]at this;exact of_decide_eq_true this
   ·intro k;refine⟨gx,go,⟨?_,trivial⟩,trivial⟩;rw [e];exact decide_eq_true k
end
noncomputable def due34 (ap gr:Bool):List W:=if ap then lAP else if gr then lTG else []
section
variable {ws:List Str}{B:List Tn}{a l1 l2:Addr}{r:Nat}{S:Sto}{Q:WK}{E:Str→Sto→Prop}{t t':Tr}{xs os:List Tr}
open Classical in
theorem znJ{which:Int}(hw:which=0∨which=1∨which=2∨which=3∨which=4) (K:Bk2 ws B) (ha:S a=some (.lst (B.map zbW))) (h1:S l1=some (.lst (xs.map enc))) (h2:S l2=some (.lst (os.map enc))) (hx:Roa ws B t xs) (ho:Roa ws B t' os) (hs:t.small=true) (nx:xs.length≤10) (no:os.length≤10) (hr:100≤r)
  (h:∀S' q,Sub S S'→S' q=some (.lst (due34 (decide (t≠t')) (decide (¬GGood B xs os))))→Q (.ref q) S'):zaW (r+1) [.int which, .ref a, .tup [enc t, .ref l1], .tup [enc t', .ref l2]] S Q E:=by
 have q0:zdM "TooGreat" "TooGreat" =true:=by decide
 have q1:zdM "TooGreat" "Apart" =false:=by decide
 have q2:zdM "TooGreat" "NoUse" =false:=by decide
 have q3:zdM "TooGreat" "NoWay" =false:=by decide
 have q4:zdM "TooGreat" "NoPlace" =false:=by decide
 have q5:zdM "TooGreat" "ValueError" =true:=by decide
 have p0:zdM "Apart" "TooGreat" =false:=by decide
 have p1:zdM "Apart" "Apart" =true:=by decide
 have p2:zdM "Apart" "NoUse" =false:=by decide
 have p3:zdM "Apart" "NoWay" =false:=by decide
 have p4:zdM "Apart" "NoPlace" =false:=by decide
 have p5:zdM "Apart" "ValueError" =true:=by decide
 have dA:t≠t'→due34 (decide (t≠t')) (decide (¬GGood B xs os))=lAP:=fun z=>by rw [decide_eq_true z];rfl
 have dG:t=t'→ ¬GGood B xs os→due34 (decide (t≠t')) (decide (¬GGood B xs os))=lTG:=fun z y=>by rw [decide_eq_false (p:=t≠t') (fun k=>k z),decide_eq_true y];rfl
 have d0:t=t'→GGood B xs os→due34 (decide (t≠t')) (decide (¬GGood B xs os))=[]:=fun z y=>by rw [decide_eq_false (p:=t≠t') (fun k=>k z),decide_eq_false (p:=¬GGood B xs os) (fun k=>k y)];rfl
 generalize due34 (decide (t≠t')) (decide (¬GGood B xs os))=due at h dA dG d0;obtain⟨r',er⟩:∃r',r=r'+1:=⟨r - 1,by omega⟩
 have e0:zcS r=zcS (r'+1):=by rw [er]
 have e1:zaM r=zaM (r'+1):=by rw [er]
 have e2:zaJ r=zaJ (r'+1):=by rw [er]
 have e3:zcE r=zcE (r'+1):=by rw [er]
 have e4:zdH r=zdH (r'+1):=by rw [er]
 rw [zaW];walk_at "wp";refine⟨Nat.zero_le _,fun q hq=>?_⟩;have sb:Sub S (put S q (.lst [])):= .put .refl hq;have fq:put S q (Ob.lst []) q=some (.lst []):=zah;generalize put S q (.lst [])=S1 at sb fq⊢;have fa:=sb _ _ ha;have f1:=sb _ _ h1;have f2:=sb _ _ h2;have t1:due=lTG→ ∀S2,Sub S1 S2→ ∀b d,S2 b=none→put S2 b (Ob.lst [W.bl true,W.bl false,W.bl false,W.bl false]) d=none→Q (.ref d) (put (put S2 b (Ob.lst [W.bl true,W.bl false,W.bl false,W.bl false])) d (.lst lTG)):=fun z S2 s2 b d hb hd=>h _ _ (((sb.trans s2).trans (.put .refl hb)).trans (.put .refl hd)) (by rw [zah,z]);have t2:due=lAP→ ∀b d,S1 b=none→put S1 b (Ob.lst [W.bl false,W.bl true,W.bl false,W.bl false]) d=none→Q (.ref d) (put (put S1 b (Ob.lst [W.bl false,W.bl true,W.bl false,W.bl false])) d (.lst lAP)):=fun z b d hb hd=>h _ _ ((sb.trans (.put .refl hb)).trans (.put .refl hd)) (by rw [zah,z]);have t3:due=[]→ ∀S2,Sub S1 S2→Q (.ref q) S2:=fun z S2 s2=>h _ _ (sb.trans s2) (by rw [s2 _ _ fq,z]);rcases hw with rfl |rfl |rfl |rfl |rfl
 ·rw [if_pos (by decide),e0];refine zdR K fa f1 f2 hx ho hs (by omega) (by omega) (by omega) (fun z=>?_) (fun z y S2 s2=>?_) fun z y S2 d o g=>?_
  ·rw [p0,p1,p2,p3,p4,p5];exact⟨by simp,fun _=>⟨zag (by decide),fun b hb=>⟨zag (by decide),zag (by decide),fun d hd=>⟨_, .refl,t2 (dA z) b d hb hd⟩⟩⟩⟩
  ·rw [q0,q1,q2,q3,q4,q5];exact⟨by simp,fun _=>⟨zag (by decide),fun b hb=>⟨zag (by decide),zag (by decide),fun d hd=>⟨_, .refl,t1 (dG z y) S2 s2 b d hb hd⟩⟩⟩⟩
  ·exact⟨_, .refl,t3 (d0 z y) _ g.sub⟩
 ·rw [if_neg (by decide),if_pos (by decide),e1];refine zgd K fa f1 f2 hx ho hs (by omega) (by omega) (by omega) (fun z=>?_) (fun z y S2 s2=>?_) fun z y S2 p s2 _ _=>?_
  ·rw [p0,p1,p2,p3,p4,p5];exact⟨by simp,fun _=>⟨zag (by decide),fun b hb=>⟨zag (by decide),zag (by decide),fun d hd=>⟨_, .refl,t2 (dA z) b d hb hd⟩⟩⟩⟩
  ·rw [q0,q1,q2,q3,q4,q5];exact⟨by simp,fun _=>⟨zag (by decide),fun b hb=>⟨zag (by decide),zag (by decide),fun d hd=>⟨_, .refl,t1 (dG z y) S2 s2 b d hb hd⟩⟩⟩⟩
  ·exact⟨_, .refl,t3 (d0 z y) _ s2⟩
 ·rw [if_neg (by decide),if_neg (by decide),if_pos (by decide),e2];refine zgf K fa f1 f2 hx ho hs (by omega) (by omega) (by omega) (fun z=>?_) (fun z y S2 s2=>?_) fun z y S2 p s2 _ _=>?_
  ·rw [p0,p1,p2,p3,p4,p5];exact⟨by simp,fun _=>⟨zag (by decide),fun b hb=>⟨zag (by decide),zag (by decide),fun d hd=>⟨_, .refl,t2 (dA z) b d hb hd⟩⟩⟩⟩
  ·rw [q0,q1,q2,q3,q4,q5];exact⟨by simp,fun _=>⟨zag (by decide),fun b hb=>⟨zag (by decide),zag (by decide),fun d hd=>⟨_, .refl,t1 (dG z y) S2 s2 b d hb hd⟩⟩⟩⟩
  ·exact⟨_, .refl,t3 (d0 z y) _ s2⟩
 ·rw [if_neg (by decide),if_neg (by decide),if_neg (by decide),if_pos (by decide),e3];refine zlf K fa f1 f2 hx ho hs (by omega) (by omega) (by omega) (fun z=>?_) (fun z y S2 s2=>?_) fun z y S2 s2=>?_
  ·rw [p0,p1,p2,p3,p4,p5];exact⟨by simp,fun _=>⟨zag (by decide),fun b hb=>⟨zag (by decide),zag (by decide),fun d hd=>⟨_, .refl,t2 (dA z) b d hb hd⟩⟩⟩⟩
  ·rw [q0,q1,q2,q3,q4,q5];exact⟨by simp,fun _=>⟨zag (by decide),fun b hb=>⟨zag (by decide),zag (by decide),fun d hd=>⟨_, .refl,t1 (dG z y) S2 s2 b d hb hd⟩⟩⟩⟩
  ·exact⟨_, .refl,t3 (d0 z y) _ s2⟩
 ·rw [if_neg (by decide),if_neg (by decide),if_neg (by decide),if_neg (by decide),e4];refine zmB K fa f1 f2 hx ho hs (by omega) (by omega) (by omega) (fun z=>?_) (fun z y S2 s2=>?_) fun z y S2 s2=>?_
  ·rw [p0,p1,p2,p3,p4,p5];exact⟨by simp,fun _=>⟨zag (by decide),fun b hb=>⟨zag (by decide),zag (by decide),fun d hd=>⟨_, .refl,t2 (dA z) b d hb hd⟩⟩⟩⟩
  ·rw [q0,q1,q2,q3,q4,q5];exact⟨by simp,fun _=>⟨zag (by decide),fun b hb=>⟨zag (by decide),zag (by decide),fun d hd=>⟨_, .refl,t1 (dG z y) S2 s2 b d hb hd⟩⟩⟩⟩
  ·exact⟨_, .refl,t3 (d0 z y) _ s2⟩
end
section
variable {S:Sto}{aw ab l5 l6 l8 l9:Addr}{w0 w1 w2 w3 w4 w5:Str}{E:WX}{D:WEnds}{T:WS}{ns:List Int}{n m k:Nat}{cs ds:List Int}{a1 a2 a3 a4 a5 a6 a7 a8 a9 a10 a11 a12 a13:Option W}
theorem zwq (h:∀S' aw w0 w1 w2 w3 w4 w5,Signs w0 w1 w2 w3 w4 w5→S' aw=some (.lst (six w0 w1 w2 w3 w4 w5))→T E D [some (.scr ns),some (.ref aw),a2,a3,a4,a5,a6,a7,a8,a9,a10,a11,a12,a13] S'):zcA 199 T E D [some (.scr ns),a1,a2,a3,a4,a5,a6,a7,a8,a9,a10,a11,a12,a13] S:=by
 rw [zcA];walk_at "wp";refine zdf (by decide) fun c0=>zdf (by decide) fun c1=>zoH fun aw ws hw0 hws=>?_;obtain⟨w0,w1,w2,w3,w4,w5,rfl,G⟩:=zjr hws;exact h _ aw w0 w1 w2 w3 w4 w5 G zah
theorem zwi (fw:S aw=some (.lst (six w0 w1 w2 w3 w4 w5))) (h:∀ab,S ab=none→T E D [some (.scr ns),some (.ref aw),some (.ref ab),a3,a4,a5,a6,a7,a8,a9,a10,a11,a12,a13] (put S ab (.lst ((bkA w0 w4).map zbW)))):zcJ 199 T E D [some (.scr ns),some (.ref aw),a2,a3,a4,a5,a6,a7,a8,a9,a10,a11,a12,a13] S:=by
 have l1:1≤sizeLine:=zag (by decide);have l2:2≤sizeLine:=zag (by decide);have l3:3≤sizeLine:=zag (by decide);rw [zcJ];walk_at "wp";simp only[zak fw,six0,zwS,l1,l2,l3,true_and];intro ab hb;have:=h ab hb;simpa [bkA,tnA,zbW,enc,zaA,tiA]using this
theorem zwo (h:∀n:Nat,2≤n→n≤5→T E D [some (.scr ns),a1,a2,some (.int n),a4,a5,a6,a7,a8,a9,a10,a11,a12,a13] S):zcK 199 T E D [some (.scr ns),a1,a2,a3,a4,a5,a6,a7,a8,a9,a10,a11,a12,a13] S:=by
 rw [zcK];walk_at "wp";refine zdf (by decide) fun c=>?_
 try walk_at "wp"
 have b1:=Int.emod_nonneg (c / 3) (show(4:Int)≠0 by decide)
 have b2:=Int.emod_lt_of_pos (c / 3) (show(0:Int)<4 by decide)
 have:=h (2+(c / 3 % 4).toNat) (by omega) (by omega);rw [show((2+(c / 3 % 4).toNat:Nat):Int)=2+c / 3 % 4 by omega]at this
 exact⟨⟨by decide,by decide⟩,by decide,this⟩
theorem zvN (h:∀m:Nat,m≤190→T E D [some (.scr ns),a1,a2,a3,some (.int m),a5,a6,a7,a8,a9,a10,a11,a12,a13] S):zcI 199 T E D [some (.scr ns),a1,a2,a3,a4,a5,a6,a7,a8,a9,a10,a11,a12,a13] S:=by
 rw [zcI];walk_at "wp";refine zdf (by decide) fun c=>?_
 try walk_at "wp"
 refine⟨zag (by decide),zdf (by decide) fun c2=>?_⟩
 try walk_at "wp"
 refine⟨by decide,?_⟩;have h3:c2 % 3=0∨c2 % 3=1∨c2 % 3=2:=by omega
 have fin:∀v:Int,0<v→v≤191→T E D [some (.scr ns),a1,a2,a3,some (.int (c % v)),a5,a6,a7,a8,a9,a10,a11,a12,a13] S:=fun v h0 h1=>by
  have b1:=Int.emod_nonneg c (Int.ne_of_gt h0);have b2:=Int.emod_lt_of_pos c h0;have:=h (c % v).toNat (by omega);rwa [show(((c % v).toNat:Nat):Int)=c % v by omega]at this
 rcases h3 with e |e |e
 ·rw [e];exact⟨(by decide:(0:Int)<20),fin 20 (by decide) (by decide)⟩
 ·rw [e];exact⟨(by decide:(0:Int)<100),fin 100 (by decide) (by decide)⟩
 ·rw [e];exact⟨(by decide:(0:Int)<191),fin 191 (by decide) (by decide)⟩
theorem zvz (hn:2≤n) (h:∀q cs,S q=none→zfZ n cs→T E D [some (.scr ns),a1,a2,some (.int n),a4,some (.ref q),a6,a7,a8,a9,a10,a11,a12,a13] (put S q (.lst (cs.map W.int)))):zcD 199 T E D [some (.scr ns),a1,a2,some (.int n),a4,a5,a6,a7,a8,a9,a10,a11,a12,a13] S:=by
 rw [zcD];walk_at "wp";refine zdf (by decide) fun c=>?_;exact zie (r:=198) (by omega) fun q cs hq hc=>h q cs hq hc
theorem zvv (hn:2≤n) (h:∀q cs,S q=none→zfZ n cs→T E D [some (.scr ns),a1,a2,some (.int n),a4,a5,some (.ref q),a7,a8,a9,a10,a11,a12,a13] (put S q (.lst (cs.map W.int)))):zcH 199 T E D [some (.scr ns),a1,a2,some (.int n),a4,a5,a6,a7,a8,a9,a10,a11,a12,a13] S:=by
 rw [zcH];walk_at "wp";refine zdf (by decide) fun c=>?_;exact zie (r:=198) (by omega) fun q cs hq hc=>h q cs hq hc
theorem zwk (h:∀k:Nat,k≤1→T E D [some (.scr ns),a1,a2,a3,a4,a5,a6,some (.int k),a8,a9,a10,a11,a12,a13] S):zcL 199 T E D [some (.scr ns),a1,a2,a3,a4,a5,a6,a7,a8,a9,a10,a11,a12,a13] S:=by
 rw [zcL];walk_at "wp";refine zdf (by decide) fun c=>?_
 try walk_at "wp"
 refine⟨by decide,?_⟩;split
 ·exact h 1 (by decide)
 ·exact h 0 (by decide)
theorem zvP (hn:2≤n) (hn5:n≤5) (hm:m≤190) (fw:S aw=some (.lst (six w0 w1 w2 w3 w4 w5))) (f5:S l5=some (.lst (cs.map W.int))) (hc:zfZ n cs) (h:∀q,S q=none→T E D [some (.scr ns),some (.ref aw),a2,some (.int n),some (.int m),some (.ref l5),a6,a7,some (.tup [enc (stk (bas w2 w5 m) (hdl w0 n (-1))), .ref q]),a9,a10,a11,a12,a13] (put S q (.lst ((rdl w0 w2 w5 n m cs).map enc)))):zcz 199 T E D [some (.scr ns),some (.ref aw),a2,some (.int n),some (.int m),some (.ref l5),a6,a7,a8,a9,a10,a11,a12,a13] S:=by
 have hl:cs.length≤1:=by rcases hc with rfl |⟨c,rfl,_,_⟩<;>simp
 rw [zcz];walk_at "wp";refine zfg (r:=198) (by omega) (by omega) (by omega) fw ?_
 try walk_at "wp"
 rw [zak f5];refine zaO (fun σ=>∃y,σ=[y,some (.int n),some (.int m),some (.ref aw)]) W.int (fun c=>enc (stk (bas w2 w5 m) (hdl w0 n c))) f5 cs [] _ ⟨none,rfl⟩ (by simp;omega) (fun x hx σ R hI hR=>?_) ?_
 ·obtain⟨y,rfl⟩:=hI;simp only[zeD];walk_at "wp";exact zfg (r:=198) (by omega) (by omega) (by omega) fw (hR _ _ ⟨_,rfl⟩ .refl)
 ·intro q hq;have:=h q hq;rw [rdl,List.map_map]at this;exact⟨zag (by decide),this⟩
theorem zwA (hn:2≤n) (hn5:n≤5) (hm:m≤190) (hk:k≤1) (fw:S aw=some (.lst (six w0 w1 w2 w3 w4 w5))) (f6:S l6=some (.lst (ds.map W.int))) (hc:zfZ n ds) (h:∀q,S q=none→T E D [some (.scr ns),some (.ref aw),a2,some (.int n),some (.int m),a5,some (.ref l6),some (.int k),a8,some (.tup [enc (stk (bas w2 w5 (m+k)) (hdl w0 n (-1))), .ref q]),a10,a11,a12,a13] (put S q (.lst ((rdl w0 w2 w5 n (m+k) ds).map enc)))):zcF 199 T E D [some (.scr ns),some (.ref aw),a2,some (.int n),some (.int m),a5,some (.ref l6),some (.int k),a8,a9,a10,a11,a12,a13] S:=by
 have hl:ds.length≤1:=by rcases hc with rfl |⟨c,rfl,_,_⟩<;>simp
 have ek:(m:Int)+(k:Int)=((m+k:Nat):Int):=by omega
 rw [zcF];walk_at "wp";rw [ek];refine zfg (r:=198) (by omega) (by omega) (by omega) fw ?_
 try walk_at "wp"
 rw [zak f6];refine zaO (fun σ=>∃y,σ=[y,some (.int n),some (.ref aw),some (.int m),some (.int k)]) W.int (fun c=>enc (stk (bas w2 w5 (m+k)) (hdl w0 n c))) f6 ds [] _ ⟨none,rfl⟩ (by simp;omega) (fun x hx σ R hI hR=>?_) ?_
 ·obtain⟨y,rfl⟩:=hI;simp only[zfC];walk_at "wp";rw [ek];exact zfg (r:=198) (by omega) (by omega) (by omega) fw (hR _ _ ⟨_,rfl⟩ .refl)
 ·intro q hq;have:=h q hq;rw [rdl,List.map_map]at this;exact⟨zag (by decide),this⟩
theorem ztR (hn:2≤n) (hn5:n≤5) (f5:S l5=some (.lst (cs.map W.int))) (f6:S l6=some (.lst (ds.map W.int))) (h1:zfZ n cs) (h2:zfZ n ds) (h:∀S',Sub S S'→T E D [some (.scr ns),a1,a2,some (.int n),some (.int m),some (.ref l5),some (.ref l6),a7,a8,a9,some (.bl (decide (400<wgt (m+1) (flg n (cs++ds))))),a11,a12,a13] S'):zcb 199 T E D [some (.scr ns),a1,a2,some (.int n),some (.int m),some (.ref l5),some (.ref l6),a7,a8,a9,a10,a11,a12,a13] S:=by
 have e1:cs.length≤1:=by rcases h1 with rfl |⟨c,rfl,_,_⟩<;>simp
 have e2:ds.length≤1:=by rcases h2 with rfl |⟨c,rfl,_,_⟩<;>simp
 rw [zcb];walk_at "wp";rw [zak f5,zak f6,←List.map_append];refine⟨zag (by simp only[List.length_map];omega),fun q hq=>?_⟩;refine zlk (r:=198) (by omega) (by omega) zah ?_
 try walk_at "wp"
 have e3:decide ((400:Int)<(wgt (m+1) (flg n (cs++ds)):Int))=decide (400<wgt (m+1) (flg n (cs++ds))):=by
  by_cases z:400<wgt (m+1) (flg n (cs++ds))
  ·rw [decide_eq_true z,decide_eq_true (by omega)]
  ·rw [decide_eq_false z,decide_eq_false (by omega)]
 rw [e3];exact h _ (.put .refl hq)
theorem zuq (h:∀q,S q=none→T E D [some (.scr ns),a1,a2,a3,a4,a5,a6,a7,a8,a9,a10,some (.ref q),a12,a13] (put S q (.lst []))):zca 199 T E D [some (.scr ns),a1,a2,a3,a4,a5,a6,a7,a8,a9,a10,a11,a12,a13] S:=by
 rw [zca];walk_at "wp";exact⟨Nat.zero_le _,fun q hq=>h q hq⟩
theorem zsH{q:Addr}{b:Bool}(hk:k≤1) (fq:S q=some (.lst [])) (h:∀S' q,Sub S S'→S' q=some (.lst (due34 (k == 1) b))→T E D [some (.scr ns),a1,a2,a3,a4,a5,a6,some (.int k),a8,a9,some (.bl b),some (.ref q),a12,a13] S'):zce 199 T E D [some (.scr ns),a1,a2,a3,a4,a5,a6,some (.int k),a8,a9,some (.bl b),some (.ref q),a12,a13] S:=by
 rw [zce];walk_at "wp";rcases(show k=0∨k=1 by omega) with rfl |rfl
 ·rw [if_neg (by decide)];cases b with
  |true=>
   try walk_at "wp"
   exact⟨zag (by decide),fun p hp=>h _ p (.put .refl hp) zah⟩
  |false=>
   try walk_at "wp"
   exact h _ q .refl fq
 ·rw [if_pos (by decide)];exact⟨zag (by decide),fun p hp=>h _ p (.put .refl hp) zah⟩
theorem zmX{n:Nat}{a b:Addr}{xs:List W}(ha:S a=some (.lst xs)) (hb:S b=some (.lst [])):eqF S (n+1) (.ref a) (.ref b)=some xs.isEmpty:=by
 show(match S a with
  |some (.lst xs)=>match S b with
   |some (.lst ys)=>zek (eqF S n) xs ys
   |_=>none
  |_=>none)=_
 rw [ha,hb];cases xs<;>rfl
theorem zlb{f:W→W→Option Bool}(hf:∀b,f (.bl b) (.bl b)=some true) (a b:Bool):zek f (due34 a b) (due34 a b)=some true:=by
 cases a<;>cases b<;>simp [due34,lTG,lAP,zek,hf]
open Classical in
theorem zuR (G:Signs w0 w1 w2 w3 w4 w5) (hn5:n≤5) (hm:m≤190) (hk:k≤1) (h1:zfZ n cs) (h2:zfZ n ds):due34 (decide (stk (bas w2 w5 m) (hdl w0 n (-1))≠stk (bas w2 w5 (m+k)) (hdl w0 n (-1)))) (decide (¬GGood (bkA w0 w4) (rdl w0 w2 w5 n m cs) (rdl w0 w2 w5 n (m+k) ds)))=due34 (k == 1) (decide (400<wgt (m+1) (flg n (cs++ds)))):=by
 rcases(show k=0∨k=1 by omega) with rfl |rfl
 ·rw [Nat.add_zero,decide_eq_false (p:=stk (bas w2 w5 m) (hdl w0 n (-1))≠stk (bas w2 w5 m) (hdl w0 n (-1))) (fun z=>z rfl)];have g:=zpx (w1:=w1) (w3:=w3) G hn5 hm h1 h2;congr 1;by_cases z:400<wgt (m+1) (flg n (cs++ds))
  ·rw [decide_eq_true z,decide_eq_true (p:=¬GGood _ _ _) (fun y=>by have:=g.mp y;omega)]
  ·rw [decide_eq_false z,decide_eq_false (p:=¬GGood _ _ _) (fun y=>y (g.mpr (by omega)))]
 ·have ne:stk (bas w2 w5 m) (hdl w0 n (-1))≠stk (bas w2 w5 (m+1)) (hdl w0 n (-1)):=fun e=>by
   rw [zkM]at e;have:=(zlO (G.n0 w5 (by simp)) _ _ e).2;have:=congrArg List.length this;simp at this
  rw [decide_eq_true ne];rfl
open Classical in
theorem ztj (G:Signs w0 w1 w2 w3 w4 w5) (hn:2≤n) (hn5:n≤5) (hm:m≤190) (hk:k≤1) (h1:zfZ n cs) (h2:zfZ n ds) (fb:S ab=some (.lst ((bkA w0 w4).map zbW))) (f8:S l8=some (.lst ((rdl w0 w2 w5 n m cs).map enc))) (f9:S l9=some (.lst ((rdl w0 w2 w5 n (m+k) ds).map enc))) {q:Addr}(fq:S q=some (.lst (due34 (k == 1) (decide (400<wgt (m+1) (flg n (cs++ds)))))))
  (h:∀S' x12,Sub S S'→T E D [some (.scr ns),a1,some (.ref ab),a3,a4,a5,a6,a7,some (.tup [enc (stk (bas w2 w5 m) (hdl w0 n (-1))), .ref l8]),some (.tup [enc (stk (bas w2 w5 (m+k)) (hdl w0 n (-1))), .ref l9]),a10,some (.ref q),x12,a13] S'):zcg 199 T E D [some (.scr ns),a1,some (.ref ab),a3,a4,a5,a6,a7,some (.tup [enc (stk (bas w2 w5 m) (hdl w0 n (-1))), .ref l8]),some (.tup [enc (stk (bas w2 w5 (m+k)) (hdl w0 n (-1))), .ref l9]),a10,some (.ref q),a12,a13] S:=by
 have e1:(rdl w0 w2 w5 n m cs).length≤1:=by rw [rdl,List.length_map];rcases h1 with rfl |⟨c,rfl,_,_⟩<;>simp
 have e2:(rdl w0 w2 w5 n (m+k) ds).length≤1:=by rw [rdl,List.length_map];rcases h2 with rfl |⟨c,rfl,_,_⟩<;>simp
 rw [zcg];walk_at "wp";refine⟨⟨by decide,by decide⟩,?_⟩
 refine zni (fun i σ S'=>∃x12,Sub S S'∧σ=[some (.scr ns),a1,some (.ref ab),a3,a4,a5,a6,a7,some (.tup [enc (stk (bas w2 w5 m) (hdl w0 n (-1))), .ref l8]),some (.tup [enc (stk (bas w2 w5 (m+k)) (hdl w0 n (-1))), .ref l9]),a10,some (.ref q),x12,a13]) (Int.toNat 5) ?_ ?_ ⟨_, .refl,rfl⟩
 ·rintro i hi σ S' N ⟨x12,sb,rfl⟩ hN;simp only[zfD];walk_at "wp";have hi5:i<5:=hi;refine znJ (r:=198) (by omega) (zsw G) (sb _ _ fb) (sb _ _ f8) (sb _ _ f9) (zcR G h1) (zcR G h2) (zdP hn5 (by omega) 0) (by omega) (by omega) (by omega) fun S2 p s2 fp=>?_;rw [zuR (w1:=w1) (w3:=w3) G hn5 hm hk h1 h2]at fp;rw [zqR (n:=59) fp (s2 _ _ (sb _ _ fq)) (zlb (fun b=>by cases b<;>rfl) _ _)]
  try walk_at "wp"
  exact hN _ _ _ .refl ⟨_,sb.trans s2,rfl⟩
 ·rintro σ S' ⟨x12,sb,rfl⟩;exact h S' x12 sb
theorem zsk (G:Signs w0 w1 w2 w3 w4 w5) (hn5:n≤5) (hm:m≤190) (hk:k≤1) (h1:zfZ n cs) (h2:zfZ n ds) (fb:S ab=some (.lst ((bkA w0 w4).map zbW))) (f8:S l8=some (.lst ((rdl w0 w2 w5 n m cs).map enc))) (f9:S l9=some (.lst ((rdl w0 w2 w5 n (m+k) ds).map enc))) (g:D.rt (.bl true) S) :
  wRet (zgj (wOp (oIs false) (zam (zaH 199) (zab (wVar 2) (zab (wVar 8) waNil))) (wC (.bl true))) (wOp (oIs false) (zam (zaH 199) (zab (wVar 2) (zab (wVar 9) waNil))) (wC (.bl true)))) E D [some (.scr ns),a1,some (.ref ab),a3,a4,a5,a6,a7,some (.tup [enc (stk (bas w2 w5 m) (hdl w0 n (-1))), .ref l8]),some (.tup [enc (stk (bas w2 w5 (m+k)) (hdl w0 n (-1))), .ref l9]),a10,a11,a12,a13] S:=by
 have no:∀{xs:List Tr},(∀x∈xs,(gol (bkA w0 w4) x).small=true)→ ¬ ∃x∈xs,(gol (bkA w0 w4) x).small=false:=fun hx ⟨x,hm,e⟩=>by rw [hx x hm]at e;cases e
 have g1:=zdh (w1:=w1) (w3:=w3) (m:=m) G hn5 (by omega) h1;have g2:=zdh (w1:=w1) (w3:=w3) (m:=m+k) G hn5 (by omega) h2;walk_at "wp";refine zez (r:=198) (zsw G) fb f8 (zcR G h1) (zdP hn5 (by omega) 0) (by omega) (fun _=>?_) fun z=>absurd z (no g1)
 try walk_at "wp"
 refine zez (r:=198) (zsw G) fb f9 (zcR G h2) (zdP hn5 (by omega) 0) (by omega) (fun _=>?_) fun z=>absurd z (no g2)
 try walk_at "wp"
 exact g
theorem ztw (G:Signs w0 w1 w2 w3 w4 w5) (hn5:n≤5) (hm:m≤190) (hk:k≤1) (h1:zfZ n cs) (h2:zfZ n ds) (fb:S ab=some (.lst ((bkA w0 w4).map zbW))) (f5:S l5=some (.lst (cs.map W.int))) (f6:S l6=some (.lst (ds.map W.int))) (f8:S l8=some (.lst ((rdl w0 w2 w5 n m cs).map enc))) (f9:S l9=some (.lst ((rdl w0 w2 w5 n (m+k) ds).map enc))) (g:∀S',D.rt (.bl true) S')
  (h:k=0→ ∀c d,cs=[c]→ds=[d]→ ∀S',Sub S S'→T E D [some (.scr ns),a1,some (.ref ab),a3,a4,some (.ref l5),some (.ref l6),some (.int k),some (.tup [enc (stk (bas w2 w5 m) (hdl w0 n (-1))), .ref l8]),some (.tup [enc (stk (bas w2 w5 (m+k)) (hdl w0 n (-1))), .ref l9]),a10,a11,a12,a13] S'):zcf 199 T E D [some (.scr ns),a1,some (.ref ab),a3,a4,some (.ref l5),some (.ref l6),some (.int k),some (.tup [enc (stk (bas w2 w5 m) (hdl w0 n (-1))), .ref l8]),some (.tup [enc (stk (bas w2 w5 (m+k)) (hdl w0 n (-1))), .ref l9]),a10,a11,a12,a13] S:=by
 have ret:∀S',Sub S S'→wRet (zgj (wOp (oIs false) (zam (zaH 199) (zab (wVar 2) (zab (wVar 8) waNil))) (wC (.bl true))) (wOp (oIs false) (zam (zaH 199) (zab (wVar 2) (zab (wVar 9) waNil))) (wC (.bl true)))) E { D with nx:=T E D } [some (.scr ns),a1,some (.ref ab),a3,a4,some (.ref l5),some (.ref l6),some (.int k),some (.tup [enc (stk (bas w2 w5 m) (hdl w0 n (-1))), .ref l8]),some (.tup [enc (stk (bas w2 w5 (m+k)) (hdl w0 n (-1))), .ref l9]),a10,a11,a12,a13] S':=fun S' s=>zsk G hn5 hm hk h1 h2 (s _ _ fb) (s _ _ f8) (s _ _ f9) (g _);rw [zcf];generalize wRet (zgj (wOp (oIs false) (zam (zaH 199) (zab (wVar 2) (zab (wVar 8) waNil))) (wC (.bl true))) (wOp (oIs false) (zam (zaH 199) (zab (wVar 2) (zab (wVar 9) waNil))) (wC (.bl true))))=R at ret⊢;walk_at "wp";rcases(show k=0∨k=1 by omega) with k0 |k1
 ·rw [if_neg (by rw [k0];decide)];refine⟨Nat.zero_le _,fun p hp=>?_⟩;rw [zmX (n:=59) (keep f5 hp) zah];dsimp only;have s1:Sub S (put S p (Ob.lst [])):= .put .refl hp;rcases h1 with e1 |⟨c,e1,_,_⟩
  ·rw [e1,if_pos (show(List.map W.int []).isEmpty=true from rfl)];exact ret _ s1
  ·rw [e1,if_neg (show ¬(List.map W.int [c]).isEmpty=true by simp)]
   refine⟨Nat.zero_le _,fun p2 hp2=>?_⟩;rw [zmX (n:=59) (keep (s1 _ _ f6) hp2) zah];dsimp only;rcases h2 with e2 |⟨d,e2,_,_⟩
   ·rw [e2,if_pos (show(List.map W.int []).isEmpty=true from rfl)];exact ret _ (s1.trans (.put .refl hp2))
   ·rw [e2,if_neg (show ¬(List.map W.int [d]).isEmpty=true by simp)]
    exact h k0 c d e1 e2 _ (s1.trans (.put .refl hp2))
 ·rw [if_pos (by rw [k1];decide)];exact ret _ .refl
theorem zpz (n:Nat) (c d:Int):flg n [d,c]=flg n [c,d]:=by
 unfold flg;refine List.map_congr_left fun i _=>?_;by_cases z:(i:Int)=c<;>by_cases y:(i:Int)=d<;>simp [z,y]
theorem ztx (G:Signs w0 w1 w2 w3 w4 w5) (hn5:n≤5) (hm:m≤190) {c d:Int}(h1:zfZ n [c]) (h2:zfZ n [d]) (fb:S ab=some (.lst ((bkA w0 w4).map zbW))) (f8:S l8=some (.lst ((rdl w0 w2 w5 n m [c]).map enc))) (f9:S l9=some (.lst ((rdl w0 w2 w5 n m [d]).map enc)))
  (h:∀q,S q=none→T E D [some (.scr ns),a1,some (.ref ab),a3,a4,a5,a6,a7,some (.tup [enc (stk (bas w2 w5 m) (hdl w0 n (-1))), .ref l8]),some (.tup [enc (stk (bas w2 w5 m) (hdl w0 n (-1))), .ref l9]),a10,a11,a12,some (.tup [enc (stk (bas w2 w5 m) (hdl w0 n (-1))), .ref q])] (put S q (.lst ([stk (bas w2 w5 m) (hdl w0 n c),res (bkA w0 w4) (stk (bas w2 w5 m) (hdl w0 n d)) (stk (bas w2 w5 m) (hdl w0 n c))].map enc)))):zcd 199 T E D [some (.scr ns),a1,some (.ref ab),a3,a4,a5,a6,a7,some (.tup [enc (stk (bas w2 w5 m) (hdl w0 n (-1))), .ref l8]),some (.tup [enc (stk (bas w2 w5 m) (hdl w0 n (-1))), .ref l9]),a10,a11,a12,a13] S:=by
 have r1:=zcR (w1:=w1) (w3:=w3) (m:=m) G h1;have r2:=zcR (w1:=w1) (w3:=w3) (m:=m) G h2;have g1:=zdh (w1:=w1) (w3:=w3) (m:=m) G hn5 (by omega) h1 _ List.mem_cons_self;have sm:=zdP (w0:=w0) (w2:=w2) (w5:=w5) (n:=n) (m:=m) hn5 (by omega) 0;have cl:Cel [w0,w1,w2,w3,w4,w5] (bkA w0 w4) (stk (bas w2 w5 m) (hdl w0 n d)) (stk (bas w2 w5 m) (hdl w0 n c)):=⟨zsw G,r2.1,r1.1,r2.2.1.trans r1.2.1.symm,by rw [r1.2.1];exact sm⟩
 have i8:∀v:W,atI [v,W.ref l8] 1=some (W.ref l8):=fun _=>rfl;have i9:∀v:W,atI [v,W.ref l9] 1=some (W.ref l9):=fun _=>rfl;have j8:atI ((rdl w0 w2 w5 n m [c]).map enc) 0=some (enc (stk (bas w2 w5 m) (hdl w0 n c))):=rfl;have j9:atI ((rdl w0 w2 w5 n m [d]).map enc) 0=some (enc (stk (bas w2 w5 m) (hdl w0 n d))):=rfl;rw [zcd];walk_at "wp";rw [i8,i9];dsimp only;walk_at "wp";rw [zak f8,j8];dsimp only;rw [zak f9,j9];dsimp only
 try rw [zak f8,j8]
 dsimp only;refine cl.ok_behind (r:=197) g1 fb (by omega) ?_;exact⟨zag (by decide),fun q hq=>⟨zag (by decide),h q hq⟩⟩
theorem zue (G:Signs w0 w1 w2 w3 w4 w5) (hn5:n≤5) (hm:m≤190) {c d:Int}(h1:zfZ n [c]) (h2:zfZ n [d]) (fb:S ab=some (.lst ((bkA w0 w4).map zbW))) {q:Addr}(fq:S q=some (.lst ([stk (bas w2 w5 m) (hdl w0 n c),res (bkA w0 w4) (stk (bas w2 w5 m) (hdl w0 n d)) (stk (bas w2 w5 m) (hdl w0 n c))].map enc))) (g:D.rt (.bl true) S) :
  zcc 199 E D [some (.scr ns),a1,some (.ref ab),a3,a4,a5,a6,a7,a8,a9,some (.bl (decide (400<wgt (m+1) (flg n [c,d])))),a11,a12,some (.tup [enc (stk (bas w2 w5 m) (hdl w0 n (-1))), .ref q])] S:=by
 have r1:=zcR (w1:=w1) (w3:=w3) (m:=m) G h1;have r2:=zcR (w1:=w1) (w3:=w3) (m:=m) G h2;have g1:=zdh (w1:=w1) (w3:=w3) (m:=m) G hn5 (by omega) h1 _ List.mem_cons_self;have sm:=zdP (w0:=w0) (w2:=w2) (w5:=w5) (n:=n) (m:=m) hn5 (by omega) 0;have mv:=(zsw G).moved r2.1 r1.1 (r2.2.1.trans r1.2.1.symm);have rd:Roa [w0,w1,w2,w3,w4,w5] (bkA w0 w4) (stk (bas w2 w5 m) (hdl w0 n (-1))) [stk (bas w2 w5 m) (hdl w0 n c),res (bkA w0 w4) (stk (bas w2 w5 m) (hdl w0 n d)) (stk (bas w2 w5 m) (hdl w0 n c))]:=⟨r1.1,r1.2.1,mv.wy,mv.sr,trivial⟩;have e:=zpX (w1:=w1) (w3:=w3) (m:=m) G hn5 d c;rw [zpz]at e;rw [zcc];walk_at "wp";refine zez (r:=198) (zsw G) fb fq rd sm (by omega) (fun k=>?_) fun⟨u,hu,eu⟩=>?_
 ·have:=k _ (List.mem_cons_of_mem _ List.mem_cons_self);rw [e]at this;have z:=of_decide_eq_true this;rw [decide_eq_false (by omega)];exact g
 ·have z:400<wgt (m+1) (flg n [c,d]):=by
   rcases List.mem_cons.mp hu with y |y
   ·rw [y]at eu;rw [show(gol (bkA w0 w4) (stk (bas w2 w5 m) (hdl w0 n c))).small=true from g1]at eu;cases eu
   ·rw [List.mem_singleton.mp y,e]at eu;have:=of_decide_eq_false eu;omega
  rw [decide_eq_true z];exact g
end
theorem zuH (ns:List Int) (hl:ns.length≤63):zcu 200 [.scr ns] (fun _=>none) (fun w _=>w= .bl true) (fun _ _=>False):=by
 rw [show(200:Nat)=199+1 from rfl,zcu,zeG];refine⟨rfl,?_⟩;refine zwq fun S1 aw w0 w1 w2 w3 w4 w5 G fw=>zwi fw fun ab hb=>zwo fun n hn hn5=>zvN fun m hm=>zvz hn fun l5 cs h5 c1=>zvv hn fun l6 ds h6 c2=>zwk fun k hk=>?_;have fw2:=keep (x:=Ob.lst (ds.map W.int)) (keep (x:=Ob.lst (cs.map W.int)) (keep (x:=Ob.lst ((bkA w0 w4).map zbW)) fw hb) h5) h6;have fb2:put (put (put S1 ab (Ob.lst ((bkA w0 w4).map zbW))) l5 (Ob.lst (cs.map W.int))) l6 (Ob.lst (ds.map W.int)) ab=some (.lst ((bkA w0 w4).map zbW)):=keep (keep zah h5) h6;have f5:put (put (put S1 ab (Ob.lst ((bkA w0 w4).map zbW))) l5 (Ob.lst (cs.map W.int))) l6 (Ob.lst (ds.map W.int)) l5=some (.lst (cs.map W.int)):=keep zah h6;have f6:put (put (put S1 ab (Ob.lst ((bkA w0 w4).map zbW))) l5 (Ob.lst (cs.map W.int))) l6 (Ob.lst (ds.map W.int)) l6=some (.lst (ds.map W.int)):=zah;generalize put (put (put S1 ab (Ob.lst ((bkA w0 w4).map zbW))) l5 (Ob.lst (cs.map W.int))) l6 (Ob.lst (ds.map W.int))=S2 at fw2 fb2 f5 f6⊢;refine zvP hn hn5 hm fw2 f5 c1 fun l8 h8=>zwA hn hn5 hm hk (keep fw2 h8) (keep f6 h8) c2 fun l9 h9=>?_;have g8:put (put S2 l8 (Ob.lst ((rdl w0 w2 w5 n m cs).map enc))) l9 (Ob.lst ((rdl w0 w2 w5 n (m+k) ds).map enc)) l8=some (.lst ((rdl w0 w2 w5 n m cs).map enc)):=keep zah h9;have g9:put (put S2 l8 (Ob.lst ((rdl w0 w2 w5 n m cs).map enc))) l9 (Ob.lst ((rdl w0 w2 w5 n (m+k) ds).map enc)) l9=some (.lst ((rdl w0 w2 w5 n (m+k) ds).map enc)):=zah;have gb:=keep (x:=Ob.lst ((rdl w0 w2 w5 n (m+k) ds).map enc)) (keep (x:=Ob.lst ((rdl w0 w2 w5 n m cs).map enc)) fb2 h8) h9;have g5:=keep (x:=Ob.lst ((rdl w0 w2 w5 n (m+k) ds).map enc)) (keep (x:=Ob.lst ((rdl w0 w2 w5 n m cs).map enc)) f5 h8) h9;have g6:=keep (x:=Ob.lst ((rdl w0 w2 w5 n (m+k) ds).map enc)) (keep (x:=Ob.lst ((rdl w0 w2 w5 n m cs).map enc)) f6 h8) h9;generalize put (put S2 l8 (Ob.lst ((rdl w0 w2 w5 n m cs).map enc))) l9 (Ob.lst ((rdl w0 w2 w5 n (m+k) ds).map enc))=S3 at g8 g9 gb g5 g6⊢;refine ztR hn hn5 g5 g6 c1 c2 fun S4 s4=>zuq fun q hq=>zsH hk zah fun S5 q5 s5 fq=>?_;have s45:Sub S3 S5:=(s4.trans (.put .refl hq)).trans s5;refine ztj G hn hn5 hm hk c1 c2 (s45 _ _ gb) (s45 _ _ g8) (s45 _ _ g9) fq fun S6 x12 s6=>?_;have s46:=s45.trans s6;refine ztw G hn5 hm hk c1 c2 (s46 _ _ gb) (s46 _ _ g5) (s46 _ _ g6) (s46 _ _ g8) (s46 _ _ g9) (fun S'=>⟨_, .refl,rfl⟩) fun k0 c d ec ed S7 s7=>?_;subst k0;subst ec;subst ed;have s47:=s46.trans s7;refine ztx G hn5 hm c1 c2 (s47 _ _ gb) (s47 _ _ g8) (s47 _ _ g9) fun q7 h7=>?_;exact zue G hn5 hm c1 c2 (keep (s47 _ _ gb) h7) zah ⟨_, .refl,rfl⟩
end L2
end
end
section
namespace K34
open PySem L2 PyProof.Rows
noncomputable def top (i:Nat):Stmt:=PySem.Challenge.pw_turnweave_k34_refused_roads.main.body.getD i (.Pass ⟨0,0,0,0⟩)
structure Cal (P:Program) (w:World) (K:PySem.W.Frag) (mg:Str→Option Value) (base:Heap) (nm:Str) (ps:List Str) (c:Nat→WSp) where
  zf:Addr
  zd:FuncData
  zg:∀r,FnOk P w K mg base (CX1 P w) r zf zd ps (zbI K (c r))
  zb:Binds K zd ps []
  zk:PySem.W.keepIn K (.ref zf)=true
  zm:mg nm=some (.ref zf)
noncomputable def mkC {P:Program}{w:World}{K:PySem.W.Frag}{h:Heap}{mg:Str→Option Value}{base:Heap}{nm:Str}{st:Stmt}{ps:List Str}{c:Nat→WSp}{f:Addr}{d:FuncData}(X:K.In h) (G:h.Ns mainGlobals mg) (F:Fun K nm nm st f d) (a:PySem.W.nsIn K mainGlobals nm=some (some (.ref f))) (g:∀r,FnOk P w K mg base (CX1 P w) r f d ps (zbI K (c r))) (b:Binds K d ps []):Cal P w K mg base nm ps c:=⟨f,d,g,b,F.kp,PySem.W.mg_of X G a⟩
noncomputable def Dfn (K:PySem.W.Frag) (nm:Str) (st:Stmt):Prop:=∃f d,PySem.W.nsIn K mainGlobals nm=some (some (.ref f))∧Fun K nm nm st f d
theorem dfn{K:PySem.W.Frag}{x:Str}{st:Stmt}{f:Addr}{oc:Value}{od an:Option Addr}{osl:Array (Option Value)}{kV doc pm cdv ct:Value}(a:PySem.W.nsIn K mainGlobals x=some (some (.ref f))) (l:K.lookup f=some ⟨oc,od, .func (PySem.W.fnOf x x (zfU st) (zes st) (zaj st) .none kV doc pm an cdv ct),osl⟩) (c:PySem.W.codeIn K cdv x=true) (k:PySem.W.keepIn K (.ref f)=true):Dfn K x st:=⟨f,_,a,zuT l c k⟩
theorem nC{p:List Value→Prop}{k:Nat}(h:∀a us,us.length=k→p (a::us)):∀us,us.length=k+1→p us:=fun us e=>by
 cases us with
 |nil=>cases e
 |cons a us=>exact h a us (Nat.succ.inj e)
theorem n0{p:List Value→Prop}(h:p []):∀us,us.length=0→p us:=fun us e=>by
 cases us with
 |nil=>exact h
 |cons a us=>cases e
theorem n1{p:List Value→Prop}(h:∀a,p [a]):∀us,us.length=1→p us:=nC fun a=>n0 (p:=fun us=>p (a::us)) (h a)
theorem n2{p:List Value→Prop}(h:∀a b,p [a,b]):∀us,us.length=2→p us:=nC fun a=>n1 (p:=fun us=>p (a::us)) (h a)
theorem n3{p:List Value→Prop}(h:∀a b c,p [a,b,c]):∀us,us.length=3→p us:=nC fun a=>n2 (p:=fun us=>p (a::us)) (h a)
theorem n4{p:List Value→Prop}(h:∀a b c d,p [a,b,c,d]):∀us,us.length=4→p us:=nC fun a=>n3 (p:=fun us=>p (a::us)) (h a)
theorem n5{p:List Value→Prop}(h:∀a b c d e,p [a,b,c,d,e]):∀us,us.length=5→p us:=nC fun a=>n4 (p:=fun us=>p (a::us)) (h a)
theorem n6{p:List Value→Prop}(h:∀a b c d e f,p [a,b,c,d,e,f]):∀us,us.length=6→p us:=nC fun a=>n5 (p:=fun us=>p (a::us)) (h a)
local macro_rules | `(tactic| walk_at "sc") => `(tactic| (refine ⟨rfl, rfl, rfl, ?_, rfl, ?_, ?_⟩ <;> decide +kernel))
noncomputable abbrev Ok (P:Program) (w:World) (K:PySem.W.Frag) (mg:Str→Option Value) (base:Heap) (f:Addr) (d:FuncData) (ps:List Str) (c:Nat→WSp):Prop:=∀r,FnOk P w K mg base (CX1 P w) r f d ps (zbI K (c r))
theorem zcP{P:Program}{w:World}{K:PySem.W.Frag}{mg:Str→Option Value}{base:Heap}{f:Addr}{d:FuncData}{ps:List Str}{c:Nat→WSp}(h0:c 0=zba) (h:∀r,FnOk P w K mg base (CX1 P w) r f d ps (zbI K (c r))→FnOk P w K mg base (CX1 P w) (r+1) f d ps (zbI K (c (r+1)))):Ok P w K mg base f d ps c:=fun r=>by
 induction r with
 |zero=>rw [h0];exact zuh
 |succ r ih=>exact h r ih
structure Ncl (mg:Str→Option Value) (x:Str) where
  xC:Addr
  xm:mg x=some (.ref xC)
theorem zdc:bootBuiltins "ValueError" =some (.type "ValueError"):=by first |rfl |decide +kernel | (unfold bootBuiltins;decide +kernel)
noncomputable abbrev s0:Stmt:=top 10
theorem sc0:FnScope ["t"] ["t"] (zaj s0):=by walk_at "sc"
noncomputable abbrev s1:Stmt:=top 11
theorem sc1:FnScope ["things", "found", "thing"] ["things"] (zaj s1):=by walk_at "sc"
noncomputable abbrev s2:Stmt:=top 12
theorem sc2:FnScope ["t", "heavy", "deep", "level"] ["t"] (zaj s2):=by walk_at "sc"
noncomputable abbrev s3:Stmt:=top 14
theorem sc3:FnScope ["side", "things"] ["side", "things"] (zaj s3):=by walk_at "sc"
noncomputable abbrev s4:Stmt:=top 17
theorem sc4:FnScope ["one", "other"] ["one", "other"] (zaj s4):=by walk_at "sc"
noncomputable abbrev s5:Stmt:=top 16
theorem sc5:FnScope ["left", "t", "things", "inner", "thing"] ["left", "t", "things"] (zaj s5):=by walk_at "sc"
noncomputable abbrev s6:Stmt:=top 15
theorem sc6:FnScope ["left", "t", "things"] ["left", "t"] (zaj s6):=by walk_at "sc"
noncomputable abbrev s7:Stmt:=top 21
theorem sc7:FnScope ["text"] ["text"] (zaj s7):=by walk_at "sc"
noncomputable abbrev s8:Stmt:=top 20
theorem sc8:FnScope ["text"] ["text"] (zaj s8):=by walk_at "sc"
noncomputable abbrev s9:Stmt:=top 25
theorem sc9:FnScope ["book", "title", "turning"] ["book", "title"] (zaj s9):=by walk_at "sc"
noncomputable abbrev s10:Stmt:=top 27
theorem zxi:FnScope ["way"] ["way"] (zaj s10):=by walk_at "sc"
noncomputable abbrev s11:Stmt:=top 30
theorem zxj:FnScope ["shape"] ["shape"] (zaj s11):=by walk_at "sc"
noncomputable abbrev s12:Stmt:=top 31
theorem sc12:FnScope ["book", "way", "side", "parts", "turning"] ["book", "way", "side"] (zaj s12):=by walk_at "sc"
noncomputable abbrev s13:Stmt:=top 28
theorem zxC:FnScope ["book", "way"] ["book", "way"] (zaj s13):=by walk_at "sc"
noncomputable abbrev s14:Stmt:=top 29
theorem zxv:FnScope ["book", "way"] ["book", "way"] (zaj s14):=by walk_at "sc"
noncomputable abbrev s15:Stmt:=top 34
theorem sc15:FnScope ["book", "way", "other", "shape"] ["book", "way", "other"] (zaj s15):=by walk_at "sc"
noncomputable abbrev s16:Stmt:=top 35
theorem sc16:FnScope ["book", "way", "other", "first", "second", "mine", "yours", "parts"] ["book", "way", "other"] (zaj s16):=by walk_at "sc"
noncomputable abbrev s17:Stmt:=top 33
theorem zxx:FnScope ["book", "way", "other"] ["book", "way", "other"] (zaj s17):=by walk_at "sc"
noncomputable abbrev s18:Stmt:=top 38
theorem sc18:FnScope ["book", "thing", "here", "way"] ["book", "thing"] (zaj s18):=by walk_at "sc"
noncomputable abbrev s19:Stmt:=top 37
theorem zxO:FnScope ["book", "thing"] ["book", "thing"] (zaj s19):=by walk_at "sc"
noncomputable abbrev s20:Stmt:=top 39
theorem zxN:FnScope ["book", "road"] ["book", "road"] (zaj s20):=by walk_at "sc"
noncomputable abbrev s21:Stmt:=top 42
theorem sc21:FnScope ["book", "ways", "way"] ["book", "ways"] (zaj s21):=by walk_at "sc"
noncomputable abbrev s22:Stmt:=top 41
theorem sc22:FnScope ["book", "way", "ways", "line", "over", "way_on"] ["book", "way", "ways"] (zaj s22):=by walk_at "sc"
noncomputable abbrev s23:Stmt:=top 40
theorem sc23:FnScope ["book", "road", "other", "downs", "row", "overs", "way", "line"] ["book", "road", "other"] (zaj s23):=by walk_at "sc"
noncomputable abbrev s24:Stmt:=top 47
theorem zxz:FnScope ["downs_and_overs"] ["downs_and_overs"] (zaj s24):=by walk_at "sc"
noncomputable abbrev s25:Stmt:=top 43
theorem sc25:FnScope ["book", "road", "other", "ways"] ["book", "road", "other"] (zaj s25):=by walk_at "sc"
noncomputable abbrev s26:Stmt:=top 44
theorem sc26:FnScope ["book", "road", "other", "overs"] ["book", "road", "other"] (zaj s26):=by walk_at "sc"
noncomputable abbrev s27:Stmt:=top 48
theorem zwR:FnScope ["ways"] ["ways"] (zaj s27):=by walk_at "sc"
noncomputable abbrev s28:Stmt:=top 45
theorem zxA:FnScope ["book", "road", "other"] ["book", "road", "other"] (zaj s28):=by walk_at "sc"
noncomputable abbrev s29:Stmt:=top 46
theorem sc29:FnScope ["book", "road", "other", "downs_and_overs"] ["book", "road", "other"] (zaj s29):=by walk_at "sc"
noncomputable abbrev s30:Stmt:=top 50
theorem zxB:FnScope ["script", "k"] ["script", "k"] (zaj s30):=by walk_at "sc"
noncomputable abbrev s31:Stmt:=top 51
theorem sc31:FnScope ["one", "two", "great", "signs", "rest", "base", "k", "at", "words", "word"] ["one", "two", "great"] (zaj s31):=by walk_at "sc"
noncomputable abbrev s32:Stmt:=top 52
theorem sc32:FnScope ["heads", "flat", "done", "heavy", "level"] ["heads", "flat", "done"] (zaj s32):=by walk_at "sc"
noncomputable abbrev s33:Stmt:=top 53
theorem sc33:FnScope ["heads", "flat", "level", "w", "way", "k"] ["heads", "flat", "level", "w"] (zaj s33):=by walk_at "sc"
noncomputable abbrev s34:Stmt:=top 54
theorem sc34:FnScope ["which", "book", "one", "other", "kinds", "e"] ["which", "book", "one", "other"] (zaj s34):=by walk_at "sc"
noncomputable abbrev s35:Stmt:=top 55
theorem zxI:FnScope ["cell", "heads"] ["cell", "heads"] (zaj s35):=by walk_at "sc"
noncomputable abbrev s36:Stmt:=top 56
theorem sc36:FnScope ["script", "w", "book", "heads", "flat", "first", "second", "more", "one", "other", "great", "due", "which", "road"] ["script"] (zaj s36):=by walk_at "sc"
section
variable (P:Program) (w:World) (K:PySem.W.Frag) (mg:Str→Option Value) (base:Heap)
noncomputable abbrev C0:=Cal P w K mg base "parts_of" ["t"] zct
noncomputable abbrev C1:=Cal P w K mg base "parts_of_all" ["things"] zaD
noncomputable abbrev C2:=Cal P w K mg base "is_small" ["t"] zbz
noncomputable abbrev C3:=Cal P w K mg base "filled" ["side", "things"] zbL
noncomputable abbrev C4:=Cal P w K mg base "have_one_top" ["one", "other"] zbc
noncomputable abbrev C5:=Cal P w K mg base "gather_matched" ["left", "t", "things"] zas
noncomputable abbrev C6:=Cal P w K mg base "matched" ["left", "t"] zbD
noncomputable abbrev C7:=Cal P w K mg base "are_small_letters" ["text"] zaB
noncomputable abbrev C8:=Cal P w K mg base "is_sign" ["text"] zdg
noncomputable abbrev C9:=Cal P w K mg base "turning_of" ["book", "title"] zaC
noncomputable abbrev C10:=Cal P w K mg base "is_quiet" ["way"] zbO
noncomputable abbrev C11:=Cal P w K mg base "only_small" ["shape"] zau
noncomputable abbrev C12:=Cal P w K mg base "with_sides" ["book", "way", "side"] zaX
noncomputable abbrev C13:=Cal P w K mg base "source" ["book", "way"] zcy
noncomputable abbrev C14:=Cal P w K mg base "goal" ["book", "way"] zdv
noncomputable abbrev C15:=Cal P w K mg base "one_source" ["book", "way", "other"] zbk
noncomputable abbrev C16:=Cal P w K mg base "moved" ["book", "way", "other"] zbB
noncomputable abbrev C17:=Cal P w K mg base "behind" ["book", "way", "other"] zdi
noncomputable abbrev C18:=Cal P w K mg base "leads_on" ["book", "thing"] zbw
noncomputable abbrev C19:=Cal P w K mg base "is_road" ["book", "thing"] zaH
noncomputable abbrev C20:=Cal P w K mg base "end" ["book", "road"] znC
noncomputable abbrev C21:=Cal P w K mg base "check_goals" ["book", "ways"] zaz
noncomputable abbrev C22:=Cal P w K mg base "moved_along" ["book", "way", "ways"] zaK
noncomputable abbrev C23:=Cal P w K mg base "grid" ["book", "road", "other"] zcS
noncomputable abbrev C24:=Cal P w K mg base "last_downs" ["downs_and_overs"] zaV
noncomputable abbrev C25:=Cal P w K mg base "road_behind" ["book", "road", "other"] zaM
noncomputable abbrev C26:=Cal P w K mg base "road_joined" ["book", "road", "other"] zaJ
noncomputable abbrev C27:=Cal P w K mg base "are_quiet" ["ways"] zbh
noncomputable abbrev C28:=Cal P w K mg base "within" ["book", "road", "other"] zcE
noncomputable abbrev C29:=Cal P w K mg base "alike" ["book", "road", "other"] zdH
noncomputable abbrev C30:=Cal P w K mg base "_law_cell" ["script", "k"] zax
noncomputable abbrev C31:=Cal P w K mg base "_law_words" ["one", "two", "great"] zbC
noncomputable abbrev C32:=Cal P w K mg base "_law_weight" ["heads", "flat", "done"] zbt
noncomputable abbrev C33:=Cal P w K mg base "_law_chain" ["heads", "flat", "level", "w"] zaI
noncomputable abbrev C34:=Cal P w K mg base "_law_told" ["which", "book", "one", "other"] zaW
noncomputable abbrev C35:=Cal P w K mg base "_law_levels" ["cell", "heads"] zaY
end
section
variable {P:Program}{w:World}{K:PySem.W.Frag}{mg:Str→Option Value}{base:Heap}
theorem o0{f:Addr}{d:FuncData}(F:Fun K "parts_of" "parts_of" s0 f d) (n_i:mg "isinstance" =none) (n_n:mg "int" =none):Ok P w K mg base f d ["t"] zct:=zcP rfl fun r ih=>zaS F sc0 rfl rfl fun _ _ _ _ _ _ hr=>(zad (zbA (zcN (znO rfl n_i rfl n_n PyProof.Rows.boot_int (jv 0) (by decide) (by decide) (zwe _ (by simp)))) (zai (zao (zbv zac))) zaU)
  (zai (zao (zgY (jv 0) (zcn zae) zcp))))
theorem o1{f:Addr}{d:FuncData}(F:Fun K "parts_of_all" "parts_of_all" s1 f d) (x0:C0 P w K mg base):Ok P w K mg base f d ["things"] zaD:=zcP rfl fun r ih=>zaS F sc1 rfl rfl fun _ _ _ _ _ _ hr=>(zad (zal (i:=1) sc1.nd rfl (Or.inl rfl) (zaF (zaP zac)))
  (zad (zcO (zck (jv 0)) (zaw (i:=2) sc1.nd rfl (Or.inl rfl)) (zai (zbs (zmw (jv 1) (zaa (zaf (x0.zg r) hr rfl x0.zm x0.zk x0.zb (zaa (jv 2) zac)) zac)))))
  (zai (zao (jv 1)))))
theorem o2{f:Addr}{d:FuncData}(F:Fun K "is_small" "is_small" s2 f d) (x1:C1 P w K mg base) (n_l:mg "len" =none) {t_MOST_HEAVY:Tok}(g_MOST_HEAVY:mg "MOST_HEAVY" =some (.int 400 t_MOST_HEAVY)) {t_MOST_DEEP:Tok}(g_MOST_DEEP:mg "MOST_DEEP" =some (.int 40 t_MOST_DEEP)):Ok P w K mg base f d ["t"] zbz:=zcP rfl fun r ih=>zaS F sc2 rfl rfl fun _ _ _ _ _ _ hr=>(zad (zal (i:=1) sc2.nd rfl (Or.inl rfl) zae)
  (zad (zal (i:=2) sc2.nd rfl (Or.inl rfl) zae)
  (zad (zal (i:=3) sc2.nd rfl (Or.inl rfl) (zaF (zaP (zaa (jv 0) zac))))
  (zad (zpm (zcN (jv 3)) (zad (zpT (i:=1) sc2.nd rfl (Or.inl rfl) (zfn rfl n_l (zaa (jv 3) zac)))
  (zad (zpT (i:=2) sc2.nd rfl (Or.inl rfl) zae)
  (zad (zbA (JW.jt (zqY (ztY (jv 1) (zcV rfl g_MOST_HEAVY)) (zpO (ztY (jv 2) (zcV rfl g_MOST_DEEP))))) (zai (zao zbH)) zaU)
  (zai (zal (i:=3) sc2.nd rfl (Or.inl rfl) (zaf (x1.zg r) hr rfl x1.zm x1.zk x1.zb (zaa (jv 3) zac))))))))
  (zai (zao zbH))))))
theorem o3{f:Addr}{d:FuncData}(F:Fun K "filled" "filled" s3 f d) (b:Binds K d ["side", "things"] []) (m:mg "filled" =some (.ref f)) (n_i:mg "isinstance" =none) (n_n:mg "int" =none) (n_t:mg "tuple" =none):Ok P w K mg base f d ["side", "things"] zbL:=zcP rfl fun r ih=>zaS F sc3 rfl rfl fun _ _ _ _ _ _ hr=>(zad (zbA (zcN (znO rfl n_i rfl n_n PyProof.Rows.boot_int (jv 0) (by decide) (by decide) (zwe _ (by simp)))) (zai (zao (zav (jv 1) (jv 0)))) zaU)
  (zai (zao (zbY (zbv (zaa (zav (jv 0) zae) zac)) (znS rfl n_t (zcT (N:=["inner", "things"]) (k:=1) (fr:=[1]) ⟨rfl,by decide +kernel,rfl,rfl,rfl,rfl,rfl,rfl,rfl⟩ (zck (zgY (jv 0) (zcn zae) zcp)) (fun _ _ _ _=>(zaw (i:=0) (show List.Nodup [("inner" :Str),("things" :Str)] from by decide +kernel) rfl (Or.inl rfl))) (fun _ _ _ _=>zbU) (fun _ _ _ _=>(zaf ih hr rfl m F.kp b (zaa (jv 0) (zaa (jv 1) zac))))))))))
theorem o4{f:Addr}{d:FuncData}(F:Fun K "have_one_top" "have_one_top" s4 f d) (n_l:mg "len" =none):Ok P w K mg base f d ["one", "other"] zbc:=zcP rfl fun r ih=>zaS F sc4 rfl rfl fun _ _ _ _ _ _ hr=>(zai (zao (ziH (zmh hr (zav (jv 0) zae) (zav (jv 1) zae)) (zhH (zmh hr (zfn rfl n_l (zaa (jv 0) zac)) (zfn rfl n_l (zaa (jv 1) zac)))))))
theorem o5{f:Addr}{d:FuncData}(F:Fun K "gather_matched" "gather_matched" s5 f d) (x4:C4 P w K mg base) (b:Binds K d ["left", "t", "things"] []) (m:mg "gather_matched" =some (.ref f)) (n_i:mg "isinstance" =none) (n_n:mg "int" =none) (n_z:mg "zip" =none):Ok P w K mg base f d ["left", "t", "things"] zas:=zcP rfl fun r ih=>zaS F sc5 rfl rfl fun _ _ _ _ _ _ hr=>(zad (zbA (zcN (znO rfl n_i rfl n_n PyProof.Rows.boot_int (jv 0) (by decide) (by decide) (zwe _ (by simp)))) (zad (zbs (zcs (jv 2) (zaa (jv 1) zac)))
  (zai (zao zbH))) zaU)
  (zad (zbA (zhW (zcN (zaf (x4.zg r) hr rfl x4.zm x4.zk x4.zb (zaa (jv 0) (zaa (jv 1) zac))))) (zai (zao zbH)) zaU)
  (zad (zcO (zlD rfl n_z (zgY (jv 0) (zcn zae) zcp) (zgY (jv 1) (zcn zae) zcp)) (zmO (zdl (zaw (i:=3) sc5.nd rfl (Or.inl rfl)) (zdl (zaw (i:=4) sc5.nd rfl (Or.inl rfl)) ziS)) (glS (glS gl0))) (zai (zbA (zhW (zcN (zaf ih hr rfl m F.kp b (zaa (jv 3) (zaa (jv 4) (zaa (jv 2) zac)))))) (zai (zao zbH)) zaU)))
  (zai (zao zbH)))))
theorem o6{f:Addr}{d:FuncData}(F:Fun K "matched" "matched" s6 f d) (x5:C5 P w K mg base):Ok P w K mg base f d ["left", "t"] zbD:=zcP rfl fun r ih=>zaS F sc6 rfl rfl fun _ _ _ _ _ _ hr=>(zad (zal (i:=2) sc6.nd rfl (Or.inl rfl) (zaF (zaP zac)))
  (zad (zbA (zcN (zaf (x5.zg r) hr rfl x5.zm x5.zk x5.zb (zaa (jv 0) (zaa (jv 1) (zaa (jv 2) zac))))) (zai (zao (jv 2))) zaU)
  (zai (zao zeF))))
theorem o7{f:Addr}{d:FuncData}(F:Fun K "are_small_letters" "are_small_letters" s7 f d) (n_a:mg "all" =none):Ok P w K mg base f d ["text"] zaB:=zcP rfl fun r ih=>zaS F sc7 rfl rfl fun _ _ _ _ _ _ hr=>(zai (zao (zjv rfl n_a (zcT (N:=["letter"]) (k:=1) (fr:=[]) ⟨rfl,by decide +kernel,rfl,rfl,rfl,rfl,rfl,rfl,rfl⟩ (zck (jv 0)) (fun _ _ _ _=>(zaw (i:=0) (show List.Nodup [("letter" :Str)] from by decide +kernel) rfl (Or.inl rfl))) (fun _ _ _ _=>zbU) (fun _ _ _ _=>(zlU zeh (jv 0) zeh))))))
theorem o8{f:Addr}{d:FuncData}(F:Fun K "is_sign" "is_sign" s8 f d) (x7:C7 P w K mg base) (n_l:mg "len" =none) {t_MOST_LETTERS:Tok}(g_MOST_LETTERS:mg "MOST_LETTERS" =some (.int 8 t_MOST_LETTERS)):Ok P w K mg base f d ["text"] zdg:=zcP rfl fun r ih=>zaS F sc8 rfl rfl fun _ _ _ _ _ _ hr=>(zai (zao (ziH (zlU zae (zfn rfl n_l (zaa (jv 0) zac)) (zcV rfl g_MOST_LETTERS)) (zhH (zaf (x7.zg r) hr rfl x7.zm x7.zk x7.zb (zaa (jv 0) zac))))))
theorem o9{f:Addr}{d:FuncData}(F:Fun K "turning_of" "turning_of" s9 f d):Ok P w K mg base f d ["book", "title"] zaC:=zcP rfl fun r ih=>zaS F sc9 rfl rfl fun _ _ _ _ _ _ hr=>(zad (zcO (zck (jv 0)) (zaw (i:=2) sc9.nd rfl (Or.inl rfl)) (zai (zbA (zeJ hr (zav (jv 2) zae) (jv 1)) (zai (zao (jv 2))) zaU)))
  (zai (zao zeF)))
theorem o10{f:Addr}{d:FuncData}(F:Fun K "is_quiet" "is_quiet" s10 f d) (x8:C8 P w K mg base) (b:Binds K d ["way"] []) (m:mg "is_quiet" =some (.ref f)) (n_a:mg "all" =none):Ok P w K mg base f d ["way"] zbO:=zcP rfl fun r ih=>zaS F zxi rfl rfl fun _ _ _ _ _ _ hr=>(zai (zao (ziH (zaf (x8.zg r) hr rfl x8.zm x8.zk x8.zb (zaa (zav (jv 0) zae) zac)) (zhH (zjv rfl n_a (zcT (N:=["inner"]) (k:=1) (fr:=[]) ⟨rfl,by decide +kernel,rfl,rfl,rfl,rfl,rfl,rfl,rfl⟩ (zck (zgY (jv 0) (zcn zae) zcp)) (fun _ _ _ _=>(zaw (i:=0) (show List.Nodup [("inner" :Str)] from by decide +kernel) rfl (Or.inl rfl))) (fun _ _ _ _=>zbU) (fun _ _ _ _=>(zaf ih hr rfl m F.kp b (zaa (jv 0) zac)))))))))
theorem o11{f:Addr}{d:FuncData}(F:Fun K "only_small" "only_small" s11 f d) (x2:C2 P w K mg base) (y_TooGreat:Ncl mg "TooGreat") (v_TooGreat:XcIn K "TooGreat" y_TooGreat.xC):Ok P w K mg base f d ["shape"] zau:=zcP rfl fun r ih=>zaS F zxj rfl rfl fun _ _ _ _ _ _ hr=>(zad (zbA (zhW (zcN (zaf (x2.zg r) hr rfl x2.zm x2.zk x2.zb (zaa (jv 0) zac)))) (zai (zgW v_TooGreat rfl y_TooGreat.xm (zaa zeh zac))) zaU)
  (zai (zao (jv 0))))
theorem o12{f:Addr}{d:FuncData}(F:Fun K "with_sides" "with_sides" s12 f d) (x9:C9 P w K mg base) (x3:C3 P w K mg base) (b:Binds K d ["book", "way", "side"] []) (m:mg "with_sides" =some (.ref f)) (n_t:mg "tuple" =none):Ok P w K mg base f d ["book", "way", "side"] zaX:=zcP rfl fun r ih=>zaS F sc12 rfl rfl fun _ _ _ _ _ _ hr=>(zad (zjn (i:=3) (N:=["inner", "book", "side"]) (k:=1) (fr:=[0,2]) sc12.nd rfl (Or.inl rfl) ⟨rfl,by decide +kernel,rfl,rfl,rfl,rfl,rfl,rfl,rfl⟩ (zck (zgY (jv 1) (zcn zae) zcp)) (fun _ _ _ _=>(zaw (i:=0) (show List.Nodup [("inner" :Str),("book" :Str),("side" :Str)] from by decide +kernel) rfl (Or.inl rfl))) (fun _ _ _ _=>zbU) (fun _ _ _ _=>(zaf ih hr rfl m F.kp b (zaa (jv 1) (zaa (jv 0) (zaa (jv 2) zac))))))
  (zad (zal (i:=4) sc12.nd rfl (Or.inl rfl) (zaf (x9.zg r) hr rfl x9.zm x9.zk x9.zb (zaa (jv 0) (zaa (zav (jv 1) zae) zac))))
  (zad (zbA (zoS (jv 4) zeF) (zai (zao (zbY (zbv (zaa (zav (jv 1) zae) zac)) (zkK rfl n_t (zaa (jv 3) zac))))) zaU)
  (zai (zao (zaf (x3.zg r) hr rfl x3.zm x3.zk x3.zb (zaa (zav (jv 4) (jv 2)) (zaa (jv 3) zac))))))))
theorem o13{f:Addr}{d:FuncData}(F:Fun K "source" "source" s13 f d) (x11:C11 P w K mg base) (x12:C12 P w K mg base) {t_LEFT:Tok}(g_LEFT:mg "LEFT" =some (.int 1 t_LEFT)):Ok P w K mg base f d ["book", "way"] zcy:=zcP rfl fun r ih=>zaS F zxC rfl rfl fun _ _ _ _ _ _ hr=>(zai (zao (zaf (x11.zg r) hr rfl x11.zm x11.zk x11.zb (zaa (zaf (x12.zg r) hr rfl x12.zm x12.zk x12.zb (zaa (jv 0) (zaa (jv 1) (zaa (zcV rfl g_LEFT) zac)))) zac))))
theorem o14{f:Addr}{d:FuncData}(F:Fun K "goal" "goal" s14 f d) (x11:C11 P w K mg base) (x12:C12 P w K mg base) {t_RIGHT:Tok}(g_RIGHT:mg "RIGHT" =some (.int 2 t_RIGHT)):Ok P w K mg base f d ["book", "way"] zdv:=zcP rfl fun r ih=>zaS F zxv rfl rfl fun _ _ _ _ _ _ hr=>(zai (zao (zaf (x11.zg r) hr rfl x11.zm x11.zk x11.zb (zaa (zaf (x12.zg r) hr rfl x12.zm x12.zk x12.zb (zaa (jv 0) (zaa (jv 1) (zaa (zcV rfl g_RIGHT) zac)))) zac))))
theorem o15{f:Addr}{d:FuncData}(F:Fun K "one_source" "one_source" s15 f d) (x13:C13 P w K mg base) (y_Apart:Ncl mg "Apart") (v_Apart:XcIn K "Apart" y_Apart.xC):Ok P w K mg base f d ["book", "way", "other"] zbk:=zcP rfl fun r ih=>zaS F sc15 rfl rfl fun _ _ _ _ _ _ hr=>(zad (zal (i:=3) sc15.nd rfl (Or.inl rfl) (zaf (x13.zg r) hr rfl x13.zm x13.zk x13.zb (zaa (jv 0) (zaa (jv 1) zac))))
  (zad (zbA (zow hr (zaf (x13.zg r) hr rfl x13.zm x13.zk x13.zb (zaa (jv 0) (zaa (jv 2) zac))) (jv 3)) (zai (zgW v_Apart rfl y_Apart.xm (zaa zeh zac))) zaU)
  (zai (zao (jv 3)))))
theorem o16{f:Addr}{d:FuncData}(F:Fun K "moved" "moved" s16 f d) (x9:C9 P w K mg base) (x3:C3 P w K mg base) (x6:C6 P w K mg base) (b:Binds K d ["book", "way", "other"] []) (m:mg "moved" =some (.ref f)) (n_z:mg "zip" =none) (n_t:mg "tuple" =none) {t_RIGHT:Tok}(g_RIGHT:mg "RIGHT" =some (.int 2 t_RIGHT)) {t_LEFT:Tok}(g_LEFT:mg "LEFT" =some (.int 1 t_LEFT)):Ok P w K mg base f d ["book", "way", "other"] zbB:=zcP rfl fun r ih=>zaS F sc16 rfl rfl fun _ _ _ _ _ _ hr=>(zad (zal (i:=3) sc16.nd rfl (Or.inl rfl) (zaf (x9.zg r) hr rfl x9.zm x9.zk x9.zb (zaa (jv 0) (zaa (zav (jv 1) zae) zac))))
  (zad (zal (i:=4) sc16.nd rfl (Or.inl rfl) (zaf (x9.zg r) hr rfl x9.zm x9.zk x9.zb (zaa (jv 0) (zaa (zav (jv 2) zae) zac))))
  (zad (zal (i:=5) sc16.nd rfl (Or.inl rfl) (zgY (jv 1) (zcn zae) zcp))
  (zad (zal (i:=6) sc16.nd rfl (Or.inl rfl) (zgY (jv 2) (zcn zae) zcp))
  (zad (zbA (JW.jt (zlR (zoS (jv 3) zeF) (ziQ (zjP (jv 4) zeF)))) (zai (zal (i:=5) sc16.nd rfl (Or.inl rfl) (zaf (x6.zg r) hr rfl x6.zm x6.zk x6.zb (zaa (zav (jv 4) (zcV rfl g_LEFT)) (zaa (jv 1) zac))))) zaU)
  (zad (zbA (JW.jt (zlR (zjP (jv 3) zeF) (ziQ (zoS (jv 4) zeF)))) (zai (zal (i:=6) sc16.nd rfl (Or.inl rfl) (zaf (x6.zg r) hr rfl x6.zm x6.zk x6.zb (zaa (zav (jv 3) (zcV rfl g_LEFT)) (zaa (jv 2) zac))))) zaU)
  (zad (zjn (i:=7) (N:=["inner", "outer", "book"]) (k:=2) (fr:=[0]) sc16.nd rfl (Or.inl rfl) ⟨rfl,by decide +kernel,rfl,rfl,rfl,rfl,rfl,rfl,rfl⟩ (zlD rfl n_z (jv 5) (jv 6)) (fun _ _ _ _=>(zmO (zdl (zaw (i:=0) (show List.Nodup [("inner" :Str),("outer" :Str),("book" :Str)] from by decide +kernel) rfl (Or.inl rfl)) (zdl (zaw (i:=1) (show List.Nodup [("inner" :Str),("outer" :Str),("book" :Str)] from by decide +kernel) rfl (Or.inl rfl)) ziS)) (glS (glS gl0)))) (fun _ _ _ _=>zbU) (fun _ _ _ _=>(zaf ih hr rfl m F.kp b (zaa (jv 2) (zaa (jv 0) (zaa (jv 1) zac))))))
  (zad (zbA (zoS (jv 4) zeF) (zai (zao (zbY (zbv (zaa (zav (jv 1) zae) zac)) (zkK rfl n_t (zaa (jv 7) zac))))) zaU)
  (zai (zao (zaf (x3.zg r) hr rfl x3.zm x3.zk x3.zb (zaa (zav (jv 4) (zcV rfl g_RIGHT)) (zaa (jv 7) zac)))))))))))))
theorem o17{f:Addr}{d:FuncData}(F:Fun K "behind" "behind" s17 f d) (x15:C15 P w K mg base) (x14:C14 P w K mg base) (x16:C16 P w K mg base):Ok P w K mg base f d ["book", "way", "other"] zdi:=zcP rfl fun r ih=>zaS F zxx rfl rfl fun _ _ _ _ _ _ hr=>(zad (zbs (zaf (x15.zg r) hr rfl x15.zm x15.zk x15.zb (zaa (jv 0) (zaa (jv 1) (zaa (jv 2) zac)))))
  (zad (zbs (zaf (x14.zg r) hr rfl x14.zm x14.zk x14.zb (zaa (jv 0) (zaa (jv 2) zac))))
  (zai (zao (zaf (x16.zg r) hr rfl x16.zm x16.zk x16.zb (zaa (jv 0) (zaa (jv 1) (zaa (jv 2) zac))))))))
theorem o18{f:Addr}{d:FuncData}(F:Fun K "leads_on" "leads_on" s18 f d) (x11:C11 P w K mg base) (x14:C14 P w K mg base) (x13:C13 P w K mg base):Ok P w K mg base f d ["book", "thing"] zbw:=zcP rfl fun r ih=>zaS F sc18 rfl rfl fun _ _ _ _ _ _ hr=>(zad (zal (i:=2) sc18.nd rfl (Or.inl rfl) (zaf (x11.zg r) hr rfl x11.zm x11.zk x11.zb (zaa (zav (jv 1) zae) zac)))
  (zad (zcO (zck (zav (jv 1) zae)) (zaw (i:=3) sc18.nd rfl (Or.inl rfl)) (zad (zbA (zow hr (zaf (x13.zg r) hr rfl x13.zm x13.zk x13.zb (zaa (jv 0) (zaa (jv 3) zac))) (jv 2)) (zai (zao zbH)) zaU)
  (zai (zal (i:=2) sc18.nd rfl (Or.inl rfl) (zaf (x14.zg r) hr rfl x14.zm x14.zk x14.zb (zaa (jv 0) (zaa (jv 3) zac)))))))
  (zai (zao zbH))))
theorem o19{f:Addr}{d:FuncData}(F:Fun K "is_road" "is_road" s19 f d) (x18:C18 P w K mg base) (y_TooGreat:Ncl mg "TooGreat") (e_TooGreat_TooGreat:PySem.W.exmOne K (.ref y_TooGreat.xC) (.ref y_TooGreat.xC)=some true) (v_TooGreat:XcIn K "TooGreat" y_TooGreat.xC):Ok P w K mg base f d ["book", "thing"] zaH:=zcP rfl fun r ih=>zaS F zxO rfl rfl fun _ _ _ _ _ _ hr=>(zai (ztZ (fun _ _=>(zdz (zuA (zex (x18.zg r) hr rfl x18.zm x18.zk x18.zb (zaa (jv 0) (zaa (jv 1) zac)))))) (alc ⟨y_TooGreat.xC,v_TooGreat,e_TooGreat_TooGreat⟩ aln) (fun _ _=>(zai (zao zbH))) rfl y_TooGreat.xm))
theorem o20{f:Addr}{d:FuncData}(F:Fun K "end" "end" s20 f d) (x14:C14 P w K mg base):Ok P w K mg base f d ["book", "road"] znC:=zcP rfl fun r ih=>by
  refine zaS F zxN rfl rfl fun _ _ _ _ _ _ hr=>?_;delta zjm zjB;exact(zad (zbA (zhW (zcN (zav (jv 1) zae))) (zai (zao (zav (jv 1) zae))) zaU)
  (zai (zao (zaf (x14.zg r) hr rfl x14.zm x14.zk x14.zb (zaa (jv 0) (zaa (zav (zav (jv 1) zae) (zde zae)) zac))))))
theorem o21{f:Addr}{d:FuncData}(F:Fun K "check_goals" "check_goals" s21 f d) (x14:C14 P w K mg base):Ok P w K mg base f d ["book", "ways"] zaz:=zcP rfl fun r ih=>zaS F sc21 rfl rfl fun _ _ _ _ _ _ hr=>(zai (zcO (zck (jv 1)) (zaw (i:=2) sc21.nd rfl (Or.inl rfl)) (zai (zbs (zaf (x14.zg r) hr rfl x14.zm x14.zk x14.zb (zaa (jv 0) (zaa (jv 2) zac)))))))
theorem o22{f:Addr}{d:FuncData}(F:Fun K "moved_along" "moved_along" s22 f d) (x16:C16 P w K mg base) (x21:C21 P w K mg base):Ok P w K mg base f d ["book", "way", "ways"] zaK:=zcP rfl fun r ih=>by
  refine zaS F sc22 rfl rfl fun _ _ _ _ _ _ hr=>?_;delta zbn zbg zbe zbf zbq zbr;delta zbm;delta zbn zbg zbe zbf zbq zbr;exact(zad (zal (i:=3) sc22.nd rfl (Or.inl rfl) (zaF (zaP (zaa (jv 1) zac))))
  (zad (zcO (zck (jv 2)) (zaw (i:=4) sc22.nd rfl (Or.inl rfl)) (zad (zal (i:=5) sc22.nd rfl (Or.inl rfl) (zaf (x16.zg r) hr rfl x16.zm x16.zk x16.zb (zaa (jv 0) (zaa (zav (jv 3) (zde zae)) (zaa (jv 4) zac)))))
  (zad (zbs (zaf (x21.zg r) hr rfl x21.zm x21.zk x21.zb (zaa (jv 0) (zaa (zaF (zaP (zaa (jv 5) zac))) zac))))
  (zai (zbs (zcs (jv 3) (zaa (jv 5) zac)))))))
  (zai (zao (jv 3)))))
theorem o23{f:Addr}{d:FuncData}(F:Fun K "grid" "grid" s23 f d) (x11:C11 P w K mg base) (x21:C21 P w K mg base) (x22:C22 P w K mg base) (x16:C16 P w K mg base) (n_s:mg "list" =none) (n_z:mg "zip" =none) (y_Apart:Ncl mg "Apart") (v_Apart:XcIn K "Apart" y_Apart.xC):Ok P w K mg base f d ["book", "road", "other"] zcS:=zcP rfl fun r ih=>by
  refine zaS F sc23 rfl rfl fun _ _ _ _ _ _ hr=>?_;delta zeY zcZ zcU zda zdX zff zdT zed zdZ zfc zeQ zdO zfh;delta zeU;delta zeY zcZ zcU zda zdX zff zdT zed zdZ zfc zeQ zdO zfh;exact(zad (zbA (zow hr (zav (jv 1) zae) (zav (jv 2) zae)) (zai (zgW v_Apart rfl y_Apart.xm (zaa zeh zac))) zaU)
  (zad (zbs (zaf (x11.zg r) hr rfl x11.zm x11.zk x11.zb (zaa (zav (jv 1) zae) zac)))
  (zad (zbs (zaf (x21.zg r) hr rfl x21.zm x21.zk x21.zb (zaa (jv 0) (zaa (zav (jv 1) zae) zac))))
  (zad (zbs (zaf (x21.zg r) hr rfl x21.zm x21.zk x21.zb (zaa (jv 0) (zaa (zav (jv 2) zae) zac))))
  (zad (zal (i:=3) sc23.nd rfl (Or.inl rfl) (zaF (zaP zac)))
  (zad (zal (i:=4) sc23.nd rfl (Or.inl rfl) (zaF (zqK rfl n_s (zav (jv 2) zae))))
  (zad (zal (i:=5) sc23.nd rfl (Or.inl rfl) (zaF (zaP (zaa (jv 4) zac))))
  (zad (zcO (zck (zav (jv 1) zae)) (zaw (i:=6) sc23.nd rfl (Or.inl rfl)) (zad (zal (i:=7) sc23.nd rfl (Or.inl rfl) (zaf (x22.zg r) hr rfl x22.zm x22.zk x22.zb (zaa (jv 0) (zaa (jv 6) (zaa (jv 4) zac)))))
  (zad (zjn (i:=4) (N:=["over", "down", "book"]) (k:=2) (fr:=[0]) sc23.nd rfl (Or.inl rfl) ⟨rfl,by decide +kernel,rfl,rfl,rfl,rfl,rfl,rfl,rfl⟩ (zlD rfl n_z (jv 4) (jv 7)) (fun _ _ _ _=>(zmO (zdl (zaw (i:=0) (show List.Nodup [("over" :Str),("down" :Str),("book" :Str)] from by decide +kernel) rfl (Or.inl rfl)) (zdl (zaw (i:=1) (show List.Nodup [("over" :Str),("down" :Str),("book" :Str)] from by decide +kernel) rfl (Or.inl rfl)) ziS)) (glS (glS gl0)))) (fun _ _ _ _=>zbU) (fun _ _ _ _=>(zaf (x16.zg r) hr rfl x16.zm x16.zk x16.zb (zaa (jv 2) (zaa (jv 0) (zaa (jv 1) zac))))))
  (zad (zbs (zcs (jv 3) (zaa (jv 7) zac)))
  (zai (zbs (zcs (jv 5) (zaa (jv 4) zac))))))))
  (zai (zao (zbv (zaa (jv 3) (zaa (jv 5) zac)))))))))))))
theorem o24{f:Addr}{d:FuncData}(F:Fun K "last_downs" "last_downs" s24 f d):Ok P w K mg base f d ["downs_and_overs"] zaV:=zcP rfl fun r ih=>zaS F zxz rfl rfl fun _ _ _ _ _ _ hr=>(zai (zao (zaF (zcT (N:=["line"]) (k:=1) (fr:=[]) ⟨rfl,by decide +kernel,rfl,rfl,rfl,rfl,rfl,rfl,rfl⟩ (zck (zav (jv 0) zae)) (fun _ _ _ _=>(zaw (i:=0) (show List.Nodup [("line" :Str)] from by decide +kernel) rfl (Or.inl rfl))) (fun _ _ _ _=>zbU) (fun _ _ _ _=>(zav (jv 0) (zde zae)))))))
theorem o25{f:Addr}{d:FuncData}(F:Fun K "road_behind" "road_behind" s25 f d) (x24:C24 P w K mg base) (x23:C23 P w K mg base) (x20:C20 P w K mg base):Ok P w K mg base f d ["book", "road", "other"] zaM:=zcP rfl fun r ih=>by
  refine zaS F sc25 rfl rfl fun _ _ _ _ _ _ hr=>?_;delta zbV zbS;exact(zad (zal (i:=3) sc25.nd rfl (Or.inl rfl) (zaf (x24.zg r) hr rfl x24.zm x24.zk x24.zb (zaa (zaf (x23.zg r) hr rfl x23.zm x23.zk x23.zb (zaa (jv 0) (zaa (jv 1) (zaa (jv 2) zac)))) zac)))
  (zai (zao (zbv (zaa (zaf (x20.zg r) hr rfl x20.zm x20.zk x20.zb (zaa (jv 0) (zaa (jv 2) zac))) (zaa (jv 3) zac))))))
theorem o26{f:Addr}{d:FuncData}(F:Fun K "road_joined" "road_joined" s26 f d) (x23:C23 P w K mg base):Ok P w K mg base f d ["book", "road", "other"] zaJ:=zcP rfl fun r ih=>by
  refine zaS F sc26 rfl rfl fun _ _ _ _ _ _ hr=>?_;delta zbX zbQ;exact(zad (zal (i:=3) sc26.nd rfl (Or.inl rfl) (zav (zaf (x23.zg r) hr rfl x23.zm x23.zk x23.zb (zaa (jv 0) (zaa (jv 1) (zaa (jv 2) zac)))) zae))
  (zai (zao (zbv (zaa (zav (jv 1) zae) (zaa (zbY (zav (jv 1) zae) (zav (jv 3) (zde zae))) zac))))))
theorem o27{f:Addr}{d:FuncData}(F:Fun K "are_quiet" "are_quiet" s27 f d) (x10:C10 P w K mg base) (n_a:mg "all" =none):Ok P w K mg base f d ["ways"] zbh:=zcP rfl fun r ih=>zaS F zwR rfl rfl fun _ _ _ _ _ _ hr=>(zai (zao (zjv rfl n_a (zcT (N:=["way"]) (k:=1) (fr:=[]) ⟨rfl,by decide +kernel,rfl,rfl,rfl,rfl,rfl,rfl,rfl⟩ (zck (jv 0)) (fun _ _ _ _=>(zaw (i:=0) (show List.Nodup [("way" :Str)] from by decide +kernel) rfl (Or.inl rfl))) (fun _ _ _ _=>zbU) (fun _ _ _ _=>(zaf (x10.zg r) hr rfl x10.zm x10.zk x10.zb (zaa (jv 0) zac)))))))
theorem o28{f:Addr}{d:FuncData}(F:Fun K "within" "within" s28 f d) (x27:C27 P w K mg base) (x24:C24 P w K mg base) (x23:C23 P w K mg base):Ok P w K mg base f d ["book", "road", "other"] zcE:=zcP rfl fun r ih=>zaS F zxA rfl rfl fun _ _ _ _ _ _ hr=>(zai (zao (zaf (x27.zg r) hr rfl x27.zm x27.zk x27.zb (zaa (zaf (x24.zg r) hr rfl x24.zm x24.zk x24.zb (zaa (zaf (x23.zg r) hr rfl x23.zm x23.zk x23.zb (zaa (jv 0) (zaa (jv 1) (zaa (jv 2) zac)))) zac)) zac))))
theorem o29{f:Addr}{d:FuncData}(F:Fun K "alike" "alike" s29 f d) (x23:C23 P w K mg base) (x27:C27 P w K mg base) (x24:C24 P w K mg base):Ok P w K mg base f d ["book", "road", "other"] zdH:=zcP rfl fun r ih=>by
  refine zaS F sc29 rfl rfl fun _ _ _ _ _ _ hr=>?_;delta zfj zfT;exact(zad (zal (i:=3) sc29.nd rfl (Or.inl rfl) (zaf (x23.zg r) hr rfl x23.zm x23.zk x23.zb (zaa (jv 0) (zaa (jv 1) (zaa (jv 2) zac)))))
  (zai (zao (ziH (zaf (x27.zg r) hr rfl x27.zm x27.zk x27.zb (zaa (zaf (x24.zg r) hr rfl x24.zm x24.zk x24.zb (zaa (jv 3) zac)) zac)) (zhH (zaf (x27.zg r) hr rfl x27.zm x27.zk x27.zb (zaa (zav (zav (jv 3) zae) (zde zae)) zac)))))))
theorem o30{f:Addr}{d:FuncData}(F:Fun K "_law_cell" "_law_cell" s30 f d) (n_l:mg "len" =none):Ok P w K mg base f d ["script", "k"] zax:=zcP rfl fun r ih=>zaS F zxB rfl rfl fun _ _ _ _ _ _ hr=>(zad (zbA (zvH (jv 1) (zfn rfl n_l (zaa (jv 0) zac))) (zai (zao (zav (jv 0) (jv 1)))) zaU)
  (zai (zao zae)))
theorem o31{f:Addr}{d:FuncData}(F:Fun K "_law_words" "_law_words" s31 f d) (n_r:mg "range" =none) (n_l:mg "len" =none) (n_n:mg "int" =none):Ok P w K mg base f d ["one", "two", "great"] zbC:=zcP rfl fun r ih=>zaS F sc31 rfl rfl fun _ _ _ _ _ _ hr=>(zad (zal (i:=3) sc31.nd rfl (Or.inr rfl) zeh)
  (zad (zal (i:=4) sc31.nd rfl (Or.inl rfl) (zcM (jv 1) (zsQ zae zae)))
  (zad (zal (i:=5) sc31.nd rfl (Or.inr rfl) (zaF (zaP zac)))
  (zad (zcO (zeO rfl n_r (zaa (zbY zae (zcM (jv 0) zae)) zac)) (zaw (i:=6) sc31.nd rfl (Or.inr rfl)) (zad (zbs (zcs (jv 5) (zaa (zcM (jv 4) zae) zac)))
  (zai (zal (i:=4) sc31.nd rfl (Or.inl rfl) (zfl (jv 4) zae)))))
  (zad (zal (i:=7) sc31.nd rfl (Or.inr rfl) (zcM (zfl (jv 0) zae) (zfn rfl n_l (zaa (jv 5) zac))))
  (zad (zal (i:=8) sc31.nd rfl (Or.inl rfl) (zaF (zaP zac)))
  (zad (zcO (zeO rfl n_r (zaa zae zac)) (zaw (i:=6) sc31.nd rfl (Or.inr rfl)) (zad (zal (i:=9) sc31.nd rfl (Or.inl rfl) (zpl zeh (zcT (N:=["j", "signs", "base", "k", "at"]) (k:=1) (fr:=[3,5,6,7]) ⟨rfl,by decide +kernel,rfl,rfl,rfl,rfl,rfl,rfl,rfl⟩ (zeO rfl n_r (zaa (zfn rfl n_l (zaa (jv 5) zac)) zac)) (fun _ _ _ _=>(zaw (i:=0) (show List.Nodup [("j" :Str),("signs" :Str),("base" :Str),("k" :Str),("at" :Str)] from by decide +kernel) rfl (Or.inl rfl))) (fun _ _ _ _=>zbU) (fun _ _ _ _=>(zav (jv 1) (zcM (zbY (zav (jv 2) (jv 0)) (zqm (jv 3) (znt rfl n_n (zaa (zmh hr (jv 0) (jv 4)) zac)))) zae))))))
  (zad (zbA (zcN (jv 2)) (zai (zal (i:=9) sc31.nd rfl (Or.inl rfl) (zbY (zpH (zav (jv 9) zae)) (zgY (jv 9) (zcn zae) zcp)))) zaU)
  (zai (zbs (zcs (jv 8) (zaa (jv 9) zac)))))))
  (zad (zbA (JW.jt (zlR (zeJ hr (zcM (zfl (jv 0) zae) zae) zae) (ziQ (zhW (zcN (jv 2)))))) (zai (zal (i:=8) sc31.nd rfl (Or.inl rfl) (zaF (zru (zwl (jv 8) zcp (zcn zae)) (zaP (zaa (zav (jv 8) zae) (zaa (zav (jv 8) zae) (zaa (zav (jv 8) zae) zac)))))))) zaU)
  (zai (zao (jv 8)))))))))))
theorem o32{f:Addr}{d:FuncData}(F:Fun K "_law_weight" "_law_weight" s32 f d) (n_r:mg "range" =none):Ok P w K mg base f d ["heads", "flat", "done"] zbt:=zcP rfl fun r ih=>zaS F sc32 rfl rfl fun _ _ _ _ _ _ hr=>(zad (zal (i:=3) sc32.nd rfl (Or.inl rfl) (zbY (jv 1) zae))
  (zad (zcO (zmN rfl n_r (zaa (zqk (jv 0) zae) (zaa (zde zae) (zaa (zde zae) zac)))) (zaw (i:=4) sc32.nd rfl (Or.inl rfl)) (zai (zbA (zwv hr (jv 4) (jv 2)) (zai (zal (i:=3) sc32.nd rfl (Or.inl rfl) (zbY (zqm zae (jv 3)) zae))) (zai (zal (i:=3) sc32.nd rfl (Or.inl rfl) (zbY (jv 3) zae))))))
  (zai (zao (jv 3)))))
theorem o33{f:Addr}{d:FuncData}(F:Fun K "_law_chain" "_law_chain" s33 f d) (n_r:mg "range" =none):Ok P w K mg base f d ["heads", "flat", "level", "w"] zaI:=zcP rfl fun r ih=>zaS F sc33 rfl rfl fun _ _ _ _ _ _ hr=>(zad (zal (i:=4) sc33.nd rfl (Or.inl rfl) (zbY (zbv (zaa (zav (jv 3) zae) zac)) (zsc (zbv (zaa (zbv (zaa (zav (jv 3) zae) zac)) zac)) (jv 1))))
  (zad (zcO (zmN rfl n_r (zaa (zqk (jv 0) zae) (zaa (zde zae) (zaa (zde zae) zac)))) (zaw (i:=5) sc33.nd rfl (Or.inl rfl)) (zai (zbA (zeJ hr (jv 5) (jv 2)) (zai (zal (i:=4) sc33.nd rfl (Or.inl rfl) (zbv (zaa zeh (zaa (jv 4) zac))))) (zai (zal (i:=4) sc33.nd rfl (Or.inl rfl) (zbv (zaa (zav (jv 3) zae) (zaa (jv 4) zac))))))))
  (zai (zao (jv 4)))))
theorem o34{f:Addr}{d:FuncData}(F:Fun K "_law_told" "_law_told" s34 f d) (x23:C23 P w K mg base) (x25:C25 P w K mg base) (x26:C26 P w K mg base) (x28:C28 P w K mg base) (x29:C29 P w K mg base) (n_i:mg "isinstance" =none) (n_ValueError:mg "ValueError" =none) (y_Apart:Ncl mg "Apart") (y_NoPlace:Ncl mg "NoPlace") (y_NoUse:Ncl mg "NoUse") (y_NoWay:Ncl mg "NoWay") (y_TooGreat:Ncl mg "TooGreat") (y_TurnError:Ncl mg "TurnError") (e_Apart_TurnError:PySem.W.exmOne K (.ref y_Apart.xC) (.ref y_TurnError.xC)=some true) (e_TooGreat_TurnError:PySem.W.exmOne K (.ref y_TooGreat.xC) (.ref y_TurnError.xC)=some true) (q_Apart_Apart:PySem.W.kitOne K (.ref y_Apart.xC) (.ref y_Apart.xC)=some (zdM "Apart" "Apart")) (q_Apart_NoPlace:PySem.W.kitOne K (.ref y_Apart.xC) (.ref y_NoPlace.xC)=some (zdM "Apart" "NoPlace")) (q_Apart_NoUse:PySem.W.kitOne K (.ref y_Apart.xC) (.ref y_NoUse.xC)=some (zdM "Apart" "NoUse")) (q_Apart_NoWay:PySem.W.kitOne K (.ref y_Apart.xC) (.ref y_NoWay.xC)=some (zdM "Apart" "NoWay")) (q_Apart_TooGreat:PySem.W.kitOne K (.ref y_Apart.xC) (.ref y_TooGreat.xC)=some (zdM "Apart" "TooGreat")) (q_Apart_ValueError:PySem.W.kitOne K (.ref y_Apart.xC) (.type "ValueError")=some (zdM "Apart" "ValueError")) (q_TooGreat_Apart:PySem.W.kitOne K (.ref y_TooGreat.xC) (.ref y_Apart.xC)=some (zdM "TooGreat" "Apart")) (q_TooGreat_NoPlace:PySem.W.kitOne K (.ref y_TooGreat.xC) (.ref y_NoPlace.xC)=some (zdM "TooGreat" "NoPlace")) (q_TooGreat_NoUse:PySem.W.kitOne K (.ref y_TooGreat.xC) (.ref y_NoUse.xC)=some (zdM "TooGreat" "NoUse")) (q_TooGreat_NoWay:PySem.W.kitOne K (.ref y_TooGreat.xC) (.ref y_NoWay.xC)=some (zdM "TooGreat" "NoWay")) (q_TooGreat_TooGreat:PySem.W.kitOne K (.ref y_TooGreat.xC) (.ref y_TooGreat.xC)=some (zdM "TooGreat" "TooGreat")) (q_TooGreat_ValueError:PySem.W.kitOne K (.ref y_TooGreat.xC) (.type "ValueError")=some (zdM "TooGreat" "ValueError")) (v_Apart:XcIn K "Apart" y_Apart.xC) (v_TooGreat:XcIn K "TooGreat" y_TooGreat.xC):Ok P w K mg base f d ["which", "book", "one", "other"] zaW:=zcP rfl fun r ih=>zaS F sc34 rfl rfl fun _ _ _ _ _ _ hr=>(zad (zal (i:=4) sc34.nd rfl (Or.inl rfl) (zaF (zaP zac)))
  (zad (zol (fun _ _=>(zdz (zoE (zeJ hr (jv 0) zae) (zdz (zfm (zex (x23.zg r) hr rfl x23.zm x23.zk x23.zb (zaa (jv 1) (zaa (jv 2) (zaa (jv 3) zac)))))) (zdz (zoE (zeJ hr (jv 0) zae) (zdz (zfm (zex (x25.zg r) hr rfl x25.zm x25.zk x25.zb (zaa (jv 1) (zaa (jv 2) (zaa (jv 3) zac)))))) (zdz (zoE (zeJ hr (jv 0) zae) (zdz (zfm (zex (x26.zg r) hr rfl x26.zm x26.zk x26.zb (zaa (jv 1) (zaa (jv 2) (zaa (jv 3) zac)))))) (zdz (zoE (zeJ hr (jv 0) zae) (zdz (zfm (zex (x28.zg r) hr rfl x28.zm x28.zk x28.zb (zaa (jv 1) (zaa (jv 2) (zaa (jv 3) zac)))))) (zdz (zfm (zex (x29.zg r) hr rfl x29.zm x29.zk x29.zb (zaa (jv 1) (zaa (jv 2) (zaa (jv 3) zac))))))))))))))) (alc ⟨y_TooGreat.xC,v_TooGreat,e_TooGreat_TurnError,fun a oa pn hp hc=>(zad (zal (i:=4) sc34.nd rfl (Or.inl rfl) (zaF (zaP (zaa (zdq hp hc v_TooGreat.xc q_TooGreat_TooGreat rfl n_i (i:=5) rfl (Or.inl rfl) rfl y_TooGreat.xm) (zaa (zdq hp hc v_TooGreat.xc q_TooGreat_Apart rfl n_i (i:=5) rfl (Or.inl rfl) rfl y_Apart.xm) (zaa (zdq hp hc v_TooGreat.xc q_TooGreat_NoUse rfl n_i (i:=5) rfl (Or.inl rfl) rfl y_NoUse.xm) (zaa (zdq hp hc v_TooGreat.xc q_TooGreat_NoWay rfl n_i (i:=5) rfl (Or.inl rfl) rfl y_NoWay.xm) zac)))))))
  (zai (zal (i:=4) sc34.nd rfl (Or.inl rfl) (zaF (zmg (jv 4) (zaP (zaa (zdq hp hc v_TooGreat.xc q_TooGreat_NoPlace rfl n_i (i:=5) rfl (Or.inl rfl) rfl y_NoPlace.xm) (zaa (zlS (zmJ hp hc v_TooGreat.xc q_TooGreat_ValueError rfl n_i (i:=5) rfl (Or.inl rfl) rfl n_ValueError zdc)) zac))))))))⟩ (alc ⟨y_Apart.xC,v_Apart,e_Apart_TurnError,fun a oa pn hp hc=>(zad (zal (i:=4) sc34.nd rfl (Or.inl rfl) (zaF (zaP (zaa (zdq hp hc v_Apart.xc q_Apart_TooGreat rfl n_i (i:=5) rfl (Or.inl rfl) rfl y_TooGreat.xm) (zaa (zdq hp hc v_Apart.xc q_Apart_Apart rfl n_i (i:=5) rfl (Or.inl rfl) rfl y_Apart.xm) (zaa (zdq hp hc v_Apart.xc q_Apart_NoUse rfl n_i (i:=5) rfl (Or.inl rfl) rfl y_NoUse.xm) (zaa (zdq hp hc v_Apart.xc q_Apart_NoWay rfl n_i (i:=5) rfl (Or.inl rfl) rfl y_NoWay.xm) zac)))))))
  (zai (zal (i:=4) sc34.nd rfl (Or.inl rfl) (zaF (zmg (jv 4) (zaP (zaa (zdq hp hc v_Apart.xc q_Apart_NoPlace rfl n_i (i:=5) rfl (Or.inl rfl) rfl y_NoPlace.xm) (zaa (zlS (zmJ hp hc v_Apart.xc q_Apart_ValueError rfl n_i (i:=5) rfl (Or.inl rfl) rfl n_ValueError zdc)) zac))))))))⟩ aln)) rfl y_TurnError.xm sc34.nd rfl rfl)
  (zai (zao (jv 4)))))
theorem o35{f:Addr}{d:FuncData}(F:Fun K "_law_levels" "_law_levels" s35 f d):Ok P w K mg base f d ["cell", "heads"] zaY:=zcP rfl fun r ih=>zaS F zxI rfl rfl fun _ _ _ _ _ _ hr=>(zad (zbA (zeJ hr (zcM (jv 0) zae) zae) (zai (zao (zaF (zaP zac)))) zaU)
  (zai (zao (zaF (zaP (zaa (zcM (zfl (jv 0) zae) (jv 1)) zac))))))
theorem o36{f:Addr}{d:FuncData}(F:Fun K "law" "law" s36 f d) (x31:C31 P w K mg base) (x35:C35 P w K mg base) (x30:C30 P w K mg base) (x33:C33 P w K mg base) (x32:C32 P w K mg base) (x19:C19 P w K mg base) (x34:C34 P w K mg base) (x17:C17 P w K mg base) (n_n:mg "int" =none) (n_r:mg "range" =none):Ok P w K mg base f d ["script"] zcu:=zcP rfl fun r ih=>by
  refine zaS F sc36 rfl rfl fun _ _ _ _ _ _ hr=>?_;delta zcc zcd zcf zcg zce zca zcb zcF zcz zcL zcH zcD zcI zcK zcJ zcA;exact(zad (zal (i:=1) sc36.nd rfl (Or.inr rfl) (zaf (x31.zg r) hr rfl x31.zm x31.zk x31.zb (zaa (zaf (x30.zg r) hr rfl x30.zm x30.zk x30.zb (zaa (jv 0) (zaa zae zac))) (zaa (zaf (x30.zg r) hr rfl x30.zm x30.zk x30.zb (zaa (jv 0) (zaa zae zac))) (zaa zbH zac)))))
  (zad (zal (i:=2) sc36.nd rfl (Or.inl rfl) (zaF (zaP (zaa (zbv (zaa zeh (zaa (zbv (zaa (zav (jv 1) zae) (zaa zae zac))) (zaa (zbv (zaa (zav (jv 1) zae) (zaa zae (zaa zae zac)))) zac)))) zac))))
  (zad (zal (i:=3) sc36.nd rfl (Or.inr rfl) (zbY zae (zcM (zfl (zaf (x30.zg r) hr rfl x30.zm x30.zk x30.zb (zaa (jv 0) (zaa zae zac))) zae) zae)))
  (zad (zal (i:=4) sc36.nd rfl (Or.inr rfl) (zcM (zaf (x30.zg r) hr rfl x30.zm x30.zk x30.zb (zaa (jv 0) (zaa zae zac))) (ztc (zaP (zaa zae (zaa zae (zaa zae zac)))) (zcM (zaf (x30.zg r) hr rfl x30.zm x30.zk x30.zb (zaa (jv 0) (zaa zae zac))) zae))))
  (zad (zal (i:=5) sc36.nd rfl (Or.inl rfl) (zaf (x35.zg r) hr rfl x35.zm x35.zk x35.zb (zaa (zaf (x30.zg r) hr rfl x30.zm x30.zk x30.zb (zaa (jv 0) (zaa zae zac))) (zaa (jv 3) zac))))
  (zad (zal (i:=6) sc36.nd rfl (Or.inl rfl) (zaf (x35.zg r) hr rfl x35.zm x35.zk x35.zb (zaa (zaf (x30.zg r) hr rfl x30.zm x30.zk x30.zb (zaa (jv 0) (zaa zae zac))) (zaa (jv 3) zac))))
  (zad (zal (i:=7) sc36.nd rfl (Or.inr rfl) (znt rfl n_n (zaa (zmh hr (zcM (zaf (x30.zg r) hr rfl x30.zm x30.zk x30.zb (zaa (jv 0) (zaa zae zac))) zae) zae) zac)))
  (zad (zal (i:=8) sc36.nd rfl (Or.inl rfl) (zbv (zaa (zaf (x33.zg r) hr rfl x33.zm x33.zk x33.zb (zaa (jv 3) (zaa (jv 4) (zaa (zde zae) (zaa (jv 1) zac))))) (zaa (zaF (zcT (N:=["k", "heads", "flat", "w"]) (k:=1) (fr:=[3,4,1]) ⟨rfl,by decide +kernel,rfl,rfl,rfl,rfl,rfl,rfl,rfl⟩ (zck (jv 5)) (fun _ _ _ _=>(zaw (i:=0) (show List.Nodup [("k" :Str),("heads" :Str),("flat" :Str),("w" :Str)] from by decide +kernel) rfl (Or.inl rfl))) (fun _ _ _ _=>zbU) (fun _ _ _ _=>(zaf (x33.zg r) hr rfl x33.zm x33.zk x33.zb (zaa (jv 1) (zaa (jv 2) (zaa (jv 0) (zaa (jv 3) zac)))))))) zac))))
  (zad (zal (i:=9) sc36.nd rfl (Or.inl rfl) (zbv (zaa (zaf (x33.zg r) hr rfl x33.zm x33.zk x33.zb (zaa (jv 3) (zaa (zbY (jv 4) (jv 7)) (zaa (zde zae) (zaa (jv 1) zac))))) (zaa (zaF (zcT (N:=["k", "heads", "w", "flat", "more"]) (k:=1) (fr:=[3,1,4,7]) ⟨rfl,by decide +kernel,rfl,rfl,rfl,rfl,rfl,rfl,rfl⟩ (zck (jv 6)) (fun _ _ _ _=>(zaw (i:=0) (show List.Nodup [("k" :Str),("heads" :Str),("w" :Str),("flat" :Str),("more" :Str)] from by decide +kernel) rfl (Or.inl rfl))) (fun _ _ _ _=>zbU) (fun _ _ _ _=>(zaf (x33.zg r) hr rfl x33.zm x33.zk x33.zb (zaa (jv 1) (zaa (zbY (jv 3) (jv 4)) (zaa (jv 0) (zaa (jv 2) zac)))))))) zac))))
  (zad (zal (i:=10) sc36.nd rfl (Or.inl rfl) (zwp (zaf (x32.zg r) hr rfl x32.zm x32.zk x32.zb (zaa (jv 3) (zaa (jv 4) (zaa (zbY (jv 5) (jv 6)) zac)))) zae))
  (zad (zal (i:=11) sc36.nd rfl (Or.inl rfl) (zaF (zaP zac)))
  (zad (zbA (zeJ hr (jv 7) zae) (zai (zal (i:=11) sc36.nd rfl (Or.inl rfl) (zaF (zaP (zaa zbH (zaa zbH (zaa zbH (zaa zbH (zaa zbH (zaa zbH zac)))))))))) (zai (zbA (zcN (jv 10)) (zai (zal (i:=11) sc36.nd rfl (Or.inl rfl) (zaF (zaP (zaa zbH (zaa zbH (zaa zbH (zaa zbH (zaa zbH (zaa zbH zac)))))))))) zaU)))
  (zad (zcO (zeO rfl n_r (zaa zae zac)) (zaw (i:=12) sc36.nd rfl (Or.inl rfl)) (zai (zbA (zow hr (zaf (x34.zg r) hr rfl x34.zm x34.zk x34.zb (zaa (jv 12) (zaa (jv 2) (zaa (jv 8) (zaa (jv 9) zac))))) (jv 11)) (zai (zao zbH)) zaU)))
  (zad (zbA (JW.jt (zqY (zeJ hr (jv 7) zae) (zqY (zeJ hr (jv 5) (zaF (zaP zac))) (zpO (zeJ hr (jv 6) (zaF (zaP zac))))))) (zai (zao (ziH (zuV (zaf (x19.zg r) hr rfl x19.zm x19.zk x19.zb (zaa (jv 2) (zaa (jv 8) zac))) zbH) (zhH (zuV (zaf (x19.zg r) hr rfl x19.zm x19.zk x19.zb (zaa (jv 2) (zaa (jv 9) zac))) zbH))))) zaU)
  (zad (zal (i:=13) sc36.nd rfl (Or.inl rfl) (zbv (zaa (zav (jv 8) zae) (zaa (zaF (zaP (zaa (zav (zav (jv 8) zae) zae) (zaa (zaf (x17.zg r) hr rfl x17.zm x17.zk x17.zb (zaa (jv 2) (zaa (zav (zav (jv 9) zae) zae) (zaa (zav (zav (jv 8) zae) zae) zac)))) zac)))) zac))))
  (zai (zao (zmh hr (zaf (x19.zg r) hr rfl x19.zm x19.zk x19.zb (zaa (jv 2) (zaa (jv 13) zac))) (zlS (jv 10))))))))))))))))))))
end
theorem all_mk{l:PySem.W.OpenLaw}{w:World}{K:PySem.W.Frag}{h:Heap}{mg:Str→Option Value}{fa:Addr}(X:K.In h) (G:h.Ns mainGlobals mg) (hfa:mg "law" =some (.ref fa))
  (D0:Dfn K "parts_of" s0)
  (D1:Dfn K "parts_of_all" s1)
  (D2:Dfn K "is_small" s2)
  (D3:Dfn K "filled" s3)
  (D6:Dfn K "matched" s6)
  (D5:Dfn K "gather_matched" s5)
  (D4:Dfn K "have_one_top" s4)
  (D8:Dfn K "is_sign" s8)
  (D7:Dfn K "are_small_letters" s7)
  (D9:Dfn K "turning_of" s9)
  (D10:Dfn K "is_quiet" s10)
  (D13:Dfn K "source" s13)
  (D14:Dfn K "goal" s14)
  (D11:Dfn K "only_small" s11)
  (D12:Dfn K "with_sides" s12)
  (D17:Dfn K "behind" s17)
  (D15:Dfn K "one_source" s15)
  (D16:Dfn K "moved" s16)
  (D19:Dfn K "is_road" s19)
  (D18:Dfn K "leads_on" s18)
  (D20:Dfn K "end" s20)
  (D23:Dfn K "grid" s23)
  (D22:Dfn K "moved_along" s22)
  (D21:Dfn K "check_goals" s21)
  (D25:Dfn K "road_behind" s25)
  (D26:Dfn K "road_joined" s26)
  (D28:Dfn K "within" s28)
  (D29:Dfn K "alike" s29)
  (D24:Dfn K "last_downs" s24)
  (D27:Dfn K "are_quiet" s27)
  (D30:Dfn K "_law_cell" s30)
  (D31:Dfn K "_law_words" s31)
  (D32:Dfn K "_law_weight" s32)
  (D33:Dfn K "_law_chain" s33)
  (D34:Dfn K "_law_told" s34)
  (D35:Dfn K "_law_levels" s35)
  (D36:Dfn K "law" s36)
  (z_ValueError:PySem.W.nsIn K mainGlobals "ValueError" =some none)
  (z_a:PySem.W.nsIn K mainGlobals "all" =some none)
  (z_n:PySem.W.nsIn K mainGlobals "int" =some none)
  (z_i:PySem.W.nsIn K mainGlobals "isinstance" =some none)
  (z_l:PySem.W.nsIn K mainGlobals "len" =some none)
  (z_s:PySem.W.nsIn K mainGlobals "list" =some none)
  (z_r:PySem.W.nsIn K mainGlobals "range" =some none)
  (z_t:PySem.W.nsIn K mainGlobals "tuple" =some none)
  (z_z:PySem.W.nsIn K mainGlobals "zip" =some none)
  {t_MOST_HEAVY:Tok}(z_MOST_HEAVY:PySem.W.nsIn K mainGlobals "MOST_HEAVY" =some (some (.int 400 t_MOST_HEAVY)))
  {t_MOST_DEEP:Tok}(z_MOST_DEEP:PySem.W.nsIn K mainGlobals "MOST_DEEP" =some (some (.int 40 t_MOST_DEEP)))
  {t_MOST_LETTERS:Tok}(z_MOST_LETTERS:PySem.W.nsIn K mainGlobals "MOST_LETTERS" =some (some (.int 8 t_MOST_LETTERS)))
  {t_LEFT:Tok}(z_LEFT:PySem.W.nsIn K mainGlobals "LEFT" =some (some (.int 1 t_LEFT)))
  {t_RIGHT:Tok}(z_RIGHT:PySem.W.nsIn K mainGlobals "RIGHT" =some (some (.int 2 t_RIGHT)))
  {C_Apart:Addr}(z_Apart:PySem.W.nsIn K mainGlobals "Apart" =some (some (.ref C_Apart)))
  {C_NoPlace:Addr}(z_NoPlace:PySem.W.nsIn K mainGlobals "NoPlace" =some (some (.ref C_NoPlace)))
  {C_NoUse:Addr}(z_NoUse:PySem.W.nsIn K mainGlobals "NoUse" =some (some (.ref C_NoUse)))
  {C_NoWay:Addr}(z_NoWay:PySem.W.nsIn K mainGlobals "NoWay" =some (some (.ref C_NoWay)))
  {C_TooGreat:Addr}(z_TooGreat:PySem.W.nsIn K mainGlobals "TooGreat" =some (some (.ref C_TooGreat)))
  {C_TurnError:Addr}(z_TurnError:PySem.W.nsIn K mainGlobals "TurnError" =some (some (.ref C_TurnError)))
  (ze_Apart_TurnError:PySem.W.exmOne K (.ref C_Apart) (.ref C_TurnError)=some true)
  (ze_TooGreat_TooGreat:PySem.W.exmOne K (.ref C_TooGreat) (.ref C_TooGreat)=some true)
  (ze_TooGreat_TurnError:PySem.W.exmOne K (.ref C_TooGreat) (.ref C_TurnError)=some true)
  (zq_Apart_Apart:PySem.W.kitOne K (.ref C_Apart) (.ref C_Apart)=some (true))
  (zq_Apart_NoPlace:PySem.W.kitOne K (.ref C_Apart) (.ref C_NoPlace)=some (false))
  (zq_Apart_NoUse:PySem.W.kitOne K (.ref C_Apart) (.ref C_NoUse)=some (false))
  (zq_Apart_NoWay:PySem.W.kitOne K (.ref C_Apart) (.ref C_NoWay)=some (false))
  (zq_Apart_TooGreat:PySem.W.kitOne K (.ref C_Apart) (.ref C_TooGreat)=some (false))
  (zq_Apart_ValueError:PySem.W.kitOne K (.ref C_Apart) (.type "ValueError")=some (true))
  (zq_TooGreat_Apart:PySem.W.kitOne K (.ref C_TooGreat) (.ref C_Apart)=some (false))
  (zq_TooGreat_NoPlace:PySem.W.kitOne K (.ref C_TooGreat) (.ref C_NoPlace)=some (false))
  (zq_TooGreat_NoUse:PySem.W.kitOne K (.ref C_TooGreat) (.ref C_NoUse)=some (false))
  (zq_TooGreat_NoWay:PySem.W.kitOne K (.ref C_TooGreat) (.ref C_NoWay)=some (false))
  (zq_TooGreat_TooGreat:PySem.W.kitOne K (.ref C_TooGreat) (.ref C_TooGreat)=some (true))
  (zq_TooGreat_ValueError:PySem.W.kitOne K (.ref C_TooGreat) (.type "ValueError")=some (true))
  (za_Apart:PySem.W.excIn K C_Apart bmV "ValueError.__new__" =true) (zb_Apart:PySem.W.findIn K (.ref C_Apart) "__getattribute__" =some (some (.builtin "BaseException.__getattribute__"))) (zc_Apart:PySem.W.findIn K (.ref C_Apart) "__getattr__" =some none) (zd_Apart:PySem.W.findIn K (.ref C_Apart) "__class__" =some (some (.builtin "object.__class__"))) (ze_Apart:PySem.W.mroIn K C_Apart (.type "object")=some true) (zf_Apart:PySem.W.mroIn K C_Apart (.type "BaseException")=some true)
  (za_TooGreat:PySem.W.excIn K C_TooGreat bmV "ValueError.__new__" =true) (zb_TooGreat:PySem.W.findIn K (.ref C_TooGreat) "__getattribute__" =some (some (.builtin "BaseException.__getattribute__"))) (zc_TooGreat:PySem.W.findIn K (.ref C_TooGreat) "__getattr__" =some none) (zd_TooGreat:PySem.W.findIn K (.ref C_TooGreat) "__class__" =some (some (.builtin "object.__class__"))) (ze_TooGreat:PySem.W.mroIn K C_TooGreat (.type "object")=some true) (zf_TooGreat:PySem.W.mroIn K C_TooGreat (.type "BaseException")=some true)
  :∃fd:FuncData,(∀(s:Shared) (v:Value),BindsTo s fd ⟨[v],[]⟩ [("script",v)])∧ ∀base:Heap,K.In base→base.Ns mainGlobals mg→FnOk l.prog w K mg base (CX1 l.prog w) 200 fa fd ["script"] (zbI K (zcu 200)):=by
 obtain⟨f36,d36,a36,F36⟩:=D36;have e:=hfa.symm.trans (PySem.W.mg_of X G a36);cases e;have n_ValueError:=PySem.W.mg_none_of X G z_ValueError;have n_a:=PySem.W.mg_none_of X G z_a;have n_n:=PySem.W.mg_none_of X G z_n;have n_i:=PySem.W.mg_none_of X G z_i;have n_l:=PySem.W.mg_none_of X G z_l;have n_s:=PySem.W.mg_none_of X G z_s;have n_r:=PySem.W.mg_none_of X G z_r;have n_t:=PySem.W.mg_none_of X G z_t;have n_z:=PySem.W.mg_none_of X G z_z;have g_MOST_HEAVY:=PySem.W.mg_of X G z_MOST_HEAVY;have g_MOST_DEEP:=PySem.W.mg_of X G z_MOST_DEEP;have g_MOST_LETTERS:=PySem.W.mg_of X G z_MOST_LETTERS;have g_LEFT:=PySem.W.mg_of X G z_LEFT;have g_RIGHT:=PySem.W.mg_of X G z_RIGHT;refine⟨d36,fun s v=>?_,fun base _ _=>?_⟩
 ·obtain⟨oc,od,kV,doc,pm,an,cdv,ct,osl,rfl,lk,hcd⟩:=F36.ex;exact .of_eq rfl
 obtain⟨f,d,a,F⟩:=D0;have x0:=mkC (base:=base) X G F a (o0 (P:=l.prog) (w:=w) F n_i n_n) (F.binds fun _ _ _ _ _ _=>n1 fun _=>rfl);obtain⟨f,d,a,F⟩:=D1;have x1:=mkC (base:=base) X G F a (o1 (P:=l.prog) (w:=w) F x0) (F.binds fun _ _ _ _ _ _=>n1 fun _=>rfl);obtain⟨f,d,a,F⟩:=D2;have x2:=mkC (base:=base) X G F a (o2 (P:=l.prog) (w:=w) F x1 n_l g_MOST_HEAVY g_MOST_DEEP) (F.binds fun _ _ _ _ _ _=>n1 fun _=>rfl);obtain⟨f,d,a,F⟩:=D3;have x3:=mkC (base:=base) X G F a (o3 (P:=l.prog) (w:=w) F (F.binds fun _ _ _ _ _ _=>n2 fun _ _=>rfl) (PySem.W.mg_of X G a) n_i n_n n_t) (F.binds fun _ _ _ _ _ _=>n2 fun _ _=>rfl);obtain⟨f,d,a,F⟩:=D4;have x4:=mkC (base:=base) X G F a (o4 (P:=l.prog) (w:=w) F n_l) (F.binds fun _ _ _ _ _ _=>n2 fun _ _=>rfl);obtain⟨f,d,a,F⟩:=D5;have x5:=mkC (base:=base) X G F a (o5 (P:=l.prog) (w:=w) F x4 (F.binds fun _ _ _ _ _ _=>n3 fun _ _ _=>rfl) (PySem.W.mg_of X G a) n_i n_n n_z) (F.binds fun _ _ _ _ _ _=>n3 fun _ _ _=>rfl);obtain⟨f,d,a,F⟩:=D6;have x6:=mkC (base:=base) X G F a (o6 (P:=l.prog) (w:=w) F x5) (F.binds fun _ _ _ _ _ _=>n2 fun _ _=>rfl);obtain⟨f,d,a,F⟩:=D7;have x7:=mkC (base:=base) X G F a (o7 (P:=l.prog) (w:=w) F n_a) (F.binds fun _ _ _ _ _ _=>n1 fun _=>rfl);obtain⟨f,d,a,F⟩:=D8;have x8:=mkC (base:=base) X G F a (o8 (P:=l.prog) (w:=w) F x7 n_l g_MOST_LETTERS) (F.binds fun _ _ _ _ _ _=>n1 fun _=>rfl);obtain⟨f,d,a,F⟩:=D9;have x9:=mkC (base:=base) X G F a (o9 (P:=l.prog) (w:=w) F) (F.binds fun _ _ _ _ _ _=>n2 fun _ _=>rfl);obtain⟨f,d,a,F⟩:=D10;have x10:=mkC (base:=base) X G F a (o10 (P:=l.prog) (w:=w) F x8 (F.binds fun _ _ _ _ _ _=>n1 fun _=>rfl) (PySem.W.mg_of X G a) n_a) (F.binds fun _ _ _ _ _ _=>n1 fun _=>rfl);obtain⟨f,d,a,F⟩:=D11;have x11:=mkC (base:=base) X G F a (o11 (P:=l.prog) (w:=w) F x2 ⟨C_TooGreat,PySem.W.mg_of X G z_TooGreat⟩ ⟨z_TooGreat,za_TooGreat,⟨zb_TooGreat,zc_TooGreat,zd_TooGreat,ze_TooGreat,zf_TooGreat⟩⟩) (F.binds fun _ _ _ _ _ _=>n1 fun _=>rfl);obtain⟨f,d,a,F⟩:=D12;have x12:=mkC (base:=base) X G F a (o12 (P:=l.prog) (w:=w) F x9 x3 (F.binds fun _ _ _ _ _ _=>n3 fun _ _ _=>rfl) (PySem.W.mg_of X G a) n_t) (F.binds fun _ _ _ _ _ _=>n3 fun _ _ _=>rfl);obtain⟨f,d,a,F⟩:=D13;have x13:=mkC (base:=base) X G F a (o13 (P:=l.prog) (w:=w) F x11 x12 g_LEFT) (F.binds fun _ _ _ _ _ _=>n2 fun _ _=>rfl);obtain⟨f,d,a,F⟩:=D14;have x14:=mkC (base:=base) X G F a (o14 (P:=l.prog) (w:=w) F x11 x12 g_RIGHT) (F.binds fun _ _ _ _ _ _=>n2 fun _ _=>rfl);obtain⟨f,d,a,F⟩:=D15;have x15:=mkC (base:=base) X G F a (o15 (P:=l.prog) (w:=w) F x13 ⟨C_Apart,PySem.W.mg_of X G z_Apart⟩ ⟨z_Apart,za_Apart,⟨zb_Apart,zc_Apart,zd_Apart,ze_Apart,zf_Apart⟩⟩) (F.binds fun _ _ _ _ _ _=>n3 fun _ _ _=>rfl);obtain⟨f,d,a,F⟩:=D16;have x16:=mkC (base:=base) X G F a (o16 (P:=l.prog) (w:=w) F x9 x3 x6 (F.binds fun _ _ _ _ _ _=>n3 fun _ _ _=>rfl) (PySem.W.mg_of X G a) n_z n_t g_RIGHT g_LEFT) (F.binds fun _ _ _ _ _ _=>n3 fun _ _ _=>rfl);obtain⟨f,d,a,F⟩:=D17;have x17:=mkC (base:=base) X G F a (o17 (P:=l.prog) (w:=w) F x15 x14 x16) (F.binds fun _ _ _ _ _ _=>n3 fun _ _ _=>rfl);obtain⟨f,d,a,F⟩:=D18;have x18:=mkC (base:=base) X G F a (o18 (P:=l.prog) (w:=w) F x11 x14 x13) (F.binds fun _ _ _ _ _ _=>n2 fun _ _=>rfl);obtain⟨f,d,a,F⟩:=D19;have x19:=mkC (base:=base) X G F a (o19 (P:=l.prog) (w:=w) F x18 ⟨C_TooGreat,PySem.W.mg_of X G z_TooGreat⟩ ze_TooGreat_TooGreat ⟨z_TooGreat,za_TooGreat,⟨zb_TooGreat,zc_TooGreat,zd_TooGreat,ze_TooGreat,zf_TooGreat⟩⟩) (F.binds fun _ _ _ _ _ _=>n2 fun _ _=>rfl);obtain⟨f,d,a,F⟩:=D20;have x20:=mkC (base:=base) X G F a (o20 (P:=l.prog) (w:=w) F x14) (F.binds fun _ _ _ _ _ _=>n2 fun _ _=>rfl);obtain⟨f,d,a,F⟩:=D21;have x21:=mkC (base:=base) X G F a (o21 (P:=l.prog) (w:=w) F x14) (F.binds fun _ _ _ _ _ _=>n2 fun _ _=>rfl);obtain⟨f,d,a,F⟩:=D22;have x22:=mkC (base:=base) X G F a (o22 (P:=l.prog) (w:=w) F x16 x21) (F.binds fun _ _ _ _ _ _=>n3 fun _ _ _=>rfl);obtain⟨f,d,a,F⟩:=D23;have x23:=mkC (base:=base) X G F a (o23 (P:=l.prog) (w:=w) F x11 x21 x22 x16 n_s n_z ⟨C_Apart,PySem.W.mg_of X G z_Apart⟩ ⟨z_Apart,za_Apart,⟨zb_Apart,zc_Apart,zd_Apart,ze_Apart,zf_Apart⟩⟩) (F.binds fun _ _ _ _ _ _=>n3 fun _ _ _=>rfl);obtain⟨f,d,a,F⟩:=D24;have x24:=mkC (base:=base) X G F a (o24 (P:=l.prog) (w:=w) F) (F.binds fun _ _ _ _ _ _=>n1 fun _=>rfl);obtain⟨f,d,a,F⟩:=D25;have x25:=mkC (base:=base) X G F a (o25 (P:=l.prog) (w:=w) F x24 x23 x20) (F.binds fun _ _ _ _ _ _=>n3 fun _ _ _=>rfl);obtain⟨f,d,a,F⟩:=D26;have x26:=mkC (base:=base) X G F a (o26 (P:=l.prog) (w:=w) F x23) (F.binds fun _ _ _ _ _ _=>n3 fun _ _ _=>rfl);obtain⟨f,d,a,F⟩:=D27;have x27:=mkC (base:=base) X G F a (o27 (P:=l.prog) (w:=w) F x10 n_a) (F.binds fun _ _ _ _ _ _=>n1 fun _=>rfl);obtain⟨f,d,a,F⟩:=D28;have x28:=mkC (base:=base) X G F a (o28 (P:=l.prog) (w:=w) F x27 x24 x23) (F.binds fun _ _ _ _ _ _=>n3 fun _ _ _=>rfl);obtain⟨f,d,a,F⟩:=D29;have x29:=mkC (base:=base) X G F a (o29 (P:=l.prog) (w:=w) F x23 x27 x24) (F.binds fun _ _ _ _ _ _=>n3 fun _ _ _=>rfl);obtain⟨f,d,a,F⟩:=D30;have x30:=mkC (base:=base) X G F a (o30 (P:=l.prog) (w:=w) F n_l) (F.binds fun _ _ _ _ _ _=>n2 fun _ _=>rfl);obtain⟨f,d,a,F⟩:=D31;have x31:=mkC (base:=base) X G F a (o31 (P:=l.prog) (w:=w) F n_r n_l n_n) (F.binds fun _ _ _ _ _ _=>n3 fun _ _ _=>rfl);obtain⟨f,d,a,F⟩:=D32;have x32:=mkC (base:=base) X G F a (o32 (P:=l.prog) (w:=w) F n_r) (F.binds fun _ _ _ _ _ _=>n3 fun _ _ _=>rfl);obtain⟨f,d,a,F⟩:=D33;have x33:=mkC (base:=base) X G F a (o33 (P:=l.prog) (w:=w) F n_r) (F.binds fun _ _ _ _ _ _=>n4 fun _ _ _ _=>rfl);obtain⟨f,d,a,F⟩:=D34;have x34:=mkC (base:=base) X G F a (o34 (P:=l.prog) (w:=w) F x23 x25 x26 x28 x29 n_i n_ValueError ⟨C_Apart,PySem.W.mg_of X G z_Apart⟩ ⟨C_NoPlace,PySem.W.mg_of X G z_NoPlace⟩ ⟨C_NoUse,PySem.W.mg_of X G z_NoUse⟩ ⟨C_NoWay,PySem.W.mg_of X G z_NoWay⟩ ⟨C_TooGreat,PySem.W.mg_of X G z_TooGreat⟩ ⟨C_TurnError,PySem.W.mg_of X G z_TurnError⟩ ze_Apart_TurnError ze_TooGreat_TurnError (zq_Apart_Apart.trans (congrArg some (by decide))) (zq_Apart_NoPlace.trans (congrArg some (by decide))) (zq_Apart_NoUse.trans (congrArg some (by decide))) (zq_Apart_NoWay.trans (congrArg some (by decide))) (zq_Apart_TooGreat.trans (congrArg some (by decide))) (zq_Apart_ValueError.trans (congrArg some (by decide))) (zq_TooGreat_Apart.trans (congrArg some (by decide))) (zq_TooGreat_NoPlace.trans (congrArg some (by decide))) (zq_TooGreat_NoUse.trans (congrArg some (by decide))) (zq_TooGreat_NoWay.trans (congrArg some (by decide))) (zq_TooGreat_TooGreat.trans (congrArg some (by decide))) (zq_TooGreat_ValueError.trans (congrArg some (by decide))) ⟨z_Apart,za_Apart,⟨zb_Apart,zc_Apart,zd_Apart,ze_Apart,zf_Apart⟩⟩ ⟨z_TooGreat,za_TooGreat,⟨zb_TooGreat,zc_TooGreat,zd_TooGreat,ze_TooGreat,zf_TooGreat⟩⟩) (F.binds fun _ _ _ _ _ _=>n4 fun _ _ _ _=>rfl);obtain⟨f,d,a,F⟩:=D35;have x35:=mkC (base:=base) X G F a (o35 (P:=l.prog) (w:=w) F) (F.binds fun _ _ _ _ _ _=>n2 fun _ _=>rfl);exact o36 F36 x31 x35 x30 x33 x32 x19 x34 x17 n_n n_r 200
theorem walk{l:PySem.W.OpenLaw}{q:Program}{loose:List Str}{XP:(Str→Option Value)→Heap→Prop}{YP:World→Heap→Prop}{d:DefRec}{K:Params→PySem.W.Frag}(hn:l.most=some 63) (hdf:d.params.defaults=[])
  (hY:∀(w:World) (h:Heap),YP w h→(K w.params).In h)
  (F:∀(w:World) (mg:Str→Option Value) (fa:Addr) (h:Heap),(K w.params).In h→h.Ns mainGlobals mg→mg d.name=some (.ref fa)→
   ∃fd:FuncData,(∀(s:Shared) (u:Value),BindsTo s fd ⟨[u],[]⟩ [("script",u)])∧ ∀base:Heap,(K w.params).In base→base.Ns mainGlobals mg→FnOk l.prog w (K w.params) mg base (CX1 l.prog w) 200 fa fd ["script"] (zbI (K w.params) (zcu 200))) :
  PySem.W.WalkO q loose XP YP l.row.toRowW d [] (fun f vs=>PySem.call f vs):=
 L2.zrB (n:=63) (k:=200) (x:= "script") (CX:=fun w=>CX1 l.prog w) (sp:=fun w=>zbI (K w.params) (zcu 200)) hn (by decide) hdf ⟨rfl,by decide,by decide⟩ hY F (fun w H a ns hl hO hS=>zoX hO hS (zuH ns hl)) fun _ _ _ _ _ ⟨_,_,_,_,_,_,_,_,_,z⟩=>z
end K34
noncomputable def PySem.W.Fast.tw12735703582842063322:Nat:=0
noncomputable def PySem.W.Fast.tw12336378741791132300:Nat:=0
noncomputable def PySem.W.Fast.tw14282402102845374235:Nat:=0
noncomputable def PySem.W.Fast.tw11139518562148530556:Nat:=0
noncomputable def PySem.W.Fast.tw2707933000791436580:Nat:=0
noncomputable def PySem.W.Fast.tw11238369242321507906:Nat:=0
noncomputable def PySem.W.Fast.tw8665801247197560609:Nat:=0
noncomputable def PySem.W.Fast.tw6764595289508164425:Nat:=0
noncomputable def PySem.W.Fast.tw4349791992566286951:Nat:=0
noncomputable def PySem.W.Fast.tw6074521499647012273:Nat:=0
noncomputable def PySem.W.Fast.tw1819271921023909678:Nat:=0
noncomputable def PySem.W.Fast.tw13444049145831506285:Nat:=0
noncomputable def PySem.W.Fast.tw15618243079785980528:Nat:=0
noncomputable def PySem.W.Fast.tw9340454345298641621:Nat:=0
noncomputable def PySem.W.Fast.tw17990395663583982040:Nat:=0
noncomputable def PySem.W.Fast.tw8573894189058773525:Nat:=0
noncomputable def PySem.W.Fast.tw18384131672430912409:Nat:=0
noncomputable def PySem.W.Fast.tw3021292490197228529:Nat:=0
noncomputable def PySem.W.Fast.tw13072466606706669384:Nat:=0
noncomputable def PySem.W.Fast.tw15703165323433612736:Nat:=0
noncomputable def PySem.W.Fast.tw7908035153302832570:Nat:=0
noncomputable def PySem.W.Fast.tw17180561610223083988:Nat:=0
noncomputable def PySem.W.Fast.tw13853620369348421930:Nat:=0
noncomputable def PySem.W.Fast.tw13119129187147553532:Nat:=0
noncomputable def PySem.W.Fast.tw2602172084029831118:Nat:=0
noncomputable def PySem.W.Fast.tw9572510435834146196:Nat:=0
noncomputable def PySem.W.Fast.tw864466212935999801:Nat:=0
noncomputable def PySem.W.Fast.tw1595371775933836962:Nat:=0
noncomputable def PySem.W.Fast.tw7258112623769941564:Nat:=0
noncomputable def PySem.W.Fast.tw16342669507583160587:Nat:=0
noncomputable def PySem.W.Fast.tw2964600656597679559:Nat:=0
noncomputable def PySem.W.Fast.tw3441616877601481107:Nat:=0
noncomputable def PySem.W.Fast.tw319947138678329852:Nat:=0
noncomputable def PySem.W.Fast.tw3703567035784848879:Nat:=0
noncomputable def PySem.W.Fast.tw17620357001356949784:Nat:=0
noncomputable def PySem.W.Fast.tw7385520970027640122:Nat:=0
noncomputable def PySem.W.Fast.tw15261594873831155083:Nat:=0
noncomputable def PySem.W.Fast.tw11009876171641193969:Nat:=0
noncomputable def PySem.W.Fast.tw10769762689857838653:Nat:=0
noncomputable def PySem.W.Fast.tw8467530212697850934:Nat:=0
noncomputable def PySem.W.Fast.tw7930920342985268557:Nat:=0
noncomputable def PySem.W.Fast.tw16484019254463750391:Nat:=0
noncomputable def PySem.W.Fast.tw3287345842690263277:Nat:=0
noncomputable def PySem.W.Fast.tw8728677089928721455:Nat:=0
noncomputable def PySem.W.Fast.tw8772425264905587344:Nat:=0
noncomputable def PySem.W.Fast.tw17309554191686536357:Nat:=0
noncomputable def PySem.W.Fast.tw6399451065623662102:Nat:=0
noncomputable def PySem.W.Fast.tw5606793727934981351:Nat:=0
noncomputable def PySem.W.Fast.tw14629387051035973372:Nat:=0
noncomputable def PySem.W.Fast.tw3550884906213850442:Nat:=0
noncomputable def PySem.W.Fast.tw10664990228566924091:Nat:=0
noncomputable def PySem.W.Fast.tw6775736166241683735:Nat:=0
noncomputable def PySem.W.Fast.tw17845879024992714685:Nat:=0
noncomputable def PySem.W.Fast.tw12723940154833980065:Nat:=0
noncomputable def PySem.W.Fast.tw132197565309458504:Nat:=0
noncomputable def PySem.W.Fast.tw6782289242710512937:Nat:=0
noncomputable def PySem.W.Fast.tw7655689652675388974:Nat:=0
noncomputable def PySem.W.Fast.tw5086977438396684806:Nat:=0
noncomputable def PySem.W.Fast.tw9315499105976253762:Nat:=0
noncomputable def PySem.W.Fast.tw17596599945553623093:Nat:=0
noncomputable def PySem.W.Fast.tw1834612939020560071:Nat:=0
noncomputable def PySem.W.Fast.tw6020472599130643993:Nat:=0
noncomputable def PySem.W.Fast.tw17243832240870284502:Nat:=0
noncomputable def PySem.W.Fast.tw3306772242333672615:Nat:=0
noncomputable def PySem.W.Fast.tw16313436657907690465:Nat:=0
noncomputable def PySem.W.Fast.tw7159817811649698429:Nat:=0
noncomputable def PySem.W.Fast.tw17764414120309795952:Nat:=0
noncomputable def PySem.W.Fast.tw10677867899894771105:Nat:=0
noncomputable def PySem.W.Fast.tw4704203210847836882:Nat:=0
noncomputable def PySem.W.Fast.tw18208742813894438632:Nat:=0
noncomputable def PySem.W.Fast.tw5879334639423924562:Nat:=0
noncomputable def PySem.W.Fast.tw6044876538105007699:Nat:=0
noncomputable def PySem.W.Fast.tw13429585599819961192:Nat:=0
noncomputable def PySem.W.Fast.tw18412930036342246390:Nat:=0
noncomputable def PySem.W.Fast.tw3198072716790771094:Nat:=0
noncomputable def PySem.W.Fast.tw4792934216120762844:Nat:=0
noncomputable def PySem.W.Fast.tw10175904474166122137:Nat:=0
noncomputable def PySem.W.Fast.tw8083326242343685994:Nat:=0
noncomputable def PySem.W.Fast.tw18433081770199889689:Nat:=0
noncomputable def PySem.W.Fast.tw2094593995004355304:Nat:=0
noncomputable def PySem.W.Fast.tw18420778810660369645:Nat:=0
noncomputable def PySem.W.Fast.tw11658132013767622237:Nat:=0
noncomputable def PySem.W.Fast.tw7037562562598360060:Nat:=0
noncomputable def PySem.W.Fast.tw14790488185161717669:Nat:=0
noncomputable def PySem.W.Fast.tw14203305726266388710:Nat:=0
noncomputable def PySem.W.Fast.tw13621299090215157337:Nat:=0
noncomputable def PySem.W.Fast.tw2334592847066388288:Nat:=0
noncomputable def PySem.W.Fast.tw13608177550217853103:Nat:=0
noncomputable def PySem.W.Fast.tw3965396693073062350:Nat:=0
noncomputable def PySem.W.Fast.tw10144273111124921480:Nat:=0
noncomputable def PySem.W.Fast.tw1557373171166091704:Nat:=0
noncomputable def PySem.W.Fast.tw2276641288660972673:Nat:=0
noncomputable def PySem.W.Fast.tw13362914791078873466:Nat:=0
noncomputable def PySem.W.Fast.tw3473059236714880118:Nat:=0
noncomputable def PySem.W.Fast.tw16331291642804117861:Nat:=0
noncomputable def PySem.W.Fast.tw5262398700893876509:Nat:=0
noncomputable def PySem.W.Fast.tw14600653123245237737:Nat:=0
noncomputable def PySem.W.Fast.tw3068400324035054439:Nat:=0
noncomputable def PySem.W.Fast.tw13876379537245788666:Nat:=0
noncomputable def PySem.W.Fast.tw7867287714512229179:Nat:=0
noncomputable def PySem.W.Fast.tw15408664304496336254:Nat:=0
noncomputable def PySem.W.Fast.tw13178996568801971465:Nat:=0
noncomputable def PySem.W.Fast.tw14992142497436955553:Nat:=0
noncomputable def PySem.W.Fast.tw10733224334274377245:Nat:=0
noncomputable def PySem.W.Fast.tw8809624557060308641:Nat:=0
noncomputable def PySem.W.Fast.tw15270355398156925109:Nat:=0
open PySem PySem.W PyProof.Rows
set_option maxRecDepth 100000 in
set_option maxHeartbeats 0 in
theorem PySem.Challenge.cw_turnweave_k34_refused_roads_holds : PySem.Challenge.rw_turnweave_k34_refused_roads.Holds := by
 w_on;o_law;k_head;(case hw=>w_witness2)
 k_fill
 refine K34.walk (l:=PySem.Challenge.rw_turnweave_k34_refused_roads) rfl rfl (fun w h Y=>PySem.W.kIn_of Y) ?F
 case F=>
  intro w mg fa h KX G hmg
  refine' K34.all_mk KX G hmg (K34.dfn ?_ ?_ ?_ ?_) (K34.dfn ?_ ?_ ?_ ?_) (K34.dfn ?_ ?_ ?_ ?_) (K34.dfn ?_ ?_ ?_ ?_) (K34.dfn ?_ ?_ ?_ ?_) (K34.dfn ?_ ?_ ?_ ?_) (K34.dfn ?_ ?_ ?_ ?_) (K34.dfn ?_ ?_ ?_ ?_) (K34.dfn ?_ ?_ ?_ ?_) (K34.dfn ?_ ?_ ?_ ?_) (K34.dfn ?_ ?_ ?_ ?_) (K34.dfn ?_ ?_ ?_ ?_) (K34.dfn ?_ ?_ ?_ ?_) (K34.dfn ?_ ?_ ?_ ?_) (K34.dfn ?_ ?_ ?_ ?_) (K34.dfn ?_ ?_ ?_ ?_) (K34.dfn ?_ ?_ ?_ ?_) (K34.dfn ?_ ?_ ?_ ?_) (K34.dfn ?_ ?_ ?_ ?_) (K34.dfn ?_ ?_ ?_ ?_) (K34.dfn ?_ ?_ ?_ ?_) (K34.dfn ?_ ?_ ?_ ?_) (K34.dfn ?_ ?_ ?_ ?_) (K34.dfn ?_ ?_ ?_ ?_) (K34.dfn ?_ ?_ ?_ ?_) (K34.dfn ?_ ?_ ?_ ?_) (K34.dfn ?_ ?_ ?_ ?_) (K34.dfn ?_ ?_ ?_ ?_) (K34.dfn ?_ ?_ ?_ ?_) (K34.dfn ?_ ?_ ?_ ?_) (K34.dfn ?_ ?_ ?_ ?_) (K34.dfn ?_ ?_ ?_ ?_) (K34.dfn ?_ ?_ ?_ ?_) (K34.dfn ?_ ?_ ?_ ?_) (K34.dfn ?_ ?_ ?_ ?_) (K34.dfn ?_ ?_ ?_ ?_) (K34.dfn ?_ ?_ ?_ ?_) ?_ ?_ ?_ ?_ ?_ ?_ ?_ ?_ ?_ ?_ ?_ ?_ ?_ ?_ ?_ ?_ ?_ ?_ ?_ ?_ ?_ ?_ ?_ ?_ ?_ ?_ ?_ ?_ ?_ ?_ ?_ ?_ ?_ ?_ ?_ ?_ ?_ ?_ ?_ ?_ ?_ ?_ ?_ ?_ ?_ ?_ ?_<;>first |k_is |kit_is | (dsimp only[List.map];kit_is) |kts_exm | (delta L2.bmV;k_exc) |skip
end
