import PyProof.Rows.All
import Wide.All
import OpenK.AllK
import Wide.FinOn
import Lean
import PyProof.EqAt
import PyProof.EqKinds
import PyProof.TupleCall
import PyProof.NeKinds
import PyProof.ListMulRoad
import PyProof.AttrMissHeap
import KE.KDictOf
import KE.KRevIter
import PyProof.ListRange
import KE.KSortTup
import KE.KMinKey
import PyProof.MinMaxWalk
import PyProof.Rows.CallKwBuiltin
import PyProof.Rows.SetFrom
import PyProof.Rows.SeqMore
import PySem.Challenge.RW_turnweave_k06_texts_read_or_refused
set_option Elab.async false
set_option compiler.extract_closed false
set_option linter.all false
set_option maxRecDepth 100000
set_option maxHeartbeats 4000000
section
namespace L2
open PySem PySem.Spec PyProof.Rows
noncomputable abbrev Key:=Sum Int Str
noncomputable def zsT:Key→Value→Bool
 | .inl k,v=>Value.isInt k v
 | .inr x,v=>Value.isStrOf x v
noncomputable def zvO (w:World):Key→Int
 | .inl k=>hashInt k
 | .inr x=>hashStr w x
theorem zbf:∀{k:Key}{v:Value},zsT k v=true→(∃i t,k=Sum.inl i∧v=Value.int i t)∨(∃x t,k=Sum.inr x∧v=Value.str x t)
 | .inl i,v,h=>by
  obtain⟨t,e⟩:=Value.isInt_shape (k:=i) (v:=v) h;exact .inl ⟨i,t,rfl,e⟩
 | .inr x,v,h=>by
  obtain⟨t,e⟩:=Value.isStrOf_shape (x:=x) (v:=v) h;exact .inr ⟨x,t,rfl,e⟩
theorem zrY (a b:Int):decide ((Sum.inl a:Key)=Sum.inl b)=(a == b):=by
 by_cases e:a=b
 ·subst e;simp
 ·have h:¬(Sum.inl a:Key)=Sum.inl b:=fun q=>e (Sum.inl.inj q);rw [decide_eq_false h];exact(beq_eq_false_iff_ne.mpr e).symm
theorem zrZ (a b:Str):decide ((Sum.inr a:Key)=Sum.inr b)=decide (a=b):=by
 by_cases e:a=b
 ·subst e;simp
 ·have h:¬(Sum.inr a:Key)=Sum.inr b:=fun q=>e (Sum.inr.inj q);rw [decide_eq_false h,decide_eq_false e]
theorem zsG (a:Int) (b:Str):decide ((Sum.inl a:Key)=Sum.inr b)=false:=decide_eq_false (fun q=>nomatch q)
theorem zsZ (a:Str) (b:Int):decide ((Sum.inr a:Key)=Sum.inl b)=false:=decide_eq_false (fun q=>nomatch q)
noncomputable def ziH (prog:Program) (w:World):PySem.KeyKind prog w Key where
  is:=zsT
  hash:=zvO w
  inj:=fun v a b ha hb=>by
    rcases zbf ha with⟨i,t,rfl,rfl⟩ |⟨x,t,rfl,rfl⟩
    · rcases zbf hb with⟨j,u,rfl,e⟩ |⟨y,u,rfl,e⟩
      · injection e with e1 _;rw [e1]
      · exact nomatch e
    · rcases zbf hb with⟨j,u,rfl,e⟩ |⟨y,u,rfl,e⟩
      · exact nomatch e
      · injection e with e1 _;rw [e1]
  byValue:=fun k v h=>by
    rcases zbf h with⟨i,t,rfl,rfl⟩ |⟨x,t,rfl,rfl⟩<;>rfl
  pyHash:=fun hv h=>by
    rcases zbf hv with⟨i,t,rfl,rfl⟩ |⟨x,t,rfl,rfl⟩
    · exact wpAny_pyHash_int h
    · exact wpAny_pyHash_str h
  eqBool:=fun hu hv h=>by
    rcases zbf hu with⟨i,t,rfl,rfl⟩ |⟨x,t,rfl,rfl⟩
    · rcases zbf hv with⟨j,u,rfl,rfl⟩ |⟨y,u,rfl,rfl⟩
      · rw [zrY]at h;exact wpAny_eqBool_int h
      · rw [zsG]at h;exact SeqAt.EqAt.int_str i t y u _ _ _ _ h
    · rcases zbf hv with⟨j,u,rfl,rfl⟩ |⟨y,u,rfl,rfl⟩
      · rw [zsZ]at h;exact SeqAt.EqAt.str_int x t j u _ _ _ _ h
      · rw [zrZ]at h;exact wpAny_eqBool_str h
  «strs» :=fun k x t v h=>by
    rcases zbf h with⟨i,u,rfl,e⟩ |⟨y,u,rfl,e⟩
    · exact nomatch e
    · injection e with e1 _;subst e1;cases v<;>rfl
inductive V where
  |non |bl (b:Bool) |int (i:Int) |str (x:Str) |byt (b:Array UInt8) |flt (b:UInt64) |ref (a:Addr) |ty (n:String)
  deriving DecidableEq
noncomputable def RelV:V→Value→Prop
 | .non,u=>u=Value.none
 | .bl b,u=>u=Value.bool b
 | .int i,u=>∃t,u=Value.int i t
 | .str x,u=>∃t,u=Value.str x t
 | .byt b,u=>∃t,u=Value.bytes b t
 | .flt b,u=>∃t,u=Value.float b t
 | .ref a,u=>u=Value.ref a
 | .ty n,u=>u=Value.type n
noncomputable abbrev Vals:List V→List Value→Prop:=Paired RelV
theorem Vals.length{xs:List V}{us:List Value}(r:Vals xs us):xs.length=us.length:=Paired.length r
theorem Vals.get:∀{xs:List V}{us:List Value}{i:Nat}{x:V},Vals xs us→xs[i]? =some x→ ∃u,us[i]? =some u∧RelV x u
 |_,_,_,_, .nil,e=>by simp at e
 |_,_,0,_, .cons r _,e=>by simp at e;subst e;exact⟨_,rfl,r⟩
 |_,_,i+1,x, .cons _ t,e=>by
  obtain⟨u,h1,h2⟩:=Vals.get (i:=i) (x:=x) t (by simpa using e);exact⟨u,by simpa using h1,h2⟩
theorem Vals.append:∀{xs ys:List V}{us ws:List Value},Vals xs us→Vals ys ws→Vals (xs++ys) (us++ws)
 |_,_,_,_, .nil,s=>s
 |_,_,_,_, .cons r t,s=> .cons r (Vals.append t s)
theorem Vals.take:∀{xs:List V}{us:List Value}(n:Nat),Vals xs us→Vals (xs.take n) (us.take n)
 |_,_,0,_=> .nil
 |_,_,_+1, .nil=> .nil
 |_,_,n+1, .cons r t=> .cons r (Vals.take n t)
theorem Vals.drop:∀{xs:List V}{us:List Value}(n:Nat),Vals xs us→Vals (xs.drop n) (us.drop n)
 |_,_,0,r=>r
 |_,_,_+1, .nil=> .nil
 |_,_,n+1, .cons _ t=>Vals.drop n t
noncomputable def RelO:Option V→Option Value→Prop
 |some v,some u=>RelV v u
 |none,none=>True
 |_,_=>False
noncomputable def KV {κ:Type}:List (κ×V)→List (κ×Value)→Prop:=Paired fun(p:κ×V) (q:κ×Value)=>p.1=q.1∧RelV p.2 q.2
noncomputable def kV:Key→V
 | .inl i=> .int i
 | .inr x=> .str x
inductive HO where
    |lst (xs:List V)
    |tup (xs:List V)
    |dK (kvs:List (Key×V)) |dT (kvs:List (List Key×V))
    |set (S:Int→Bool) (n:Nat)
    |ins (C dx:Addr) (fs:List (Str×V))
    |own (x:Addr)
    |xd (fs:List (Str×V))
    |met (f x:Addr)
    |rng (lo hi:Int)
    |frz (o:Obj) (u:HO)
    |tbl (ps:Array Value)
    |ext (φ:Heap→Prop)
noncomputable abbrev Hp:=Addr→Option HO
noncomputable def upd (H:Hp) (a:Addr) (o:HO):Hp:=fun b=>if b=a then some o else H b
theorem zaz{H:Hp}{a:Addr}{o:HO}:upd H a o a=some o:=by unfold upd;rw [if_pos rfl]
theorem zax{H:Hp}{a b:Addr}{o:HO}(h:b≠a):upd H a o b=H b:=by unfold upd;rw [if_neg h]
theorem zmS{H:Hp}{a b:Addr}{o u:HO}(h:H a=some o) (h':H b=some u) (d:o≠u):a≠b:=by
 intro e;subst e;rw [h]at h';exact d (Option.some.inj h')
theorem zau{H:Hp}{a b:Addr}{o:HO}(h:H a=some o) (h':H b=none):a≠b:=by
 intro e;subst e;rw [h]at h';cases h'
section
variable (P:Program) (w:World)
noncomputable def ObjOk (H:Hp) (h:Heap) (a:Addr):HO→Prop
 | .lst xs=>xs.length≤sizeLine∧ ∃(its:List Value) (n:Nat),Vals xs its∧h.get? a=some { cls:= .type "list",data:= .seq its.toArray n }
 | .tup xs=>xs.length≤sizeLine∧ ∃its:List Value,Vals xs its∧IsTup h a its.toArray
 | .dK kvs=>kvs.length≤sizeLine∧(a == sysModules)=false∧ ∃vs,KV kvs vs∧h.DictOf (ziH P w) a vs
 | .dT kvs=>kvs.length≤sizeLine∧(a == sysModules)=false∧ ∃xs:List (List Key×Addr×Value),
   Paired (fun(p:List Key×V) (q:List Key×Addr×Value)=>p.1=q.1∧H q.2.1=some (.tup (p.1.map kV))∧RelV p.2 q.2.2) kvs xs∧
   ∃o es ep,h.get? a=some o∧o.ExactDict∧o.data= .dict es ep∧es.toList=xs.map (entryOfKey (tupleKind (ziH P w)))∧(xs.map (·.1)).Nodup
 | .set S n=>h.SetOf (intKind P w) a S n
 | .ins C dx fs=>H dx=some (.own a)∧fs.length≤1000∧dx≠a∧h.get? a=some (PySem.W.instObj C dx)∧
   ∃mA,h.Ns1 dx mA∧(∀f,RelO (fs.lookup f) (mA f))∧PySem.Within mA (fs.map (·.1))
 | .own _=>∃o,h.get? a=some o
 | .xd fs=>∃mA,h.Ns1 a mA∧ ∀f,RelO (fs.lookup f) (mA f)
 | .rng lo hi=>∃t u v,h.get? a=some { cls:= .type "range",data:= .fields #[.int lo t, .int hi u, .int 1 v] }
 | .frz o u=>h.get? a=some o∧ObjOk H h a u
 | .tbl ps=>h.get? a=some { cls:= .none,data:= .fields ps }
 | .met f x=>h.get? a=some (PySem.W.methodObj (.ref f) (.ref x))
 | .ext φ=>φ h∧(∃o,h.get? a=some o)∧ ∀h1 h2:Heap,φ h1→(∀o,h1.get? a=some o→h2.get? a=some o)→φ h2
noncomputable def HOk (H:Hp) (h:Heap):Prop:=∀a o,H a=some o→ObjOk P w H h a o
end
section
variable {P:Program}{w:World}{H H':Hp}{h h':Heap}{a:Addr}{o:HO}
theorem ObjOk.lt (x:ObjOk P w H h a o):a<h.objs.size:=by
 cases o with
 |lst xs=>obtain⟨_,_,_,_,e⟩:=x;exact Heap.lt_size e
 |tup xs=>obtain⟨_,_,_,p⟩:=x;exact p.lt
 |dK kvs=>obtain⟨_,_,_,_,o,_,_,e,_⟩:=x;exact Heap.lt_size e
 |dT kvs=>obtain⟨_,_,_,_,o,_,_,e,_⟩:=x;exact Heap.lt_size e
 |set S n=>obtain⟨o,_,_,_,e,_⟩:=x;exact Heap.lt_size e
 |ins C dx fs=>obtain⟨_,_,_,e,_⟩:=x;exact Heap.lt_size e
 |own y=>obtain⟨_,e⟩:=x;exact Heap.lt_size e
 |xd fs=>obtain⟨_,⟨_,_,_,e,_⟩,_⟩:=x;exact Heap.lt_size e
 |rng lo hi=>obtain⟨_,_,_,e⟩:=x;exact Heap.lt_size e
 |frz ob u=>obtain⟨e,_⟩:=x;exact Heap.lt_size e
 |tbl ps=>exact Heap.lt_size (show h.get? a=some _ from x)
 |met f y=>exact Heap.lt_size (show h.get? a=some _ from x)
 |ext φ=>obtain⟨_,⟨_,e⟩,_⟩:=x;exact Heap.lt_size e
theorem Paired.mapP{α β:Type}{F G:α→β→Prop}:∀{l₁:List α}{l₂:List β},Paired F l₁ l₂→(∀a b,F a b→G a b)→Paired G l₁ l₂
 |_,_, .nil,_=> .nil
 |_,_, .cons r t,f=> .cons (f _ _ r) (Paired.mapP t f)
theorem ObjOk.stay (x:ObjOk P w H h a o) (k:∀b u,(b=a∨H b=some (.own a))→h.get? b=some u→h'.get? b=some u)
  (ho:∀b,H b=some (.own a)→H' b=some (.own a)) (ht:∀b xs,H b=some (.tup xs)→H' b=some (.tup xs)):ObjOk P w H' h' a o:=by
 induction o with
 |lst xs=>obtain⟨z,its,n,r,e⟩:=x;exact⟨z,its,n,r,k _ _ (.inl rfl) e⟩
 |tup xs=>obtain⟨z,its,r,ob,e,c⟩:=x;exact⟨z,its,r,ob,k _ _ (.inl rfl) e,c⟩
 |dK kvs=>obtain⟨z,y,vs,r,ob,es,ep,e,c⟩:=x;exact⟨z,y,vs,r,ob,es,ep,k _ _ (.inl rfl) e,c⟩
 |dT kvs=>
  obtain⟨z,y,xs,r,ob,es,ep,e,c⟩:=x;exact⟨z,y,xs,Paired.mapP r fun p q z=>⟨z.1,ht _ _ z.2.1,z.2.2⟩,ob,es,ep,k _ _ (.inl rfl) e,c⟩
 |set S n=>obtain⟨ob,es,ep,t,e,c⟩:=x;exact⟨ob,es,ep,t,k _ _ (.inl rfl) e,c⟩
 |ins C dx fs=>
  obtain⟨d,z,ne,e,mA,⟨od,es,ep,e2,c⟩,r⟩:=x;exact⟨ho _ d,z,ne,k _ _ (.inl rfl) e,mA,⟨od,es,ep,k _ _ (.inr d) e2,c⟩,r⟩
 |own y=>obtain⟨ob,e⟩:=x;exact⟨ob,k _ _ (.inl rfl) e⟩
 |xd fs=>obtain⟨mA,⟨od,es,ep,e,c⟩,r⟩:=x;exact⟨mA,⟨od,es,ep,k _ _ (.inl rfl) e,c⟩,r⟩
 |rng lo hi=>obtain⟨t,u,v,e⟩:=x;exact⟨t,u,v,k _ _ (.inl rfl) e⟩
 |frz ob u ih=>obtain⟨e,q⟩:=x;exact⟨k _ _ (.inl rfl) e,ih q⟩
 |tbl ps=>
  have e:h.get? a=some { cls:= .none,data:= .fields ps }:=x;show h'.get? a=some { cls:= .none,data:= .fields ps };exact k a _ (.inl rfl) e
 |met f y=>
  have e:h.get? a=some (PySem.W.methodObj (.ref f) (.ref y)):=x;show h'.get? a=some (PySem.W.methodObj (.ref f) (.ref y));exact k a _ (.inl rfl) e
 |ext φ=>obtain⟨p,⟨o,e⟩,st⟩:=x;exact⟨st _ _ p fun o q=>k _ _ (.inl rfl) q,⟨o,k _ _ (.inl rfl) e⟩,st⟩
theorem HOk.lt (x:HOk P w H h) (e:H a=some o):a<h.objs.size:=(x a o e).lt
theorem HOk.fresh (x:HOk P w H h) (e:h.objs.size≤a):H a=none:=by
 cases q:H a with
 |none=>rfl
 |some u=>exact absurd (Nat.lt_of_lt_of_le (x.lt q) e) (Nat.lt_irrefl _)
theorem HOk.kept (x:HOk P w H h) (k:∀b u,h.get? b=some u→h'.get? b=some u):HOk P w H h':=fun a o e=>
 (x a o e).stay (fun b u _ q=>k b u q) (fun _ q=>q) fun _ _ q=>q
theorem HOk.laid (x:HOk P w H h) (k:∀b u,h.get? b=some u→h'.get? b=some u) (hp:h.objs.size≤a) (new:ObjOk P w (upd H a o) h' a o):HOk P w (upd H a o) h':=fun b u e=>by
 have hn:=x.fresh hp;by_cases hb:b=a
 ·subst hb;rw [zaz]at e;cases e;exact new
 ·rw [zax hb]at e;exact(x b u e).stay (fun c v _ q=>k c v q) (fun c q=>by rw [zax (zau q hn)];exact q) fun c xs q=>by rw [zax (zau q hn)];exact q
end
noncomputable def Rd (H:Hp) (a:Addr) (u:HO):Prop:=H a=some u∨ ∃o,H a=some (.frz o u)
theorem Rd.ok{P:Program}{w:World}{H:Hp}{h:Heap}{a:Addr}{u:HO}(r:Rd H a u) (x:HOk P w H h):ObjOk P w H h a u:=by
 rcases r with r |⟨o,r⟩
 ·exact x a u r
 ·obtain⟨_,q⟩:=x a _ r;exact q
noncomputable def Mut:Option HO→Prop
 |some (.lst _)=>True
 |some (.dK _)=>True
 |some (.dT _)=>True
 |some (.set _ _)=>True
 |some (.ins _ _ _)=>True
 |some (.ext _)=>True
 |_=>False
section
variable {P:Program}{w:World}{H:Hp}{h h':Heap}{x e:Addr}{o':HO}
theorem HOk.write (ok:HOk P w H h) (mu:Mut (H x)) (he:e=x∨H e=some (.own x)) (k:∀b u,b≠e→h.get? b=some u→h'.get? b=some u) (heo:∃u,h'.get? e=some u)
  (new:ObjOk P w (upd H x o') h' x o'):HOk P w (upd H x o') h':=fun b u q=>by
 have nown:∀c y,H c=some (.own y)→c≠x:=fun c y r z=>by subst z;rw [r]at mu;exact mu
 have ntup:∀c xs,H c=some (.tup xs)→c≠x:=fun c xs r z=>by subst z;rw [r]at mu;exact mu
 by_cases hb:b=x
 ·subst hb;rw [zaz]at q;cases q;exact new
 ·rw [zax hb]at q;by_cases hbe:b=e
  ·have q':H b=some (.own x):=by
    rcases he with z |z
    ·exact absurd (hbe.trans z) hb
    ·rw [hbe];exact z
   rw [q]at q';cases q';obtain⟨v,hv⟩:=heo;exact⟨v,by rw [hbe];exact hv⟩
  ·refine(ok b u q).stay (fun c v hc r=>k c v ?_ r) (fun c r=>by rw [zax (nown c b r)];exact r) fun c xs r=>by rw [zax (ntup c xs r)];exact r
   rcases hc with rfl |hc
   ·exact hbe
   ·rintro rfl;rcases he with z |z
    ·exact nown c b hc z
    ·rw [hc]at z;cases z;exact hb rfl
end
structure Un (fs ex:List Addr) (H H':Hp) (h h':Heap):Prop where
  keep:∀b o,h.get? b=some o→H b=none→b∉fs→b∉ex→h'.get? b=some o
  slot:∀b o,h.get? b=some o→H b=none→b∈fs→b∉ex→ ∃sl,h'.get? b=some { o with slots:=sl }
  free:∀b o,h.get? b=some o→H b=none→b∉ex→H' b=none
  there:∀b o,h.get? b=some o→b∉ex→ ∃o',h'.get? b=some o'
  tups:∀b xs,H b=some (.tup xs)→H' b=some (.tup xs)
  frzs:∀b o u,H b=some (.frz o u)→H' b=some (.frz o u)
  tbls:∀b ps,H b=some (.tbl ps)→ ∃more,H' b=some (.tbl (ps++more))
section
variable {fs ex:List Addr}{H H1 H2:Hp}{h h1 h2 h':Heap}{a x e:Addr}{o:HO}
theorem Un.any (u:Un fs ex H H1 h h1) {b:Addr}{ob:Obj}(q:h.get? b=some ob) (n:H b=none) (hx:b∉ex):∃sl,h1.get? b=some { ob with slots:=sl }:=by
 by_cases hb:b∈fs
 ·exact u.slot b ob q n hb hx
 ·exact⟨ob.slots,u.keep b ob q n hb hx⟩
theorem Un.trans (a:Un fs ex H H1 h h1) (b:Un fs ex H1 H2 h1 h2):Un fs ex H H2 h h2 where
  keep:=fun c ob q n hc hx=>b.keep c ob (a.keep c ob q n hc hx) (a.free c ob q n hx) hc hx
  slot:=fun c ob q n hc hx=>by
    obtain⟨sl,e1⟩:=a.slot c ob q n hc hx;obtain⟨sl',e2⟩:=b.slot c _ e1 (a.free c ob q n hx) hc hx;exact⟨sl',e2⟩
  free:=fun c ob q n hx=>by
    obtain⟨o',e1⟩:=a.there c ob q hx;exact b.free c o' e1 (a.free c ob q n hx) hx
  there:=fun c ob q hx=>by
    obtain⟨o',e1⟩:=a.there c ob q hx;exact b.there c o' e1 hx
  tups:=fun c xs q=>b.tups c xs (a.tups c xs q)
  frzs:=fun c ob xs q=>b.frzs c ob xs (a.frzs c ob xs q)
  tbls:=fun c ps q=>by
    obtain⟨m1,e1⟩:=a.tbls c ps q;obtain⟨m2,e2⟩:=b.tbls c _ e1;exact⟨m1++m2,by rw [e2,Array.append_assoc]⟩
theorem Un.kept (k:∀b u,h.get? b=some u→h'.get? b=some u):Un fs ex H H h h':=
 ⟨fun b ob q _ _ _=>k b ob q,fun b ob q _ _ _=>⟨ob.slots,k b ob q⟩,fun _ _ _ n _=>n,fun b ob q _=>⟨ob,k b ob q⟩,fun _ _ q=>q,fun _ _ _ q=>q,fun _ ps q=>⟨#[],by rw [q];simp⟩⟩
theorem Un.refl:Un fs ex H H h h:=Un.kept fun _ _ q=>q
theorem Un.laid (k:∀b u,h.get? b=some u→h'.get? b=some u) (hp:h.objs.size≤a) (hn:H a=none):Un fs ex H (upd H a o) h h' where
  keep:=fun b u q _ _ _=>k b u q
  slot:=fun b u q _ _ _=>⟨u.slots,k b u q⟩
  free:=fun b u q n _=>by rw [zax (Nat.ne_of_lt (Nat.lt_of_lt_of_le (Heap.lt_size q) hp))];exact n
  there:=fun b u q _=>⟨u,k b u q⟩
  tups:=fun b xs q=>by rw [zax (zau q hn)];exact q
  frzs:=fun b u xs q=>by rw [zax (zau q hn)];exact q
  tbls:=fun b ps q=>⟨#[],by rw [zax (zau q hn),q];simp⟩
theorem Un.write (mu:Mut (H x)) (he:e=x∨H e=some (.own x)) (k:∀b u,b≠e→h.get? b=some u→h'.get? b=some u) (heo:∃u,h'.get? e=some u):Un fs ex H (upd H x o) h h':=by
 have hx:∀b,H b=none→b≠x:=fun b n z=>by subst z;rw [n]at mu;exact mu
 have hb:∀b,H b=none→b≠e:=fun b n z=>by
  subst z;rcases he with r |r
  ·exact hx b n r
  ·rw [n]at r;cases r
 have hm:∀b u,H b=some u→ ¬Mut (some u)→b≠x:=fun b u q nm z=>by subst z;rw [q]at mu;exact nm mu
 refine⟨fun b u q n _ _=>k b u (hb b n) q,fun b u q n _ _=>⟨u.slots,k b u (hb b n) q⟩,fun b u q n _=>by rw [zax (hx b n)];exact n,fun b u q _=>?_,
  fun b xs q=>by rw [zax (hm b _ q fun z=>z)];exact q,fun b u xs q=>by rw [zax (hm b _ q fun z=>z)];exact q,fun b ps q=>⟨#[],by rw [zax (hm b _ q fun z=>z),q];simp⟩⟩
 by_cases hbe:b=e
 ·subst hbe;exact heo
 ·exact⟨u,k b u hbe q⟩
end
noncomputable def trk (h:Heap) (H:Hp):List Addr:=(List.range h.objs.size).filter fun a=>(H a).isSome
noncomputable def zmW (h:Heap) (H:Hp):Heap:=PySem.W.hideAll h (trk h H)
theorem zkV (h:Heap) (H:Hp):(zmW h H).objs.size=h.objs.size:=PySem.W.hideAll_size _ _
theorem zoc{h:Heap}{H:Hp}{b:Addr}{o:Obj}(e:h.get? b=some o) (n:H b=none):(zmW h H).get? b=some o:=
 PySem.W.hideAll_get _ e fun hm=>by
  have q:(H b).isSome=true:=(List.mem_filter.mp hm).2;rw [n]at q;simp at q
theorem zpJ{h:Heap}{H:Hp}{b:Addr}{o:Obj}(e:(zmW h H).get? b=some o):h.get? b=some o∧H b=none:=by
 have e':h.get? b=some o:=PySem.W.of_hideAll (trk h H) e;refine⟨e',?_⟩;cases q:H b with
 |none=>rfl
 |some x=>
  have hm:b∈trk h H:=List.mem_filter.mpr ⟨List.mem_range.mpr (Heap.lt_size e'),by simp [q]⟩
  have z:(zmW h H).get? b=none:=PySem.W.hideAll_none (trk h H) hm;rw [z]at e;cases e
noncomputable def zpM (g h:Heap) (L:Addr):List (Addr×Obj):=(List.range h.objs.size).filterMap fun a=>if a=L∨(g.get? a).isSome=true then none else(h.get? a).map fun o=>(a,o)
noncomputable def rest (g h:Heap) (L d:Addr):List (Addr×Obj):=(zpM g h L).filter fun p=>decide (p.1≠d)
structure Mod (K:PySem.W.Frag) (mg:Str→Option Value) (base:Heap):Prop where
  kin:K.In base
  glob:base.Ns mainGlobals mg
  blt:∃mb,base.Ns builtinsNs mb∧ ∀x:Str,x≠ "__name__" →mb x=bootBuiltins x
  nolimit:base.NoLimit
structure Cx where
  prog:Program
  w:World
  K:PySem.W.Frag
  mg:Str→Option Value
  base:Heap
  A:Around
  N:List Str
  s₀:Shared
  H₀:Hp
  env:Env
  outer:List Env
  stack:List Env
  ex:List Addr
  fn:Str→Bool
  calm:Bool
  pn:List (Addr×Obj)
  xe:Value→Shared→Prop
noncomputable def frs (l:List Env):List Addr:=l.filterMap (·.frame)
noncomputable abbrev Cx.fs (X:Cx):List Addr:=frs X.outer
noncomputable def Vis (sc:Scope) (x:Str):Prop:=sc.names.lookup x=some .local∨sc.names.lookup x=some .cell∨sc.names.lookup x=some .free
noncomputable def Loc (sc:Scope) (x:Str):Prop:=sc.names.lookup x=some .local∨sc.names.lookup x=some .cell
noncomputable def zvQ (env:Env) (h:Heap) (m:Str→Option Value) (x:Str) (u:Value):Prop:=
 (env.kindOf x=some .local∧m x=some u)∨((env.kindOf x=some .cell∨env.kindOf x=some .free)∧ ∃c,env.cells.lookup x=some c∧h.IsCell c (some u))
structure Cx.Ok (X:Cx):Prop where
  mod:Mod X.K X.mg X.base
  kind:X.env.scope.kind= .function
  glob:X.env.globals=mainGlobals
  blt:X.env.builtins=builtinsNs
  above:X.s₀.heap.objs.size≤X.env.locals
  inj:∀x y c,X.env.cells.lookup x=some c→X.env.cells.lookup y=some c→x=y
  has:∀x,(X.env.kindOf x=some .cell∨X.env.kindOf x=some .free)→ ∃c,X.env.cells.lookup x=some c
  cab:∀x c,X.fn x=true→X.env.cells.lookup x=some c→X.s₀.heap.objs.size≤c
  hd:X.calm=true→X.A.handled=none
  frames:X.A.frames=some X.stack
  stk:X.stack=X.outer∨(X.stack=X.env::X.outer∧X.env.frame=some X.env.locals)
  exf:∀b∈X.ex,b≠X.env.locals∧ ∀x c,X.env.cells.lookup x=some c→c≠b
  bs:∀b o,X.base.get? b=some o→X.s₀.heap.get? b=some o∧X.H₀ b=none
  bsz:X.base.objs.size≤X.s₀.heap.objs.size
  noex:∀b o,X.base.get? b=some o→b∉X.ex
  exfs:∀b∈X.ex,b∉X.fs
  funs:X.s₀.heap.FunFrames X.base X.outer
  frf:∀b∈X.fs,X.H₀ b=none
structure Inv (X:Cx) (pins:List (Addr×Obj)) (σ:List (Option V)) (H:Hp) (s:Shared):Prop where
  ok:X.Ok
  os:s.os=X.s₀.os
  bare:AllBare s.gens
  base:Un X.fs X.ex X.H₀ H X.s₀.heap s.heap
  loc:∃m,s.heap.Ns X.env.locals m∧ ∀(i:Nat) (x:Str) (v:V),X.N[i]? =some x→σ[i]? =some (some v)→Vis X.env.scope x→ ∃u,RelV v u∧zvQ X.env s.heap m x u
  cell:∀x c,X.env.cells.lookup x=some c→ ∃v,s.heap.IsCell c v
  free:H X.env.locals=none
  freeC:∀x c,X.env.cells.lookup x=some c→H c=none
  pin:∀p∈X.pn++pins,s.heap.get? p.1=some p.2∧H p.1=none∧p.1≠X.env.locals∧p.1∉X.fs∧ ∀v,p.2.data≠ .cell v
  hok:HOk X.prog X.w H s.heap
  len:σ.length=X.N.length
section
variable {X:Cx}{pins:List (Addr×Obj)}{σ:List (Option V)}{H H':Hp}{s:Shared}{h':Heap}
theorem Cx.Ok.nofr (ok:X.Ok) {b:Addr}{o:Obj}(e:X.base.get? b=some o):b∉X.fs:=fun hb=>by
 have:=(ok.funs.mem hb).1;rw [e]at this;cases this
theorem Inv.bs (I:Inv X pins σ H s):∀b o,X.base.get? b=some o→s.heap.get? b=some o∧H b=none:=fun b o e=>
 ⟨I.base.keep b o (I.ok.bs b o e).1 (I.ok.bs b o e).2 (I.ok.nofr e) (I.ok.noex b o e),I.base.free b o (I.ok.bs b o e).1 (I.ok.bs b o e).2 (I.ok.noex b o e)⟩
theorem Inv.bk (I:Inv X pins σ H s):∀b o,X.base.get? b=some o→s.heap.get? b=some o:=fun b o e=>(I.bs b o e).1
theorem Inv.mod (I:Inv X pins σ H s):Mod X.K X.mg X.base:=I.ok.mod
theorem Inv.kIn (I:Inv X pins σ H s):X.K.In s.heap:=I.ok.mod.kin.keeps I.bk
theorem Inv.lt (I:Inv X pins σ H s):X.env.locals<s.heap.objs.size:=let ⟨_,hn,_⟩:=I.loc;hn.lt
theorem Inv.sz (I:Inv X pins σ H s):X.s₀.heap.objs.size≤s.heap.objs.size:=Nat.le_trans I.ok.above (Nat.le_of_lt I.lt)
theorem Inv.nofs (I:Inv X pins σ H s) {a:Addr}(h:s.heap.objs.size≤a):a∉X.fs:=fun hb=>by
 obtain⟨_,o,ho,_⟩:=I.ok.funs.mem hb;exact absurd (Nat.lt_of_lt_of_le (Heap.lt_size ho) (Nat.le_trans I.sz h)) (Nat.lt_irrefl _)
theorem Inv.cne (I:Inv X pins σ H s):∀x c,X.env.cells.lookup x=some c→c≠X.env.locals:=fun x c e z=>by
 obtain⟨v,o,ho,hd⟩:=I.cell x c e;obtain⟨m,⟨o',es,ep,ho',hd',_⟩,_⟩:=I.loc;rw [z,ho']at ho;cases ho;rw [hd']at hd;cases hd
theorem Inv.funs (I:Inv X pins σ H s):s.heap.FunFrames X.base X.outer:=by
 have all:∀(l:List Env),(∀b∈frs l,b∈X.fs)→X.s₀.heap.FunFrames X.base l→s.heap.FunFrames X.base l:=by
  intro l
  induction l with
  |nil=>intro _ _;trivial
  |cons env r ih=>
   intro hs hl;obtain⟨hk,⟨L,o,hf,hn,ho,hd⟩,hr⟩:=hl;have hL:L∈X.fs:=hs L (by unfold frs;rw [List.filterMap_cons,hf];exact List.mem_cons_self);obtain⟨sl,e⟩:=I.base.slot L o ho (I.ok.frf L hL) hL fun z=>I.ok.exfs L z hL;exact⟨hk,⟨L,_,hf,hn,e,hd⟩,ih (fun b hb=>hs b (by unfold frs;rw [List.filterMap_cons,hf];exact List.mem_cons_of_mem _ hb)) hr⟩
 exact all X.outer (fun _ hb=>hb) I.ok.funs
theorem Inv.stack (I:Inv X pins σ H s):s.heap.FunFrames X.base X.stack:=by
 rcases I.ok.stk with e |⟨e,hf⟩
 ·rw [e];exact I.funs
 ·rw [e];obtain⟨m,hn,_⟩:=I.loc;refine .cons (by rw [I.ok.kind];decide) hf hn ?_ I.funs;exact Heap.get?_none_of_le (Nat.le_trans I.ok.bsz I.ok.above)
theorem Inv.stkSub (I:Inv X pins σ H s):∀b∈frs X.stack,b∈X.env.locals::X.fs:=fun b hb=>by
 rcases I.ok.stk with e |⟨e,hf⟩
 ·rw [e]at hb;exact List.mem_cons_of_mem _ hb
 ·rw [e]at hb;unfold frs at hb;rw [List.filterMap_cons,hf]at hb;exact hb
theorem Inv.stkFree (I:Inv X pins σ H s):∀b∈frs X.stack,H b=none:=fun b hb=>by
 rcases List.mem_cons.mp (I.stkSub b hb) with e |hb
 ·rw [e];exact I.free
 ·obtain⟨_,o,ho,_⟩:=I.ok.funs.mem hb;exact I.base.free b o ho (I.ok.frf b hb) fun z=>I.ok.exfs b z hb
theorem Inv.step{g':Array GenState}{t':Nat}{d':Drawn}{ch:List Addr}(I:Inv X pins σ H s)
  (hch:∀b∈ch,(b∈X.ex∨X.s₀.heap.objs.size≤b)∧b≠X.env.locals∧(∀x c,X.env.cells.lookup x=some c→c≠b)∧ ∀p∈X.pn++pins,p.1≠b)
  (keep:∀b o,b≠X.env.locals→b∉X.fs→b∉ch→s.heap.get? b=some o→H b=none→h'.get? b=some o)
  (slot:∀b o,b≠X.env.locals→b∈X.fs→b∉ch→s.heap.get? b=some o→H b=none→ ∃sl,h'.get? b=some { o with slots:=sl }) (free:∀b o,b∉ch→s.heap.get? b=some o→H b=none→H' b=none)
  (there:∀b o,b∉ch→s.heap.get? b=some o→ ∃o',h'.get? b=some o')
  (tups:∀b xs,H b=some (.tup xs)→H' b=some (.tup xs)) (frzs:∀b o u,H b=some (.frz o u)→H' b=some (.frz o u)) (tbls:∀b ps,H b=some (.tbl ps)→ ∃more,H' b=some (.tbl (ps++more)))
  (ns:∀m,s.heap.Ns X.env.locals m→h'.Ns X.env.locals m) (hok:HOk X.prog X.w H' h') (hg:AllBare g') :
  Inv X pins σ H' { s with heap:=h',gens:=g',drawn:=d',toks:=t' }:=by
 have neL:∀b o,X.s₀.heap.get? b=some o→b≠X.env.locals:=fun b o e=>Nat.ne_of_lt (Nat.lt_of_lt_of_le (Heap.lt_size e) I.ok.above);have neC:∀b o,X.s₀.heap.get? b=some o→b∉X.ex→b∉ch:=fun b o e hx hb=>by
  rcases(hch b hb).1 with z |z
  ·exact hx z
  ·exact absurd (Nat.lt_of_lt_of_le (Heap.lt_size e) z) (Nat.lt_irrefl _)
 have cellK:∀x c,X.env.cells.lookup x=some c→ ∀v,s.heap.IsCell c v→h'.IsCell c v:=fun x c e v ⟨o,ho,hd⟩=>by
  have nch:c∉ch:=fun z=>(hch c z).2.2.1 x c e rfl;by_cases hc:c∈X.fs
  ·obtain⟨sl,q⟩:=slot c o (I.cne x c e) hc nch ho (I.freeC x c e);exact⟨_,q,hd⟩
  ·exact⟨o,keep c o (I.cne x c e) hc nch ho (I.freeC x c e),hd⟩
 refine⟨I.ok,I.os,hg,⟨fun b o e n hb hx=>?_,fun b o e n hb hx=>?_,fun b o e n hx=>?_,fun b o e hx=>?_,fun b xs e=>tups b xs (I.base.tups b xs e),fun b o xs e=>frzs b o xs (I.base.frzs b o xs e),fun b ps e=>?_⟩,?_,fun x c e=>?_,?_,fun x c e=>?_,fun p hp=>?_,hok,I.len⟩
 ·exact keep b o (neL b o e) hb (neC b o e hx) (I.base.keep b o e n hb hx) (I.base.free b o e n hx)
 ·obtain⟨sl,e1⟩:=I.base.slot b o e n hb hx;obtain⟨sl',e2⟩:=slot b _ (neL b o e) hb (neC b o e hx) e1 (I.base.free b o e n hx);exact⟨sl',e2⟩
 ·obtain⟨o',e1⟩:=I.base.there b o e hx;exact free b o' (neC b o e hx) e1 (I.base.free b o e n hx)
 ·obtain⟨o',e1⟩:=I.base.there b o e hx;exact there b o' (neC b o e hx) e1
 ·obtain⟨m1,e1⟩:=I.base.tbls b ps e;obtain⟨m2,e2⟩:=tbls b _ e1;exact⟨m1++m2,by rw [e2,Array.append_assoc]⟩
 ·obtain⟨m,hn,hl⟩:=I.loc;refine⟨m,ns m hn,fun i x v e1 e2 e3=>?_⟩;obtain⟨u,r,l⟩:=hl i x v e1 e2 e3;refine⟨u,r,?_⟩;rcases l with l |⟨k,c,e,z⟩
  ·exact .inl l
  ·exact .inr ⟨k,c,e,cellK x c e _ z⟩
 ·obtain⟨v,z⟩:=I.cell x c e;exact⟨v,cellK x c e v z⟩
 ·obtain⟨m,⟨o,_,_,ho,_⟩,_⟩:=I.loc;exact free _ o (fun z=>(hch _ z).2.1 rfl) ho I.free
 ·obtain⟨v,o,ho,hd⟩:=I.cell x c e;exact free c o (fun z=>(hch c z).2.2.1 x c e rfl) ho (I.freeC x c e)
 ·obtain⟨e,n,ne,nf,d⟩:=I.pin p hp;have nch:p.1∉ch:=fun z=>(hch p.1 z).2.2.2 p hp rfl;exact⟨keep p.1 p.2 ne nf nch e n,free p.1 p.2 nch e n,ne,nf,d⟩
theorem Inv.un{t':Nat}(I:Inv X pins σ H s) (u:Un X.fs [] H H' s.heap h') (hok:HOk X.prog X.w H' h'):Inv X pins σ H' { s with heap:=h',toks:=t' }:=by
 obtain⟨m,⟨o,es,ep,ho,r⟩,_⟩:=id I.loc;obtain⟨sl,hL⟩:=u.any ho I.free (by simp);exact I.step (g':=s.gens) (d':=s.drawn) (ch:=[]) (fun _ z=>nomatch z) (fun b o _ hb _ e n=>u.keep b o e n hb (by simp)) (fun b o _ hb _ e n=>u.slot b o e n hb (by simp)) (fun b o _ e n=>u.free b o e n (by simp)) (fun b o _ e=>u.there b o e (by simp)) u.tups u.frzs u.tbls (fun m' hm=>by
  obtain⟨o',es',ep',ho',r'⟩:=hm;rw [ho]at ho';cases ho';exact⟨_,es',ep',hL,r'⟩) hok I.bare
theorem Inv.call{g':Array GenState}{t':Nat}{d':Drawn}{ch:List Addr}(I:Inv X pins σ H s) (u:Un (frs X.stack) ch H H' s.heap h') (hok:HOk X.prog X.w H' h') (hg:AllBare g')
  (hch:∀b∈ch,(b∈X.ex∨X.s₀.heap.objs.size≤b)∧b≠X.env.locals∧(∀x c,X.env.cells.lookup x=some c→c≠b)∧ ∀p∈X.pn++pins,p.1≠b) :
  Inv X pins σ H' { s with heap:=h',gens:=g',drawn:=d',toks:=t' }:=by
 obtain⟨m,⟨o,es,ep,ho,r⟩,_⟩:=id I.loc;obtain⟨sl,hL⟩:=u.any ho I.free fun z=>(hch _ z).2.1 rfl;exact I.step (ch:=ch) hch (fun b o hL hb hc e n=>u.keep b o e n (fun z=>(List.mem_cons.mp (I.stkSub b z)).elim hL hb) hc) (fun b o _ _ hc e n=>u.any e n hc) (fun b o hc e n=>u.free b o e n hc) (fun b o hc e=>u.there b o e hc) u.tups u.frzs u.tbls (fun m' hm=>by
  obtain⟨o',es',ep',ho',r'⟩:=hm;rw [ho]at ho';cases ho';exact⟨_,es',ep',hL,r'⟩) hok hg
theorem Inv.turned{t':Nat}{it:Addr}(I:Inv X pins σ H s) (k:∀b o,b≠it→s.heap.get? b=some o→h'.get? b=some o) (hn:H it=none) (hL:it≠X.env.locals)
  (h1:it∈X.ex∨X.s₀.heap.objs.size≤it) (h2:∀x c,X.env.cells.lookup x=some c→c≠it) (h3:∀p∈X.pn++pins,p.1≠it):Inv X pins σ H { s with heap:=h',toks:=t' }:=by
 have nit:∀b u,H b=some u→b≠it:=fun b u e z=>by rw [z,hn]at e;cases e
 refine I.step (g':=s.gens) (d':=s.drawn) (ch:=[it]) (fun b hb=>?_) (fun b o _ _ hc e _=>k b o (fun z=>hc (by simp [z])) e) (fun b o _ _ hc e _=>⟨o.slots,k b o (fun z=>hc (by simp [z])) e⟩) (fun _ _ _ _ n=>n)
  (fun b o hc e=>⟨o,k b o (fun z=>hc (by simp [z])) e⟩) (fun _ _ e=>e) (fun _ _ _ e=>e) (fun b ps e=>⟨#[],by rw [e];simp⟩) (fun m hm=>?_) (fun b u e=>?_) I.bare
 ·have e:b=it:=by simpa using hb
  subst e;exact⟨h1,hL,h2,h3⟩
 ·obtain⟨o,es,ep,ho,r⟩:=hm;exact⟨o,es,ep,k _ o (Ne.symm hL) ho,r⟩
 ·refine(I.hok b u e).stay (fun c v hc q=>k c v ?_ q) (fun _ q=>q) fun _ _ q=>q;rcases hc with z |z
  ·rw [z];exact nit b u e
  ·exact nit c _ z
theorem Inv.tok (I:Inv X pins σ H s) (t:Nat):Inv X pins σ H { s with toks:=t }:=I.un (h':=s.heap) (t':=t) Un.refl I.hok
theorem Inv.kept{t':Nat}(I:Inv X pins σ H s) (k:∀b u,s.heap.get? b=some u→h'.get? b=some u):Inv X pins σ H { s with heap:=h',toks:=t' }:=I.un (Un.kept k) (I.hok.kept k)
theorem Inv.laid{a:Addr}{o:HO}{t':Nat}(I:Inv X pins σ H s) (k:∀b u,s.heap.get? b=some u→h'.get? b=some u) (hp:s.heap.objs.size≤a) (new:ObjOk X.prog X.w (upd H a o) h' a o) :
  Inv X pins σ (upd H a o) { s with heap:=h',toks:=t' }:=I.un (Un.laid k hp (I.hok.fresh hp)) (I.hok.laid k hp new)
theorem Inv.write{x e:Addr}{o:HO}{t':Nat}(I:Inv X pins σ H s) (mu:Mut (H x)) (he:e=x∨H e=some (.own x)) (k:∀b u,b≠e→s.heap.get? b=some u→h'.get? b=some u) (heo:∃u,h'.get? e=some u)
  (new:ObjOk X.prog X.w (upd H x o) h' x o):Inv X pins σ (upd H x o) { s with heap:=h',toks:=t' }:=I.un (Un.write mu he k heo) (I.hok.write mu he k heo new)
theorem Inv.pins_of{pins':List (Addr×Obj)}(I:Inv X pins σ H s) (h:∀p∈pins',s.heap.get? p.1=some p.2∧H p.1=none∧p.1≠X.env.locals∧p.1∉X.fs∧ ∀v,p.2.data≠ .cell v):Inv X pins' σ H s:=
 ⟨I.ok,I.os,I.bare,I.base,I.loc,I.cell,I.free,I.freeC,fun p hp=>(List.mem_append.mp hp).elim (fun z=>I.pin p (List.mem_append_left _ z)) (h p),I.hok,I.len⟩
theorem zhe{N:List Str}(hN:N.Nodup) {i j:Nat}{x:Str}(a:N[i]? =some x) (b:N[j]? =some x):i=j:=by
 obtain⟨h1,e1⟩:=List.getElem?_eq_some_iff.mp a;obtain⟨h2,e2⟩:=List.getElem?_eq_some_iff.mp b;exact(List.getElem_inj hN).mp (e1.trans e2.symm)
theorem zlZ{M:Model}{A:Around}{E:Value→Shared→Prop}{i:Nat}{x:Str}{v:V}{u:Value}{Q:Unit→Shared→Prop}(I:Inv X pins σ H s) (hN:X.N.Nodup) (hi:X.N[i]? =some x) (hx:Loc X.env.scope x) (r:RelV v u)
  (h:∀s',Inv X pins (σ.set i (some v)) H s'→(∃a,Heap.SameBut a s.heap s'.heap∧(a=X.env.locals∨X.env.cells.lookup x=some a))→Q () s') (hf:X.fn x=true∨X.env.scope.names.lookup x=some .local:=by first |exact .inl rfl |exact .inr rfl |assumption):wpAny M A (storeName X.env x u) Q E s:=by
 obtain⟨m,hn,hl⟩:=id I.loc;have hcls:(X.env.scope.kind == .class || (X.env.scope.kind == .module&&X.env.locals != X.env.globals))=false:=by rw [I.ok.kind];rfl
 have hiσ:i<σ.length:=by rw [I.len];exact(List.getElem?_eq_some_iff.mp hi).1
 have cne:=I.cne;have tracked:∀{a:Addr}{h':Heap},(∃o,s.heap.get? a=some o∧H a=none)→Heap.SameBut a s.heap h'→HOk X.prog X.w H h':=fun {a h'} ha hs b ob e=>by
  obtain⟨_,_,hfree⟩:=ha;refine(I.hok b ob e).stay (fun c w' hc q=>(hs.2 c ?_).trans q) (fun _ q=>q) fun _ _ q=>q;rintro rfl;rcases hc with rfl |hc
  ·rw [hfree]at e;cases e
  ·rw [hfree]at hc;cases hc
 rcases hx with hk |hk
 ·refine wpAny_storeName_local hk hn (fun h' hn' hs=>?_) hcls;obtain⟨oL,_,_,hoL,_⟩:=id hn;refine h _ ⟨I.ok,I.os,I.bare,⟨fun b o e n hb hx=>?_,fun b o e n hb hx=>?_,I.base.free,fun b o e hx=>?_,I.base.tups,I.base.frzs,I.base.tbls⟩,⟨_,hn',fun j y v' e1 e2 e3=>?_⟩,fun y c e=>?_,I.free,I.freeC,fun p hp=>?_,tracked ⟨oL,hoL,I.free⟩ hs,by simpa using I.len⟩ ⟨_,hs, .inl rfl⟩
  ·exact(hs.2 b (Nat.ne_of_lt (Nat.lt_of_lt_of_le (Heap.lt_size e) I.ok.above))).trans (I.base.keep b o e n hb hx)
  ·obtain⟨sl,e1⟩:=I.base.slot b o e n hb hx;exact⟨sl,(hs.2 b (Nat.ne_of_lt (Nat.lt_of_lt_of_le (Heap.lt_size e) I.ok.above))).trans e1⟩
  ·obtain⟨o',e1⟩:=I.base.there b o e hx;exact⟨o',(hs.2 b (Nat.ne_of_lt (Nat.lt_of_lt_of_le (Heap.lt_size e) I.ok.above))).trans e1⟩
  ·by_cases hj:j=i
   ·subst hj;rw [hi]at e1;cases e1;rw [List.getElem?_set_self hiσ]at e2;cases e2;exact⟨u,r, .inl ⟨hk,by simp⟩⟩
   ·rw [List.getElem?_set_ne (Ne.symm hj)]at e2;obtain⟨u',r',q⟩:=hl j y v' e1 e2 e3;refine⟨u',r',?_⟩;rcases q with⟨k,e⟩ |⟨k,c,e,z⟩
    ·refine .inl ⟨k,?_⟩;have:y≠x:=fun e=>hj (zhe hN e1 (e▸hi));simp [this,e]
    ·exact .inr ⟨k,c,e,z.sameBut hs (cne y c e)⟩
  ·obtain⟨w',z⟩:=I.cell y c e;exact⟨w',z.sameBut hs (cne y c e)⟩
  ·obtain⟨e,n,ne,nf,d⟩:=I.pin p hp;exact⟨(hs.2 p.1 ne).trans e,n,ne,nf,d⟩
 ·have hfn:X.fn x=true:=by
   rcases hf with z |z
   ·exact z
   ·rw [z]at hk;cases hk
  obtain⟨c,hc⟩:=I.ok.has x (.inl hk);obtain⟨w',z⟩:=I.cell x c hc;refine wpAny_storeName_cell I.ok.kind hk hc z (fun h' hc' hs=>?_);obtain⟨oc,hoc,hocd⟩:=id z;refine h { s with heap:=h' } ⟨I.ok,I.os,I.bare,⟨fun b o e n hb hx=>?_,fun b o e n hb hx=>?_,I.base.free,fun b o e hx=>?_,I.base.tups,I.base.frzs,I.base.tbls⟩,⟨m,hn.sameBut hs (Ne.symm (cne x c hc)),fun j y v' e1 e2 e3=>?_⟩,fun y c' e=>?_,I.free,I.freeC,fun p hp=>?_,tracked ⟨oc,hoc,I.freeC x c hc⟩ hs,by simpa using I.len⟩ ⟨c,hs, .inr hc⟩
  ·exact(hs.2 b (Nat.ne_of_lt (Nat.lt_of_lt_of_le (Heap.lt_size e) (I.ok.cab x c hfn hc)))).trans (I.base.keep b o e n hb hx)
  ·obtain⟨sl,e1⟩:=I.base.slot b o e n hb hx;exact⟨sl,(hs.2 b (Nat.ne_of_lt (Nat.lt_of_lt_of_le (Heap.lt_size e) (I.ok.cab x c hfn hc)))).trans e1⟩
  ·obtain⟨o',e1⟩:=I.base.there b o e hx;exact⟨o',(hs.2 b (Nat.ne_of_lt (Nat.lt_of_lt_of_le (Heap.lt_size e) (I.ok.cab x c hfn hc)))).trans e1⟩
  ·by_cases hj:j=i
   ·subst hj;rw [hi]at e1;cases e1;rw [List.getElem?_set_self hiσ]at e2;cases e2;exact⟨u,r, .inr ⟨.inl hk,c,hc,hc'⟩⟩
   ·rw [List.getElem?_set_ne (Ne.symm hj)]at e2;obtain⟨u',r',q⟩:=hl j y v' e1 e2 e3;refine⟨u',r',?_⟩;rcases q with q |⟨k,c',e,z'⟩
    ·exact .inl q
    ·refine .inr ⟨k,c',e,z'.sameBut hs ?_⟩;rintro rfl;exact hj (zhe hN e1 (I.ok.inj _ _ _ e hc▸hi))
  ·by_cases hcc:c'=c
   ·subst hcc;exact⟨_,hc'⟩
   ·obtain⟨w2,z2⟩:=I.cell y c' e;exact⟨w2,z2.sameBut hs hcc⟩
  ·obtain⟨e,n,ne,nf,d⟩:=I.pin p hp;refine⟨(hs.2 p.1 ?_).trans e,n,ne,nf,d⟩;intro q;rw [q,hoc]at e;have q':oc=p.2:=Option.some.inj e;exact d w' (by rw [←q'];exact hocd)
theorem zfD{M:Model}{A:Around}{E:Value→Shared→Prop}{i:Nat}{x:Str}{v:V}{u:Value}{Q:Unit→Shared→Prop}(I:Inv X pins σ H s) (hN:X.N.Nodup) (hi:X.N[i]? =some x) (hx:Loc X.env.scope x) (r:RelV v u)
  (h:∀s',Inv X pins (σ.set i (some v)) H s'→Q () s') (hf:X.fn x=true∨X.env.scope.names.lookup x=some .local:=by first |exact .inl rfl |exact .inr rfl |assumption):wpAny M A (storeName X.env x u) Q E s:=
 zlZ I hN hi hx r (fun s' I' _=>h s' I') hf
theorem Inv.call'{s':Shared}{ch:List Addr}(I:Inv X pins σ H s) (ho:s'.os=s.os) (u:Un (frs X.stack) ch H H' s.heap s'.heap) (hok:HOk X.prog X.w H' s'.heap) (hg:AllBare s'.gens)
  (hch:∀b∈ch,(b∈X.ex∨X.s₀.heap.objs.size≤b)∧b≠X.env.locals∧(∀x c,X.env.cells.lookup x=some c→c≠b)∧ ∀p∈X.pn++pins,p.1≠b):Inv X pins σ H' s':=by
 obtain⟨h',g',d',t',o'⟩:=s';have e:o'=s.os:=ho;subst e;exact I.call (g':=g') (t':=t') (d':=d') u hok hg hch
end
noncomputable abbrev XK:=Value→Option Addr→Hp→Prop
noncomputable abbrev St:=List (Option V)
noncomputable abbrev VK:=V→Hp→Prop
noncomputable abbrev TE:=St→Hp→VK→Prop
noncomputable abbrev TT:=St→Hp→(Bool→Hp→Prop)→Prop
noncomputable abbrev TA:=St→Hp→(List V→Hp→Prop)→Prop
structure Ends where
  nx:St→Hp→Prop
  rt:VK
  bk:St→Hp→Prop:=fun _ _=>False
  ct:St→Hp→Prop:=fun _ _=>False
noncomputable abbrev TS:=Ends→St→Hp→Prop
noncomputable def EP (X:Cx) (pins:List (Addr×Obj)) (σ:St) (Q:VK) (u:Value) (s':Shared):Prop:=∃v H',Inv X pins σ H' s'∧RelV v u∧Q v H'
noncomputable def TP (X:Cx) (pins:List (Addr×Obj)) (σ:St) (Q:Bool→Hp→Prop) (b:Bool) (s':Shared):Prop:=∃H',Inv X pins σ H' s'∧Q b H'
noncomputable def AP (X:Cx) (pins:List (Addr×Obj)) (σ:St) (Q:List V→Hp→Prop) (us:List Value) (s':Shared):Prop:=∃vs H',Inv X pins σ H' s'∧Vals vs us∧Q vs H'
noncomputable def SP (X:Cx) (pins:List (Addr×Obj)) (D:Ends) (f:Flow) (s':Shared):Prop:=
 match f with
 | .next=>∃σ' H',Inv X pins σ' H' s'∧D.nx σ' H'
 | .brk=>∃σ' H',Inv X pins σ' H' s'∧D.bk σ' H'
 | .cont=>∃σ' H',Inv X pins σ' H' s'∧D.ct σ' H'
 | .ret u=>∃v σ' H',Inv X pins σ' H' s'∧RelV v u∧D.rt v H'
noncomputable def PE (X:Cx) (e:Expr) (t:TE):Prop:=
 ∀(pins:List (Addr×Obj)) (s:Shared) (σ:St) (H:Hp) (Q:VK),Inv X pins σ H s→t σ H Q→wpAny (model X.prog X.w) X.A (eval e X.env) (EP X pins σ Q) X.xe s
noncomputable def PT (X:Cx) (e:Expr) (t:TT):Prop:=
 ∀(pins:List (Addr×Obj)) (s:Shared) (σ:St) (H:Hp) (Q:Bool→Hp→Prop),Inv X pins σ H s→t σ H Q→wpAny (model X.prog X.w) X.A (isTrue e X.env (eval e X.env)) (TP X pins σ Q) X.xe s
noncomputable def PW (X:Cx) (e:Expr) (t:TT):Prop:=
 ∀(whole:Sem Value) (pins:List (Addr×Obj)) (s:Shared) (σ:St) (H:Hp) (Q:Bool→Hp→Prop),Inv X pins σ H s→t σ H Q→wpAny (model X.prog X.w) X.A (isTrue e X.env whole) (TP X pins σ Q) X.xe s
theorem PW.pt{X:Cx}{e:Expr}{t:TT}(h:PW X e t):PT X e t:=h _
noncomputable def PA (X:Cx) (es:List Expr) (t:TA):Prop:=
 ∀(pos:Pos) (pins:List (Addr×Obj)) (s:Shared) (σ:St) (H:Hp) (Q:List V→Hp→Prop),Inv X pins σ H s→t σ H Q→wpAny (model X.prog X.w) X.A (spliced (backTo pos (starEach es X.env))) (AP X pins σ Q) X.xe s
noncomputable def PS (X:Cx) (st:Stmt) (t:TS):Prop:=
 ∀(pins:List (Addr×Obj)) (s:Shared) (σ:St) (H:Hp) (D:Ends),Inv X pins σ H s→t D σ H→wpAny (model X.prog X.w) X.A (exec st X.env) (SP X pins D) X.xe s
noncomputable def PSs (X:Cx) (st:List Stmt) (t:TS):Prop:=
 ∀(pins:List (Addr×Obj)) (s:Shared) (σ:St) (H:Hp) (D:Ends),Inv X pins σ H s→t D σ H→wpAny (model X.prog X.w) X.A (execs st X.env) (SP X pins D) X.xe s
theorem thn{α:Type}{t:Sem α}{Q Q':α→Shared→Prop}{M:Model}{A:Around}{E:Value→Shared→Prop}{s:Shared}(h:wpAny M A t Q E s) (hQ:∀a s,Q a s→Q' a s):wpAny M A t Q' E s:=wpAny_mono h hQ fun _ _ x=>x
section
variable {X:Cx}
noncomputable def zvj (i:Nat):TE:=fun σ H Q=>∃v,σ[i]? =some (some v)∧Q v H
noncomputable def tC (v:V):TE:=fun _ H Q=>Q v H
theorem zmd{i:Nat}{x:Str}{pos:Pos}(hN:X.N[i]? =some x) (hv:Vis X.env.scope x) (hd:(x == ("__debug__" :Str))=false:=by decide) (hcd:(x == ("__classdict__" :Str))=false:=by decide):PE X (.Name x pos) (zvj i):=by
 intro pins s σ H Q I h;obtain⟨v,e,h⟩:=h;obtain⟨m,hn,hl⟩:=I.loc;obtain⟨u,r,l⟩:=hl i x v hN e hv;have fin:EP X pins σ Q u s:=⟨v,H,I,r,h⟩;rcases l with⟨hk,hm⟩ |⟨hk,c,hc,hcell⟩
 ·exact wpAny_Name (wpAny_loadName_local I.ok.kind hk hn hm fin) hd
 ·rcases hk with hk |hk
  ·exact wpAny_Name (wpAny_loadName_cell I.ok.kind hk hc hcell fin) hd
  ·exact wpAny_Name (wpAny_loadName_free I.ok.kind hk hc hcell fin hcd) hd
theorem zrN{i j pos}:PE X (.Constant (.int i) j pos) (tC (.int i)):=fun _ _ _ H _ I h=>wpAny_Constant_int ⟨.int i,H,I.tok _,⟨_,rfl⟩,h⟩
theorem zut{b j pos}:PE X (.Constant (.bool b) j pos) (tC (.bl b)):=fun _ _ _ H _ I h=>Constant_bool ⟨.bl b,H,I,rfl,h⟩
theorem zte{j pos}:PE X (.Constant .none j pos) (tC .non):=fun _ _ _ H _ I h=>Constant_none ⟨.non,H,I,rfl,h⟩
theorem zsa{x j pos}:PE X (.Constant (.str x) j pos) (tC (.str x)):=fun _ _ _ H _ I h=>Calls.Constant_str ⟨.str x,H,I.tok _,⟨_,rfl⟩,h⟩
noncomputable def Gl (X:Cx) (x:Str):Prop:=X.env.kindOf x=some .globalImplicit
theorem zfl{E:Value→Shared→Prop}{pins:List (Addr×Obj)}{s:Shared}{σ:St}{H:Hp}{x:Str}{u:Value}{pos:Pos}{Q:Value→Shared→Prop}(I:Inv X pins σ H s) (hg:Gl X x) (hm:X.mg x=some u) (h:Q u s)
  (hd:(x == ("__debug__" :Str))=false:=by decide):wpAny (model X.prog X.w) X.A (eval (.Name x pos) X.env) Q E s:=
 Calls.Name_function_global I.ok.kind hg (Calls.loadGlobal_global (by rw [I.ok.glob];exact I.mod.glob.keeps I.bk) hm h) hd
theorem zjZ{E:Value→Shared→Prop}{pins:List (Addr×Obj)}{s:Shared}{σ:St}{H:Hp}{x:Str}{u:Value}{pos:Pos}{Q:Value→Shared→Prop}(I:Inv X pins σ H s) (hg:Gl X x) (hm:X.mg x=none) (hv:bootBuiltins x=some u) (h:Q u s)
  (hn:x≠ "__name__" :=by decide) (hd:(x == ("__debug__" :Str))=false:=by decide):wpAny (model X.prog X.w) X.A (eval (.Name x pos) X.env) Q E s:=by
 obtain⟨mb,h1,h2⟩:=I.mod.blt;exact Calls.Name_function_global I.ok.kind hg (Calls.loadGlobal_builtin (by rw [I.ok.glob];exact I.mod.glob.keeps I.bk) hm (by rw [I.ok.blt];exact h1.keeps I.bk) ((h2 x hn).trans hv) h) hd
theorem zlY{x:Str}{v:V}{u:Value}{pos:Pos}(hg:Gl X x) (hm:X.mg x=some u) (r:RelV v u) (hd:(x == ("__debug__" :Str))=false:=by decide):PE X (.Name x pos) (tC v):=
 fun _ _ _ H _ I h=>zfl I hg hm ⟨v,H,I,r,h⟩ hd
theorem zlW{x:Str}{v:V}{u:Value}{pos:Pos}(hg:Gl X x) (hm:X.mg x=none) (hv:bootBuiltins x=some u) (r:RelV v u) (hn:x≠ "__name__" :=by decide) (hd:(x == ("__debug__" :Str))=false:=by decide):PE X (.Name x pos) (tC v):=
 fun _ _ _ H _ I h=>zjZ I hg hm hv ⟨v,H,I,r,h⟩ hn hd
variable {a b:Expr}{ta tb:TE}{pos:Pos}
variable {tA tB':TT}{rest:List Expr}
noncomputable def zuY (t u:TT):TT:=fun σ H Q=>t σ H fun c H1=>if c=true then u σ H1 Q else Q false H1
noncomputable def tOr (t u:TT):TT:=fun σ H Q=>t σ H fun c H1=>if c=true then Q true H1 else u σ H1 Q
noncomputable def zvp (t:TT):TT:=fun σ H Q=>t σ H fun c H1=>Q (!c) H1
theorem zqe (ha:PT X a tA):PW X (.BoolOp .And [a] pos) tA:=by
 intro wh pins s σ H Q I h;refine isTrue_and (thn (ha pins s σ H Q I h) fun c s1 e=>?_);cases c with
 |true=>exact isTrue_and_nil e
 |false=>exact e
theorem zqU (ha:PT X a tA):PW X (.BoolOp .Or [a] pos) tA:=by
 intro wh pins s σ H Q I h;refine isTrue_or (thn (ha pins s σ H Q I h) fun c s1 e=>?_);cases c with
 |false=>exact isTrue_or_nil e
 |true=>exact e
theorem zsf (ha:PT X a tA) (hb:PW X (.BoolOp .And (b::rest) pos) tB'):PW X (.BoolOp .And (a::b::rest) pos) (zuY tA tB'):=by
 intro wh pins s σ H Q I h;refine isTrue_and (thn (ha pins s σ H _ I h) fun c s1 ⟨H1,I1,q1⟩=>?_);cases c with
 |true=>exact hb wh pins s1 σ H1 Q I1 q1
 |false=>exact⟨H1,I1,q1⟩
theorem zul (ha:PT X a tA) (hb:PW X (.BoolOp .Or (b::rest) pos) tB'):PW X (.BoolOp .Or (a::b::rest) pos) (tOr tA tB'):=by
 intro wh pins s σ H Q I h;refine isTrue_or (thn (ha pins s σ H _ I h) fun c s1 ⟨H1,I1,q1⟩=>?_);cases c with
 |true=>exact⟨H1,I1,q1⟩
 |false=>exact hb wh pins s1 σ H1 Q I1 q1
theorem zra (ha:PT X a tA):PT X (.UnaryOp .Not a pos) (zvp tA):=by
 intro pins s σ H Q I h;exact isTrue_not (ha pins s σ H (fun c H1=>Q (!c) H1) I h)
noncomputable def zua (ta tb:TE):TE:=fun σ H Q=>ta σ H fun x H1=>∃c,x= .bl c∧if c=true then tb σ H1 Q else Q (.bl false) H1
noncomputable def zve (ta tb:TE):TE:=fun σ H Q=>ta σ H fun x H1=>∃c,x= .bl c∧if c=true then Q (.bl true) H1 else tb σ H1 Q
noncomputable def ztZ (ta:TE):TE:=fun σ H Q=>ta σ H fun x H1=>∃c,x= .bl c∧Q (.bl (!c)) H1
theorem zsw{op}{t:TE}(h:PE X a t):PE X (.BoolOp op [a] pos) t:=fun pins s σ H Q I hw=>BoolOp_one (h pins s σ H Q I hw)
theorem zrh (ha:PE X a ta) (hb:PE X (.BoolOp .And (b::rest) pos) tb):PE X (.BoolOp .And (a::b::rest) pos) (zua ta tb):=by
 intro pins s σ H Q I h;refine BoolOp_and (thn (ha pins s σ H _ I h) fun v s1 ⟨x,H1,I1,r1,q1⟩=>?_);obtain⟨c,rfl,q1⟩:=q1;cases r1;refine wpAny_truthy_bool ?_;cases c with
 |true=>exact hb pins s1 σ H1 Q I1 q1
 |false=>exact⟨.bl false,H1,I1,rfl,q1⟩
theorem zuh (ha:PE X a ta) (hb:PE X (.BoolOp .Or (b::rest) pos) tb):PE X (.BoolOp .Or (a::b::rest) pos) (zve ta tb):=by
 intro pins s σ H Q I h;refine BoolOp_or (thn (ha pins s σ H _ I h) fun v s1 ⟨x,H1,I1,r1,q1⟩=>?_);obtain⟨c,rfl,q1⟩:=q1;cases r1;refine wpAny_truthy_bool ?_;cases c with
 |false=>exact hb pins s1 σ H1 Q I1 q1
 |true=>exact⟨.bl true,H1,I1,rfl,q1⟩
theorem zsz (ha:PE X a ta):PE X (.UnaryOp .Not a pos) (ztZ ta):=by
 intro pins s σ H Q I h;refine UnaryOp_ (thn (ha pins s σ H _ I h) fun v s1 ⟨x,H1,I1,r1,q1⟩=>?_);obtain⟨c,rfl,q1⟩:=q1;cases r1;exact not_of (wpAny_truthy_bool ⟨.bl (!c),H1,I1,rfl,q1⟩)
end
noncomputable def SqL (K:PySem.W.Frag) (H:Hp) (a:Addr) (xs:List V):Prop:=
 Rd H a (.lst xs)∨
  ∃(o:Obj) (its:Array Value) (n:Nat),K.lookup a=some o∧o.cls= .type "list" ∧o.dict=none∧o.data= .seq its n∧its.size≤sizeLine∧Vals xs its.toList
noncomputable def SqT (K:PySem.W.Frag) (H:Hp) (a:Addr) (xs:List V):Prop:=
 Rd H a (.tup xs)∨
  ∃(o:Obj) (its:Array Value) (n:Nat),K.lookup a=some o∧o.cls= .type "tuple" ∧o.data= .seq its n∧its.size≤sizeLine∧Vals xs its.toList
noncomputable def zvB:Value→Option V
 | .none=>some .non
 | .bool b=>some (.bl b)
 | .int i _=>some (.int i)
 | .str x _=>some (.str x)
 | .bytes b _=>some (.byt b)
 | .float b _=>some (.flt b)
 | .ref a=>some (.ref a)
 | .type n=>some (.ty n)
 |_=>none
theorem RelV.abs{x:V}{u:Value}(r:RelV x u):zvB u=some x:=by
 cases x with
 |non=>cases r;rfl
 |bl _=>cases r;rfl
 |int _=>obtain⟨t,rfl⟩:=r;rfl
 |str _=>obtain⟨t,rfl⟩:=r;rfl
 |byt _=>obtain⟨t,rfl⟩:=r;rfl
 |flt _=>obtain⟨t,rfl⟩:=r;rfl
 |ref _=>cases r;rfl
 |ty _=>cases r;rfl
theorem RelV.inj{x y:V}{u:Value}(r:RelV x u) (q:RelV y u):x=y:=Option.some.inj (r.abs.symm.trans q.abs)
theorem Vals.inj:∀{xs ys:List V}{us:List Value},Vals xs us→Vals ys us→xs=ys
 |_,_,_, .nil, .nil=>rfl
 |_,_,_, .cons r t, .cons r' t'=>by rw [r.inj r',Vals.inj t t']
section
variable {X:Cx}{pins:List (Addr×Obj)}{σ:St}{H:Hp}{s:Shared}{a:Addr}{xs ys:List V}
theorem SqL.of{K:PySem.W.Frag}(h:H a=some (.lst xs)):SqL K H a xs:= .inl (.inl h)
theorem SqT.of{K:PySem.W.Frag}(h:H a=some (.tup xs)):SqT K H a xs:= .inl (.inl h)
theorem Inv.list (I:Inv X pins σ H s) (h:SqL X.K H a xs):∃its:List Value,Vals xs its∧PlainL s.heap a its.toArray∧xs.length≤sizeLine:=by
 rcases h with h |⟨o,its,n,hk,hc,hd,hs,hz,r⟩
 ·obtain⟨z,its,n,r,e⟩:=h.ok I.hok;exact⟨its,r,⟨_,n,e,rfl,rfl,rfl⟩,z⟩
 ·refine⟨its.toList,r,⟨o,n,I.kIn a o hk,hc,hd,by simpa using hs⟩,?_⟩
  have e:=r.length;simp only[Array.length_toList]at e;omega
theorem Inv.tuple (I:Inv X pins σ H s) (h:SqT X.K H a xs):∃its:List Value,Vals xs its∧IsTup s.heap a its.toArray∧xs.length≤sizeLine:=by
 rcases h with h |⟨o,its,n,hk,hc,hs,hz,r⟩
 ·obtain⟨z,its,r,p⟩:=h.ok I.hok;exact⟨its,r,p,z⟩
 ·refine⟨its.toList,r,⟨o,I.kIn a o hk,hc,n,by simpa using hs⟩,?_⟩
  have e:=r.length;simp only[Array.length_toList]at e;omega
theorem Inv.list_inj (I:Inv X pins σ H s) (h:SqL X.K H a xs) (h':SqL X.K H a ys):xs=ys:=by
 obtain⟨its,r,⟨o,n,e,_,_,d⟩,_⟩:=I.list h;obtain⟨its',r',⟨o',n',e',_,_,d'⟩,_⟩:=I.list h';rw [e]at e';cases e';rw [d]at d';injection d' with d1 _;have:its=its':=by simpa using congrArg Array.toList d1
 subst this;exact r.inj r'
theorem Inv.tuple_inj (I:Inv X pins σ H s) (h:SqT X.K H a xs) (h':SqT X.K H a ys):xs=ys:=by
 obtain⟨its,r,⟨o,e,_,n,d⟩,_⟩:=I.tuple h;obtain⟨its',r',⟨o',e',_,n',d'⟩,_⟩:=I.tuple h';rw [e]at e';cases e';rw [d]at d';injection d' with d1 _;have:its=its':=by simpa using congrArg Array.toList d1
 subst this;exact r.inj r'
end
noncomputable abbrev Cx.wish (X:Cx) (E:Value→Shared→Prop):Cx:={ X with xe:=E }
noncomputable abbrev Cx.nox (X:Cx):Cx:=X.wish fun _ _=>False
theorem Cx.Ok.wish{X:Cx}(ok:X.Ok) (E:Value→Shared→Prop):(X.wish E).Ok:=
 ⟨ok.mod,ok.kind,ok.glob,ok.blt,ok.above,ok.inj,ok.has,ok.cab,ok.hd,ok.frames,ok.stk,ok.exf,ok.bs,ok.bsz,ok.noex,ok.exfs,ok.funs,ok.frf⟩
theorem Cx.Ok.unwish{X:Cx}{E:Value→Shared→Prop}(ok:(X.wish E).Ok):X.Ok:=
 ⟨ok.mod,ok.kind,ok.glob,ok.blt,ok.above,ok.inj,ok.has,ok.cab,ok.hd,ok.frames,ok.stk,ok.exf,ok.bs,ok.bsz,ok.noex,ok.exfs,ok.funs,ok.frf⟩
section
variable {X:Cx}{pins:List (Addr×Obj)}{σ:St}{H:Hp}{s:Shared}{E:Value→Shared→Prop}
theorem Inv.wish (I:Inv X pins σ H s) (E:Value→Shared→Prop):Inv (X.wish E) pins σ H s:=⟨I.ok.wish E,I.os,I.bare,I.base,I.loc,I.cell,I.free,I.freeC,I.pin,I.hok,I.len⟩
theorem Inv.unwish (I:Inv (X.wish E) pins σ H s):Inv X pins σ H s:=⟨I.ok.unwish,I.os,I.bare,I.base,I.loc,I.cell,I.free,I.freeC,I.pin,I.hok,I.len⟩
theorem PE.nox{e:Expr}{t:TE}(h:PE X.nox e t):PE X e t:=fun pins s σ H Q I hw=>
 wpAny_mono (h pins s σ H Q (I.wish _) hw) (fun _ _ ⟨v,H',I',r,q⟩=>⟨v,H',I'.unwish,r,q⟩) fun _ _ z=>False.elim z
end
section
variable {X:Cx}{st:Stmt}{rest:List Stmt}{t u:TS}{e:Expr}{te:TE}{pos:Pos}
noncomputable def zug:TS:=fun D σ H=>D.nx σ H
noncomputable def zvx (t u:TS):TS:=fun D σ H=>t { D with nx:=u D } σ H
theorem pss_nil:PSs X [] zug:=fun _ _ σ H _ I h=>wpAny_execs_nil ⟨σ,H,I,h⟩
theorem znj (h1:PS X st t) (h2:PSs X rest u):PSs X (st::rest) (zvx t u):=by
 intro pins s σ H D I h;refine wpAny_execs_cons (thn (h1 pins s σ H { D with nx:=u D } I h) fun f s1 q=>?_);cases f with
 |next=>
  obtain⟨σ',H',I',q⟩:=q;exact h2 pins s1 σ' H' D I' q
 |ret v=>exact q
 |brk=>exact q
 |cont=>exact q
theorem zle (h1:PS X st t):PSs X [st] t:=by
 intro pins s σ H D I h;refine wpAny_execs_cons (thn (h1 pins s σ H D I h) fun f s1 q=>?_);cases f with
 |next=>exact wpAny_execs_nil q
 |ret v=>exact q
 |brk=>exact q
 |cont=>exact q
theorem Inv.quiet{pins:List (Addr×Obj)}{σ:St}{H:Hp}{s:Shared}(I:Inv X pins σ H s):interactive X.env=false:=by simp [interactive,I.ok.kind]
noncomputable def zuj (te:TE):TS:=fun D σ H=>te σ H fun _ H1=>D.nx σ H1
theorem zpe (he:PE X e te) (hs:swapsWith e none pos.line X.env=pure false:=by rfl):PS X (.Expr e pos) (zuj te):=by
 intro pins s σ H D I h;exact wpAny_Expr_any (thn (he pins s σ H _ I h) fun v s1 ⟨x,H1,I1,r1,q1⟩=>⟨σ,H1,I1,q1⟩) I.quiet hs
noncomputable def zvi (te:TE):TS:=fun D σ H=>te σ H D.rt
theorem zsi (he:PE X e te):PS X (.Return (some e) pos) (zvi te):=by
 intro pins s σ H D I h;exact wpAny_Return_some (thn (he pins s σ H _ I h) fun v s1 ⟨x,H1,I1,r1,q1⟩=>⟨x,σ,H1,I1,r1,q1⟩)
noncomputable def zvf (c:TT) (t u:TS):TS:=fun D σ H=>c σ H fun b H1=>if b=true then t D σ H1 else u D σ H1
theorem zrH{c:Expr}{a b:List Stmt}{tc:TT}(hc:PT X c tc) (ha:PSs X a t) (hb:PSs X b u):PS X (.If c a b pos) (zvf tc t u):=by
 intro pins s σ H D I h;refine wpAny_If (thn (hc pins s σ H _ I h) fun d s1 ⟨H1,I1,q1⟩=>?_);cases d with
 |true=>exact ha pins s1 σ H1 D I1 q1
 |false=>exact hb pins s1 σ H1 D I1 q1
end
noncomputable abbrev TG:=V→St→Hp→(St→Hp→Prop)→Prop
noncomputable def PG (X:Cx) (target:Expr) (t:TG):Prop:=
 ∀(pins:List (Addr×Obj)) (s:Shared) (σ:St) (H:Hp) (v:V) (u:Value) (Q:St→Hp→Prop),Inv X pins σ H s→RelV v u→t v σ H Q→
  wpAny (model X.prog X.w) X.A (assign target X.env u) (fun _ s'=>∃σ' H',Inv X pins σ' H' s'∧Q σ' H') X.xe s
noncomputable abbrev TIp:=V→V→Hp→VK→Prop
noncomputable def PIp (X:Cx) (op:Operator) (t:TIp):Prop:=
 ∀(pins:List (Addr×Obj)) (s:Shared) (σ:St) (H:Hp) (x y:V) (v u:Value) (Q:VK),Inv X pins σ H s→RelV x v→RelV y u→t x y H Q→
  wpAny (model X.prog X.w) X.A (inplaceOp op v u) (EP X pins σ Q) X.xe s
section
variable {X:Cx}{pos:Pos}
noncomputable def zrG (i:Nat):TG:=fun v σ H Q=>Q (σ.set i (some v)) H
theorem zpi{i:Nat}{x:Str}(hN:X.N.Nodup) (hi:X.N[i]? =some x) (hx:Loc X.env.scope x) (hf:X.fn x=true∨X.env.scope.names.lookup x=some .local:=by first |exact .inl rfl |exact .inr rfl |assumption):PG X (.Name x pos) (zrG i):=by
 intro pins s σ H v u Q I r h;exact wpAny_assign_Name (zfD I hN hi hx r (fun s' I'=>⟨_,H,I',h⟩) hf)
noncomputable def zvd (te:TE) (g:TG):TS:=fun D σ H=>te σ H fun x H1=>g x σ H1 D.nx
theorem zoN{i:Nat}{x:Str}{e:Expr}{te:TE}{pos':Pos}(hN:X.N.Nodup) (hi:X.N[i]? =some x) (hx:Loc X.env.scope x) (he:PE X e te) (hs:swapsWith e (some (.Name x pos')) pos.line X.env=pure false:=by rfl) (hf:X.fn x=true∨X.env.scope.names.lookup x=some .local:=by first |exact .inl rfl |exact .inr rfl |assumption) :
  PS X (.Assign [.Name x pos'] e pos) (zvd te (zrG i)):=by
 intro pins s σ H D I h;refine wpAny_Assign_Name (thn (he pins s σ H _ I h) fun v s1 ⟨y,H1,I1,r1,q1⟩=>?_) hs;exact zfD I1 hN hi hx r1 (fun s2 I2=>⟨_,H1,I2,q1⟩) hf
noncomputable def zvX (i:Nat) (te:TE) (ti:TIp):TS:=fun D σ H=>∃x,σ[i]? =some (some x)∧te σ H fun y H1=>ti x y H1 fun z H2=>D.nx (σ.set i (some z)) H2
theorem zrj{i:Nat}{x:Str}{e:Expr}{te:TE}{op:Operator}{ti:TIp}{pos':Pos}(hN:X.N.Nodup) (hi:X.N[i]? =some x) (hx:Loc X.env.scope x) (he:PE X e te) (ho:PIp X op ti) (hf:X.fn x=true∨X.env.scope.names.lookup x=some .local:=by first |exact .inl rfl |exact .inr rfl |assumption) :
  PS X (.AugAssign (.Name x pos') op e pos) (zvX i te ti):=by
 intro pins s σ H D I h;obtain⟨v,e1,h⟩:=h;obtain⟨m,hn,hl⟩:=I.loc;have vis:Vis X.env.scope x:=by rcases hx with k |k;exact .inl k;exact .inr (.inl k)
 obtain⟨u,r,l⟩:=hl i x v hi e1 vis;refine wpAny_AugAssign_Name ?_;have go:wpAny (model X.prog X.w) X.A (eval e X.env) (fun w s₂=>wpAny (model X.prog X.w) X.A (inplaceOp op u w) (fun r s₃=>wpAny (model X.prog X.w) X.A (storeName X.env x r) (fun _=>SP X pins D .next) X.xe s₃) X.xe s₂) X.xe s:=by
  refine thn (he pins s σ H _ I h) fun w s1 ⟨y,H1,I1,r1,q1⟩=>?_;refine thn (ho pins s1 σ H1 v y u w _ I1 r r1 q1) fun z s2 ⟨zv,H2,I2,r2,q2⟩=>?_;exact zfD I2 hN hi hx r2 (fun s3 I3=>⟨_,H2,I3,q2⟩) hf
 rcases l with⟨hk,hm⟩ |⟨hk,c,hc,hcell⟩
 ·exact wpAny_loadName_local I.ok.kind hk hn hm go
 ·rcases hk with hk |hk
  ·exact wpAny_loadName_cell I.ok.kind hk hc hcell go
  ·rcases hx with k |k
   ·have:X.env.scope.names.lookup x=some .free:=hk;rw [k]at this;cases this
   ·have:X.env.scope.names.lookup x=some .free:=hk;rw [k]at this;cases this
noncomputable def ipI (f:Int→Int→Int):TIp:=fun x y H Q=>∃i j,x= .int i∧y= .int j∧Q (.int (f i j)) H
theorem zri:PIp X .Add (ipI fun i j=>i+j):=by
 intro pins s σ H x y v u Q I r1 r2 h;obtain⟨i,j,e1,e2,q⟩:=h;subst e1;subst e2;obtain⟨t,rfl⟩:=r1;obtain⟨t',rfl⟩:=r2;exact iadd_int ⟨.int _,H,I.tok _,⟨_,rfl⟩,q⟩
end
section
variable {X:Cx}{pos:Pos}
noncomputable def zrf (c:TT) (tb:TS):TS:=fun D σ H=>∃W:Nat→St→Hp→Prop,(∃m,W m σ H)∧ ∀m σ H,W m σ H→
 c σ H fun b H1=>if b=true then ∃N:St→Hp→Prop,(∀σ' H',N σ' H'→ ∃m',m'<m∧W m' σ' H')∧tb { D with nx:=N,ct:=N,bk:=D.nx } σ H1 else D.nx σ H1
theorem zom{c:Expr}{body:List Stmt}{tc:TT}{tb:TS}(hp:PassesOwn (model X.prog X.w) X.A X.env X.xe) (hc:PT X c tc) (hb:PSs X body tb):PS X (.While c body [] pos) (zrf tc tb):=by
 intro pins s σ H D I h;obtain⟨W,⟨m0,w0⟩,turn⟩:=h;refine wpAny_While (codeAny_whileLoop (fun n s'=>∃σ' H',Inv X pins σ' H' s'∧W n σ' H') ?_ m0 ⟨σ,H,I,w0⟩);rintro n s1 ⟨σ1,H1,I1,w1⟩;refine wpAny_passesOwn hp (thn (hc pins s1 σ1 H1 _ I1 (turn n σ1 H1 w1)) fun b s2 ⟨H2,I2,q2⟩=>?_);cases b with
 |true=>
  obtain⟨N,hN,q2⟩:=q2;rw [if_pos rfl];refine wpAny_passesOwn hp (thn (hb pins s2 σ1 H2 _ I2 q2) fun f s3 q3=>?_);cases f with
  |next=>
   obtain⟨σ3,H3,I3,n3⟩:=q3;obtain⟨m',hm,w3⟩:=hN σ3 H3 n3;exact⟨m',hm,σ3,H3,I3,w3⟩
  |cont=>
   obtain⟨σ3,H3,I3,n3⟩:=q3;obtain⟨m',hm,w3⟩:=hN σ3 H3 n3;exact⟨m',hm,σ3,H3,I3,w3⟩
  |brk=>exact q3
  |ret v=>exact q3
 |false=>
  rw [if_neg Bool.false_ne_true];exact wpAny_execs_nil ⟨σ1,H2,I2,q2⟩
end
structure It where
  go:Nat→Hp→Prop
  yld:Nat→Hp→V→Hp→Prop
  stop:Nat→Hp→Prop
noncomputable def zjg (X:Cx) (pins:List (Addr×Obj)) (H:Hp) (b:Addr):Prop:=
 H b=none∧b≠X.env.locals∧b∉X.fs∧(b∈X.ex∨X.s₀.heap.objs.size≤b)∧(∀x c,X.env.cells.lookup x=some c→c≠b)∧ ∀p∈X.pn++pins,p.1≠b
theorem Inv.fpOk{X:Cx}{pins:List (Addr×Obj)}{σ:St}{H H':Hp}{s:Shared}{b:Addr}(I:Inv X pins σ H s) (hb:s.heap.objs.size≤b) (hn:H' b=none):zjg X pins H' b:=by
 refine⟨hn,Nat.ne_of_gt (Nat.lt_of_lt_of_le I.lt hb),I.nofs hb, .inr (Nat.le_trans I.sz hb),fun x c e z=>?_,fun p hp z=>?_⟩
 ·obtain⟨v,q⟩:=I.cell x c e;exact absurd (Nat.lt_of_lt_of_le q.lt (by rw [z];exact hb)) (Nat.lt_irrefl _)
 ·exact absurd (Nat.lt_of_lt_of_le (Heap.lt_size (I.pin p hp).1) (by rw [z];exact hb)) (Nat.lt_irrefl _)
structure Turn (P:Program) (w:World) (K:PySem.W.Frag) (tg:Expr) (J:It) (fp:List Addr) (it:Addr) (tn:Nat→Heap→Prop):Prop where
  mem:it∈fp
  obj:∀i h,tn i h→ ∀b∈fp,∃o,h.get? b=some o∧ ∀v,o.data≠ .cell v
  keep:∀i h h',tn i h→(∀b∈fp,∀o,h.get? b=some o→h'.get? b=some o)→tn i h'
  item:∀(X:Cx),X.prog=P→X.w=w→X.K=K→X.calm=true→ ∀(i:Nat) (pins:List (Addr×Obj)) (s:Shared) (σ:St) (H:Hp) (E:Value→Shared→Prop),Inv X pins σ H s→(∀b∈fp,zjg X pins H b)→tn i s.heap→J.go i H→
    wpAny (model P w) X.A (pyNext (.ref it)) (fun r s1=>∃u,r=some u∧
      wpAny (model P w) X.A (letOwnedTupleGo tg (.ref it) u) (fun _ s2=>∃x H',Inv X pins σ H' s2∧RelV x u∧J.yld i H x H'∧tn (i+1) s2.heap∧ ∀b∈fp,H' b=none) E s1) E s
  done:∀(X:Cx),X.prog=P→X.w=w→X.K=K→X.calm=true→ ∀(i:Nat) (pins:List (Addr×Obj)) (s:Shared) (σ:St) (H:Hp) (E:Value→Shared→Prop),Inv X pins σ H s→(∀b∈fp,zjg X pins H b)→tn i s.heap→J.stop i H→
    wpAny (model P w) X.A (pyNext (.ref it)) (fun r s1=>r=none∧Inv X pins σ H s1) E s
  self:∀(A:Around) (i:Nat) (s:Shared) (Q:Value→Shared→Prop) (E:Value→Shared→Prop),tn i s.heap→Q (.ref it) s→wpAny (model P w) A (pyIter (.ref it)) Q E s
noncomputable abbrev TI:=St→Hp→(It→Hp→Prop)→Prop
noncomputable def PIE (X:Cx) (pins:List (Addr×Obj)) (σ:St) (tg:Expr) (R:It→Hp→Prop) (itv:Value) (s2:Shared):Prop:=
 ∃(it:Addr) (fp:List Addr) (tn:Nat→Heap→Prop) (J:It) (H':Hp),itv= .ref it∧Inv X pins σ H' s2∧Turn X.prog X.w X.K tg J fp it tn∧tn 0 s2.heap∧(∀b∈fp,zjg X pins H' b)∧R J H'
noncomputable def PI (X:Cx) (tg iter:Expr) (wi:TI):Prop:=
 ∀(pins:List (Addr×Obj)) (s:Shared) (σ:St) (H:Hp) (R:It→Hp→Prop),Inv X pins σ H s→wi σ H R→
  wpAny (model X.prog X.w) X.A (eval iter X.env) (fun v s1=>wpAny (model X.prog X.w) X.A (pyIter v) (PIE X pins σ tg R) X.xe s1) X.xe s
theorem znd{M:Model}{A:Around}{E:Value→Shared→Prop}{s:Shared}{tg:Expr}{it:Addr}{u:Value}{o:Obj}{n:String}{vs:Array Value}{Q:Unit→Shared→Prop}(ho:s.heap.get? it=some o) (hc:o.cls= .type n) (hd:o.data= .fields vs)
    (hn: ["enumerate", "zip", "dict_itemiterator", "dict_reverseitemiterator", "odict_iterator", "itertools.zip_longest", "itertools.pairwise"].contains n=false) (hQ:Q () s):wpAny M A (letOwnedTupleGo tg (.ref it) u) Q E s:=by
  unfold letOwnedTupleGo;cases tg<;>first
    |exact wpAny_pure hQ
    | (cases u<;>first
        |exact wpAny_pure hQ
        | (refine wpAny_bind (wpAny_load ho ?_)
           rw [hc,hd];show wpAny M A (if(["enumerate", "zip", "dict_itemiterator", "dict_reverseitemiterator", "odict_iterator", "itertools.zip_longest", "itertools.pairwise"].contains n&&vs[0]? == some (rawInt _))=true then _ else _) Q E s;rw [if_neg (by intro h;rw [hn,Bool.false_and]at h;cases h)];exact wpAny_pure hQ))
noncomputable def Itl (K:PySem.W.Frag) (a:Addr):It:=
 ⟨fun i H=>∃xs x,SqL K H a xs∧xs[i]? =some x,fun i H x H'=>H'=H∧ ∀xs,SqL K H a xs→xs[i]? =some x,fun i H=>∃xs,SqL K H a xs∧xs.length≤i⟩
noncomputable def Itt (K:PySem.W.Frag) (a:Addr):It:=
 ⟨fun i H=>∃xs x,SqT K H a xs∧xs[i]? =some x,fun i H x H'=>H'=H∧ ∀xs,SqT K H a xs→xs[i]? =some x,fun i H=>∃xs,SqT K H a xs∧xs.length≤i⟩
noncomputable def Itr (lo:Int) (n:Nat):It:=⟨fun i _=>i<n,fun i H x H'=>H'=H∧x= .int (lo+i),fun i _=>n≤i⟩
theorem zls{P:Program}{w:World}{K:PySem.W.Frag}{tg:Expr}(a it:Addr):Turn P w K tg (Itl K a) [it] it (fun i h=>h.IsListIter it a i) where
  mem:=by simp
  obj:=fun i h st b hb=>by
    have e:b=it:=by simpa using hb
    subst e;obtain⟨o,e,c,d⟩:=st;exact⟨o,e,fun v z=>by rw [d]at z;cases z⟩
  keep:=fun i h h' st k=>st.at fun o e=>k it (by simp) o e
  item:=by
    intro X hP hw hK hc i pins s σ H E I hf st hg;subst hP hw hK;obtain⟨xs,x,hq,hx⟩:=hg;obtain⟨its,rv,p,hz⟩:=I.list hq;obtain⟨u,hu,ru⟩:=rv.get hx;obtain⟨f0,f1,f2,f3,f4,f5⟩:=hf it (by simp);refine wpAny_pyNext_list_item st p.isList (x:=u) (by simpa using hu) fun h' st' sb=>?_;have I1:Inv X pins σ H { s with heap:=h' }:=I.turned (t':=s.toks) (fun b o hb e=>(sb.2 b hb).trans e) f0 f1 f3 f4 f5;obtain⟨o,e,c,d⟩:=id st';exact⟨u,rfl,znd (s:={ s with heap:=h' }) e c d (by decide) ⟨x,H,I1,ru,⟨rfl,fun ys hy=>by rw [I.list_inj hy hq];exact hx⟩,st',fun b hb=>(hf b hb).1⟩⟩
  done:=by
    intro X hP hw hK hc i pins s σ H E I hf st hg;subst hP hw hK;obtain⟨xs,hq,hx⟩:=hg;obtain⟨its,rv,p,hz⟩:=I.list hq;obtain⟨f0,f1,f2,f3,f4,f5⟩:=hf it (by simp);have hl:=rv.length;exact wpAny_pyNext_list_end (I.ok.hd hc) st p.isList (by simp;omega) fun h' eb=>⟨rfl,I.turned (t':=s.toks) (fun b o hb e=>eb b o hb e) f0 f1 f3 f4 f5⟩
  self:=fun _ _ _ _ _ st h=>wpAny_pyIter_listiter st h
theorem zkq{P:Program}{w:World}{K:PySem.W.Frag}{tg:Expr}(a it:Addr):Turn P w K tg (Itt K a) [it] it (fun i h=>h.IsTupleIter it a i) where
  mem:=by simp
  obj:=fun i h st b hb=>by
    have e:b=it:=by simpa using hb
    subst e;obtain⟨o,e,c,d⟩:=st;exact⟨o,e,fun v z=>by rw [d]at z;cases z⟩
  keep:=fun i h h' st k=>st.at fun o e=>k it (by simp) o e
  item:=by
    intro X hP hw hK hc i pins s σ H E I hf st hg;subst hP hw hK;obtain⟨xs,x,hq,hx⟩:=hg;obtain⟨its,rv,p,hz⟩:=I.tuple hq;obtain⟨u,hu,ru⟩:=rv.get hx;obtain⟨f0,f1,f2,f3,f4,f5⟩:=hf it (by simp);refine wpAny_pyNext_tuple_item st (show s.heap.IsTuple a its.toArray from p) (x:=u) (by simpa using hu) fun h' st' sb=>?_;have I1:Inv X pins σ H { s with heap:=h' }:=I.turned (t':=s.toks) (fun b o hb e=>(sb.2 b hb).trans e) f0 f1 f3 f4 f5;obtain⟨o,e,c,d⟩:=id st';exact⟨u,rfl,znd (s:={ s with heap:=h' }) e c d (by decide) ⟨x,H,I1,ru,⟨rfl,fun ys hy=>by rw [I.tuple_inj hy hq];exact hx⟩,st',fun b hb=>(hf b hb).1⟩⟩
  done:=by
    intro X hP hw hK hc i pins s σ H E I hf st hg;subst hP hw hK;obtain⟨xs,hq,hx⟩:=hg;obtain⟨its,rv,p,hz⟩:=I.tuple hq;obtain⟨f0,f1,f2,f3,f4,f5⟩:=hf it (by simp);have hl:=rv.length;exact wpAny_pyNext_tuple_end (I.ok.hd hc) st (show s.heap.IsTuple a its.toArray from p) (by simp;omega) fun h' eb=>⟨rfl,I.turned (t':=s.toks) (fun b o hb e=>eb b o hb e) f0 f1 f3 f4 f5⟩
  self:=fun _ _ _ _ _ st h=>wpAny_pyIter_tupleiter st h
theorem zkB{P:Program}{w:World}{K:PySem.W.Frag}{tg:Expr}(it:Addr) (lo:Int) (n:Nat):Turn P w K tg (Itr lo n) [it] it (fun i h=>IsRangeIter h it (lo+(i:Nat)*1) ((n:Int) - (i:Nat)) 1) where
  mem:=by simp
  obj:=fun i h st b hb=>by
    have e:b=it:=by simpa using hb
    subst e;exact⟨_,st,fun v z=>by
      have z':Data.fields _=Data.cell v:=z;cases z'⟩
  keep:=fun i h h' st k=>k it (by simp) _ st
  item:=by
    intro X hP hw hK hc i pins s σ H E I hf st hg;subst hP hw hK;obtain⟨f0,f1,f2,f3,f4,f5⟩:=hf it (by simp);have W:=Walks.range (prog:=X.prog) (w:=X.w) (I.ok.hd hc) it lo 1 n;refine W.item i s _ _ hg st fun v h' tk hv st' kk=>?_;obtain⟨t,rfl⟩:=hv;have I1:Inv X pins σ H { s with heap:=h',toks:=tk }:=I.turned (fun b o hb e=>kk b o (by simpa using hb) e) f0 f1 f3 f4 f5;refine⟨_,rfl,znd (s:={ s with heap:=h',toks:=tk }) (n:= "range_iterator") st' rfl rfl (by decide) ⟨.int (lo+i),H,I1,⟨t,?_⟩,⟨rfl,rfl⟩,st',fun b hb=>(hf b hb).1⟩⟩;rw [Int.mul_one]
  done:=by
    intro X hP hw hK hc i pins s σ H E I hf st hg;subst hP hw hK;obtain⟨f0,f1,f2,f3,f4,f5⟩:=hf it (by simp);exact wpAny_pyNext_range_end (I.ok.hd hc) st (by have:n≤i:=hg;omega) fun h' eb=>⟨rfl,I.turned (t':=s.toks) (fun b o hb e=>eb b o hb e) f0 f1 f3 f4 f5⟩
  self:=fun _ _ _ _ _ st h=>wpAny_pyIter_rangeiter st h
section
variable {X:Cx}{tg:Expr}
theorem zoo{pins:List (Addr×Obj)}{σ:St}{H:Hp}{s:Shared}{R:It→Hp→Prop}{E:Value→Shared→Prop}{lo hi:Int}{t u v:Tok}{tk:Nat}(I:Inv X pins σ H s) (h1: -(2 ^ 62)≤lo) (h2:lo<2 ^ 62) (h3: -(2 ^ 62)≤hi) (h4:hi<2 ^ 62)
  (q:R (Itr lo (hi - lo).toNat) H):wpAny (model X.prog X.w) X.A (pyIter (.ref s.heap.objs.size)) (PIE X pins σ tg R) E { s with heap:=s.heap.push { cls:= .type "range",data:= .fields #[.int lo t, .int hi u, .int 1 v] },toks:=tk }:=by
 refine wpAny_pyIter_range (IsRange.new ..) (small_one h1 h2 h3 h4) ?_;have I1:Inv X pins σ H { s with heap:=s.heap.push { cls:= .type "range",data:= .fields #[.int lo t, .int hi u, .int 1 v] },toks:=tk }:=I.kept fun b o e=>Heap.get?_push_of_some _ e;refine⟨(s.heap.push { cls:= .type "range",data:= .fields #[.int lo t, .int hi u, .int 1 v] }).objs.size,[(s.heap.push { cls:= .type "range",data:= .fields #[.int lo t, .int hi u, .int 1 v] }).objs.size],_,_,H,rfl,
  I1.kept (t':=tk) fun b o e=>Heap.get?_push_of_some _ e,zkB _ lo (hi - lo).toNat,?_,fun b hb=>?_,q⟩
 ·have e1:lo+((0:Nat):Int)*1=lo:=by simp
  have e2:(((hi - lo).toNat:Nat):Int) - ((0:Nat):Int)=Builtin.Range.rangeSize lo hi 1:=by rw [rangeSize_one];split<;>omega
  show IsRangeIter _ _ (lo+((0:Nat):Int)*1) ((((hi - lo).toNat:Nat):Int) - ((0:Nat):Int)) 1;rw [e1,e2];exact Heap.get?_push_size _ rfl
 ·have e:b=(s.heap.push { cls:= .type "range",data:= .fields #[.int lo t, .int hi u, .int 1 v] }).objs.size:=by simpa using hb
  subst e;exact I1.fpOk (Nat.le_refl _) (I1.hok.fresh (Nat.le_refl _))
noncomputable def ztC (ta:TA):TI:=fun σ H R=>ta σ H fun vs H1=>∃j:Int,vs=[.int j]∧ -(2 ^ 62)≤j∧j<2 ^ 62∧R (Itr 0 j.toNat) H1
theorem zkR{a:Expr}{ta:TA}{p pos:Pos}(hg:Gl X "range") (hm:X.mg "range" =none) (ha:PA X [a] ta) (hs:starEach [a] X.env=[(false,eval a X.env)]:=by rfl):PI X tg (.Call (.Name "range" p) [a] [] pos) (ztC ta):=by
 intro pins s σ H R I h;refine Call_ (zjZ I hg hm boot_range (PyProof.Rows.callWith_type1 (thn (ha pos pins s σ H _ I h) fun us s1 ⟨vs,H1,I1,r1,q1⟩=>?_) hs rfl));obtain⟨j,e,q1,q2,q⟩:=q1;subst e;cases r1 with
 |cons r rr=>
  cases rr;obtain⟨t,rfl⟩:=r;exact call_range_1 (zoo I1 (by omega) (by omega) q1 q2 (by simpa using q))
noncomputable def zvu (wi:TI) (g:TG) (tb:TS):TS:=fun D σ H=>wi σ H fun J H1=>∃W:Nat→Nat→St→Hp→Prop,(∃m,W 0 m σ H1)∧ ∀i m σ H,W i m σ H→
 (J.stop i H∧D.nx σ H)∨(J.go i H∧ ∃N:St→Hp→Prop,(∀σ' H',N σ' H'→ ∃m',m'<m∧W (i+1) m' σ' H')∧ ∀x H',J.yld i H x H'→g x σ H' fun σ2 H2=>tb { D with nx:=N,ct:=N,bk:=D.nx } σ2 H2)
noncomputable def zhK (fp:List Addr) (h:Heap):List (Addr×Obj):=fp.filterMap fun b=>(h.get? b).map fun o=>(b,o)
theorem zeu{fp:List Addr}{h:Heap}{b:Addr}{o:Obj}(hb:b∈fp) (e:h.get? b=some o):(b,o)∈zhK fp h:=List.mem_filterMap.mpr ⟨b,hb,by rw [e];rfl⟩
theorem zlN{fp:List Addr}{h:Heap}{p:Addr×Obj}(hp:p∈zhK fp h):p.1∈fp∧h.get? p.1=some p.2:=by
 obtain⟨b,hb,e⟩:=List.mem_filterMap.mp hp;cases q:h.get? b with
 |none=>rw [q]at e;cases e
 |some o=>
  rw [q]at e;have e':(b,o)=p:=Option.some.inj e;subst e';exact⟨hb,q⟩
theorem Inv.pinned{pins:List (Addr×Obj)}{σ:St}{H:Hp}{s:Shared}{fp:List Addr}(I:Inv X pins σ H s) (hf:∀b∈fp,zjg X pins H b) (ho:∀b∈fp,∃o,s.heap.get? b=some o∧ ∀v,o.data≠ .cell v):Inv X (pins++zhK fp s.heap) σ H s:=
 I.pins_of fun p hp=>(List.mem_append.mp hp).elim (fun z=>I.pin p (List.mem_append_right _ z)) fun z=>by
  obtain⟨hb,e⟩:=zlN z;obtain⟨f0,f1,f2,_⟩:=hf p.1 hb;obtain⟨o,e',d⟩:=ho p.1 hb;rw [e]at e';cases e';exact⟨e,f0,f1,f2,d⟩
theorem Inv.unpinned{pins pl:List (Addr×Obj)}{σ:St}{H:Hp}{s:Shared}(I:Inv X (pins++pl) σ H s):Inv X pins σ H s:=I.pins_of fun p hp=>I.pin p (List.mem_append_right _ (List.mem_append_left _ hp))
theorem zrI{iter:Expr}{body:List Stmt}{wi:TI}{g:TG}{tb:TS}{pos:Pos}(hp:PassesOwn (model X.prog X.w) X.A X.env X.xe) (hc:X.calm=true) (hi:PI X tg iter wi) (hg:PG X tg g) (hb:PSs X body tb)
  (hs:∀x,foldedSetIterable iter X.env x=pure x:=by intro _;rfl):PS X (.For tg iter body [] pos) (zvu wi g tb):=by
 intro pins s σ H D I h;refine wpAny_For (thn (hi pins s σ H _ I h) fun v s1 h1=>thn h1 fun itv s2 h2=>?_) hs;obtain⟨it,fp,tn,J,H2,e,I2,T,st2,f2,W,⟨m0,w0⟩,turn⟩:=h2;subst e;have stat:∀{H':Hp},(∀b∈fp,H' b=none)→ ∀b∈fp,zjg X pins H' b:=fun hn b hb=>⟨hn b hb,(f2 b hb).2⟩;refine codeAny_forLoop_any (fun n s'=>∃i σ' H',Inv X pins σ' H' s'∧tn i s'.heap∧(∀b∈fp,H' b=none)∧W i n σ' H') ?_ m0 ⟨0,σ,H2,I2,st2,fun b hb=>(f2 b hb).1,w0⟩;rintro n s3 ⟨i,σ3,H3,I3,st3,fr3,w3⟩;rcases turn i n σ3 H3 w3 with⟨stop,qn⟩ |⟨go,N,hN,step⟩
 ·refine wpAny_passesOwn hp (thn (T.done X rfl rfl rfl hc i pins s3 σ3 H3 X.xe I3 (stat fr3) st3 stop) fun r s4 ⟨hr,I4⟩=>?_);subst hr;exact wpAny_execs_nil ⟨σ3,H3,I4,qn⟩
 ·refine wpAny_passesOwn hp (thn (T.item X rfl rfl rfl hc i pins s3 σ3 H3 X.xe I3 (stat fr3) st3 go) fun r s4 ⟨u,hr,h4⟩=>?_);subst hr;refine wpAny_passesOwn hp (thn h4 fun _ s5 ⟨x,H5,I5,r5,y5,st5,fr5⟩=>?_);have I5':=I5.pinned (stat fr5) (T.obj _ _ st5);refine wpAny_passesOwn hp (thn (hg _ s5 σ3 H5 x u _ I5' r5 (step x H5 y5)) fun _ s6 ⟨σ6,H6,I6,q6⟩=>?_);refine wpAny_passesOwn hp (thn (hb _ s6 σ6 H6 _ I6 q6) fun f s7 q7=>?_);have again:∀{σ7:St}{H7:Hp},Inv X (pins++zhK fp s5.heap) σ7 H7 s7→N σ7 H7→ ∃m,m<n∧ ∃i σ' H',Inv X pins σ' H' s7∧tn i s7.heap∧(∀b∈fp,H' b=none)∧W i m σ' H':=fun {σ7 H7} I7 n7=>by
   obtain⟨m',hm,w7⟩:=hN σ7 H7 n7;refine⟨m',hm,i+1,σ7,H7,I7.unpinned,T.keep _ _ _ st5 fun b hb o e=>(I7.pin (b,o) (List.mem_append_right _ (List.mem_append_right _ (zeu hb e)))).1,fun b hb=>?_,w7⟩;obtain⟨o,e,d⟩:=T.obj _ _ st5 b hb;exact(I7.pin (b,o) (List.mem_append_right _ (List.mem_append_right _ (zeu hb e)))).2.1
  cases f with
  |next=>obtain⟨σ7,H7,I7,n7⟩:=q7;exact again I7 n7
  |cont=>obtain⟨σ7,H7,I7,n7⟩:=q7;exact again I7 n7
  |brk=>obtain⟨σ7,H7,I7,q7⟩:=q7;exact⟨σ7,H7,I7.unpinned,q7⟩
  |ret v=>obtain⟨x7,σ7,H7,I7,r7,q7⟩:=q7;exact⟨x7,σ7,H7,I7.unpinned,r7,q7⟩
end
noncomputable abbrev R2:=V→V→Hp→VK→Prop
noncomputable def OpR (X:Cx) (f:Value→Value→Sem Value) (r:R2):Prop:=
 ∀(pins:List (Addr×Obj)) (s:Shared) (σ:St) (H:Hp) (x y:V) (v u:Value) (Q:VK),Inv X pins σ H s→RelV x v→RelV y u→r x y H Q→
  wpAny (model X.prog X.w) X.A (f v u) (EP X pins σ Q) X.xe s
noncomputable def UnR (X:Cx) (f:Value→Sem Value) (r:V→Hp→VK→Prop):Prop:=
 ∀(pins:List (Addr×Obj)) (s:Shared) (σ:St) (H:Hp) (x:V) (v:Value) (Q:VK),Inv X pins σ H s→RelV x v→r x H Q→
  wpAny (model X.prog X.w) X.A (f v) (EP X pins σ Q) X.xe s
noncomputable def CallR (X:Cx) (f:Value) (r:List V→Hp→VK→Prop):Prop:=
 ∀(pins:List (Addr×Obj)) (s:Shared) (σ:St) (H:Hp) (xs:List V) (us:List Value) (Q:VK),Inv X pins σ H s→Vals xs us→r xs H Q→
  wpAny (model X.prog X.w) X.A (call f us) (EP X pins σ Q) X.xe s
noncomputable def zvD (X:Cx) (r:V→Hp→(Bool→Hp→Prop)→Prop):Prop:=
 ∀(pins:List (Addr×Obj)) (s:Shared) (σ:St) (H:Hp) (x:V) (v:Value) (Q:Bool→Hp→Prop),Inv X pins σ H s→RelV x v→r x H Q→
  wpAny (model X.prog X.w) X.A (truthy v) (TP X pins σ Q) X.xe s
noncomputable def tOp (r:R2) (ta tb:TE):TE:=fun σ H Q=>ta σ H fun x H1=>tb σ H1 fun y H2=>r x y H2 Q
noncomputable def tUn (r:V→Hp→VK→Prop) (ta:TE):TE:=fun σ H Q=>ta σ H fun x H1=>r x H1 Q
noncomputable def rI (C:Int→Int→Prop) (g:Int→Int→V):R2:=fun x y H Q=>∃i j,x= .int i∧y= .int j∧C i j∧Q (g i j) H
noncomputable def rI0 (g:Int→Int→V):R2:=fun x y H Q=>∃i j,x= .int i∧y= .int j∧Q (g i j) H
noncomputable def rU (g:Int→V):V→Hp→VK→Prop:=fun x H Q=>∃i,x= .int i∧Q (g i) H
section
variable {X:Cx}{a b:Expr}{ta tb:TE}{pos:Pos}
theorem zud (ha:PE X a ta) (hb:PE X b tb) {pins:List (Addr×Obj)}{s:Shared}{σ:St}{H:Hp}{R:V→V→Hp→Prop}(I:Inv X pins σ H s)
  (h:ta σ H fun x H1=>tb σ H1 fun y H2=>R x y H2) {Q:Value→Shared→Prop}{f:Value→Value→Sem Value}
  (hf:∀v u s2 x y H2,Inv X pins σ H2 s2→RelV x v→RelV y u→R x y H2→wpAny (model X.prog X.w) X.A (f v u) Q X.xe s2) :
  wpAny (model X.prog X.w) X.A (eval a X.env) (fun v s₁=>wpAny (model X.prog X.w) X.A (eval b X.env) (fun u s₂=>wpAny (model X.prog X.w) X.A (f v u) Q X.xe s₂) X.xe s₁) X.xe s:=by
 refine thn (ha pins s σ H _ I h) fun v s1 ⟨x,H1,I1,r1,q1⟩=>?_;refine thn (hb pins s1 σ H1 _ I1 q1) fun u s2 ⟨y,H2,I2,r2,q2⟩=>?_;exact hf v u s2 x y H2 I2 r1 r2 q2
theorem zoi{op:Operator}{r:R2}(ho:OpR X (binaryOp op) r) (ha:PE X a ta) (hb:PE X b tb):PE X (.BinOp a op b pos) (tOp r ta tb):=by
 intro pins s σ H Q I h;exact wpAny_BinOp (zud ha hb I h fun v u s2 x y H2 I2 rx ry q=>ho pins s2 σ H2 x y v u Q I2 rx ry q)
theorem ztT{op:UnaryOp}{r:V→Hp→VK→Prop}(ho:UnR X (unaryOp op) r) (ha:PE X a ta):PE X (.UnaryOp op a pos) (tUn r ta):=by
 intro pins s σ H Q I h;exact UnaryOp_ (thn (ha pins s σ H _ I h) fun v s1 ⟨x,H1,I1,r1,q1⟩=>ho pins s1 σ H1 x v Q I1 r1 q1)
theorem opI{f:Value→Value→Sem Value}{C:Int→Int→Prop}{g:Int→Int→Int}
  (rule:∀(i j:Int) (t u:Tok) (s:Shared) (Q:Value→Shared→Prop) (E:Value→Shared→Prop),C i j→Q (.int (g i j) s.toks) { s with toks:=s.toks+1 }→wpAny (model X.prog X.w) X.A (f (.int i t) (.int j u)) Q E s) :
  OpR X f (rI C fun i j=> .int (g i j)):=by
 intro pins s σ H x y v u Q I rx ry h;obtain⟨i,j,rfl,rfl,hc,q⟩:=h;obtain⟨t,rfl⟩:=rx;obtain⟨t',rfl⟩:=ry;exact rule i j t t' s _ _ hc ⟨.int (g i j),H,I.tok _,⟨_,rfl⟩,q⟩
theorem zuR{f:Value→Value→Sem Value}{g:Int→Int→Int}
  (rule:∀(i j:Int) (t u:Tok) (s:Shared) (Q:Value→Shared→Prop) (E:Value→Shared→Prop),Q (.int (g i j) s.toks) { s with toks:=s.toks+1 }→wpAny (model X.prog X.w) X.A (f (.int i t) (.int j u)) Q E s) :
  OpR X f (rI0 fun i j=> .int (g i j)):=by
 intro pins s σ H x y v u Q I rx ry h;obtain⟨i,j,rfl,rfl,q⟩:=h;obtain⟨t,rfl⟩:=rx;obtain⟨t',rfl⟩:=ry;exact rule i j t t' s _ _ ⟨.int (g i j),H,I.tok _,⟨_,rfl⟩,q⟩
theorem zuF{f:Value→Value→Sem Value}{g:Int→Int→Bool}
  (rule:∀(i j:Int) (t u:Tok) (s:Shared) (Q:Value→Shared→Prop) (E:Value→Shared→Prop),Q (.bool (g i j)) s→wpAny (model X.prog X.w) X.A (f (.int i t) (.int j u)) Q E s) :
  OpR X f (rI0 fun i j=> .bl (g i j)):=by
 intro pins s σ H x y v u Q I rx ry h;obtain⟨i,j,rfl,rfl,q⟩:=h;obtain⟨t,rfl⟩:=rx;obtain⟨t',rfl⟩:=ry;exact rule i j t t' s _ _ ⟨.bl (g i j),H,I,rfl,q⟩
noncomputable def zhZ (i j:Int):Prop:=0<j∧j<1073741824
noncomputable def zso (i j:Int):Prop:=0≤j∧j≤1000000∧i.natAbs<2 ^ 64
noncomputable def CMul (i j:Int):Prop:=(-(2 ^ 64)<i∧i<2 ^ 64)∨(-(2 ^ 64)<j∧j<2 ^ 64)
theorem CMul.ok{i j:Int}(h:CMul i j):IntMulOk i j:=by
 rcases h with⟨h1,h2⟩ |⟨h1,h2⟩
 ·exact .of_left (intBits_le_64 h1 h2)
 ·exact .of_right (intBits_le_64 h1 h2)
theorem op_add:OpR X (binaryOp .Add) (rI0 fun i j=> .int (i+j)):=zuR fun _ _ _ _ _ _ _ q=>add_int q
theorem zsd:OpR X (binaryOp .Sub) (rI0 fun i j=> .int (i - j)):=zuR fun _ _ _ _ _ _ _ q=>sub_int q
theorem zrW:OpR X (binaryOp .Mult) (rI CMul fun i j=> .int (i*j)):=opI fun _ _ _ _ _ _ _ hc q=>mul_int q hc.ok
theorem zqF:OpR X (binaryOp .FloorDiv) (rI zhZ fun i j=> .int (i / j)):=opI fun i j _ _ _ _ _ hc q=>by
 have h1:(0:Int)<j:=hc.1;have h2:j<1073741824:=hc.2;exact floordiv_int (by omega) (by rw [Int.fdiv_eq_ediv_of_nonneg i (by omega)];exact q) (.inl (PyProof.noPylong_small (by omega)))
theorem zrP:OpR X (binaryOp .Mod) (rI (fun _ j=>0<j) fun i j=> .int (i % j)):=opI fun i j _ _ _ _ _ hc q=>by
 have h1:(0:Int)<j:=hc;exact mod_int' (by omega) (by rw [Int.fmod_eq_emod_of_nonneg i (by omega)];exact q)
theorem zti:OpR X (binaryOp .Pow) (rI zso fun i j=> .int (i ^ j.toNat)):=opI fun _ _ _ _ _ _ _ hc q=>pow_int_small hc.1 hc.2.1 hc.2.2 q
theorem unI{f:Value→Sem Value}{g:Int→Int}
  (rule:∀(i:Int) (t:Tok) (s:Shared) (Q:Value→Shared→Prop) (E:Value→Shared→Prop),Q (.int (g i) s.toks) { s with toks:=s.toks+1 }→wpAny (model X.prog X.w) X.A (f (.int i t)) Q E s) :
  UnR X f (rU fun i=> .int (g i)):=by
 intro pins s σ H x v Q I rx h;obtain⟨i,rfl,q⟩:=h;obtain⟨t,rfl⟩:=rx;exact rule i t s _ _ ⟨.int (g i),H,I.tok _,⟨_,rfl⟩,q⟩
theorem zsU:UnR X (unaryOp .USub) (rU fun i=> .int (-i)):=unI fun _ _ _ _ _ q=>neg_int q
end
section
variable {X:Cx}{a b c:Expr}{ta tb tc:TE}{pos:Pos}
theorem zlm{pins:List (Addr×Obj)}{σ:St}{H:Hp}{s:Shared}{Q:VK}{k k':Bool}(I:Inv X pins σ H s) (q:Q (.bl k) H) (e:k=k'):EP X pins σ Q (.bool k') s:=by
 subst e;exact⟨.bl k,H,I,rfl,q⟩
theorem zrz:OpR X (compareOp .Lt) (rI0 fun i j=> .bl (decide (i<j))):=zuF fun _ _ _ _ _ _ _ q=>lt_int q
theorem op_le:OpR X (compareOp .LtE) (rI0 fun i j=> .bl (decide (i≤j))):=zuF fun _ _ _ _ _ _ _ q=>le_int q
theorem zsK:OpR X (compareOp .Gt) (rI0 fun i j=> .bl (decide (j<i))):=zuF fun _ _ _ _ _ _ _ q=>gt_int q
theorem op_in_str:OpR X (compareOp .In) (fun x y H Q=>∃i j,x= .str i∧y= .str j∧Q (.bl (!(Builtin.Str.occurrences j i 0 j.length 1).isEmpty)) H):=by
 intro pins s σ H x y v u Q I rx ry h;obtain⟨i,j,rfl,rfl,q⟩:=h;obtain⟨t,rfl⟩:=rx;obtain⟨t',rfl⟩:=ry;exact in_str (zlm I q rfl)
theorem op_notin_str:OpR X (compareOp .NotIn) (fun x y H Q=>∃i j,x= .str i∧y= .str j∧Q (.bl (!(!(Builtin.Str.occurrences j i 0 j.length 1).isEmpty))) H):=by
 intro pins s σ H x y v u Q I rx ry h;obtain⟨i,j,rfl,rfl,q⟩:=h;obtain⟨t,rfl⟩:=rx;obtain⟨t',rfl⟩:=ry;exact notIn_str (zlm I q rfl)
theorem OpR.or{f:Value→Value→Sem Value}{r r':R2}(h:OpR X f r) (h':OpR X f r'):OpR X f (fun x y H Q=>r x y H Q∨r' x y H Q):=by
 intro pins s σ H x y v u Q I rx ry q;rcases q with q |q
 ·exact h pins s σ H x y v u Q I rx ry q
 ·exact h' pins s σ H x y v u Q I rx ry q
theorem nomark (b:Expr) {op:CmpOp}(h:op≠ .In:=by decide) (h2:op≠ .NotIn:=by decide):behindInMarks op b=false:=by
 have e1:(op == CmpOp.In)=false:=by cases op<;>first |rfl |exact absurd rfl h
 have e2:(op == CmpOp.NotIn)=false:=by cases op<;>first |rfl |exact absurd rfl h2
 cases b<;>simp [behindInMarks,e1,e2]
theorem zpW{op:CmpOp}{r:R2}(ho:OpR X (compareOp op) r) (ha:PE X a ta) (hb:PE X b tb) (hm:behindInMarks op b=false):PE X (.Compare a [op] [b] pos) (tOp r ta tb):=by
 intro pins s σ H Q I h;exact wpAny_Compare1 (zud ha hb I h fun v u s2 x y H2 I2 rx ry q=>ho pins s2 σ H2 x y v u Q I2 rx ry q) hm
noncomputable def ztY (t:TE):TT:=fun σ H Q=>t σ H fun x H'=>∃k,x= .bl k∧Q k H'
theorem zpx{op:CmpOp}{r:R2}(ho:OpR X (compareOp op) r) (ha:PE X a ta) (hb:PE X b tb) (hm:behindInMarks op b=false):PT X (.Compare a [op] [b] pos) (ztY (tOp r ta tb)):=by
 intro pins s σ H Q I h;refine wpAny_isTrue_Compare1 (thn (ha pins s σ H _ I h) fun v s1 ⟨x,H1,I1,r1,q1⟩=>thn (hb pins s1 σ H1 _ I1 q1) fun u s2 ⟨y,H2,I2,r2,q2⟩=>
  thn (ho pins s2 σ H2 x y v u _ I2 r1 r2 q2) fun c s3 ⟨z,H3,I3,r3,k,e,q3⟩=>?_) hm
 subst e;cases r3;exact wpAny_truthy_bool ⟨H3,I3,q3⟩
noncomputable def zrA (r r':R2) (ta tb tc:TE):TE:=fun σ H Q=>ta σ H fun x H1=>tb σ H1 fun y H2=>r x y H2 fun z H3=>∃k,z= .bl k∧
 (if k=true then tc σ H3 fun w' H4=>r' y w' H4 Q else Q (.bl false) H3)
theorem znH{op op':CmpOp}{r r':R2}(ho:OpR X (compareOp op) r) (ho':OpR X (compareOp op') r') (ha:PE X a ta) (hb:PE X b tb) (hc:PE X c tc)
  (hm:lastMarks [op,op'] [b,c]=false:=by with_unfolding_all rfl):PE X (.Compare a [op,op'] [b,c] pos) (zrA r r' ta tb tc):=by
 intro pins s σ H Q I h;refine Compare_chain (thn (ha pins s σ H _ I h) fun v s1 ⟨x,H1,I1,r1,q1⟩=>chain_link (thn (hb pins s1 σ H1 _ I1 q1) fun u s2 ⟨y,H2,I2,r2,q2⟩=>
  thn (ho pins s2 σ H2 x y v u _ I2 r1 r2 q2) fun d s3 ⟨z,H3,I3,r3,k,e,q3⟩=>?_)) hm
 subst e;cases r3;refine wpAny_truthy_bool ?_;cases k with
 |false=>exact ite_ff ⟨.bl false,H3,I3,rfl,q3⟩
 |true=>exact ite_tt (chain_last (thn (hc pins s3 σ H3 _ I3 q3) fun w' s4 ⟨z',H4,I4,r4,q4⟩=>ho' pins s4 σ H4 y z' u w' Q I4 r2 r4 q4))
noncomputable def ztO (K:PySem.W.Frag) (x:V) (H:Hp) (k:Bool):Prop:=
 match x with
 | .non=>k=false
 | .bl b=>k=b
 | .int i=>k=(i != 0)
 | .str y=>y.length≤sizeLine∧k=((y.length:Int) != 0)
 | .byt y=>y.size≤sizeLine∧k=((y.size:Int) != 0)
 | .ref p=>(∃xs,SqL K H p xs∧k= !xs.isEmpty)∨(∃xs,SqT K H p xs∧k= !xs.isEmpty)∨ ∃kvs,H p=some (.dK kvs)∧k= !kvs.isEmpty
 |_=>False
theorem zkt{κ:Type}{kvs:List (κ×V)}{vs:List (κ×Value)}(r:KV kvs vs):(!vs.isEmpty)= !kvs.isEmpty:=by
 cases r<;>rfl
theorem zgI{xs:List V}{its:List Value}(r:Vals xs its):(!its.toArray.isEmpty)= !xs.isEmpty:=by
 cases r<;>simp
theorem zgv:(sizeLine:Nat)<2 ^ 63:=by rw [sizeLine_eq];decide
theorem zsn:zvD X (fun x H Q=>∃k,ztO X.K x H k∧Q k H):=by
 intro pins s σ H x v Q I rx h;obtain⟨k,e,q⟩:=h;have hl:=zgv;have hs:sizeLine=16777216:=sizeLine_eq;cases x with
 |non=>
  cases rx;have e':k=false:=e;subst e';exact truthy_none ⟨H,I,q⟩
 |bl b=>
  cases rx;have e':k=b:=e;subst e';exact wpAny_truthy_bool ⟨H,I,q⟩
 |int i=>
  obtain⟨t,rfl⟩:=rx;have e':k=(i != 0):=e;subst e';exact PySem.P.truthy_int ⟨H,I,q⟩
 |str y=>
  obtain⟨t,rfl⟩:=rx;obtain⟨hy,e'⟩:y.length≤sizeLine∧k=((y.length:Int) != 0):=e;subst e';exact PySem.P.truthy_str (by omega) ⟨H,I.tok _,q⟩
 |byt y=>
  obtain⟨t,rfl⟩:=rx;obtain⟨hy,e'⟩:y.size≤sizeLine∧k=((y.size:Int) != 0):=e;subst e';exact PySem.W.truthy_bytes (by omega) ⟨H,I.tok _,q⟩
 |ref p=>
  cases rx;have e':(∃xs,SqL X.K H p xs∧k= !xs.isEmpty)∨(∃xs,SqT X.K H p xs∧k= !xs.isEmpty)∨ ∃kvs,H p=some (.dK kvs)∧k= !kvs.isEmpty:=e;rcases e' with⟨xs,hx,e'⟩ |⟨xs,hx,e'⟩ |⟨kvs,hx,e'⟩
  ·subst e';obtain⟨its,r,pl,hz⟩:=I.list hx;have hlen:=r.length;exact wpAny_truthy_list pl.isList (by simp only[List.size_toArray];omega) ⟨H,I.tok _,by rw [zgI r];exact q⟩
  ·subst e';obtain⟨its,r,pl,hz⟩:=I.tuple hx;have hlen:=r.length;exact truthy_tuple pl (by simp only[List.size_toArray];omega) ⟨H,I.tok _,by rw [zgI r];exact q⟩
  ·subst e';obtain⟨hz,hS,vs,r,m⟩:kvs.length≤sizeLine∧(p == sysModules)=false∧ ∃vs,KV kvs vs∧s.heap.DictOf (ziH X.prog X.w) p vs:=I.hok p _ hx;have hlen:kvs.length=vs.length:=Paired.length r;exact wpAny_truthy_dict hS m (by omega) ⟨H,I.tok _,by rw [zkt r];exact q⟩
 |_=>exact(show False from e).elim
theorem znn (ha:PE X a ta) (he:∀whole,isTrue a X.env whole=(do let v ←whole;standAt a.pos;holding [v] (truthy v))) :
  PT X a (fun σ H Q=>ta σ H fun x H'=>∃k,ztO X.K x H' k∧Q k H'):=by
 intro pins s σ H Q I h;exact isTrue_plain (thn (ha pins s σ H _ I h) fun v s1 ⟨x,H1,I1,r1,q1⟩=>zsn pins s1 σ H1 x v Q I1 r1 q1) (he _)
theorem op_add_str:OpR X (binaryOp .Add) (fun x y H Q=>∃i j,x= .str i∧y= .str j∧i.length+j.length≤sizeLine∧Q (.str (i++j)) H):=by
 intro pins s σ H x y v u Q I rx ry h;obtain⟨i,j,rfl,rfl,hz,q⟩:=h;obtain⟨t,rfl⟩:=rx;obtain⟨t',rfl⟩:=ry;exact add_str (fun t' tk=>⟨.str (i++j),H,I.tok _,⟨_,rfl⟩,q⟩) hz
theorem zgr{x:V}{us:List Value}(r:Vals [x] us):∃u,us=[u]∧RelV x u:=by
 cases r with
 |cons r1 r2=>cases r2;exact⟨_,rfl,r1⟩
theorem zuv{x y:V}{us:List Value}(r:Vals [x,y] us):∃u w',us=[u,w']∧RelV x u∧RelV y w':=by
 cases r with
 |cons r1 r2=>
  cases r2 with
  |cons r3 r4=>cases r4;exact⟨_,_,rfl,r1,r3⟩
theorem zmv:CallR X (.type "int") (fun xs H Q=>(∃i,xs=[.int i]∧Q (.int i) H)∨ ∃k,xs=[.bl k]∧Q (.int (if k then 1 else 0)) H):=by
 intro pins s σ H xs us Q I r h;rcases h with⟨i,rfl,q⟩ |⟨k,rfl,q⟩
 ·obtain⟨u,rfl,t,rfl⟩:=zgr r;exact call_int_int ⟨.int i,H,I,⟨_,rfl⟩,q⟩
 ·obtain⟨u,rfl,r1⟩:=zgr r;cases r1;exact call_int_bool ⟨.int (if k then 1 else 0),H,I.tok _,⟨_,rfl⟩,q⟩
theorem zhF:CallR X (.type "str") (fun xs H Q=>∃i,xs=[.int i]∧i.natAbs.log2<1920∧Q (.str (toString i)) H):=by
 intro pins s σ H xs us Q I r h;obtain⟨i,rfl,hz,q⟩:=h;obtain⟨u,rfl,t,rfl⟩:=zgr r;exact PySem.P.str_of_int hz ⟨.str _,H,I.tok _,⟨_,rfl⟩,q⟩
end
structure ObjM (h:Heap) (x dx C:Addr) (mA:Str→Option Value):Prop where
  obj:h.get? x=some (PySem.W.instObj C dx)
  ns:h.Ns1 dx mA
  ne:dx≠x
theorem zkT{h:Heap}{dx:Addr}{mA:Str→Option Value}(n:h.Ns1 dx mA):∃od,h.get? dx=some od∧ ∀name,PySem.W.lookIn name od=some (mA name):=by
 obtain⟨o,es,ep,ho,hd,hk,_,hm⟩:=n;refine⟨o,ho,fun name=>?_⟩;have e:=hm name;unfold nsFind findBy at e;rw [←Array.find?_toList]at e;unfold PySem.W.lookIn;rw [hd];dsimp only;split
 ·rename_i y q;rw [q]at e;exact congrArg some e
 ·rename_i q;rw [q]at e;have a:es.toList.any (·.refKey)=false:=by
   rw [List.any_eq_false];intro y hy;obtain⟨z,t,hkey⟩:=hk y (Array.mem_toList_iff.mp hy);simp [DictEntry.refKey,hkey]
  have a':¬es.toList.any (·.refKey)=true:=by rw [a];exact Bool.false_ne_true
  rw [if_neg a'];exact congrArg some e
theorem ObjM.look{h:Heap}{x dx C:Addr}{mA:Str→Option Value}(I:ObjM h x dx C mA):∃od,PySem.W.InstAt h x (PySem.W.instObj C dx) C (some od)∧ ∀name,PySem.W.lookIn name od=some (mA name):=
 let ⟨od,ho,hl⟩:=zkT I.ns
 ⟨od,⟨I.obj,rfl,rfl,ho⟩,hl⟩
section
variable {prog:Program}{w:World}{A:Around}{E:Value→Shared→Prop}{s:Shared}{K:PySem.W.Frag}{x dx C f:Addr}{mA:Str→Option Value}{name:Str}{v:Value}
theorem zpn{expr:Bool}{Q:Value→Shared→Prop}(X:K.In s.heap) (I:ObjM s.heap x dx C mA) (hg:PySem.W.plainGet K C name=true) (hh:PySem.W.hasDictIn K C=true)
  (ha:PySem.W.findIn K (.ref C) name=some none) (hv:mA name=some v) (hv':PySem.W.handedIn v=true) (h:Q v { s with toks:=s.toks+1 }) :
  wpAny (model prog w) A (getAttr (.ref x) name expr) Q E s:=by
 obtain⟨od,J,hl⟩:=I.look;exact PySem.W.get_value X J (PySem.W.plainGet_of hg).1 (PySem.W.findObj_own hh ha rfl (by rw [hl,hv])) hv' h
theorem zod{pl:Sem Bool}{Q:Value×List Value→Shared→Prop}(X:K.In s.heap) (I:ObjM s.heap x dx C mA) (hg:PySem.W.plainGet K C name=true)
  (hf:PySem.W.findIn K (.ref C) name=some (some (.ref f))) (ht:PySem.W.isFn K (.ref f)=true) (hv:mA name=none) (h:Q (.ref f,[.ref x]) s) :
  wpAny (model prog w) A (getMethod (.ref x) name pl) Q E s:=by
 obtain⟨od,J,hl⟩:=I.look;exact PySem.W.method_fn X J (PySem.W.plainGet_of hg).1 (PySem.W.plainGet_of hg).2 hf (beq_iff_eq.mp ht) (by show(PySem.W.lookIn name od).map (·.isSome)=some false;rw [hl,hv];rfl) h
theorem zqJ{ns:List Str}{Q:Unit→Shared→Prop}(X:K.In s.heap) (I:ObjM s.heap x dx C mA)
  (hs:PySem.W.findIn K (.ref C) "__setattr__" =some (some (.builtin "object.__setattr__"))) (hp:PySem.W.plainOver K C=true) (ht:PySem.W.takerIn K C name=some none) (hh:PySem.W.hasDictIn K C=true)
  (hw:PySem.Within mA ns) (hsz:ns.length≤sizeLine)
  (h:∀h',ObjM h' x dx C (fun y=>if y=name then some v else mA y)→Heap.SameBut dx s.heap h'→Q () { s with heap:=h',toks:=s.toks+2 }) :
  wpAny (model prog w) A (setAttr (.ref x) name v) Q E s:=by
 obtain⟨od,J,hl⟩:=I.look;refine PySem.W.set_plain X J hs (PySem.W.osa_open (s:={ s with toks:=s.toks+1 }) (r:=none) X J hp ht fun b=>?_);obtain⟨cd,hc,hd'⟩:=PySem.W.any_some hh;have hx:s.heap.get? x=some ⟨.ref C,some dx, .plain, #[]⟩:=I.obj;refine wpAny_bind (wpAny_pure (wpAny_bind (wpAny_bind (wpAny_loadPart hx (wpAny_bind (PySem.W.Looks.here (s:={ s with toks:=s.toks+1 }) (PySem.W.looks_clsIn X hc) ?_))))));rw [hd'];refine wpAny_pure (a:=some dx) (wpAny_bind (wpAny_pure (wpAny_bind ?_)));refine wpAny_nsSet1 (s:={ s with toks:=s.toks+1 }) I.ns fun h' hn2 hs2=>?_;obtain⟨oD,esD,epD,hoD,hdD,hcD⟩:=hn2.count (PySem.Within.cons name v hw);refine wpAny_bind (wpAny_lookBehind hoD (by rw [hdD];exact pastItsLine_dict (Nat.le_trans hcD (by rw [List.length_cons];omega))) ?_)
 exact wpAny_pure (h _ ⟨(hs2.2 _ (Ne.symm I.ne)).trans I.obj,hn2,I.ne⟩ hs2)
theorem znu{R:Result→Shared→Prop}{vs:List Value}{kw:List (Str×Value)}(X:K.In s.heap) (hm:PySem.W.makesIn K C=true)
  (hi:PySem.W.findIn K (.ref C) "__init__" =some (some (.ref f))) (hf:PySem.W.typeIn K (.ref f)=some (.type "function"))
  (h:codeAny (model prog w) (A.under (.builtin "type.__call__" ⟨.ref C::vs,kw⟩)) (.call (.ref f) ⟨.ref (s.heap.objs.size+1)::vs,kw⟩) (PySem.W.InitBack (s.heap.objs.size+1) R)
   { s with heap:=(s.heap.push PySem.W.emptyDict).push (PySem.W.instObj C s.heap.objs.size) }) :
  codeAny (model prog w) A (.call (.ref C) ⟨vs,kw⟩) R s:=by
 obtain⟨hh,g,d,t,os⟩:=s;exact PySem.W.make_core (PySem.W.makes_of X hm) (PySem.W.looks_findIn X hi) (fun self=>PySem.W.bind_fn X self hf) (.inl rfl) h
end
noncomputable def zhk (f:Str) (v:V):List (Str×V)→List (Str×V)
 | []=>[(f,v)]
 | (g,x)::r=>if g=f then(g,v)::r else(g,x)::zhk f v r
theorem zgi (f g:Str) (v:V):∀fs:List (Str×V),(zhk f v fs).lookup g=if g=f then some v else fs.lookup g
 | []=>by
  show List.lookup g [(f,v)]=_;by_cases h:g=f
  ·have hb:(g == f)=true:=beq_iff_eq.mpr h;simp only[List.lookup,hb,if_pos h]
  ·have hb:(g == f)=false:=beq_eq_false_iff_ne.mpr h;simp only[List.lookup,hb,if_neg h]
 | (k,x)::r=>by
  have ih:=zgi f g v r;rw [show zhk f v ((k,x)::r)=(if k=f then(k,v)::r else(k,x)::zhk f v r) from rfl];by_cases hk:k=f
  ·rw [if_pos hk];by_cases h:g=k
   ·have hb:(g == k)=true:=beq_iff_eq.mpr h;simp only[List.lookup,hb,if_pos (h.trans hk)]
   ·have hb:(g == k)=false:=beq_eq_false_iff_ne.mpr h;simp only[List.lookup,hb,if_neg (fun e:g=f=>h (e.trans hk.symm))]
  ·rw [if_neg hk];by_cases h:g=k
   ·have hb:(g == k)=true:=beq_iff_eq.mpr h;simp only[List.lookup,hb,if_neg (fun e:g=f=>hk (h.symm.trans e))]
   ·have hb:(g == k)=false:=beq_eq_false_iff_ne.mpr h;simp only[List.lookup,hb];exact ih
theorem zfU (f:Str) (v:V):∀fs:List (Str×V),f∈(zhk f v fs).map (·.1)∧ ∀g,g∈fs.map (·.1)→g∈(zhk f v fs).map (·.1)
 | []=>⟨by simp [zhk],fun g h=>by simp at h⟩
 | (k,x)::r=>by
  obtain⟨i1,i2⟩:=zfU f v r;rw [show zhk f v ((k,x)::r)=(if k=f then(k,v)::r else(k,x)::zhk f v r) from rfl];by_cases hk:k=f
  ·rw [if_pos hk];subst hk;exact⟨by simp,fun g h=>by simpa using h⟩
  ·rw [if_neg hk];refine⟨?_,fun g h=>?_⟩
   ·rw [List.map_cons];exact List.mem_cons_of_mem _ i1
   ·rw [List.map_cons]at h⊢;rcases List.mem_cons.mp h with e |e
    ·exact List.mem_cons.mpr (.inl e)
    ·exact List.mem_cons_of_mem _ (i2 g e)
theorem zgg (f:Str) (v:V):∀fs:List (Str×V),(zhk f v fs).length≤fs.length+1
 | []=>by simp [zhk]
 | (k,x)::r=>by
  have ih:=zgg f v r;rw [show zhk f v ((k,x)::r)=(if k=f then(k,v)::r else(k,x)::zhk f v r) from rfl];by_cases hk:k=f
  ·rw [if_pos hk,List.length_cons,List.length_cons];omega
  ·rw [if_neg hk,List.length_cons,List.length_cons];omega
theorem RelO.some_of{v:V}{o:Option Value}(r:RelO (some v) o):∃u,o=some u∧RelV v u:=by
 cases o with
 |none=>exact(show False from r).elim
 |some u=>exact⟨u,rfl,r⟩
theorem RelO.none_of{o:Option Value}(r:RelO none o):o=none:=by
 cases o with
 |none=>rfl
 |some u=>exact(show False from r).elim
theorem zkW{v:V}{u:Value}(r:RelV v u):PySem.W.handedIn u=true:=by
 cases v with
 |non=>cases(show u=Value.none from r);rfl
 |bl b=>cases(show u=Value.bool b from r);rfl
 |int i=>obtain⟨t,e⟩:=(show ∃t,u=Value.int i t from r);cases e;rfl
 |str x=>obtain⟨t,e⟩:=(show ∃t,u=Value.str x t from r);cases e;rfl
 |byt b=>obtain⟨t,e⟩:=(show ∃t,u=Value.bytes b t from r);cases e;rfl
 |flt b=>obtain⟨t,e⟩:=(show ∃t,u=Value.float b t from r);cases e;rfl
 |ref a=>cases(show u=Value.ref a from r);rfl
 |ty n=>cases(show u=Value.type n from r);rfl
section
variable {P:Program}{w:World}{H:Hp}{h:Heap}{a C dx:Addr}{fs:List (Str×V)}
theorem zgY (hok:HOk P w H h) (e:H a=some (.ins C dx fs)):∃mA,ObjM h a dx C mA∧(∀f,RelO (fs.lookup f) (mA f))∧PySem.Within mA (fs.map (·.1))∧fs.length≤1000∧H dx=some (.own a):=by
 obtain⟨d,z,ne,ob,mA,n,r,q⟩:=(show ObjOk P w H h a (.ins C dx fs) from hok a _ e);exact⟨mA,⟨ob,n,ne⟩,r,q,z,d⟩
end
structure Cls (K:PySem.W.Frag) (C:Addr):Prop where
  pg:PySem.W.plainGet K C Str.empty=true
  hd:PySem.W.hasDictIn K C=true
  po:PySem.W.plainOver K C=true
  sa:PySem.W.findIn K (.ref C) "__setattr__" =some (some (.builtin "object.__setattr__"))
theorem Cls.get{K:PySem.W.Frag}{C:Addr}(c:Cls K C) (f:Str):PySem.W.plainGet K C f=true:=c.pg
noncomputable def NoAttr (K:PySem.W.Frag) (C:Addr) (f:Str):Prop:=PySem.W.findIn K (.ref C) f=some none
theorem NoAttr.taker{K:PySem.W.Frag}{C:Addr}{f:Str}(n:NoAttr K C f):PySem.W.takerIn K C f=some none:=by
 unfold PySem.W.takerIn;rw [show PySem.W.findIn K (.ref C) f=some none from n];rfl
structure Meth (K:PySem.W.Frag) (C:Addr) (m:Str) (f:Addr):Prop where
  at_:PySem.W.findIn K (.ref C) m=some (some (.ref f))
  fn:PySem.W.isFn K (.ref f)=true
  kp:PySem.W.keepIn K (.ref f)=true
section
variable {X:Cx}{pins:List (Addr×Obj)}{σ:St}{H:Hp}{s:Shared}{a C dx:Addr}{fs:List (Str×V)}{f:Str}{v:V}{A:Around}{E:Value→Shared→Prop}
theorem zgz{b:Bool}{Q:Value→Shared→Prop}(I:Inv X pins σ H s) (e:H a=some (.ins C dx fs)) (c:Cls X.K C) (n:NoAttr X.K C f) (l:fs.lookup f=some v)
  (h:∀u s',Inv X pins σ H s'→RelV v u→Q u s'):wpAny (model X.prog X.w) A (getAttr (.ref a) f b) Q E s:=by
 obtain⟨mA,O,r,_,_,_⟩:=zgY I.hok e;obtain⟨u,hu,ru⟩:=RelO.some_of (v:=v) (o:=mA f) (by rw [←l];exact r f);exact zpn I.kIn O (c.get f) c.hd n hu (zkW ru) (h u _ (I.tok _) ru)
theorem zgF{m:Str}{g:Addr}{pl:Sem Bool}{Q:Value×List Value→Shared→Prop}(I:Inv X pins σ H s) (e:H a=some (.ins C dx fs)) (c:Cls X.K C) (k:Meth X.K C m g) (l:fs.lookup m=none)
  (h:Q (.ref g,[.ref a]) s):wpAny (model X.prog X.w) A (getMethod (.ref a) m pl) Q E s:=by
 obtain⟨mA,O,r,_,_,_⟩:=zgY I.hok e;have hn:mA m=none:=RelO.none_of (by rw [←l];exact r m);exact zod I.kIn O (c.get m) k.at_ k.fn hn h
theorem zgH{y:V}{u:Value}{Q:Unit→Shared→Prop}(I:Inv X pins σ H s) (e:H a=some (.ins C dx fs)) (c:Cls X.K C) (n:NoAttr X.K C f) (hl:fs.length<1000) (ry:RelV y u)
  (h:∀s',Inv X pins σ (upd H a (.ins C dx (zhk f y fs))) s'→Q () s'):wpAny (model X.prog X.w) A (setAttr (.ref a) f u) Q E s:=by
 obtain⟨mA,O,r,wi,_,ho⟩:=zgY I.hok e;have hz:(fs.map (·.1)).length≤sizeLine:=by rw [List.length_map,sizeLine_eq];omega
 refine zqJ I.kIn O c.sa c.po n.taker c.hd wi hz fun h' O' sb=>h _ ?_;have hd:∃o,h'.get? dx=some o:=let ⟨o,_,_,e',_⟩:=O'.ns;⟨o,e'⟩;refine I.write (x:=a) (e:=dx) (by rw [e];exact True.intro) (.inr ho) (fun b q hb z=>(sb.2 b hb).trans z) hd ?_;refine⟨by rw [zax O.ne];exact ho,?_,O.ne,O'.obj,_,O'.ns,fun g=>?_,fun g hg=>?_⟩
 ·have:=zgg f y fs;omega
 ·show RelO ((zhk f y fs).lookup g) (if g=f then some u else mA g);rw [zgi];by_cases q:g=f
  ·rw [if_pos q,if_pos q];exact ry
  ·rw [if_neg q,if_neg q];exact r g
 ·by_cases q:g=f
  ·rw [q];exact(zfU f y fs).1
  ·refine(zfU f y fs).2 g (wi g fun z=>hg ?_);show(if g=f then some u else mA g)=none;rw [if_neg q];exact z
theorem Inv.made (I:Inv X pins σ H s):Inv X pins σ (upd (upd H s.heap.objs.size (.own (s.heap.objs.size+1))) (s.heap.objs.size+1) (.ins C s.heap.objs.size []))
  { s with heap:=(s.heap.push PySem.W.emptyDict).push (PySem.W.instObj C s.heap.objs.size) }:=by
 have e1:(s.heap.push PySem.W.emptyDict).get? s.heap.objs.size=some PySem.W.emptyDict:=Heap.get?_push_size s.heap rfl;have e2:((s.heap.push PySem.W.emptyDict).push (PySem.W.instObj C s.heap.objs.size)).get? (s.heap.objs.size+1)=some (PySem.W.instObj C s.heap.objs.size):=by
  have:=Heap.get?_push_size (s.heap.push PySem.W.emptyDict) (o:=PySem.W.instObj C s.heap.objs.size) rfl;rwa [Heap.size_push]at this
 have e3:(s.heap.push PySem.W.emptyDict).Ns s.heap.objs.size (fun _=>none):=⟨PySem.W.emptyDict, #[],_,e1,rfl,(fun e he=>absurd he (by simp)),fun _=>rfl⟩;have I1:=I.laid (a:=s.heap.objs.size) (o:= .own (s.heap.objs.size+1)) (h':=s.heap.push PySem.W.emptyDict) (t':=s.toks) (fun b u q=>Heap.get?_push_of_some _ q) (Nat.le_refl _) ⟨_,e1⟩;refine I1.laid (a:=s.heap.objs.size+1) (o:= .ins C s.heap.objs.size []) (t':=s.toks) (fun b u q=>Heap.get?_push_of_some _ q) (Nat.le_of_eq (Heap.size_push _ _)) ?_;have ne:s.heap.objs.size≠s.heap.objs.size+1:=Nat.ne_of_lt (Nat.lt_succ_self _);refine⟨by rw [zax ne,zaz],Nat.zero_le _,ne,e2,fun _=>none,(Heap.Ns1.of_empty e3).at fun o q=>Heap.get?_push_of_some _ q,fun _=>True.intro,fun y hy=>absurd rfl hy⟩
theorem zqb{prog:Program}{w:World}{env:Env}{e:Expr}{f:Str}{pos:Pos}{s:Shared}{Q:Value→Shared→Prop}(hb:attributeBase e f env (eval e env)=eval e env)
  (h:wpAny (model prog w) A (eval e env) (fun o s₁=>wpAny (model prog w) A (getAttr o f true) Q E s₁) E s):wpAny (model prog w) A (eval (.Attribute e f pos) env) Q E s:=
 Attribute_any_ h (by rw [arm_eval_Attribute,hb])
end
noncomputable def zvs (K:PySem.W.Frag) (ta:TE) (f:Str):TE:=fun σ H Q=>ta σ H fun x H1=>∃a C dx fs v,x= .ref a∧H1 a=some (.ins C dx fs)∧Cls K C∧NoAttr K C f∧fs.lookup f=some v∧Q v H1
noncomputable def zvI (K:PySem.W.Frag) (ta tv:TE) (f:Str):TS:=fun D σ H=>tv σ H fun y H1=>ta σ H1 fun x H2=>∃a C dx fs,x= .ref a∧H2 a=some (.ins C dx fs)∧Cls K C∧NoAttr K C f∧fs.length<1000∧
 D.nx σ (upd H2 a (.ins C dx (zhk f y fs)))
noncomputable def zuQ (X:Cx) (op:Operator) (rd:V→V→Hp→VK→Prop):Prop:=
 ∀(pins:List (Addr×Obj)) (s:Shared) (σ:St) (H:Hp) (x y:V) (u v:Value) (Q:VK),Inv X pins σ H s→RelV x u→RelV y v→rd x y H Q→wpAny (model X.prog X.w) X.A (inplaceOp op u v) (EP X pins σ Q) X.xe s
noncomputable def zpt (K:PySem.W.Frag) (ta tv:TE) (rd:V→V→Hp→VK→Prop) (f:Str):TS:=fun D σ H=>ta σ H fun x H1=>∃a C dx fs v,x= .ref a∧H1 a=some (.ins C dx fs)∧Cls K C∧NoAttr K C f∧fs.lookup f=some v∧
 tv σ H1 fun y H2=>rd v y H2 fun z H3=>∃dx' fs',H3 a=some (.ins C dx' fs')∧fs'.length<1000∧D.nx σ (upd H3 a (.ins C dx' (zhk f z fs')))
section
variable {X:Cx}{o e value:Expr}{f:Str}{pos pos' tpos:Pos}{ta tv:TE}
theorem zrg (he:PE X e ta) (hb:attributeBase e f X.env (eval e X.env)=eval e X.env):PE X (.Attribute e f pos) (zvs X.K ta f):=by
 intro pins s σ H Q I h;refine zqb hb (thn (he pins s σ H _ I h) fun u s1 ⟨x,H1,I1,rx,a,C,dx,fs,v,ex,ea,c,n,l,q⟩=>?_);subst ex;obtain rfl:u=Value.ref a:=rx;exact zgz I1 ea c n l fun u' s2 I2 ru=>⟨v,H1,I2,ru,q⟩
theorem zsv (ha:PE X o ta) (hv:PE X value tv) (hs:swapsWith value (some (.Attribute o f pos')) pos.line X.env=pure false):PS X (.Assign [.Attribute o f pos'] value pos) (zvI X.K ta tv f):=by
 intro pins s σ H D I h;refine plainObj_wpAny_Assign_Attribute (thn (hv pins s σ H _ I h) fun u s1 ⟨y,H1,I1,ry,q⟩=>thn (ha pins s1 σ H1 _ I1 q) fun ov s2 ⟨x,H2,I2,rx,a,C,dx,fs,ex,ea,c,n,l,q2⟩=>?_) hs;subst ex;obtain rfl:ov=Value.ref a:=rx;exact zgH I2 ea c n l ry fun s3 I3=>⟨σ,_,I3,q2⟩
theorem zld{op:Operator}{rd:V→V→Hp→VK→Prop}(ha:PE X o ta) (hv:PE X value tv) (hop:zuQ X op rd):PS X (.AugAssign (.Attribute o f tpos) op value pos) (zpt X.K ta tv rd f):=by
 intro pins s σ H D I h;refine wpAny_AugAssign_AttributeAny (thn (ha pins s σ H _ I h) fun ov s1 ⟨x,H1,I1,rx,a,C,dx,fs,v,ex,ea,c,n,l,q⟩=>?_);subst ex;obtain rfl:ov=Value.ref a:=rx;refine zgz I1 ea c n l fun u s2 I2 ru=>thn (hv pins s2 σ H1 _ I2 q) fun w3 s3 ⟨y,H2,I3,ry,q3⟩=>thn (hop pins s3 σ H2 v y u w3 _ I3 ru ry q3) fun w4 s4 ⟨z,H3,I4,rz,dx',fs',ea',l',q4⟩=>?_;exact zgH I4 ea' c n l' rz fun s5 I5=>⟨σ,_,I5,q4⟩
noncomputable def zvn:V→V→Hp→VK→Prop:=fun x y H Q=>∃i j,x= .int i∧y= .int j∧Q (.int (i+j)) H
theorem zqX:zuQ X .Add zvn:=by
 rintro pins s σ H x y u v Q I rx ry ⟨i,j,rfl,rfl,q⟩;obtain⟨t,rfl⟩:=(show ∃t,u=Value.int i t from rx);obtain⟨t',rfl⟩:=(show ∃t',v=Value.int j t' from ry);exact PyProof.Rows.iadd_int ⟨.int (i+j),H,I.tok _,⟨_,rfl⟩,q⟩
end
section
variable {X:Cx}{pins:List (Addr×Obj)}{σ:St}{H:Hp}{s:Shared}{A:Around}{E:Value→Shared→Prop}{Q:Value→Shared→Prop}{c:Value}{b:Bool}
inductive TyOf (K:PySem.W.Frag) (H:Hp):V→Value→Prop where
  |non:TyOf K H .non (.type "NoneType")
  |bl (x:Bool):TyOf K H (.bl x) (.type "bool")
  |int (i:Int):TyOf K H (.int i) (.type "int")
  |str (x:Str):TyOf K H (.str x) (.type "str")
  |flt (x:UInt64):TyOf K H (.flt x) (.type "float")
  |lst {a:Addr}{xs:List V}(e:H a=some (.lst xs)):TyOf K H (.ref a) (.type "list")
  |frz {a:Addr}{o:Obj}{xs:List V}(e:H a=some (.frz o (.lst xs))):TyOf K H (.ref a) (.type "list")
  |tup {a:Addr}{xs:List V}(e:H a=some (.tup xs)):TyOf K H (.ref a) (.type "tuple")
  |dK {a:Addr}{kvs:List (Key×V)}(e:H a=some (.dK kvs)):TyOf K H (.ref a) (.type "dict")
  |dT {a:Addr}{kvs:List (List Key×V)}(e:H a=some (.dT kvs)):TyOf K H (.ref a) (.type "dict")
  |ins {a C dx:Addr}{fs:List (Str×V)}(e:H a=some (.ins C dx fs)) (cl:Cls K C) (ha:PySem.W.findIn K (.ref C) "__class__" =some (some (.builtin "object.__class__")))
      (hn:PySem.W.specialIn K (.builtin "object.__class__") "__get__" =some (some (.builtin "getset_descriptor.__get__"))) (htk:PySem.W.takesIn K (.builtin "object.__class__")=some true)
      (hm:PySem.W.mroIn K C (.type "object")=some true):TyOf K H (.ref a) (.ref C)
theorem zlF{x:V}{u t:Value}(I:Inv X pins σ H s) (rx:RelV x u) (ty:TyOf X.K H x t) (e:PySem.W.kitOne X.K t c=some b) (h:∀tk,Q (.bool b) { s with toks:=tk }) :
  wpAny (model X.prog X.w) A (call (.builtin "isinstance") [u,c]) Q E s:=by
 cases ty with
 |non=>cases(show u=Value.none from rx);exact PySem.W.kia_one PySem.W.kitx_none I.kIn True.intro e (fun z=>nomatch z) h
 |bl y=>cases(show u=Value.bool y from rx);exact PySem.W.kia_one PySem.W.kitx_bool I.kIn True.intro e (fun z=>nomatch z) h
 |int i=>obtain⟨t,q⟩:=(show ∃t,u=Value.int i t from rx);cases q;exact PySem.W.kia_one PySem.W.kitx_int I.kIn True.intro e (fun z=>nomatch z) h
 |str y=>obtain⟨t,q⟩:=(show ∃t,u=Value.str y t from rx);cases q;exact PySem.W.kia_one PySem.W.kitx_str I.kIn True.intro e (fun z=>nomatch z) h
 |flt y=>obtain⟨t,q⟩:=(show ∃t,u=Value.float y t from rx);cases q;exact PySem.W.kia_one PySem.W.kitx_float I.kIn True.intro e (fun z=>nomatch z) h
 | @lst a xs ea=>
  cases(show u=Value.ref a from rx);obtain⟨_,_,n,_,h1⟩:=(show ObjOk X.prog X.w H s.heap a (.lst xs) from I.hok a _ ea);exact PySem.W.kia_one PySem.W.kitx_list I.kIn ⟨_,h1,rfl⟩ e (fun z=>nomatch z) h
 | @frz a ob xs ea=>
  cases(show u=Value.ref a from rx);obtain⟨_,_,_,n,_,h1⟩:=(show ObjOk X.prog X.w H s.heap a (.frz ob (.lst xs)) from I.hok a _ ea);exact PySem.W.kia_one PySem.W.kitx_list I.kIn ⟨_,h1,rfl⟩ e (fun z=>nomatch z) h
 | @tup a xs ea=>
  cases(show u=Value.ref a from rx);obtain⟨_,_,_,p⟩:=(show ObjOk X.prog X.w H s.heap a (.tup xs) from I.hok a _ ea);obtain⟨o,h1,h2,_⟩:=p;exact PySem.W.kia_one PySem.W.kitx_tuple I.kIn ⟨o,h1,h2⟩ e (fun z=>nomatch z) h
 | @dK a kvs ea=>
  cases(show u=Value.ref a from rx);obtain⟨_,_,vs,_,p⟩:=(show ObjOk X.prog X.w H s.heap a (.dK kvs) from I.hok a _ ea);obtain⟨o,es,ep,h1,h2,_⟩:=p;exact PySem.W.kia_one PySem.W.kitx_dict I.kIn ⟨o,h1,h2.1⟩ e (fun z=>nomatch z) h
 | @dT a kvs ea=>
  cases(show u=Value.ref a from rx);obtain⟨_,_,xs,_,o,es,ep,h1,h2,_⟩:=(show ObjOk X.prog X.w H s.heap a (.dT kvs) from I.hok a _ ea);exact PySem.W.kia_one PySem.W.kitx_dict I.kIn ⟨o,h1,h2.1⟩ e (fun z=>nomatch z) h
 | @ins a C dx fs ea cl ha hn htk hm=>
  cases(show u=Value.ref a from rx);obtain⟨mA,O,_⟩:=zgY I.hok ea;obtain⟨od,J,_⟩:=O.look;exact PySem.W.kia_one (PySem.W.kitx_own (cl.get _) cl.hd ha hn htk hm) I.kIn J e (fun z=>nomatch z) h
end
structure Room (k:Nat) (A:Around):Prop where
  hd:A.handled=none
  dp:A.depth+3*k+5<recursionLimit
  un:A.units+16*k+200<cLine
theorem Room.deeper{k:Nat}{A:Around}(r:Room (k+1) A) (env:Env):Room k (A.deeper env):=
 ⟨r.hd,by have:=r.dp;show A.depth+1+3*k+5<_;omega,by have:=r.un;show A.units+3+16*k+200<_;omega⟩
theorem zky{A:Around}{C:Addr}{us:List Value}{kw:List (Str×Value)}:(A.under (.builtin "type.__call__" ⟨.ref C::us,kw⟩)).depth=A.depth+1:=by
 first |rfl |simp [Around.under,Code.weight,Code.isCreation,Code.isGuard,Code.isCaller,Code.frames,Code.isFrame,guardIds]
theorem zki{A:Around}{C:Addr}{us:List Value}{kw:List (Str×Value)}:(A.under (.builtin "type.__call__" ⟨.ref C::us,kw⟩)).units=A.units+1:=by
 first |rfl |simp [Around.under,Code.cUnits,Code.frames,Code.isFrame]
theorem Room.make{k:Nat}{A:Around}(r:Room (k+1) A) (C:Addr) (us:List Value) (kw:List (Str×Value)):Room k (A.under (.builtin "type.__call__" ⟨.ref C::us,kw⟩)):=
 ⟨r.hd,by have:=r.dp;rw [zky];omega,by have:=r.un;rw [zki];omega⟩
theorem Room.depth{k:Nat}{A:Around}(r:Room k A):A.depth<recursionLimit:=by have:=r.dp;omega
theorem Room.units{k:Nat}{A:Around}(r:Room k A):A.units+64<cLine:=by have:=r.un;omega
noncomputable def zvP:TA:=fun _ H Q=>Q [] H
noncomputable def ztP (ta:TE) (tr:TA):TA:=fun σ H Q=>ta σ H fun x H1=>tr σ H1 fun xs H2=>Q (x::xs) H2
section
variable {X:Cx}{e:Expr}{es:List Expr}{te:TE}{t:TA}{pos:Pos}
theorem pa_nil:PA X [] zvP:=fun _ _ _ _ H Q I h=>Calls.spliced_nil ⟨[],H,I, .nil,h⟩
theorem zdC (ha:PE X e te) (hr:PA X es t) (hs:starEach (e::es) X.env=(false,eval e X.env)::starEach es X.env:=by rfl):PA X (e::es) (ztP te t):=by
 intro pos pins s σ H Q I h;rw [hs];show wpAny _ _ (spliced ((false,eval e X.env)::backTo pos (starEach es X.env))) _ _ s;refine Calls.spliced_cons (thn (ha pins s σ H _ I h) fun u s1 ⟨x,H1,I1,r1,q1⟩=>?_);exact thn (hr pos pins s1 σ H1 _ I1 q1) fun us s2 ⟨xs,H2,I2,r2,q2⟩=>⟨x::xs,H2,I2, .cons r1 r2,q2⟩
noncomputable def zvc (t:TA):TE:=fun σ H Q=>t σ H fun xs H1=>xs.length≤sizeLine∧ ∀p,H1 p=none→Q (.ref p) (upd H1 p (.tup xs))
noncomputable def zvk (t:TA):TE:=fun σ H Q=>t σ H fun xs H1=>xs.length≤sizeLine∧ ∀p,H1 p=none→Q (.ref p) (upd H1 p (.lst xs))
theorem zsr{x1}(h:PA X es t):PE X (.Tuple es x1 pos) (zvc t):=by
 intro pins s σ H Q I hq;refine wpAny_Tuple_spliced (thn (h pos pins s σ H _ I hq) fun us s1 ⟨xs,H1,I1,r,z,q⟩=>⟨by rw [←r.length];exact z,?_⟩);have hf:H1 s1.heap.objs.size=none:=I1.hok.fresh (Nat.le_refl _);refine⟨.ref s1.heap.objs.size,upd H1 s1.heap.objs.size (.tup xs),I1.laid (t':=s1.toks) (fun b u e=>Heap.get?_push_of_some _ e) (Nat.le_refl _) ?_,rfl,q _ hf⟩;exact⟨z,us,r,⟨_,Heap.get?_push_size _ rfl,rfl,_,rfl⟩⟩
theorem zrR (h:PA X es t):PE X (.List es pos) (zvk t):=by
 intro pins s σ H Q I hq;refine wpAny_List_spliced (thn (h pos pins s σ H _ I hq) fun us s1 ⟨xs,H1,I1,r,z,q⟩=>⟨by rw [←r.length];exact z,?_⟩);have hf:H1 s1.heap.objs.size=none:=I1.hok.fresh (Nat.le_refl _);refine⟨.ref s1.heap.objs.size,upd H1 s1.heap.objs.size (.lst xs),I1.laid (t':=s1.toks) (fun b u e=>Heap.get?_push_of_some _ e) (Nat.le_refl _) ?_,rfl,q _ hf⟩;exact⟨z,us,0,r,Heap.get?_push_size _ rfl⟩
end
noncomputable abbrev Sp:=List V→Hp→VK→XK→Prop
noncomputable abbrev CXT:=List Env→Hp→Shared→XK→Value→Shared→Prop
structure Env0 (P:Program) (w:World) (K:PySem.W.Frag) (mg:Str→Option Value) (base:Heap) (A:Around) (outer:List Env) (s:Shared) (H:Hp):Prop where
  frames:A.frames=some outer
  mod:Mod K mg base
  bs:∀b o,base.get? b=some o→s.heap.get? b=some o∧H b=none
  bsz:base.objs.size≤s.heap.objs.size
  funs:s.heap.FunFrames base outer
  frf:∀b∈frs outer,H b=none
  hok:HOk P w H s.heap
  bare:AllBare s.gens
noncomputable def CE (outer:List Env) (P:Program) (w:World) (H:Hp) (s:Shared) (Q:VK) (u:Value) (s':Shared):Prop:=
 ∃v H',s'.os=s.os∧AllBare s'.gens∧Un (frs outer) [] H H' s.heap s'.heap∧HOk P w H' s'.heap∧RelV v u∧Q v H'
noncomputable def CR (CX:CXT) (outer:List Env) (P:Program) (w:World) (H:Hp) (s:Shared) (Q:VK) (E:XK) (r:Result) (s':Shared):Prop:=
 match r with
 | .ok (.ret u)=>CE outer P w H s Q u s'
 | .ok _=>False
 | .error e=>CX outer H s E e s'
structure FnOk (P:Program) (w:World) (K:PySem.W.Frag) (mg:Str→Option Value) (base:Heap) (CX:CXT) (k:Nat) (f:Addr) (fd:FuncData) (ps:List Str) (sp:Sp):Prop where
  len:∀vs H Q E,sp vs H Q E→vs.length=ps.length
  run:∀(A:Around) (outer:List Env) (s:Shared) (H:Hp) (args:Args) (us:List Value) (vs:List V) (Q:VK) (E:XK),Room k A→Env0 P w K mg base A outer s H→BindsTo s fd args (ps.zip us)→Vals vs us→sp vs H Q E→
    codeAny (model P w) A (.call (.ref f) args) (CR CX outer P w H s Q E) s
theorem Env0.make{P:Program}{w:World}{K:PySem.W.Frag}{mg:Str→Option Value}{base:Heap}{A:Around}{outer:List Env}{s:Shared}{H:Hp}(e:Env0 P w K mg base A outer s H) (C:Addr) (us:List Value) (kw:List (Str×Value)) :
  Env0 P w K mg base (A.under (.builtin "type.__call__" ⟨.ref C::us,kw⟩)) outer s H:=⟨by first |exact e.frames | (simpa [Around.under,Code.envs,Code.isFrame,pushEnvs]using e.frames),e.mod,e.bs,e.bsz,e.funs,e.frf,e.hok,e.bare⟩
section
variable {X:Cx}{pins:List (Addr×Obj)}{σ:St}{H:Hp}{s:Shared}
theorem Inv.env0 (I:Inv X pins σ H s):Env0 X.prog X.w X.K X.mg X.base X.A X.stack s H:=
 ⟨I.ok.frames,I.ok.mod,I.bs,Nat.le_trans I.ok.bsz I.sz,I.stack,I.stkFree,I.hok,I.bare⟩
end
noncomputable def Binds (K:PySem.W.Frag) (fd:FuncData) (ps:List Str) (ds:List Value):Prop:=
 ∀(s:Shared) (us:List Value),K.In s.heap→(us++ds).length=ps.length→BindsTo s fd ⟨us,[]⟩ (ps.zip (us++ds))
theorem Binds.all{K:PySem.W.Frag}{fd:FuncData}{ps:List Str}(h:∀us:List Value,us.length=ps.length→bindArgs fd ⟨us,[]⟩=pure (ps.zip us)):Binds K fd ps []:=fun s us _ hl=>by
 rw [List.append_nil]at hl⊢;exact .of_eq (h us hl)
section
variable {f C:Addr}
structure Mk (K:PySem.W.Frag) (C f:Addr):Prop where
  makes:PySem.W.makesIn K C=true
  init:PySem.W.findIn K (.ref C) "__init__" =some (some (.ref f))
  fn:PySem.W.isFn K (.ref f)=true
  kp:PySem.W.keepIn K (.ref C)=true
end
structure FnScope (N P:List Str) (sc:Scope):Prop where
  kind:sc.kind= .function
  co:sc.isCoroutine=false
  gen:sc.isGenerator=false
  nd:N.Nodup
  pre:N.take P.length=P
  par:∀x∈P,sc.names.lookup x=some .local∨sc.names.lookup x=some .cell
  nofree:∀y∈sc.names,y.2≠ .free
theorem zii{kindOf:Str→Option NameKind}{x:Str}:∀{binds:List (Str×Value)}{m:Str→Option Value},(∀v,(x,v)∉binds)→bindL kindOf binds m x=m x
 | [],_,_=>rfl
 | (n,v)::r,m,h=>by
  unfold bindL;rw [zii fun w hw=>h w (List.mem_cons_of_mem _ hw)];split
  ·have:x≠n:=by rintro rfl;exact h v List.mem_cons_self
   simp [this]
  ·rfl
theorem zhO{kindOf:Str→Option NameKind}{x:Str}:∀{binds:List (Str×Value)}{m:Str→Option Value},(∀v,(x,v)∉binds)→bindC kindOf binds m x=m x
 | [],_,_=>rfl
 | (n,v)::r,m,h=>by
  unfold bindC;rw [zhO fun w hw=>h w (List.mem_cons_of_mem _ hw)];split
  ·rfl
  ·have:x≠n:=by rintro rfl;exact h v List.mem_cons_self
   simp [this]
theorem zhW{kindOf:Str→Option NameKind}{x:Str}{v:Value}:∀{P:List Str}{vs:List Value}{i:Nat}{m:Str→Option Value},P.Nodup→P[i]? =some x→vs[i]? =some v→kindOf x=some .local→
  bindL kindOf (P.zip vs) m x=some v
 | [],_,_,_,_,h,_,_=>by simp at h
 |_::_,[],_,_,_,_,h,_=>by simp at h
 |p::P,w::vs,0,m,nd,h1,h2,hk=>by
  simp at h1 h2;subst h1;subst h2;show bindL kindOf ((p,w)::P.zip vs) m p=_;unfold bindL;rw [zii fun v hv=>(List.nodup_cons.mp nd).1 (List.of_mem_zip hv).1,if_pos hk];simp
 |p::P,w::vs,i+1,m,nd,h1,h2,hk=>by
  show bindL kindOf ((p,w)::P.zip vs) m x=_;unfold bindL;exact zhW (i:=i) (List.nodup_cons.mp nd).2 (by simpa using h1) (by simpa using h2) hk
theorem zhL{kindOf:Str→Option NameKind}{x:Str}{v:Value}:∀{P:List Str}{vs:List Value}{i:Nat}{m:Str→Option Value},P.Nodup→P[i]? =some x→vs[i]? =some v→kindOf x≠some .local→
  bindC kindOf (P.zip vs) m x=some v
 | [],_,_,_,_,h,_,_=>by simp at h
 |_::_,[],_,_,_,_,h,_=>by simp at h
 |p::P,w::vs,0,m,nd,h1,h2,hk=>by
  simp at h1 h2;subst h1;subst h2;show bindC kindOf ((p,w)::P.zip vs) m p=_;unfold bindC;rw [zhO fun v hv=>(List.nodup_cons.mp nd).1 (List.of_mem_zip hv).1,if_neg hk];simp
 |p::P,w::vs,i+1,m,nd,h1,h2,hk=>by
  show bindC kindOf ((p,w)::P.zip vs) m x=_;unfold bindC;exact zhL (i:=i) (List.nodup_cons.mp nd).2 (by simpa using h1) (by simpa using h2) hk
noncomputable def zgs (N:List Str) (vs:List V):St:=vs.map some++List.replicate (N.length - vs.length) none
noncomputable def zqH (CX:CXT) (P:Program) (w:World) (K:PySem.W.Frag) (mg:Str→Option Value) (base:Heap) (N:List Str) (qual:Str) (scope:Scope) (f:Addr) (cd:Value) (A:Around) (outer:List Env) (s:Shared) (H:Hp) (E:XK):Cx where
  prog:=P
  w:=w
  K:=K
  mg:=mg
  base:=base
  A:=A.deeper (envOfC qual scope s.heap.objs.size f cd)
  N:=N
  s₀:=s
  H₀:=H
  env:=envOfC qual scope s.heap.objs.size f cd
  outer:=outer
  stack:=envOfC qual scope s.heap.objs.size f cd::outer
  ex:=[]
  calm:=true
  fn:=fun _=>true
  pn:=[]
  xe:=fun e s'=>wpAny (model P w) (A.deeper (envOfC qual scope s.heap.objs.size f cd)) (leaving (envOfC qual scope s.heap.objs.size f cd) e) (fun _ s''=>CX outer H s E e s'') (fun e' s''=>CX outer H s E e' s'') s'
theorem zjr{sc:Scope}{n:Nat}{x:Str}(h:sc.names.lookup x=some .cell):∃c,(cellsFrom n sc.names []).lookup x=some c:=by
 have q:=PySem.W.cellsFrom_some sc.names n [] (.inl h);exact Option.isSome_iff_exists.mp q
theorem zmn{CX:CXT}{P:Program}{w:World}{K:PySem.W.Frag}{mg:Str→Option Value}{base:Heap}{N ps:List Str}{qual:Str}{scope:Scope}{f:Addr}{cd:Value}{A:Around}{outer:List Env}{s s1:Shared}{H:Hp}{E:XK}{us:List Value}{vs:List V}
  (S:FnScope N ps scope) (hd:A.handled=none) (e0:Env0 P w K mg base A outer s H) (hl:vs.length=ps.length) (r:Vals vs us)
  (x:InCallC s s.heap.objs.size (bindL (envOfC qual scope s.heap.objs.size f cd).kindOf (ps.zip us) fun _=>none) (cellsFrom (s.heap.objs.size+1) scope.names []) (bindC (envOfC qual scope s.heap.objs.size f cd).kindOf (ps.zip us) fun _=>none) s1) :
  Inv (zqH CX P w K mg base N qual scope f cd A outer s H E) [] (zgs N vs) H s1:=by
 have hpl:ps.length≤N.length:=by have:=congrArg List.length S.pre;rw [List.length_take]at this;omega
 obtain⟨h1,tk,rfl,hk⟩:=x.done;have noA:∀b:Addr,b∉(zqH CX P w K mg base N qual scope f cd A outer s H E).ex:=fun b z=>absurd (show b∈([]:List Addr) from z) (by simp);refine⟨⟨e0.mod,S.kind,rfl,rfl,Nat.le_refl _,fun y z c h1 h2=>?_,fun y hy=>?_,fun y c _ h=>?_,fun _=>hd,Around.frames_deeper e0.frames, .inr ⟨rfl,rfl⟩,fun b z=>absurd z (noA b),e0.bs,e0.bsz,fun b _ _=>noA b,fun b z=>absurd z (noA b),e0.funs,e0.frf⟩,
  rfl,e0.bare,Un.kept hk,⟨_,x.toInCall.ns,fun i y v h1 h2 h3=>?_⟩,fun y c h=>⟨_,x.cell y c h⟩,e0.hok.fresh (Nat.le_refl _),fun y c h=>?_,fun p hp=>absurd (show p∈([]:List (Addr×Obj)) from hp) (by simp),e0.hok.kept hk,?_⟩
 ·exact name_of_addr x.apart (PySem.mem_of_lookup h1) (PySem.mem_of_lookup h2)
 ·have hy:scope.names.lookup y=some .cell∨scope.names.lookup y=some .free:=hy;rcases hy with hy |hy
  ·exact zjr hy
  ·exact absurd rfl (S.nofree _ (PySem.mem_of_lookup hy))
 ·exact Nat.le_of_lt (x.above y c (PySem.mem_of_lookup h))
 ·have hi:i<vs.length:=by
   unfold zgs at h2;by_cases hi:i<vs.length
   ·exact hi
   ·rw [List.getElem?_append_right (by simpa using hi)]at h2;rw [List.getElem?_replicate]at h2;split at h2<;>cases h2
  have ha:vs[i]? =some v:=by
   unfold zgs at h2;rw [List.getElem?_append_left (by simpa using hi),List.getElem?_map]at h2;cases e:vs[i]? with
   |none=>rw [e]at h2;cases h2
   |some a=>rw [e]at h2;cases h2;rfl
  obtain⟨u,hu,rv⟩:=r.get ha;have hp:ps[i]? =some y:=by
   rw [←S.pre,List.getElem?_take_of_lt (by omega)];exact h1
  have ndP:ps.Nodup:=by rw [←S.pre];exact S.nd.sublist (List.take_sublist _ _)
  refine⟨u,rv,?_⟩;rcases S.par y (List.mem_of_getElem? hp) with k |k
  ·exact .inl ⟨k,zhW ndP hp hu k⟩
  ·obtain⟨c,e⟩:=zjr (n:=s.heap.objs.size+1) k;refine .inr ⟨.inl k,c,e,?_⟩;have q:=x.cell y c e;rw [zhL ndP hp hu (by show scope.names.lookup y≠_;rw [k];decide)]at q;exact q
 ·exact e0.hok.fresh (Nat.le_of_lt (x.above y c (PySem.mem_of_lookup h)))
 ·unfold zgs;show _=N.length;rw [List.length_append,List.length_map,List.length_replicate];omega
theorem ztX{CX:CXT}{P:Program}{w:World}{K:PySem.W.Frag}{mg:Str→Option Value}{base:Heap}{k:Nat}{f:Addr}{name qual:Str}{params:Arguments}{body:List Stmt}{scope:Scope}{dV kV doc pm cdv ct oc:Value}{an od:Option Addr}
  {osl:Array (Option Value)}{N ps:List Str}{sp:Sp}(lk:K.lookup f=some ⟨oc,od, .func (PySem.W.fnOf name qual params body scope dV kV doc pm an cdv ct),osl⟩) (hcd:PySem.W.codeIn K cdv qual=true) (S:FnScope N ps scope)
  (len:∀vs H Q E,sp vs H Q E→vs.length=ps.length)
  (hbody:∀(A:Around) (outer:List Env) (s:Shared) (H:Hp) (vs:List V) (Q:VK) (E:XK),Room k (A.deeper (envOfC qual scope s.heap.objs.size f cdv))→sp vs H Q E→
   ∃t,PSs (zqH CX P w K mg base N qual scope f cdv A outer s H E) body t∧t { nx:=fun _ H'=>Q .non H',rt:=Q } (zgs N vs) H) :
  FnOk P w K mg base CX (k+1) f (PySem.W.fnOf name qual params body scope dV kV doc pm an cdv ct) ps sp:=by
 refine⟨len,fun A outer s H args us vs Q E hr e0 hb r hsp=>?_⟩;have hl:=len _ _ _ _ hsp;have KX:K.In s.heap:=e0.mod.kin.keeps fun b o e=>(e0.bs b o e).1;have lim:s.heap.NoLimit:=e0.mod.nolimit.keeps fun b o e=>(e0.bs b o e).1;have hkind:∀y∈ps.zip us,scope.names.lookup y.1=some .local∨(scope.names.lookup y.1=some .cell∧((cellsFrom (s.heap.objs.size+1) scope.names []).lookup y.1).isSome=true):=fun⟨n,v⟩ hy=>by
  rcases S.par n (List.of_mem_zip hy).1 with q |q
  ·exact .inl q
  ·exact .inr ⟨q,PySem.W.cellsFrom_some _ _ _ (.inl q)⟩
 refine codeAny_call_function hr.depth (KX _ _ lk) rfl S.co S.gen rfl (PySem.W.codeRec_of KX hcd) (hb _ _ _ _ ?_);refine wpAny_newFunctionEnv_cells S.kind hkind fun env he s1 x=>?_;subst he;refine⟨lim.keeps x.toInCall.keep,codeAny_func ?_⟩;obtain⟨t,ht,hq⟩:=hbody A outer s H vs Q E (hr.deeper _) hsp;have I:Inv (zqH CX P w K mg base N qual scope f cdv A outer s H E) [] (zgs N vs) H s1:=zmn S hr.hd e0 hl r x;refine wpAny_mono (ht [] s1 (zgs N vs) H _ I hq) (fun fl s' hs=>?_) fun e s' hs=>hs;have fin:∀{σ':St}{H':Hp}{v:V}{u:Value},Inv (zqH CX P w K mg base N qual scope f cdv A outer s H E) [] σ' H' s'→RelV v u→Q v H'→CE outer P w H s Q u s':=
  fun {σ' H' v u} J rv q=>⟨v,H',J.os,J.bare,J.base,J.hok,rv,q⟩
 cases fl with
 |ret u=>
  obtain⟨v,σ',H',J,rv,q⟩:=hs;exact fin J rv q
 |next=>
  obtain⟨σ',H',J,q⟩:=hs;exact fin (v:=V.non) (u:=Value.none) J rfl q
 |brk=>
  obtain⟨_,_,_,q⟩:=hs;exact False.elim q
 |cont=>
  obtain⟨_,_,_,q⟩:=hs;exact False.elim q
section
variable {X:Cx}{x:Str}{p pos:Pos}{e:Expr}{es:List Expr}{t:TA}{id T:String}{r:List V→Hp→VK→Prop}
noncomputable def tCB (r:List V→Hp→VK→Prop) (t:TA):TE:=fun σ H Q=>t σ H fun vs H1=>r vs H1 Q
theorem zfj (hc:CallR X (.builtin id) r) (hg:Gl X x) (hm:X.mg x=none) (hv:bootBuiltins x=some (.builtin id)) (ha:PA X (e::es) t) (hn:x≠ "__name__" :=by decide) (hdb:(x == ("__debug__" :Str))=false:=by decide)
  (he:starEach (e::es) X.env=(false,eval e X.env)::starEach es X.env:=by rfl) (hpl:(backTo pos (starEach es X.env)).any (·.1)=false:=by rfl):PE X (.Call (.Name x p) (e::es) [] pos) (tCB r t):=by
 intro pins s σ H Q I h;refine wpAny_Call_Name_kw (zjZ I hg hm hv ?_ hn hdb);exact PyProof.Rows.callWith_builtin1 (thn (ha pos pins s σ H _ I h) fun us s1 ⟨vs,H1,I1,r1,q1⟩=>hc pins s1 σ H1 vs us Q I1 r1 q1) he hpl
theorem zhQ (hc:CallR X (.type T) r) (hg:Gl X x) (hm:X.mg x=none) (hv:bootBuiltins x=some (.type T)) (ha:PA X (e::es) t) (hn:x≠ "__name__" :=by decide) (hdb:(x == ("__debug__" :Str))=false:=by decide)
  (he:starEach (e::es) X.env=(false,eval e X.env)::starEach es X.env:=by rfl) (hpl:(backTo pos (starEach es X.env)).any (·.1)=false:=by rfl):PE X (.Call (.Name x p) (e::es) [] pos) (tCB r t):=by
 intro pins s σ H Q I h;refine wpAny_Call_Name_kw (zjZ I hg hm hv ?_ hn hdb);exact PyProof.Rows.callWith_type1 (thn (ha pos pins s σ H _ I h) fun us s1 ⟨vs,H1,I1,r1,q1⟩=>hc pins s1 σ H1 vs us Q I1 r1 q1) he hpl
end
end L2
namespace HT
open PySem PyProof.Rows
section
variable {prog:Program}{w:World}{A:Around}{E:Value→Shared→Prop}{s:Shared}
theorem cat_tup{t b:Addr}{vs ws:List Value}{Q:Value→Shared→Prop}(ht:IsTup s.heap t vs.toArray) (hb:IsTup s.heap b ws.toArray) (hv:vs≠ [])
  (h1:ws=[]→Q (.ref t) s) (h2:ws≠ []→Q (.ref s.heap.objs.size) { s with heap:=s.heap.push { cls:= .type "tuple",data:= .seq (vs++ws).toArray } })
  (hsz:vs.length+ws.length≤sizeLine):wpAny (model prog w) A (binaryOp .Add (.ref t) (.ref b)) Q E s:=by
 obtain⟨⟨cls,dd,data,sl⟩,ho,hc,n,hd⟩:=id ht;obtain⟨⟨cls2,dd2,data2,sl2⟩,ho2,hc2,n2,hd2⟩:=id hb;simp only at hc hd hc2 hd2;subst hc hd hc2 hd2;have e:vs.toArray++ws.toArray=(vs++ws).toArray:=by simp
 by_cases hw:ws=[]
 ·exact concat_meets ⟨_,ho,rfl⟩ ⟨_,ho2,rfl⟩ noFill_tuple_add seq_tuple_add PySem.F.slot_tuple_add PySem.F.entry_tuple_add (PySem.F.args_tuple_add_2 _ _)
   (tuple_addW1 t b vs.toArray ws.toArray n n2 dd dd2 sl sl2 (by simpa using hv) (by simp [hw])) ⟨ho,ho2,h1 hw⟩
 ·refine concat_meets ⟨_,ho,rfl⟩ ⟨_,ho2,rfl⟩ noFill_tuple_add seq_tuple_add PySem.F.slot_tuple_add PySem.F.entry_tuple_add (PySem.F.args_tuple_add_2 _ _)
   (tuple_addW2 t b vs.toArray ws.toArray n n2 dd dd2 sl sl2 (by simpa using hv) (by simpa using hw) (by rw [List.size_toArray,List.size_toArray];exact hsz)) ⟨ho,ho2,?_⟩
  rw [e];exact h2 hw
noncomputable def sIx (n d:Nat):Option Int→Nat
 |none=>d
 |some v=>if v<0 then(v+(n:Int)).toNat else min v.toNat n
theorem sIx_none (n d:Nat):sIx n d none=d:=rfl
theorem sIx_nat (n d k:Nat):sIx n d (some (k:Int))=min k n:=by
 show(if(k:Int)<0 then((k:Int)+(n:Int)).toNat else min (k:Int).toNat n)=min k n;rw [if_neg (by omega),Int.toNat_natCast]
theorem sIx_le (n d:Nat) (hd:d≤n) (o:Option Int):sIx n d o≤n:=by
 cases o with
 |none=>exact hd
 |some v=>
  show(if v<0 then(v+(n:Int)).toNat else min v.toNat n)≤n;by_cases hv:v<0
  ·rw [if_pos hv];omega
  ·rw [if_neg hv];exact Nat.min_le_right _ _
theorem zlb (v:Int) (n d:Nat):(if v<0 then max (v+(n:Int)) 0 else min v (n:Int))=((sIx n d (some v):Nat):Int):=by
 show(if v<0 then max (v+(n:Int)) 0 else min v (n:Int))=(((if v<0 then(v+(n:Int)).toNat else min v.toNat n):Nat):Int);by_cases hv:v<0
 ·simp only[if_pos hv];omega
 ·simp only[if_neg hv];omega
theorem zko (lo hi:Option Int) (n:Nat):Builtin.Slice.sliceAdjust lo hi 1 (n:Int)=(((sIx n 0 lo:Nat):Int),((sIx n n hi:Nat):Int)):=by
 have h1:¬((1:Int)<0):=by omega
 unfold Builtin.Slice.sliceAdjust;simp only[h1,if_false];refine Prod.ext ?_ ?_
 ·cases lo with
  |none=>rfl
  |some v=>exact zlb v n 0
 ·cases hi with
  |none=>rfl
  |some v=>exact zlb v n n
theorem zku (i j:Nat):Builtin.Slice.slicePlaces (i:Int) (j:Int) 1=j - i:=by
 unfold Builtin.Slice.slicePlaces;have h1:(1:Int) > 0:=by omega
 simp only[h1,if_true,Int.ediv_one];split<;>omega
theorem zgD{v:Value}{o:Option Int}{Q:Option Int→Shared→Prop}(p:IsPart v o) (h:Q o s):wpAny (model prog w) A (Builtin.Slice.slicePartIndex v) Q E s:=by
 cases p with
 |none=>exact slicePart_none h
 |int i t=>exact slicePart_int h
theorem sliceApplied_gen{sl:Addr}{vl vu:Value}{lo hi:Option Int}{n:Nat}{Q:Int×Int×Nat→Shared→Prop}(hs:s.heap.IsSliceOf sl vl vu .none) (pl:IsPart vl lo) (pu:IsPart vu hi)
  (h:Q (((sIx n 0 lo:Nat):Int),1,sIx n n hi - sIx n 0 lo) s):wpAny (model prog w) A (Builtin.Slice.sliceApplied (.ref sl) (pure (n:Int))) Q E s:=by
 obtain⟨os,hos,hcs,hds⟩:=id hs;unfold Builtin.Slice.sliceApplied Builtin.Slice.sliceFields;refine wpAny_bind (wpAny_bind (wpAny_field hos hds (x:=vl) rfl (wpAny_bind (wpAny_field hos hds (x:=vu) rfl (wpAny_bind (wpAny_field hos hds (x:= .none) rfl (wpAny_pure ?_)))))));refine wpAny_bind (slicePart_none ?_);show wpAny _ _ (if((1:Int) == 0)=true then _ else _) _ _ s;rw [if_neg (by decide)];refine wpAny_bind (zgD pl (wpAny_bind (zgD pu (wpAny_bind (wpAny_pure ?_)))));show wpAny _ _ (match Builtin.Slice.sliceAdjust lo hi 1 (n:Int) with | (lo,hi)=>pure (lo,(1:Int),Builtin.Slice.slicePlaces lo hi 1)) _ _ s;rw [zko lo hi n];show wpAny _ _ (pure (((sIx n 0 lo:Nat):Int),(1:Int),Builtin.Slice.slicePlaces ((sIx n 0 lo:Nat):Int) ((sIx n n hi:Nat):Int) 1)) _ _ s;rw [zku];exact wpAny_pure h
theorem znI (xs:Array Value) (i k:Nat):((List.range k).filterMap fun(m:Nat)=>xs[((i:Int)+(m:Int)*1).toNat]?).toArray=((xs.toList.drop i).take k).toArray:=by
 have e:(fun(m:Nat)=>xs[((i:Int)+(m:Int)*1).toNat]?)=fun m=>xs[i+m]? :=by
  funext m;have:((i:Int)+(m:Int)*1).toNat=i+m:=by omega
  rw [this]
 rw [e];have:=pick_run xs i k;rw [List.filterMap_map]at this;have e2:((fun x=>xs[x]?)∘fun x=>i+x)=fun m=>xs[i+m]? :=rfl;rw [e2]at this;rw [this]
theorem getItem_tuple_cut{t sl:Addr}{items:Array Value}{vl vu:Value}{lo hi:Option Int}{Q:Value→Shared→Prop}(ht:IsTup s.heap t items) (hs:s.heap.IsSliceOf sl vl vu .none) (pl:IsPart vl lo) (pu:IsPart vu hi)
  (hw:¬(sIx items.size 0 lo=0∧sIx items.size items.size hi=items.size))
  (h:Q (.ref s.heap.objs.size) { s with heap:=s.heap.push { cls:= .type "tuple",data:= .seq ((items.toList.drop (sIx items.size 0 lo)).take (sIx items.size items.size hi - sIx items.size 0 lo)).toArray } })
  (hsz:items.size≤sizeLine):wpAny (model prog w) A (getItem (.ref t) (.ref sl)) Q E s:=by
 have htake:sizeOk (.seq ((items.toList.drop (sIx items.size 0 lo)).take (sIx items.size items.size hi - sIx items.size 0 lo)).toArray):=by
  show((items.toList.drop (sIx items.size 0 lo)).take (sIx items.size items.size hi - sIx items.size 0 lo)).toArray.size≤sizeLine;rw [List.size_toArray,List.length_take,List.length_drop,Array.length_toList];omega
 have hj:sIx items.size items.size hi≤items.size:=sIx_le _ _ (Nat.le_refl _) hi;obtain⟨os,hos,hcs,hds⟩:=id hs;have hTs:s.TypeIs (.ref sl) "slice" :=⟨os,hos,hcs⟩;unfold getItem
 try with_reducible refine wpAny_holding ?_
 first |refine wpAny_bind (wpAny_pure ?_) |skip
 refine wpAny_bind (wpAny_sequenceKey ht.typeIs (by decide) ?_);refine wpAny_bind (wpAny_callSpecial?_slot (name:=Str.ofString "__getitem__") ht.typeIs PyProof.Rows.slot_tuple_getitem
  (wpAny_call_entry PyProof.Rows.slot_tuple_getitem ht.typeIs entry_tuple_getitem ?_ (args_tuple_getitem _ _)))
 show wpAny _ _ (Builtin.Tuple.tupleItemsOf (.ref t) >>= _) _ _ s;refine wpAny_bind (tupleItemsOf_ ht ?_);refine wpAny_bind (wpAny_typeOf hTs ?_);rw [if_pos (by decide)];refine wpAny_bind (sliceApplied_gen hs pl pu ?_);have hno:¬((((sIx items.size 0 lo:Nat):Int) == 0&&(1:Int) == 1&&(sIx items.size items.size hi - sIx items.size 0 lo) == items.size)=true):=by
  intro q;rw [Bool.and_eq_true,Bool.and_eq_true]at q;have q1:((sIx items.size 0 lo:Nat):Int)=0:=eq_of_beq q.1.1;have q2:sIx items.size items.size hi - sIx items.size 0 lo=items.size:=eq_of_beq q.2;exact hw ⟨by omega,by omega⟩
 show wpAny _ _ (if(((sIx items.size 0 lo:Nat):Int) == 0&&(1:Int) == 1&&(sIx items.size items.size hi - sIx items.size 0 lo) == items.size)=true then _ else _) _ _ s;rw [if_neg hno,znI]
 first
  |exact wpAny_bind (m:=Builtin.Tuple.tupleExact _) (wpAny_newObj_type (wpAny_pure ⟨_,rfl,wpAny_pure h⟩) htake)
  |exact wpAny_bind (m:=Builtin.Tuple.tupleExact _) (wpAny_newObj_type (wpAny_bind (wpAny_pure (wpAny_pure ⟨_,rfl,wpAny_pure h⟩))) htake)
  |exact wpAny_bind (wpAny_bind (m:=Builtin.Tuple.tupleExact _) (wpAny_newObj_type (wpAny_pure (wpAny_pure ⟨_,rfl,wpAny_pure h⟩)) htake))
  |exact wpAny_bind (wpAny_bind (m:=Builtin.Tuple.tupleExact _) (wpAny_newObj_type (wpAny_pure ⟨_,rfl,wpAny_pure h⟩) htake))
end
end HT
namespace L2
open PySem PySem.Spec PyProof.Rows
noncomputable abbrev TO:=St→Hp→(Option Int→Hp→Prop)→Prop
noncomputable def PO (X:Cx) (e:Option Expr) (t:TO):Prop:=
 ∀(pins:List (Addr×Obj)) (s:Shared) (σ:St) (H:Hp) (Q:Option Int→Hp→Prop),Inv X pins σ H s→t σ H Q→
  wpAny (model X.prog X.w) X.A (evalPart e X.env) (fun u s'=>∃o H',Inv X pins σ H' s'∧IsPart u o∧Q o H') X.xe s
noncomputable def zpT:TO:=fun _ H Q=>Q none H
noncomputable def zuy (t:TE):TO:=fun σ H Q=>t σ H fun x H1=>∃i,x= .int i∧Q (some i) H1
section
variable {X:Cx}{e:Expr}{te:TE}{lo hi:Option Expr}{tl th:TO}{pos p2:Pos}
theorem po_none:PO X none zpT:=by
 intro pins s σ H Q I h;rw [evalPart_none];exact wpAny_pure ⟨none,H,I, .none,h⟩
theorem zpR (h:PE X e te):PO X (some e) (zuy te):=by
 intro pins s σ H Q I hw;rw [evalPart_some];refine thn (h pins s σ H _ I hw) fun u s1 ⟨x,H1,I1,r1,q1⟩=>?_;obtain⟨i,rfl,q⟩:=q1;obtain⟨t,rfl⟩:=r1;exact⟨some i,H1,I1, .int i t,q⟩
noncomputable def SlR (X:Cx) (r:V→Option Int→Option Int→Hp→VK→Prop):Prop:=
 ∀(pins:List (Addr×Obj)) (s:Shared) (σ:St) (H:Hp) (x:V) (v vl vu:Value) (lo hi:Option Int) (sl:Addr) (Q:VK),Inv X pins σ H s→RelV x v→s.heap.IsSliceOf sl vl vu .none→IsPart vl lo→IsPart vu hi→r x lo hi H Q→
  ∃T id,typeLookup (.type T) "__getitem__" =pure (some (.builtin id))∧s.TypeIs v T∧wpAny (model X.prog X.w) X.A (getItem v (.ref sl)) (EP X pins σ Q) X.xe s
theorem SlR.or{r r':V→Option Int→Option Int→Hp→VK→Prop}(h:SlR X r) (h':SlR X r'):SlR X (fun x lo hi H Q=>r x lo hi H Q∨r' x lo hi H Q):=by
 intro pins s σ H x v vl vu lo hi sl Q I rx hs pl pu q;rcases q with q |q
 ·exact h pins s σ H x v vl vu lo hi sl Q I rx hs pl pu q
 ·exact h' pins s σ H x v vl vu lo hi sl Q I rx hs pl pu q
noncomputable def tSl (r:V→Option Int→Option Int→Hp→VK→Prop) (te:TE) (tl th:TO):TE:=fun σ H Q=>te σ H fun x H1=>tl σ H1 fun l H2=>th σ H2 fun u H3=>r x l u H3 Q
theorem zjM{r:V→Option Int→Option Int→Hp→VK→Prop}(hr:SlR X r) (he:PE X e te) (hl:PO X lo tl) (hu:PO X hi th):PE X (.Subscript e (.Slice lo hi none p2) pos) (tSl r te tl th):=by
 intro pins s σ H Q I h;refine Subscript_ (thn (he pins s σ H _ I h) fun v s1 ⟨x,H1,I1,r1,q1⟩=>?_);refine wpAny_Slice (thn (hl pins s1 σ H1 _ I1 q1) fun vl s2 ⟨l,H2,I2,pl,q2⟩=>thn (hu pins s2 σ H2 _ I2 q2) fun vu s3 ⟨u,H3,I3,pu,q3⟩=>?_);rw [evalPart_none];refine wpAny_pure ?_;have I4:Inv X pins σ H3 { s3 with heap:=s3.heap.push { cls:= .type "slice",data:= .fields #[vl,vu, .none] } }:=I3.kept (t':=s3.toks) fun b ob q=>Heap.get?_push_of_some _ q;obtain⟨T,id,hT,ht,hg⟩:=hr pins { s3 with heap:=s3.heap.push { cls:= .type "slice",data:= .fields #[vl,vu, .none] } } σ H3 x v vl vu l u s3.heap.objs.size Q I4 r1 (Heap.IsSliceOf.new ..) pl pu q3;show wpAny (model X.prog X.w) X.A (subscriptTail e (.Slice lo hi none p2) v (.ref s3.heap.objs.size)) (EP X pins σ Q) X.xe { s3 with heap:=s3.heap.push { cls:= .type "slice",data:= .fields #[vl,vu, .none] } };exact tail_any (ops:=[.ref s3.heap.objs.size,v]) ht hT hg (by with_unfolding_all rfl)
noncomputable def zmH (xs:List V) (lo hi:Option Int):List V:=(xs.drop (HT.sIx xs.length 0 lo)).take (HT.sIx xs.length xs.length hi - HT.sIx xs.length 0 lo)
theorem zfZ (xs:List V) (lo hi:Option Int):(zmH xs lo hi).length≤xs.length:=by
 unfold zmH;rw [List.length_take,List.length_drop];omega
noncomputable def zuW (K:PySem.W.Frag):V→Option Int→Option Int→Hp→VK→Prop:=fun x lo hi H Q=>∃a xs,x= .ref a∧SqT K H a xs∧
 ¬(HT.sIx xs.length 0 lo=0∧HT.sIx xs.length xs.length hi=xs.length)∧ ∀p,H p=none→Q (.ref p) (upd H p (.tup (zmH xs lo hi)))
theorem zsR:SlR X (zuW X.K):=by
 intro pins s σ H x v vl vu lo hi sl Q I rx hs pl pu h;obtain⟨a,xs,rfl,hx,hw,q⟩:=h;cases rx;obtain⟨its,r,ht,hz⟩:=I.tuple hx;have hlen:its.toArray.size=xs.length:=by rw [List.size_toArray];exact r.length.symm
 refine⟨"tuple",_,PyProof.Rows.slot_tuple_getitem.lookup,ht.typeIs,?_⟩;refine HT.getItem_tuple_cut ht hs pl pu (by rw [hlen];exact hw) ?_ (by rw [hlen];exact hz);rw [hlen];refine⟨.ref s.heap.objs.size,_,I.laid (t':=s.toks) (o:= .tup (zmH xs lo hi)) (fun b ob q=>Heap.get?_push_of_some _ q) (Nat.le_refl _) ?_,rfl,q _ (I.hok.fresh (Nat.le_refl _))⟩;exact⟨Nat.le_trans (zfZ xs lo hi) hz,_,(r.drop (HT.sIx xs.length 0 lo)).take (HT.sIx xs.length xs.length hi - HT.sIx xs.length 0 lo),IsTup.new _ _⟩
noncomputable def zpd (K:PySem.W.Frag):R2:=fun x y H Q=>∃a b xs ys,x= .ref a∧y= .ref b∧SqT K H a xs∧SqT K H b ys∧xs≠ []∧xs.length+ys.length≤sizeLine∧
 (ys=[]→Q (.ref a) H)∧(ys≠ []→ ∀p,H p=none→Q (.ref p) (upd H p (.tup (xs++ys))))
theorem Vals.nil_iff{xs:List V}{us:List Value}(r:Vals xs us):us=[]↔xs=[]:=by
 cases r with
 |nil=>simp
 |cons _ _=>simp
theorem op_catT:OpR X (binaryOp .Add) (zpd X.K):=by
 intro pins s σ H x y v u Q I rx ry h;obtain⟨a,b,xs,ys,rfl,rfl,ha,hb,hx,hz,q1,q2⟩:=h;cases rx;cases ry;obtain⟨its,r1,p1,_⟩:=I.tuple ha;obtain⟨its2,r2,p2,_⟩:=I.tuple hb;refine HT.cat_tup p1 p2 (fun z=>hx (r1.nil_iff.mp z)) (fun z=>⟨.ref a,H,I,rfl,q1 (r2.nil_iff.mp z)⟩) (fun z=>?_) (by rw [←r1.length,←r2.length];exact hz);refine⟨.ref s.heap.objs.size,_,I.laid (t':=s.toks) (o:= .tup (xs++ys)) (fun b ob q=>Heap.get?_push_of_some _ q) (Nat.le_refl _) ?_,rfl,q2 (fun w=>z (r2.nil_iff.mpr w)) _ (I.hok.fresh (Nat.le_refl _))⟩;exact⟨by rw [List.length_append];exact hz,_,r1.append r2,IsTup.new _ _⟩
end
noncomputable def ixN (n:Nat) (i:Int):Option Nat:=if 0≤i then(if i<n then some i.toNat else none) else if -(n:Int)≤i then some (i+n).toNat else none
noncomputable def atI {α:Type}(xs:List α) (i:Int):Option α:=(ixN xs.length i).bind fun j=>xs[j]?
theorem zqr{n:Nat}{i:Int}{j:Nat}(h:ixN n i=some j):seqIndex? i n=some j∧j<n∧ -(n:Int)≤i∧i<n:=by
 unfold ixN at h;by_cases h0:0≤i
 ·rw [if_pos h0]at h;by_cases h1:i<n
  ·rw [if_pos h1]at h;have e:i.toNat=j:=Option.some.inj h;exact⟨by rw [seqIndex_of h0 h1,e],by omega,by omega,h1⟩
  ·rw [if_neg h1]at h;cases h
 ·rw [if_neg h0]at h;by_cases h1: -(n:Int)≤i
  ·rw [if_pos h1]at h;have e:(i+n).toNat=j:=Option.some.inj h;exact⟨by rw [seqIndex_neg (by omega) h1,e],by omega,h1,by omega⟩
  ·rw [if_neg h1]at h;cases h
theorem ziZ{α:Type}{xs:List α}{i:Int}{v:α}(h:atI xs i=some v):∃j,seqIndex? i xs.length=some j∧xs[j]? =some v∧j<xs.length∧ -(xs.length:Int)≤i∧i<xs.length:=by
 unfold atI at h;cases e:ixN xs.length i with
 |none=>rw [e]at h;cases h
 |some j=>
  rw [e]at h;obtain⟨h1,h2,h3,h4⟩:=zqr e;exact⟨j,h1,h,h2,h3,h4⟩
theorem zgS{α:Type}{xs:List α}{j:Nat}{v:α}(h:xs[j]? =some v):atI xs (j:Int)=some v:=by
 have hj:j<xs.length:=(List.getElem?_eq_some_iff.mp h).1;have e:ixN xs.length (j:Int)=some j:=by
  unfold ixN;rw [if_pos (by omega),if_pos (by omega)];simp
 unfold atI;rw [e];exact h
noncomputable def ziL (b:Expr):Prop:=∀o i,subscripted b false o i=operate [o,i] (getItem o i)
noncomputable def IxR (X:Cx) (r:R2):Prop:=
 ∀(value slice:Expr) (pins:List (Addr×Obj)) (s:Shared) (σ:St) (H:Hp) (x y:V) (v u:Value) (Q:VK),Inv X pins σ H s→RelV x v→RelV y u→r x y H Q→
  subscripted slice false v u=operate [v,u] (getItem v u)→wpAny (model X.prog X.w) X.A (subscriptTail value slice v u) (EP X pins σ Q) X.xe s
noncomputable def MtR (X:Cx) (id:String) (r:V→List V→Hp→VK→Prop):Prop:=
 ∀(pins:List (Addr×Obj)) (s:Shared) (σ:St) (H:Hp) (x:V) (xs:List V) (v:Value) (us:List Value) (Q:VK),Inv X pins σ H s→RelV x v→Vals xs us→r x xs H Q→
  wpAny (model X.prog X.w) X.A (call (.builtin id) (v::us)) (EP X pins σ Q) X.xe s
section
variable {X:Cx}{a b:Expr}{ta tb:TE}{pos:Pos}
theorem IxR.or{r r':R2}(h:IxR X r) (h':IxR X r'):IxR X (fun x y H Q=>r x y H Q∨r' x y H Q):=by
 intro value slice pins s σ H x y v u Q I rx ry q hs;rcases q with q |q
 ·exact h value slice pins s σ H x y v u Q I rx ry q hs
 ·exact h' value slice pins s σ H x y v u Q I rx ry q hs
theorem MtR.or{id:String}{r r':V→List V→Hp→VK→Prop}(h:MtR X id r) (h':MtR X id r'):MtR X id (fun x xs H Q=>r x xs H Q∨r' x xs H Q):=by
 intro pins s σ H x xs v us Q I rx rs q;rcases q with q |q
 ·exact h pins s σ H x xs v us Q I rx rs q
 ·exact h' pins s σ H x xs v us Q I rx rs q
theorem zrq{r:R2}(hr:IxR X r) (ha:PE X a ta) (hb:PE X b tb) (hs:ziL b):PE X (.Subscript a b pos) (tOp r ta tb):=by
 intro pins s σ H Q I h;exact Subscript_ (zud ha hb I h fun v u s2 x y H2 I2 rx ry q=>hr a b pins s2 σ H2 x y v u Q I2 rx ry q (hs _ _))
noncomputable def zuL (K:PySem.W.Frag):R2:=fun x y H Q=>∃p xs i v,x= .ref p∧y= .int i∧SqL K H p xs∧atI xs i=some v∧Q v H
noncomputable def zuS (K:PySem.W.Frag):R2:=fun x y H Q=>∃p xs i v,x= .ref p∧y= .int i∧SqT K H p xs∧atI xs i=some v∧Q v H
noncomputable def zuO:R2:=fun x y H Q=>∃z i c,x= .str z∧y= .int i∧z.length≤sizeLine∧atI z.cps.toList i=some c∧Q (.str ⟨#[c]⟩) H
theorem ix_list:IxR X (zuL X.K):=by
 intro value slice pins s σ H x y v u Q I rx ry h hs;obtain⟨p,xs,i,z,rfl,rfl,hq,he,q⟩:=h;cases rx;obtain⟨t,rfl⟩:=ry;obtain⟨its,r,pl,hz⟩:=I.list hq;obtain⟨j,h1,h2,h3,h4,h5⟩:=ziZ he;obtain⟨w,ew,rw'⟩:=r.get h2;have hl:=r.length;have hn:=zgv;have fin:EP X pins σ Q w s:=⟨z,H,I,rw',q⟩;by_cases h0:0≤i
 ·have hj:i.toNat=j:=by
   rw [seqIndex_of h0 h5]at h1;exact Option.some.inj h1
  exact item_listR pl.isList h0 (by omega) (by rw [hj];simpa using ew) fin hs
 ·have hj:(i+(its.toArray.size:Int)).toNat=j:=by
   rw [seqIndex_neg (by omega) h4]at h1;rw [List.size_toArray,←hl];exact Option.some.inj h1
  exact subscriptTail_builtinR (x:=w) pl.isList.typeIs slot_list_getitem.lookup
   (wpAny_getItem_list_neg (Q:=fun r s'=>r=w∧EP X pins σ Q r s') pl.isList (by omega) (by rw [List.size_toArray]<;>omega) (by omega) (by rw [hj];simpa using ew) ⟨rfl,fin⟩) hs
theorem ix_tup:IxR X (zuS X.K):=by
 intro value slice pins s σ H x y v u Q I rx ry h hs;obtain⟨p,xs,i,z,rfl,rfl,hq,he,q⟩:=h;cases rx;obtain⟨t,rfl⟩:=ry;obtain⟨its,r,pl,hz⟩:=I.tuple hq;obtain⟨j,h1,h2,h3,h4,h5⟩:=ziZ he;obtain⟨w,ew,rw'⟩:=r.get h2;have hl:=r.length;have hn:=zgv;have fin:EP X pins σ Q w s:=⟨z,H,I,rw',q⟩;exact subscriptTail_builtinR (x:=w) pl.typeIs slot_tuple_getitem.lookup
  (getItem_tuple (j:=j) (Q:=fun r s'=>r=w∧EP X pins σ Q r s') pl (by omega) (by omega) (by rw [List.size_toArray,←hl];exact h1) (by simpa using ew) ⟨rfl,fin⟩) hs
theorem zqZ:IxR X zuO:=by
 intro value slice pins s σ H x y v u Q I rx ry h hs;obtain⟨z,i,c,rfl,rfl,hz,he,q⟩:=h;obtain⟨t,rfl⟩:=rx;obtain⟨t',rfl⟩:=ry;obtain⟨j,h1,h2,h3,h4,h5⟩:=ziZ he;have hl:z.cps.toList.length=z.length:=by simp [Str.length]
 rw [hl]at h1 h4 h5;have hn:=zgv;exact tail_any (typeIs_str s z t) slot_str_getitem.lookup (getItem_str (c:=c) (by
  have e1:decide (i< -(2 ^ 63:Int))=false:=decide_eq_false (by omega);have e2:decide (i≥2 ^ 63)=false:=decide_eq_false (by omega);rw [e1,e2,Bool.or_false]) (by rw [h1];simpa using h2) ⟨.str ⟨#[c]⟩,H,I.tok _,⟨_,rfl⟩,q⟩) hs
noncomputable def rIx (K:PySem.W.Frag):R2:=fun x y H Q=>zuL K x y H Q∨zuS K x y H Q∨zuO x y H Q
theorem zoH:IxR X (rIx X.K):=ix_list.or (ix_tup.or zqZ)
theorem zhY (lo hi:Option Int) (n:Nat):(sliceBounds lo hi none n).1=((HT.sIx n 0 lo:Nat):Int)∧(sliceBounds lo hi none n).2.1=((HT.sIx n n hi:Nat):Int)∧(sliceBounds lo hi none n).2.2=1:=by
 refine⟨?_,?_,rfl⟩
 ·cases lo with
  |none=>simp [sliceBounds,HT.sIx]
  |some i=>
   simp only[sliceBounds,HT.sIx,Option.getD_none,show(1:Int) > 0 by decide,if_true]
   by_cases h:i<0
   ·simp only[h,if_true]<;>omega
   ·simp only[h,if_false]<;>omega
 ·cases hi with
  |none=>simp [sliceBounds,HT.sIx]
  |some i=>
   simp only[sliceBounds,HT.sIx,Option.getD_none,show(1:Int) > 0 by decide,if_true]
   by_cases h:i<0
   ·simp only[h,if_true]<;>omega
   ·simp only[h,if_false]<;>omega
theorem zhc (its:List Value) (lo hi:Option Int):slicePick its.toArray lo hi none=((its.drop (HT.sIx its.length 0 lo)).take (HT.sIx its.length its.length hi - HT.sIx its.length 0 lo)).toArray:=by
 obtain⟨h1,h2,h3⟩:=zhY lo hi its.toArray.size;unfold slicePick;rw [h1,h2,h3];simp only[sliceRange_one,pick_run,List.size_toArray]<;>rfl
noncomputable def zvH (K:PySem.W.Frag):V→Option Int→Option Int→Hp→VK→Prop:=fun x lo hi H Q=>∃a xs,x= .ref a∧SqL K H a xs∧ ∀p,H p=none→Q (.ref p) (upd H p (.lst (zmH xs lo hi)))
theorem zmk:SlR X (zvH X.K):=by
 intro pins s σ H x v vl vu lo hi sl Q I rx hs pl pu h;obtain⟨a,xs,rfl,hx,q⟩:=h;cases rx;obtain⟨its,r,ht,hz⟩:=I.list hx;have hlen:=r.length;refine⟨"list",_,slot_list_getitem.lookup,ht.isList.typeIs,?_⟩;refine wpAny_getItem_list_slice ht.isList hs pl pu .none (by simp) ?_ (by rw [List.size_toArray]<;>omega);rw [zhc,←hlen];refine⟨.ref s.heap.objs.size,_,I.laid (t':=s.toks) (o:= .lst (zmH xs lo hi)) (fun b ob q=>Heap.get?_push_of_some _ q) (Nat.le_refl _) ?_,rfl,q _ (I.hok.fresh (Nat.le_refl _))⟩;exact⟨Nat.le_trans (zfZ xs lo hi) hz,_,0,(r.drop (HT.sIx xs.length 0 lo)).take (HT.sIx xs.length xs.length hi - HT.sIx xs.length 0 lo),Heap.get?_push_size _ rfl⟩
theorem call_len_seq:CallR X (.builtin "len") (fun xs H Q=>∃p ys,xs=[.ref p]∧(SqL X.K H p ys∨SqT X.K H p ys)∧Q (.int ys.length) H):=by
 intro pins s σ H xs us Q I r h;obtain⟨p,ys,rfl,hq,q⟩:=h;obtain⟨u,rfl,rx⟩:=zgr r;cases rx;have hn:=zgv;rcases hq with hq |hq
 ·obtain⟨its,r',pl,hz⟩:=I.list hq;have hlen:=r'.length;exact Calls.call_len_list pl.isList (by simp only[List.size_toArray]<;>omega) ⟨.int ys.length,H,I.tok _,⟨s.toks+1,by rw [List.size_toArray,hlen]⟩,q⟩
 ·obtain⟨its,r',pl,hz⟩:=I.tuple hq;have hlen:=r'.length;exact len_tuple pl (by simp only[List.size_toArray]<;>omega) ⟨.int ys.length,H,I.tok _,⟨s.toks+1,by rw [List.size_toArray,hlen]⟩,q⟩
theorem zhw:CallR X (.builtin "len") (fun xs H Q=>∃z,xs=[.str z]∧z.length≤sizeLine∧Q (.int z.length) H):=by
 intro pins s σ H xs us Q I r h;obtain⟨z,rfl,hz,q⟩:=h;obtain⟨u,rfl,t,rfl⟩:=zgr r;have hn:=zgv;exact len_str (by omega) ⟨.int z.length,H,I.tok _,⟨_,rfl⟩,q⟩
theorem CallR.or{f:Value}{r r':List V→Hp→VK→Prop}(h:CallR X f r) (h':CallR X f r'):CallR X f (fun xs H Q=>r xs H Q∨r' xs H Q):=by
 intro pins s σ H xs us Q I rs q;rcases q with q |q
 ·exact h pins s σ H xs us Q I rs q
 ·exact h' pins s σ H xs us Q I rs q
theorem zfg:CallR X (.type "tuple") (fun xs H Q=>∃p ys,xs=[.ref p]∧((SqL X.K H p ys∧ ∀l,H l=none→Q (.ref l) (upd H l (.tup ys)))∨(SqT X.K H p ys∧Q (.ref p) H))):=by
 intro pins s σ H xs us Q I r h;obtain⟨p,ys,rfl,h⟩:=h;obtain⟨u,rfl,rx⟩:=zgr r;cases rx;rcases h with⟨hq,q⟩ |⟨hq,q⟩
 ·obtain⟨its,r',pl,hz⟩:=I.list hq;have hlen:=r'.length;refine call_tuple_list pl.isList (fun h' kp=>?_) (by simp only[List.size_toArray]<;>omega);have I1:Inv X pins σ H { s with heap:=h' }:=I.kept (t':=s.toks) kp;have I2:Inv X pins σ (upd H h'.objs.size (.tup ys)) { s with heap:=h'.push { cls:= .type "tuple",data:= .seq its.toArray } }:=
   I1.laid (t':=s.toks) (fun b o e=>Heap.get?_push_of_some _ e) (Nat.le_refl _) (show ObjOk X.prog X.w _ _ _ (.tup ys) from⟨hz,its,r',IsTup.new _ _⟩)
  exact⟨.ref h'.objs.size,_,I2,rfl,q _ (I1.hok.fresh (Nat.le_refl _))⟩
 ·obtain⟨its,r',pl,hz⟩:=I.tuple hq;exact call_tuple_same pl ⟨.ref p,H,I,rfl,q⟩
noncomputable def tyV (K:PySem.W.Frag) (T:String) (x:V) (H:Hp):Prop:=match x with
 | .str _=>T= "str"
 | .int _=>T= "int"
 | .ref p=>(T= "list" ∧ ∃xs,SqL K H p xs)∨(T= "tuple" ∧ ∃o,K.lookup p=some o∧o.cls= .type "tuple" ∧o.dict=none)∨
   (T= "dict" ∧((∃kvs,H p=some (.dK kvs))∨ ∃kvs,H p=some (.dT kvs)))∨(T= "set" ∧ ∃S n,H p=some (.set S n))
 |_=>False
theorem zsF{pins:List (Addr×Obj)}{σ:St}{H:Hp}{s:Shared}{T:String}{x:V}{v:Value}(I:Inv X pins σ H s) (r:RelV x v) (ty:tyV X.K T x H) :
  s.TypeIs v T∧ ∀a,v= .ref a→ ∃ob,s.heap.get? a=some ob∧ob.dict=none:=by
 cases x with
 |str z=>
  obtain⟨t,rfl⟩:=r;cases(show T= "str" from ty);exact⟨typeIs_str s z t,fun _ e=>nomatch e⟩
 |int i=>
  obtain⟨t,rfl⟩:=r;cases(show T= "int" from ty);exact⟨typeIs_int s i t,fun _ e=>nomatch e⟩
 |ref p=>
  cases r;rcases ty with⟨rfl,xs,hq⟩ |⟨rfl,o,hk,hc,hd⟩ |⟨rfl,hk⟩ |⟨rfl,S,n,hk⟩
  ·obtain⟨its,_,pl,_⟩:=I.list hq;refine⟨pl.isList.typeIs,fun a e=>?_⟩;cases e;obtain⟨o,n,e,c,hd,_⟩:=pl;exact⟨o,e,hd⟩
  ·refine⟨⟨o,I.kIn p o hk,hc⟩,fun a e=>?_⟩;cases e;exact⟨o,I.kIn _ o hk,hd⟩
  ·have z:∃o,s.heap.get? p=some o∧o.ExactDict:=by
    rcases hk with⟨kvs,hk⟩ |⟨kvs,hk⟩
    ·obtain⟨_,_,_,_,o,_,_,e,ex,_⟩:=I.hok p _ hk;exact⟨o,e,ex⟩
    ·obtain⟨_,_,_,_,o,_,_,e,ex,_⟩:=I.hok p _ hk;exact⟨o,e,ex⟩
   obtain⟨o,e,ex⟩:=z;refine⟨⟨o,e,ex.1⟩,fun a e2=>?_⟩;cases e2;exact⟨o,e,ex.2.1⟩
  ·obtain⟨o,_,_,_,e,ex,_⟩:=I.hok p _ hk;refine⟨⟨o,e,ex.1⟩,fun a e2=>?_⟩;cases e2;exact⟨o,e,ex.2.1⟩
 |_=>exact False.elim ty
noncomputable def tBM (K:PySem.W.Frag) (T:String) (r:V→List V→Hp→VK→Prop) (to:TE) (t:TA):TE:=fun σ H Q=>to σ H fun x H1=>tyV K T x H1∧t σ H1 fun xs H2=>r x xs H2 Q
variable {o e:Expr}{es:List Expr}{to:TE}{t:TA}{name:Str}{apos cpos:Pos}{T id:String}{r:V→List V→Hp→VK→Prop}
theorem zrT (pa:PlainAttrs T) (slot:Slot T name id) (hty:typeOf (.builtin id)=pure (.type "method_descriptor")) (hm:MtR X id r) (ho:PE X o to) (ha:PA X (e::es) t)
  (hbase:attributeBase o name X.env (eval o X.env)=eval o X.env:=by rfl)
  (hfew:((backTo cpos (starEach (e::es) X.env)).all (fun x=> !x.1)&&(backToKw cpos (keywordEach [] X.env)).all (fun x=>x.1.isSome)
   &&decide ((e::es).length+([]:List Keyword).length+(if([]:List Keyword).isEmpty then 0 else 1)<30))=true:=by rfl)
  (hline:(apos.endLine == cpos.line)=true:=by rfl) (hs:starEach (e::es) X.env=(false,eval e X.env)::starEach es X.env:=by rfl) (hplain:(backTo cpos (starEach es X.env)).any (·.1)=false:=by rfl) :
  PE X (.Call (.Attribute o name apos) (e::es) [] cpos) (tBM X.K T r to t):=by
 intro pins s σ H Q I h;refine wpAny_Call_method_late hbase hfew hline rfl (thn (ho pins s σ H _ I h) fun v s1 ⟨x,H1,I1,r1,ty,q1⟩=>?_);obtain⟨h1,h2⟩:=zsF I1 r1 ty;refine⟨T,id,pa,slot,hty,h1,h2,?_⟩;have hA:=ha cpos pins s1 σ H1 _ I1 q1;rw [hs]at hA⊢;refine Calls.callWith_builtin (by show(false || (backTo cpos (starEach es X.env)).any (·.1))=false;rw [hplain]<;>rfl) (Calls.evalArgs_plain ?_)
 exact thn hA fun us s2 ⟨vs,H2,I2,r2,q2⟩=>hm pins s2 σ H2 x vs v us Q I2 r1 r2 q2
end
noncomputable def MtM (X:Cx) (id:String) (r:V→List V→Hp→VK→Prop):Prop:=
 ∀(pins:List (Addr×Obj)) (s:Shared) (σ:St) (H:Hp) (x:V) (xs:List V) (v:Value) (us:List Value) (Q:VK),Inv X pins σ H s→RelV x v→Vals xs us→r x xs H Q→
  wpAny (model X.prog X.w) X.A (call (.builtin id) (v::us)) (EP X pins σ Q) X.xe s
theorem Vals.one:∀{x:V}{us:List Value},Vals [x] us→ ∃u,us=[u]∧RelV x u
 |_,_, .cons r .nil=>⟨_,rfl,r⟩
theorem Vals.rep{xs:List V}{us:List Value}(h:Vals xs us):∀k:Nat,Vals (List.replicate k xs).flatten (List.replicate k us).flatten
 |0=> .nil
 |k+1=>by
  rw [List.replicate_succ,List.replicate_succ,List.flatten_cons,List.flatten_cons];exact Vals.append h (Vals.rep h k)
theorem zhu (its:List Value):∀(k:Nat) (acc:List Value),
  List.foldl (fun x1 x2=>x1++x2) acc.toArray (List.replicate k its.toArray)=(acc++(List.replicate k its).flatten).toArray
 |0,acc=>by simp
 |k+1,acc=>by
  have e:acc.toArray++its.toArray=(acc++its).toArray:=by simp
  have e2:(acc++its)++(List.replicate k its).flatten=acc++(List.replicate (k+1) its).flatten:=by
   rw [List.replicate_succ,List.flatten_cons,List.append_assoc]
  rw [←e2,←zhu its k (acc++its),←e,List.replicate_succ,List.foldl_cons]
section
variable {X:Cx}{pins:List (Addr×Obj)}{σ:St}{H:Hp}{s:Shared}{l:Addr}{xs ys:List V}
theorem Inv.lset{its its':List Value}{n:Nat}{f:Array Value→Array Value}{t':Nat}(I:Inv X pins σ H s) (hH:H l=some (.lst xs))
  (e:s.heap.get? l=some { cls:= .type "list",data:= .seq its.toArray n }) (hf:f its.toArray=its'.toArray) (hv:Vals ys its') (hz:ys.length≤sizeLine) :
  Inv X pins σ (upd H l (.lst ys)) { s with heap:=s.heap.update l (Obj.mapSeq f),toks:=t' }:=by
 have q:=PySem.IsL.update e f;rw [hf]at q;refine I.write (x:=l) (e:=l) (by rw [hH];exact trivial) (.inl rfl) (fun b' u hb hu=>(Heap.get?_update_other s.heap (Obj.mapSeq f) (Ne.symm hb)).trans hu) ⟨_,q⟩ ?_;exact⟨hz,its',_,hv,q⟩
theorem Inv.lnew{its:List Value}{t':Nat}(I:Inv X pins σ H s) (hv:Vals ys its) (hz:ys.length≤sizeLine) :
  Inv X pins σ (upd H s.heap.objs.size (.lst ys)) { s with heap:=s.heap.push { cls:= .type "list",data:= .seq its.toArray },toks:=t' }:=
 I.laid (fun _ _ q=>Heap.get?_push_of_some _ q) (Nat.le_refl _) ⟨hz,its,0,hv,Heap.get?_push_size _ rfl⟩
theorem Inv.fresh (I:Inv X pins σ H s):H s.heap.objs.size=none:=I.hok.fresh (Nat.le_refl _)
theorem Inv.lstM (I:Inv X pins σ H s) (hH:H l=some (.lst xs)):xs.length≤sizeLine∧ ∃(its:List Value) (n:Nat),Vals xs its∧xs.length=its.length∧s.heap.get? l=some { cls:= .type "list",data:= .seq its.toArray n }:=by
 obtain⟨z,its,n,r,e⟩:=I.hok l _ hH;exact⟨z,its,n,r,r.length,e⟩
theorem zhb{n:Nat}(h:n≤sizeLine):Builtin.List.listTooLong n=false:=by
 unfold Builtin.List.listTooLong;exact decide_eq_false (by omega)
end
section
variable {X:Cx}
noncomputable def zln:V→List V→Hp→VK→Prop:=fun x vs H Q=>∃l xs y,x= .ref l∧vs=[y]∧H l=some (.lst xs)∧xs.length<sizeLine∧Q .non (upd H l (.lst (xs++[y])))
theorem zhP:MtM X "list.append" zln:=by
 intro pins s σ H x vs v us Q I rx rv h;obtain⟨l,xs,y,rfl,rfl,hH,hz,q⟩:=h;cases rx;obtain⟨u,rfl,ru⟩:=rv.one;obtain⟨z,its,n,r,hl,e⟩:=I.lstM hH;refine call_meets F.slot_list_append ⟨_,e,rfl⟩ F.entry_list_append (F.args_list_append_2 _ _) (PySem.list_append l its.toArray n u (by rw [List.size_toArray];omega)) ⟨e,?_⟩;refine⟨.non,_,I.lset (its':=its++[u]) hH e (by simp) (r.append (.cons ru .nil)) ?_,rfl,q⟩;rw [List.length_append,List.length_singleton];omega
noncomputable def zlc:V→List V→Hp→VK→Prop:=fun x vs H Q=>∃l b xs zs,x= .ref l∧vs=[.ref b]∧H l=some (.lst xs)∧H b=some (.lst zs)∧xs.length+zs.length≤sizeLine∧Q .non (upd H l (.lst (xs++zs)))
theorem zml:MtM X "list.extend" zlc:=by
 intro pins s σ H x vs v us Q I rx rv h;obtain⟨l,b,xs,zs,rfl,rfl,hH,hB,hz,q⟩:=h;cases rx;obtain⟨u,rfl,ru⟩:=rv.one;cases ru;obtain⟨z,its,n,r,hl,e⟩:=I.lstM hH;obtain⟨z2,its2,n2,r2,hl2,e2⟩:=I.lstM hB;have hsz:its.toArray.size+its2.toArray.size≤sizeLine:=by rw [List.size_toArray,List.size_toArray];omega
 have hlong:¬(!its.toArray.isEmpty&&Builtin.List.listTooLong (its.toArray.size+its2.toArray.size))=true:=by
  rw [zhb hsz,Bool.and_false];exact Bool.false_ne_true
 refine call_meets F.slot_list_extend ⟨_,e,rfl⟩ F.entry_list_extend (F.args_list_extend_2 _ _)
  (AutoSeq1.list_extend_list_list_0 l its.toArray n b its2.toArray n2 hlong (by rw [List.size_toArray];omega) (by omega)) ⟨e,e2,?_⟩
 refine⟨.non,_,I.lset (its':=its++its2) hH e (by simp) (r.append r2) ?_,rfl,q⟩;rw [List.length_append];omega
noncomputable def zuI:R2:=fun x y H Q=>∃l b xs zs,x= .ref l∧y= .ref b∧H l=some (.lst xs)∧H b=some (.lst zs)∧xs.length+zs.length≤sizeLine∧ ∀p,H p=none→Q (.ref p) (upd H p (.lst (xs++zs)))
theorem zlg:OpR X (binaryOp .Add) zuI:=by
 intro pins s σ H x y v u Q I rx ry h;obtain⟨l,b,xs,zs,rfl,rfl,hH,hB,hz,q⟩:=h;cases rx;cases ry;obtain⟨z,its,n,r,hl,e⟩:=I.lstM hH;obtain⟨z2,its2,n2,r2,hl2,e2⟩:=I.lstM hB;refine PySem.P.add_list e e2 ?_ (by rw [List.size_toArray,List.size_toArray];omega);have ea:its.toArray++its2.toArray=(its++its2).toArray:=by simp
 rw [ea];exact⟨.ref _,_,I.lnew (t':=s.toks) (r.append r2) (by rw [List.length_append];omega),rfl,q _ I.fresh⟩
noncomputable def zvz:R2:=fun x y H Q=>∃l k xs,x= .ref l∧y= .int k∧H l=some (.lst xs)∧ -(2 ^ 63)≤k∧k<2 ^ 63∧xs.length*k.toNat≤sizeLine∧
 ∀p,H p=none→Q (.ref p) (upd H p (.lst (List.replicate k.toNat xs).flatten))
theorem zpI{α:Type}(xs:List α) (k:Nat):(List.replicate k xs).flatten.length=k*xs.length:=by
 induction k with
 |zero=>simp
 |succ k ih=>rw [List.replicate_succ,List.flatten_cons,List.length_append,ih,Nat.succ_mul,Nat.add_comm]
theorem zrd:OpR X (binaryOp .Mult) zvz:=by
 intro pins s σ H x y v u Q I rx ry h;obtain⟨l,k,xs,rfl,rfl,hH,h1,h2,hz,q⟩:=h;cases rx;obtain⟨t,rfl⟩:=ry;obtain⟨z,its,n,r,hl,e⟩:=I.lstM hH;have hlen:its.toArray.size*k.toNat≤sizeLine:=by rw [List.size_toArray,←hl];exact hz
 have hcap:¬its.toArray.size*k.toNat > (2 ^ 63 - 1) / 8:=by
  have:(sizeLine:Nat)≤(2 ^ 63 - 1) / 8:=by decide
  omega
 have hfit:¬(!Builtin.List.listFitsIndex k)=true:=by
  rw [fitsIndex_both h1 h2];exact Bool.false_ne_true
 have hlong:¬Builtin.List.listTooLong (its.toArray.size*k.toNat)=true:=by
  rw [zhb hlen];exact Bool.false_ne_true
 have hnew:List.foldl (fun x1 x2=>x1++x2) #[] (List.replicate (if its.toArray.isEmpty=true then 0 else k.toNat) its.toArray)=(List.replicate k.toNat its).flatten.toArray:=by
  have f0:∀m:Nat,List.foldl (fun x1 x2=>x1++x2) #[] (List.replicate m its.toArray)=(List.replicate m its).flatten.toArray:=fun m=>by
   have:=zhu its m [];rw [List.nil_append]at this;exact this
  rw [f0];cases its with
  |nil=>simp
  |cons a r'=>rw [if_neg (by simp)]
 refine wpAny_binaryOp_repeat_ref (T:= "list") (U:= "int") (by decide) ⟨_,e,rfl⟩ (fun s'=>typeIs_int s' k t) noFill_list_mul F.fills_int_mul F.slot_int_rmul repeat_list F.slot_int_index.lookup
  (call_meets F.slot_int_rmul (typeIs_int s k t) F.entry_int_rmul (F.args_int_rmul_2 _ _) (int___rmul___int_list k t l its.toArray n)
   ⟨e,rfl,⟨_,e,rfl⟩,call_meets F.slot_list_mul ⟨_,e,rfl⟩ F.entry_list_mul (F.args_list_mul_2 _ _) (AutoListH.list___mul___list_int_3 l its.toArray n k t hfit hcap hlong) ⟨e,?_⟩⟩)
 rw [hnew];exact⟨.ref _,_,I.lnew (t':=s.toks) (r.rep k.toNat) (by rw [zpI,Nat.mul_comm];exact hz),rfl,q _ I.fresh⟩
end
end L2
namespace Att
open PySem PySem.W PySem.Calls PyProof.Rows
theorem zfV{P:Params}{h:Heap}:∀(ns:List Int) (vs:List Value),WellAll P h vs (ns.map WData.int)→IntsAre vs ns:=by
 intro ns
 induction ns with
 |nil=>
  intro vs w;rw [List.map_nil]at w;cases w;exact .nil
 |cons n ns ih=>
  intro vs w;rw [List.map_cons]at w;cases w with
  |cons a b=>
   cases a;exact .cons _ _ (ih _ b)
theorem zlS{l:OpenLaw}{n:Nat}(hn:l.most=some n) {P:Params}{h:Heap}{args:List WData}{vals:List Value}
  (hpre:l.row.toRowW.claim.pre args=true) (hwl:WellAll P h vals args) :
  ∃a vs ns,vals=[Value.ref a]∧args=[WData.list (ns.map WData.int)]∧h.get? a=some { cls:= .type "list",data:= .seq vs.toArray }∧IntsAre vs ns∧ns.length≤n:=by
 have hsh:WShape.hasAll [] args [.list .int]=true:=(pre_splitW hpre).1;have hc:l.pre.holds [] { args:=args }=true:=(pre_splitW hpre).2;obtain⟨d,r,rfl,h1,h2⟩:=hasAllW_cons hsh;obtain rfl:=hasAllW_nil h2;obtain⟨xs,rfl,h3⟩:=hasW_list h1;obtain⟨ns,rfl⟩:=items_int h3;have hlen:ns.length≤n:=by
  unfold OpenLaw.pre at hc;have h4:(WTm.not (.lt (.lit (.int (n:Int))) (.len (.arg 0)))).holds [] { args:=[.list (ns.map .int)] }=true:=by
   have h4:=(holds_andW hc).1;rw [hn]at h4;exact h4
  have h5:=condW_of h4 (w_not (w_lt w_lit (w_len_list (w_arg rfl))));rw [List.length_map]at h5;refine Nat.le_of_not_lt fun q=>?_;have q':(n:Int)<((ns.length:Nat):Int):=by omega
  first
   | (rw [decide_eq_true q']at h5;exact absurd h5 (by decide))
   | (simp at h5;omega)
 cases hwl with
 |cons w1 w2=>
  cases w2;cases w1 with
  |list ho hall=>exact⟨_,_,ns,rfl,rfl,ho,zfV ns _ hall,hlen⟩
theorem zkX (l:OpenLaw) (args:List WData):l.row.toRowW.claim.post args (.bool true) args=true:=
 postW_of (r:=l.row.toRowW) (X:=(true == true))
  (show WShape.has [] (.bool true) .bool=true by first |rfl |decide |simp [WShape.has,WShape.arms,WShape.armsAll])
  (show(WTm.eq .res (.lit (.bool true))).value [] { args:=args,res:=some (.bool true),after:=args }=some (.bool (true == true)) from w_eq_bool (w_res rfl) w_lit) rfl
theorem attach_call{l:OpenLaw}{n:Nat}{q:Program}{loose:List Str}{XP:(Str→Option Value)→Heap→Prop}{YP:World→Heap→Prop}{d:DefRec}
  (hn:l.most=some n) (hdf:d.params.defaults=[])
  (call:∀(w:World) (s₀ s₁:Shared) (mg mb:Str→Option Value) (fa:Addr) (o:Obj) (pm cd doc:Value) (a:Addr) (vs:List Value) (ns:List Int),
   Ground q loose [] XP w s₀ mg mb s₁.heap→YP w s₁.heap→
   s₁.heap.get? fa=some o→o.data= .func (docDef d.name d.params d.body d.scope pm cd doc)→s₁.heap.CodeRec cd d.name→mg d.name=some (.ref fa)→
   s₁.heap.get? a=some { cls:= .type "list",data:= .seq vs.toArray }→IntsAre vs ns→ns.length≤n→s₁.gens= #[]→
   codeAny (model l.prog w) callerA (.call (.ref fa) ⟨[.ref a],[]⟩) (fun r s'=>r= .ok (.ret (.bool true))∧OldK s₁.heap s'.heap∧s'.os=s₁.os∧AllBare s'.gens) s₁) :
  WalkO q loose XP YP l.row.toRowW d [] (fun f vs=>PySem.call f vs):=by
 intro w s₀ s₁ mg mb G Y fa o pm cd doc dV kV ho hd hcd hD hmg hg args vals as hpre hlay hrd hwl hlo;obtain rfl:dV= .none:=Dflts.none hD hdf;obtain rfl:kV= .none:=Dflts.noKw hD;obtain⟨a,vs,ns,rfl,rfl,hobj,hints,hlen⟩:=zlS hn hpre hwl;refine enter_call (codeAny_mono (call w s₀ s₁ mg mb fa o pm cd doc a vs ns G Y ho (fd_plain hd) hcd hmg hobj hints hlen hg) fun r s' hq=>?_);obtain⟨rfl,h2,h3,h4⟩:=hq;exact⟨.inl ⟨.bool true, .bool true,[],rfl,fun _=>rfl, .bool true,zkX l _,fun _=>⟨List.Pairwise.nil,fun _ hm=>(nomatch hm)⟩⟩,h2,h3,h4⟩
end Att
namespace L2
open PySem PySem.Spec PyProof.Rows
theorem zhV:∀{vs:List Value}{ns:List Int},IntsAre vs ns→Vals (ns.map V.int) vs
 |_,_, .nil=> .nil
 |_,_, .cons n t h=> .cons ⟨t,rfl⟩ (zhV h)
noncomputable def ztt (H:Hp):Prop:=∀b,H b=none∨ ∃o xs,H b=some (.frz o (.lst xs))
theorem znp{P:Program}{w:World}{K:PySem.W.Frag}{mg mb:Str→Option Value}{CX:CXT}{k:Nat}{fa a:Addr}{fd:FuncData}{x:Str}{sp:Sp}{s₁:Shared}{vs:List Value}{ns:List Int}
  (KX:K.In s₁.heap) (hns:s₁.heap.Ns mainGlobals mg) (hb:s₁.heap.Ns builtinsNs mb) (hbb:∀x:Str,x≠ "__name__" →mb x=bootBuiltins x) (hlim:s₁.heap.NoLimit) (hg:s₁.gens= #[])
  (ha:s₁.heap.get? a=some { cls:= .type "list",data:= .seq vs.toArray }) (hi:IntsAre vs ns) (hl:ns.length≤sizeLine) (hr:Room k callerA)
  (F:∀base:Heap,K.In base→base.Ns mainGlobals mg→FnOk P w K mg base CX k fa fd [x] sp) (hbind:∀(s:Shared) (u:Value),BindsTo s fd ⟨[u],[]⟩ [(x,u)])
  (hsp:∀H:Hp,ztt H→SqL K H a (ns.map V.int)→sp [.ref a] H (fun v _=>v= .bl true) fun _ _ _=>False)
  (hCX:∀H e s',CX [] H s₁ (fun _ _ _=>False) e s'→False) :
  codeAny (model P w) callerA (.call (.ref fa) ⟨[.ref a],[]⟩) (fun r s'=>r= .ok (.ret (.bool true))∧OldK s₁.heap s'.heap∧s'.os=s₁.os∧AllBare s'.gens) s₁:=by
 have rv:=zhV hi;have lenV:=hi.length;have core:∀H:Hp,ztt H→SqL K H a (ns.map V.int)→HOk P w H s₁.heap→(∀b,H b≠none→b=a)→(H a≠none→K.lookup a=none)→
   codeAny (model P w) callerA (.call (.ref fa) ⟨[.ref a],[]⟩) (fun r s'=>r= .ok (.ret (.bool true))∧OldK s₁.heap s'.heap∧s'.os=s₁.os∧AllBare s'.gens) s₁:=by
  intro H hO hS hok hA hK;have base_of:∀{b:Addr}{o:Obj},s₁.heap.get? b=some o→H b=none→(zmW s₁.heap H).get? b=some o:=fun e n=>zoc e n;have noA:∀{b:Addr}{o:Obj}{es:Array DictEntry}{ep:Nat},s₁.heap.get? b=some o→o.data= .dict es ep→H b=none:=fun {b o es ep} e d=>by
   cases q:H b with
   |none=>rfl
   |some u=>
    have e':b=a:=hA b (by rw [q];simp);subst e';rw [ha]at e;cases e;have d':Data.seq vs.toArray _=Data.dict es ep:=d;cases d'
  have nsK:∀{b:Addr}{m:Str→Option Value},s₁.heap.Ns b m→(zmW s₁.heap H).Ns b m:=fun {b m} ⟨o,es,ep,e,d,r⟩=>⟨o,es,ep,base_of e (noA e d),d,r⟩;have hKb:K.In (zmW s₁.heap H):=fun b o e=>base_of (KX b o e) (by
   cases q:H b with
   |none=>rfl
   |some u=>
    have e':b=a:=hA b (by rw [q];simp);subst e';rw [hK (by rw [q];simp)]at e;cases e)
  have hM:Mod K mg (zmW s₁.heap H):=⟨hKb,nsK hns,⟨mb,nsK hb,hbb⟩,let ⟨mc,h1,h2⟩:=hlim;⟨mc,nsK h1,h2⟩⟩;have e0:Env0 P w K mg (zmW s₁.heap H) callerA [] s₁ H:=⟨rfl,hM,fun b o e=>zpJ e,Nat.le_of_eq (zkV _ _),trivial,fun b hb=>absurd (show b∈([]:List Addr) from hb) (by simp),hok, .of_eq hg⟩;refine codeAny_mono ((F _ hKb (nsK hns)).run callerA [] s₁ H ⟨[.ref a],[]⟩ [.ref a] [.ref a] _ _ hr e0 (hbind s₁ (.ref a)) (.cons rfl .nil) (hsp H hO hS)) fun r s' h=>?_;cases r with
  |error e=>exact(hCX H e s' h).elim
  |ok fl=>
   cases fl with
   |next=>exact False.elim h
   |brk=>exact False.elim h
   |cont=>exact False.elim h
   |ret u=>
    obtain⟨v,H',os,bare,un,hok',r',q⟩:=h;have q':v= .bl true:=q;subst q';obtain rfl:u=Value.bool true:=r';refine⟨rfl,OldK.of_keep fun b o e=>?_,os,bare⟩;cases q:H b with
    |none=>exact un.keep b o e q (by intro z;exact absurd (show b∈([]:List Addr) from z) (by simp)) (by simp)
    |some u=>
     rcases hO b with z |⟨ob,xs,z⟩
     ·rw [q]at z;cases z
     ·have z2:=un.frzs b ob _ z;obtain⟨e1,_⟩:=hok b _ z;obtain⟨e2,_⟩:=hok' b _ z2;rw [e]at e1;cases e1;exact e2
 cases hk:K.lookup a with
 |some o=>
  have e:=KX a o hk;rw [ha]at e;cases e;refine core (fun _=>none) (fun _=> .inl rfl) (.inr ⟨_,vs.toArray,_,hk,rfl,rfl,rfl,by rw [List.size_toArray,lenV];exact hl,by simpa using rv⟩) (fun b u z=>by have z':(none:Option HO)=some u:=z;cases z') (fun b z=>absurd rfl z) fun z=>absurd rfl z
 |none=>
  refine core (fun b=>if b=a then some (.frz { cls:= .type "list",data:= .seq vs.toArray } (.lst (ns.map V.int))) else none) (fun b=>?_) (.inl (.inr ⟨{ cls:= .type "list",data:= .seq vs.toArray },if_pos rfl⟩)) (fun b u z=>?_) (fun b z=>?_) fun _=>hk
  ·by_cases hb:b=a
   ·exact .inr ⟨_,_,if_pos hb⟩
   ·exact .inl (if_neg hb)
  ·by_cases hb:b=a
   ·have z':=(if_pos hb).symm.trans z;cases z';subst hb;exact⟨ha,by rw [List.length_map];exact hl,vs,_,rv,ha⟩
   ·have z':=(if_neg hb).symm.trans z;cases z'
  ·by_cases hb:b=a
   ·exact hb
   ·exact absurd (if_neg hb) z
theorem zpN{l:PySem.W.OpenLaw}{n k:Nat}{q:Program}{loose:List Str}{XP:(Str→Option Value)→Heap→Prop}{YP:World→Heap→Prop}{d:DefRec}{K:Params→PySem.W.Frag}{CX:World→CXT}{sp:World→Sp}{x:Str}
  (hn:l.most=some n) (hn2:n≤sizeLine) (hdf:d.params.defaults=[]) (hr:Room k callerA)
  (hY:∀(w:World) (h:Heap),YP w h→(K w.params).In h)
  (F:∀(w:World) (mg:Str→Option Value) (fa:Addr) (h:Heap),(K w.params).In h→h.Ns mainGlobals mg→mg d.name=some (.ref fa)→
   ∃fd:FuncData,(∀(s:Shared) (u:Value),BindsTo s fd ⟨[u],[]⟩ [(x,u)])∧
    ∀base:Heap,(K w.params).In base→base.Ns mainGlobals mg→FnOk l.prog w (K w.params) mg base (CX w) k fa fd [x] (sp w))
  (hsp:∀(w:World) (H:Hp) (a:Addr) (ns:List Int),ns.length≤n→ztt H→SqL (K w.params) H a (ns.map V.int)→sp w [.ref a] H (fun v _=>v= .bl true) fun _ _ _=>False)
  (hCX:∀(w:World) (H:Hp) (s:Shared) (e:Value) (s':Shared),CX w [] H s (fun _ _ _=>False) e s'→False) :
  PySem.W.WalkO q loose XP YP l.row.toRowW d [] (fun f vs=>PySem.call f vs):=by
 refine Att.attach_call hn hdf fun w s₀ s₁ mg mb fa o pm cd doc a vs ns G Y ho hd hcd hmg hobj hints hlen hg=>?_;have KX:=hY w _ Y;obtain⟨fd,hb,hF⟩:=F w mg fa _ KX G.T.g hmg;exact znp KX G.T.g G.T.b G.T.builtins G.T.nolimit hg hobj hints (Nat.le_trans hlen hn2) hr hF hb (fun H hO hS=>hsp w H a ns hlen hO hS) fun H e s'=>hCX w H s₁ e s'
noncomputable def zga (s:Stmt) (j:Nat):Stmt:=match s with
 | .ClassDef _ _ _ body _ _ _ _ _ _ _=>body.getD j (.Pass ⟨0,0,0,0⟩)
 |_=> .Pass ⟨0,0,0,0⟩
noncomputable def zfn (s:Stmt):Arguments:=match s with
 | .FunctionDef _ a _ _ _ _ _ _ _ _=>a
 |_=>{ posonlyargs:=[],args:=[],vararg:=none,kwonlyargs:=[],kw_defaults:=[],kwarg:=none,defaults:=[] }
noncomputable def zeU (s:Stmt):List Stmt:=match s with
 | .FunctionDef _ _ b _ _ _ _ _ _ _=>b
 |_=>[]
noncomputable def zal (s:Stmt):Scope:=match s with
 | .FunctionDef _ _ _ _ _ _ sc _ _ _=>sc
 |_=>{ kind:= .function,names:=[],isGenerator:=false,isCoroutine:=false }
structure Fun (K:PySem.W.Frag) (x qual:Str) (st:Stmt) (f:Addr) (fd:FuncData):Prop where
  ex:∃(oc:Value) (od:Option Addr) (kV doc pm:Value) (an:Option Addr) (cdv ct:Value) (osl:Array (Option Value)),
    fd=PySem.W.fnOf x qual (zfn st) (zeU st) (zal st) .none kV doc pm an cdv ct∧K.lookup f=some ⟨oc,od, .func fd,osl⟩∧PySem.W.codeIn K cdv qual=true
  kp:PySem.W.keepIn K (.ref f)=true
section
variable {K:PySem.W.Frag}
theorem Fun.binds{x qual:Str}{st:Stmt}{f:Addr}{fd:FuncData}{ps:List Str}(F:Fun K x qual st f fd)
  (h:∀(kV doc pm:Value) (an:Option Addr) (cdv ct:Value) (us:List Value),us.length=ps.length→bindArgs (PySem.W.fnOf x qual (zfn st) (zeU st) (zal st) .none kV doc pm an cdv ct) ⟨us,[]⟩=pure (ps.zip us)):Binds K fd ps []:=by
 obtain⟨oc,od,kV,doc,pm,an,cdv,ct,osl,rfl,lk,hcd⟩:=F.ex;exact .all (h kV doc pm an cdv ct)
theorem zoM{x qual:Str}{st:Stmt}{f:Addr}{oc:Value}{od an:Option Addr}{osl:Array (Option Value)}{kV doc pm cdv ct:Value}(l:K.lookup f=some ⟨oc,od, .func (PySem.W.fnOf x qual (zfn st) (zeU st) (zal st) .none kV doc pm an cdv ct),osl⟩)
  (c:PySem.W.codeIn K cdv qual=true) (k:PySem.W.keepIn K (.ref f)=true):Fun K x qual st f (PySem.W.fnOf x qual (zfn st) (zeU st) (zal st) .none kV doc pm an cdv ct):=⟨⟨oc,od,kV,doc,pm,an,cdv,ct,osl,rfl,l,c⟩,k⟩
end
theorem zvh{A B:Prop}(h:B):if false=true then A else B:=by
 rw [if_neg Bool.false_ne_true];exact h
theorem zvl{A B:Prop}(h:A):if true=true then A else B:=by
 rw [if_pos rfl];exact h
noncomputable def Same (H H':Hp):Prop:=∀b o,H b=some o→H' b=some o
theorem Same.trans{H H1 H2:Hp}(a:Same H H1) (b:Same H1 H2):Same H H2:=fun c o h=>b c o (a c o h)
section
variable {κ:Type} [DecidableEq κ]
theorem RelO.getD{o:Option V}{u:Option Value}{d:V}{d':Value}(r:RelO o u) (rd:RelV d d'):RelV (o.getD d) (u.getD d'):=by
 cases o with
 |none=>cases u with
  |none=>exact rd
  |some _=>exact(show False from r).elim
 |some _=>cases u with
  |none=>exact(show False from r).elim
  |some _=>exact r
theorem KV.length{kvs:List (κ×V)}{vs:List (κ×Value)}(r:KV kvs vs):kvs.length=vs.length:=Paired.length r
end
end L2
namespace Att
open PySem PySem.W PySem.Calls PyProof.Rows
end Att
namespace L2
open PySem PySem.Spec PyProof.Rows
section
variable {prog:Program}{w:World}{A:Around}{R:Result→Shared→Prop}{s:Shared}
theorem zhB{elt target iter:Expr}{ifs:List Expr}{scope:Scope}{pos:Pos}{it acc:Value}{env:Env}(I:Nat→Shared→Prop)
  (turn:∀n s,I n s→wpAny (model prog w) A (pyNext it) (fun r s₁=>match r with
   |none=>R (.ok .next) s₁
   |some v=>wpAny (model prog w) A (letOwnedTupleGo target it v) (fun _ s₀=>wpAny (model prog w) A (assign target env v) (fun _ s₂=>
     wpAny (model prog w) A (forIn ifs true fun c r=>if r=true then do let ok ←isTrue c env (eval c env);pure (ForInStep.yield ok) else pure (ForInStep.yield r)) (fun ok s₃=>
      if ok=true then wpAny (model prog w) A (eval elt env) (fun x s₄=>
       wpAny (model prog w) A (call (.builtin "list.append") [acc,x]) (fun _ s₅=>∃m,m<n∧I m s₅) (fun _ _=>False) s₄) (fun _ _=>False) s₃
      else ∃m,m<n∧I m s₃) (fun _ _=>False) s₂) (fun _ _=>False) s₀) (fun _ _=>False) s₁) (fun _ _=>False) s)
  (n:Nat) (h:I n s) :
  codeAny (model prog w) A (.compLoop (.ListComp elt [⟨target,iter,ifs,0⟩] scope pos) 0 it acc env) R s:=by
 refine codeAny_loop rfl I (fun n s hI=>?_) n h;show wpAny _ A ((compTurn (.ListComp elt [⟨target,iter,ifs,0⟩] scope pos) 0 it acc env).onRaise (fun x=>do noteFrame x env;theTreesLotGoes x)) _ _ s;refine wpAny_noted ?_;rw [compTurn_list];refine wpAny_bind (wpAny_standAt (wpAny_bind (wpAny_mono (turn n s hI) (fun r s₁ h₁=>?_) fun _ _ h'=>h'.elim)));cases r with
 |none=>exact wpAny_pure h₁
 |some v=>
  refine wpAny_bind (wpAny_mono h₁ (fun _ s₀ h₀=>?_) fun _ _ h'=>h'.elim);refine wpAny_bind (wpAny_mono h₀ (fun _ s₂ h₂=>wpAny_bind (wpAny_mono h₂ (fun ok s₃ h₃=>?_) fun _ _ h'=>h'.elim)) fun _ _ h'=>h'.elim);cases ok with
  |false=>exact wpAny_pure ⟨rfl,h₃⟩
  |true=>
   exact wpAny_bind (wpAny_bind (wpAny_mono h₃ (fun x s₄ h₄=>wpAny_bind (wpAny_mono h₄ (fun _ s₅ h₅=>wpAny_pure (wpAny_pure ⟨rfl,h₅⟩)) fun _ _ h'=>h'.elim)) fun _ _ h'=>h'.elim))
end
noncomputable def zgn (cells:List (Str×Addr)):List (Str×NameKind)→List (Str×Addr)→List (Str×Addr)
 | [],acc=>acc
 | (n,k)::r,acc=>if(k == NameKind.free)=true then zgn cells r ((n,(cells.lookup n).getD 0)::acc) else zgn cells r acc
theorem zkz{scope:Scope}{env:Env}(h:∀y∈scope.names,y.2= .free→ ∃c,env.cells.lookup y.1=some c) :
  closureFor scope env=pure (zgn env.cells scope.names []):=by
 have go:∀(l:List (Str×NameKind)) (acc:List (Str×Addr)),(∀y∈l,y.2= .free→ ∃c,env.cells.lookup y.1=some c)→
   (forIn l acc fun(x:Str×NameKind) (cs:List (Str×Addr))=>(if(x.2 == NameKind.free)=true then(do let a ←cellOf env x.1;pure (ForInStep.yield ((x.1,a)::cs))) else pure (ForInStep.yield cs):Sem (ForInStep (List (Str×Addr)))))=(pure (zgn env.cells l acc):Sem (List (Str×Addr))):=by
  intro l
  induction l with
  |nil=>intro acc _;rfl
  |cons x l ih=>
   intro acc hl;obtain⟨n,k⟩:=x;have hr:=fun y hy=>hl y (List.mem_cons_of_mem _ hy);rw [List.forIn_cons];by_cases hk:k= .free
   ·subst hk;obtain⟨c,hc⟩:=hl (n, .free) List.mem_cons_self rfl;have hc':env.cells.lookup n=some c:=hc;have e:cellOf env n=pure c:=by unfold cellOf;rw [hc']
    have e2:zgn env.cells ((n,NameKind.free)::l) acc=zgn env.cells l ((n,c)::acc):=by
     show(if(NameKind.free == NameKind.free)=true then zgn env.cells l ((n,(env.cells.lookup n).getD 0)::acc) else zgn env.cells l acc)=_;rw [if_pos (by rfl),hc'];rfl
    dsimp only;rw [if_pos (by rfl),e,pure_bind,pure_bind,e2];exact ih _ hr
   ·have hb:¬(k == NameKind.free)=true:=by simpa using hk
    have e2:zgn env.cells ((n,k)::l) acc=zgn env.cells l acc:=by
     show(if(k == NameKind.free)=true then zgn env.cells l ((n,(env.cells.lookup n).getD 0)::acc) else zgn env.cells l acc)=_;rw [if_neg hb]
    dsimp only;rw [if_neg hb,pure_bind,e2];exact ih _ hr
 have q:=go scope.names [] h;unfold closureFor
 first
  |exact(bind_pure _).trans q
  | (simp only[bind_pure];exact q)
  | (simp only[pure_bind,bind_assoc,bind_pure];exact q)
theorem zgR{cells:List (Str×Addr)}{x:Str}{c:Addr}:∀(l:List (Str×NameKind)) (acc:List (Str×Addr)),(∀y∈l,y.2= .free→ ∃c,cells.lookup y.1=some c)→
  (zgn cells l acc).lookup x=some c→acc.lookup x=some c∨cells.lookup x=some c
 | [],acc,_,h=> .inl h
 | (n,k)::r,acc,hl,h=>by
  have hr:=fun y hy=>hl y (List.mem_cons_of_mem (n,k) hy);by_cases hk:k= .free
  ·subst hk;have h':(zgn cells r ((n,(cells.lookup n).getD 0)::acc)).lookup x=some c:=h;rcases zgR r _ hr h' with q |q
   ·rw [List.lookup_cons]at q;cases e:x == n with
    |true=>
     rw [e]at q;obtain⟨d,hd⟩:=hl (n, .free) List.mem_cons_self rfl;have hd':cells.lookup n=some d:=hd;have e1:x=n:=eq_of_beq e;rw [hd']at q;have q':d=c:=Option.some.inj q;exact .inr (by rw [e1,hd',q'])
    |false=>
     rw [e]at q;exact .inl q
   ·exact .inr q
  ·have hb:¬(k == NameKind.free)=true:=by simpa using hk
   have h':(if(k == NameKind.free)=true then zgn cells r ((n,(cells.lookup n).getD 0)::acc) else zgn cells r acc).lookup x=some c:=h;rw [if_neg hb]at h';exact zgR r acc hr h'
theorem zfE{cells:List (Str×Addr)}{x:Str}:∀(l:List (Str×NameKind)) (acc:List (Str×Addr)),((x,NameKind.free)∈l∨ ∃c,acc.lookup x=some c)→ ∃c,(zgn cells l acc).lookup x=some c
 | [],acc,h=>by
  rcases h with h |h
  ·cases h
  ·exact h
 | (n,k)::r,acc,h=>by
  by_cases hk:k= .free
  ·subst hk;refine zfE r ((n,(cells.lookup n).getD 0)::acc) ?_;cases e:x == n with
   |true=>exact .inr ⟨_,by rw [List.lookup_cons,e]⟩
   |false=>
    rcases h with h |⟨c,h⟩
    ·rcases List.mem_cons.mp h with q |q
     ·have:x=n:=congrArg Prod.fst q;rw [this]at e;simp at e
     ·exact .inl q
    ·exact .inr ⟨c,by rw [List.lookup_cons,e];exact h⟩
  ·have hb:¬(k == NameKind.free)=true:=by simpa using hk
   show ∃c,(if(k == NameKind.free)=true then zgn cells r ((n,(cells.lookup n).getD 0)::acc) else zgn cells r acc).lookup x=some c;rw [if_neg hb];refine zfE r acc ?_;rcases h with h |h
   ·rcases List.mem_cons.mp h with q |q
    ·exact absurd (congrArg Prod.snd q).symm hk
    ·exact .inl q
   ·exact .inr h
theorem zdx{env:Env}{x:Str}{k:NameKind}:∀{names:List (Str×NameKind)},(∀y∈names,y.2≠ .cell)→
  (names.map fun(n,k)=>if(k == NameKind.free&&env.scope.kind == .function&&env.kindOf n == some .cell) then(n,NameKind.cell) else(n,k)).lookup x=some k→(k= .cell∨k= .free)→(x,NameKind.free)∈names
 | [],_,h,_=>by simp at h
 | (n,j)::r,hc,h,hk=>by
  have h':List.lookup x ((if(j == NameKind.free&&env.scope.kind == .function&&env.kindOf n == some .cell)=true then(n,NameKind.cell) else(n,j)) ::
   (r.map fun(n,k)=>if(k == NameKind.free&&env.scope.kind == .function&&env.kindOf n == some .cell) then(n,NameKind.cell) else(n,k)))=some k:=h
  have hr:=fun y hy=>hc y (List.mem_cons_of_mem (n,j) hy);have hj:j≠ .cell:=hc (n,j) List.mem_cons_self;cases e:x == n with
  |true=>
   have e1:x=n:=eq_of_beq e;subst e1;by_cases c:(j == NameKind.free&&env.scope.kind == .function&&env.kindOf x == some .cell)=true
   ·have c1:(j == NameKind.free)=true:=by
     cases q:(j == NameKind.free) with
     |true=>rfl
     |false=>rw [q]at c;simp at c
    have c2:j= .free:=by simpa using c1
    rw [c2];exact List.mem_cons_self
   ·rw [if_neg c]at h';simp only[List.lookup_cons,beq_self_eq_true]at h';have h2:j=k:=Option.some.inj h';rcases hk with z |z
    ·exact absurd (h2.trans z) hj
    ·rw [h2,z];exact List.mem_cons_self
  |false=>
   by_cases c:(j == NameKind.free&&env.scope.kind == .function&&env.kindOf n == some .cell)=true
   ·rw [if_pos c]at h';simp only[List.lookup_cons,e]at h';exact List.mem_cons_of_mem _ (zdx hr h' hk)
   ·rw [if_neg c]at h';simp only[List.lookup_cons,e]at h';exact List.mem_cons_of_mem _ (zdx hr h' hk)
theorem zeh{env:Env}{x:Str}:∀{names:List (Str×NameKind)},names.lookup x=some .free→
  (names.map fun(n,k)=>if(k == NameKind.free&&env.scope.kind == .function&&env.kindOf n == some .cell) then(n,NameKind.cell) else(n,k)).lookup x=some .cell∨
  (names.map fun(n,k)=>if(k == NameKind.free&&env.scope.kind == .function&&env.kindOf n == some .cell) then(n,NameKind.cell) else(n,k)).lookup x=some .free
 | [],h=>by simp at h
 | (n,j)::r,h=>by
  show List.lookup x ((if(j == NameKind.free&&env.scope.kind == .function&&env.kindOf n == some .cell)=true then(n,NameKind.cell) else(n,j)) ::
   (r.map fun(n,k)=>if(k == NameKind.free&&env.scope.kind == .function&&env.kindOf n == some .cell) then(n,NameKind.cell) else(n,k)))=_∨
   List.lookup x ((if(j == NameKind.free&&env.scope.kind == .function&&env.kindOf n == some .cell)=true then(n,NameKind.cell) else(n,j)) ::
   (r.map fun(n,k)=>if(k == NameKind.free&&env.scope.kind == .function&&env.kindOf n == some .cell) then(n,NameKind.cell) else(n,k)))=_
  cases e:x == n with
  |true=>
   simp only[List.lookup_cons,e]at h;have h2:j= .free:=Option.some.inj h;subst h2;by_cases c:(NameKind.free == NameKind.free&&env.scope.kind == .function&&env.kindOf n == some .cell)=true
   ·rw [if_pos c];simp only[List.lookup_cons,e];exact .inl trivial
   ·rw [if_neg c];simp only[List.lookup_cons,e];exact .inr trivial
  |false=>
   simp only[List.lookup_cons,e]at h;by_cases c:(j == NameKind.free&&env.scope.kind == .function&&env.kindOf n == some .cell)=true
   ·rw [if_pos c];simp only[List.lookup_cons,e];exact zeh h
   ·rw [if_neg c];simp only[List.lookup_cons,e];exact zeh h
noncomputable def zbQ (X:Cx) (scope:Scope) (N:List Str) (s:Shared) (H:Hp) (fp:List Addr) (pins:List (Addr×Obj)):Cx:=
 { X with N:=N,s₀:=s,H₀:=H,env:=compEnvC scope (zgn X.env.cells scope.names []) s.heap.objs.size X.env,outer:=X.stack,stack:=X.stack,ex:=fp,fn:=fun _=>false,pn:=X.pn++pins,xe:=fun _ _=>False }
structure CompSc (X:Cx) (scope:Scope) (N:List Str) (k:Nat) (fr:List Nat):Prop where
  kind:scope.kind= .function
  nd:N.Nodup
  len:N.length=k+fr.length
  cell:(scope.names.all fun y=>y.2 != NameKind.cell)=true
  loc:(scope.names.all fun y=>y.2 != NameKind.local || scope.names.lookup y.1 == some NameKind.local)=true
  free:(scope.names.all fun y=>y.2 != NameKind.free || X.env.kindOf y.1 == some NameKind.cell || X.env.kindOf y.1 == some NameKind.free)=true
  frs:((N.drop k).all fun x=>scope.names.lookup x == some NameKind.free)=true
  pl:N.drop k=fr.map fun j=>X.N.getD j Str.empty
  plen:(fr.all fun j=>decide (j<X.N.length))=true
noncomputable def zgh (σ:St) (fr:List Nat):St:=fr.map fun j=>(σ[j]?).join
noncomputable def zjW (σ:St) (k:Nat) (fr:List Nat):St:=List.replicate k none++zgh σ fr
section
variable {X:Cx}{scope:Scope}{N:List Str}{k:Nat}{fr:List Nat}
theorem CompSc.cell' (S:CompSc X scope N k fr):∀y∈scope.names,y.2≠ .cell:=fun y hy=>by
 have q:=List.all_eq_true.mp S.cell y hy;simpa using q
theorem CompSc.loc' (S:CompSc X scope N k fr):∀y∈scope.names,y.2= .local→scope.names.lookup y.1=some .local:=fun y hy e=>by
 have q:=List.all_eq_true.mp S.loc y hy;rw [e]at q;simpa using q
theorem CompSc.kinds (S:CompSc X scope N k fr):∀y∈scope.names,y.2= .free→X.env.kindOf y.1=some .cell∨X.env.kindOf y.1=some .free:=fun y hy e=>by
 have q:=List.all_eq_true.mp S.free y hy;rw [e]at q;simpa using q
theorem CompSc.hasCell (S:CompSc X scope N k fr) (ok:X.Ok):∀y∈scope.names,y.2= .free→ ∃c,X.env.cells.lookup y.1=some c:=fun y hy e=>ok.has y.1 (S.kinds y hy e)
theorem CompSc.sub (S:CompSc X scope N k fr) (ok:X.Ok) {x:Str}{c:Addr}(h:(zgn X.env.cells scope.names []).lookup x=some c):X.env.cells.lookup x=some c:=by
 rcases zgR scope.names [] (S.hasCell ok) h with q |q
 ·simp at q
 ·exact q
end
section
variable {X:Cx}{pins:List (Addr×Obj)}{σ:St}{H:Hp}{s:Shared}{scope:Scope}{N:List Str}{k:Nat}{fr:List Nat}{fp:List Addr}
theorem zqG (I:Inv X pins σ H s) (S:CompSc X scope N k fr) (hfp:∀b∈fp,zjg X pins H b) (hob:∀b∈fp,∃o,s.heap.get? b=some o):(zbQ X scope N s H fp pins).Ok where
  mod:=I.ok.mod
  kind:=S.kind
  glob:=I.ok.glob
  blt:=I.ok.blt
  above:=Nat.le_refl _
  inj:=fun x y c h1 h2=>I.ok.inj x y c (S.sub I.ok h1) (S.sub I.ok h2)
  has:=fun x hx=>zfE scope.names [] (.inl (by
    rcases hx with hx |hx
    · exact zdx S.cell' hx (.inl rfl)
    · exact zdx S.cell' hx (.inr rfl)))
  cab:=fun x c h _=>absurd h (by show ¬(false=true);decide)
  hd:=I.ok.hd
  frames:=I.ok.frames
  stk:= .inl rfl
  exf:=fun b hb=>⟨by
    obtain⟨o,e⟩:=hob b hb;exact Nat.ne_of_lt (Heap.lt_size e),fun x c h=>(hfp b hb).2.2.2.2.1 x c (S.sub I.ok h)⟩
  bs:=I.bs
  bsz:=Nat.le_trans I.ok.bsz I.sz
  noex:=fun b o e hb=>by
    rcases(hfp b hb).2.2.2.1 with z |z
    · exact I.ok.noex b o e z
    · exact absurd (Nat.lt_of_lt_of_le (Heap.lt_size (I.ok.bs b o e).1) z) (Nat.lt_irrefl _)
  exfs:=fun b hb z=>by
    rcases List.mem_cons.mp (I.stkSub b z) with q |q
    · exact(hfp b hb).2.1 q
    · exact(hfp b hb).2.2.1 q
  funs:=I.stack
  frf:=I.stkFree
theorem zqh (I:Inv X pins σ H s) (S:CompSc X scope N k fr) {H':Hp}{b:Addr}(hb:b∈fp) (hf:zjg X pins H b) (hob:∃o,s.heap.get? b=some o) (hn:H' b=none):zjg (zbQ X scope N s H fp pins) [] H' b:=by
 refine⟨hn,?_,fun z=>?_, .inl hb,fun x c h=>hf.2.2.2.2.1 x c (S.sub I.ok h),fun p hp=>?_⟩
 ·obtain⟨o,e⟩:=hob;exact Nat.ne_of_lt (Heap.lt_size e)
 ·rcases List.mem_cons.mp (I.stkSub b z) with q |q
  ·exact hf.2.1 q
  ·exact hf.2.2.1 q
 ·rcases List.mem_append.mp hp with z |z
  ·exact hf.2.2.2.2.2 p z
  ·cases z
theorem zkn{j:Nat}{v:V}(h:(zgh σ fr)[j]? =some (some v)):∃i,fr[j]? =some i∧σ[i]? =some (some v):=by
 unfold zgh at h;rw [List.getElem?_map]at h;cases e:fr[j]? with
 |none=>rw [e]at h;cases h
 |some i=>
  rw [e]at h;have h':(σ[i]?).join=some v:=Option.some.inj h;refine⟨i,rfl,?_⟩;cases q:σ[i]? with
  |none=>rw [q]at h';cases h'
  |some o=>
   rw [q]at h';have h2:o=some v:=h';rw [h2]
theorem zoe (I:Inv X pins σ H s) (S:CompSc X scope N k fr) (hfp:∀b∈fp,zjg X pins H b) (hob:∀b∈fp,∃o,s.heap.get? b=some o) {h1:Heap}{tk:Nat}{m:Str→Option Value}
    (hns:h1.Ns s.heap.objs.size m) (hk:∀b o,s.heap.get? b=some o→h1.get? b=some o):Inv (zbQ X scope N s H fp pins) [] (zjW σ k fr) H { s with heap:=h1,toks:=tk } where
  ok:=zqG I S hfp hob
  os:=rfl
  bare:=I.bare
  base:=Un.kept hk
  loc:=⟨m,hns,fun i x v e1 e2 e3=>by
    have e2':(List.replicate k (none:Option V)++zgh σ fr)[i]? =some (some v):=e2;have hi:k≤i:=by
      refine Nat.le_of_not_lt fun z=>?_;rw [List.getElem?_append_left (by simpa using z),List.getElem?_replicate]at e2';split at e2'<;>cases e2'
    rw [List.getElem?_append_right (by simpa using hi),List.length_replicate]at e2';obtain⟨j,f1,f2⟩:=zkn e2';have e1':N[i]? =some x:=e1;have d1:(N.drop k)[i - k]? =some x:=by
      rw [List.getElem?_drop];have:k+(i - k)=i:=by omega
      rw [this];exact e1'
    have d2:=d1;rw [S.pl,List.getElem?_map,f1]at d2;have d3:X.N.getD j Str.empty=x:=Option.some.inj d2;have jl:j<X.N.length:=of_decide_eq_true (List.all_eq_true.mp S.plen j (List.mem_of_getElem? f1));have d4:X.N[j]? =some x:=by
      rw [List.getD_eq_getElem?_getD,List.getElem?_eq_getElem jl]at d3;rw [List.getElem?_eq_getElem jl];exact congrArg some d3
    have fk:scope.names.lookup x=some .free:=by
      have q:=List.all_eq_true.mp S.frs x (List.mem_of_getElem? d1);simpa using q
    have hmem:(x,NameKind.free)∈scope.names:=PySem.mem_of_lookup fk;have kd:=S.kinds _ hmem rfl;have vis:Vis X.env.scope x:=by
      rcases kd with z |z
      · exact .inr (.inl z)
      · exact .inr (.inr z)
    obtain⟨m0,_,hl⟩:=I.loc;obtain⟨u,ru,lk⟩:=hl j x v d4 f2 vis;refine⟨u,ru, .inr ⟨zeh fk,?_⟩⟩;have kd':X.env.kindOf x=some .cell∨X.env.kindOf x=some .free:=kd;rcases lk with⟨z,_⟩ |⟨_,c,hc,hcell⟩
    · rcases kd' with q |q<;>(rw [z]at q;cases q)
    · obtain⟨c',hc'⟩:=zfE (cells:=X.env.cells) scope.names [] (.inl hmem);have e:=S.sub I.ok hc';rw [hc]at e;cases e;exact⟨c,hc',hcell.keeps hk⟩⟩
  cell:=fun x c h=>by
    obtain⟨v,z⟩:=I.cell x c (S.sub I.ok h);exact⟨v,z.keeps hk⟩
  free:=I.hok.fresh (Nat.le_refl _)
  freeC:=fun x c h=>I.freeC x c (S.sub I.ok h)
  pin:=fun p hp=>by
    have hp':p∈X.pn++pins:=by
      rcases List.mem_append.mp hp with z |z
      · exact z
      · cases z
    obtain⟨e,n,ne,nf,d⟩:=I.pin p hp';refine⟨hk _ _ e,n,Nat.ne_of_lt (Heap.lt_size e),fun z=>?_,d⟩;rcases List.mem_cons.mp (I.stkSub p.1 z) with q |q
    · exact ne q
    · exact nf q
  hok:=I.hok.kept hk
  len:=by
    show(List.replicate k (none:Option V)++zgh σ fr).length=N.length;rw [List.length_append,List.length_replicate,S.len];unfold zgh;rw [List.length_map]
theorem zlP{σ':St}{H':Hp}{s':Shared}{h':Heap}(I:Inv X pins σ H s) (hfp:∀b∈fp,zjg X pins H b) (J:Inv (zbQ X scope N s H fp pins) [] σ' H' s') (sb:Heap.SameBut s.heap.objs.size s'.heap h'):Inv X pins σ H' { s' with heap:=h' }:=by
 have neC:∀b o,s.heap.get? b=some o→b≠s.heap.objs.size:=fun b o e=>Nat.ne_of_lt (Heap.lt_size e);have frC:H' s.heap.objs.size=none:=J.free;refine Inv.call' (s':={ s' with heap:=h' }) (ch:=fp) I J.os ⟨fun b o e n hf hx=>?_,fun b o e n hf hx=>?_,fun b o e n hx=>J.base.free b o e n hx,fun b o e hx=>?_,J.base.tups,J.base.frzs,J.base.tbls⟩ (fun b o e=>?_) J.bare fun b hb=>⟨(hfp b hb).2.2.2.1,(hfp b hb).2.1,(hfp b hb).2.2.2.2.1,(hfp b hb).2.2.2.2.2⟩
 ·exact(sb.2 b (neC b o e)).trans (J.base.keep b o e n hf hx)
 ·obtain⟨sl,q⟩:=J.base.slot b o e n hf hx;exact⟨sl,(sb.2 b (neC b o e)).trans q⟩
 ·obtain⟨o',q⟩:=J.base.there b o e hx;exact⟨o',(sb.2 b (neC b o e)).trans q⟩
 ·refine(J.hok b o e).stay (fun c v hc q=>(sb.2 c ?_).trans q) (fun _ q=>q) fun _ _ q=>q;rintro rfl;rcases hc with rfl |hc
  ·rw [frC]at e;cases e
  ·rw [frC]at hc;cases hc
end
noncomputable def PTs (X:Cx) (ifs:List Expr) (t:TT):Prop:=
 ∀(pins:List (Addr×Obj)) (s:Shared) (σ:St) (H:Hp) (Q:Bool→Hp→Prop),Inv X pins σ H s→t σ H Q→
  wpAny (model X.prog X.w) X.A (forIn ifs true fun c r=>if r=true then do let ok ←isTrue c X.env (eval c X.env);pure (ForInStep.yield ok) else pure (ForInStep.yield r)) (TP X pins σ Q) X.xe s
noncomputable def zvm:TT:=fun _ H Q=>Q true H
theorem zqx{X:Cx}:PTs X [] zvm:=fun _ _ _ H _ I h=>wpAny_tests_nil ⟨H,I,h⟩
noncomputable def zuB (X:Cx) (scope:Scope) (N:List Str) (tg:Expr) (ifs:List Expr) (elt:Expr) (l:Addr) (x:V) (σ:St) (H:Hp) (M:St→Hp→Prop):Prop:=
 ∀(s₀:Shared) (H₀:Hp) (fp:List Addr) (pn:List (Addr×Obj)),∃(g:TG) (tt:TT) (te:TE),PG (zbQ X scope N s₀ H₀ fp pn) tg g∧PTs (zbQ X scope N s₀ H₀ fp pn) ifs tt∧PE (zbQ X scope N s₀ H₀ fp pn) elt te∧
  g x σ H fun σ2 H2=>tt σ2 H2 fun b H3=>if b=true then te σ2 H3 fun y H4=>∃ys,H4 l=some (.lst ys)∧ys.length<sizeLine∧M σ2 (upd H4 l (.lst (ys++[y]))) else M σ2 H3
noncomputable def zqf (X:Cx) (scope:Scope) (N:List Str) (k:Nat) (fr:List Nat) (tg:Expr) (ifs:List Expr) (elt:Expr) (σ:St) (Q:VK) (J:It) (H1:Hp):Prop:=∀l,H1 l=none→
 ∃W:Nat→Nat→St→Hp→Prop,(∃m,W 0 m (zjW σ k fr) (upd H1 l (.lst [])))∧ ∀i m σ' H',W i m σ' H'→
  (J.stop i H'∧Q (.ref l) H')∨(J.go i H'∧ ∃M:St→Hp→Prop,(∀σ'' H'',M σ'' H''→ ∃m',m'<m∧W (i+1) m' σ'' H'')∧ ∀x H2,J.yld i H' x H2→zuB X scope N tg ifs elt l x σ' H2 M)
noncomputable def zqC (X:Cx) (scope:Scope) (N:List Str) (k:Nat) (fr:List Nat) (tg:Expr) (ifs:List Expr) (elt:Expr) (wi:TI):TE:=fun σ H Q=>wi σ H fun J H1=>zqf X scope N k fr tg ifs elt σ Q J H1
theorem zmA{X:Cx}{use:Option (Value→Sem Unit)}{Qf:Value→Shared→Prop}{pins:List (Addr×Obj)}{s:Shared}{σ:St}{H:Hp}{Q:VK}{scope:Scope}{N:List Str}{k:Nat}{fr:List Nat}{tg iter elt:Expr}{ifs:List Expr}{wi:TI}{pos:Pos}(hx:X.xe=fun _ _=>False) (hc:X.calm=true) (S:CompSc X scope N k fr) (hi:PI X tg iter wi) (I:Inv X pins σ H s)
  (fin:∀{s3 s6:Shared}{H3 H5:Hp}{fp:List Addr}{σ5:St}{l:Addr}{a:Flow},Inv X pins σ H3 s3→(∀b∈fp,zjg X pins H3 b)→Inv (zbQ X scope N s3 H3 fp pins) [] σ5 H5 s6→Q (.ref l) H5→compPost (model X.prog X.w) X.A X.xe use Qf (.ref l) s3.heap.objs.size (.ok a) s6)
  (h:zqC X scope N k fr tg ifs elt wi σ H Q)
  (hs:∀x,foldedSetIterable iter X.env x=pure x:=by intro _;rfl):wpAny (model X.prog X.w) X.A (comprehension (.ListComp elt [⟨tg,iter,ifs,0⟩] scope pos) scope X.env (firstIterPos [⟨tg,iter,ifs,0⟩] pos) (newList []) (firstAsync [⟨tg,iter,ifs,0⟩]) (firstIter [⟨tg,iter,ifs,0⟩] X.env) use) Qf X.xe s:=by
 refine wpAny_comprehension_free (use:=use) rfl hs (zkz (S.hasCell I.ok)) S.kind S.loc' (thn (hi pins s σ H _ I h) fun v s1 h1=>thn h1 fun itv s2 h2=>?_);obtain⟨it,fp,tn,J,H2,e,I2,T,st2,f2,h2⟩:=h2;subst e;have fr2:H2 s2.heap.objs.size=none:=I2.hok.fresh (Nat.le_refl _);obtain⟨W,⟨m0,w0⟩,turn⟩:=h2 s2.heap.objs.size fr2;refine wpAny_newList ?_ (by show 0≤sizeLine;exact Nat.zero_le _);have I3:Inv X pins σ (upd H2 s2.heap.objs.size (.lst [])) { s2 with heap:=s2.heap.push { cls:= .type "list",data:= .seq ([]:List Value).toArray } }:=I2.lnew (t':=s2.toks) (ys:=[]) .nil (Nat.zero_le _);have old:∀b o,s2.heap.get? b=some o→(s2.heap.push { cls:= .type "list",data:= .seq ([]:List Value).toArray }).get? b=some o:=fun b o e=>Heap.get?_push_of_some _ e;have fpo2:∀b∈fp,∃o,s2.heap.get? b=some o:=fun b hb=>by
  obtain⟨o,e,_⟩:=T.obj _ _ st2 b hb;exact⟨o,e⟩
 have fpo:∀b∈fp,∃o,(s2.heap.push { cls:= .type "list",data:= .seq ([]:List Value).toArray }).get? b=some o:=fun b hb=>by
  obtain⟨o,e⟩:=fpo2 b hb;exact⟨o,old b o e⟩
 have f3:∀b∈fp,zjg X pins (upd H2 s2.heap.objs.size (.lst [])) b:=fun b hb=>by
  obtain⟨o,e⟩:=fpo2 b hb;refine⟨?_,(f2 b hb).2⟩;rw [zax (Nat.ne_of_lt (Heap.lt_size e))];exact(f2 b hb).1
 generalize hs3:({ s2 with heap:=s2.heap.push { cls:= .type "list",data:= .seq ([]:List Value).toArray } }:Shared)=s3 at I3⊢;have st3:tn 0 s3.heap:=by
  rw [←hs3];exact T.keep _ _ _ st2 fun b _ o e=>old b o e
 have fpo3:∀b∈fp,∃o,s3.heap.get? b=some o:=by rw [←hs3];exact fpo
 clear fpo old hs3;refine wpAny_newFunctionEnv S.cell' (by intro y hy;simp at hy) (fun h1 hns1 hsb1=>?_) S.kind;have hk1:∀b o,s3.heap.get? b=some o→h1.get? b=some o:=fun b o e=>hsb1.extBut b o (Nat.ne_of_lt (Heap.lt_size e)) (Heap.get?_push_of_some _ e);have I4:=zoe (tk:=s3.toks+([]:List (Str×Value)).length) I3 S f3 fpo3 hns1 hk1;have st4:tn 0 h1:=T.keep _ _ _ st3 fun b _ o e=>hk1 b o e;have stat:∀{H':Hp},(∀b∈fp,H' b=none)→ ∀b∈fp,zjg (zbQ X scope N s3 (upd H2 s2.heap.objs.size (.lst [])) fp pins) [] H' b:=fun hn b hb=>zqh I3 S hb (f3 b hb) (fpo3 b hb) (hn b hb);have loop:∀s4:Shared,s4={ s3 with heap:=h1,toks:=s3.toks+([]:List (Str×Value)).length }→
   codeAny (model X.prog X.w) X.A (.compLoop (.ListComp elt [⟨tg,iter,ifs,0⟩] scope pos) 0 (.ref it) (.ref s2.heap.objs.size) (compEnvC scope (zgn X.env.cells scope.names []) s3.heap.objs.size X.env))
    (compPost (model X.prog X.w) X.A X.xe use Qf (.ref s2.heap.objs.size) s3.heap.objs.size) s4:=by
  rintro s4 rfl;refine zhB (fun n s'=>∃i σ' H',Inv (zbQ X scope N s3 (upd H2 s2.heap.objs.size (.lst [])) fp pins) [] σ' H' s'∧tn i s'.heap∧(∀b∈fp,H' b=none)∧W i n σ' H') ?_ m0 ⟨0,_,_,I4,st4,fun b hb=>(f3 b hb).1,w0⟩;rintro n s5 ⟨i,σ5,H5,I5,st5,fr5,w5⟩;rcases turn i n σ5 H5 w5 with⟨stop,qn⟩ |⟨go,M,hM,step⟩
  ·refine thn (T.done (zbQ X scope N s3 (upd H2 s2.heap.objs.size (.lst [])) fp pins) rfl rfl rfl hc i [] s5 σ5 H5 _ I5 (stat fr5) st5 stop) fun r s6 ⟨hr,I6⟩=>?_;subst hr;exact fin I3 f3 I6 qn
  ·refine thn (T.item (zbQ X scope N s3 (upd H2 s2.heap.objs.size (.lst [])) fp pins) rfl rfl rfl hc i [] s5 σ5 H5 _ I5 (stat fr5) st5 go) fun r s6 ⟨u,hr,h6⟩=>?_;subst hr;refine thn h6 fun _ s7 ⟨x,H7,I7,r7,y7,st7,fr7⟩=>?_;have I7':=I7.pinned (stat fr7) (T.obj _ _ st7);obtain⟨g,tt,te,hg,ht,he,q⟩:=step x H7 y7 s3 (upd H2 s2.heap.objs.size (.lst [])) fp pins;have again:∀{s8:Shared}{σ8:St}{H8:Hp},Inv (zbQ X scope N s3 (upd H2 s2.heap.objs.size (.lst [])) fp pins) ([]++zhK fp s7.heap) σ8 H8 s8→M σ8 H8→
     ∃m,m<n∧ ∃i σ' H',Inv (zbQ X scope N s3 (upd H2 s2.heap.objs.size (.lst [])) fp pins) [] σ' H' s8∧tn i s8.heap∧(∀b∈fp,H' b=none)∧W i m σ' H':=fun {s8 σ8 H8} I8 n8=>by
    obtain⟨m',hm,w8⟩:=hM σ8 H8 n8;refine⟨m',hm,i+1,σ8,H8,I8.unpinned,T.keep _ _ _ st7 fun b hb o e=>(I8.pin (b,o) (List.mem_append_right _ (List.mem_append_right _ (zeu hb e)))).1,fun b hb=>?_,w8⟩;obtain⟨o,e,d⟩:=T.obj _ _ st7 b hb;exact(I8.pin (b,o) (List.mem_append_right _ (List.mem_append_right _ (zeu hb e)))).2.1
   refine thn (hg _ s7 σ5 H7 x u _ I7' r7 q) fun _ s8 ⟨σ8,H8,I8,q8⟩=>?_;refine thn (ht _ s8 σ8 H8 _ I8 q8) fun b s9 ⟨H9,I9,q9⟩=>?_;cases b with
   |false=>exact again I9 q9
   |true=>
    refine thn (he _ s9 σ8 H9 _ I9 q9) fun y s10 ⟨yv,H10,I10,r10,ys,hl,hz,qM⟩=>?_;exact thn (zhP _ s10 σ8 H10 (.ref s2.heap.objs.size) [yv] (.ref s2.heap.objs.size) [y] (fun _ H'=>M σ8 H') I10 rfl (.cons r10 .nil) ⟨_,ys,yv,rfl,rfl,hl,hz,qM⟩) fun _ s11 ⟨_,H11,I11,_,q11⟩=>again I11 q11
 exact codeAny_compStart_list (loop _ rfl) (T.self _ 0 _ _ _ st4 (loop _ rfl))
theorem zpH{X:Cx}{scope:Scope}{N:List Str}{k:Nat}{fr:List Nat}{tg iter elt:Expr}{ifs:List Expr}{wi:TI}{pos:Pos}(hx:X.xe=fun _ _=>False) (hc:X.calm=true) (S:CompSc X scope N k fr) (hi:PI X tg iter wi)
  (hs:∀x,foldedSetIterable iter X.env x=pure x:=by intro _;rfl):PE X (.ListComp elt [⟨tg,iter,ifs,0⟩] scope pos) (zqC X scope N k fr tg ifs elt wi):=by
 intro pins s σ H Q I h;rw [eval_ListComp];refine zmA hx hc S hi I (fun {s3 s6 H3 H5 fp σ5 l a} I3 f3 I6 qn=>?_) h hs;obtain⟨m6,ns6,_⟩:=I6.loc;exact⟨m6,ns6,fun h' sb=>⟨.ref l,H5,zlP I3 f3 I6 sb,rfl,qn⟩⟩
noncomputable def Its (x:Str):It:=⟨fun i _=>i<x.cps.size,fun i H v H'=>H'=H∧ ∃c,x.cps[i]? =some c∧v= .str ⟨#[c]⟩,fun i _=>i=x.cps.size⟩
theorem zjz{P:Program}{w:World}{K:PySem.W.Frag}{tg:Expr}(it:Addr) (x:Str) (t:Tok) (ty:String)
    (hn: ["enumerate", "zip", "dict_itemiterator", "dict_reverseitemiterator", "odict_iterator", "itertools.zip_longest", "itertools.pairwise"].contains ty=false)
    (hW:∀A':Around,A'.handled=none→Walks P w A' it [it] [it] x.cps.size (SignAt x) (fun i h=>h.IsStrIter it ty x t i))
    (hself:∀(A:Around) (i:Nat) (s:Shared) (Q:Value→Shared→Prop) (E:Value→Shared→Prop),s.heap.IsStrIter it ty x t i→Q (.ref it) s→wpAny (model P w) A (pyIter (.ref it)) Q E s) :
    Turn P w K tg (Its x) [it] it (fun i h=>h.IsStrIter it ty x t i) where
  mem:=by simp
  obj:=fun i h st b hb=>by
    have e:b=it:=by simpa using hb
    subst e;obtain⟨o,e,c,d⟩:=st;exact⟨o,e,fun v z=>by rw [d]at z;cases z⟩
  keep:=fun i h h' st k=>by
    obtain⟨o,e,r⟩:=st;exact⟨o,k it (by simp) o e,r⟩
  item:=by
    intro X hP hw hK hc i pins s σ H E I hf st hg;subst hP hw hK;obtain⟨f0,f1,f2,f3,f4,f5⟩:=hf it (by simp);refine(hW X.A (I.ok.hd hc)).item i s _ _ hg st fun v h' tk hv st' kk=>?_;obtain⟨c,u,hc',rfl⟩:=hv;have I1:Inv X pins σ H { s with heap:=h',toks:=tk }:=I.turned (fun b o hb e=>kk b o (by simpa using hb) e) f0 f1 f3 f4 f5;obtain⟨o,e,c',d⟩:=id st';exact⟨_,rfl,znd (s:={ s with heap:=h',toks:=tk }) e c' d hn ⟨.str ⟨#[c]⟩,H,I1,⟨u,rfl⟩,⟨rfl,c,hc',rfl⟩,st',fun b hb=>(hf b hb).1⟩⟩
  done:=by
    intro X hP hw hK hc i pins s σ H E I hf st hg;subst hP hw hK;obtain⟨f0,f1,f2,f3,f4,f5⟩:=hf it (by simp);have hi:i=x.cps.size:=hg;subst hi;exact(hW X.A (I.ok.hd hc)).done s _ _ st fun h' tk kk=>⟨rfl,I.turned (fun b o hb e=>kk b o (by simpa using hb) e) f0 f1 f3 f4 f5⟩
  self:=hself
noncomputable def TupsOn (H H':Hp):Prop:=∀b xs,H b=some (.tup xs)→H' b=some (.tup xs)
theorem TupsOn.trans{H H1 H2:Hp}(a:TupsOn H H1) (b:TupsOn H1 H2):TupsOn H H2:=fun c xs h=>b c xs (a c xs h)
section
variable {X:Cx}
theorem zfL:OpR X (compareOp .LtE) (fun x y H Q=>∃i j,x= .str i∧y= .str j∧Q (.bl (!decide (j.cps.toList<i.cps.toList))) H):=by
 intro pins s σ H x y v u Q I rx ry h;obtain⟨i,j,rfl,rfl,q⟩:=h;obtain⟨t,rfl⟩:=rx;obtain⟨t',rfl⟩:=ry;exact PySem.P.le_str (zlm I q rfl)
theorem zjR (a b:Nat):(([a]:List Nat)< [b])↔a<b:=by
 rw [List.cons_lt_cons_iff];constructor
 ·rintro(h |⟨_,h⟩)
  ·exact h
  ·exact absurd h (List.lt_irrefl _)
 ·exact .inl
noncomputable def rSlS:V→Option Int→Option Int→Hp→VK→Prop:=fun x lo hi H Q=>∃z,x= .str z∧z.length≤sizeLine∧Q (.str (Txt.slice z lo hi)) H
theorem sl_str:SlR X rSlS:=by
 intro pins s σ H x v vl vu lo hi sl Q I rx hs pl pu h;obtain⟨z,rfl,hz,q⟩:=h;obtain⟨t,rfl⟩:=rx;refine⟨"str",_,F.slot_str_getitem.lookup,typeIs_str _ _ _,?_⟩;obtain⟨o,ho,hc,hd⟩:=hs;have fin:∀t' k,EP X pins σ Q (.str (Txt.slice z lo hi) t') { s with toks:=k }:=fun t' k=>⟨.str _,H,I.tok _,⟨t',rfl⟩,q⟩;have le:=Nat.le_trans (Txt.slice_le z lo hi) hz;cases pl with
 |none=>
  cases pu with
  |none=>exact wpAny_getItem_str_slice (l:=none) (u:=none) (st:=none) ⟨o,ho,hc,hd⟩ rfl (post_val_or_str ⟨le,fin⟩)
  |int j u=>exact wpAny_getItem_str_slice (l:=none) (u:=some (j,u)) (st:=none) ⟨o,ho,hc,hd⟩ rfl (post_val_or_str ⟨le,fin⟩)
 |int i w=>
  cases pu with
  |none=>exact wpAny_getItem_str_slice (l:=some (i,w)) (u:=none) (st:=none) ⟨o,ho,hc,hd⟩ rfl (post_val_or_str ⟨le,fin⟩)
  |int j u=>exact wpAny_getItem_str_slice (l:=some (i,w)) (u:=some (j,u)) (st:=none) ⟨o,ho,hc,hd⟩ rfl (post_val_or_str ⟨le,fin⟩)
noncomputable def ziD (xs:List Nat) (lo hi:Option Int):List Nat:=(xs.drop (HT.sIx xs.length 0 lo)).take (HT.sIx xs.length xs.length hi - HT.sIx xs.length 0 lo)
theorem zoW (lo hi:Option Int) (n:Nat):Builtin.Str.strSliceIndices lo hi 1 n=sliceRange ((HT.sIx n 0 lo:Nat):Int) ((HT.sIx n n hi:Nat):Int) 1:=by
 have one:(1:Int) > 0:=by decide
 have a:∀(v:Option Int) (d:Nat),(match v with |none=>(d:Int) |some i=>(if(1:Int) > 0 then max 0 (min (if i<0 then i+(n:Int) else i) (n:Int)) else max (-1) (min (if i<0 then i+(n:Int) else i) ((n:Int) - 1))))=((HT.sIx n d v:Nat):Int):=by
  intro v d;cases v with
  |none=>rfl
  |some i=>
   simp only[HT.sIx,one,if_true];by_cases h:i<0
   ·simp only[h,if_true];omega
   ·simp only[h,if_false];omega
 have l:=a lo 0;have u:=a hi n;unfold Builtin.Str.strSliceIndices;simp only[one,if_true]at l u⊢
 first
  |rw [l,u]
  | (cases lo<;>cases hi<;>simp_all)
theorem zba (z:Str) (lo hi:Option Int):(Txt.slice z lo hi).cps.toList=ziD z.cps.toList lo hi:=by
 have hn:z.length=z.cps.toList.length:=by simp [Str.length]
 have hp:(Builtin.Str.strSliceIndices lo hi 1 z.length).filterMap (z.cps[·]?)=ziD z.cps.toList lo hi:=by
  rw [zoW,sliceRange_one,pick_run,hn];rfl
 unfold Txt.slice;split
 ·rename_i h;have h1:(Builtin.Str.strSliceIndices lo hi 1 z.length).length=z.length:=by simpa using h
  rw [zoW,sliceRange_one,List.length_map,List.length_range]at h1;have le1:=HT.sIx_le z.length z.length (Nat.le_refl _) hi;unfold ziD;rw [←hn];have e0:HT.sIx z.length 0 lo=0∨z.length=0:=by omega
  have hz:z.cps.toList.length=z.length:=hn.symm;rcases e0 with e0 |e0
  ·rw [e0,List.drop_zero,List.take_of_length_le (by omega)]
  ·have:z.cps.toList=[]:=List.eq_nil_of_length_eq_zero (by omega);rw [this];simp
 ·show(List.filterMap _ _).toArray.toList=_;rw [hp]
theorem znw (hc:X.calm=true):CallR X (.builtin "all") (fun xs H Q=>∃(p:Addr) (bs:List Bool),xs=[.ref p]∧SqL X.K H p (bs.map V.bl)∧Q (.bl (bs.all id)) H):=by
 intro pins s σ H xs us Q I r h;obtain⟨p,bs,rfl,hq,q⟩:=h;obtain⟨u,rfl,rx⟩:=zgr r;cases rx;obtain⟨its,r',pl,hz⟩:=I.list hq;have hlen:bs.length=its.length:=by have:=r'.length;rw [List.length_map]at this;exact this
 have hp:p<s.heap.objs.size:=by obtain⟨o,n,e,_⟩:=pl;exact Heap.lt_size e
 have hd:X.A.in1.handled=none:=I.ok.hd hc;have get:∀(i:Nat) (v:Value),its.toArray[i]? =some v→v= .bool (bs.getD i false):=fun i v e=>by
  have e':its[i]? =some v:=by simpa using e
  have hi:i<bs.length:=by rw [hlen];exact(List.getElem?_eq_some_iff.mp e').1
  obtain⟨u,hu,ru⟩:=r'.get (i:=i) (x:= .bl (bs.getD i false)) (by rw [List.getElem?_map,List.getElem?_eq_getElem hi,List.getD_eq_getElem?_getD,List.getElem?_eq_getElem hi];rfl);rw [e']at hu;cases hu;exact ru
 refine call_all_walk (wpAny_pyIter_list pl.isList ?_);refine⟨s.heap.objs.size,_,_,_,_,_,fun i=>bs.getD i false,rfl,Walks.list hd _ p (Nat.ne_of_lt hp) its.toArray,⟨⟨_,Heap.get?_push_size _ rfl,rfl,rfl⟩,pl.isList.push _⟩,fun i v s' Q' E' hP hQ=>?_,fun h' tk hk=>?_⟩
 ·rw [get i v hP];exact wpAny_truthy_bool hQ
 ·have e:(List.range its.toArray.size).all (fun i=>bs.getD i false)=bs.all id:=by
   rw [List.size_toArray,←hlen];have:bs=(List.range bs.length).map fun i=>bs.getD i false:=by
    apply List.ext_getElem?;intro i;rw [List.getElem?_map];by_cases hi:i<bs.length
    ·rw [List.getElem?_range hi,List.getElem?_eq_getElem hi];show some bs[i]=some (bs.getD i false);rw [List.getD_eq_getElem?_getD,List.getElem?_eq_getElem hi];rfl
    ·rw [List.getElem?_eq_none (by omega),List.getElem?_eq_none (by simpa using hi)];rfl
   conv=>rhs;rw [this]
   rw [List.all_map];rfl
  have I1:Inv X pins σ H { s with heap:=h',toks:=tk }:=I.kept fun b o e=>hk b o (fun z=>by
   have z':b=s.heap.objs.size:=by simpa using z
   rw [z']at e;exact absurd (Heap.lt_size e) (Nat.lt_irrefl _)) (Heap.get?_push_of_some _ e)
  exact⟨.bl _,H,I1,by rw [e];exact rfl,q⟩
theorem znN:CallR X (.builtin "isinstance") (fun xs H Q=>∃x t c b,xs=[x, .ty c]∧TyOf X.K H x t∧PySem.W.kitOne X.K t (.type c)=some b∧Q (.bl b) H):=by
 intro pins s σ H xs us Q I r h;obtain⟨x,t,c,b,rfl,ty,e,q⟩:=h;obtain⟨u,v,rfl,rx,ry⟩:=zuv r;cases(show v=Value.type c from ry);exact zlF I rx ty e fun tk=>⟨.bl b,H,I.tok _,rfl,q⟩
end
section
variable {X:Cx}
theorem zeP (l:Addr) (items:Array Value) (n:Nat) (b:Addr) (items2:Array Value) (n2:Nat) (dd:Option Addr) (sl:Array (Option Value)) (hs0:¬(!items.isEmpty&&Builtin.List.listTooLong (items.size+items2.size))=true) (hs1:items.size≤sizeLine) (hs2:items.size+items2.size≤sizeLine+1) :
  Meets (Builtin.«list.extend» ⟨[.ref l, .ref b],[]⟩) (fun _ R s=>s.heap.get? l=some { cls:= .type "list",dict:=none,data:= .seq items n,slots:= #[] }∧s.heap.get? b=some { cls:= .type "tuple",dict:=dd,data:= .seq items2 n2,slots:=sl }∧R (.ok (.ret Value.none)) { s with heap:=s.heap.update l (Obj.mapSeq fun x=>x++items2),toks:=s.toks }):=
 .of_wp fun prog w A R s h=>by
  obtain⟨hp,g,d,tk,os⟩:=s;obtain⟨hl,hb,h⟩:=h;have f1:=AutoSeq1.idx_int;have f2:=AutoSeq1.sub_tuple_tuple;have f3:=AutoSeq1.sub_list_list;have f4:=AutoSeq1.sub_tuple_list;have f5:=AutoSeq1.sub_list_tuple;have hz':(items++items2).size≤sizeLine+1:=by rw [Array.size_append];exact hs2
  wp_walk using(wpAny_updateSeq hl rfl (hz:=hs1) (_hz':=hz')),AutoSeq1.wpAny_loadPart' hl,AutoSeq1.wpAny_loadPart' hb;exact⟨_,rfl,h⟩
noncomputable def zjS (K:PySem.W.Frag):V→List V→Hp→VK→Prop:=fun x vs H Q=>∃l b xs zs,x= .ref l∧vs=[.ref b]∧H l=some (.lst xs)∧SqT K H b zs∧xs.length+zs.length≤sizeLine∧Q .non (upd H l (.lst (xs++zs)))
theorem zkG:MtM X "list.extend" (zjS X.K):=by
 intro pins s σ H x vs v us Q I rx rv h;obtain⟨l,b,xs,zs,rfl,rfl,hH,hB,hz,q⟩:=h;cases rx;obtain⟨u,rfl,ru⟩:=rv.one;cases ru;obtain⟨z,its,n,r,hl,e⟩:=I.lstM hH;obtain⟨its2,r2,ht,hz2⟩:=I.tuple hB;obtain⟨⟨cls,dd,data,sl⟩,e2,hc,n2,hd⟩:=ht;simp only at hc hd;subst hc hd;have hl2:=r2.length;have hsz:its.toArray.size+its2.toArray.size≤sizeLine:=by rw [List.size_toArray,List.size_toArray];omega
 have hlong:¬(!its.toArray.isEmpty&&Builtin.List.listTooLong (its.toArray.size+its2.toArray.size))=true:=by
  rw [zhb hsz,Bool.and_false];exact Bool.false_ne_true
 refine call_meets F.slot_list_extend ⟨_,e,rfl⟩ F.entry_list_extend (F.args_list_extend_2 _ _)
  (zeP l its.toArray n b its2.toArray n2 dd sl hlong (by rw [List.size_toArray];omega) (by omega)) ⟨e,e2,?_⟩
 refine⟨.non,_,I.lset (its':=its++its2) hH e (by simp) (r.append r2) ?_,rfl,q⟩;rw [List.length_append];omega
noncomputable def zre (K:PySem.W.Frag):V→List V→Hp→VK→Prop:=fun x vs H Q=>∃(z:Str) (b:Addr) (ys:List Str),x= .str z∧vs=[.ref b]∧SqL K H b (ys.map V.str)∧(ys.map (·.length)).sum+ys.length*z.length≤16777216∧Q (.str (Str.join z ys)) H
theorem zpc{ys:List Str}:∀{us:List Value},Vals (ys.map V.str) us→StrsAre us ys:=by
 induction ys with
 |nil=>
  intro us r;cases r;exact .nil
 |cons y ys ih=>
  intro us r;cases r with
  |cons a b=>
   obtain⟨t,rfl⟩:=a;exact .cons y t (ih b)
theorem zqL:MtM X "str.join" (zre X.K):=by
 intro pins s σ H x vs v us Q I rx rv h;obtain⟨z,b,ys,rfl,rfl,hB,hz,q⟩:=h;obtain⟨t,rfl⟩:=rx;obtain⟨u,rfl,ru⟩:=rv.one;cases ru;obtain⟨its,r,pl,_⟩:=I.list hB;refine join_list pl.isList (by simpa using zpc r) hz fun t' k=>⟨.str (Str.join z ys),H,I.tok _,⟨t',?_⟩,q⟩;show Value.str (Builtin.Str.glued z ys) t'=_;rw [StrLaws.glued_eq_join]
noncomputable def zoB:V→List V→Hp→VK→Prop:=fun x vs H Q=>∃(z y:Str) (i:Nat) (rest:List Nat),x= .str z∧vs=[.str y]∧Builtin.Str.occurrences z y 0 z.length 1=i::rest∧Q (.int i) H
theorem zny:MtM X "str.index" zoB:=by
 intro pins s σ H x vs v us Q I rx rv h;obtain⟨z,y,i,rest,rfl,rfl,ho,q⟩:=h;obtain⟨t,rfl⟩:=rx;obtain⟨u,rfl,ru⟩:=rv.one;obtain⟨t2,rfl⟩:=ru;exact SC.index ho ⟨.int i,H,I.tok _,⟨_,rfl⟩,q⟩
end
inductive W where
  |non |bl (b:Bool) |int (i:Int) |str (x:Str) |tup (ws:List W) |ref (a:Addr) |scr (ns:List Int)
inductive Ob where
  |lst (ws:List W)
  |dct (kvs:List (List Int×W))
  |dk (kvs:List (Key×W))
  |ins (cl:Str) (fs:List (Str×W))
noncomputable abbrev Sto:=Addr→Option Ob
noncomputable def put (S:Sto) (a:Addr) (o:Ob):Sto:=fun b=>if b=a then some o else S b
noncomputable def FzL (K:PySem.W.Frag) (H:Hp) (a:Addr) (xs:List V):Prop:=
 (∃o,H a=some (.frz o (.lst xs)))∨
  ∃(o:Obj) (its:Array Value) (n:Nat),K.lookup a=some o∧o.cls= .type "list" ∧o.dict=none∧o.data= .seq its n∧its.size≤sizeLine∧Vals xs its.toList
mutual
inductive Rep (K:PySem.W.Frag) (H:Hp):W→V→Prop
 |non:Rep K H .non .non
 |bl (b:Bool):Rep K H (.bl b) (.bl b)
 |int (i:Int):Rep K H (.int i) (.int i)
 |str (x:Str):Rep K H (.str x) (.str x)
 |ref (a:Addr):Rep K H (.ref a) (.ref a)
 |scr {a:Addr}{ns:List Int}:FzL K H a (ns.map V.int)→Rep K H (.scr ns) (.ref a)
 |tup {a:Addr}{vs:List V}{ws:List W}:H a=some (.tup vs)→Reps K H ws vs→Rep K H (.tup ws) (.ref a)
inductive Reps (K:PySem.W.Frag) (H:Hp):List W→List V→Prop
 |nil:Reps K H [] []
 |cons {w:W}{v:V}{ws:List W}{vs:List V}:Rep K H w v→Reps K H ws vs→Reps K H (w::ws) (v::vs)
end
structure Ext (H:Hp) (S:Sto) (H':Hp) (S':Sto):Prop where
  tup:∀b xs,H b=some (.tup xs)→H' b=some (.tup xs)
  frz:∀b o u,H b=some (.frz o u)→H' b=some (.frz o u)
  fr:∀b xs,H b=some (.lst xs)→S b=none→H' b=some (.lst xs)∧S' b=none
  all:∀b o,H b=some o→ ∃o',H' b=some o'
noncomputable def Sub (S S':Sto):Prop:=∀a o,S a=some o→S' a=some o
section
variable {K:PySem.W.Frag}{H H' H1 H2:Hp}{S S' S1 S2:Sto}
theorem zaj{a:Addr}{o:Ob}:put S a o a=some o:=by unfold put;rw [if_pos rfl]
theorem zbN{a b:Addr}{o:Ob}(h:b≠a):put S a o b=S b:=by unfold put;rw [if_neg h]
theorem zcO{a:Addr}{o o':Ob}:put (put S a o) a o'=put S a o':=by funext b;unfold put;split<;>rfl
theorem Ext.refl:Ext H S H S:=⟨fun _ _ h=>h,fun _ _ _ h=>h,fun _ _ h g=>⟨h,g⟩,fun _ o h=>⟨o,h⟩⟩
theorem Ext.trans (a:Ext H S H1 S1) (b:Ext H1 S1 H2 S2):Ext H S H2 S2:=⟨fun c xs h=>b.tup c xs (a.tup c xs h),fun c o u h=>b.frz c o u (a.frz c o u h),
 fun c o h g=>by
  obtain⟨h1,g1⟩:=a.fr c o h g;exact b.fr c o h1 g1,fun c o h=>by
  obtain⟨o1,h1⟩:=a.all c o h;exact b.all c o1 h1⟩
theorem Ext.new{p:Addr}{o:HO}(h:H p=none):Ext H S (upd H p o) S:=
  ⟨fun b xs e=>by rw [zax (zau e h)];exact e,fun b ob u e=>by rw [zax (zau e h)];exact e,
   fun b ob e g=>⟨by rw [zax (zau e h)];exact e,g⟩,fun b ob e=>⟨ob,by rw [zax (zau e h)];exact e⟩⟩
theorem Ext.newS{p:Addr}{o:HO}{ob:Ob}(h:H p=none):Ext H S (upd H p o) (put S p ob):=
  ⟨fun b xs e=>by rw [zax (zau e h)];exact e,fun b ob u e=>by rw [zax (zau e h)];exact e,
   fun b ob e g=>⟨by rw [zax (zau e h)];exact e,by rw [zbN (zau e h)];exact g⟩,fun b ob e=>⟨ob,by rw [zax (zau e h)];exact e⟩⟩
theorem Ext.mut{p:Addr}{o u:HO}{ob ob0:Ob}(h:H p=some u) (hs:S p=some ob0) (ht:∀xs,u≠ .tup xs) (hf:∀ob q,u≠ .frz ob q):Ext H S (upd H p o) (put S p ob):=
  ⟨fun b xs e=>by rw [zax (zmS e h fun z=>ht xs z.symm)];exact e,fun b ob q e=>by rw [zax (zmS e h fun z=>hf ob q z.symm)];exact e,
   fun b ob e g=>by
     have hb:b≠p:=by rintro rfl;rw [hs]at g;cases g
     exact⟨by rw [zax hb];exact e,by rw [zbN hb];exact g⟩,fun b ob e=>by
     by_cases hb:b=p
     · subst hb;exact⟨o,zaz⟩
     · exact⟨ob,by rw [zax hb];exact e⟩⟩
theorem Ext.lst{p:Addr}{o:HO}{ob ob0:Ob}{xs:List V}(h:H p=some (.lst xs)) (hs:S p=some ob0):Ext H S (upd H p o) (put S p ob):= .mut h hs (fun _ z=>nomatch z) fun _ _ z=>nomatch z
theorem Ext.drop (h:Sub S' S):Ext H S H S':=⟨fun _ _ h=>h,fun _ _ _ h=>h,fun b o e g=>⟨e,by
 cases q:S' b with
 |none=>rfl
 |some z=>rw [h b z q]at g;cases g⟩,fun _ o h=>⟨o,h⟩⟩
theorem Ext.free (e:Ext H S H' S') {p:Addr}(h:H' p=none):H p=none:=by
 cases q:H p with
 |none=>rfl
 |some o=>obtain⟨o',z⟩:=e.all p o q;rw [h]at z;cases z
theorem Ext.fz{a:Addr}{xs:List V}(e:Ext H S H' S') (h:FzL K H a xs):FzL K H' a xs:=by
 rcases h with⟨o,h⟩ |h
 ·exact .inl ⟨o,e.frz _ _ _ h⟩
 ·exact .inr h
theorem FzL.sq{a:Addr}{xs:List V}(h:FzL K H a xs):SqL K H a xs:=by
 rcases h with⟨o,h⟩ |h
 ·exact .inl (.inr ⟨o,h⟩)
 ·exact .inr h
mutual
theorem Rep.ext (e:Ext H S H' S') {w:W}{v:V}:Rep K H w v→Rep K H' w v
 | .non=> .non
 | .bl b=> .bl b
 | .int i=> .int i
 | .str x=> .str x
 | .ref a=> .ref a
 | .scr h=> .scr (e.fz h)
 | .tup h hs=> .tup (e.tup _ _ h) (Reps.ext e hs)
theorem Reps.ext (e:Ext H S H' S') {ws:List W}{vs:List V}:Reps K H ws vs→Reps K H' ws vs
 | .nil=> .nil
 | .cons h hs=> .cons (Rep.ext e h) (Reps.ext e hs)
end
theorem Reps.length:∀{ws:List W}{vs:List V},Reps K H ws vs→ws.length=vs.length
 |_,_, .nil=>rfl
 |_,_, .cons _ hs=>congrArg (· +1) (Reps.length hs)
theorem Reps.get:∀{ws:List W}{vs:List V}{i:Nat}{w:W},Reps K H ws vs→ws[i]? =some w→ ∃v,vs[i]? =some v∧Rep K H w v
 |_,_,_,_, .nil,e=>by simp at e
 |_,_,0,_, .cons h _,e=>by simp at e;subst e;exact⟨_,rfl,h⟩
 |_,_,i+1,w, .cons _ hs,e=>by
  obtain⟨v,h1,h2⟩:=Reps.get (i:=i) (w:=w) hs (by simpa using e);exact⟨v,by simpa using h1,h2⟩
theorem Reps.append:∀{ws us:List W}{vs xs:List V},Reps K H ws vs→Reps K H us xs→Reps K H (ws++us) (vs++xs)
 |_,_,_,_, .nil,h=>h
 |_,_,_,_, .cons r t,h=> .cons r (Reps.append t h)
theorem Reps.take:∀{ws:List W}{vs:List V}(n:Nat),Reps K H ws vs→Reps K H (ws.take n) (vs.take n)
 |_,_,0,_=> .nil
 |_,_,_+1, .nil=> .nil
 |_,_,n+1, .cons r t=> .cons r (Reps.take n t)
theorem Reps.drop:∀{ws:List W}{vs:List V}(n:Nat),Reps K H ws vs→Reps K H (ws.drop n) (vs.drop n)
 |_,_,0,r=>r
 |_,_,_+1, .nil=> .nil
 |_,_,n+1, .cons _ t=>Reps.drop n t
theorem Reps.one{w:W}{v:V}(h:Rep K H w v):Reps K H [w] [v]:= .cons h .nil
theorem Reps.ofInts:∀(ns:List Int),Reps K H (ns.map W.int) (ns.map V.int)
 | []=> .nil
 |n::ns=> .cons (.int n) (Reps.ofInts ns)
end
noncomputable def RepO (K:PySem.W.Frag) (H:Hp) (a:Addr):Ob→Prop
 | .lst ws=>∃vs,H a=some (.lst vs)∧Reps K H ws vs
 | .dct kvs=>∃ps:List (List Key×V),H a=some (.dT ps)∧Paired (fun q p=>p.1=q.1.map Sum.inl∧Rep K H q.2 p.2) kvs ps
 | .dk kvs=>∃ps:List (Key×V),H a=some (.dK ps)∧Paired (fun q p=>p.1=q.1∧Rep K H q.2 p.2) kvs ps
 | .ins cl fs=>∃(C dx:Addr) (ps:List (Str×V)),PySem.W.nsIn K mainGlobals cl=some (some (.ref C))∧H a=some (.ins C dx ps)∧Paired (fun q p=>p.1=q.1∧Rep K H q.2 p.2) fs ps
noncomputable def RepS (K:PySem.W.Frag) (H:Hp) (S:Sto):Prop:=∀a o,S a=some o→RepO K H a o
section
variable {K:PySem.W.Frag}{H H':Hp}{S S' S0 S0':Sto}{a b p:Addr}{o:Ob}
theorem Sub.refl:Sub S S:=fun _ _ h=>h
theorem Sub.trans{S1 S2 S3:Sto}(h:Sub S1 S2) (g:Sub S2 S3):Sub S1 S3:=fun a o e=>g a o (h a o e)
theorem RepS.sub (h:RepS K H S') (q:Sub S S'):RepS K H S:=fun a o e=>h a o (q a o e)
theorem RepO.some (h:RepO K H a o):∃u,H a=some u:=by
 cases o with
 |lst ws=>obtain⟨vs,e,_⟩:=h;exact⟨_,e⟩
 |dct kvs=>obtain⟨vs,e,_⟩:=h;exact⟨_,e⟩
 |dk kvs=>obtain⟨vs,e,_⟩:=h;exact⟨_,e⟩
 |ins C fs=>obtain⟨_,_,vs,_,e,_⟩:=h;exact⟨_,e⟩
theorem RepS.free (h:RepS K H S) (e:H p=none):S p=none:=by
 cases q:S p with
 |none=>rfl
 |some o=>obtain⟨u,z⟩:=(h p o q).some;rw [e]at z;cases z
theorem RepO.keep (e:Ext H S0 H' S0') (k:∀u,H a=Option.some u→H' a=Option.some u) (h:RepO K H a o):RepO K H' a o:=by
 cases o with
 |lst ws=>obtain⟨vs,e1,r⟩:=h;exact⟨vs,k _ e1,r.ext e⟩
 |dct kvs=>obtain⟨vs,e1,r⟩:=h;exact⟨vs,k _ e1,Paired.mapP r fun _ _ z=>⟨z.1,z.2.ext e⟩⟩
 |dk kvs=>obtain⟨vs,e1,r⟩:=h;exact⟨vs,k _ e1,Paired.mapP r fun _ _ z=>⟨z.1,z.2.ext e⟩⟩
 |ins C fs=>obtain⟨C,dx,vs,e0,e1,r⟩:=h;exact⟨C,dx,vs,e0,k _ e1,Paired.mapP r fun _ _ z=>⟨z.1,z.2.ext e⟩⟩
theorem RepS.new{u:HO}(h:RepS K H S) (e:H p=none):RepS K (upd H p u) S:=fun a o q=>
 (h a o q).keep (.new (S:=S) e) fun v z=>by rw [zax (zau z e)];exact z
theorem RepS.put_lst{ws:List W}{vs:List V}(h:RepS K H S) (e:H p=none) (r:Reps K (upd H p (.lst vs)) ws vs):RepS K (upd H p (.lst vs)) (put S p (.lst ws)):=fun a o q=>by
 by_cases ha:a=p
 ·subst ha;rw [zaj]at q;cases q;exact⟨vs,zaz,r⟩
 ·rw [zbN ha]at q;exact h.new e a o q
theorem RepS.set_lst{ws0 ws:List W}{vs:List V}(h:RepS K H S) (e:S a=some (.lst ws0)) (r:Reps K H ws vs):Ext H S (upd H a (.lst vs)) (put S a (.lst ws))∧RepS K (upd H a (.lst vs)) (put S a (.lst ws)):=by
 obtain⟨vs0,e0,_⟩:=h a _ e;have x:Ext H S (upd H a (.lst vs)) (put S a (.lst ws)):= .lst e0 e;refine⟨x,fun b o q=>?_⟩;by_cases hb:b=a
 ·subst hb;rw [zaj]at q;cases q;exact⟨vs,zaz,r.ext x⟩
 ·rw [zbN hb]at q;exact(h b o q).keep x fun u z=>by rw [zax hb];exact z
end
noncomputable abbrev WSt:=List (Option W)
noncomputable abbrev WK:=W→Sto→Prop
noncomputable abbrev WX:=Str→WSt→Sto→Prop
noncomputable abbrev WE:=WX→WSt→Sto→WK→Prop
noncomputable abbrev WT:=WX→WSt→Sto→(Bool→Sto→Prop)→Prop
noncomputable abbrev WA:=WX→WSt→Sto→(List W→Sto→Prop)→Prop
structure WEnds where
  nx:WSt→Sto→Prop
  rt:WK
  bk:WSt→Sto→Prop:=fun _ _=>False
  ct:WSt→Sto→Prop:=fun _ _=>False
noncomputable abbrev WS:=WX→WEnds→WSt→Sto→Prop
noncomputable abbrev WG:=W→WSt→Sto→(WSt→Sto→Prop)→Prop
noncomputable abbrev WSp:=List W→Sto→WK→(Str→Sto→Prop)→Prop
noncomputable abbrev WI:=WX→WSt→Sto→(List W→(Sto→Prop)→Sto→Prop)→Prop
noncomputable abbrev WL:=WX→WSt→Sto→(List W→Sto→Prop)→Prop
noncomputable def RpO (K:PySem.W.Frag) (H:Hp):Option W→Option V→Prop
 |none,_=>True
 |some w,some v=>Rep K H w v
 |some _,none=>False
noncomputable def RpSt (K:PySem.W.Frag) (H:Hp) (σW:WSt) (σ:St):Prop:=Paired (RpO K H) σW σ
section
variable {K:PySem.W.Frag}{H H':Hp}{S S':Sto}
theorem RpO.ext (e:Ext H S H' S'):∀{w:Option W}{v:Option V},RpO K H w v→RpO K H' w v
 |none,_,_=>trivial
 |some _,some _,h=>Rep.ext e h
 |some _,none,h=>h.elim
theorem RpSt.ext (e:Ext H S H' S') {σW:WSt}{σ:St}(h:RpSt K H σW σ):RpSt K H' σW σ:=Paired.mapP h fun _ _ r=>RpO.ext e r
theorem RpSt.get:∀{σW:WSt}{σ:St}{i:Nat}{w:W},RpSt K H σW σ→σW[i]? =some (some w)→ ∃v,σ[i]? =some (some v)∧Rep K H w v
 |_,_,_,_, .nil,e=>by simp at e
 |_,_,0,_, .cons (b:=b) h _,e=>by
  simp at e;subst e;cases b with
  |none=>exact(show False from h).elim
  |some v=>exact⟨v,rfl,h⟩
 |_,_,i+1,w, .cons _ hs,e=>by
  obtain⟨v,h1,h2⟩:=RpSt.get (i:=i) (w:=w) hs (by simpa using e);exact⟨v,by simpa using h1,h2⟩
theorem RpSt.set{w:W}{v:V}(h:Rep K H w v):∀{σW:WSt}{σ:St}(i:Nat),RpSt K H σW σ→RpSt K H (σW.set i (some w)) (σ.set i (some v))
 |_,_,_, .nil=> .nil
 |_,_,0, .cons _ t=> .cons h t
 |_,_,i+1, .cons q t=> .cons q (RpSt.set h i t)
end
noncomputable def Wish (K:PySem.W.Frag) (H:Hp) (S:Sto) (QW:WK) (Q:VK):Prop:=∀w S' v H',Ext H S H' S'→Rep K H' w v→RepS K H' S'→QW w S'→Q v H'
noncomputable def zts (K:PySem.W.Frag) (t:WSt→Sto→WK→Prop):TE:=fun σ H Q=>∃σW S QW,RpSt K H σW σ∧RepS K H S∧t σW S QW∧Wish K H S QW Q
noncomputable def zpG (K:PySem.W.Frag) (t:WSt→Sto→(Bool→Sto→Prop)→Prop):TT:=fun σ H Q=>∃σW S QW,RpSt K H σW σ∧RepS K H S∧t σW S QW∧ ∀b S' H',Ext H S H' S'→RepS K H' S'→QW b S'→Q b H'
noncomputable def zuw (K:PySem.W.Frag) (t:WSt→Sto→(List W→Sto→Prop)→Prop):TA:=fun σ H Q=>∃σW S QW,RpSt K H σW σ∧RepS K H S∧t σW S QW∧ ∀ws S' vs H',Ext H S H' S'→Reps K H' ws vs→RepS K H' S'→QW ws S'→Q vs H'
noncomputable def Goes (K:PySem.W.Frag) (H:Hp) (S:Sto) (P:WSt→Sto→Prop) (Q:St→Hp→Prop):Prop:=∀σW S' σ H',Ext H S H' S'→RpSt K H' σW σ→RepS K H' S'→P σW S'→Q σ H'
structure Meets (K:PySem.W.Frag) (H:Hp) (S:Sto) (DW:WEnds) (D:Ends):Prop where
  nx:Goes K H S DW.nx D.nx
  rt:Wish K H S DW.rt D.rt
  bk:Goes K H S DW.bk D.bk
  ct:Goes K H S DW.ct D.ct
noncomputable def zqW (K:PySem.W.Frag) (t:WEnds→WSt→Sto→Prop):TS:=fun D σ H=>∃σW S DW,RpSt K H σW σ∧RepS K H S∧t DW σW S∧Meets K H S DW D
noncomputable def zue (K:PySem.W.Frag) (t:WG):TG:=fun v σ H Q=>∃w σW S P,Rep K H w v∧RpSt K H σW σ∧RepS K H S∧t w σW S P∧Goes K H S P Q
noncomputable def ItW (K:PySem.W.Frag) (J:It) (ws:List W) (G:Sto→Prop) (H0:Hp) (S0:Sto):Prop:=∀i S H,Ext H0 S0 H S→RepS K H S→G S→
 (∀w,ws[i]? =some w→J.go i H∧ ∀x H',J.yld i H x H'→Ext H S H' S∧RepS K H' S∧Rep K H' w x)∧(i=ws.length→J.stop i H)
noncomputable def zrc (K:PySem.W.Frag) (t:WSt→Sto→(List W→(Sto→Prop)→Sto→Prop)→Prop):TI:=fun σ H R=>∃σW S QW,RpSt K H σW σ∧RepS K H S∧t σW S QW∧
 ∀ws G S' J H',Ext H S H' S'→RepS K H' S'→G S'→ItW K J ws G H' S'→QW ws G S'→R J H'
noncomputable def ztj (K:PySem.W.Frag) (t:WSt→Sto→(List W→Sto→Prop)→Prop):TE:=fun σ H Q=>∃σW S QW,RpSt K H σW σ∧RepS K H S∧t σW S QW∧
 ∀ws S' vs a H',Ext H S H' S'→H a=none→H' a=some (.lst vs)→S' a=none→Reps K H' ws vs→RepS K H' S'→QW ws S'→Q (.ref a) H'
noncomputable def zaV (K:PySem.W.Frag) (sp:WSp):Sp:=fun vs H Q E=>∃ws S QW EW,Reps K H ws vs∧RepS K H S∧sp ws S QW EW∧Wish K H S QW Q∧
 ∀cl C S' H',PySem.W.nsIn K mainGlobals cl=some (some (.ref C))→RepS K H' S'→EW cl S'→E (.ref C) none H'
noncomputable def Fly (g h:Heap) (H:Hp) (a C:Addr):Prop:=g.get? a=none∧H a=none∧ ∃oe vs T oT ts,h.get? a=some oe∧oe.cls= .ref C∧oe.data= .fields vs∧vs[1]? =some (.ref T)∧
 g.get? T=none∧H T=none∧T≠a∧h.get? T=some oT∧oT.data= .fields ts∧ts[3]? =some .none
noncomputable def CX1 (P:Program) (w:World):CXT:=fun outer H s E e s'=>∃a C H',e= .ref a∧s'.os=s.os∧AllBare s'.gens∧Un (frs outer) [] H H' s.heap s'.heap∧HOk P w H' s'.heap∧Fly s.heap s'.heap H' a C∧E (.ref C) none H'
structure Hook (X:Cx) (E:WX):Prop where
  own:PassesOwn (model X.prog X.w) X.A X.env X.xe
  far:∀(pins:List (Addr×Obj)) (σ:St) (H:Hp) (s:Shared) (σW:WSt) (cl:Str) (C a:Addr) (H':Hp) (S':Sto) (s':Shared),Inv X pins σ H s→RpSt X.K H σW σ→PySem.W.nsIn X.K mainGlobals cl=some (some (.ref C))→
    s'.os=s.os→AllBare s'.gens→Un (frs X.stack) [] H H' s.heap s'.heap→HOk X.prog X.w H' s'.heap→Fly s.heap s'.heap H' a C→RepS X.K H' S'→E cl σW S'→X.xe (.ref a) s'
  near:∀(pins:List (Addr×Obj)) (σ:St) (H:Hp) (s:Shared) (σW:WSt) (cl:Str) (C a:Addr) (S:Sto) (h':Heap) (args:List Value),Inv X pins σ H s→RpSt X.K H σW σ→PySem.W.nsIn X.K mainGlobals cl=some (some (.ref C))→
    Heap.MadeExcOf s.heap h' a (.ref C) args→RepS X.K H S→E cl σW S→X.xe (.ref a) { s with heap:=h' }
noncomputable def JE (X:Cx) (e:Expr) (t:WE):Prop:=∀E,Hook X E→PE X e (zts X.K (t E))
noncomputable def JT (X:Cx) (e:Expr) (t:WT):Prop:=∀E,Hook X E→PT X e (zpG X.K (t E))
noncomputable def JW (X:Cx) (e:Expr) (t:WT):Prop:=∀E,Hook X E→PW X e (zpG X.K (t E))
noncomputable def JA (X:Cx) (es:List Expr) (t:WA):Prop:=∀E,Hook X E→PA X es (zuw X.K (t E))
noncomputable def JS (X:Cx) (st:Stmt) (t:WS):Prop:=∀E,Hook X E→PS X st (zqW X.K (t E))
noncomputable def JSs (X:Cx) (st:List Stmt) (t:WS):Prop:=∀E,Hook X E→PSs X st (zqW X.K (t E))
noncomputable def JG (X:Cx) (tg:Expr) (t:WG):Prop:=∀E,Hook X E→PG X tg (zue X.K t)
noncomputable def JI (X:Cx) (tg iter:Expr) (t:WI):Prop:=∀E,Hook X E→PI X tg iter (zrc X.K (t E))
noncomputable def JL (X:Cx) (e:Expr) (t:WL):Prop:=∀E,Hook X E→PE X e (ztj X.K (t E))
theorem PE.mono{X:Cx}{e:Expr}{t t':TE}(h:PE X e t) (q:∀σ H Q,t' σ H Q→t σ H Q):PE X e t':=fun pins s σ H Q I z=>h pins s σ H Q I (q σ H Q z)
theorem PT.mono{X:Cx}{e:Expr}{t t':TT}(h:PT X e t) (q:∀σ H Q,t' σ H Q→t σ H Q):PT X e t':=fun pins s σ H Q I z=>h pins s σ H Q I (q σ H Q z)
theorem PW.mono{X:Cx}{e:Expr}{t t':TT}(h:PW X e t) (q:∀σ H Q,t' σ H Q→t σ H Q):PW X e t':=fun wh pins s σ H Q I z=>h wh pins s σ H Q I (q σ H Q z)
theorem PA.mono{X:Cx}{e:List Expr}{t t':TA}(h:PA X e t) (q:∀σ H Q,t' σ H Q→t σ H Q):PA X e t':=fun pos pins s σ H Q I z=>h pos pins s σ H Q I (q σ H Q z)
theorem PS.mono{X:Cx}{e:Stmt}{t t':TS}(h:PS X e t) (q:∀D σ H,t' D σ H→t D σ H):PS X e t':=fun pins s σ H D I z=>h pins s σ H D I (q D σ H z)
theorem PSs.mono{X:Cx}{e:List Stmt}{t t':TS}(h:PSs X e t) (q:∀D σ H,t' D σ H→t D σ H):PSs X e t':=fun pins s σ H D I z=>h pins s σ H D I (q D σ H z)
theorem PG.mono{X:Cx}{e:Expr}{t t':TG}(h:PG X e t) (q:∀v σ H Q,t' v σ H Q→t v σ H Q):PG X e t':=fun pins s σ H v u Q I r z=>h pins s σ H v u Q I r (q v σ H Q z)
theorem PI.mono{X:Cx}{tg e:Expr}{t t':TI}(h:PI X tg e t) (q:∀σ H R,t' σ H R→t σ H R):PI X tg e t':=fun pins s σ H R I z=>h pins s σ H R I (q σ H R z)
noncomputable def zag (i:Nat):WE:=fun _ σ S Q=>match σ[i]? with
 |some (some w)=>Q w S
 |_=>False
noncomputable def wC (w:W):WE:=fun _ _ S Q=>Q w S
section
variable {X:Cx}
theorem jv (i:Nat) {x:Str}{pos:Pos}(hN:X.N[i]? =some x:=by rfl) (hv:Vis X.env.scope x:=by first |exact Or.inl rfl |exact Or.inr (Or.inl rfl) |exact Or.inr (Or.inr rfl)) (hd:(x == ("__debug__" :Str))=false:=by decide)
  (hcd:(x == ("__classdict__" :Str))=false:=by decide):JE X (.Name x pos) (zag i):=fun E hE=>(zmd hN hv hd hcd).mono fun σ H Q ⟨σW,S,QW,hσ,hS,ht,hQ⟩=>by
 unfold zag at ht;split at ht
 ·rename_i w e;obtain⟨v,e',r⟩:=hσ.get e;exact⟨v,e',hQ w S v H .refl r hS ht⟩
 ·exact ht.elim
theorem zlO{e:Expr}{v:V}{w:W}(h:PE X e (tC v)) (r:∀K H,Rep K H w v):JE X e (wC w):=fun E hE=>h.mono fun σ H Q ⟨σW,S,QW,hσ,hS,ht,hQ⟩=>hQ w S v H .refl (r _ _) hS ht
theorem zac{i j pos}:JE X (.Constant (.int i) j pos) (wC (.int i)):=zlO zrN fun _ _=> .int i
theorem zdF{b j pos}:JE X (.Constant (.bool b) j pos) (wC (.bl b)):=zlO zut fun _ _=> .bl b
theorem zoU{j pos}:JE X (.Constant .none j pos) (wC .non):=zlO zte fun _ _=> .non
theorem zah{x j pos}:JE X (.Constant (.str x) j pos) (wC (.str x)):=zlO zsa fun _ _=> .str x
theorem zfr{x:Str}{i:Int}{u:Tok}{pos:Pos}(hg:Gl X x) (hm:X.mg x=some (.int i u)) (hd:(x == ("__debug__" :Str))=false:=by decide):JE X (.Name x pos) (wC (.int i)):=zlO (v:= .int i) (zlY hg hm ⟨u,rfl⟩ hd) fun _ _=> .int i
end
noncomputable abbrev W2:=W→W→Sto→WK→Prop
noncomputable def wOp (r:W2) (a b:WE):WE:=fun E σ S Q=>a E σ S fun x S1=>b E σ S1 fun y S2=>r x y S2 Q
noncomputable def OpW (K:PySem.W.Frag) (r:R2) (wr:W2):Prop:=∀H x y wx wy S (Q:VK) (QW:WK),Rep K H wx x→Rep K H wy y→RepS K H S→wr wx wy S QW→Wish K H S QW Q→r x y H Q
theorem Wish.from{K:PySem.W.Frag}{H H':Hp}{S S':Sto}{QW:WK}{Q:VK}(h:Wish K H S QW Q) (e:Ext H S H' S'):Wish K H' S' QW Q:=fun w S v H'' e' r hS q=>h w S v H'' (e.trans e') r hS q
theorem Goes.from{K:PySem.W.Frag}{H H':Hp}{S S':Sto}{P:WSt→Sto→Prop}{Q:St→Hp→Prop}(h:Goes K H S P Q) (e:Ext H S H' S'):Goes K H' S' P Q:=fun σW S σ H'' e' r hS q=>h σW S σ H'' (e.trans e') r hS q
theorem Meets.from{K:PySem.W.Frag}{H H':Hp}{S S':Sto}{DW:WEnds}{D:Ends}(h:Meets K H S DW D) (e:Ext H S H' S'):Meets K H' S' DW D:=⟨h.nx.from e,h.rt.from e,h.bk.from e,h.ct.from e⟩
section
variable {X:Cx}{a b:Expr}{pos:Pos}
theorem zfJ{K:PySem.W.Frag}{ta tb:WSt→Sto→WK→Prop}{wr:W→W→Sto→WK→Prop}{σ:St}{H:Hp}{Q:VK}{R:V→V→Hp→Prop}
  (h:zts K (fun σ S Q=>ta σ S fun x S1=>tb σ S1 fun y S2=>wr x y S2 Q) σ H Q)
  (hR:∀H2 x y wx wy S (QW:WK),Rep K H2 wx x→Rep K H2 wy y→RepS K H2 S→wr wx wy S QW→Wish K H2 S QW Q→R x y H2) :
  zts K ta σ H fun x H1=>zts K tb σ H1 fun y H2=>R x y H2:=by
 obtain⟨σW,S,QW,hσ,hS,ht,hQ⟩:=h;refine⟨σW,S,_,hσ,hS,ht,fun w1 S1 v1 H1 e1 r1 hS1 h1=>?_⟩;refine⟨σW,S1,_,hσ.ext e1,hS1,h1,fun w2 S2 v2 H2 e2 r2 hS2 h2=>?_⟩;exact hR H2 v1 v2 w1 w2 S2 QW (r1.ext e2) r2 hS2 h2 (hQ.from (e1.trans e2))
theorem zji{op:Operator}{r:R2}{wr:W2}{ta tb:WE}(ho:OpR X (binaryOp op) r) (hw:OpW X.K r wr) (ha:JE X a ta) (hb:JE X b tb):JE X (.BinOp a op b pos) (wOp wr ta tb):=fun E hE=>
 (zoi ho (ha E hE) (hb E hE)).mono fun σ H Q h=>zfJ h fun H2 x y wx wy S QW rx ry hS q hQ=>hw H2 x y wx wy S Q QW rx ry hS q hQ
theorem zgw{op:CmpOp}{r:R2}{wr:W2}{ta tb:WE}(ho:OpR X (compareOp op) r) (hw:OpW X.K r wr) (ha:JE X a ta) (hb:JE X b tb) (hm:behindInMarks op b=false):JE X (.Compare a [op] [b] pos) (wOp wr ta tb):=fun E hE=>
 (zpW ho (ha E hE) (hb E hE) hm).mono fun σ H Q h=>zfJ h fun H2 x y wx wy S QW rx ry hS q hQ=>hw H2 x y wx wy S Q QW rx ry hS q hQ
end
theorem ObjOk.ex{P:Program}{w:World}{H:Hp}{h:Heap}{a:Addr}{o:HO}(x:ObjOk P w H h a o):∃u,h.get? a=some u:=by
 cases o with
 |lst xs=>obtain⟨_,_,_,_,e⟩:=x;exact⟨_,e⟩
 |tup xs=>obtain⟨_,_,_,o,e,_⟩:=x;exact⟨_,e⟩
 |dK kvs=>obtain⟨_,_,_,_,o,_,_,e,_⟩:=x;exact⟨_,e⟩
 |dT kvs=>obtain⟨_,_,_,_,o,_,_,e,_⟩:=x;exact⟨_,e⟩
 |set S n=>obtain⟨o,_,_,_,e,_⟩:=x;exact⟨_,e⟩
 |ins C dx fs=>obtain⟨_,_,_,e,_⟩:=x;exact⟨_,e⟩
 |own y=>exact x
 |xd fs=>obtain⟨_,⟨_,_,_,e,_⟩,_⟩:=x;exact⟨_,e⟩
 |rng lo hi=>obtain⟨_,_,_,e⟩:=x;exact⟨_,e⟩
 |frz ob u=>obtain⟨e,_⟩:=x;exact⟨_,e⟩
 |tbl ps=>exact⟨_,show h.get? a=some _ from x⟩
 |met f y=>exact⟨_,show h.get? a=some _ from x⟩
 |ext φ=>exact x.2.1
noncomputable def unt (H:Hp) (S:Sto):Hp:=fun b=>match H b with
 |some (.lst xs)=>match S b with
  |none=>none
  |some _=>some (.lst xs)
 |o=>o
noncomputable def rtk (H:Hp) (S:Sto) (H':Hp):Hp:=fun b=>match unt H S b with
 |none=>match H b with
  |some o=>some o
  |none=>H' b
 |some _=>match H' b with
  |some o=>some o
  |none=>some (.ext fun h=>∃o,h.get? b=some o)
section
variable {w:World}{K:PySem.W.Frag}{H:Hp}{S:Sto}{h:Heap}{b:Addr}{o:HO}
theorem zjK (e:unt H S b=some o):H b=some o:=by
 unfold unt at e;split at e
 ·rename_i xs q;split at e
  ·cases e
  ·rw [q];exact e
 ·exact e
theorem zdG (e:H b=none):unt H S b=none:=by unfold unt;rw [e]
theorem zjx (e:H b=some o) (n:∀xs,o≠ .lst xs):unt H S b=some o:=by
 unfold unt;rw [e];cases o<;>first |rfl |exact absurd rfl (n _)
theorem zkf{u:Ob}(e:H b=some o) (hs:S b=some u):unt H S b=some o:=by
 unfold unt;rw [e];cases o<;>first |rfl | (dsimp only;rw [hs])
theorem zlf{xs:List V}(e:H b=some (.lst xs)) (hs:S b=none):unt H S b=none:=by
 unfold unt;rw [e];dsimp only;rw [hs]
theorem zrC (e:unt H S b=none) (q:H b=some o):(∃xs,o= .lst xs)∧S b=none:=by
 unfold unt at e;rw [q]at e;cases o<;>first |cases e |skip;rename_i xs;dsimp only at e;split at e
 ·exact⟨⟨xs,rfl⟩, ‹_›⟩
 ·cases e
mutual
theorem Rep.mv{H1:Hp}(t:∀b xs,H b=some (.tup xs)→H1 b=some (.tup xs)) (f:∀b o u,H b=some (.frz o u)→H1 b=some (.frz o u)) {w:W}{v:V}:Rep K H w v→Rep K H1 w v
 | .non=> .non
 | .bl b=> .bl b
 | .int i=> .int i
 | .str x=> .str x
 | .ref a=> .ref a
 | .scr h=> .scr (by
  rcases h with⟨o,h⟩ |h
  ·exact .inl ⟨o,f _ _ _ h⟩
  ·exact .inr h)
 | .tup h hs=> .tup (t _ _ h) (Reps.mv t f hs)
theorem Reps.mv{H1:Hp}(t:∀b xs,H b=some (.tup xs)→H1 b=some (.tup xs)) (f:∀b o u,H b=some (.frz o u)→H1 b=some (.frz o u)) {ws:List W}{vs:List V}:Reps K H ws vs→Reps K H1 ws vs
 | .nil=> .nil
 | .cons h hs=> .cons (Rep.mv t f h) (Reps.mv t f hs)
end
theorem zeg:∀b xs,H b=some (.tup xs)→unt H S b=some (.tup xs):=fun b xs e=>zjx e fun _ z=>nomatch z
theorem zeN:∀b o u,H b=some (.frz o u)→unt H S b=some (.frz o u):=fun b o u e=>zjx e fun _ z=>nomatch z
theorem RepS.unt (r:RepS K H S):RepS K (unt H S) S:=fun a o e=>by
 have q:=r a o e;cases o with
 |lst ws=>obtain⟨vs,z,rs⟩:=q;exact⟨vs,zkf z e,Reps.mv zeg zeN rs⟩
 |dct kvs=>obtain⟨ps,z,rs⟩:=q;exact⟨ps,zkf z e,Paired.mapP rs fun _ _ z=>⟨z.1,Rep.mv zeg zeN z.2⟩⟩
 |dk kvs=>obtain⟨ps,z,rs⟩:=q;exact⟨ps,zkf z e,Paired.mapP rs fun _ _ z=>⟨z.1,Rep.mv zeg zeN z.2⟩⟩
 |ins C fs=>obtain⟨C,dx,ps,z0,z,rs⟩:=q;exact⟨C,dx,ps,z0,zkf z e,Paired.mapP rs fun _ _ z=>⟨z.1,Rep.mv zeg zeN z.2⟩⟩
theorem HOk.unt (x:HOk P w H h):HOk P w (unt H S) h:=fun a o e=>
 (x a o (zjK e)).stay (fun _ _ _ q=>q) (fun b q=>zjx q fun _ z=>nomatch z) fun b xs q=>zeg b xs q
theorem zeB (ok:HOk P w H h) (un:Un fs [] (unt H S) H' h h') (e:H' b=some o):rtk H S H' b=some o:=by
 unfold rtk;split
 ·rename_i q;split
  ·rename_i u z;obtain⟨ob,eo⟩:=(ok b u z).ex;rw [un.free b ob eo q (by simp)]at e;cases e
  ·exact e
 ·rw [e]
theorem zgt (un:Un fs [] (unt H S) H' h h') (ok:HOk P w H h):Un fs [] H (rtk H S H') h h' where
  keep:=fun b o e n hb hx=>un.keep b o e (zdG n) hb hx
  slot:=fun b o e n hb hx=>un.slot b o e (zdG n) hb hx
  free:=fun b o e n hx=>by
    unfold rtk;rw [zdG n,n];exact un.free b o e (zdG n) hx
  there:=un.there
  tups:=fun b xs e=>zeB ok un (un.tups b xs (zeg b xs e))
  frzs:=fun b o u e=>zeB ok un (un.frzs b o u (zeN b o u e))
  tbls:=fun b ps e=>by
    obtain⟨m,z⟩:=un.tbls b ps (zjx e fun _ z=>nomatch z);exact⟨m,zeB ok un z⟩
theorem zke (un:Un fs [] (unt H S) H' h h') (ok:HOk P w H h) (ok':HOk P w H' h') (hf:∀b∈fs,H b=none):HOk P w (rtk H S H') h':=fun b o e=>by
 have back:∀{o},H' b=some o→ObjOk P w (rtk H S H') h' b o:=fun {o} q=>(ok' b o q).stay (fun _ _ _ z=>z) (fun c z=>zeB ok un z) fun c xs z=>zeB ok un z;unfold rtk at e;split at e
 ·rename_i q;split at e
  ·rename_i u z;cases e;obtain⟨⟨xs,rfl⟩,_⟩:=zrC q z;obtain⟨l,its,n,r,g⟩:=ok b _ z;exact⟨l,its,n,r,un.keep b _ g q (fun hb=>by rw [hf b hb]at z;cases z) (by simp)⟩
  ·exact back e
 ·rename_i u q;split at e
  ·rename_i u' z;cases e;exact back z
  ·rename_i z;cases e;obtain⟨ob,eo⟩:=(ok b u (zjK q)).ex;obtain⟨ob',eo'⟩:=un.there b ob eo (by simp);exact⟨⟨ob',eo'⟩,⟨ob',eo'⟩,fun h1 h2 ⟨o,z⟩ k=>⟨o,k o z⟩⟩
theorem zpE (e:H b=some o):∃o',rtk H S H' b=some o':=by
 unfold rtk;split
 ·rw [e];exact⟨_,rfl⟩
 ·split
  ·exact⟨_,rfl⟩
  ·exact⟨_,rfl⟩
theorem zjm (un:Un fs [] (unt H S) H' h h') (ok:HOk P w H h) (r:RepS K H' S'):Ext H S (rtk H S H') S' where
  tup:=fun b xs e=>(zgt un ok).tups b xs e
  frz:=fun b o u e=>(zgt un ok).frzs b o u e
  fr:=fun b xs e hs=>by
    refine⟨?_,?_⟩
    · unfold rtk;rw [zlf e hs,e]
    · cases q:S' b with
      |none=>rfl
      |some u=>
        obtain⟨v,z⟩:=(r b u q).some;obtain⟨ob,eo⟩:=(ok b _ e).ex;rw [un.free b ob eo (zlf e hs) (by simp)]at z;cases z
  all:=fun b o e=>zpE e
theorem zoE (un:Un fs [] (unt H S) H' h h') (ok:HOk P w H h):Ext H' S' (rtk H S H') S' where
  tup:=fun b xs e=>zeB ok un e
  frz:=fun b o u e=>zeB ok un e
  fr:=fun b xs e hs=>⟨zeB ok un e,hs⟩
  all:=fun b o e=>⟨o,zeB ok un e⟩
theorem zof (un:Un fs [] (unt H S) H' h h') (ok:HOk P w H h) (r:RepS K H' S'):RepS K (rtk H S H') S':=fun a o e=>(r a o e).keep (zoE (S':=S') un ok) fun u z=>zeB ok un z
end
theorem zsP{X:Cx}{k:Nat}{f:Addr}{fd:FuncData}{ps:List Str}{c:WSp}{E:WX}{pins:List (Addr×Obj)}{σ:St}{σW:WSt}{H:Hp}{S:Sto}{s:Shared}{Q:VK}{QW:WK}{us:List Value}{vs:List V}{ws:List W}
  (F:FnOk X.prog X.w X.K X.mg X.base (CX1 X.prog X.w) k f fd ps (zaV X.K c)) (hr:Room k X.A) (hb:Binds X.K fd ps []) (I:Inv X pins σ H s) (r:Vals vs us) (rs:Reps X.K H ws vs) (hσ:RpSt X.K H σW σ) (hS:RepS X.K H S)
  (h:c ws S QW fun cl S'=>E cl σW S') (hQ:Wish X.K H S QW Q)
  (hx:∀(cl:Str) (C a:Addr) (H':Hp) (S':Sto) (s':Shared),PySem.W.nsIn X.K mainGlobals cl=some (some (.ref C))→s'.os=s.os→AllBare s'.gens→Un (frs X.stack) [] H H' s.heap s'.heap→HOk X.prog X.w H' s'.heap→Fly s.heap s'.heap H' a C→Ext H S H' S'→RepS X.K H' S'→E cl σW S'→X.xe (.ref a) s'):wpAny (model X.prog X.w) X.A (call (.ref f) us) (EP X pins σ Q) X.xe s:=by
 have e0:=I.env0;have sp:zaV X.K c vs (unt H S) (fun v H'=>∃w S',Rep X.K H' w v∧RepS X.K H' S'∧QW w S') (fun cv _ H'=>∃cl C S',cv= .ref C∧PySem.W.nsIn X.K mainGlobals cl=some (some (.ref C))∧RepS X.K H' S'∧E cl σW S'):=
  ⟨ws,S,QW,_,Reps.mv zeg zeN rs,hS.unt,h,fun w S' v H' _ r1 r2 q=>⟨w,S',r1,r2,q⟩,fun cl C S' H' hn hS' q=>⟨cl,C,S',rfl,hn,hS',q⟩⟩
 have e1:Env0 X.prog X.w X.K X.mg X.base X.A X.stack s (unt H S):=⟨e0.frames,e0.mod,fun b o e=>⟨(e0.bs b o e).1,zdG (e0.bs b o e).2⟩,e0.bsz,e0.funs,fun b hb=>zdG (e0.frf b hb),e0.hok.unt,e0.bare⟩;have hl:us.length=ps.length:=by rw [←r.length];exact F.len _ _ _ _ sp
 have hb':=hb s us I.kIn (by rw [List.append_nil];exact hl);rw [List.append_nil]at hb';refine wpAny_call (codeAny_mono (F.run X.A X.stack s (unt H S) ⟨us,[]⟩ us vs _ _ hr e1 hb' r sp) fun rr s' hq=>?_);cases rr with
 |error e=>
  obtain⟨a,C,H',rfl,os,bare,un,ok',fly,cl,C',S',ec,hn,hS',q⟩:=hq;cases ec;refine hx cl C a (rtk H S H') S' s' hn os bare (zgt un I.hok) (zke un I.hok ok' e0.frf) ?_ (zjm un I.hok hS') (zof un I.hok hS') q;obtain⟨g1,g2,oe,vs',T,oT,ts,a1,a2,a3,a4,a5,a6,a7⟩:=fly;have free:∀{b:Addr},s.heap.get? b=none→H' b=none→rtk H S H' b=none:=fun {b} q1 q2=>by
   have hn:H b=none:=by
    cases z:H b with
    |none=>rfl
    |some u=>obtain⟨ob,eo⟩:=(I.hok b u z).ex;rw [q1]at eo;cases eo
   unfold rtk;rw [zdG hn,hn];exact q2
  exact⟨g1,free g1 g2,oe,vs',T,oT,ts,a1,a2,a3,a4,a5,free a5 a6,a7⟩
 |ok fl=>
  cases fl with
  |ret u=>
   obtain⟨v,H',os,bare,un,ok',rv,w,S',r1,r2,q⟩:=hq;exact⟨v,rtk H S H',I.call' os (zgt un I.hok) (zke un I.hok ok' e0.frf) bare (fun _ z=>nomatch z),rv,hQ w S' v _ (zjm un I.hok r2) (r1.ext (zoE (S':=S') un I.hok)) (zof un I.hok r2) q⟩
  |next=>exact False.elim hq
  |brk=>exact False.elim hq
  |cont=>exact False.elim hq
theorem zpy{X:Cx}{k:Nat}{f:Addr}{fd:FuncData}{ps:List Str}{c:WSp}{E:WX}{pins:List (Addr×Obj)}{σ:St}{σW:WSt}{H:Hp}{S:Sto}{s:Shared}{Q:VK}{QW:WK}{us:List Value}{vs:List V}{ws:List W}
  (F:FnOk X.prog X.w X.K X.mg X.base (CX1 X.prog X.w) k f fd ps (zaV X.K c)) (hr:Room k X.A) (hb:Binds X.K fd ps []) (hE:Hook X E) (I:Inv X pins σ H s) (r:Vals vs us) (rs:Reps X.K H ws vs) (hσ:RpSt X.K H σW σ) (hS:RepS X.K H S)
  (h:c ws S QW fun cl S'=>E cl σW S') (hQ:Wish X.K H S QW Q):wpAny (model X.prog X.w) X.A (call (.ref f) us) (EP X pins σ Q) X.xe s:=
 zsP (E:=E) F hr hb I r rs hσ hS h hQ fun cl C a H' S' s' hn os bare un ok fly _ hS' q=>hE.far pins σ H s σW cl C a H' S' s' I hσ hn os bare un ok fly hS' q
theorem zmC{X:Cx}{pins:List (Addr×Obj)}{σ:St}{H':Hp}{s':Shared}{a C:Addr}{hid:List Addr}{h':Heap}(I:Inv X pins σ H' s') (hst:X.stack=X.env::X.outer) (hf:X.env.frame=some X.env.locals) (hex:X.ex=[])
  (h0:∀b∈hid,X.s₀.heap.get? b=none∧H' b=none) (ha:a∈hid) (L:Heap.Left (PySem.W.hideAll s'.heap (hid++frs X.stack)) X.stack a (.ref C) s'.heap h') :
  Un X.fs [] X.H₀ H' X.s₀.heap h'∧HOk X.prog X.w H' h'∧Fly X.s₀.heap h' H' a C:=by
 obtain⟨st,ff,tr,sl⟩:=L;have keepB:∀b o,s'.heap.get? b=some o→b∉hid→b∉frs X.stack→h'.get? b=some o:=fun b o e h1 h2=>st b o (PySem.W.hideAll_get _ e fun z=>(List.mem_append.mp z).elim h1 h2);have nh:∀b o,X.s₀.heap.get? b=some o→b∉hid:=fun b o e hb=>by rw [(h0 b hb).1]at e;cases e
 have slotB:∀b o,b∈frs X.stack→s'.heap.get? b=some o→ ∃sl,h'.get? b=some { o with slots:=sl }:=fun b o hb e=>by
  obtain⟨_,o',eo',nf⟩:=I.stack.mem hb;rw [e]at eo';cases eo';exact sl b o e nf
 have nx:∀b:Addr,b∉X.ex:=fun b=>by rw [hex];simp
 have fsS:∀b∈X.fs,b∈frs X.stack:=fun b hb=>by
  rw [hst];unfold frs;rw [List.filterMap_cons,hf];exact List.mem_cons_of_mem _ hb
 refine⟨⟨fun b o e n hb _=>?_,fun b o e n hb _=>?_,fun b o e n _=>I.base.free b o e n (nx b),fun b o e _=>?_,I.base.tups,I.base.frzs,I.base.tbls⟩,fun b o e=>?_,(h0 a ha).1,(h0 a ha).2,?_⟩
 ·refine keepB b o (I.base.keep b o e n hb (nx b)) (nh b o e) fun z=>?_;rcases List.mem_cons.mp (I.stkSub b z) with q |q
  ·exact absurd (Nat.lt_of_lt_of_le (Heap.lt_size e) I.ok.above) (by rw [q];exact Nat.lt_irrefl _)
  ·exact hb q
 ·obtain⟨sl1,e1⟩:=I.base.slot b o e n hb (nx b);obtain⟨sl2,e2⟩:=slotB b _ (fsS b hb) e1;exact⟨sl2,e2⟩
 ·obtain⟨o',e1⟩:=I.base.there b o e (nx b);by_cases hb:b∈frs X.stack
  ·obtain⟨sl2,e2⟩:=slotB b _ hb e1;exact⟨_,e2⟩
  ·exact⟨o',keepB b o' e1 (nh b o e) hb⟩
 ·refine(I.hok b o e).stay (fun c u hc q=>?_) (fun _ q=>q) fun _ _ q=>q;have tk:∃v,H' c=some v:=by
   rcases hc with z |z
   ·exact⟨o,by rw [z];exact e⟩
   ·exact⟨_,z⟩
  obtain⟨v,tk⟩:=tk;exact keepB c u q (fun z=>by rw [(h0 c z).2]at tk;cases tk) fun z=>by rw [I.stkFree c z]at tk;cases tk
 ·obtain⟨oe,vs,T,oT,ts,e1,e2,e3,e4,e5,e6,e7,e8,e9⟩:=tr;have nf:T∉frs X.stack:=fun hb=>by
   obtain⟨_,o,eo,nf⟩:=ff.mem hb;rw [e7]at eo;cases eo;exact nf ts e8
  have both:X.s₀.heap.get? T=none∧H' T=none:=by
   by_cases hT:T∈hid
   ·exact h0 T hT
   ·have z:s'.heap.get? T=none:=by
     cases q:s'.heap.get? T with
     |none=>rfl
     |some o=>
      rw [PySem.W.hideAll_get _ q fun z=>(List.mem_append.mp z).elim hT nf]at e5;cases e5
    constructor
    ·cases q:X.s₀.heap.get? T with
     |none=>rfl
     |some o=>obtain⟨o',q'⟩:=I.base.there T o q (nx T);rw [z]at q';cases q'
    ·cases q:H' T with
     |none=>rfl
     |some u=>obtain⟨o',q'⟩:=(I.hok T u q).ex;rw [z]at q';cases q'
  exact⟨oe,vs,T,oT,ts,e1,e2,e3,e4,both.1,both.2,e6,e7,e8,e9⟩
theorem zgT{h base:Heap}{l:List Env}{hid:List Addr}(hl:h.FunFrames base l):h.FunFrames (PySem.W.hideAll h (hid++frs l)) l:=
 PySem.W.funFrames_hide hl fun env he a ha=>List.mem_append_right _ (List.mem_filterMap.mpr ⟨env,he,ha⟩)
theorem zos{P:Program}{w:World}{K:PySem.W.Frag}{mg:Str→Option Value}{base:Heap}{N:List Str}{qual:Str}{scope:Scope}{f:Addr}{cdv:Value}{A:Around}{outer:List Env}{s:Shared}{H:Hp}{E:XK}{EW:Str→Sto→Prop}
    (hEW:∀cl C S' H',PySem.W.nsIn K mainGlobals cl=some (some (.ref C))→RepS K H' S'→EW cl S'→E (.ref C) none H'):Hook (zqH (CX1 P w) P w K mg base N qual scope f cdv A outer s H E) (fun c _ S'=>EW c S') where
  own:=PassesOwn.leaving
  far:=fun pins σ H1 s1 σW cl C a H' S' s' I hσ hn os bare un ok fly hS q=>by
    have I':=I.call' os un ok bare (fun _ z=>nomatch z);obtain⟨g1,g2,oe,vs,T,oT,ts,e1,e2,e3,e4,g3,g4,e5,e6,e7,e8⟩:=fly;have s0:∀{b:Addr},s1.heap.get? b=none→s.heap.get? b=none:=fun {b} z=>by
      cases q:s.heap.get? b with
      |none=>rfl
      |some o=>obtain⟨o',q'⟩:=I.base.there b o q (by exact fun z=>nomatch z);rw [z]at q';cases q'
    refine wpAny_leaving_next (base:=PySem.W.hideAll s'.heap ([a,T]++frs (envOfC qual scope s.heap.objs.size f cdv::outer))) I'.ok.frames (zgT I'.stack) rfl ⟨oe,vs,T,oT,ts,e1,e2,e3,e4,PySem.W.hideAll_none _ (by simp),e5,e6,e7,e8⟩ (fun b o z=>PySem.W.of_hideAll _ z) (PySem.W.hideAll_none _ (by simp)) fun h' L=>?_;obtain⟨u1,u2,u3⟩:=zmC (hid:=[a,T]) I' rfl rfl rfl (fun b hb=>by
      rcases List.mem_cons.mp hb with rfl |hb
      · exact⟨s0 g1,g2⟩
      · rw [List.mem_singleton.mp hb];exact⟨s0 g3,g4⟩) (by simp) L
    exact⟨a,C,H',rfl,I'.os,I'.bare,u1,u2,u3,hEW cl C S' H' hn hS q⟩
  near:=fun pins σ H1 s1 σW cl C a S h' args I hσ hn me hS q=>by
    have I':=I.kept (t':=s1.toks) me.keeps;obtain⟨t,e1,_,_⟩:=me.there;have s0:s.heap.get? a=none:=by
      cases q:s.heap.get? a with
      |none=>rfl
      |some o=>obtain⟨o',q'⟩:=I.base.there a o q (by exact fun z=>nomatch z);rw [me.new]at q';cases q'
    have h1:H1 a=none:=by
      cases q:H1 a with
      |none=>rfl
      |some u=>obtain⟨o',q'⟩:=(I.hok a u q).ex;rw [me.new]at q';cases q'
    refine wpAny_leaving_first (base:=PySem.W.hideAll h' ([a]++frs (envOfC qual scope s.heap.objs.size f cdv::outer))) (s:={ s1 with heap:=h' }) I'.ok.frames (zgT I'.stack) rfl e1 (fun b o z=>PySem.W.of_hideAll _ z) (PySem.W.hideAll_none _ (by simp)) rfl rfl fun h'' L=>?_;obtain⟨u1,u2,u3⟩:=zmC (hid:=[a]) I' rfl rfl rfl (fun b hb=>by rw [List.mem_singleton.mp hb];exact⟨s0,h1⟩) (by simp) L
    exact⟨a,C,H1,rfl,I'.os,I'.bare,u1,u2,u3,hEW cl C S H1 hn hS q⟩
noncomputable def zcM (S:Sto) (a:Addr) (Q:List W→Prop):Prop:=match S a with
 |some (.lst ws)=>Q ws
 |_=>False
theorem zas{S:Sto}{a:Addr}{Q:List W→Prop}{ws:List W}(h:S a=some (.lst ws)):zcM S a Q=Q ws:=by unfold zcM;rw [h]
theorem zbO{S:Sto}{a:Addr}{Q:List W→Prop}(h:zcM S a Q):∃ws,S a=some (.lst ws)∧Q ws:=by
 unfold zcM at h;split at h
 ·exact⟨_, ‹_›,h⟩
 ·exact h.elim
noncomputable def zoZ:W→Sto→(Bool→Sto→Prop)→Prop
 | .non,S,Q=>Q false S
 | .bl b,S,Q=>Q b S
 | .int i,S,Q=>Q (i != 0) S
 | .str x,S,Q=>x.length≤sizeLine∧Q ((x.length:Int) != 0) S
 | .tup ws,S,Q=>Q (!ws.isEmpty) S
 | .ref a,S,Q=>zcM S a fun ws=>Q (!ws.isEmpty) S
 | .scr ns,S,Q=>Q (!ns.isEmpty) S
noncomputable def zex (t:WE):WT:=fun E σ S Q=>t E σ S fun w S'=>zoZ w S' Q
noncomputable def wTb (t:WE):WT:=fun E σ S Q=>t E σ S fun w S'=>match w with
 | .bl b=>Q b S'
 |_=>False
noncomputable def zoA (t u:WT):WT:=fun E σ S Q=>t E σ S fun c S1=>if c=true then u E σ S1 Q else Q false S1
noncomputable def wOr (t u:WT):WT:=fun E σ S Q=>t E σ S fun c S1=>if c=true then Q true S1 else u E σ S1 Q
noncomputable def zfN (t:WT):WT:=fun E σ S Q=>t E σ S fun c S1=>Q (!c) S1
noncomputable def zee (t u:WE):WE:=fun E σ S Q=>t E σ S fun w S1=>match w with
 | .bl true=>u E σ S1 Q
 | .bl false=>Q (.bl false) S1
 |_=>False
noncomputable def zrv (t u:WE):WE:=fun E σ S Q=>t E σ S fun w S1=>match w with
 | .bl false=>u E σ S1 Q
 | .bl true=>Q (.bl true) S1
 |_=>False
noncomputable def zno (t:WE):WE:=fun E σ S Q=>t E σ S fun w S1=>match w with
 | .bl b=>Q (.bl !b) S1
 |_=>False
noncomputable def zdn (c:WT) (t u:WS):WS:=fun E D σ S=>c E σ S fun b S1=>if b=true then t E D σ S1 else u E D σ S1
noncomputable def zaP:WS:=fun _ D σ S=>D.nx σ S
noncomputable def zat (t u:WS):WS:=fun E D σ S=>t E { D with nx:=u E D } σ S
noncomputable def zbD (e:WE):WS:=fun E D σ S=>e E σ S D.rt
noncomputable def zhM (e:WE):WS:=fun E D σ S=>e E σ S fun _ S1=>D.nx σ S1
noncomputable def wGN (i:Nat):WG:=fun w σ S Q=>Q (σ.set i (some w)) S
noncomputable def wAsg (e:WE) (g:WG):WS:=fun E D σ S=>e E σ S fun w S1=>g w σ S1 D.nx
noncomputable abbrev WGs:=List W→WSt→Sto→(WSt→Sto→Prop)→Prop
noncomputable def zuz:WGs:=fun ws σ S Q=>match ws with
 | []=>Q σ S
 |_=>False
section
variable {X:Cx}{a b c e:Expr}{pos:Pos}{ta tb:WE}{tc tA tB':WT}{st:Stmt}{rest:List Stmt}{t u:WS}
theorem zpQ{K:PySem.W.Frag}{H:Hp}{w:W}{v:V}{S:Sto}{QW:Bool→Sto→Prop}(r:Rep K H w v) (hS:RepS K H S) (h:zoZ w S QW):∃k,ztO K v H k∧QW k S:=by
 cases r with
 |non=>exact⟨false,rfl,h⟩
 |bl b=>exact⟨b,rfl,h⟩
 |int i=>exact⟨_,rfl,h⟩
 |str x=>exact⟨_,⟨h.1,rfl⟩,h.2⟩
 |ref a=>
  obtain⟨ws,e,h⟩:=zbO h;obtain⟨vs,e1,r1⟩:=hS a _ e;refine⟨_, .inl ⟨vs, .of e1,rfl⟩,?_⟩;have q:vs.isEmpty=ws.isEmpty:=by cases r1<;>rfl
  rw [q];exact h
 | @scr a ns f=>
  refine⟨_, .inl ⟨_,f.sq,rfl⟩,?_⟩;have q:(ns.map V.int).isEmpty=ns.isEmpty:=by cases ns<;>rfl
  rw [q];exact h
 | @tup a vs ws f hs=>
  refine⟨_, .inr (.inl ⟨vs, .of f,rfl⟩),?_⟩;have q:vs.isEmpty=ws.isEmpty:=by cases hs<;>rfl
  rw [q];exact h
theorem zaN (ha:JE X a ta) (he:∀whole,isTrue a X.env whole=(do let v ←whole;standAt a.pos;holding [v] (truthy v)):=by intro _;rfl):JT X a (zex ta):=fun E hE=>
 (znn (ha E hE) he).mono fun σ H Q ⟨σW,S,QW,hσ,hS,ht,hQ⟩=>⟨σW,S,_,hσ,hS,ht,fun w S1 v H1 e1 r1 hS1 h1=>by
  obtain⟨k,hk,q⟩:=zpQ r1 hS1 h1;exact⟨k,hk,hQ k S1 H1 e1 hS1 q⟩⟩
theorem zgB{op:CmpOp}{r:R2}{wr:W2}(ho:OpR X (compareOp op) r) (hw:OpW X.K r wr) (ha:JE X a ta) (hb:JE X b tb) (hm:behindInMarks op b=false):JT X (.Compare a [op] [b] pos) (wTb (wOp wr ta tb)):=fun E hE=>
 (zpx ho (ha E hE) (hb E hE) hm).mono fun σ H Q ⟨σW,S,QW,hσ,hS,ht,hQ⟩=>by
  refine zfJ (Q:=fun v H1=>∃k,v= .bl k∧Q k H1) ⟨σW,S,fun w S'=>match w with
   | .bl b=>QW b S'
   |_=>False,hσ,hS,ht,fun w S1 v H1 e1 r1 hS1 h1=>?_⟩ fun H2 x y wx wy S QW rx ry hS q hQ=>hw H2 x y wx wy S _ QW rx ry hS q hQ
  cases r1 with
  |bl k=>exact⟨k,rfl,hQ k S1 H1 e1 hS1 h1⟩
  |_=>exact h1.elim
theorem zbU (ha:JT X a tA):JT X (.UnaryOp .Not a pos) (zfN tA):=fun E hE=>
 (zra (ha E hE)).mono fun σ H Q ⟨σW,S,QW,hσ,hS,ht,hQ⟩=>⟨σW,S,_,hσ,hS,ht,fun b S1 H1 e1 hS1 h1=>hQ _ S1 H1 e1 hS1 h1⟩
theorem JW.jt (h:JW X a tA):JT X a tA:=fun E hE=>(h E hE).pt
theorem zgm (ha:JT X a tA):JW X (.BoolOp .And [a] pos) tA:=fun E hE=>zqe (ha E hE)
theorem zed (ha:JT X a tA):JW X (.BoolOp .Or [a] pos) tA:=fun E hE=>zqU (ha E hE)
theorem zgy{rest:List Expr}(ha:JT X a tA) (hb:JW X (.BoolOp .And (b::rest) pos) tB'):JW X (.BoolOp .And (a::b::rest) pos) (zoA tA tB'):=fun E hE=>
 (zsf (ha E hE) (hb E hE)).mono fun σ H Q ⟨σW,S,QW,hσ,hS,ht,hQ⟩=>⟨σW,S,_,hσ,hS,ht,fun b S1 H1 e1 hS1 h1=>by
  cases b with
  |true=>exact⟨σW,S1,_,hσ.ext e1,hS1,h1,fun b S2 H2 e2 hS2 h2=>hQ b S2 H2 (e1.trans e2) hS2 h2⟩
  |false=>exact hQ _ S1 H1 e1 hS1 h1⟩
theorem zew{rest:List Expr}(ha:JT X a tA) (hb:JW X (.BoolOp .Or (b::rest) pos) tB'):JW X (.BoolOp .Or (a::b::rest) pos) (wOr tA tB'):=fun E hE=>
 (zul (ha E hE) (hb E hE)).mono fun σ H Q ⟨σW,S,QW,hσ,hS,ht,hQ⟩=>⟨σW,S,_,hσ,hS,ht,fun b S1 H1 e1 hS1 h1=>by
  cases b with
  |false=>exact⟨σW,S1,_,hσ.ext e1,hS1,h1,fun b S2 H2 e2 hS2 h2=>hQ b S2 H2 (e1.trans e2) hS2 h2⟩
  |true=>exact hQ _ S1 H1 e1 hS1 h1⟩
theorem zcX{op}(h:JE X a ta):JE X (.BoolOp op [a] pos) ta:=fun E hE=>zsw (h E hE)
theorem zcW{rest:List Expr}(ha:JE X a ta) (hb:JE X (.BoolOp .And (b::rest) pos) tb):JE X (.BoolOp .And (a::b::rest) pos) (zee ta tb):=fun E hE=>
 (zrh (ha E hE) (hb E hE)).mono fun σ H Q ⟨σW,S,QW,hσ,hS,ht,hQ⟩=>⟨σW,S,_,hσ,hS,ht,fun w S1 v H1 e1 r1 hS1 h1=>by
  cases r1 with
  |bl k=>
   refine⟨k,rfl,?_⟩;cases k with
   |true=>exact⟨σW,S1,_,hσ.ext e1,hS1,h1,hQ.from e1⟩
   |false=>exact hQ _ S1 _ H1 e1 (.bl false) hS1 h1
  |_=>exact h1.elim⟩
theorem zpq{rest:List Expr}(ha:JE X a ta) (hb:JE X (.BoolOp .Or (b::rest) pos) tb):JE X (.BoolOp .Or (a::b::rest) pos) (zrv ta tb):=fun E hE=>
 (zuh (ha E hE) (hb E hE)).mono fun σ H Q ⟨σW,S,QW,hσ,hS,ht,hQ⟩=>⟨σW,S,_,hσ,hS,ht,fun w S1 v H1 e1 r1 hS1 h1=>by
  cases r1 with
  |bl k=>
   refine⟨k,rfl,?_⟩;cases k with
   |false=>exact⟨σW,S1,_,hσ.ext e1,hS1,h1,hQ.from e1⟩
   |true=>exact hQ _ S1 _ H1 e1 (.bl true) hS1 h1
  |_=>exact h1.elim⟩
theorem zoT (ha:JE X a ta):JE X (.UnaryOp .Not a pos) (zno ta):=fun E hE=>
 (zsz (ha E hE)).mono fun σ H Q ⟨σW,S,QW,hσ,hS,ht,hQ⟩=>⟨σW,S,_,hσ,hS,ht,fun w S1 v H1 e1 r1 hS1 h1=>by
  cases r1 with
  |bl k=>exact⟨k,rfl,hQ _ S1 _ H1 e1 (.bl _) hS1 h1⟩
  |_=>exact h1.elim⟩
theorem zav:JSs X [] zaP:=fun E hE=>pss_nil.mono fun D σ H ⟨σW,S,DW,hσ,hS,ht,hD⟩=>hD.nx σW S σ H .refl hσ hS ht
theorem zad (h1:JS X st t) (h2:JSs X rest u):JSs X (st::rest) (zat t u):=fun E hE=>
 (znj (h1 E hE) (h2 E hE)).mono fun D σ H ⟨σW,S,DW,hσ,hS,ht,hD⟩=>
  ⟨σW,S,{ DW with nx:=u E DW },hσ,hS,ht,⟨fun σW' S' σ' H' e r hS' q=>⟨σW',S',DW,r,hS',q,hD.from e⟩,hD.rt,hD.bk,hD.ct⟩⟩
theorem zai (h1:JS X st t):JSs X [st] t:=fun E hE=>zle (h1 E hE)
theorem zfp (he:JE X e ta) (hs:swapsWith e none pos.line X.env=pure false:=by rfl):JS X (.Expr e pos) (zhM ta):=fun E hE=>
 (zpe (he E hE) hs).mono fun D σ H ⟨σW,S,DW,hσ,hS,ht,hD⟩=>⟨σW,S,_,hσ,hS,ht,fun w S1 v H1 e1 r1 hS1 h1=>hD.nx σW S1 σ H1 e1 (hσ.ext e1) hS1 h1⟩
theorem zan (he:JE X e ta):JS X (.Return (some e) pos) (zbD ta):=fun E hE=>
 (zsi (he E hE)).mono fun D σ H ⟨σW,S,DW,hσ,hS,ht,hD⟩=>⟨σW,S,_,hσ,hS,ht,hD.rt⟩
theorem zaO{a b:List Stmt}(hc:JT X c tc) (ha:JSs X a t) (hb:JSs X b u):JS X (.If c a b pos) (zdn tc t u):=fun E hE=>
 (zrH (hc E hE) (ha E hE) (hb E hE)).mono fun D σ H ⟨σW,S,DW,hσ,hS,ht,hD⟩=>⟨σW,S,_,hσ,hS,ht,fun k S1 H1 e1 hS1 h1=>by
  cases k with
  |true=>exact⟨σW,S1,DW,hσ.ext e1,hS1,h1,hD.from e1⟩
  |false=>exact⟨σW,S1,DW,hσ.ext e1,hS1,h1,hD.from e1⟩⟩
theorem zci{i:Nat}{x:Str}(hN:X.N.Nodup) (hi:X.N[i]? =some x) (hx:Loc X.env.scope x) (hf:X.fn x=true∨X.env.scope.names.lookup x=some .local:=by first |exact .inl rfl |exact .inr rfl |assumption):JG X (.Name x pos) (wGN i):=fun E hE=>
 (zpi hN hi hx hf).mono fun v σ H Q ⟨w,σW,S,P,r,hσ,hS,ht,hP⟩=>hP _ S _ H .refl (hσ.set r i) hS ht
theorem zak{i:Nat}{x:Str}{pos':Pos}(hN:X.N.Nodup) (hi:X.N[i]? =some x) (hx:Loc X.env.scope x) (he:JE X e ta) (hs:swapsWith e (some (.Name x pos')) pos.line X.env=pure false:=by rfl)
  (hf:X.fn x=true∨X.env.scope.names.lookup x=some .local:=by first |exact .inl rfl |exact .inr rfl |assumption):JS X (.Assign [.Name x pos'] e pos) (wAsg ta (wGN i)):=fun E hE=>
 (zoN hN hi hx (he E hE) hs hf).mono fun D σ H ⟨σW,S,DW,hσ,hS,ht,hD⟩=>⟨σW,S,_,hσ,hS,ht,fun w S1 v H1 e1 r1 hS1 h1=>hD.nx _ S1 _ H1 e1 ((hσ.ext e1).set r1 i) hS1 h1⟩
end
noncomputable def waNil:WA:=fun _ _ S Q=>Q [] S
noncomputable def zab (t:WE) (u:WA):WA:=fun E σ S Q=>t E σ S fun w S1=>u E σ S1 fun ws S2=>Q (w::ws) S2
noncomputable def zjh (t:WA):WE:=fun E σ S Q=>t E σ S fun ws S1=>ws.length≤sizeLine∧Q (.tup ws) S1
noncomputable def zeG (t:WA):WL:=fun E σ S Q=>t E σ S fun ws S1=>ws.length≤sizeLine∧Q ws S1
noncomputable def zfe (t:WL):WE:=fun E σ S Q=>t E σ S fun ws S1=>∀a,S1 a=none→Q (.ref a) (put S1 a (.lst ws))
section
variable {X:Cx}{e:Expr}{es:List Expr}{te:WE}{ta:WA}{tl:WL}{pos:Pos}
theorem zae:JA X [] waNil:=fun E hE=>pa_nil.mono fun σ H Q ⟨σW,S,QW,hσ,hS,ht,hQ⟩=>hQ [] S [] H .refl .nil hS ht
theorem zaa (ha:JE X e te) (hr:JA X es ta) (hs:starEach (e::es) X.env=(false,eval e X.env)::starEach es X.env:=by rfl):JA X (e::es) (zab te ta):=fun E hE=>
 (zdC (ha E hE) (hr E hE) hs).mono fun σ H Q ⟨σW,S,QW,hσ,hS,ht,hQ⟩=>⟨σW,S,_,hσ,hS,ht,fun w S1 v H1 e1 r1 hS1 h1=>⟨σW,S1,_,hσ.ext e1,hS1,h1,fun ws S2 vs H2 e2 r2 hS2 h2=>
  hQ (w::ws) S2 (v::vs) H2 (e1.trans e2) (.cons (r1.ext e2) r2) hS2 h2⟩⟩
theorem zdN{x1}(h:JA X es ta):JE X (.Tuple es x1 pos) (zjh ta):=fun E hE=>
 (zsr (h E hE)).mono fun σ H Q ⟨σW,S,QW,hσ,hS,ht,hQ⟩=>⟨σW,S,_,hσ,hS,ht,fun ws S1 vs H1 e1 r1 hS1 h1=>by
  refine⟨by rw [←r1.length];exact h1.1,fun p hp=>hQ (.tup ws) S1 _ _ (e1.trans (.new hp)) (.tup zaz (r1.ext (.new (S:=S1) hp))) (hS1.new hp) h1.2⟩⟩
theorem zaW (h:JA X es ta):JL X (.List es pos) (zeG ta):=fun E hE=>
 (zrR (h E hE)).mono fun σ H Q ⟨σW,S,QW,hσ,hS,ht,hQ⟩=>⟨σW,S,_,hσ,hS,ht,fun ws S1 vs H1 e1 r1 hS1 h1=>by
  refine⟨by rw [←r1.length];exact h1.1,fun p hp=>hQ ws S1 vs p _ (e1.trans (.new hp)) (e1.free hp) zaz (hS1.free hp) (r1.ext (.new (S:=S1) hp)) (hS1.new hp) h1.2⟩⟩
theorem zbs (h:JL X e tl):JE X e (zfe tl):=fun E hE=>
 (h E hE).mono fun σ H Q ⟨σW,S,QW,hσ,hS,ht,hQ⟩=>⟨σW,S,_,hσ,hS,ht,fun ws S1 vs a H1 e1 fa ea na r1 hS1 h1=>by
  refine hQ (.ref a) (put S1 a (.lst ws)) (.ref a) H1 ⟨e1.tup,e1.frz,fun b o q g=>by
   have hb:b≠a:=by rintro rfl;rw [fa]at q;cases q
   rw [zbN hb];exact e1.fr b o q g,e1.all⟩ (.ref a) (fun b o q=>?_) (h1 a na)
  by_cases hb:b=a
  ·subst hb;rw [zaj]at q;cases q;exact⟨vs,ea,r1⟩
  ·rw [zbN hb]at q;exact hS1 b o q⟩
end
noncomputable def zaA (c:WSp) (t:WA):WE:=fun E σ S Q=>t E σ S fun ws S1=>c ws S1 Q fun cl S2=>E cl σ S2
noncomputable def zeb (n k:Nat) (body:WS):WSp:=fun ws S Q E=>ws.length=k∧body (fun c _ S'=>E c S') { nx:=fun _ S'=>∃S'',Sub S'' S'∧Q .non S'',rt:=fun w S'=>∃S'',Sub S'' S'∧Q w S'' } (ws.map some++List.replicate (n - k) none) S
section
variable {X:Cx}{k:Nat}{f:Addr}{fd:FuncData}{ps:List Str}{c:WSp}{x:Str}{p pos:Pos}{e:Expr}{es:List Expr}{t:WA}
theorem zam (F:FnOk X.prog X.w X.K X.mg X.base (CX1 X.prog X.w) k f fd ps (zaV X.K c)) (hr:Room k X.A) (hg:Gl X x) (hm:X.mg x=some (.ref f)) (hk:PySem.W.keepIn X.K (.ref f)=true) (hb:Binds X.K fd ps [])
  (ha:JA X (e::es) t) (hdb:(x == ("__debug__" :Str))=false:=by decide) (he:starEach (e::es) X.env=(false,eval e X.env)::starEach es X.env:=by rfl) (hpl:(backTo pos (starEach es X.env)).any (·.1)=false:=by rfl) :
  JE X (.Call (.Name x p) (e::es) [] pos) (zaA c t):=fun E hE pins s σ H Q I h=>by
 obtain⟨σW,S,QW,hσ,hS,ht,hQ⟩:=h;refine wpAny_Call_Name_kw (zfl I hg hm ?_ hdb);refine PySem.W.callWith_K (h₀:=X.base) I.ok.mod.kin hk (thn (ha E hE pos pins s σ H (fun vs H1=>∃ws S1,Reps X.K H1 ws vs∧RpSt X.K H1 σW σ∧RepS X.K H1 S1∧c ws S1 QW (fun cl S'=>E cl σW S')∧Wish X.K H1 S1 QW Q) I
  ⟨σW,S,_,hσ,hS,ht,fun ws S1 vs H1 e1 r1 hS1 h1=>⟨ws,S1,r1,hσ.ext e1,hS1,h1,hQ.from e1⟩⟩) fun us s1 ⟨vs,H1,I1,r,ws,S1,r1,hσ1,hS1,h1,hQ1⟩=>⟨I1.kIn,?_⟩) he hpl
 exact zpy F hr hb hE I1 r r1 hσ1 hS1 h1 hQ1
theorem zlC{K:PySem.W.Frag}{H:Hp}{N:List Str}{ws:List W}{vs:List V}(h:Reps K H ws vs):RpSt K H (ws.map some++List.replicate (N.length - ws.length) none) (zgs N vs):=by
 have go:∀{ws:List W}{vs:List V}(m:Nat),Reps K H ws vs→RpSt K H (ws.map some++List.replicate m none) (vs.map some++List.replicate m none):=by
  intro ws
  induction ws with
  |nil=>
   intro vs m h;cases h
   induction m with
   |zero=>exact .nil
   |succ m ih=>exact .cons trivial ih
  |cons w ws ih=>
   intro vs m h;cases h with
   |cons r rs=>exact .cons r (ih m rs)
 unfold zgs;rw [←h.length];exact go _ h
theorem zbu{P:Program}{w:World}{K:PySem.W.Frag}{mg:Str→Option Value}{base:Heap}{x qual:Str}{st:Stmt}{f:Addr}{fd:FuncData}{N ps:List Str}{r n k:Nat}{body:WS}(F:Fun K x qual st f fd) (S:FnScope N ps (zal st)) (hn:N.length=n) (hk:ps.length=k)
  (hbody:∀(cdv:Value) (A:Around) (outer:List Env) (s:Shared) (H:Hp) (E:XK),Room r (A.deeper (envOfC qual (zal st) s.heap.objs.size f cdv))→
   JSs (zqH (CX1 P w) P w K mg base N qual (zal st) f cdv A outer s H E) (zeU st) body):FnOk P w K mg base (CX1 P w) (r+1) f fd ps (zaV K (zeb n k body)):=by
 obtain⟨oc,od,kV,doc,pm,an,cdv,ct,osl,rfl,lk,hcd⟩:=F.ex;refine ztX lk hcd S (fun vs H Q E h=>?_) fun A outer s H vs Q E hr h=>?_
 ·obtain⟨ws,S,QW,EW,rs,_,h,_⟩:=h;rw [←rs.length,h.1,hk]
 ·obtain⟨ws,S',QW,EW,rs,hS,h,hQ,hEW⟩:=h;refine⟨_,hbody cdv A outer s H E hr (fun c _ S'=>EW c S') (zos hEW),?_⟩;refine⟨_,S',{ nx:=fun _ S'=>∃S'',Sub S'' S'∧QW .non S'',rt:=fun w S'=>∃S'',Sub S'' S'∧QW w S'' },zlC (N:=N) rs,hS,by rw [hn,h.1];exact h.2,⟨fun σW S1 σ H1 e1 rr hS1 q=>?_,fun w S1 v H1 e1 rr hS1 q=>?_,fun _ _ _ _ _ _ _ q=>q,fun _ _ _ _ _ _ _ q=>q⟩⟩
  ·obtain⟨S2,sb,q⟩:=q;exact hQ .non S2 .non H1 (e1.trans (.drop sb)) .non (hS1.sub sb) q
  ·obtain⟨S2,sb,q⟩:=q;exact hQ w S2 v H1 (e1.trans (.drop sb)) rr (hS1.sub sb) q
end
noncomputable def zco (C:Int→Int→Prop) (g:Int→Int→W):W2
 | .int i, .int j,S,Q=>C i j∧Q (g i j) S
 |_,_,_,_=>False
noncomputable def zhm (g:Int→Int→W):W2
 | .int i, .int j,S,Q=>Q (g i j) S
 |_,_,_,_=>False
theorem zgM{K:PySem.W.Frag}{C:Int→Int→Prop}{g:Int→Int→Int}:OpW K (rI C fun i j=> .int (g i j)) (zco C fun i j=> .int (g i j)):=fun H x y wx wy S Q QW rx ry hS h hQ=>by
 cases rx<;>cases ry<;>first |exact⟨_,_,rfl,rfl,h.1,hQ _ S _ H .refl (.int _) hS h.2⟩ |exact h.elim
theorem znc{K:PySem.W.Frag}{g:Int→Int→Int}:OpW K (rI0 fun i j=> .int (g i j)) (zhm fun i j=> .int (g i j)):=fun H x y wx wy S Q QW rx ry hS h hQ=>by
 cases rx<;>cases ry<;>first |exact⟨_,_,rfl,rfl,hQ _ S _ H .refl (.int _) hS h⟩ |exact h.elim
theorem zfG{K:PySem.W.Frag}{g:Int→Int→Bool}:OpW K (rI0 fun i j=> .bl (g i j)) (zhm fun i j=> .bl (g i j)):=fun H x y wx wy S Q QW rx ry hS h hQ=>by
 cases rx<;>cases ry<;>first |exact⟨_,_,rfl,rfl,hQ _ S _ H .refl (.bl _) hS h⟩ |exact h.elim
noncomputable def zbw:W2
 | .int i, .int j,S,Q=>Q (.int (i+j)) S
 | .str x, .str y,S,Q=>x.length+y.length≤sizeLine∧Q (.str (x++y)) S
 | .tup xs, .tup ys,S,Q=>xs.length+ys.length≤sizeLine∧Q (.tup (xs++ys)) S
 | .ref a, .ref b,S,Q=>zcM S a fun xs=>zcM S b fun ys=>xs.length+ys.length≤sizeLine∧ ∀p,S p=none→Q (.ref p) (put S p (.lst (xs++ys)))
 |_,_,_,_=>False
section
variable {X:Cx}
theorem Reps.nil_r{K:PySem.W.Frag}{H:Hp}{ws:List W}(h:Reps K H ws []):ws=[]:=by cases h;rfl
theorem op_catT0:OpR X (binaryOp .Add) (fun x y H Q=>∃a b ys,x= .ref a∧y= .ref b∧SqT X.K H a []∧SqT X.K H b ys∧Q (.ref b) H):=by
 intro pins s σ H x y v u Q I rx ry h;obtain⟨a,b,ys,rfl,rfl,ha,hb,q⟩:=h;cases rx;cases ry;obtain⟨its,r1,p1,_⟩:=I.tuple ha;obtain⟨its2,r2,p2,_⟩:=I.tuple hb;cases r1;obtain⟨⟨cls,dd,data,sl⟩,ho,hc,n,hd⟩:=id p1;obtain⟨⟨cls2,dd2,data2,sl2⟩,ho2,hc2,n2,hd2⟩:=id p2;simp only at hc hd hc2 hd2;subst hc hd hc2 hd2;exact concat_meets ⟨_,ho,rfl⟩ ⟨_,ho2,rfl⟩ noFill_tuple_add seq_tuple_add PySem.F.slot_tuple_add PySem.F.entry_tuple_add (PySem.F.args_tuple_add_2 _ _)
   (tuple_addW0 a b _ _ n n2 dd dd2 sl sl2 (by simp)) ⟨ho,ho2,⟨.ref b,H,I,rfl,q⟩⟩
theorem zmc:OpR X (binaryOp .Add) (fun x y H Q=>(rI0 fun i j=> .int (i+j)) x y H Q∨(∃i j,x= .str i∧y= .str j∧i.length+j.length≤sizeLine∧Q (.str (i++j)) H)∨
  (∃a b ys,x= .ref a∧y= .ref b∧SqT X.K H a []∧SqT X.K H b ys∧Q (.ref b) H)∨zpd X.K x y H Q∨zuI x y H Q):=op_add.or (op_add_str.or (op_catT0.or (op_catT.or zlg)))
theorem zqy{K:PySem.W.Frag}:OpW K (fun x y H Q=>(rI0 fun i j=> .int (i+j)) x y H Q∨(∃i j,x= .str i∧y= .str j∧i.length+j.length≤sizeLine∧Q (.str (i++j)) H)∨
  (∃a b ys,x= .ref a∧y= .ref b∧SqT K H a []∧SqT K H b ys∧Q (.ref b) H)∨zpd K x y H Q∨zuI x y H Q) zbw:=fun H x y wx wy S Q QW rx ry hS h hQ=>by
 cases rx with
 |int i=>
  cases ry with
  |int j=>exact .inl ⟨i,j,rfl,rfl,hQ _ S _ H .refl (.int _) hS h⟩
  |_=>exact h.elim
 |str i=>
  cases ry with
  |str j=>exact .inr (.inl ⟨i,j,rfl,rfl,h.1,hQ _ S _ H .refl (.str _) hS h.2⟩)
  |_=>exact h.elim
 | @tup a vs ws f hs=>
  cases ry with
  | @tup b us zs g ks=>
   cases hs with
   |nil=>exact .inr (.inr (.inl ⟨a,b,us,rfl,rfl, .of f, .of g,hQ (.tup zs) S _ H .refl (.tup g ks) hS h.2⟩))
   |cons h1 h2=>
    refine .inr (.inr (.inr (.inl ⟨a,b,_,us,rfl,rfl, .of f, .of g,by simp,?_,fun e=>?_,fun e p hp=>?_⟩)))
    ·rw [←(Reps.cons h1 h2).length,←ks.length];exact h.1
    ·subst e;have e':=ks.nil_r;subst e';have q:=h.2;rw [List.append_nil]at q;exact hQ _ S _ H .refl (.tup f (.cons h1 h2)) hS q
    ·exact hQ _ S _ _ (.new hp) (.tup zaz (((Reps.cons h1 h2).append ks).ext (.new (S:=S) hp))) (hS.new hp) h.2
  |_=>exact h.elim
 |ref a=>
  cases ry with
  |ref b=>
   obtain⟨xs,ea,h⟩:=zbO h;obtain⟨ys,eb,h⟩:=zbO h;obtain⟨vs,e1,r1⟩:=hS a _ ea;obtain⟨us,e2,r2⟩:=hS b _ eb;refine .inr (.inr (.inr (.inr ⟨a,b,vs,us,rfl,rfl,e1,e2,by rw [←r1.length,←r2.length];exact h.1,fun p hp=>?_⟩)))
   exact hQ _ _ _ _ (.newS hp) (.ref p) (hS.put_lst hp ((r1.append r2).ext (.new (S:=S) hp))) (h.2 p (hS.free hp))
  |_=>exact h.elim
 |_=>exact h.elim
variable {a b:Expr}{pos:Pos}{ta tb:WE}
theorem zao (ha:JE X a ta) (hb:JE X b tb):JE X (.BinOp a .Add b pos) (wOp zbw ta tb):=zji zmc zqy ha hb
theorem zlj (ha:JE X a ta) (hb:JE X b tb):JE X (.BinOp a .Sub b pos) (wOp (zhm fun i j=> .int (i - j)) ta tb):=zji zsd znc ha hb
theorem zia (ha:JE X a ta) (hb:JE X b tb):JE X (.BinOp a .Mult b pos) (wOp (zco CMul fun i j=> .int (i*j)) ta tb):=zji zrW zgM ha hb
theorem zca (ha:JE X a ta) (hb:JE X b tb):JE X (.BinOp a .FloorDiv b pos) (wOp (zco zhZ fun i j=> .int (i / j)) ta tb):=zji zqF zgM ha hb
theorem zaU (ha:JE X a ta) (hb:JE X b tb):JE X (.BinOp a .Mod b pos) (wOp (zco (fun _ j=>0<j) fun i j=> .int (i % j)) ta tb):=zji zrP zgM ha hb
theorem zlx (ha:JE X a ta) (hb:JE X b tb):JE X (.BinOp a .Pow b pos) (wOp (zco zso fun i j=> .int (i ^ j.toNat)) ta tb):=zji zti zgM ha hb
noncomputable def zql (t:WE):WE:=fun E σ S Q=>t E σ S fun w S1=>match w with
 | .int i=>Q (.int (-i)) S1
 |_=>False
theorem zix (ha:JE X a ta):JE X (.UnaryOp .USub a pos) (zql ta):=fun E hE=>
 (ztT zsU (ha E hE)).mono fun σ H Q ⟨σW,S,QW,hσ,hS,ht,hQ⟩=>⟨σW,S,_,hσ,hS,ht,fun w S1 v H1 e1 r1 hS1 h1=>by
  cases r1 with
  |int i=>exact⟨i,rfl,hQ _ S1 _ H1 e1 (.int _) hS1 h1⟩
  |_=>exact h1.elim⟩
noncomputable def zuq (t u:WE):WL:=fun E σ S Q=>t E σ S fun x S1=>u E σ S1 fun y S2=>match x,y with
 | .ref a, .ref b=>zcM S2 a fun xs=>zcM S2 b fun ys=>xs.length+ys.length≤sizeLine∧Q (xs++ys) S2
 |_,_=>False
end
noncomputable def zhE (f:W→W→Option Bool):List W→List W→Option Bool
 | [],[]=>some true
 | [],_=>some false
 |_,[]=>some false
 |x::xs,y::ys=>match f x y,zhE f xs ys with
  |some a,some b=>some (a&&b)
  |_,_=>none
noncomputable def eqF (S:Sto):Nat→W→W→Option Bool
 |0,_,_=>none
 |n+1,w,u=>match w,u with
  | .non, .non=>some true
  | .bl a, .bl b=>some (a == b)
  | .int a, .int b=>some (a == b)
  | .str a, .str b=>some (a == b)
  | .tup _, .int _=>some false
  | .int _, .tup _=>some false
  | .tup xs, .tup ys=>zhE (eqF S n) xs ys
  | .ref a, .ref b=>match S a with
   |some (.lst xs)=>match S b with
    |some (.lst ys)=>zhE (eqF S n) xs ys
    |_=>none
   |_=>none
  |_,_=>none
theorem zka{f:W→W→Option Bool}:∀{xs ys:List W}{b:Bool},zhE f xs ys=some b→
  (∀j,j<xs.length→j<ys.length→ ∃c,f (xs.getD j .non) (ys.getD j .non)=some c)∧
  ((List.range (min xs.length ys.length)).all (fun j=>(f (xs.getD j .non) (ys.getD j .non)).getD true)&&xs.length == ys.length)=b
 | [],[],b,h=>by
  have:true=b:=Option.some.inj h;subst this;exact⟨fun j h=>absurd h (by simp),by simp⟩
 | [],y::ys,b,h=>by
  have:false=b:=Option.some.inj h;subst this;exact⟨fun j h=>absurd h (by simp),by simp⟩
 |x::xs,[],b,h=>by
  have:false=b:=Option.some.inj h;subst this;exact⟨fun j _ h=>absurd h (by simp),by simp⟩
 |x::xs,y::ys,b,h=>by
  unfold zhE at h;split at h
  ·rename_i c d e1 e2;have hb:(c&&d)=b:=Option.some.inj h;obtain⟨h1,h2⟩:=zka e2;refine⟨fun j j1 j2=>?_,?_⟩
   ·cases j with
    |zero=>exact⟨c,by simpa using e1⟩
    |succ j=>simpa using h1 j (by simpa using j1) (by simpa using j2)
   ·have hm:min (xs.length+1) (ys.length+1)=min xs.length ys.length+1:=by omega
    have hl:(xs.length+1 == ys.length+1)=(xs.length == ys.length):=by simp
    rw [List.length_cons,List.length_cons,hm,List.range_succ_eq_map,List.all_cons,List.all_map,hl];have q:((fun j=>(f ((x::xs).getD j .non) ((y::ys).getD j .non)).getD true)∘Nat.succ)=fun j=>(f (xs.getD j .non) (ys.getD j .non)).getD true:=by
     funext j;simp
    rw [q,Bool.and_assoc,h2];have q0:(f ((x::xs).getD 0 .non) ((y::ys).getD 0 .non)).getD true=c:=by simp [e1]
    rw [q0,hb]
  ·cases h
section
variable {X:Cx}{pins:List (Addr×Obj)}{σ:St}{H:Hp}{s:Shared}{S:Sto}
theorem zhd (I:Inv X pins σ H s):∀(n:Nat) {wx wy:W}{v:V}{b:Bool},Rep X.K H wx v→Rep X.K H wy v→RepS X.K H S→eqF S n wx wy=some b→b=true
 |0,_,_,_,_,_,_,_,h=>by cases h
 |n+1,wx,wy,v,b,rx,ry,hS,h=>by
  have list:∀{ws us:List W}{vs:List V}{b:Bool},Reps X.K H ws vs→Reps X.K H us vs→zhE (eqF S n) ws us=some b→b=true:=by
   intro ws
   induction ws with
   |nil=>
    intro us vs b r1 r2 e;cases r1;cases r2;exact(Option.some.inj e).symm
   |cons w ws ih=>
    intro us vs b r1 r2 e;cases r1 with
    |cons a1 a2=>
     cases r2 with
     |cons c1 c2=>
      unfold zhE at e;split at e
      ·rename_i c d e1 e2;have q1:=zhd I n a1 c1 hS e1;have q2:=ih a2 c2 e2;have:=Option.some.inj e;rw [q1,q2]at this;exact this.symm
      ·cases e
  cases rx with
  |non=>cases ry;exact(Option.some.inj h).symm
  |bl k=>cases ry;have:=Option.some.inj h;simpa using this.symm
  |int k=>cases ry;have:=Option.some.inj h;simpa using this.symm
  |str k=>cases ry;have:=Option.some.inj h;simpa using this.symm
  |ref a=>
   cases ry with
   |ref _=>
    have h':(match S a with
     |some (.lst xs)=>match S a with
      |some (.lst ys)=>zhE (eqF S n) xs ys
      |_=>none
     |_=>none)=some b:=h
    cases e:S a with
    |none=>rw [e]at h';cases h'
    |some o=>
     rw [e]at h';cases o with
     |lst ws=>
      obtain⟨vs,_,r⟩:=hS a _ e;exact list r r h'
     |dct _=>cases h'
     |dk _=>cases h'
     |ins _ _=>cases h'
   |scr _=>cases h
   |tup _ _=>cases h
  |scr f=>cases ry<;>cases h
  |tup f hs=>
   cases ry with
   |ref _=>cases h
   |scr _=>cases h
   |tup g ks=>
    have e:=I.tuple_inj (.of f) (.of g);subst e;exact list hs ks h
theorem zhD{A:Around}:A.in1.units=A.units+1:=rfl
theorem zjO (I:Inv X pins σ H s) (hS:RepS X.K H S):∀(n:Nat) {A:Around}{wx wy:W}{x y:V}{u v:Value}{b:Bool},A.units+n<cLine→Rep X.K H wx x→Rep X.K H wy y→RelV x u→RelV y v→eqF S n wx wy=some b→
  SeqAt.EqAt A s u v b∧SeqAt.RcAt A s u v b∧SeqAt.RcNeAt A s u v (!b)
 |0,_,_,_,_,_,_,_,_,_,_,_,_,_,h=>by cases h
 |n+1,A,wx,wy,x,y,u,v,b,hu,rx,ry,ru,rv,h=>by
  have hu0:A.units<cLine:=by omega
  have items:∀{ws zs:List W}{xs ys:List V}{us vs:List Value}{b:Bool},Reps X.K H ws xs→Reps X.K H zs ys→Vals xs us→Vals ys vs→zhE (eqF S n) ws zs=some b→
    (∀j (h1:j<us.toArray.size) (h2:j<vs.toArray.size),SeqAt.EqAt A.in1 s us.toArray[j] vs.toArray[j] ((eqF S n (ws.getD j .non) (zs.getD j .non)).getD true))∧
    ((List.range (min us.toArray.size vs.toArray.size)).all (fun j=>(eqF S n (ws.getD j .non) (zs.getD j .non)).getD true)&&us.toArray.size == vs.toArray.size)=b:=by
   intro ws zs xs ys us vs b r1 r2 q1 q2 e;obtain⟨h1,h2⟩:=zka e;have l1:=r1.length;have l2:=r2.length;have l3:=q1.length;have l4:=q2.length;refine⟨fun j j1 j2=>?_,?_⟩
   ·rw [List.size_toArray]at j1 j2;obtain⟨c,hc⟩:=h1 j (by omega) (by omega);have jw:j<ws.length:=by omega
    have jz:j<zs.length:=by omega
    obtain⟨x',ex,rx'⟩:=r1.get (List.getElem?_eq_getElem jw);obtain⟨y',ey,ry'⟩:=r2.get (List.getElem?_eq_getElem jz);obtain⟨u',eu,ru'⟩:=q1.get ex;obtain⟨v',ev,rv'⟩:=q2.get ey;have e1:us.toArray[j]=u':=by
     obtain⟨_,e⟩:=List.getElem?_eq_some_iff.mp eu;simpa using e
    have e2:vs.toArray[j]=v':=by
     obtain⟨_,e⟩:=List.getElem?_eq_some_iff.mp ev;simpa using e
    have g1:ws.getD j .non=ws[j]:=by rw [List.getD_eq_getElem?_getD,List.getElem?_eq_getElem jw];rfl
    have g2:zs.getD j .non=zs[j]:=by rw [List.getD_eq_getElem?_getD,List.getElem?_eq_getElem jz];rfl
    rw [e1,e2,hc];rw [g1,g2]at hc;exact(zjO I hS n (by rw [zhD];omega) rx' ry' ru' rv' hc).1
   ·rw [List.size_toArray,List.size_toArray,←l3,←l4,←l1,←l2];exact h2
  cases rx with
  |non=>
   cases(show u=Value.none from ru);cases ry with
   |non=>cases(show v=Value.none from rv);cases h;exact⟨.same _, .none_none, .none_none⟩
   |_=>cases h
  |bl k=>
   cases(show u=Value.bool k from ru);cases ry with
   |bl j=>cases(show v=Value.bool j from rv);cases h;exact⟨.bool_bool _ _, .bool_bool _ _, .bool_bool _ _⟩
   |_=>cases h
  |int k=>
   obtain⟨t0,rfl⟩:=ru;cases ry with
   |int j=>obtain⟨t,rfl⟩:=rv;cases h;exact⟨.int_int _ _ _ _, .int_int _ _ _ _, .int_int _ _ _ _⟩
   |tup f hs=>cases(show v=Value.ref _ from rv);cases h;obtain⟨its,_,p,_⟩:=I.tuple (.of f);exact⟨.int_tuple _ _ p hu0, .int_tuple _ _ p hu0, .int_tuple _ _ p hu0⟩
   |_=>cases h
  |str k=>
   obtain⟨t0,rfl⟩:=ru;cases ry with
   |str j=>obtain⟨t,rfl⟩:=rv;cases h;exact⟨.str_str _ _ _ _, .str_str _ _ _ _, .str_str _ _ _ _⟩
   |_=>cases h
  | @tup a xs ws f hs=>
   cases(show u=Value.ref a from ru);obtain⟨its,q1,p,_⟩:=I.tuple (.of f);cases ry with
   |int j=>obtain⟨t,rfl⟩:=rv;cases h;exact⟨.tuple_int _ _ p hu0, .tuple_int _ _ p hu0, .tuple_int _ _ p hu0⟩
   | @tup c ys zs g ks=>
    cases(show v=Value.ref c from rv);obtain⟨its2,q2,p2,_⟩:=I.tuple (.of g);obtain⟨h1,h2⟩:=items hs ks q1 q2 h;have rc:SeqAt.RcAt A s (.ref a) (.ref c) b:=by
     have:=SeqAt.RcAt.tuples p p2 hu0 h1;rw [h2]at this;exact this
    have rn:SeqAt.RcNeAt A s (.ref a) (.ref c) (!b):=by
     have:=SeqAt.RcNeAt.tuples p p2 hu0 h1;rw [h2]at this;exact this
    refine⟨?_,rc,rn⟩;by_cases e:a=c
    ·subst e;have:=zhd I (n+1) (.tup f hs) (.tup g ks) hS h;rw [this];exact .same _
    ·exact .of_refs e rc
   |_=>cases h
  |ref a=>
   cases(show u=Value.ref a from ru);cases ry with
   |ref c=>
    cases(show v=Value.ref c from rv);have h':(match S a with
     |some (.lst xs)=>match S c with
      |some (.lst ys)=>zhE (eqF S n) xs ys
      |_=>none
     |_=>none)=some b:=h
    cases e:S a with
    |none=>rw [e]at h';cases h'
    |some o=>
     rw [e]at h';cases o with
     |dct _=>cases h'
     |dk _=>cases h'
     |ins _ _=>cases h'
     |lst ws=>
      cases e2:S c with
      |none=>rw [e2]at h';cases h'
      |some o2=>
       rw [e2]at h';cases o2 with
       |dct _=>cases h'
       |dk _=>cases h'
       |ins _ _=>cases h'
       |lst zs=>
        obtain⟨xs,f,hs⟩:=hS a _ e;obtain⟨ys,g,ks⟩:=hS c _ e2;obtain⟨its,q1,p,_⟩:=I.list (.of f);obtain⟨its2,q2,p2,_⟩:=I.list (.of g);obtain⟨h1,h2⟩:=items hs ks q1 q2 h';have both:SeqAt.RcAt A s (.ref a) (.ref c) b∧SeqAt.RcNeAt A s (.ref a) (.ref c) (!b):=by
         by_cases hz:its.toArray.size=its2.toArray.size
         ·have t1:=SeqAt.RcAt.lists p.isList p2.isList hz hu0 h1;have t2:=SeqAt.RcNeAt.lists p.isList p2.isList hz hu0 h1;rw [←hz,Nat.min_self,beq_self_eq_true,Bool.and_true]at h2;rw [h2]at t1 t2;exact⟨t1,t2⟩
         ·have hz':(its.toArray.size != its2.toArray.size)=true:=by simpa using hz
          have hz2:(its.toArray.size == its2.toArray.size)=false:=by simpa using hz
          rw [hz2,Bool.and_false]at h2;subst h2;exact⟨.lists_lengths p.isList p2.isList hz' hu0, .lists_lengths p.isList p2.isList hz' hu0⟩
        refine⟨?_,both.1,both.2⟩;by_cases ee:a=c
        ·subst ee;have:=zhd I (n+1) (.ref a) (.ref a) hS h;rw [this];exact .same _
        ·exact .of_refs ee both.1
   |_=>cases h
  |scr f=>cases ry<;>cases h
end
noncomputable def oEq (neg:Bool):W2:=fun x y S Q=>match eqF S 60 x y with
 |some b=>Q (.bl (if neg then !b else b)) S
 |none=>False
noncomputable def ztw (K:PySem.W.Frag) (neg:Bool):R2:=fun x y H Q=>∃wx wy S b,Rep K H wx x∧Rep K H wy y∧RepS K H S∧eqF S 60 wx wy=some b∧Q (.bl (if neg then !b else b)) H
section
variable {X:Cx}
theorem zoO (hu:X.A.units+60<cLine):OpR X (compareOp .Eq) (ztw X.K false):=by
 intro pins s σ H x y v u Q I rx ry h;obtain⟨wx,wy,S,b,r1,r2,hS,e,q⟩:=h;exact(zjO I hS 60 hu r1 r2 rx ry e).2.1 _ _ _ _ ⟨.bl b,H,I,rfl,q⟩
theorem zoS (hu:X.A.units+60<cLine):OpR X (compareOp .NotEq) (ztw X.K true):=by
 intro pins s σ H x y v u Q I rx ry h;obtain⟨wx,wy,S,b,r1,r2,hS,e,q⟩:=h;exact(zjO I hS 60 hu r1 r2 rx ry e).2.2 _ _ _ _ ⟨.bl (!b),H,I,rfl,q⟩
theorem zjF{K:PySem.W.Frag}{neg:Bool}:OpW K (ztw K neg) (oEq neg):=fun H x y wx wy S Q QW rx ry hS h hQ=>by
 unfold oEq at h;split at h
 ·rename_i b e;exact⟨wx,wy,S,b,rx,ry,hS,e,hQ _ S _ H .refl (.bl _) hS h⟩
 ·exact h.elim
variable {a b c:Expr}{pos:Pos}{ta tb:WE}
theorem zff{k:Nat}(hr:Room k X.A) (ha:JE X a ta) (hb:JE X b tb):JE X (.Compare a [.Eq] [b] pos) (wOp (oEq false) ta tb):=zgw (zoO (by have:=hr.units;omega)) zjF ha hb (nomark b)
theorem zsu{k:Nat}(hr:Room k X.A) (ha:JE X a ta) (hb:JE X b tb):JE X (.Compare a [.NotEq] [b] pos) (wOp (oEq true) ta tb):=zgw (zoS (by have:=hr.units;omega)) zjF ha hb (nomark b)
theorem zdJ{k:Nat}(hr:Room k X.A) (ha:JE X a ta) (hb:JE X b tb):JT X (.Compare a [.Eq] [b] pos) (wTb (wOp (oEq false) ta tb)):=zgB (zoO (by have:=hr.units;omega)) zjF ha hb (nomark b)
theorem zkD{k:Nat}(hr:Room k X.A) (ha:JE X a ta) (hb:JE X b tb):JT X (.Compare a [.NotEq] [b] pos) (wTb (wOp (oEq true) ta tb)):=zgB (zoS (by have:=hr.units;omega)) zjF ha hb (nomark b)
noncomputable abbrev oLt:W2:=zhm fun i j=> .bl (decide (i<j))
noncomputable abbrev oGt:W2:=zhm fun i j=> .bl (decide (j<i))
noncomputable def oLe:W2
 | .int i, .int j,S,Q=>Q (.bl (decide (i≤j))) S
 | .str i, .str j,S,Q=>Q (.bl (!decide (j.cps.toList<i.cps.toList))) S
 |_,_,_,_=>False
theorem zlE{K:PySem.W.Frag}:OpW K (fun x y H Q=>rI0 (fun i j=> .bl (decide (i≤j))) x y H Q∨(∃i j,x= .str i∧y= .str j∧Q (.bl (!decide (j.cps.toList<i.cps.toList))) H)) oLe:=fun H x y wx wy S Q QW rx ry hS h hQ=>by
 cases rx with
 |int i=>
  cases ry with
  |int j=>exact .inl ⟨i,j,rfl,rfl,hQ _ S _ H .refl (.bl _) hS h⟩
  |_=>exact h.elim
 |str i=>
  cases ry with
  |str j=>exact .inr ⟨i,j,rfl,rfl,hQ _ S _ H .refl (.bl _) hS h⟩
  |_=>exact h.elim
 |_=>exact h.elim
theorem zsk (ha:JE X a ta) (hb:JE X b tb):JE X (.Compare a [.Lt] [b] pos) (wOp oLt ta tb):=zgw zrz zfG ha hb (nomark b)
theorem zib (ha:JE X a ta) (hb:JE X b tb):JT X (.Compare a [.Lt] [b] pos) (wTb (wOp oLt ta tb)):=zgB zrz zfG ha hb (nomark b)
theorem ztV (ha:JE X a ta) (hb:JE X b tb):JE X (.Compare a [.Gt] [b] pos) (wOp oGt ta tb):=zgw zsK zfG ha hb (nomark b)
theorem ziQ (ha:JE X a ta) (hb:JE X b tb):JT X (.Compare a [.Gt] [b] pos) (wTb (wOp oGt ta tb)):=zgB zsK zfG ha hb (nomark b)
theorem zus (ha:JE X a ta) (hb:JE X b tb):JE X (.Compare a [.LtE] [b] pos) (wOp oLe ta tb):=zgw (op_le.or zfL) zlE ha hb (nomark b)
noncomputable def zfu (r r':W2) (a b c:WE):WE:=fun E σ S Q=>a E σ S fun x S1=>b E σ S1 fun y S2=>r x y S2 fun z S3=>match z with
 | .bl true=>c E σ S3 fun u S4=>r' y u S4 Q
 | .bl false=>Q (.bl false) S3
 |_=>False
noncomputable def oIs (neg:Bool):W2
 | .non, .non,S,Q=>Q (.bl (!neg)) S
 | .bl a, .bl b,S,Q=>Q (.bl (if neg then a != b else a == b)) S
 | .bl _, .non,S,Q=>Q (.bl neg) S
 | .int _, .non,S,Q=>Q (.bl neg) S
 | .str _, .non,S,Q=>Q (.bl neg) S
 | .tup _, .non,S,Q=>Q (.bl neg) S
 | .ref _, .non,S,Q=>Q (.bl neg) S
 |_,_,_,_=>False
end
noncomputable def inF (S:Sto) (x:W):List W→Option Bool
 | []=>some false
 |w::ws=>match eqF S 59 w x with
  |some a=>match inF S x ws with
   |some b=>some (a || b)
   |none=>none
  |none=>none
section
variable {X:Cx}{pins:List (Addr×Obj)}{σ:St}{H:Hp}{s:Shared}{S:Sto}
theorem ziP (I:Inv X pins σ H s) (hS:RepS X.K H S):∀(n:Nat) {w w' u:W}{v:V}{b b':Bool},Rep X.K H w v→Rep X.K H w' v→eqF S n w u=some b→eqF S n w' u=some b'→b=b'
 |0,_,_,_,_,_,_,_,_,h,_=>by cases h
 |n+1,w,w',u,v,b,b',r,r',h,h'=>by
  have list:∀{us ws zs:List W}{vs:List V}{b b':Bool},Reps X.K H ws vs→Reps X.K H zs vs→zhE (eqF S n) ws us=some b→zhE (eqF S n) zs us=some b'→b=b':=by
   intro us
   induction us with
   |nil=>
    intro ws zs vs b b' r1 r2 e1 e2;cases r1 with
    |nil=>cases r2;rw [e1]at e2;exact Option.some.inj e2
    |cons _ _=>cases r2 with
     |cons _ _=>have:=Option.some.inj e1;have:=Option.some.inj e2;subst_vars;rfl
   |cons u us ih=>
    intro ws zs vs b b' r1 r2 e1 e2;cases r1 with
    |nil=>cases r2;rw [e1]at e2;exact Option.some.inj e2
    |cons a1 a2=>
     cases r2 with
     |cons c1 c2=>
      unfold zhE at e1 e2;split at e1
      ·rename_i p q f1 f2;split at e2
       ·rename_i p' q' g1 g2;have h1:=ziP I hS n a1 c1 f1 g1;have h2:=ih a2 c2 f2 g2;rw [←Option.some.inj e1,←Option.some.inj e2,h1,h2]
       ·cases e2
      ·cases e1
  have nolist:∀{a:Addr}{vs:List V}{ws:List W},H a=some (.tup vs)→S a=some (.lst ws)→False:=fun f e=>by
   obtain⟨_,g,_⟩:=hS _ _ e;rw [f]at g;cases g
  cases r with
  |non=>cases r';rw [h]at h';exact Option.some.inj h'
  |bl k=>cases r';rw [h]at h';exact Option.some.inj h'
  |int k=>cases r';rw [h]at h';exact Option.some.inj h'
  |str k=>cases r';rw [h]at h';exact Option.some.inj h'
  |scr f=>cases u<;>cases h
  | @tup a vs ws f hs=>
   cases r' with
   | @tup _ us zs g ks=>
    rw [f]at g;cases g;cases u with
    |tup us=>exact list hs ks h h'
    |int _=>have:=Option.some.inj h;have:=Option.some.inj h';subst_vars;rfl
    |_=>cases h
   |scr _=>cases u<;>cases h'
   |ref _=>
    exfalso;cases u with
    |ref c=>
     have h2:(match S a with
      |some (.lst xs)=>match S c with
       |some (.lst ys)=>zhE (eqF S n) xs ys
       |_=>none
      |_=>none)=some b':=h'
     split at h2
     ·exact nolist f ‹_›
     ·cases h2
    |_=>cases h'
  |ref a=>
   cases r' with
   |ref _=>rw [h]at h';exact Option.some.inj h'
   |scr _=>cases u<;>cases h'
   |tup f hs=>
    exfalso;cases u with
    |ref c=>
     have h2:(match S a with
      |some (.lst xs)=>match S c with
       |some (.lst ys)=>zhE (eqF S n) xs ys
       |_=>none
      |_=>none)=some b:=h
     split at h2
     ·exact nolist f ‹_›
     ·cases h2
    |_=>cases h
open Classical in
theorem zjw (I:Inv X pins σ H s) (hS:RepS X.K H S) {A:Around}{ws:List W}{vs:List V}{us:List Value}{wx:W}{x:V}{u:Value}{b:Bool}(hu:A.units+60<cLine) (r:Reps X.K H ws vs) (rv:Vals vs us) (rx:Rep X.K H wx x) (ru:RelV x u) (h:inF S wx ws=some b) :
  ∃e:Value→Bool,(∀y,y∈us.toArray→SeqAt.EqAt A.in1 s y u (e y))∧us.toArray.any e=b:=by
 refine⟨fun y=>decide (∃w v,Rep X.K H w v∧RelV v y∧eqF S 59 w wx=some true),?_,?_⟩
 ·have go:∀{ws:List W}{vs:List V}{us:List Value}{b:Bool},Reps X.K H ws vs→Vals vs us→inF S wx ws=some b→ ∀y∈us,SeqAt.EqAt A.in1 s y u (decide (∃w v,Rep X.K H w v∧RelV v y∧eqF S 59 w wx=some true)):=by
   intro ws
   induction ws with
   |nil=>intro vs us b r rv h y hy;cases r;cases rv;cases hy
   |cons w ws ih=>
    intro vs us b r rv h y hy;cases r with
    |cons r1 r2=>
     cases rv with
     |cons q1 q2=>
      unfold inF at h;split at h
      ·rename_i c e1;split at h
       ·rename_i d e2;rcases List.mem_cons.mp hy with rfl |hy
        ·have ok:=(zjO I hS 59 (A:=A.in1) (by rw [zhD];omega) r1 rx q1 ru e1).1;have ec:c=decide (∃w v,Rep X.K H w v∧RelV v y∧eqF S 59 w wx=some true):=by
          cases c with
          |true=>exact(decide_eq_true ⟨w,_,r1,q1,e1⟩).symm
          |false=>
           symm;refine decide_eq_false fun⟨w',v',r',q',e'⟩=>?_;have:=RelV.inj q' q1;subst this;exact absurd (ziP I hS 59 r1 r' e1 e') (by simp)
         rw [←ec];exact ok
        ·exact ih r2 q2 e2 y hy
       ·cases h
      ·cases h
  intro y hy;exact go r rv h y (by simpa using hy)
 ·have go:∀{ws:List W}{vs:List V}{us:List Value}{b:Bool},Reps X.K H ws vs→Vals vs us→inF S wx ws=some b→us.any (fun y=>decide (∃w v,Rep X.K H w v∧RelV v y∧eqF S 59 w wx=some true))=b:=by
   intro ws
   induction ws with
   |nil=>intro vs us b r rv h;cases r;cases rv;exact Option.some.inj h
   |cons w ws ih=>
    intro vs us b r rv h;cases r with
    |cons r1 r2=>
     cases rv with
     | @cons _ _ _ _ q1 q2=>
      rename_i y _;unfold inF at h;split at h
      ·rename_i c e1;split at h
       ·rename_i d e2;have ec:decide (∃w v,Rep X.K H w v∧RelV v y∧eqF S 59 w wx=some true)=c:=by
          cases c with
          |true=>exact decide_eq_true ⟨w,_,r1,q1,e1⟩
          |false=>
           refine decide_eq_false fun⟨w',v',r',q',e'⟩=>?_;have:=RelV.inj q' q1;subst this;exact absurd (ziP I hS 59 r1 r' e1 e') (by simp)
        rw [List.any_cons,ih r2 q2 e2,ec];exact Option.some.inj h
       ·cases h
      ·cases h
  have:=go r rv h;simpa using this
end
noncomputable def oIn (neg:Bool):W2:=fun x y S Q=>match y with
 | .str j=>match x with
  | .str i=>Q (.bl (if neg then !(!(Builtin.Str.occurrences j i 0 j.length 1).isEmpty) else !(Builtin.Str.occurrences j i 0 j.length 1).isEmpty)) S
  |_=>False
 | .tup ws=>match inF S x ws with
  |some b=>Q (.bl (if neg then !b else b)) S
  |none=>False
 | .ref a=>zcM S a fun ws=>match inF S x ws with
  |some b=>Q (.bl (if neg then !b else b)) S
  |none=>False
 |_=>False
noncomputable def zuo (K:PySem.W.Frag) (neg:Bool):R2:=fun x y H Q=>∃wx ws vs S p b,y= .ref p∧(SqL K H p vs∨SqT K H p vs)∧Reps K H ws vs∧Rep K H wx x∧RepS K H S∧inF S wx ws=some b∧Q (.bl (if neg then !b else b)) H
section
variable {X:Cx}{a b:Expr}{pos:Pos}{ta tb:WE}
theorem zoF (hu:X.A.units+60<cLine):OpR X (compareOp .In) (zuo X.K false):=by
 intro pins s σ H x y v u Q I rx ry h;obtain⟨wx,ws,vs,S,p,b,rfl,hq,rs,r,hS,e,q⟩:=h;cases ry;rcases hq with hq |hq
 ·obtain⟨its,rv,p,_⟩:=I.list hq;obtain⟨f,h1,h2⟩:=zjw I hS hu rs rv r rx e;exact SeqAt.in_listAt f p.isList h1 (by rw [h2];exact⟨.bl b,H,I,rfl,q⟩)
 ·obtain⟨its,rv,p,_⟩:=I.tuple hq;obtain⟨f,h1,h2⟩:=zjw I hS hu rs rv r rx e;exact SeqAt.in_tupleAt f p h1 (by rw [h2];exact⟨.bl b,H,I,rfl,q⟩)
theorem zlG (hu:X.A.units+60<cLine):OpR X (compareOp .NotIn) (zuo X.K true):=by
 intro pins s σ H x y v u Q I rx ry h;obtain⟨wx,ws,vs,S,p,b,rfl,hq,rs,r,hS,e,q⟩:=h;cases ry;rcases hq with hq |hq
 ·obtain⟨its,rv,p,_⟩:=I.list hq;obtain⟨f,h1,h2⟩:=zjw I hS hu rs rv r rx e;exact SeqAt.notIn_listAt f p.isList h1 (by rw [h2];exact⟨.bl (!b),H,I,rfl,q⟩)
 ·obtain⟨its,rv,p,_⟩:=I.tuple hq;obtain⟨f,h1,h2⟩:=zjw I hS hu rs rv r rx e;exact SeqAt.notIn_tupleAt f p h1 (by rw [h2];exact⟨.bl (!b),H,I,rfl,q⟩)
theorem zfo{K:PySem.W.Frag}{neg:Bool}{H:Hp}{x y:V}{wx wy:W}{S:Sto}{Q:VK}{QW:WK}(rx:Rep K H wx x) (ry:Rep K H wy y) (hS:RepS K H S) (h:oIn neg wx wy S QW) (hQ:Wish K H S QW Q) :
  (∃i j,x= .str i∧y= .str j∧Q (.bl (if neg then !(!(Builtin.Str.occurrences j i 0 j.length 1).isEmpty) else !(Builtin.Str.occurrences j i 0 j.length 1).isEmpty)) H)∨zuo K neg x y H Q:=by
 cases ry with
 |str j=>
  cases rx with
  |str i=>exact .inl ⟨i,j,rfl,rfl,hQ _ S _ H .refl (.bl _) hS h⟩
  |_=>exact h.elim
 |tup f hs=>
  refine .inr ?_;unfold oIn at h;dsimp only at h;split at h
  ·exact⟨wx,_,_,S,_,_,rfl, .inr (.of f),hs,rx,hS, ‹_›,hQ _ S _ H .refl (.bl _) hS h⟩
  ·exact h.elim
 |ref a=>
  refine .inr ?_;obtain⟨ws,e,h⟩:=zbO h;obtain⟨vs,f,hs⟩:=hS a _ e;split at h
  ·exact⟨wx,_,_,S,_,_,rfl, .inl (.of f),hs,rx,hS, ‹_›,hQ _ S _ H .refl (.bl _) hS h⟩
  ·exact h.elim
 |_=>exact h.elim
theorem zrO{k:Nat}(hr:Room k X.A) (ha:JE X a ta) (hb:JE X b tb) (hm:behindInMarks .In b=false:=by with_unfolding_all rfl):JE X (.Compare a [.In] [b] pos) (wOp (oIn false) ta tb):=
 zgw (op_in_str.or (zoF (by have:=hr.units;omega))) (fun H x y wx wy S Q QW rx ry hS h hQ=>zfo rx ry hS h hQ) ha hb hm
theorem zup{k:Nat}(hr:Room k X.A) (ha:JE X a ta) (hb:JE X b tb) (hm:behindInMarks .In b=false:=by with_unfolding_all rfl):JT X (.Compare a [.In] [b] pos) (wTb (wOp (oIn false) ta tb)):=
 zgB (op_in_str.or (zoF (by have:=hr.units;omega))) (fun H x y wx wy S Q QW rx ry hS h hQ=>zfo rx ry hS h hQ) ha hb hm
theorem zjt{k:Nat}(hr:Room k X.A) (ha:JE X a ta) (hb:JE X b tb) (hm:behindInMarks .NotIn b=false:=by with_unfolding_all rfl):JT X (.Compare a [.NotIn] [b] pos) (wTb (wOp (oIn true) ta tb)):=
 zgB (op_notin_str.or (zlG (by have:=hr.units;omega))) (fun H x y wx wy S Q QW rx ry hS h hQ=>zfo rx ry hS h hQ) ha hb hm
end
noncomputable def oIx:W2:=fun x y S Q=>match y with
 | .int i=>match x with
  | .tup ws=>match atI ws i with
   |some w=>Q w S
   |none=>False
  | .ref a=>zcM S a fun ws=>match atI ws i with
   |some w=>Q w S
   |none=>False
  | .scr ns=>match atI ns i with
   |some n=>Q (.int n) S
   |none=>False
  | .str x=>x.length≤sizeLine∧match atI x.cps.toList i with
   |some c=>Q (.str ⟨#[c]⟩) S
   |none=>False
  |_=>False
 |_=>False
theorem ziJ{K:PySem.W.Frag}{H:Hp}{ws:List W}{vs:List V}{i:Int}{w:W}(r:Reps K H ws vs) (e:atI ws i=some w):∃v,atI vs i=some v∧Rep K H w v:=by
 unfold atI at e⊢;rw [←r.length];cases q:ixN ws.length i with
 |none=>rw [q]at e;cases e
 |some j=>rw [q]at e;exact r.get e
theorem zpK{α β:Type}{f:α→β}{xs:List α}{i:Int}{x:α}(e:atI xs i=some x):atI (xs.map f) i=some (f x):=by
 unfold atI at e⊢;rw [List.length_map];cases q:ixN xs.length i with
 |none=>rw [q]at e;cases e
 |some j=>
  rw [q]at e;show(xs.map f)[j]? =_;rw [List.getElem?_map,show xs[j]? =some x from e];rfl
theorem zrD{K:PySem.W.Frag}:OpW K (rIx K) oIx:=fun H x y wx wy S Q QW rx ry hS h hQ=>by
 cases ry with
 |int i=>
  cases rx with
  |tup f hs=>
   unfold oIx at h;dsimp only at h;split at h
   ·obtain⟨v,ev,r⟩:=ziJ hs ‹_›;exact .inr (.inl ⟨_,_,i,v,rfl,rfl, .of f,ev,hQ _ S _ H .refl r hS h⟩)
   ·exact h.elim
  |ref a=>
   obtain⟨ws,e,h⟩:=zbO h;obtain⟨vs,f,hs⟩:=hS a _ e;split at h
   ·obtain⟨v,ev,r⟩:=ziJ hs ‹_›;exact .inl ⟨_,_,i,v,rfl,rfl, .of f,ev,hQ _ S _ H .refl r hS h⟩
   ·exact h.elim
  |scr f=>
   unfold oIx at h;dsimp only at h;split at h
   ·exact .inl ⟨_,_,i,_,rfl,rfl,f.sq,zpK ‹_›,hQ _ S _ H .refl (.int _) hS h⟩
   ·exact h.elim
  |str z=>
   unfold oIx at h;dsimp only at h;obtain⟨hz,h⟩:=h;split at h
   ·exact .inr (.inr ⟨z,i,_,rfl,rfl,hz, ‹_›,hQ _ S _ H .refl (.str _) hS h⟩)
   ·exact h.elim
  |_=>exact h.elim
 |_=>exact h.elim
section
variable {X:Cx}{a b e:Expr}{pos p2:Pos}{ta tb te:WE}{lo hi:Option Expr}
theorem zaG (ha:JE X a ta) (hb:JE X b tb) (hs:ziL b:=by intro _ _;rfl):JE X (.Subscript a b pos) (wOp oIx ta tb):=fun E hE=>
 (zrq zoH (ha E hE) (hb E hE) hs).mono fun σ H Q h=>zfJ h fun H2 x y wx wy S QW rx ry hS q hQ=>zrD H2 x y wx wy S Q QW rx ry hS q hQ
noncomputable abbrev WO:=WX→WSt→Sto→(Option Int→Sto→Prop)→Prop
noncomputable def zur (K:PySem.W.Frag) (t:WSt→Sto→(Option Int→Sto→Prop)→Prop):TO:=fun σ H Q=>∃σW S QW,RpSt K H σW σ∧RepS K H S∧t σW S QW∧ ∀b S' H',Ext H S H' S'→RepS K H' S'→QW b S'→Q b H'
noncomputable def JO (X:Cx) (e:Option Expr) (t:WO):Prop:=∀E,Hook X E→PO X e (zur X.K (t E))
noncomputable def woN:WO:=fun _ _ S Q=>Q none S
noncomputable def woS (t:WE):WO:=fun E σ S Q=>t E σ S fun w S1=>match w with
 | .int i=>Q (some i) S1
 |_=>False
theorem PO.mono{X:Cx}{e:Option Expr}{t t':TO}(h:PO X e t) (q:∀σ H Q,t' σ H Q→t σ H Q):PO X e t':=fun pins s σ H Q I z=>h pins s σ H Q I (q σ H Q z)
theorem zaB:JO X none woN:=fun E hE=>po_none.mono fun σ H Q ⟨σW,S,QW,hσ,hS,ht,hQ⟩=>hQ none S H .refl hS ht
theorem zaq (h:JE X e te):JO X (some e) (woS te):=fun E hE=>(zpR (h E hE)).mono fun σ H Q ⟨σW,S,QW,hσ,hS,ht,hQ⟩=>⟨σW,S,_,hσ,hS,ht,fun w S1 v H1 e1 r1 hS1 h1=>by
 cases r1 with
 |int i=>exact⟨i,rfl,hQ _ S1 H1 e1 hS1 h1⟩
 |_=>exact h1.elim⟩
noncomputable def zdr {α:Type}(xs:List α) (lo hi:Option Int):List α:=(xs.drop (HT.sIx xs.length 0 lo)).take (HT.sIx xs.length xs.length hi - HT.sIx xs.length 0 lo)
theorem zhn{K:PySem.W.Frag}{H:Hp}{ws:List W}{vs:List V}{lo hi:Option Int}(r:Reps K H ws vs):Reps K H (zdr ws lo hi) (zmH vs lo hi):=by
 unfold zdr zmH;rw [r.length];exact(r.drop _).take _
theorem zjT{α β:Type}{f:α→β}{xs:List α}{lo hi:Option Int}:zdr (xs.map f) lo hi=(zdr xs lo hi).map f:=by
 unfold zdr;rw [List.length_map,List.map_take,List.map_drop]
theorem zeS{prog:Program}{w:World}{A:Around}{E:Value→Shared→Prop}{s:Shared}{t sl:Addr}{items:Array Value}{vl vu:Value}{lo hi:Option Int}{Q:Value→Shared→Prop}(ht:IsTup s.heap t items) (hs:s.heap.IsSliceOf sl vl vu .none) (pl:IsPart vl lo) (pu:IsPart vu hi)
  (hw:HT.sIx items.size 0 lo=0∧HT.sIx items.size items.size hi=items.size) (h:Q (.ref t) s):wpAny (model prog w) A (getItem (.ref t) (.ref sl)) Q E s:=by
 obtain⟨os,hos,hcs,hds⟩:=id hs;have hTs:s.TypeIs (.ref sl) "slice" :=⟨os,hos,hcs⟩;unfold getItem
 try with_reducible refine wpAny_holding ?_
 first |refine wpAny_bind (wpAny_pure ?_) |skip
 refine wpAny_bind (wpAny_sequenceKey ht.typeIs (by decide) ?_);refine wpAny_bind (wpAny_callSpecial?_slot (name:=Str.ofString "__getitem__") ht.typeIs PyProof.Rows.slot_tuple_getitem
  (wpAny_call_entry PyProof.Rows.slot_tuple_getitem ht.typeIs entry_tuple_getitem ?_ (args_tuple_getitem _ _)))
 show wpAny _ _ (Builtin.Tuple.tupleItemsOf (.ref t) >>= _) _ _ s;refine wpAny_bind (tupleItemsOf_ ht ?_);refine wpAny_bind (wpAny_typeOf hTs ?_);rw [if_pos (by decide)];refine wpAny_bind (HT.sliceApplied_gen hs pl pu ?_);show wpAny _ _ (if(((HT.sIx items.size 0 lo:Nat):Int) == 0&&(1:Int) == 1&&(HT.sIx items.size items.size hi - HT.sIx items.size 0 lo) == items.size)=true then _ else _) _ _ s;rw [hw.1,hw.2,if_pos (by simp)];unfold Builtin.Tuple.tupleIsExact;refine wpAny_bind (wpAny_bind (wpAny_typeOf ht.typeIs (wpAny_pure ?_)));rw [if_pos (by decide)];exact wpAny_bind (wpAny_rule (wpAny_pure ⟨_,rfl,wpAny_pure h⟩))
theorem sl_tupW:SlR X (fun x lo hi H Q=>∃a xs,x= .ref a∧SqT X.K H a xs∧((HT.sIx xs.length 0 lo=0∧HT.sIx xs.length xs.length hi=xs.length)∧Q (.ref a) H∨ ¬(HT.sIx xs.length 0 lo=0∧HT.sIx xs.length xs.length hi=xs.length)∧ ∀p,H p=none→Q (.ref p) (upd H p (.tup (zmH xs lo hi))))):=by
 intro pins s σ H x v vl vu lo hi sl Q I rx hs pl pu h;obtain⟨a,xs,rfl,hx,⟨hw,q⟩ |⟨hw,q⟩⟩:=h
 ·cases rx;obtain⟨its,r,ht,hz⟩:=I.tuple hx;have hlen:its.toArray.size=xs.length:=by rw [List.size_toArray];exact r.length.symm
  refine⟨"tuple",_,PyProof.Rows.slot_tuple_getitem.lookup,ht.typeIs,?_⟩;exact zeS ht hs pl pu (by rw [hlen];exact hw) ⟨.ref a,H,I,rfl,q⟩
 ·exact zsR pins s σ H _ v vl vu lo hi sl Q I rx hs pl pu ⟨a,xs,rfl,hx,hw,q⟩
noncomputable def oSl:W→Option Int→Option Int→Sto→WK→Prop
 | .tup ws,lo,hi,S,Q=>Q (.tup (zdr ws lo hi)) S
 | .str z,lo,hi,S,Q=>z.length≤sizeLine∧Q (.str (Txt.slice z lo hi)) S
 | .ref a,lo,hi,S,Q=>zcM S a fun ws=>∀p,S p=none→Q (.ref p) (put S p (.lst (zdr ws lo hi)))
 | .scr ns,lo,hi,S,Q=>∀p,S p=none→Q (.ref p) (put S p (.lst ((zdr ns lo hi).map W.int)))
 |_,_,_,_,_=>False
noncomputable def wSl (t:WE) (l h:WO):WE:=fun E σ S Q=>t E σ S fun x S1=>l E σ S1 fun lo S2=>h E σ S2 fun hi S3=>oSl x lo hi S3 Q
theorem zkl{α:Type}{xs:List α}{lo hi:Option Int}(h:HT.sIx xs.length 0 lo=0∧HT.sIx xs.length xs.length hi=xs.length):zdr xs lo hi=xs:=by
 unfold zdr;rw [h.1,h.2,List.drop_zero,Nat.sub_zero,List.take_length]
theorem zbJ{tl th:WO}(he:JE X e te) (hl:JO X lo tl) (hh:JO X hi th):JE X (.Subscript e (.Slice lo hi none p2) pos) (wSl te tl th):=fun E hE=>
 (zjM (sl_tupW.or (sl_str.or zmk)) (he E hE) (hl E hE) (hh E hE)).mono fun σ H Q ⟨σW,S,QW,hσ,hS,ht,hQ⟩=>
  ⟨σW,S,_,hσ,hS,ht,fun w S1 v H1 e1 r1 hS1 h1=>⟨σW,S1,_,hσ.ext e1,hS1,h1,fun lo S2 H2 e2 hS2 h2=>⟨σW,S2,_,(hσ.ext e1).ext e2,hS2,h2,fun hi S3 H3 e3 hS3 h3=>by
   have hQ':=hQ.from (e1.trans (e2.trans e3));have r3:=(r1.ext e2).ext e3;cases r3 with
   | @tup a vs ws f hs=>
    refine .inl ⟨a,vs,rfl, .of f,?_⟩;by_cases hw:HT.sIx vs.length 0 lo=0∧HT.sIx vs.length vs.length hi=vs.length
    ·refine .inl ⟨hw,hQ' (.tup ws) S3 _ H3 .refl (.tup f hs) hS3 ?_⟩;have:=zkl (xs:=ws) (lo:=lo) (hi:=hi) (by rw [hs.length];exact hw);have h3':QW (.tup (zdr ws lo hi)) S3:=h3;rw [this]at h3';exact h3'
    ·exact .inr ⟨hw,fun p hp=>hQ' _ S3 _ _ (.new hp) (.tup zaz ((zhn hs).ext (.new (S:=S3) hp))) (hS3.new hp) h3⟩
   |str z=>exact .inr (.inl ⟨z,rfl,h3.1,hQ' _ S3 _ H3 .refl (.str _) hS3 h3.2⟩)
   |ref a=>
    obtain⟨ws,ea,h⟩:=zbO h3;obtain⟨vs,f,hs⟩:=hS3 a _ ea;exact .inr (.inr ⟨a,vs,rfl, .of f,fun p hp=>hQ' _ _ _ _ (.newS hp) (.ref p) (hS3.put_lst hp ((zhn hs).ext (.new (S:=S3) hp))) (h p (hS3.free hp))⟩)
   | @scr a ns f=>
    refine .inr (.inr ⟨a,_,rfl,f.sq,fun p hp=>hQ' _ _ _ _ (.newS hp) (.ref p) (hS3.put_lst hp ?_) (h3 p (hS3.free hp))⟩);have q:zmH (ns.map V.int) lo hi=(zdr ns lo hi).map V.int:=zjT;rw [q];exact Reps.ofInts _
   |_=>exact h3.elim⟩⟩⟩
noncomputable def zst (t:WE) (l h:WO):WL:=fun E σ S Q=>t E σ S fun x S1=>l E σ S1 fun lo S2=>h E σ S2 fun hi S3=>match x with
 | .ref a=>zcM S3 a fun ws=>Q (zdr ws lo hi) S3
 | .scr ns=>Q ((zdr ns lo hi).map W.int) S3
 |_=>False
theorem zpU{tl th:WO}(he:JE X e te) (hl:JO X lo tl) (hh:JO X hi th):JL X (.Subscript e (.Slice lo hi none p2) pos) (zst te tl th):=fun E hE=>
 (zjM zmk (he E hE) (hl E hE) (hh E hE)).mono fun σ H Q ⟨σW,S,QW,hσ,hS,ht,hQ⟩=>
  ⟨σW,S,_,hσ,hS,ht,fun w S1 v H1 e1 r1 hS1 h1=>⟨σW,S1,_,hσ.ext e1,hS1,h1,fun lo S2 H2 e2 hS2 h2=>⟨σW,S2,_,(hσ.ext e1).ext e2,hS2,h2,fun hi S3 H3 e3 hS3 h3=>by
   have e':=e1.trans (e2.trans e3);have r3:=(r1.ext e2).ext e3;cases r3 with
   |ref a=>
    obtain⟨ws,ea,h⟩:=zbO h3;obtain⟨vs,f,hs⟩:=hS3 a _ ea;exact⟨a,vs,rfl, .of f,fun p hp=>hQ _ S3 _ p _ (e'.trans (.new hp)) (e'.free hp) zaz (hS3.free hp) ((zhn hs).ext (.new (S:=S3) hp)) (hS3.new hp) h⟩
   | @scr a ns f=>
    refine⟨a,_,rfl,f.sq,fun p hp=>hQ _ S3 _ p _ (e'.trans (.new hp)) (e'.free hp) zaz (hS3.free hp) ?_ (hS3.new hp) h3⟩;have q:zmH (ns.map V.int) lo hi=(zdr ns lo hi).map V.int:=zjT;rw [q];exact Reps.ofInts _
   |_=>exact h3.elim⟩⟩⟩
end
noncomputable abbrev WF:=List W→Sto→WK→Prop
noncomputable def wB (f:WF) (t:WA):WE:=fun E σ S Q=>t E σ S fun ws S1=>f ws S1 Q
noncomputable def zjq (K:PySem.W.Frag) (r:List V→Hp→VK→Prop) (f:WF):Prop:=∀H vs ws S (Q:VK) (QW:WK),Reps K H ws vs→RepS K H S→f ws S QW→Wish K H S QW Q→r vs H Q
noncomputable def wBL (f:WF) (t:WL):WE:=fun E σ S Q=>t E σ S fun ws S1=>f ws S1 Q
noncomputable def zmT (K:PySem.W.Frag) (r:List V→Hp→VK→Prop) (f:WF):Prop:=∀H a vs ws S (Q:VK) (QW:WK),H a=some (.lst vs)→S a=none→Reps K H ws vs→RepS K H S→f ws S QW→Wish K H S QW Q→r [.ref a] H Q
section
variable {X:Cx}{x:Str}{p pos:Pos}{e:Expr}{es:List Expr}{t:WA}{tl:WL}{id T:String}{r:List V→Hp→VK→Prop}{f:WF}
theorem zqV (hc:CallR X (.builtin id) r) (hw:zjq X.K r f) (hg:Gl X x) (hm:X.mg x=none) (hv:bootBuiltins x=some (.builtin id)) (ha:JA X (e::es) t) (hn:x≠ "__name__" :=by decide) (hdb:(x == ("__debug__" :Str))=false:=by decide)
  (he:starEach (e::es) X.env=(false,eval e X.env)::starEach es X.env:=by rfl) (hpl:(backTo pos (starEach es X.env)).any (·.1)=false:=by rfl):JE X (.Call (.Name x p) (e::es) [] pos) (wB f t):=fun E hE=>
 (zfj hc hg hm hv (ha E hE) hn hdb he hpl).mono fun σ H Q ⟨σW,S,QW,hσ,hS,ht,hQ⟩=>⟨σW,S,_,hσ,hS,ht,fun ws S1 vs H1 e1 r1 hS1 h1=>hw H1 vs ws S1 Q QW r1 hS1 h1 (hQ.from e1)⟩
theorem zob (hc:CallR X (.type T) r) (hw:zjq X.K r f) (hg:Gl X x) (hm:X.mg x=none) (hv:bootBuiltins x=some (.type T)) (ha:JA X (e::es) t) (hn:x≠ "__name__" :=by decide) (hdb:(x == ("__debug__" :Str))=false:=by decide)
  (he:starEach (e::es) X.env=(false,eval e X.env)::starEach es X.env:=by rfl) (hpl:(backTo pos (starEach es X.env)).any (·.1)=false:=by rfl):JE X (.Call (.Name x p) (e::es) [] pos) (wB f t):=fun E hE=>
 (zhQ hc hg hm hv (ha E hE) hn hdb he hpl).mono fun σ H Q ⟨σW,S,QW,hσ,hS,ht,hQ⟩=>⟨σW,S,_,hσ,hS,ht,fun ws S1 vs H1 e1 r1 hS1 h1=>hw H1 vs ws S1 Q QW r1 hS1 h1 (hQ.from e1)⟩
theorem zqq (hc:CallR X (.builtin id) r) (hw:zmT X.K r f) (hg:Gl X x) (hm:X.mg x=none) (hv:bootBuiltins x=some (.builtin id)) (ha:JL X e tl) (hn:x≠ "__name__" :=by decide) (hdb:(x == ("__debug__" :Str))=false:=by decide)
  (he:starEach [e] X.env=(false,eval e X.env)::starEach [] X.env:=by rfl) (hpl:(backTo pos (starEach [] X.env)).any (·.1)=false:=by rfl):JE X (.Call (.Name x p) [e] [] pos) (wBL f tl):=fun E hE=>
 (zfj hc hg hm hv (zdC (ha E hE) pa_nil he) hn hdb he hpl).mono fun σ H Q ⟨σW,S,QW,hσ,hS,ht,hQ⟩=>⟨σW,S,_,hσ,hS,ht,fun ws S1 vs a H1 e1 fa ea na r1 hS1 h1=>hw H1 a vs ws S1 Q QW ea na r1 hS1 h1 (hQ.from e1)⟩
theorem ztb (hc:CallR X (.type T) r) (hw:zmT X.K r f) (hg:Gl X x) (hm:X.mg x=none) (hv:bootBuiltins x=some (.type T)) (ha:JL X e tl) (hn:x≠ "__name__" :=by decide) (hdb:(x == ("__debug__" :Str))=false:=by decide)
  (he:starEach [e] X.env=(false,eval e X.env)::starEach [] X.env:=by rfl) (hpl:(backTo pos (starEach [] X.env)).any (·.1)=false:=by rfl):JE X (.Call (.Name x p) [e] [] pos) (wBL f tl):=fun E hE=>
 (zhQ hc hg hm hv (zdC (ha E hE) pa_nil he) hn hdb he hpl).mono fun σ H Q ⟨σW,S,QW,hσ,hS,ht,hQ⟩=>⟨σW,S,_,hσ,hS,ht,fun ws S1 vs a H1 e1 fa ea na r1 hS1 h1=>hw H1 a vs ws S1 Q QW ea na r1 hS1 h1 (hQ.from e1)⟩
noncomputable def zdZ:WF:=fun ws S Q=>match ws with
 | [.tup us]=>Q (.int us.length) S
 | [.ref a]=>zcM S a fun us=>Q (.int us.length) S
 | [.scr ns]=>Q (.int ns.length) S
 | [.str z]=>z.length≤sizeLine∧Q (.int z.length) S
 |_=>False
theorem zlo{K:PySem.W.Frag}:zjq K (fun xs H Q=>(∃p ys,xs=[.ref p]∧(SqL K H p ys∨SqT K H p ys)∧Q (.int ys.length) H)∨ ∃z,xs=[.str z]∧z.length≤sizeLine∧Q (.int z.length) H) zdZ:=fun H vs ws S Q QW r hS h hQ=>by
 cases r with
 |nil=>exact h.elim
 |cons r1 r2=>
  cases r2 with
  |cons _ _=>cases r1<;>exact h.elim
  |nil=>
   cases r1 with
   |tup f hs=>exact .inl ⟨_,_,rfl, .inr (.of f),by rw [←hs.length];exact hQ _ S _ H .refl (.int _) hS h⟩
   |ref a=>
    obtain⟨us,e,h⟩:=zbO h;obtain⟨vs,f,hs⟩:=hS a _ e;exact .inl ⟨_,_,rfl, .inl (.of f),by rw [←hs.length];exact hQ _ S _ H .refl (.int _) hS h⟩
   |scr f=>exact .inl ⟨_,_,rfl, .inl f.sq,by rw [List.length_map];exact hQ _ S _ H .refl (.int _) hS h⟩
   |str z=>exact .inr ⟨z,rfl,h.1,hQ _ S _ H .refl (.int _) hS h.2⟩
   |_=>exact h.elim
theorem zaJ (hg:Gl X "len") (hm:X.mg "len" =none) (ha:JA X (e::es) t) 
  (he:starEach (e::es) X.env=(false,eval e X.env)::starEach es X.env:=by rfl) (hpl:(backTo pos (starEach es X.env)).any (·.1)=false:=by rfl):JE X (.Call (.Name "len" p) (e::es) [] pos) (wB zdZ t):=
 zqV (call_len_seq.or zhw) zlo hg hm PySem.boot_len ha (by decide) (by decide) he hpl
noncomputable def ziu:WF:=fun ws S Q=>match ws with
 | [.tup us]=>Q (.tup us) S
 | [.ref a]=>zcM S a fun us=>Q (.tup us) S
 |_=>False
theorem ziE{K:PySem.W.Frag}:zjq K (fun xs H Q=>∃p ys,xs=[.ref p]∧((SqL K H p ys∧ ∀l,H l=none→Q (.ref l) (upd H l (.tup ys)))∨(SqT K H p ys∧Q (.ref p) H))) ziu:=fun H vs ws S Q QW r hS h hQ=>by
 cases r with
 |nil=>exact h.elim
 |cons r1 r2=>
  cases r2 with
  |cons _ _=>cases r1<;>exact h.elim
  |nil=>
   cases r1 with
   |tup f hs=>exact⟨_,_,rfl, .inr ⟨.of f,hQ _ S _ H .refl (.tup f hs) hS h⟩⟩
   |ref a=>
    obtain⟨us,e,h⟩:=zbO h;obtain⟨vs,f,hs⟩:=hS a _ e;exact⟨_,_,rfl, .inl ⟨.of f,fun l hl=>hQ _ S _ _ (.new hl) (.tup zaz (hs.ext (.new (S:=S) hl))) (hS.new hl) h⟩⟩
   |_=>exact h.elim
noncomputable def zgX:WF:=fun ws S Q=>Q (.tup ws) S
theorem zjp{K:PySem.W.Frag}:zmT K (fun xs H Q=>∃p ys,xs=[.ref p]∧((SqL K H p ys∧ ∀l,H l=none→Q (.ref l) (upd H l (.tup ys)))∨(SqT K H p ys∧Q (.ref p) H))) zgX:=fun H a vs ws S Q QW ea na r hS h hQ=>
 ⟨a,vs,rfl, .inl ⟨.of ea,fun l hl=>hQ _ S _ _ (.new hl) (.tup zaz (r.ext (.new (S:=S) hl))) (hS.new hl) h⟩⟩
noncomputable def ziq:List W→Option (List Bool)
 | []=>some []
 | .bl b::ws=>(ziq ws).map (b:: ·)
 |_=>none
theorem zmt{K:PySem.W.Frag}{H:Hp}:∀{ws:List W}{vs:List V}{bs:List Bool},Reps K H ws vs→ziq ws=some bs→vs=bs.map V.bl
 | [],_,_, .nil,e=>by have:=Option.some.inj e;subst this;rfl
 |w::ws,_,_, .cons r rs,e=>by
  cases r with
  |bl b=>
   have e':(ziq ws).map (b:: ·)=some _:=e;cases q:ziq ws with
   |none=>rw [q]at e';cases e'
   |some cs=>
    rw [q]at e';have:=Option.some.inj e';subst this;rw [List.map_cons,zmt rs q]
  |_=>cases e
noncomputable def zio:WF:=fun ws S Q=>match ziq ws with
 |some bs=>Q (.bl (bs.all _root_.id)) S
 |none=>False
theorem zlv{K:PySem.W.Frag}:zmT K (fun xs H Q=>∃(p:Addr) (bs:List Bool),xs=[.ref p]∧SqL K H p (bs.map V.bl)∧Q (.bl (bs.all _root_.id)) H) zio:=fun H a vs ws S Q QW ea na r hS h hQ=>by
 unfold zio at h;split at h
 ·rename_i bs e;have:=zmt r e;subst this;exact⟨a,bs,rfl, .of ea,hQ _ S _ H .refl (.bl _) hS h⟩
 ·exact h.elim
noncomputable def tyW:W→Sto→(String→Prop)→Prop
 | .non,_,Q=>Q "NoneType"
 | .bl _,_,Q=>Q "bool"
 | .int _,_,Q=>Q "int"
 | .str _,_,Q=>Q "str"
 | .tup _,_,Q=>Q "tuple"
 | .ref a,S,Q=>zcM S a fun _=>Q "list"
 | .scr _,_,_=>False
noncomputable def zbv (A B:String):Bool:=A == B || (A == "bool" &&B == "int")
noncomputable def zkI (T:String) (t:WE):WE:=fun E σ S Q=>t E σ S fun w S1=>tyW w S1 fun A=>Q (.bl (zbv A T)) S1
theorem zeH{a:Expr}{ta:WE}{p2:Pos}{T:Str}{T':String}(hg:Gl X "isinstance") (hm:X.mg "isinstance" =none) (hgT:Gl X T) (hmT:X.mg T=none) (hv:bootBuiltins T=some (.type T')) (ha:JE X a ta) (hn:T≠ "__name__") (hd:(T == ("__debug__" :Str))=false)
  (hk:∀A∈ ["NoneType", "bool", "int", "str", "tuple", "list"],PySem.W.kitOne X.K (.type A) (.type T')=some (zbv A T'))
  (he:starEach [a, .Name T p2] X.env=(false,eval a X.env)::starEach [.Name T p2] X.env:=by rfl) (he2:starEach [.Name T p2] X.env=(false,eval (.Name T p2) X.env)::starEach [] X.env:=by rfl) (hpl:(backTo pos (starEach [.Name T p2] X.env)).any (·.1)=false:=by rfl) :
  JE X (.Call (.Name "isinstance" p) [a, .Name T p2] [] pos) (zkI T' ta):=fun E hE=>
 (zfj znN hg hm PyProof.Rows.boot_isinstance (zdC (ha E hE) (zdC (zlW (v:= .ty T') hgT hmT hv rfl hn hd) pa_nil he2) he) (by decide) (by decide) he hpl).mono fun σ H Q ⟨σW,S,QW,hσ,hS,ht,hQ⟩=>⟨σW,S,_,hσ,hS,ht,fun w S1 v H1 e1 r1 hS1 h1=>by
  have fin:∀{t:Value}(A:String),t= .type A→A∈ ["NoneType", "bool", "int", "str", "tuple", "list"]→TyOf X.K H1 v t→QW (.bl (zbv A T')) S1→ ∃x t c b,[v,V.ty T']=[x, .ty c]∧TyOf X.K H1 x t∧PySem.W.kitOne X.K t (.type c)=some b∧Q (.bl b) H1:=fun A e hA ty q=>by
   subst e;exact⟨v,_,T',_,rfl,ty,hk A hA,hQ _ S1 _ H1 e1 (.bl _) hS1 q⟩
  cases r1 with
  |non=>exact fin _ rfl (by simp) .non h1
  |bl b=>exact fin _ rfl (by simp) (.bl b) h1
  |int i=>exact fin _ rfl (by simp) (.int i) h1
  |str z=>exact fin _ rfl (by simp) (.str z) h1
  |tup f hs=>exact fin _ rfl (by simp) (.tup f) h1
  |ref a=>
   obtain⟨ws,ea,h⟩:=zbO h1;obtain⟨vs,f,hs⟩:=hS1 a _ ea;exact fin _ rfl (by simp) (.lst f) h
  |scr f=>exact h1.elim⟩
end
noncomputable abbrev WMf:=W→List W→Sto→WK→Prop
noncomputable def rvL:W→Sto→Prop
 | .ref a,S=>zcM S a fun _=>True
 |_,_=>False
noncomputable def rvS:W→Sto→Prop
 | .str _,_=>True
 |_,_=>False
noncomputable def wM (rv:W→Sto→Prop) (f:WMf) (to:WE) (t:WA):WE:=fun E σ S Q=>to E σ S fun w S1=>rv w S1∧t E σ S1 fun ws S2=>f w ws S2 Q
noncomputable def wML (rv:W→Sto→Prop) (f:WMf) (to:WE) (t:WL):WE:=fun E σ S Q=>to E σ S fun w S1=>rv w S1∧t E σ S1 fun ws S2=>f w ws S2 Q
noncomputable def MtW (K:PySem.W.Frag) (r:V→List V→Hp→VK→Prop) (f:WMf):Prop:=∀H x w vs ws S (Q:VK) (QW:WK),Rep K H w x→Reps K H ws vs→RepS K H S→f w ws S QW→Wish K H S QW Q→r x vs H Q
noncomputable def MtL (K:PySem.W.Frag) (r:V→List V→Hp→VK→Prop) (f:WMf):Prop:=∀H x w a vs ws S (Q:VK) (QW:WK),Rep K H w x→H a=some (.lst vs)→S a=none→Reps K H ws vs→RepS K H S→f w ws S QW→Wish K H S QW Q→r x [.ref a] H Q
noncomputable def ztr (K:PySem.W.Frag) (T:String) (rv:W→Sto→Prop):Prop:=∀H w v S,Rep K H w v→RepS K H S→rv w S→tyV K T v H
theorem zoX{K:PySem.W.Frag}:ztr K "list" rvL:=fun H w v S r hS h=>by
 cases r with
 |ref a=>
  obtain⟨ws,e,_⟩:=zbO h;obtain⟨vs,f,_⟩:=hS a _ e;exact .inl ⟨rfl,vs, .of f⟩
 |_=>exact h.elim
theorem zjG{K:PySem.W.Frag}:ztr K "str" rvS:=fun H w v S r hS h=>by
 cases r with
 |str x=>exact rfl
 |_=>exact h.elim
section
variable {X:Cx}{o e:Expr}{es:List Expr}{to:WE}{t:WA}{tl:WL}{name:Str}{apos cpos:Pos}{id T:String}{r:V→List V→Hp→VK→Prop}{f:WMf}{rv:W→Sto→Prop}
theorem zsl (pa:PlainAttrs T) (slot:Slot T name id) (hty:typeOf (.builtin id)=pure (.type "method_descriptor")) (hrv:ztr X.K T rv) (hm:MtR X id r) (hw:MtW X.K r f) (ho:JE X o to) (ha:JA X (e::es) t)
  (hbase:attributeBase o name X.env (eval o X.env)=eval o X.env:=by rfl)
  (hfew:((backTo cpos (starEach (e::es) X.env)).all (fun x=> !x.1)&&(backToKw cpos (keywordEach [] X.env)).all (fun x=>x.1.isSome)
   &&decide ((e::es).length+([]:List Keyword).length+(if([]:List Keyword).isEmpty then 0 else 1)<30))=true:=by rfl)
  (hline:(apos.endLine == cpos.line)=true:=by rfl) (hs:starEach (e::es) X.env=(false,eval e X.env)::starEach es X.env:=by rfl) (hplain:(backTo cpos (starEach es X.env)).any (·.1)=false:=by rfl) :
  JE X (.Call (.Attribute o name apos) (e::es) [] cpos) (wM rv f to t):=fun E hE=>
 (zrT pa slot hty hm (ho E hE) (ha E hE) hbase hfew hline hs hplain).mono fun σ H Q ⟨σW,S,QW,hσ,hS,ht,hQ⟩=>⟨σW,S,_,hσ,hS,ht,fun w S1 v H1 e1 r1 hS1 h1=>
  ⟨hrv H1 w v S1 r1 hS1 h1.1,σW,S1,_,hσ.ext e1,hS1,h1.2,fun ws S2 vs H2 e2 r2 hS2 h2=>hw H2 v w vs ws S2 Q QW (r1.ext e2) r2 hS2 h2 (hQ.from (e1.trans e2))⟩⟩
theorem zuu (pa:PlainAttrs T) (slot:Slot T name id) (hty:typeOf (.builtin id)=pure (.type "method_descriptor")) (hrv:ztr X.K T rv) (hm:MtR X id r) (hw:MtL X.K r f) (ho:JE X o to) (ha:JL X e tl)
  (hbase:attributeBase o name X.env (eval o X.env)=eval o X.env:=by rfl)
  (hfew:((backTo cpos (starEach [e] X.env)).all (fun x=> !x.1)&&(backToKw cpos (keywordEach [] X.env)).all (fun x=>x.1.isSome)
   &&decide ([e].length+([]:List Keyword).length+(if([]:List Keyword).isEmpty then 0 else 1)<30))=true:=by rfl)
  (hline:(apos.endLine == cpos.line)=true:=by rfl) (hs:starEach [e] X.env=(false,eval e X.env)::starEach [] X.env:=by rfl) (hplain:(backTo cpos (starEach [] X.env)).any (·.1)=false:=by rfl) :
  JE X (.Call (.Attribute o name apos) [e] [] cpos) (wML rv f to tl):=fun E hE=>
 (zrT pa slot hty hm (ho E hE) (zdC (ha E hE) pa_nil hs) hbase hfew hline hs hplain).mono fun σ H Q ⟨σW,S,QW,hσ,hS,ht,hQ⟩=>⟨σW,S,_,hσ,hS,ht,fun w S1 v H1 e1 r1 hS1 h1=>
  ⟨hrv H1 w v S1 r1 hS1 h1.1,σW,S1,_,hσ.ext e1,hS1,h1.2,fun ws S2 vs a H2 e2 fa ea na r2 hS2 h2=>hw H2 v w a vs ws S2 Q QW (r1.ext e2) ea na r2 hS2 h2 (hQ.from (e1.trans e2))⟩⟩
noncomputable def zfm:WMf:=fun w ws S Q=>match w with
 | .ref a=>zcM S a fun xs=>match ws with
  | [y]=>xs.length<sizeLine∧Q .non (put S a (.lst (xs++[y])))
  |_=>False
 |_=>False
theorem zkE{K:PySem.W.Frag}:MtW K zln zfm:=fun H x w vs ws S Q QW r rs hS h hQ=>by
 cases r with
 |ref a=>
  obtain⟨xs,ea,h⟩:=zbO h;obtain⟨us,f,hs⟩:=hS a _ ea;cases rs with
  |nil=>exact h.elim
  |cons r1 r2=>
   cases r2 with
   |cons _ _=>exact h.elim
   |nil=>
    obtain⟨e,hS'⟩:=hS.set_lst ea (hs.append (.one r1));exact⟨a,us,_,rfl,rfl,f,by rw [←hs.length];exact h.1,hQ _ _ _ _ e .non hS' h.2⟩
 |_=>exact h.elim
theorem zgj (ho:JE X o to) (ha:JA X (e::es) t)
  (hbase:attributeBase o "append" X.env (eval o X.env)=eval o X.env:=by rfl)
  (hfew:((backTo cpos (starEach (e::es) X.env)).all (fun x=> !x.1)&&(backToKw cpos (keywordEach [] X.env)).all (fun x=>x.1.isSome)
   &&decide ((e::es).length+([]:List Keyword).length+(if([]:List Keyword).isEmpty then 0 else 1)<30))=true:=by rfl)
  (hline:(apos.endLine == cpos.line)=true:=by rfl) (hs:starEach (e::es) X.env=(false,eval e X.env)::starEach es X.env:=by rfl) (hplain:(backTo cpos (starEach es X.env)).any (·.1)=false:=by rfl) :
  JE X (.Call (.Attribute o "append" apos) (e::es) [] cpos) (wM rvL zfm to t):=zsl PySem.F.plainAttrs_list PySem.F.slot_list_append PySem.F.type_list_append zoX zhP zkE ho ha hbase hfew hline hs hplain
noncomputable def zuX:WMf:=fun w ws S Q=>match w with
 | .ref a=>zcM S a fun xs=>match ws with
  | []=>match xs[xs.length - 1]? with
   |some y=>Q y (put S a (.lst xs.dropLast))
   |none=>False
  |_=>False
 |_=>False
noncomputable def zgk:WMf:=fun w ws S Q=>match w with
 | .ref a=>zcM S a fun xs=>match ws with
  | [.tup ys]=>xs.length+ys.length≤sizeLine∧Q .non (put S a (.lst (xs++ys)))
  | [.ref b]=>zcM S b fun ys=>xs.length+ys.length≤sizeLine∧Q .non (put S a (.lst (xs++ys)))
  |_=>False
 |_=>False
theorem zkC{K:PySem.W.Frag}:MtW K (fun x vs H Q=>zlc x vs H Q∨zjS K x vs H Q) zgk:=fun H x w vs ws S Q QW r rs hS h hQ=>by
 cases r with
 |ref a=>
  obtain⟨xs,ea,h⟩:=zbO h;obtain⟨us,f,hs⟩:=hS a _ ea;cases rs with
  |nil=>exact h.elim
  |cons r1 r2=>
   cases r2 with
   |cons _ _=>cases r1<;>exact h.elim
   |nil=>
    cases r1 with
    |tup g ks=>
     obtain⟨e,hS'⟩:=hS.set_lst ea (hs.append ks);exact .inr ⟨a,_,us,_,rfl,rfl,f, .of g,by rw [←hs.length,←ks.length];exact h.1,hQ _ _ _ _ e .non hS' h.2⟩
    |ref b=>
     obtain⟨ys,eb,h⟩:=zbO h;obtain⟨zs,g,ks⟩:=hS b _ eb;obtain⟨e,hS'⟩:=hS.set_lst ea (hs.append ks);exact .inl ⟨a,b,us,zs,rfl,rfl,f,g,by rw [←hs.length,←ks.length];exact h.1,hQ _ _ _ _ e .non hS' h.2⟩
    |_=>exact h.elim
 |_=>exact h.elim
theorem zlh (ho:JE X o to) (ha:JA X (e::es) t)
  (hbase:attributeBase o "extend" X.env (eval o X.env)=eval o X.env:=by rfl)
  (hfew:((backTo cpos (starEach (e::es) X.env)).all (fun x=> !x.1)&&(backToKw cpos (keywordEach [] X.env)).all (fun x=>x.1.isSome)
   &&decide ((e::es).length+([]:List Keyword).length+(if([]:List Keyword).isEmpty then 0 else 1)<30))=true:=by rfl)
  (hline:(apos.endLine == cpos.line)=true:=by rfl) (hs:starEach (e::es) X.env=(false,eval e X.env)::starEach es X.env:=by rfl) (hplain:(backTo cpos (starEach es X.env)).any (·.1)=false:=by rfl) :
  JE X (.Call (.Attribute o "extend" apos) (e::es) [] cpos) (wM rvL zgk to t):=zsl PySem.F.plainAttrs_list PySem.F.slot_list_extend PySem.F.type_list_extend zoX (MtR.or zml zkG) zkC ho ha hbase hfew hline hs hplain
noncomputable def znm:WMf:=fun w ws S Q=>match w with
 | .ref a=>zcM S a fun xs=>xs.length+ws.length≤sizeLine∧Q .non (put S a (.lst (xs++ws)))
 |_=>False
noncomputable def zel:List W→Option (List Str)
 | []=>some []
 | .str b::ws=>(zel ws).map (b:: ·)
 |_=>none
theorem zjQ{K:PySem.W.Frag}{H:Hp}:∀{ws:List W}{vs:List V}{bs:List Str},Reps K H ws vs→zel ws=some bs→vs=bs.map V.str
 | [],_,_, .nil,e=>by have:=Option.some.inj e;subst this;rfl
 |w::ws,_,_, .cons r rs,e=>by
  cases r with
  |str b=>
   have e':(zel ws).map (b:: ·)=some _:=e;cases q:zel ws with
   |none=>rw [q]at e';cases e'
   |some cs=>
    rw [q]at e';have:=Option.some.inj e';subst this;rw [List.map_cons,zjQ rs q]
  |_=>cases e
noncomputable def zfA:WMf:=fun w ws S Q=>match w with
 | .str z=>match zel ws with
  |some ys=>(ys.map (·.length)).sum+ys.length*z.length≤16777216∧Q (.str (Str.join z ys)) S
  |none=>False
 |_=>False
theorem znY{K:PySem.W.Frag}:MtL K (zre K) zfA:=fun H x w a vs ws S Q QW r ea na rs hS h hQ=>by
 cases r with
 |str z=>
  unfold zfA at h;dsimp only at h;split at h
  ·rename_i ys e;have:=zjQ rs e;subst this;exact⟨z,a,ys,rfl,rfl, .of ea,h.1,hQ _ S _ H .refl (.str _) hS h.2⟩
  ·exact h.elim
 |_=>exact h.elim
theorem zfH (ho:JE X o to) (ha:JL X e tl)
  (hbase:attributeBase o "join" X.env (eval o X.env)=eval o X.env:=by rfl)
  (hfew:((backTo cpos (starEach [e] X.env)).all (fun x=> !x.1)&&(backToKw cpos (keywordEach [] X.env)).all (fun x=>x.1.isSome)
   &&decide ([e].length+([]:List Keyword).length+(if([]:List Keyword).isEmpty then 0 else 1)<30))=true:=by rfl)
  (hline:(apos.endLine == cpos.line)=true:=by rfl) (hs:starEach [e] X.env=(false,eval e X.env)::starEach [] X.env:=by rfl) (hplain:(backTo cpos (starEach [] X.env)).any (·.1)=false:=by rfl) :
  JE X (.Call (.Attribute o "join" apos) [e] [] cpos) (wML rvS zfA to tl):=zuu PySem.F.plainAttrs_str PySem.F.slot_str_join PySem.F.type_str_join zjG zqL znY ho ha hbase hfew hline hs hplain
noncomputable def zig:WMf:=fun w ws S Q=>match w with
 | .str z=>match ws with
  | [.str y]=>match Builtin.Str.occurrences z y 0 z.length 1 with
   |i::_=>Q (.int i) S
   | []=>False
  |_=>False
 |_=>False
theorem zlJ{K:PySem.W.Frag}:MtW K zoB zig:=fun H x w vs ws S Q QW r rs hS h hQ=>by
 cases r with
 |str z=>
  cases rs with
  |nil=>exact h.elim
  |cons r1 r2=>
   cases r2 with
   |cons _ _=>cases r1<;>exact h.elim
   |nil=>
    cases r1 with
    |str y=>
     unfold zig at h;dsimp only at h;split at h
     ·exact⟨z,y,_,_,rfl,rfl, ‹_›,hQ _ S _ H .refl (.int _) hS h⟩
     ·exact h.elim
    |_=>exact h.elim
 |_=>exact h.elim
theorem znr (ho:JE X o to) (ha:JA X (e::es) t)
  (hbase:attributeBase o "index" X.env (eval o X.env)=eval o X.env:=by rfl)
  (hfew:((backTo cpos (starEach (e::es) X.env)).all (fun x=> !x.1)&&(backToKw cpos (keywordEach [] X.env)).all (fun x=>x.1.isSome)
   &&decide ((e::es).length+([]:List Keyword).length+(if([]:List Keyword).isEmpty then 0 else 1)<30))=true:=by rfl)
  (hline:(apos.endLine == cpos.line)=true:=by rfl) (hs:starEach (e::es) X.env=(false,eval e X.env)::starEach es X.env:=by rfl) (hplain:(backTo cpos (starEach es X.env)).any (·.1)=false:=by rfl) :
  JE X (.Call (.Attribute o "index" apos) (e::es) [] cpos) (wM rvS zig to t):=zsl PySem.F.plainAttrs_str PySem.F.slot_str_index PySem.F.type_str_index zjG zny zlJ ho ha hbase hfew hline hs hplain
end
noncomputable def ztd (i:Nat) (g:Int→Int→Int) (e:WE):WS:=fun E D σ S=>match σ[i]? with
 |some (some (.int a))=>e E σ S fun w S1=>match w with
  | .int b=>D.nx (σ.set i (some (.int (g a b)))) S1
  |_=>False
 |_=>False
section
variable {X:Cx}{e:Expr}{te:WE}{pos pos':Pos}
theorem zoY{i:Nat}{x:Str}(hN:X.N.Nodup) (hi:X.N[i]? =some x) (hx:Loc X.env.scope x) (he:JE X e te) (hf:X.fn x=true∨X.env.scope.names.lookup x=some .local:=by first |exact .inl rfl |exact .inr rfl |assumption) :
  JS X (.AugAssign (.Name x pos') .Add e pos) (ztd i (fun a b=>a+b) te):=fun E hE=>
 (zrj hN hi hx (he E hE) zri hf).mono fun D σ H ⟨σW,S,DW,hσ,hS,ht,hD⟩=>by
  unfold ztd at ht;split at ht
  ·rename_i a ea;obtain⟨v,ev,rv⟩:=hσ.get ea;cases rv;refine⟨_,ev,σW,S,_,hσ,hS,ht,fun w S1 v H1 e1 r1 hS1 h1=>?_⟩;cases r1 with
   |int b=>exact⟨a,b,rfl,rfl,hD.nx _ S1 _ H1 e1 ((hσ.ext e1).set (.int _) i) hS1 h1⟩
   |_=>exact h1.elim
  ·exact ht.elim
end
noncomputable def zfX (c:WT) (b:WS):WS:=fun E D σ S=>∃I:Nat→WSt→Sto→Prop,(∃m,I m σ S)∧ ∀m σ S,I m σ S→c E σ S fun k S1=>if k=true then
 b E { D with nx:=fun σ' S'=>∃m' S'',m'<m∧Sub S'' S'∧I m' σ' S'',ct:=fun σ' S'=>∃m' S'',m'<m∧Sub S'' S'∧I m' σ' S'',bk:=D.nx } σ S1 else D.nx σ S1
section
variable {X:Cx}{c:Expr}{body:List Stmt}{tc:WT}{tb:WS}{pos:Pos}
theorem zet (hc:JT X c tc) (hb:JSs X body tb):JS X (.While c body [] pos) (zfX tc tb):=fun E hE=>
 (zom hE.own (hc E hE) (hb E hE)).mono fun D σ H ⟨σW,S,DW,hσ,hS,⟨J,⟨n,ht⟩,step⟩,hD⟩=>by
  refine⟨fun m σ1 H1=>∃σW1 S1,Ext H S H1 S1∧RpSt X.K H1 σW1 σ1∧RepS X.K H1 S1∧J m σW1 S1,⟨n,σW,S, .refl,hσ,hS,ht⟩,?_⟩;rintro m σ1 H1 ⟨σW1,S1,e1,hσ1,hS1,h1⟩;refine⟨σW1,S1,_,hσ1,hS1,step m σW1 S1 h1,fun k S2 H2 e2 hS2 h2=>?_⟩;cases k with
  |false=>exact hD.nx σW1 S2 σ1 H2 (e1.trans e2) (hσ1.ext e2) hS2 h2
  |true=>
   rw [if_pos rfl]at h2⊢;refine⟨fun σ' H'=>∃m',m'<m∧ ∃σW1 S1,Ext H S H' S1∧RpSt X.K H' σW1 σ'∧RepS X.K H' S1∧J m' σW1 S1,fun σ' H' n'=>n',σW1,S2,_,hσ1.ext e2,hS2,h2,?_⟩;have e12:=e1.trans e2;have go:Goes X.K H2 S2 (fun σ' S'=>∃m' S'',m'<m∧Sub S'' S'∧J m' σ' S'') (fun σ' H'=>∃m',m'<m∧ ∃σW1 S1,Ext H S H' S1∧RpSt X.K H' σW1 σ'∧RepS X.K H' S1∧J m' σW1 S1):=fun σW3 S3 σ3 H3 e3 hσ3 hS3 ⟨m',S4,hm,sb,q⟩=>
    ⟨m',hm,σW3,S4,(e12.trans e3).trans (.drop sb),hσ3,hS3.sub sb,q⟩
   exact⟨go,hD.rt.from e12,hD.nx.from e12,go⟩
end
noncomputable def zhq (g:WG) (b:WS) (E:WX) (D:WEnds) (G:Sto→Prop):List W→WSt→Sto→Prop
 | [],σ,S=>D.nx σ S
 |w::ws,σ,S=>g w σ S fun σ1 S1=>b E { D with nx:=fun σ' S'=>∃S'',Sub S'' S'∧G S''∧zhq g b E D G ws σ' S'',ct:=fun σ' S'=>∃S'',Sub S'' S'∧G S''∧zhq g b E D G ws σ' S'',bk:=D.nx } σ1 S1
noncomputable def zoK (q:WI) (g:WG) (b:WS):WS:=fun E D σ S=>q E σ S fun ws G S1=>zhq g b E D G ws σ S1
section
variable {X:Cx}{tg iter:Expr}{body:List Stmt}{q:WI}{g:WG}{tb:WS}{pos:Pos}
theorem zgx (hi:JI X tg iter q) (hg:JG X tg g) (hb:JSs X body tb) (hcl:X.calm=true:=by rfl)
  (hs:∀x,foldedSetIterable iter X.env x=pure x:=by intro _;rfl):JS X (.For tg iter body [] pos) (zoK q g tb):=fun E hE=>
 (zrI hE.own hcl (hi E hE) (hg E hE) (hb E hE) hs).mono fun D σ H ⟨σW,S,DW,hσ,hS,ht,hD⟩=>by
  refine⟨σW,S,_,hσ,hS,ht,fun ws G S1 J H1 e1 hS1 hG1 hJ h1=>?_⟩;refine⟨fun i m σ2 H2=>∃σW2 S2,Ext H1 S1 H2 S2∧RpSt X.K H2 σW2 σ2∧RepS X.K H2 S2∧G S2∧m=ws.length - i∧i≤ws.length∧zhq g tb E DW G (ws.drop i) σW2 S2,
   ⟨ws.length,σW,S1, .refl,hσ.ext e1,hS1,hG1,rfl,Nat.zero_le _,h1⟩,?_⟩
  rintro i m σ2 H2 ⟨σW2,S2,e2,hσ2,hS2,hG2,rfl,hi2,h2⟩;obtain⟨ji,js⟩:=hJ i S2 H2 e2 hS2 hG2;by_cases hlt:i<ws.length
  ·obtain⟨jgo,jy⟩:=ji ws[i] (List.getElem?_eq_getElem hlt);refine .inr ⟨jgo,fun σ' H'=>∃σW2 S2,Ext H1 S1 H' S2∧RpSt X.K H' σW2 σ'∧RepS X.K H' S2∧G S2∧ws.length - (i+1)=ws.length - (i+1)∧i+1≤ws.length∧zhq g tb E DW G (ws.drop (i+1)) σW2 S2,fun σ' H' z=>⟨_,by omega,z⟩,fun x H3 y3=>?_⟩
   obtain⟨e3,hS3,r3⟩:=jy x H3 y3;rw [List.drop_eq_getElem_cons hlt]at h2;refine⟨_,σW2,S2,_,r3,hσ2.ext e3,hS3,h2,fun σW4 S4 σ4 H4 e4 hσ4 hS4 h4=>?_⟩;have e14:Ext H1 S1 H4 S4:=(e2.trans e3).trans e4;refine⟨σW4,S4,_,hσ4,hS4,h4,?_⟩;have go:Goes X.K H4 S4 (fun σ' S'=>∃S'',Sub S'' S'∧G S''∧zhq g tb E DW G (ws.drop (i+1)) σ' S'') (fun σ' H'=>∃σW2 S2,Ext H1 S1 H' S2∧RpSt X.K H' σW2 σ'∧RepS X.K H' S2∧G S2∧ws.length - (i+1)=ws.length - (i+1)∧i+1≤ws.length∧zhq g tb E DW G (ws.drop (i+1)) σW2 S2):=
    fun σW5 S5 σ5 H5 e5 hσ5 hS5 ⟨S6,sb,hG6,q⟩=>⟨σW5,S6,(e14.trans e5).trans (.drop sb),hσ5,hS5.sub sb,hG6,rfl,hlt,q⟩
   exact⟨go,hD.rt.from (e1.trans e14),hD.nx.from (e1.trans e14),go⟩
  ·have hl:i=ws.length:=by omega
   rw [List.drop_of_length_le (Nat.le_of_eq hl.symm)]at h2;exact .inl ⟨js hl,hD.nx σW2 S2 σ2 H2 (e1.trans e2) hσ2 hS2 h2⟩
end
section
variable {X:Cx}{tg:Expr}
noncomputable def zvT (K:PySem.W.Frag) (tl:TE):TI:=fun σ H R=>tl σ H fun x H1=>(∃a,x= .ref a∧(∃xs,SqL K H1 a xs)∧R (Itl K a) H1)∨(∃a,x= .ref a∧(∃xs,SqT K H1 a xs)∧R (Itt K a) H1)∨ ∃z,x= .str z∧R (Its z) H1
theorem zsJ{l:Expr}{tl:TE}(hl:PE X l tl):PI X tg l (zvT X.K tl):=by
 intro pins s σ H R I h;refine thn (hl pins s σ H _ I h) fun v s1 ⟨x,H1,I1,r1,q1⟩=>?_;have fp:∀b∈ [s1.heap.objs.size],zjg X pins H1 b:=fun b hb=>by
  have e:b=s1.heap.objs.size:=by simpa using hb
  subst e;exact I1.fpOk (Nat.le_refl _) (I1.hok.fresh (Nat.le_refl _))
 rcases q1 with⟨a,e,⟨xs,hq⟩,q⟩ |⟨a,e,⟨xs,hq⟩,q⟩ |⟨z,e,q⟩
 ·subst e;cases r1;obtain⟨its,rv,p,hz⟩:=I1.list hq;refine wpAny_pyIter_list p.isList ?_;exact⟨s1.heap.objs.size,[s1.heap.objs.size],_,_,H1,rfl,I1.kept (t':=s1.toks) fun b o e=>Heap.get?_push_of_some _ e,zls a _,⟨_,Heap.get?_push_size _ rfl,rfl,rfl⟩,fp,q⟩
 ·subst e;cases r1;obtain⟨its,rv,p,hz⟩:=I1.tuple hq;refine wpAny_pyIter_tuple (show s1.heap.IsTuple a its.toArray from p) ?_;exact⟨s1.heap.objs.size,[s1.heap.objs.size],_,_,H1,rfl,I1.kept (t':=s1.toks) fun b o e=>Heap.get?_push_of_some _ e,zkq a _,⟨_,Heap.get?_push_size _ rfl,rfl,rfl⟩,fp,q⟩
 ·subst e;obtain⟨t,rfl⟩:=r1;cases ha:z.cps.all (· <128)
  ·refine wpAny_pyIter_wide ha ?_;exact⟨s1.heap.objs.size,[s1.heap.objs.size],_,_,H1,rfl,I1.kept (t':=s1.toks) fun b o e=>Heap.get?_push_of_some _ e,
    zjz _ z t "str_iterator" (by decide) (fun A' hA=>Walks.strWide hA _ z t) (fun _ _ _ _ _ st h=>wpAny_pyIter_striter_wide st h),⟨_,Heap.get?_push_size _ rfl,rfl,rfl⟩,fp,q⟩
  ·refine wpAny_pyIter_ascii ha ?_;exact⟨s1.heap.objs.size,[s1.heap.objs.size],_,_,H1,rfl,I1.kept (t':=s1.toks) fun b o e=>Heap.get?_push_of_some _ e,
    zjz _ z t "str_ascii_iterator" (by decide) (fun A' hA=>Walks.strAscii hA _ z t) (fun _ _ _ _ _ st h=>wpAny_pyIter_striter_ascii st h),⟨_,Heap.get?_push_size _ rfl,rfl,rfl⟩,fp,q⟩
noncomputable def zfB (z:Str):List W:=z.cps.toList.map fun c=> .str ⟨#[c]⟩
noncomputable def wIv (t:WE):WI:=fun E σ S Q=>t E σ S fun w S1=>match w with
 | .tup ws=>Q ws (fun _=>True) S1
 | .ref a=>zcM S1 a fun ws=>Q ws (fun S'=>S' a=some (.lst ws)) S1
 | .scr ns=>Q (ns.map W.int) (fun _=>True) S1
 | .str z=>Q (zfB z) (fun _=>True) S1
 |_=>False
theorem zmL{K:PySem.W.Frag}{a:Addr}{ws:List W}{G:Sto→Prop}{H0:Hp}{S0:Sto}(h:∀S H,Ext H0 S0 H S→RepS K H S→G S→ ∃vs,SqL K H a vs∧Reps K H ws vs):ItW K (Itl K a) ws G H0 S0:=fun i S H e hS hG=>by
 obtain⟨vs,hq,r⟩:=h S H e hS hG;refine⟨fun w ew=>?_,fun hl=>⟨vs,hq,by rw [←r.length,hl];exact Nat.le_refl _⟩⟩
 obtain⟨v,ev,rv⟩:=r.get ew;refine⟨⟨vs,v,hq,ev⟩,fun x H' ⟨e1,e2⟩=>?_⟩;subst e1;have e3:=e2 vs hq;rw [ev]at e3;cases e3;exact⟨.refl,hS,rv⟩
theorem zrQ{K:PySem.W.Frag}{a:Addr}{ws:List W}{vs:List V}{H0:Hp}{S0:Sto}(f:H0 a=some (.tup vs)) (r:Reps K H0 ws vs):ItW K (Itt K a) ws (fun _=>True) H0 S0:=fun i S H e hS hG=>by
 have f':=e.tup _ _ f;have r':=r.ext e;refine⟨fun w ew=>?_,fun hl=>⟨vs, .of f',by rw [←r'.length,hl];exact Nat.le_refl _⟩⟩
 obtain⟨v,ev,rv⟩:=r'.get ew;refine⟨⟨vs,v, .of f',ev⟩,fun x H' ⟨e1,e2⟩=>?_⟩;subst e1;have e3:=e2 vs (.of f');rw [ev]at e3;cases e3;exact⟨.refl,hS,rv⟩
theorem zrp{K:PySem.W.Frag}{z:Str}{H0:Hp}{S0:Sto}:ItW K (Its z) (zfB z) (fun _=>True) H0 S0:=fun i S H e hS hG=>by
 unfold zfB;refine⟨fun w ew=>?_,fun hl=>?_⟩
 ·rw [List.getElem?_map]at ew;cases ec:z.cps.toList[i]? with
  |none=>rw [ec]at ew;cases ew
  |some c=>
   rw [ec]at ew;have ew':=Option.some.inj ew;subst ew';have hi:i<z.cps.size:=by
    have:=(List.getElem?_eq_some_iff.mp ec).1;simpa using this
   refine⟨hi,fun x H' ⟨e1,c',e2,e3⟩=>?_⟩;subst e1 e3;have:c'=c:=by
    have q:z.cps.toList[i]? =some c':=by rw [←e2];simp
    rw [ec]at q;exact(Option.some.inj q).symm
   subst this;exact⟨.refl,hS, .str _⟩
 ·show i=z.cps.size;simpa using hl
theorem zeZ{l:Expr}{tl:WE}(hl:JE X l tl):JI X tg l (wIv tl):=fun E hE=>
 (zsJ (hl E hE)).mono fun σ H R ⟨σW,S,QW,hσ,hS,ht,hR⟩=>⟨σW,S,_,hσ,hS,ht,fun w S1 v H1 e1 r1 hS1 h1=>by
  cases r1 with
  |tup f hs=>exact .inr (.inl ⟨_,rfl,⟨_, .of f⟩,hR _ _ S1 _ H1 e1 hS1 trivial (zrQ f hs) h1⟩)
  |ref a=>
   obtain⟨ws,ea,h⟩:=zbO h1;obtain⟨vs,f,hs⟩:=hS1 a _ ea;refine .inl ⟨_,rfl,⟨_, .of f⟩,hR _ _ S1 _ H1 e1 hS1 ea (zmL fun S2 H2 e2 hS2 g2=>?_) h⟩;obtain⟨vs2,f2,hs2⟩:=hS2 a _ g2;exact⟨vs2, .of f2,hs2⟩
  |scr f=>exact .inl ⟨_,rfl,⟨_,f.sq⟩,hR _ _ S1 _ H1 e1 hS1 trivial (zmL fun S2 H2 e2 hS2 g2=>⟨_,(e2.fz f).sq,Reps.ofInts _⟩) h1⟩
  |str z=>exact .inr (.inr ⟨z,rfl,hR _ _ S1 _ H1 e1 hS1 trivial zrp h1⟩)
  |_=>exact h1.elim⟩
noncomputable def zkx (lo:Int) (n:Nat):List W:=(List.range n).map fun(i:Nat)=> .int (lo+(i:Int))
theorem zrx{K:PySem.W.Frag}{lo:Int}{n:Nat}{H0:Hp}{S0:Sto}:ItW K (Itr lo n) (zkx lo n) (fun _=>True) H0 S0:=fun i S H e hS hG=>by
 unfold zkx;refine⟨fun w ew=>?_,fun hl=>by
  have:i=n:=by simpa using hl
  exact Nat.le_of_eq this.symm⟩
 rw [List.getElem?_map]at ew;by_cases hi:i<n
 ·rw [List.getElem?_range hi]at ew;have ew':=Option.some.inj ew;subst ew';refine⟨hi,fun x H' ⟨e1,e2⟩=>?_⟩;subst e1 e2;exact⟨.refl,hS, .int _⟩
 ·rw [List.getElem?_eq_none (by simpa using hi)]at ew;cases ew
noncomputable def zqa (t:WA):WI:=fun E σ S Q=>t E σ S fun ws S1=>match ws with
 | [.int j]=>(-(2 ^ 62)≤j∧j<2 ^ 62)∧Q (zkx 0 j.toNat) (fun _=>True) S1
 |_=>False
theorem zfi{a:Expr}{ta:WA}{p pos:Pos}(hg:Gl X "range") (hm:X.mg "range" =none) (ha:JA X [a] ta) (hs:starEach [a] X.env=[(false,eval a X.env)]:=by rfl):JI X tg (.Call (.Name "range" p) [a] [] pos) (zqa ta):=fun E hE=>
 (zkR hg hm (ha E hE) hs).mono fun σ H R ⟨σW,S,QW,hσ,hS,ht,hR⟩=>⟨σW,S,_,hσ,hS,ht,fun ws S1 vs H1 e1 r1 hS1 h1=>by
  cases r1 with
  |nil=>exact h1.elim
  |cons r2 r3=>
   cases r3 with
   |cons _ _=>cases r2<;>exact h1.elim
   |nil=>
    cases r2 with
    |int j=>exact⟨j,rfl,h1.1.1,h1.1.2,hR _ _ S1 _ H1 e1 hS1 trivial zrx h1.2⟩
    |_=>exact h1.elim⟩
end
noncomputable def zjH:WT:=fun _ _ S Q=>Q true S
noncomputable def JTs (X:Cx) (ifs:List Expr) (t:WT):Prop:=∀E,Hook X E→PTs X ifs (zpG X.K (t E))
theorem zef{X:Cx}:JTs X [] zjH:=fun E hE pins s σ H Q I ⟨σW,S,QW,hσ,hS,ht,hQ⟩=>zqx pins s σ H Q I (hQ true S H .refl hS ht)
noncomputable def zfC (g:WG) (c:WT) (e:WE) (E:WX) (G:Sto→Prop) (Q:List W→Sto→Prop):List W→List W→WSt→Sto→Prop
 | [],acc,_,S=>Q acc S
 |w::ws,acc,σ,S=>g w σ S fun σ1 S1=>c E σ1 S1 fun b S2=>if b=true then e E σ1 S2 fun y S3=>acc.length<sizeLine∧ ∃S4,Sub S4 S3∧G S4∧zfC g c e E G Q ws (acc++[y]) σ1 S4
   else ∃S4,Sub S4 S2∧G S4∧zfC g c e E G Q ws acc σ1 S4
noncomputable abbrev noE:WX:=fun _ _ _=>False
theorem zmI{X:Cx}(h:X.xe=fun _ _=>False):Hook X noE:=⟨by rw [h];exact PassesOwn.never,fun _ _ _ _ _ _ _ _ _ _ _ _ _ _ _ _ _ _ _ _ z=>z.elim,fun _ _ _ _ _ _ _ _ _ _ _ _ _ _ _ _ z=>z.elim⟩
noncomputable def zgd (k:Nat) (fr:List Nat) (q:WI) (g:WG) (c:WT) (e:WE):WL:=fun _ σ S Q=>q noE σ S fun ws G S1=>zfC g c e noE G Q ws [] (List.replicate k none++fr.map fun j=>(σ[j]?).join) S1
theorem zkj{K:PySem.W.Frag}{H:Hp}{σW:WSt}{σ:St}{k:Nat}{fr:List Nat}(h:RpSt K H σW σ):RpSt K H (List.replicate k none++fr.map fun j=>(σW[j]?).join) (zjW σ k fr):=by
 have one:∀j:Nat,RpO K H (σW[j]?).join (σ[j]?).join:=fun j=>by
  cases e:σW[j]? with
  |none=>exact trivial
  |some w=>
   cases w with
   |none=>exact trivial
   |some w=>
    obtain⟨v,ev,r⟩:=h.get e;rw [ev];exact r
 have go:∀fr:List Nat,RpSt K H (fr.map fun j=>(σW[j]?).join) (zgh σ fr):=by
  intro fr
  induction fr with
  |nil=>exact .nil
  |cons j fr ih=>exact .cons (one j) ih
 unfold zjW
 induction k with
 |zero=>exact go fr
 |succ k ih=>exact .cons trivial ih
section
variable {X:Cx}{scope:Scope}{N:List Str}{k:Nat}{fr:List Nat}{tg iter elt:Expr}{ifs:List Expr}{pos:Pos}{q:WI}{g:WG}{c:WT}{e:WE}
theorem Ext.loose{H H':Hp}(a:∀b xs,H b=some (.tup xs)→H' b=some (.tup xs)) (b:∀c o u,H c=some (.frz o u)→H' c=some (.frz o u)) (d:∀b o,H b=some o→ ∃o',H' b=some o'):Ext H (fun _=>some (.lst [])) H' (fun _=>some (.lst [])):=
 ⟨a,b,(fun _ _ _ g=>nomatch g),d⟩
theorem Ext.over{H H':Hp}{S S':Sto}{l:Addr}{o:HO}(e:Ext H S H' S') (h:H l=none):Ext H S (upd H' l o) S':=
 ⟨fun b xs q=>by rw [zax (zau q h)];exact e.tup b xs q,fun b ob u q=>by rw [zax (zau q h)];exact e.frz b ob u q,fun b ob q z=>by rw [zax (zau q h)];exact e.fr b ob q z,fun b ob q=>by rw [zax (zau q h)];exact e.all b ob q⟩
theorem zmg (hg:∀s₀ H₀ fp pn,JG (zbQ X scope N s₀ H₀ fp pn) tg g) (hc:∀s₀ H₀ fp pn,JTs (zbQ X scope N s₀ H₀ fp pn) ifs c) (he:∀s₀ H₀ fp pn,JE (zbQ X scope N s₀ H₀ fp pn) elt e)
  {E:WX}(σ:St) (H:Hp) (Q:VK):ztj X.K (zgd k fr q g c e E) σ H Q→zqC X scope N k fr tg ifs elt (zrc X.K (q noE)) σ H Q:=fun⟨σW,S0,QW,hσ,hS,ht,hQ⟩=>by
  refine⟨σW,S0,_,hσ,hS,ht,fun ws G S1 J H1 e1 hS1 hG1 hJ h1 l hl=>?_⟩;have upl:∀{H':Hp}{vs us:List V}{S':Sto},H' l=some (.lst vs)→S' l=none→RepS X.K H' S'→Ext H' (fun _=>some (.lst [])) (upd H' l (.lst us)) (fun _=>some (.lst []))∧RepS X.K (upd H' l (.lst us)) S':=fun {H' vs us S'} f n hS'=>by
   have x:Ext H' (fun _=>some (.lst [])) (upd H' l (.lst us)) (fun _=>some (.lst [])):= .loose (fun b xs q=>by rw [zax (zmS q f fun z=>nomatch z)];exact q) (fun b o u q=>by rw [zax (zmS q f fun z=>nomatch z)];exact q) fun b o q=>by
    by_cases hb:b=l
    ·subst hb;exact⟨_,zaz⟩
    ·exact⟨o,by rw [zax hb];exact q⟩
   refine⟨x,fun a o q=>(hS' a o q).keep x fun u z=>?_⟩;have ha:a≠l:=by rintro rfl;rw [n]at q;cases q
   rw [zax ha];exact z
  refine⟨fun i m σ' H'=>∃σW' S' acc vs,Ext H1 S1 H' S'∧H' l=some (.lst vs)∧S' l=none∧Reps X.K H' acc vs∧RpSt X.K H' σW' σ'∧RepS X.K H' S'∧G S'∧m=ws.length - i∧i≤ws.length∧zfC g c e noE G QW (ws.drop i) acc σW' S',
   ⟨ws.length,_,S1,[],[], .new hl,zaz,hS1.free hl, .nil,zkj (hσ.ext (e1.trans (.new (S:=S1) hl))),hS1.new hl,hG1,rfl,Nat.zero_le _,h1⟩,?_⟩
  rintro i m σ' H' ⟨σW',S',acc,vs,e2,f2,n2,ra,hσ2,hS2,hG2,rfl,hi2,h2⟩;obtain⟨ji,js⟩:=hJ i S' H' e2 hS2 hG2;by_cases hlt:i<ws.length
  ·obtain⟨jgo,jy⟩:=ji ws[i] (List.getElem?_eq_getElem hlt);refine .inr ⟨jgo,fun σ'' H''=>∃σW' S' acc vs,Ext H1 S1 H'' S'∧H'' l=some (.lst vs)∧S' l=none∧Reps X.K H'' acc vs∧RpSt X.K H'' σW' σ''∧RepS X.K H'' S'∧G S'∧ws.length - (i+1)=ws.length - (i+1)∧i+1≤ws.length∧zfC g c e noE G QW (ws.drop (i+1)) acc σW' S',
    fun σ'' H'' z=>⟨_,by omega,z⟩,fun x H3 y3=>?_⟩
   obtain⟨e3,hS3,r3⟩:=jy x H3 y3;rw [List.drop_eq_getElem_cons hlt]at h2;intro s₀ H₀ fp pn;have hk:Hook (zbQ X scope N s₀ H₀ fp pn) noE:=zmI rfl;refine⟨_,_,_,hg s₀ H₀ fp pn noE hk,hc s₀ H₀ fp pn noE hk,he s₀ H₀ fp pn noE hk,?_⟩;refine⟨_,σW',S',_,r3,hσ2.ext e3,hS3,h2,fun σW4 S4 σ4 H4 e4 hσ4 hS4 h4=>?_⟩;refine⟨σW4,S4,_,hσ4,hS4,h4,fun b S5 H5 e5 hS5 h5=>?_⟩;have e15:Ext H' S' H5 S5:=(e3.trans e4).trans e5;have hσ5:=hσ4.ext e5;obtain⟨f5,n5⟩:=e15.fr l _ f2 n2;cases b with
   |false=>
    have h5:∃S4,Sub S4 S5∧G S4∧zfC g c e noE G QW (ws.drop (i+1)) acc σW4 S4:=h5;refine zvh ?_;obtain⟨S6,sb,hG6,h6⟩:=h5;have e16:=e15.trans (.drop sb);exact⟨σW4,S6,acc,vs,e2.trans e16,f5,(e16.fr l _ f2 n2).2,ra.ext e15,hσ5,hS5.sub sb,hG6,rfl,hlt,h6⟩
   |true=>
    rw [if_pos rfl]at h5;refine zvl ?_;refine⟨σW4,S5,_,hσ5,hS5,h5,fun y S6 v H6 e6 r6 hS6 h6=>?_⟩;have e17:=e15.trans e6;obtain⟨f6,n6⟩:=e17.fr l _ f2 n2;obtain⟨hz,S7,sb,hG7,h7⟩:=h6;obtain⟨x6,hS6'⟩:=upl (us:=vs++[v]) f6 n6 hS6;have ra6:Reps X.K H6 (acc++[y]) (vs++[v]):=(ra.ext e17).append (.one r6);refine⟨vs,f6,by rw [←ra.length];exact hz,σW4,S7,acc++[y],vs++[v],?_,zaz,((e17.trans (.drop sb)).fr l _ f2 n2).2,ra6.ext x6,(hσ5.ext e6).ext x6,hS6'.sub sb,hG7,rfl,hlt,h7⟩
    exact(e2.trans (e17.trans (.drop sb))).over hl
  ·have hll:i=ws.length:=by omega
   rw [List.drop_of_length_le (Nat.le_of_eq hll.symm)]at h2;exact .inl ⟨js hll,hQ acc S' vs l H' (e1.trans e2) (e1.free hl) f2 n2 ra hS2 h2⟩
theorem zen (S:CompSc X.nox scope N k fr) (hi:JI X.nox tg iter q) (hg:∀s₀ H₀ fp pn,JG (zbQ X.nox scope N s₀ H₀ fp pn) tg g) (hc:∀s₀ H₀ fp pn,JTs (zbQ X.nox scope N s₀ H₀ fp pn) ifs c) (he:∀s₀ H₀ fp pn,JE (zbQ X.nox scope N s₀ H₀ fp pn) elt e)
  (hs:∀x,foldedSetIterable iter X.env x=pure x:=by intro _;rfl) (hcl:X.calm=true:=by rfl):JL X (.ListComp elt [⟨tg,iter,ifs,0⟩] scope pos) (zgd k fr q g c e):=fun E hE=>
 (PE.nox (zpH rfl hcl S (hi noE (zmI rfl)) hs)).mono (zmg (X:=X.nox) hg hc he)
end
section
noncomputable def zuN:W→Sto→(List W→(Sto→Prop)→Prop)→Prop
 | .tup ws,_,Q=>Q ws fun _=>True
 | .ref a,S,Q=>zcM S a fun ws=>Q ws fun S'=>S' a=some (.lst ws)
 | .scr ns,_,Q=>Q (ns.map W.int) fun _=>True
 |_,_,_=>False
end
section
noncomputable def zrs (hi:Int) (n:Nat):List W:=(List.range n).map fun(i:Nat)=> .int (hi - (i:Int))
noncomputable def zvU (t:WA):WI:=fun E σ S Q=>t E σ S fun ws S1=>match ws with
 | [.int i, .int j, .int c]=>c= -1∧(-(2 ^ 62)≤i∧i<2 ^ 62∧ -(2 ^ 62)≤j∧j<2 ^ 62)∧Q (zrs i (i - j).toNat) (fun _=>True) S1
 |_=>False
end
section
variable {X:Cx}{a b c:Expr}{pos:Pos}{ta tb tc:WE}
theorem zmZ{op op':CmpOp}{r r':R2}{wr wr':W2}(ho:OpR X (compareOp op) r) (hw:OpW X.K r wr) (ho':OpR X (compareOp op') r') (hw':OpW X.K r' wr') (ha:JE X a ta) (hb:JE X b tb) (hc:JE X c tc)
  (hm:lastMarks [op,op'] [b,c]=false:=by with_unfolding_all rfl):JE X (.Compare a [op,op'] [b,c] pos) (zfu wr wr' ta tb tc):=fun E hE=>
 (znH ho ho' (ha E hE) (hb E hE) (hc E hE) hm).mono fun σ H Q ⟨σW,S,QW,hσ,hS,ht,hQ⟩=>by
  refine⟨σW,S,_,hσ,hS,ht,fun x S1 v1 H1 e1 r1 hS1 h1=>⟨σW,S1,_,hσ.ext e1,hS1,h1,fun y S2 v2 H2 e2 r2 hS2 h2=>?_⟩⟩;refine hw H2 v1 v2 x y S2 _ _ (r1.ext e2) r2 hS2 h2 fun z S3 v3 H3 e3 r3 hS3 h3=>?_;cases r3 with
  |bl k=>
   refine⟨k,rfl,?_⟩;cases k with
   |true=>
    refine⟨σW,S3,_,((hσ.ext e1).ext e2).ext e3,hS3,h3,fun u S4 v4 H4 e4 r4 hS4 h4=>?_⟩;exact hw' H4 v2 v4 y u S4 Q QW ((r2.ext e3).ext e4) r4 hS4 h4 (hQ.from (((e1.trans e2).trans e3).trans e4))
   |false=>exact hQ _ S3 _ H3 ((e1.trans e2).trans e3) (.bl false) hS3 h3
  |_=>exact h3.elim
theorem zgb (ha:JE X a ta) (hb:JE X b tb) (hc:JE X c tc) (hm:lastMarks [.LtE, .LtE] [b,c]=false:=by with_unfolding_all rfl):JE X (.Compare a [.LtE, .LtE] [b,c] pos) (zfu oLe oLe ta tb tc):=zmZ (op_le.or zfL) zlE (op_le.or zfL) zlE ha hb hc hm
end
section
variable {X:Cx}{e:Expr}{es:List Expr}{t:WA}{p pos:Pos}
noncomputable def zox:WF:=fun ws S Q=>match ws with
 | [.int i]=>Q (.int i) S
 | [.bl b]=>Q (.int (if b then 1 else 0)) S
 |_=>False
theorem zly{K:PySem.W.Frag}:zjq K (fun xs H Q=>(∃i,xs=[.int i]∧Q (.int i) H)∨ ∃k,xs=[.bl k]∧Q (.int (if k then 1 else 0)) H) zox:=fun H vs ws S Q QW r hS h hQ=>by
 cases r with
 |nil=>exact h.elim
 |cons r1 r2=>
  cases r2 with
  |cons _ _=>cases r1<;>exact h.elim
  |nil=>
   cases r1 with
   |int i=>exact .inl ⟨i,rfl,hQ _ S _ H .refl (.int _) hS h⟩
   |bl b=>exact .inr ⟨b,rfl,hQ _ S _ H .refl (.int _) hS h⟩
   |_=>exact h.elim
theorem zgN (hg:Gl X "int") (hm:X.mg "int" =none) (ha:JA X (e::es) t)
  (he:starEach (e::es) X.env=(false,eval e X.env)::starEach es X.env:=by rfl) (hpl:(backTo pos (starEach es X.env)).any (·.1)=false:=by rfl):JE X (.Call (.Name "int" p) (e::es) [] pos) (wB zox t):=
 zob zmv zly hg hm PyProof.Rows.boot_int ha (by decide) (by decide) he hpl
noncomputable def zuD:WF:=fun ws S Q=>match ws with
 | [.int i, .int j]=>Q (.int (if j > i then j else i)) S
 |_=>False
noncomputable def ztL:WF:=fun ws S Q=>match ws with
 | [.int i, .int j]=>Q (.int (if j<i then j else i)) S
 |_=>False
theorem zhg{tl:WL}(hg:Gl X "all") (hm:X.mg "all" =none) (ha:JL X e tl)
  (he:starEach [e] X.env=(false,eval e X.env)::starEach [] X.env:=by rfl) (hpl:(backTo pos (starEach [] X.env)).any (·.1)=false:=by rfl) (hcl:X.calm=true:=by rfl):JE X (.Call (.Name "all" p) [e] [] pos) (wBL zio tl):=fun E hE=>zqq (znw hcl) zlv hg hm PyProof.Rows.boot_all ha (by decide) (by decide) he hpl E hE
theorem zkQ{tl:WL}(hg:Gl X "tuple") (hm:X.mg "tuple" =none) (ha:JL X e tl)
  (he:starEach [e] X.env=(false,eval e X.env)::starEach [] X.env:=by rfl) (hpl:(backTo pos (starEach [] X.env)).any (·.1)=false:=by rfl):JE X (.Call (.Name "tuple" p) [e] [] pos) (wBL zgX tl):=ztb zfg zjp hg hm PyProof.Rows.boot_tuple ha (by decide) (by decide) he hpl
theorem znq (hg:Gl X "tuple") (hm:X.mg "tuple" =none) (ha:JA X (e::es) t)
  (he:starEach (e::es) X.env=(false,eval e X.env)::starEach es X.env:=by rfl) (hpl:(backTo pos (starEach es X.env)).any (·.1)=false:=by rfl):JE X (.Call (.Name "tuple" p) (e::es) [] pos) (wB ziu t):=zob zfg ziE hg hm PyProof.Rows.boot_tuple ha (by decide) (by decide) he hpl
end
theorem zmR{K:PySem.W.Frag}:∀T∈ ["int", "bool", "str", "tuple", "list"],∀A∈ ["NoneType", "bool", "int", "str", "tuple", "list"],PySem.W.kitOne K (.type A) (.type T)=some (zbv A T):=by
 intro T hT A hA;simp only[List.mem_cons,List.not_mem_nil,or_false]at hT hA;rcases hT with rfl |rfl |rfl |rfl |rfl<;>rcases hA with rfl |rfl |rfl |rfl |rfl |rfl<;>rfl
noncomputable def zcf:WSp:=fun _ _ _ _=>False
theorem zlV{P:Program}{w:World}{K:PySem.W.Frag}{mg:Str→Option Value}{base:Heap}{f:Addr}{fd:FuncData}{ps:List Str}{k:Nat}:FnOk P w K mg base (CX1 P w) k f fd ps (zaV K zcf):=
 ⟨fun vs H Q E ⟨_,_,_,_,_,_,h,_⟩=>h.elim,fun A outer s H args us vs Q E _ _ _ _ ⟨_,_,_,_,_,_,h,_⟩=>h.elim⟩
section
variable {X:Cx}{a b:Expr}{pos:Pos}{ta tb:WE}{la lb:WL}
noncomputable def zrU (t:WL) (u:WE):WE:=fun E σ S Q=>t E σ S fun ws S1=>u E σ S1 fun y S2=>match y with
 | .int i=>match atI ws i with
  |some w=>Q w S2
  |none=>False
 |_=>False
theorem zlt (ha:JL X a la) (hb:JE X b tb) (hs:ziL b:=by intro _ _;rfl):JE X (.Subscript a b pos) (zrU la tb):=fun E hE=>
 (zrq zoH (ha E hE) (hb E hE) hs).mono fun σ H Q ⟨σW,S,QW,hσ,hS,ht,hQ⟩=>⟨σW,S,_,hσ,hS,ht,fun ws S1 vs p H1 e1 fp ep np r1 hS1 h1=>⟨σW,S1,_,hσ.ext e1,hS1,h1,fun y S2 v2 H2 e2 r2 hS2 h2=>by
  cases r2 with
  |int i=>
   dsimp only at h2;split at h2
   ·obtain⟨v,ev,r⟩:=ziJ (r1.ext e2) ‹_›;exact .inl ⟨p,vs,i,v,rfl,rfl, .of (e2.fr p _ ep np).1,ev,hQ _ S2 _ H2 (e1.trans e2) r hS2 h2⟩
   ·exact h2.elim
  |_=>exact h2.elim⟩⟩
noncomputable def zjf (t:WE) (u:WL):WL:=fun E σ S Q=>t E σ S fun x S1=>u E σ S1 fun ys S2=>match x with
 | .ref a=>zcM S2 a fun xs=>xs.length+ys.length≤sizeLine∧Q (xs++ys) S2
 |_=>False
noncomputable def znx (t u:WL):WL:=fun E σ S Q=>t E σ S fun xs S1=>u E σ S1 fun ys S2=>xs.length+ys.length≤sizeLine∧Q (xs++ys) S2
theorem zfT (ha:JE X a ta) (hb:JL X b lb):JL X (.BinOp a .Add b pos) (zjf ta lb):=fun E hE=>
 (zoi zlg (ha E hE) (hb E hE)).mono fun σ H Q ⟨σW,S,QW,hσ,hS,ht,hQ⟩=>⟨σW,S,_,hσ,hS,ht,fun w1 S1 v1 H1 e1 r1 hS1 h1=>⟨σW,S1,_,hσ.ext e1,hS1,h1,fun ys S2 us q H2 e2 fq eq nq r2 hS2 h2=>by
  cases r1 with
  |ref p=>
   obtain⟨xs,ea,h⟩:=zbO h2;obtain⟨vs,f1,q1⟩:=hS2 p _ ea;exact⟨p,q,vs,us,rfl,rfl,f1,eq,by rw [←q1.length,←r2.length];exact h.1,fun p hp=>hQ _ S2 _ p _ ((e1.trans e2).trans (.new hp)) ((e1.trans e2).free hp) zaz (hS2.free hp) ((q1.append r2).ext (.new (S:=S2) hp)) (hS2.new hp) h.2⟩
  |_=>exact h2.elim⟩⟩
theorem zll (ha:JL X a la) (hb:JL X b lb):JL X (.BinOp a .Add b pos) (znx la lb):=fun E hE=>
 (zoi zlg (ha E hE) (hb E hE)).mono fun σ H Q ⟨σW,S,QW,hσ,hS,ht,hQ⟩=>⟨σW,S,_,hσ,hS,ht,fun xs S1 vs p H1 e1 fp ep np r1 hS1 h1=>⟨σW,S1,_,hσ.ext e1,hS1,h1,fun ys S2 us q H2 e2 fq eq nq r2 hS2 h2=>
  ⟨p,q,vs,us,rfl,rfl,(e2.fr p _ ep np).1,eq,by rw [←r1.length,←r2.length];exact h2.1,fun z hz=>hQ _ S2 _ z _ ((e1.trans e2).trans (.new hz)) ((e1.trans e2).free hz) zaz (hS2.free hz) (((r1.ext e2).append r2).ext (.new (S:=S2) hz)) (hS2.new hz) h2.2⟩⟩⟩
noncomputable def znf (t:WL) (u:WE):WL:=fun E σ S Q=>t E σ S fun xs S1=>u E σ S1 fun y S2=>match y with
 | .int k=>(-(2 ^ 63)≤k∧k<2 ^ 63∧xs.length*k.toNat≤sizeLine)∧Q (List.replicate k.toNat xs).flatten S2
 |_=>False
theorem Reps.rep{K:PySem.W.Frag}{H:Hp}{ws:List W}{vs:List V}(h:Reps K H ws vs):∀k:Nat,Reps K H (List.replicate k ws).flatten (List.replicate k vs).flatten
 |0=> .nil
 |k+1=>by
  rw [List.replicate_succ,List.replicate_succ,List.flatten_cons,List.flatten_cons];exact h.append (Reps.rep h k)
theorem zoL (ha:JL X a la) (hb:JE X b tb):JL X (.BinOp a .Mult b pos) (znf la tb):=fun E hE=>
 (zoi zrd (ha E hE) (hb E hE)).mono fun σ H Q ⟨σW,S,QW,hσ,hS,ht,hQ⟩=>⟨σW,S,_,hσ,hS,ht,fun xs S1 vs p H1 e1 fp ep np r1 hS1 h1=>⟨σW,S1,_,hσ.ext e1,hS1,h1,fun y S2 v2 H2 e2 r2 hS2 h2=>by
  cases r2 with
  |int k=>
   obtain⟨⟨k1,k2,k3⟩,h⟩:=h2;exact⟨p,k,vs,rfl,rfl,(e2.fr p _ ep np).1,k1,k2,by rw [←r1.length];exact k3,fun z hz=>hQ _ S2 _ z _ ((e1.trans e2).trans (.new hz)) ((e1.trans e2).free hz) zaz (hS2.free hz) (((r1.ext e2).rep k.toNat).ext (.new (S:=S2) hz)) (hS2.new hz) h⟩
  |_=>exact h2.elim⟩⟩
end
theorem znT{K:PySem.W.Frag}{H:Hp}{a:Addr}{ns:List Int}{c:WSp}{E:XK}(hO:ztt H) (hS:SqL K H a (ns.map V.int)) (h:c [.scr ns] (fun _=>none) (fun w _=>w= .bl true) (fun _ _=>False)):zaV K c [.ref a] H (fun v _=>v= .bl true) E:=by
 have fz:FzL K H a (ns.map V.int):=by
  rcases hS with(hS |⟨o,hS⟩) |hS
  ·rcases hO a with z |⟨o,xs,z⟩
   ·rw [hS]at z;cases z
   ·rw [hS]at z;cases z
  ·exact .inl ⟨o,hS⟩
  ·exact .inr hS
 refine⟨[.scr ns],fun _=>none,_,fun _ _=>False, .one (.scr fz),(fun a o e=>by cases e),h,fun w S v H' e r hS' q=>?_,fun _ _ _ _ _ _ z=>z.elim⟩
 subst q;cases r;rfl
section
noncomputable def ztx:W2
 | .tup xs, .int k,S,Q=>(xs≠ []∧ -(2 ^ 63)≤k∧k<2 ^ 63∧xs.length*k.toNat≤sizeLine)∧Q (.tup (List.replicate k.toNat xs).flatten) S
 |_,_,_,_=>False
end
section
variable {K:PySem.W.Frag}{H:Hp}
noncomputable abbrev RepD (K:PySem.W.Frag) (H:Hp):List (List Int×W)→List (List Key×V)→Prop:=Paired fun q p=>p.1=q.1.map Sum.inl∧Rep K H q.2 p.2
theorem RepD.length{kvs:List (List Int×W)}{ps:List (List Key×V)}(r:RepD K H kvs ps):kvs.length=ps.length:=Paired.length r
end
section
noncomputable def zse:WMf:=fun w ws S Q=>match w,ws with
 | .str z,[]=>z.length≤5592405∧Q (.str (Txt.upper z)) S
 |_,_=>False
end
end L2
end
section
namespace L2
open PySem PySem.Spec PyProof.Rows PySem.W PySem.Calls Builtin Builtin.ObjectAttr Builtin.Getset_descriptor
structure XcOk (K:Frag) (C:Addr):Prop where
  ga:findIn K (.ref C) "__getattribute__" =some (some (.builtin "BaseException.__getattribute__"))
  gt:findIn K (.ref C) "__getattr__" =some none
  cl:findIn K (.ref C) "__class__" =some (some (.builtin "object.__class__"))
  ob:mroIn K C (.type "object")=some true
  be:mroIn K C (.type "BaseException")=some true
section
variable {prog:Program}{w:World}{A:Around}{E:Value→Shared→Prop}{h:Heap}{g:Array GenState}{d:Drawn}{t:Nat}{os:OsState}{a C:Addr}{o:Obj}{K:Frag}
theorem zqm{M:Model}(hx:h.get? a=some o) (hc:o.cls= .ref C):Looks M h (typeOf (.ref a)) (.ref C):=hc▸(Looks.ld hx).andThen .now
theorem zrb{R:Result→Shared→Prop}(O:XcOk K C) (X:K.In h) (hx:h.get? a=some o) (hc:o.cls= .ref C) (hq:R (.ok (.ret (.ref C))) ⟨h,g,d,t,os⟩) :
  codeAny (model prog w) A (.call (.builtin "getset_descriptor.__get__") ⟨[.builtin "object.__class__", .ref a, .ref C],[]⟩) R ⟨h,g,d,t,os⟩:=by
 have L0:=zqm (M:=model prog w) hx hc;have L1:=looks_mroIn (M:=model prog w) X O.ob;refine codeAny_call_builtin KF.slot_gs.plain KF.entry_gs (KF.slot_gs.check _ _ _ _ _ _ _ _ KF.type_class (KF.args_gs _ _ _) ?_);unfold Builtin.«getset_descriptor.__get__» descrGet;rw [dga_obj];refine wpAny_bind (wpAny_pure ?_);unfold descrGetter descrCheckInstance descrNameAndClass isInstance;simp only[KF.owner_class]
 repeat lk
 refine⟨Code.quiet_builtin _ (by decide +kernel),codeAny_builtin KF.entry_class ?_⟩;unfold Builtin.«object.__class__» shownTypeOf
 repeat lk
 exact hq
theorem znU{tk:Tok}{Q:Fin→Shared→Prop}(O:XcOk K C) (X:K.In h) (hx:h.get? a=some o) (hc:o.cls= .ref C) (hq:Q (.done (.ret (.ref C))) ⟨h,g,d,t,os⟩) :
  wpAny (model prog w) A (Builtin.«object.__getattribute__» ⟨[.ref a, .str "__class__" tk],[]⟩) Q E ⟨h,g,d,t,os⟩:=by
 have hT5:(⟨h,g,d,t,os⟩:Shared).TypeIs (.builtin "object.__class__") "getset_descriptor" :=F.typeOf_object_class;have f5:=F.typeOf_object_class;have f6:=F.slot_gs_get.lookup;have f7:=F.slot_gs_set.lookup;have L1:=looks_findIn (M:=model prog w) X O.cl
 repeat (any_goals (first |assumption | (with_reducible refine wpAny_loadPart_at hx ?_;rw [hc]) |with_reducible refine L1.at ?_ |wp_step))
 refine zrb O X hx hc ?_
 repeat (any_goals (first |assumption |wp_step))
theorem znJ{M:Model}{nameV:Value}{Q:Unit→Shared→Prop}(O:XcOk K C) (X:K.In h) (hx:h.get? a=some o) (hc:o.cls= .ref C) (hq:Q () ⟨h,g,d,t,os⟩):wpAny M A (checkBuiltinCall "BaseException.__getattribute__" ⟨[.ref a,nameV],[]⟩) Q E ⟨h,g,d,t,os⟩:=by
 have hk:builtinKind "BaseException.__getattribute__" =some .slot:=by decide +kernel
 have hsplit:splitId "BaseException.__getattribute__" =some ("BaseException", "__getattribute__"):=by decide +kernel
 have L1:=looks_mroIn (M:=M) X O.be;have ha:=F.args_bexc_ga (.ref a) nameV;simp only[checkBuiltinCall,hk,hsplit];refine wpAny_bind ?_;unfold isInstance
 repeat (first | (with_reducible refine wpAny_loadPart_at hx ?_;rw [hc]) |with_reducible refine L1.at ?_ |wp_step)
 exact hq
theorem zqA{tk:Tok}{R:Result→Shared→Prop}(O:XcOk K C) (X:K.In h) (hx:h.get? a=some o) (hc:o.cls= .ref C) (hq:R (.ok (.ret (.ref C))) ⟨h,g,d,t,os⟩) :
  codeAny (model prog w) A (.call (.builtin "BaseException.__getattribute__") ⟨[.ref a, .str "__class__" tk],[]⟩) R ⟨h,g,d,t,os⟩:=
 codeAny_call_builtin F.excAttr_ValueError.ga.plain F.entry_bexc_ga (znJ O X hx hc (znU O X hx hc hq))
theorem zuf{tk:Tok}{fill expr:Bool}{Q:Value→Shared→Prop}(O:XcOk K C) (X:K.In h) (hx:h.get? a=some o) (hc:o.cls= .ref C) (hq:Q (.ref C) ⟨h,g,d,t,os⟩) :
  wpAny (model prog w) A (getAttrBy (.ref a) (.str "__class__" tk) fill expr) Q E ⟨h,g,d,t,os⟩:=by
 have f3:=F.excAttr_ValueError.ga.bind (.ref a);have hx0:(expr&&onTheHeap (Value.builtin "BaseException.__getattribute__"))=false:=by cases expr<;>rfl
 have hx2:(Value.builtin "BaseException.__getattribute__" == Value.builtin "object.__getattribute__")=false:=by decide +kernel
 have hx1:(onTheHeap (Value.ref C)&&Value.builtin "BaseException.__getattribute__" == Value.builtin "object.__getattribute__")=false:=by rw [hx2];rfl
 have L1:=looks_findIn (M:=model prog w) X O.ga;have L2:=looks_findIn (M:=model prog w) X O.gt
 repeat (any_goals (first |assumption | (with_reducible refine wpAny_loadPart_at hx ?_;rw [hc]) |with_reducible refine L1.at ?_ |with_reducible refine L2.at ?_ |wp_step))
 refine zqA O X hx hc ?_
 repeat (any_goals (first |assumption |wp_step))
theorem zpC{Q:Option Value→Shared→Prop}(O:XcOk K C) (X:K.In h) (hx:h.get? a=some o) (hc:o.cls= .ref C) (hq:Q (some (.ref C)) ⟨h,g,d,t+1,os⟩):wpAny (model prog w) A (getAttr? (.ref a) "__class__") Q E ⟨h,g,d,t,os⟩:=by
 unfold getAttr? getAttrBy?
 repeat (any_goals (first |assumption |with_reducible apply zuf O X hx hc |wp_step))
theorem zov (O:XcOk K C):KitX K (.ref a) (.ref C) (fun h=>∃o,h.get? a=some o∧o.cls= .ref C) where
  ty:=fun _ _ _ ⟨o,hx,hc⟩=>zqm hx hc
  it:=fun _ _ X _=>by
    obtain⟨cd,hcD,_⟩:=Option.bind_eq_some_iff.mp O.ob;unfold clsIn at hcD;split at hcD
    · rename_i c' d' cd' sl' ho;intro A' Q' E' s' k q;unfold isType loadHead;exact wpAny_bind (wpAny_loadPart (k _ _ (X _ _ ho)) (wpAny_pure q))
    · cases hcD
  ne:=fun h tp dd its n sl X htp=>by
    obtain⟨cd,hcD,_⟩:=Option.bind_eq_some_iff.mp O.ob;refine Bool.eq_false_iff.mpr fun q=>?_;have e:C=tp:=Value.ref.inj (beq_iff_eq.mp q);subst e;unfold clsIn at hcD;split at hcD
    · rename_i c' d' cd' sl' ho;have z:=(X _ _ ho).symm.trans htp;cases z
    · cases hcD
  ca:=fun {_ _ _ _ _ s} X ⟨o,hx,hc⟩ k=>by
    obtain⟨h,g,d,t,os⟩:=s;exact zpC O X hx hc k
end
noncomputable abbrev bmV:List Value:=[.type "ValueError", .type "Exception", .type "BaseException", .type "object"]
structure XcIn (K:PySem.W.Frag) (x:Str) (C:Addr):Prop where
  nm:PySem.W.nsIn K mainGlobals x=some (some (.ref C))
  ex:PySem.W.excIn K C bmV "ValueError.__new__" =true
  xc:XcOk K C
theorem XcIn.own{K:PySem.W.Frag}{x:Str}{C:Addr}{h:Heap}{mg:Str→Option Value}(O:XcIn K x C) (X:K.In h) (G:h.Ns mainGlobals mg):OwnCls x C bmV "ValueError.__new__" mg h:=by
 have q:=O.ex;refine⟨PySem.W.mg_of X G O.nm,?_⟩;unfold PySem.W.excIn at q;split at q
 ·rename_i dd cd sl ho;split at q
  ·rename_i C' bm k0 k1 k2 k3 n k5 hm hs;simp only[Bool.and_eq_true,beq_iff_eq,Bool.not_eq_true']at q;obtain⟨⟨⟨⟨⟨rfl,hnn⟩,hdel⟩,ht⟩,hok⟩,hni⟩:=q;obtain⟨nm,bs,mro,ns,qn,hd,sn,sub,ab,col,del⟩:=cd;dsimp only at hm hdel hok hni;subst hm hdel;have hsl:sl= #[k0,k1,k2,k3,some (.builtin n),k5]:=by
    obtain⟨l⟩:=sl;simp only at hs;rw [hs]
   subst hsl;subst hnn;exact⟨bm,ns,nm,qn,bs,hd,sn,sub,ab,col,dd,k0,k1,k2,k3,k5,_,X _ _ ho, .of_isNs (PySem.W.isNs_of_in X hok),PySem.W.nsMap_none_of_in X hok hni,PySem.W.tail_of_in X ht⟩
  ·cases q
 ·cases q
noncomputable def zeI (x:Str) (t:WA):WS:=fun E _ σ S=>t E σ S fun ws S1=>ws.length≤sizeLine∧E x σ S1
theorem zdy{X:Cx}{x:Str}{C:Addr}{e:Expr}{es:List Expr}{t:WA}{np cpos pos:Pos}(O:XcIn X.K x C) (hg:Gl X x) (hm:X.mg x=some (.ref C)) (ha:JA X (e::es) t) (hcl:X.calm=true:=by rfl) (hdb:(x == ("__debug__" :Str))=false:=by decide)
  (he:starEach (e::es) X.env=(false,eval e X.env)::starEach es X.env:=by rfl) (hpl:(backTo cpos (starEach es X.env)).any (·.1)=false:=by rfl) :
  JS X (.Raise (some (.Call (.Name x np) (e::es) [] cpos)) none pos) (zeI x t):=fun E hE pins s σ H D I z=>by
 obtain⟨σW,S,DW,hσ,hS,ht,hD⟩:=z;have OC:=(O.own I.mod.kin I.mod.glob).keeps I.bk;obtain⟨tl,N,nm,q,bs,hdct,sn,sub,ab,col,dd,k0,k1,k2,k3,k5,mN,hC,hN,hni,T⟩:=(O.own I.mod.kin I.mod.glob).obj;refine wpAny_Raise_call_subT (C:=C) (nm:=nm) (q:=q) (N:=N) (bs:=bs) (bm:=tl) (hdct:=hdct) (sn:=sn) (sub:=sub) (ab:=ab) (col:=col) (dd:=dd) (k0:=k0) (k1:=k1) (k2:=k2) (k3:=k3) (k5:=k5)
  F.excBase_ValueError (mN:=mN) (T.hasType F.excBase_ValueError.hasBase) (I.ok.hd hcl) (by rw [he];show(false || (backTo cpos (starEach es X.env)).any (·.1))=false;rw [hpl];rfl) hni (zfl I hg hm ⟨rfl,?_⟩ hdb)
 have go:=ha E hE cpos pins s σ H (fun vs H1=>∃ws S1,Reps X.K H1 ws vs∧RpSt X.K H1 σW σ∧RepS X.K H1 S1∧ws.length≤sizeLine∧E x σW S1) I ⟨σW,S,_,hσ,hS,ht,fun ws S1 vs H1 e1 r1 hS1 h1=>⟨ws,S1,r1,hσ.ext e1,hS1,h1.1,h1.2⟩⟩;rw [he]at go⊢;refine Calls.evalArgs_plain (wpAny_mono go (fun us s2 ⟨vs,H1,I1,r,ws,S1,r1,hσ1,hS1,hl,h1⟩=>?_) fun _ _ y=>y);refine⟨rfl,by rw [←r.length,←r1.length];exact hl,I1.bk _ _ hC,hN.keeps I1.bk,T.keeps I1.bk,fun h' a me=>?_⟩
 exact hE.near pins σ H1 s2 σW x C a S1 h' us I1 hσ1 O.nm me hS1 h1
noncomputable abbrev noX:WX:=fun _ _ _=>False
theorem zqD{X:Cx}(h:PassesOwn (model X.prog X.w) X.A X.env X.xe):Hook X noX:=⟨h,fun _ _ _ _ _ _ _ _ _ _ _ _ _ _ _ _ _ _ _ _ z=>z.elim,fun _ _ _ _ _ _ _ _ _ _ _ _ _ _ _ _ z=>z.elim⟩
noncomputable abbrev Cx.at (X:Cx) (pn:List (Addr×Obj)) (E:Value→Shared→Prop):Cx:={ X with pn:=pn,xe:=E }
section
variable {X:Cx}{pins pins':List (Addr×Obj)}{σ:St}{H:Hp}{s:Shared}{E:Value→Shared→Prop}
theorem Cx.Ok.at (ok:X.Ok) (pn:List (Addr×Obj)) (E:Value→Shared→Prop):(X.at pn E).Ok:=
 ⟨ok.mod,ok.kind,ok.glob,ok.blt,ok.above,ok.inj,ok.has,ok.cab,ok.hd,ok.frames,ok.stk,ok.exf,ok.bs,ok.bsz,ok.noex,ok.exfs,ok.funs,ok.frf⟩
theorem Cx.Ok.unat{pn:List (Addr×Obj)}(ok:(X.at pn E).Ok):X.Ok:=
 ⟨ok.mod,ok.kind,ok.glob,ok.blt,ok.above,ok.inj,ok.has,ok.cab,ok.hd,ok.frames,ok.stk,ok.exf,ok.bs,ok.bsz,ok.noex,ok.exfs,ok.funs,ok.frf⟩
theorem Inv.at (I:Inv X pins σ H s) (E:Value→Shared→Prop):Inv (X.at (X.pn++pins) E) [] σ H s:=⟨I.ok.at _ E,I.os,I.bare,I.base,I.loc,I.cell,I.free,I.freeC,fun p hp=>I.pin p (by simpa using hp),I.hok,I.len⟩
theorem Inv.unat (I:Inv (X.at (X.pn++pins) E) pins' σ H s):Inv X pins σ H s:=⟨I.ok.unat,I.os,I.bare,I.base,I.loc,I.cell,I.free,I.freeC,fun p hp=>I.pin p (List.mem_append_left _ hp),I.hok,I.len⟩
theorem SP.unat{D:Ends}{f:Flow}{s':Shared}(h:SP (X.at (X.pn++pins) E) [] D f s'):SP X pins D f s':=by
 cases f with
 |next=>obtain⟨σ',H',I,q⟩:=h;exact⟨σ',H',I.unat,q⟩
 |brk=>obtain⟨σ',H',I,q⟩:=h;exact⟨σ',H',I.unat,q⟩
 |cont=>obtain⟨σ',H',I,q⟩:=h;exact⟨σ',H',I.unat,q⟩
 |ret u=>obtain⟨v,σ',H',I,r,q⟩:=h;exact⟨v,σ',H',I.unat,r,q⟩
end
noncomputable def Falls (X:Cx) (pins:List (Addr×Obj)) (σ:St) (σW:WSt) (H:Hp) (S:Sto) (E:WX) (e:Value) (s':Shared):Prop:=∃(cl:Str) (C a:Addr) (H1:Hp) (s1:Shared) (H':Hp) (S':Sto),e= .ref a∧PySem.W.nsIn X.K mainGlobals cl=some (some (.ref C))∧Inv X pins σ H1 s1∧
 s'.os=s1.os∧AllBare s'.gens∧Un (frs X.stack) [] H1 H' s1.heap s'.heap∧HOk X.prog X.w H' s'.heap∧Fly s1.heap s'.heap H' a C∧Ext H S H' S'∧RepS X.K H' S'∧E cl σW S'
theorem Falls.from{X:Cx}{pins:List (Addr×Obj)}{σ:St}{σW:WSt}{H H1:Hp}{S S1:Sto}{E:WX}{v:Value}{s':Shared}(e:Ext H S H1 S1) (h:Falls X pins σ σW H1 S1 E v s'):Falls X pins σ σW H S E v s':=by
 obtain⟨cl,C,a,H2,s1,H',S',a1,a2,a3,a4,a5,a6,a7,a8,a9,a10⟩:=h;exact⟨cl,C,a,H2,s1,H',S',a1,a2,a3,a4,a5,a6,a7,a8,e.trans a9,a10⟩
noncomputable def zty (X:Cx) (E:WX) (t:WE):TE:=fun σ H Q=>∃σW S QW,RpSt X.K H σW σ∧RepS X.K H S∧t E σW S QW∧Wish X.K H S QW Q∧ ∀pins e s',Falls X pins σ σW H S E e s'→X.xe e s'
noncomputable def zoC (X:Cx) (E:WX) (t:WS):TS:=fun D σ H=>∃σW S DW,RpSt X.K H σW σ∧RepS X.K H S∧t E DW σW S∧Meets X.K H S DW D∧ ∀pins e s',Falls X pins σ σW H S E e s'→X.xe e s'
noncomputable def JXE (X:Cx) (e:Expr) (t:WE):Prop:=∀E,PassesOwn (model X.prog X.w) X.A X.env X.xe→PE X e (zty X E t)
noncomputable def JXS (X:Cx) (st:Stmt) (t:WS):Prop:=∀E,PassesOwn (model X.prog X.w) X.A X.env X.xe→PS X st (zoC X E t)
noncomputable def JXs (X:Cx) (st:List Stmt) (t:WS):Prop:=∀E,PassesOwn (model X.prog X.w) X.A X.env X.xe→PSs X st (zoC X E t)
noncomputable def zhs (c:WSp) (t:WA):WE:=fun E σ S Q=>t noX σ S fun ws S1=>c ws S1 Q fun cl S2=>E cl σ S2
noncomputable def ztu (c:WT) (t u:WS):WS:=fun E D σ S=>c noX σ S fun b S1=>if b=true then t E D σ S1 else u E D σ S1
section
variable {X:Cx}{k:Nat}{f:Addr}{fd:FuncData}{ps:List Str}{c:WSp}{x:Str}{p pos:Pos}{e cond:Expr}{es:List Expr}{t:WA}{te:WE}{tc:WT}{st:Stmt}{a b:List Stmt}{ta tb:WS}
theorem ziS (F:FnOk X.prog X.w X.K X.mg X.base (CX1 X.prog X.w) k f fd ps (zaV X.K c)) (hr:Room k X.A) (hg:Gl X x) (hm:X.mg x=some (.ref f)) (hk:PySem.W.keepIn X.K (.ref f)=true) (hb:Binds X.K fd ps [])
  (ha:JA X (e::es) t) (hdb:(x == ("__debug__" :Str))=false:=by decide) (he:starEach (e::es) X.env=(false,eval e X.env)::starEach es X.env:=by rfl) (hpl:(backTo pos (starEach es X.env)).any (·.1)=false:=by rfl) :
  JXE X (.Call (.Name x p) (e::es) [] pos) (zhs c t):=fun E hp pins s σ H Q I h=>by
 obtain⟨σW,S,QW,hσ,hS,ht,hQ,hF⟩:=h;refine wpAny_Call_Name_kw (zfl I hg hm ?_ hdb);refine PySem.W.callWith_K (h₀:=X.base) I.ok.mod.kin hk (thn (ha noX (zqD hp) pos pins s σ H (fun vs H1=>∃ws S1,Reps X.K H1 ws vs∧RpSt X.K H1 σW σ∧RepS X.K H1 S1∧c ws S1 QW (fun cl S'=>E cl σW S')∧Wish X.K H1 S1 QW Q∧Ext H S H1 S1) I
  ⟨σW,S,_,hσ,hS,ht,fun ws S1 vs H1 e1 r1 hS1 h1=>⟨ws,S1,r1,hσ.ext e1,hS1,h1,hQ.from e1,e1⟩⟩) fun us s1 ⟨vs,H1,I1,r,ws,S1,r1,hσ1,hS1,h1,hQ1,e1⟩=>⟨I1.kIn,?_⟩) he hpl
 exact zsP (E:=E) F hr hb I1 r r1 hσ1 hS1 h1 hQ1 fun cl C a H' S' s' hn os bare un ok fly ex hS' q=>hF pins _ s' ⟨cl,C,a,H1,s1,H',S',rfl,hn,I1,os,bare,un,ok,fly,e1.trans ex,hS',q⟩
theorem zmq{i:Nat}{pos':Pos}(hN:X.N.Nodup) (hi:X.N[i]? =some x) (hx:Loc X.env.scope x) (he:JXE X e te) (hs:swapsWith e (some (.Name x pos')) pos.line X.env=pure false:=by rfl)
  (hf:X.fn x=true∨X.env.scope.names.lookup x=some .local:=by first |exact .inl rfl |exact .inr rfl |assumption):JXS X (.Assign [.Name x pos'] e pos) (wAsg te (wGN i)):=fun E hp=>
 (zoN hN hi hx (he E hp) hs hf).mono fun D σ H ⟨σW,S,DW,hσ,hS,ht,hD,hF⟩=>⟨σW,S,_,hσ,hS,ht,fun w S1 v H1 e1 r1 hS1 h1=>hD.nx _ S1 _ H1 e1 ((hσ.ext e1).set r1 i) hS1 h1,hF⟩
theorem ztf (hc:JT X cond tc) (ha:JXs X a ta) (hb:JXs X b tb):JXS X (.If cond a b pos) (ztu tc ta tb):=fun E hp=>
 (zrH (hc noX (zqD hp)) (ha E hp) (hb E hp)).mono fun D σ H ⟨σW,S,DW,hσ,hS,ht,hD,hF⟩=>⟨σW,S,_,hσ,hS,ht,fun k S1 H1 e1 hS1 h1=>by
  cases k with
  |true=>exact⟨σW,S1,DW,hσ.ext e1,hS1,h1,hD.from e1,fun pins e s' F=>hF pins e s' (F.from e1)⟩
  |false=>exact⟨σW,S1,DW,hσ.ext e1,hS1,h1,hD.from e1,fun pins e s' F=>hF pins e s' (F.from e1)⟩⟩
theorem zhz (h:JXS X st ta):JXs X [st] ta:=fun E hp=>zle (h E hp)
end
theorem zry{P:Program}{w:World}{base g h h3:Heap}{l:List Env}{H1 H':Hp}{a C:Addr}{hid:List Addr}(un:Un (frs l) [] H1 H' g h) (ok:HOk P w H' h) (ff0:h.FunFrames base l) (fr:∀b∈frs l,H' b=none)
  (h0:∀b∈hid,g.get? b=none∧H' b=none) (ha:a∈hid) (L:Heap.Left (PySem.W.hideAll h (hid++frs l)) l a (.ref C) h h3):Un (frs l) [] H1 H' g h3∧HOk P w H' h3∧Fly g h3 H' a C:=by
 obtain⟨st,ff,tr,sl⟩:=L;have keepB:∀b o,h.get? b=some o→b∉hid→b∉frs l→h3.get? b=some o:=fun b o e h1 h2=>st b o (PySem.W.hideAll_get _ e fun z=>(List.mem_append.mp z).elim h1 h2);have nh:∀b o,g.get? b=some o→b∉hid:=fun b o e hb=>by rw [(h0 b hb).1]at e;cases e
 have slotB:∀b o,b∈frs l→h.get? b=some o→ ∃sl,h3.get? b=some { o with slots:=sl }:=fun b o hb e=>by
  obtain⟨_,o',eo',nf⟩:=ff0.mem hb;rw [e]at eo';cases eo';exact sl b o e nf
 have nx:∀b:Addr,b∉([]:List Addr):=fun b=>by simp
 refine⟨⟨fun b o e n hb _=>keepB b o (un.keep b o e n hb (nx b)) (nh b o e) hb,fun b o e n hb _=>?_,fun b o e n _=>un.free b o e n (nx b),fun b o e _=>?_,un.tups,un.frzs,un.tbls⟩,fun b o e=>?_,(h0 a ha).1,(h0 a ha).2,?_⟩
 ·obtain⟨sl1,e1⟩:=un.slot b o e n hb (nx b);obtain⟨sl2,e2⟩:=slotB b _ hb e1;exact⟨sl2,e2⟩
 ·obtain⟨o',e1⟩:=un.there b o e (nx b);by_cases hb:b∈frs l
  ·obtain⟨sl2,e2⟩:=slotB b _ hb e1;exact⟨_,e2⟩
  ·exact⟨o',keepB b o' e1 (nh b o e) hb⟩
 ·refine(ok b o e).stay (fun c u hc q=>?_) (fun _ q=>q) fun _ _ q=>q;have tk:∃v,H' c=some v:=by
   rcases hc with z |z
   ·exact⟨o,by rw [z];exact e⟩
   ·exact⟨_,z⟩
  obtain⟨v,tk⟩:=tk;exact keepB c u q (fun z=>by rw [(h0 c z).2]at tk;cases tk) fun z=>by rw [fr c z]at tk;cases tk
 ·obtain⟨oe,vs,T,oT,ts,e1,e2,e3,e4,e5,e6,e7,e8,e9⟩:=tr;have nf:T∉frs l:=fun hb=>by
   obtain⟨_,o,eo,nf⟩:=ff.mem hb;rw [e7]at eo;cases eo;exact nf ts e8
  have both:g.get? T=none∧H' T=none:=by
   by_cases hT:T∈hid
   ·exact h0 T hT
   ·have z:h.get? T=none:=by
     cases q:h.get? T with
     |none=>rfl
     |some o=>
      rw [PySem.W.hideAll_get _ q fun z=>(List.mem_append.mp z).elim hT nf]at e5;cases e5
    constructor
    ·cases q:g.get? T with
     |none=>rfl
     |some o=>obtain⟨o',q'⟩:=un.there T o q (nx T);rw [z]at q';cases q'
    ·cases q:H' T with
     |none=>rfl
     |some u=>obtain⟨o',q'⟩:=(ok T u q).ex;rw [z]at q';cases q'
  exact⟨oe,vs,T,oT,ts,e1,e2,e3,e4,both.1,both.2,e6,e7,e8,e9⟩
theorem Heap.TracedW.tr{h base:Heap}{e:Addr}{cls a0:Value}(x:Heap.TracedW h base e cls a0):Heap.Traced h base e cls:=by
 obtain⟨oe,vs,T,oT,ts,he,⟨hcls,h0⟩,r⟩:=x;exact⟨oe,vs,T,oT,ts,he,hcls,r⟩
section
variable {X:Cx}{pins:List (Addr×Obj)}{σ:St}{H1 H':Hp}{s1 s':Shared}{a C:Addr}{M:Model}{A:Around}{E:Value→Shared→Prop}{R:Shared→Prop}
theorem zmD (I1:Inv X pins σ H1 s1) (hst:X.stack=X.env::X.outer) (hf:X.env.frame=some X.env.locals) (os:s'.os=s1.os) (bare:AllBare s'.gens) (un:Un (frs X.stack) [] H1 H' s1.heap s'.heap) (ok:HOk X.prog X.w H' s'.heap) (fly:Fly s1.heap s'.heap H' a C) (hA:A.frames=some X.stack)
  (k:∀h3,Inv X pins σ H' { s' with heap:=h3 }→Un (frs X.stack) [] H1 H' s1.heap h3→HOk X.prog X.w H' h3→Fly s1.heap h3 H' a C→R { s' with heap:=h3 }) :
  wpAny M A (noteFrame (.ref a) X.env) (fun _ s₂=>wpAny M A (setFlight (.ref a) none) (fun _ s₃=>R s₃) E s₂) E s':=by
 have I2:Inv X pins σ H' s':=I1.call' os un ok bare (fun _ z=>nomatch z);have ff:=I2.stack;have fr:=I2.stkFree;obtain⟨g1,g2,oe,vs,T,oT,ts,e1,e2,e3,e4,g3,g4,e5,e6,e7,e8⟩:=fly;have sz:1<vs.size:=(Array.getElem?_eq_some_iff.mp e4).1;have hid:∀b∈ [a,T],s1.heap.get? b=none∧H' b=none:=fun b hb=>by
  rcases List.mem_cons.mp hb with rfl |hb
  ·exact⟨g1,g2⟩
  ·rw [List.mem_singleton.mp hb];exact⟨g3,g4⟩
 have st:∀h3,Heap.Left (PySem.W.hideAll s'.heap ([a,T]++frs X.stack)) X.stack a (.ref C) s'.heap h3→R { s' with heap:=h3 }:=fun h3 L=>by
  obtain⟨u1,u2,u3⟩:=zry un ok ff fr hid (by simp) L;exact k h3 (I1.call' (s':={ s' with heap:=h3 }) os u1 u2 bare (fun _ z=>nomatch z)) u1 u2 u3
 rw [hst]at hA ff st;refine wpAny_noteFrame_onW (base:=PySem.W.hideAll s'.heap ([a,T]++frs (X.env::X.outer))) (cls:= .ref C) (a0:=vs[0]) hA (zgT ff) hf ⟨oe,vs,T,oT,ts,e1,⟨e2,Array.getElem?_eq_getElem _⟩,e3,e4,PySem.W.hideAll_none _ (by simp),e5,e6,e7,e8⟩ (fun b o z=>PySem.W.of_hideAll _ z) (PySem.W.hideAll_none _ (by simp)) fun h2 N=>?_;obtain⟨n1,n2,n3,n4⟩:=N;refine wpAny_setFlight_noneW (s:={ s' with heap:=h2 }) n1 n2 n3 fun h3 k1 k2 k3 k4=>?_;exact st h3 ⟨k1,k2,Heap.TracedW.tr k3,fun b o e nf=>by
  obtain⟨sl,z⟩:=n4 b o e nf;exact⟨sl,k4 b _ z nf⟩⟩
theorem zuZ (I1:Inv X pins σ H1 s1) (os:s'.os=s1.os) (bare:AllBare s'.gens) (un:Un (frs X.stack) [] H1 H' s1.heap s'.heap) (ok:HOk X.prog X.w H' s'.heap) (fly:Fly s1.heap s'.heap H' a C)
  (k:∀h3,Inv X pins σ H' { s' with heap:=h3 }→Fly s1.heap h3 H' a C→R { s' with heap:=h3 }):wpAny M A (setFlight (.ref a) none) (fun _ s₃=>R s₃) E s':=by
 have I2:Inv X pins σ H' s':=I1.call' os un ok bare (fun _ z=>nomatch z);have ff:=I2.stack;have fr:=I2.stkFree;obtain⟨g1,g2,oe,vs,T,oT,ts,e1,e2,e3,e4,g3,g4,e5,e6,e7,e8⟩:=fly;have sz:1<vs.size:=(Array.getElem?_eq_some_iff.mp e4).1;have hid:∀b∈ [a,T],s1.heap.get? b=none∧H' b=none:=fun b hb=>by
  rcases List.mem_cons.mp hb with rfl |hb
  ·exact⟨g1,g2⟩
  ·rw [List.mem_singleton.mp hb];exact⟨g3,g4⟩
 refine wpAny_setFlight_noneW (base:=PySem.W.hideAll s'.heap ([a,T]++frs X.stack)) (l:=X.stack) (cls:= .ref C) (a0:=vs[0]) (fl:= .none) (fun b o z=>PySem.W.of_hideAll _ z) (zgT ff) ⟨oe,vs,T,oT,ts,e1,⟨e2,Array.getElem?_eq_getElem _⟩,e3,e4,PySem.W.hideAll_none _ (by simp),e5,e6,e7,e8⟩ fun h3 k1 k2 k3 k4=>?_;obtain⟨u1,u2,u3⟩:=zry un ok ff fr hid (by simp) ⟨k1,k2,Heap.TracedW.tr k3,fun b o e nf=>⟨o.slots,k4 b o e nf⟩⟩;exact k h3 (I1.call' (s':={ s' with heap:=h3 }) os u1 u2 bare (fun _ z=>nomatch z)) u3
end
noncomputable abbrev Cx.hot (X:Cx) (a:Addr) (pn:List (Addr×Obj)):Cx:={ X with A:=X.A.mark (some (.ref a)),calm:=false,pn:=pn,xe:=fun _ _=>False }
section
variable {X:Cx}{pins pins':List (Addr×Obj)}{σ:St}{H:Hp}{s:Shared}{a:Addr}{oa:Obj}
theorem Cx.Ok.hot (ok:X.Ok) (a:Addr) (pn:List (Addr×Obj)):(X.hot a pn).Ok:=
 ⟨ok.mod,ok.kind,ok.glob,ok.blt,ok.above,ok.inj,ok.has,ok.cab,(fun z=>nomatch z),ok.frames,ok.stk,ok.exf,ok.bs,ok.bsz,ok.noex,ok.exfs,ok.funs,ok.frf⟩
theorem Inv.hot{vs:Array Value}(I:Inv X pins σ H s) (e:s.heap.get? a=some oa) (n:H a=none) (d:oa.data= .fields vs):Inv (X.hot a (X.pn++pins++[(a,oa)])) [] σ H s:=
 ⟨I.ok.hot a _,I.os,I.bare,I.base,I.loc,I.cell,I.free,I.freeC,(fun p hp=>by
  rw [List.append_nil]at hp;rcases List.mem_append.mp hp with hp |hp
  ·exact I.pin p hp
  ·rw [List.mem_singleton.mp hp];refine⟨e,n,fun z=>?_,fun z=>?_,fun v z=>?_⟩
   ·obtain⟨m,⟨o,es,ep,ho,hd,_⟩,_⟩:=I.loc;have e':s.heap.get? X.env.locals=some oa:=by rw [←show a=X.env.locals from z];exact e
    rw [ho]at e';cases e';rw [hd]at d;cases d
   ·obtain⟨_,o,ho,nf⟩:=I.funs.mem z;have e':s.heap.get? a=some o:=ho;rw [e]at e';cases e';exact nf vs d
   ·have z':oa.data= .cell v:=z;rw [d]at z';cases z'),I.hok,I.len⟩
theorem Inv.unhot (I0:X.Ok) (I:Inv (X.hot a (X.pn++pins++[(a,oa)])) pins' σ H s):Inv X pins σ H s:=
 ⟨I0,I.os,I.bare,I.base,I.loc,I.cell,I.free,I.freeC,fun p hp=>I.pin p (List.mem_append_left _ (List.mem_append_left _ hp)),I.hok,I.len⟩
theorem ztv{M:Model}{A:Around}{E:Value→Shared→Prop}{i:Nat}{n:Str}{pos:Pos}{Q:Unit→Shared→Prop}(I:Inv X pins σ H s) (hN:X.N.Nodup) (hi:X.N[i]? =some n) (hl:X.env.scope.names.lookup n=some .local)
  (h:∀s',Inv X pins (σ.set i none) H s'→Q () s'):wpAny M A (do bindName X.env n .none;unbindBehindTheSuite X.env n pos) Q E s:=by
 obtain⟨m,hn,hlk⟩:=id I.loc;have hcls:(X.env.scope.kind == .class || (X.env.scope.kind == .module&&X.env.locals != X.env.globals))=false:=by rw [I.ok.kind];rfl
 have hiσ:i<σ.length:=by rw [I.len];exact(List.getElem?_eq_some_iff.mp hi).1
 have cne:=I.cne;refine wpAny_nameGoes_keeps (show X.env.kindOf n=some .local from hl) hn hcls fun h' v hn' hs=>?_;obtain⟨oL,_,_,hoL,_⟩:=id hn;have lt:∀b o,X.s₀.heap.get? b=some o→b≠X.env.locals:=fun b o e=>Nat.ne_of_lt (Nat.lt_of_lt_of_le (Heap.lt_size e) I.ok.above);refine h _ ⟨I.ok,I.os,I.bare,⟨fun b o e n hb hx=>?_,fun b o e n hb hx=>?_,I.base.free,fun b o e hx=>?_,I.base.tups,I.base.frzs,I.base.tbls⟩,⟨_,hn',fun j y v' e1 e2 e3=>?_⟩,fun y c e=>?_,I.free,I.freeC,fun p hp=>?_,fun b ob e=>?_,by simpa using I.len⟩
 ·exact(hs.2 b (lt b o e)).trans (I.base.keep b o e n hb hx)
 ·obtain⟨sl,e1⟩:=I.base.slot b o e n hb hx;exact⟨sl,(hs.2 b (lt b o e)).trans e1⟩
 ·obtain⟨o',e1⟩:=I.base.there b o e hx;exact⟨o',(hs.2 b (lt b o e)).trans e1⟩
 ·by_cases hj:j=i
  ·subst hj;rw [List.getElem?_set_self hiσ]at e2;cases e2
  ·rw [List.getElem?_set_ne (Ne.symm hj)]at e2;obtain⟨u',r',q⟩:=hlk j y v' e1 e2 e3;refine⟨u',r',?_⟩;rcases q with⟨k,e⟩ |⟨k,c,e,z⟩
   ·refine .inl ⟨k,?_⟩;have:y≠n:=fun e=>hj (zhe hN e1 (e▸hi));simp [this,e]
   ·exact .inr ⟨k,c,e,z.sameBut hs (cne y c e)⟩
 ·obtain⟨w',z⟩:=I.cell y c e;exact⟨w',z.sameBut hs (cne y c e)⟩
 ·obtain⟨e,n,ne,nf,d⟩:=I.pin p hp;exact⟨(hs.2 p.1 ne).trans e,n,ne,nf,d⟩
 ·refine(I.hok b ob e).stay (fun c w' hc q=>(hs.2 c ?_).trans q) (fun _ q=>q) fun _ _ q=>q;rintro rfl;rcases hc with z |hc
  ·rw [←z,I.free]at e;cases e
  ·rw [I.free]at hc;cases hc
end
theorem RpSt.setN{K:PySem.W.Frag}{H:Hp}:∀{σW:WSt}{σ:St}(i:Nat),RpSt K H σW σ→RpSt K H (σW.set i none) (σ.set i none)
 |_,_,_, .nil=> .nil
 |_,_,0, .cons _ t=> .cons trivial t
 |_,_,i+1, .cons q t=> .cons q (RpSt.setN i t)
noncomputable def zmz (i:Nat) (al:List Str) (t:WS) (u:Str→Addr→WS):WS:=fun _ D σ S=>t (fun cl σ' S'=>cl∈al∧ ∀a,u cl a noX { nx:=fun σ'' S''=>D.nx (σ''.set i none) S'',rt:=D.rt,bk:=fun σ'' S''=>D.bk (σ''.set i none) S'',ct:=fun σ'' S''=>D.ct (σ''.set i none) S'' } (σ'.set i (some (.ref a))) S') D σ S
section
variable {X:Cx}{b:List Stmt}{x n:Str}{CT:Addr}{b₀:Stmt}{suite:List Stmt}{np hpos pos:Pos}{i:Nat}{t:WS}{u:Str→Addr→WS}{v:WS}{al:List Str}
theorem ztU{X:Cx}(h:X.xe=fun _ _=>False):Hook X noX:=zqD (by rw [h];exact PassesOwn.never)
theorem znh (hb:∀pn xe,JXs (X.at pn xe) b t)
  (hal:∀cl∈al,∃C,XcIn X.K cl C∧PySem.W.exmOne X.K (.ref C) (.ref CT)=some true∧ ∀(a:Addr) (oa:Obj) (pn:List (Addr×Obj)),(a,oa)∈pn→oa.cls= .ref C→JSs (X.hot a pn) (b₀::suite) (u cl a))
  (hg:Gl X x) (hm:X.mg x=some (.ref CT)) (hN:X.N.Nodup) (hi:X.N[i]? =some n) (hl:X.env.scope.names.lookup n=some .local) (hst:X.stack=X.env::X.outer:=by rfl) (hf:X.env.frame=some X.env.locals:=by rfl) (hdb:(x == ("__debug__" :Str))=false:=by decide) :
  JS X (.Try b [.ExceptHandler (some (.Name x np)) (some n) (b₀::suite) hpos] [] [] pos) (zmz i al t u):=fun E hE pins s σ H D I z=>by
 obtain⟨σW,S,DW,hσ,hS,ht,hD⟩:=z;refine wpAny_Try_except ?_;refine wpAny_mono (hb (X.pn++pins) (fun e s₁=>wpAny (model X.prog X.w) X.A (noteFrame e X.env) (fun _ s₂=>wpAny (model X.prog X.w) X.A (setFlight e none) (fun _ s₃=>wpAny (model X.prog X.w) X.A (handleBy e X.env [.ExceptHandler (some (.Name x np)) (some n) (b₀::suite) hpos]) (SP X pins D) X.xe s₃) X.xe s₂) X.xe s₁)
  _ PassesOwn.looking [] s σ H D (I.at _) ⟨σW,S,DW,hσ,hS,ht,hD,fun pins' e s' F=>?_⟩) (fun f s1 q=>?_) fun e s1 q=>q
 ·obtain⟨cl,C,a,H1,s1,H',S',rfl,hn,I1,os,bare,un,ok,fly,ex,hS',hcl,hu⟩:=F;obtain⟨C',O,hx,hs⟩:=hal cl hcl;have hn':PySem.W.nsIn X.K mainGlobals cl=some (some (.ref C)):=hn;have eC:C'=C:=by
   have:=O.nm;rw [hn']at this;exact(Value.ref.inj (Option.some.inj (Option.some.inj this))).symm
  subst eC;refine zmD (X:=X) (pins:=pins) I1.unat hst hf os bare un ok fly I.ok.frames fun h3 I3 u3 ok3 fly3=>?_;obtain⟨g1,g2,oe,vs,_,_,_,e1,e2,e3,_⟩:=id fly3;refine wpAny_handleBy_cons (codeAny_handlers_test ?_) (by intro q;cases q);refine zfl (X:=X.hot a (X.pn++pins++[(a,oe)])) (I3.hot e1 g2 e3) hg hm ?_ hdb;refine(PySem.W.exm_one I3.kIn (zqm e1 e2) hx).here ?_;refine codeAny_handlers_suite_as ?_;refine zuZ (X:=X) (pins:=pins) (s':={ s' with heap:=h3 }) I1.unat os bare u3 ok3 fly3 fun h4 I4 fly4=>?_;obtain⟨g1',g2',oe4,vs4,_,_,_,e1',e2',e3',_⟩:=id fly4;refine zfD (X:=X.hot a (X.pn++pins++[(a,oe4)])) (I4.hot e1' g2' e3') hN hi (.inl hl) (v:= .ref a) rfl (fun s5 I5=>?_) (.inr hl);have me:Meets X.K H' S' { nx:=fun σ'' S''=>DW.nx (σ''.set i none) S'',rt:=DW.rt,bk:=fun σ'' S''=>DW.bk (σ''.set i none) S'',ct:=fun σ'' S''=>DW.ct (σ''.set i none) S'' } { nx:=fun σ H=>D.nx (σ.set i none) H,rt:=D.rt,bk:=fun σ H=>D.bk (σ.set i none) H,ct:=fun σ H=>D.ct (σ.set i none) H }:=by
   have hD':=hD.from ex;exact⟨fun σW3 S3 σ3 H3 e3 r3 hS3 q=>hD'.nx _ S3 _ H3 e3 (r3.setN i) hS3 q,hD'.rt,fun σW3 S3 σ3 H3 e3 r3 hS3 q=>hD'.bk _ S3 _ H3 e3 (r3.setN i) hS3 q,fun σW3 S3 σ3 H3 e3 r3 hS3 q=>hD'.ct _ S3 _ H3 e3 (r3.setN i) hS3 q⟩
  refine wpAny_mono (hs a oe4 (X.pn++pins++[(a,oe4)]) (by simp) e2' noX (ztU rfl) [] s5 (σ.set i (some (.ref a))) H' _ I5 ⟨_,S',_,(hσ.ext ex).set (.ref a) i,hS',hu a,me⟩) (fun f s6 q=>?_) fun _ _ z=>z.elim;cases f with
  |next=>obtain⟨σ',H'',I6,q⟩:=q;exact ztv (I6.unhot I.ok) hN hi hl fun s7 I7=>⟨_,H'',I7,q⟩
  |brk=>obtain⟨σ',H'',I6,q⟩:=q;exact ztv (I6.unhot I.ok) hN hi hl fun s7 I7=>⟨_,H'',I7,q⟩
  |cont=>obtain⟨σ',H'',I6,q⟩:=q;exact ztv (I6.unhot I.ok) hN hi hl fun s7 I7=>⟨_,H'',I7,q⟩
  |ret w=>obtain⟨v,σ',H'',I6,r,q⟩:=q;exact ztv (I6.unhot I.ok) hN hi hl fun s7 I7=>⟨v,_,H'',I7,r,q⟩
 ·cases f with
  |next=>exact wpAny_execs_nil q.unat
  |ret v=>exact q.unat
  |brk=>exact q.unat
  |cont=>exact q.unat
end
section
variable {X:Cx}{a C:Addr}{oa:Obj}
theorem zjI (hp:(a,oa)∈X.pn) (hc:oa.cls= .ref C) (O:XcOk X.K C):CallR X (.builtin "isinstance") (fun xs H Q=>∃c b,((∃D,xs=[.ref a, .ref D]∧c=Value.ref D)∨(∃T,xs=[.ref a, .ty T]∧c=Value.type T))∧PySem.W.kitOne X.K (.ref C) c=some b∧Q (.bl b) H):=by
 intro pins s σ H xs us Q I r h;obtain⟨c,b,hx,e,q⟩:=h;have at':=(I.pin (a,oa) (List.mem_append_left _ hp)).1;have eu:us=[.ref a,c]:=by
  rcases hx with⟨D,rfl,rfl⟩ |⟨T,rfl,rfl⟩
  ·cases r with
   |cons r1 r2=>cases r2 with
    |cons r2 r3=>cases r3;cases r1;cases r2;rfl
  ·cases r with
   |cons r1 r2=>cases r2 with
    |cons r2 r3=>cases r3;cases r1;cases r2;rfl
 subst eu;exact PySem.W.kia_one (zov O) I.kIn ⟨oa,at',hc⟩ e (by intro z;cases z) fun tk=>⟨.bl b,H,I.tok tk,rfl,q⟩
end
noncomputable def zjd (i:Nat) (a:Addr) (b:Bool):WE:=fun _ σ S Q=>σ[i]? =some (some (.ref a))∧Q (.bl b) S
section
variable {X:Cx}{a C D:Addr}{oa:Obj}{i:Nat}{n x:Str}{b:Bool}{p p1 p2 pos:Pos}{T':String}
theorem zmp{K:PySem.W.Frag}{H:Hp}{v:V}(h:Rep K H (.ref a) v):v= .ref a:=by cases h;rfl
theorem zoG (hp:(a,oa)∈X.pn) (hc:oa.cls= .ref C) (O:XcOk X.K C) (hb:PySem.W.kitOne X.K (.ref C) (.ref D)=some b) (hg:Gl X "isinstance") (hm:X.mg "isinstance" =none) (hN:X.N[i]? =some n) (hv:Vis X.env.scope n) (hgD:Gl X x) (hmD:X.mg x=some (.ref D))
  (hd:(n == ("__debug__" :Str))=false:=by decide) (hcd:(n == ("__classdict__" :Str))=false:=by decide) (hdD:(x == ("__debug__" :Str))=false:=by decide)
  (he:starEach (.Name n p1::[.Name x p2]) X.env=(false,eval (.Name n p1) X.env)::starEach [.Name x p2] X.env:=by rfl) (hpl:(backTo pos (starEach [.Name x p2] X.env)).any (·.1)=false:=by rfl) (he2:starEach (.Name x p2::[]) X.env=(false,eval (.Name x p2) X.env)::starEach [] X.env:=by rfl) :
  JE X (.Call (.Name "isinstance" p) [.Name n p1, .Name x p2] [] pos) (zjd i a b):=fun E hE=>
 (zfj (zjI hp hc O) hg hm PyProof.Rows.boot_isinstance (zdC (zmd hN hv hd hcd) (zdC (zlY (v:= .ref D) hgD hmD rfl hdD) pa_nil he2) he) (by decide) (by decide) he hpl).mono fun σ H Q ⟨σW,S,QW,hσ,hS,⟨hi,h⟩,hQ⟩=>by
  obtain⟨v,e',r⟩:=hσ.get hi;have:=zmp r;subst this;exact⟨_,e', .ref D,b, .inl ⟨D,rfl,rfl⟩,hb,hQ (.bl b) S (.bl b) H .refl (.bl b) hS h⟩
theorem zpz (hp:(a,oa)∈X.pn) (hc:oa.cls= .ref C) (O:XcOk X.K C) (hb:PySem.W.kitOne X.K (.ref C) (.type T')=some b) (hg:Gl X "isinstance") (hm:X.mg "isinstance" =none) (hN:X.N[i]? =some n) (hv:Vis X.env.scope n) (hgD:Gl X x) (hmD:X.mg x=none) (hvD:bootBuiltins x=some (.type T'))
  (hd:(n == ("__debug__" :Str))=false:=by decide) (hcd:(n == ("__classdict__" :Str))=false:=by decide) (hnD:x≠ "__name__" :=by decide) (hdD:(x == ("__debug__" :Str))=false:=by decide)
  (he:starEach (.Name n p1::[.Name x p2]) X.env=(false,eval (.Name n p1) X.env)::starEach [.Name x p2] X.env:=by rfl) (hpl:(backTo pos (starEach [.Name x p2] X.env)).any (·.1)=false:=by rfl) (he2:starEach (.Name x p2::[]) X.env=(false,eval (.Name x p2) X.env)::starEach [] X.env:=by rfl) :
  JE X (.Call (.Name "isinstance" p) [.Name n p1, .Name x p2] [] pos) (zjd i a b):=fun E hE=>
 (zfj (zjI hp hc O) hg hm PyProof.Rows.boot_isinstance (zdC (zmd hN hv hd hcd) (zdC (zlW (v:= .ty T') hgD hmD hvD rfl hnD hdD) pa_nil he2) he) (by decide) (by decide) he hpl).mono fun σ H Q ⟨σW,S,QW,hσ,hS,⟨hi,h⟩,hQ⟩=>by
  obtain⟨v,e',r⟩:=hσ.get hi;have:=zmp r;subst this;exact⟨_,e', .type T',b, .inr ⟨T',rfl,rfl⟩,hb,hQ (.bl b) S (.bl b) H .refl (.bl b) hS h⟩
end
noncomputable def zhp (cl D:Str):Bool:=cl == D || (D == "TurnError" || D == "ValueError")
theorem aln{P:Str→Prop}:∀cl∈([]:List Str),P cl:=fun _ h=>nomatch h
theorem alc{P:Str→Prop}{c:Str}{l:List Str}(h:P c) (t:∀cl∈l,P cl):∀cl∈c::l,P cl:=fun cl m=>by
 rcases List.mem_cons.mp m with rfl |m
 ·exact h
 ·exact t cl m
inductive Tr where
  |bl (n:Int)
  |nd (s:Str) (ts:List Tr)
noncomputable def Tr.kids:Tr→List Tr
 | .bl _=>[]
 | .nd _ ts=>ts
mutual
noncomputable def Tr.weight:Tr→Nat
 | .bl _=>1
 | .nd _ ts=>1+wts ts
noncomputable def wts:List Tr→Nat
 | []=>0
 |t::ts=>t.weight+wts ts
end
mutual
noncomputable def Tr.depth:Tr→Nat
 | .bl _=>1
 | .nd _ ts=>1+dts ts
noncomputable def dts:List Tr→Nat
 | []=>0
 |t::ts=>max t.depth (dts ts)
end
theorem zck:wts []=0:=by unfold wts;rfl
theorem zaI (t:Tr) (ts:List Tr):wts (t::ts)=t.weight+wts ts:=by
 conv=>lhs;unfold wts
theorem zcq:∀(ts us:List Tr),wts (ts++us)=wts ts+wts us
 | [],us=>by
  show wts us=wts []+wts us;rw [zck];omega
 |t::ts,us=>by
  show wts (t::(ts++us))=_;rw [zaI,zaI,zcq ts us];omega
theorem zfq:dts []=0:=by unfold dts;rfl
theorem zdz (t:Tr) (ts:List Tr):dts (t::ts)=max t.depth (dts ts):=by
 conv=>lhs;unfold dts
theorem zcs (t:Tr):t.weight=1+wts t.kids:=by
 cases t with
 |bl n=>
  show Tr.weight (.bl n)=1+wts [];unfold Tr.weight wts;rfl
 |nd s ts=>
  show Tr.weight (.nd s ts)=1+wts ts
  conv=>lhs;unfold Tr.weight
theorem zes (t:Tr):t.depth=1+dts t.kids:=by
 cases t with
 |bl n=>
  show Tr.depth (.bl n)=1+dts [];unfold Tr.depth dts;rfl
 |nd s ts=>
  show Tr.depth (.nd s ts)=1+dts ts
  conv=>lhs;unfold Tr.depth
theorem zgG (t:Tr):1≤t.weight:=by rw [zcs];omega
theorem zhH (t:Tr):1≤t.depth:=by rw [zes];omega
theorem zgA:∀(ts us:List Tr),dts (ts++us)=max (dts ts) (dts us)
 | [],us=>by
  show dts us=max (dts []) (dts us);rw [zfq];omega
 |t::ts,us=>by
  show dts (t::(ts++us))=_;rw [zdz,zdz,zgA ts us];exact(Nat.max_assoc _ _ _).symm
theorem zfM:∀(ts:List Tr),ts.length≤wts ts
 | []=>Nat.zero_le _
 |t::ts=>by
  have:=zfM ts;have:=zgG t;rw [zaI,List.length_cons];omega
theorem zlI{t:Tr}:∀{ts:List Tr},t∈ts→t.weight≤wts ts
 | [],h=>by cases h
 |u::ts,h=>by
  rw [zaI];rcases List.mem_cons.mp h with e |h
  ·rw [e];omega
  ·have:=zlI h;omega
theorem zjV:∀{ts:List Tr},ts≠ []→dts ts=1+dts (ts.flatMap Tr.kids)
 | [],h=>absurd rfl h
 | [t],_=>by
  rw [List.flatMap_cons,List.flatMap_nil,List.append_nil,zdz,zfq,zes];omega
 |t::u::r,_=>by
  have ih:=zjV (ts:=u::r) (by simp);have e:(t::u::r).flatMap Tr.kids=t.kids++(u::r).flatMap Tr.kids:=List.flatMap_cons ..;rw [zdz,ih,e,zgA,zes];omega
theorem zkh:∀(ts:List Tr),wts (ts.flatMap Tr.kids)+ts.length=wts ts
 | []=>by rw [List.flatMap_nil,zck];rfl
 |t::ts=>by
  have ih:=zkh ts;rw [List.flatMap_cons,zcq,zaI,List.length_cons,zcs];omega
mutual
theorem zep:∀t:Tr,t.depth≤t.weight
 | .bl n=>by unfold Tr.depth Tr.weight;exact Nat.le_refl _
 | .nd s ts=>by
  have:=zgC ts;rw [zes,zcs];show 1+dts ts≤1+wts ts;omega
theorem zgC:∀ts:List Tr,dts ts≤wts ts
 | []=>by rw [zfq];exact Nat.zero_le _
 |t::ts=>by
  have:=zep t;have:=zgC ts;rw [zdz,zaI];omega
end
mutual
noncomputable def enc:Tr→W
 | .bl n=> .int n
 | .nd s ts=> .tup (.str s::zbx ts)
noncomputable def zbx:List Tr→List W
 | []=>[]
 |t::ts=>enc t::zbx ts
end
theorem zaD:∀ts:List Tr,zbx ts=ts.map enc
 | []=>by simp [zbx]
 |t::ts=>by simp [zbx,zaD ts]
theorem zaH (ts:List Tr):(zbx ts).length=ts.length:=by rw [zaD,List.length_map]
theorem ziM:zbv "int" "int" =true:=by decide +kernel
theorem zhJ:zbv "int" "bool" =false:=by decide +kernel
theorem ziT:zbv "int" "str" =false:=by decide +kernel
theorem zhf:zbv "int" "tuple" =false:=by decide +kernel
theorem zid:zbv "int" "list" =false:=by decide +kernel
theorem ziB:zbv "bool" "int" =true:=by decide +kernel
theorem zgQ:zbv "bool" "bool" =true:=by decide +kernel
theorem zij:zbv "bool" "str" =false:=by decide +kernel
theorem zgq:zbv "bool" "tuple" =false:=by decide +kernel
theorem zhj:zbv "bool" "list" =false:=by decide +kernel
theorem ziO:zbv "str" "int" =false:=by decide +kernel
theorem zhS:zbv "str" "bool" =false:=by decide +kernel
theorem ziW:zbv "str" "str" =true:=by decide +kernel
theorem zhi:zbv "str" "tuple" =false:=by decide +kernel
theorem zik:zbv "str" "list" =false:=by decide +kernel
theorem zgO:zbv "tuple" "int" =false:=by decide +kernel
theorem zgp:zbv "tuple" "bool" =false:=by decide +kernel
theorem zgK:zbv "tuple" "str" =false:=by decide +kernel
theorem sub_tuple_tuple:zbv "tuple" "tuple" =true:=by decide +kernel
theorem sub_tuple_list:zbv "tuple" "list" =false:=by decide +kernel
theorem zim:zbv "list" "int" =false:=by decide +kernel
theorem zgW:zbv "list" "bool" =false:=by decide +kernel
theorem zhI:zbv "list" "str" =false:=by decide +kernel
theorem sub_list_tuple:zbv "list" "tuple" =false:=by decide +kernel
theorem sub_list_list:zbv "list" "list" =true:=by decide +kernel
section
variable {α:Type}{x:α}{xs:List α}
theorem znG (n:Nat):zdr xs (some (n:Int)) none=xs.drop n:=by
 unfold zdr;rw [HT.sIx_nat,HT.sIx_none];by_cases h:n≤xs.length
 ·rw [Nat.min_eq_left h,List.take_of_length_le (by rw [List.length_drop];omega)]
 ·rw [Nat.min_eq_right (by omega),List.drop_of_length_le (Nat.le_refl _),List.drop_of_length_le (by omega),List.take_nil]
theorem zmU (n:Nat):zdr xs none (some (n:Int))=xs.take n:=by
 unfold zdr;rw [HT.sIx_nat,HT.sIx_none,List.drop_zero,Nat.sub_zero];by_cases h:n≤xs.length
 ·rw [Nat.min_eq_left h]
 ·rw [Nat.min_eq_right (by omega),List.take_length,List.take_of_length_le (by omega)]
theorem ziY:zdr (x::xs) (some 1) none=xs:=by rw [show(1:Int)=((1:Nat):Int) from rfl,znG];rfl
theorem zkJ{n d k:Nat}(h:0<k):HT.sIx n d (some (-(k:Int)))=n - k:=by
 show(if(-(k:Int))<0 then(-(k:Int)+(n:Int)).toNat else min (-(k:Int)).toNat n)=n - k;rw [if_pos (by omega)];omega
theorem zfY (k:Nat) (h:0<k):zdr xs none (some (-(k:Int)))=xs.take (xs.length - k):=by
 unfold zdr;rw [zkJ h,HT.sIx_none,List.drop_zero,Nat.sub_zero]
theorem zlX (k:Nat) (h:0<k):zdr xs (some (-(k:Int))) none=xs.drop (xs.length - k):=by
 unfold zdr;rw [zkJ h,HT.sIx_none,List.take_of_length_le (by rw [List.length_drop];omega)]
theorem zdW{n:Nat}:atI xs (n:Int)=xs[n]? :=by
 unfold atI ixN;rw [if_pos (by omega)];by_cases h:n<xs.length
 ·rw [if_pos (by omega)];simp
 ·rw [if_neg (by omega)];simp;omega
theorem zbX:atI (x::xs) 0=some x:=zdW (n:=0)
theorem zlr{k:Nat}(h:0<k) (hk:k≤xs.length):atI xs (-(k:Int))=xs[xs.length - k]? :=by
 unfold atI ixN;rw [if_neg (by omega),if_pos (by omega)];simp;congr 1;omega
end
section
variable {S S':Sto}{a b:Addr}{o:Ob}{Q:List W→Prop}{ws:List W}
theorem zjY:zcM (put S a (.lst ws)) a Q=Q ws:=zas zaj
theorem zjn (h:b≠a):zcM (put S a o) b Q=zcM S b Q:=by unfold zcM;rw [zbN h]
theorem zdX (h:put S a o b=none):S b=none∧b≠a:=by
 have hb:b≠a:=by rintro rfl;rw [zaj]at h;cases h
 rw [zbN hb]at h;exact⟨h,hb⟩
theorem zgZ{u:Ob}(h:S a=some u) (n:S b=none):a≠b:=by rintro rfl;rw [h]at n;cases n
theorem Sub.put (h:Sub S S') (n:S a=none):Sub S (L2.put S' a o):=fun b u e=>by rw [zbN (zgZ e n)];exact h b u e
theorem Sub.put2{u:Ob}(h:Sub S S'):Sub (L2.put S a u) (L2.put S' a u):=fun b w e=>by
 by_cases hb:b=a
 ·subst hb;rw [zaj]at e⊢;exact e
 ·rw [zbN hb]at e⊢;exact h b w e
end
theorem zhX (S:Sto) (a b:Int):eqF S 60 (.int a) (.int b)=some (a == b):=by have h:eqF S 60 (.int a) (.int b)=some (a == b):=rfl;exact h
theorem zsg (S:Sto) (a b:Str):eqF S 60 (.str a) (.str b)=some (a == b):=by have h:eqF S 60 (.str a) (.str b)=some (a == b):=rfl;exact h
theorem ztQ (S:Sto) (a b:Bool):eqF S 60 (.bl a) (.bl b)=some (a == b):=by have h:eqF S 60 (.bl a) (.bl b)=some (a == b):=rfl;exact h
theorem zaf{n:Nat}(h:n≤16777216):n≤sizeLine:=by rw [sizeLine_eq];exact h
theorem zfO{n:Nat}(h:n<16777216):n<sizeLine:=by rw [sizeLine_eq];exact h
section
variable {S:Sto}{Q:WK}{QB:Bool→Sto→Prop}{QS:List W→(Sto→Prop)→Prop}{QT:String→Prop}
theorem zgu{a:Addr}{o:Ob}(h:S a=some o):put S a o=S:=by
 funext b;unfold put;split
 ·rename_i e;rw [e,h]
 ·rfl
theorem _root_.pz{a b:Prop}(h:a→b) (g:b→a):a=b:=propext ⟨h,g⟩
theorem zmX{b:Bool}:zoZ (.bl b) S QB=QB b S:=pz id id
theorem zmw{i:Int}:zoZ (.int i) S QB=QB (i != 0) S:=pz id id
theorem zmQ{ws:List W}:zoZ (.tup ws) S QB=QB (!ws.isEmpty) S:=pz id id
theorem zmo{a:Addr}:zoZ (.ref a) S QB=zcM S a fun ws=>QB (!ws.isEmpty) S:=pz id id
theorem zmh:zoZ .non S QB=QB false S:=pz id id
theorem zmj{ws:List W}:zuN (.tup ws) S QS=QS ws fun _=>True:=pz id id
theorem zmK{a:Addr}:zuN (.ref a) S QS=zcM S a fun ws=>QS ws fun S'=>S' a=some (.lst ws):=pz id id
theorem zqB{b:Bool}:tyW (.bl b) S QT=QT "bool" :=pz id id
theorem znE{i:Int}:tyW (.int i) S QT=QT "int" :=pz id id
theorem zni{i:Str}:tyW (.str i) S QT=QT "str" :=pz id id
theorem zok{i:List W}:tyW (.tup i) S QT=QT "tuple" :=pz id id
theorem znM:tyW .non S QT=QT "NoneType" :=pz id id
theorem zou{a:Addr}:tyW (.ref a) S QT=zcM S a fun _=>QT "list" :=pz id id
theorem zlk{i j:Int}:zbw (.int i) (.int j) S Q=Q (.int (i+j)) S:=pz id id
theorem zlp{i j:Str}:zbw (.str i) (.str j) S Q=(i.length+j.length≤sizeLine∧Q (.str (i++j)) S):=pz id id
theorem zmE{i j:List W}:zbw (.tup i) (.tup j) S Q=(i.length+j.length≤sizeLine∧Q (.tup (i++j)) S):=pz id id
theorem zmG{a b:Addr}:zbw (.ref a) (.ref b) S Q=zcM S a fun xs=>zcM S b fun ys=>xs.length+ys.length≤sizeLine∧ ∀p,S p=none→Q (.ref p) (put S p (.lst (xs++ys))):=pz id id
theorem ztW{C:Int→Int→Prop}{g:Int→Int→W}{i j:Int}:zco C g (.int i) (.int j) S Q=(C i j∧Q (g i j) S):=pz id id
theorem zrS{g:Int→Int→W}{i j:Int}:zhm g (.int i) (.int j) S Q=Q (g i j) S:=pz id id
theorem zna{i j:Int}:oLe (.int i) (.int j) S Q=Q (.bl (decide (i≤j))) S:=pz id id
theorem zol{i j:Str}:oLe (.str i) (.str j) S Q=Q (.bl (!decide (j.cps.toList<i.cps.toList))) S:=pz id id
theorem zlQ{us:List W}:zdZ [.tup us] S Q=Q (.int us.length) S:=pz id id
theorem zmO{a:Addr}:zdZ [.ref a] S Q=zcM S a fun us=>Q (.int us.length) S:=pz id id
theorem zkP{ns:List Int}:zdZ [.scr ns] S Q=Q (.int ns.length) S:=pz id id
theorem zlA{z:Str}:zdZ [.str z] S Q=(z.length≤sizeLine∧Q (.int z.length) S):=pz id id
theorem zoq{ws:List W}{i:Int}:oIx (.tup ws) (.int i) S Q=match atI ws i with
 |some w=>Q w S
 |none=>False:=pz id id
theorem znO{a:Addr}{i:Int}:oIx (.ref a) (.int i) S Q=zcM S a fun ws=>match atI ws i with
 |some w=>Q w S
 |none=>False:=pz id id
theorem zmY{ns:List Int}{i:Int}:oIx (.scr ns) (.int i) S Q=match atI ns i with
 |some n=>Q (.int n) S
 |none=>False:=pz id id
theorem znl{x:Str}{i:Int}:oIx (.str x) (.int i) S Q=(x.length≤sizeLine∧match atI x.cps.toList i with
 |some c=>Q (.str ⟨#[c]⟩) S
 |none=>False):=pz id id
theorem zoa{ws:List W}{lo hi:Option Int}:oSl (.tup ws) lo hi S Q=Q (.tup (zdr ws lo hi)) S:=pz id id
theorem zoh{z:Str}{lo hi:Option Int}:oSl (.str z) lo hi S Q=(z.length≤sizeLine∧Q (.str (Txt.slice z lo hi)) S):=pz id id
theorem zne{a:Addr}{lo hi:Option Int}:oSl (.ref a) lo hi S Q=zcM S a fun ws=>∀p,S p=none→Q (.ref p) (put S p (.lst (zdr ws lo hi))):=pz id id
theorem znP{ns:List Int}{lo hi:Option Int}:oSl (.scr ns) lo hi S Q= ∀p,S p=none→Q (.ref p) (put S p (.lst ((zdr ns lo hi).map W.int))):=pz id id
theorem ziK{us:List W}:ziu [.tup us] S Q=Q (.tup us) S:=pz id id
theorem ziU{a:Addr}:ziu [.ref a] S Q=zcM S a fun us=>Q (.tup us) S:=pz id id
theorem znW{a:Addr}{y:W}:zfm (.ref a) [y] S Q=zcM S a fun xs=>xs.length<sizeLine∧Q .non (put S a (.lst (xs++[y]))):=pz id id
theorem ztE{a:Addr}:zuX (.ref a) [] S Q=zcM S a fun xs=>match xs[xs.length - 1]? with
 |some y=>Q y (put S a (.lst xs.dropLast))
 |none=>False:=pz id id
theorem zil{a:Addr}{ys:List W}:zgk (.ref a) [.tup ys] S Q=zcM S a fun xs=>xs.length+ys.length≤sizeLine∧Q .non (put S a (.lst (xs++ys))):=pz id id
theorem zhC{a b:Addr}:zgk (.ref a) [.ref b] S Q=zcM S a fun xs=>zcM S b fun ys=>xs.length+ys.length≤sizeLine∧Q .non (put S a (.lst (xs++ys))):=pz id id
theorem zlH{a:Addr}{ws:List W}:znm (.ref a) ws S Q=zcM S a fun xs=>xs.length+ws.length≤sizeLine∧Q .non (put S a (.lst (xs++ws))):=pz id id
theorem ztK{a:Addr}:rvL (.ref a) S=zcM S a fun _=>True:=pz id id
theorem ztA{x:Str}:rvS (.str x) S=True:=pz id id
theorem znL{b:Bool}:zox [.bl b] S Q=Q (.int (if b then 1 else 0)) S:=pz id id
theorem zmm{i:Int}:zox [.int i] S Q=Q (.int i) S:=pz id id
theorem zsQ{i j:Int}:zuD [.int i, .int j] S Q=Q (.int (if j > i then j else i)) S:=pz id id
theorem zrl{i j:Int}:ztL [.int i, .int j] S Q=Q (.int (if j<i then j else i)) S:=pz id id
theorem ztm{z:Str}{ws:List W}:zfA (.str z) ws S Q=match zel ws with
 |some ys=>(ys.map (·.length)).sum+ys.length*z.length≤16777216∧Q (.str (Str.join z ys)) S
 |none=>False:=pz id id
theorem zqK{z y:Str}:zig (.str z) [.str y] S Q=match Builtin.Str.occurrences z y 0 z.length 1 with
 |i::_=>Q (.int i) S
 | []=>False:=pz id id
theorem znK{neg:Bool}:oIs neg .non .non S Q=Q (.bl (!neg)) S:=pz id id
theorem zqo{neg a b:Bool}:oIs neg (.bl a) (.bl b) S Q=Q (.bl (if neg then a != b else a == b)) S:=pz id id
theorem zpL{neg a:Bool}:oIs neg (.bl a) .non S Q=Q (.bl neg) S:=pz id id
theorem zpP{neg:Bool}{ws:List W}:oIs neg (.tup ws) .non S Q=Q (.bl neg) S:=pz id id
theorem zqj{neg:Bool}{a:Addr}:oIs neg (.ref a) .non S Q=Q (.bl neg) S:=pz id id
theorem zqw{neg:Bool}{a:Int}:oIs neg (.int a) .non S Q=Q (.bl neg) S:=pz id id
theorem zor{neg:Bool}{x:W}{ws:List W}:oIn neg x (.tup ws) S Q=match inF S x ws with
 |some b=>Q (.bl (if neg then !b else b)) S
 |none=>False:=pz id id
theorem znk{neg:Bool}{x:W}{a:Addr}:oIn neg x (.ref a) S Q=zcM S a fun ws=>match inF S x ws with
 |some b=>Q (.bl (if neg then !b else b)) S
 |none=>False:=pz id id
theorem znX{neg:Bool}{i j:Str}:oIn neg (.str i) (.str j) S Q=Q (.bl (if neg then !(!(Builtin.Str.occurrences j i 0 j.length 1).isEmpty) else !(Builtin.Str.occurrences j i 0 j.length 1).isEmpty)) S:=pz id id
end
theorem zgV{g:WG}{b:WS}{E:WX}{D:WEnds}{G:Sto→Prop}(I:List W→WSt→Sto→Prop)
  (step:∀w ws σ S (N:WSt→Sto→Prop),I (w::ws) σ S→(∀σ' S' S'',Sub S'' S'→G S''→I ws σ' S''→N σ' S')→g w σ S fun σ1 S1=>b E { D with nx:=N,ct:=N,bk:=D.nx } σ1 S1)
  (done:∀σ S,I [] σ S→D.nx σ S):∀(ws:List W) (σ:WSt) (S:Sto),I ws σ S→zhq g b E D G ws σ S
 | [],σ,S,h=>done σ S h
 |w::ws,σ,S,h=>step w ws σ S _ h fun σ' S' S'' sb hG hI=>⟨S'',sb,hG,zgV I step done ws σ' S'' hI⟩
theorem zeq{g:WG}{e:WE}{E:WX}{G:Sto→Prop}{Q:List W→Sto→Prop}{S:Sto}(I:WSt→Prop) (P:W→W→Prop) (hG:G S) :
  ∀(ws acc:List W) (σ:WSt),I σ→acc.length+ws.length≤1000000→
  (∀w∈ws,∀σ (R:WSt→W→Sto→Prop),I σ→(∀σ1 y S3,I σ1→P w y→Sub S S3→R σ1 y S3)→g w σ S fun σ1 S1=>e E σ1 S1 fun y S3=>R σ1 y S3)→
  (∀ys,Paired P ws ys→Q (acc++ys) S)→zfC g zjH e E G Q ws acc σ S
 | [],acc,σ,hI,hl,step,hQ=>by
  have:=hQ [] .nil;rw [List.append_nil]at this;exact this
 |w::ws,acc,σ,hI,hl,step,hQ=>by
  simp only[zfC,zjH,if_true];refine step w List.mem_cons_self σ _ hI fun σ1 y S3 hI1 hP sb=>?_;simp only[List.length_cons]at hl;refine⟨zfO (by omega),S,sb,hG,zeq I P hG ws (acc++[y]) σ1 hI1 (by simp;omega) (fun w' hw=>step w' (List.mem_cons_of_mem _ hw)) fun ys hp=>?_⟩;rw [List.append_assoc];exact hQ (y::ys) (.cons hP hp)
section
variable {E:WX}{σ:WSt}{S:Sto}{Q:WK}{QB:Bool→Sto→Prop}{QA:List W→Sto→Prop}{QI:List W→(Sto→Prop)→Sto→Prop}{QO:Option Int→Sto→Prop}{P:WSt→Sto→Prop}{D:WEnds}{w x y:W}{ws:List W}{EX:Str→Sto→Prop}
theorem zej{i:Nat}:(zag i E σ S Q)=(match σ[i]? with
 |some (some w)=>Q w S
 |_=>False):=pz id id
theorem zrw{w:W}:(wC w E σ S Q)=(Q w S):=pz id id
theorem zkU{r:W2}{a b:WE}:(wOp r a b E σ S Q)=(a E σ S fun x S1=>b E σ S1 fun y S2=>r x y S2 Q):=pz id id
theorem zrV{t:WE}:(zex t E σ S QB)=(t E σ S fun w S'=>zoZ w S' QB):=pz id id
theorem zmF{t:WE}:(wTb t E σ S QB)=(t E σ S fun w S'=>match w with
 | .bl b=>QB b S'
 |_=>False):=pz id id
theorem zsC{t u:WT}:(zoA t u E σ S QB)=(t E σ S fun c S1=>if c=true then u E σ S1 QB else QB false S1):=pz id id
theorem zuk{t u:WT}:(wOr t u E σ S QB)=(t E σ S fun c S1=>if c=true then QB true S1 else u E σ S1 QB):=pz id id
theorem zsH{t:WT}:(zfN t E σ S QB)=(t E σ S fun c S1=>QB (!c) S1):=pz id id
theorem zpr{t u:WE}:(zee t u E σ S Q)=(t E σ S fun w S1=>match w with
 | .bl true=>u E σ S1 Q
 | .bl false=>Q (.bl false) S1
 |_=>False):=pz id id
theorem zsN{t u:WE}:(zrv t u E σ S Q)=(t E σ S fun w S1=>match w with
 | .bl false=>u E σ S1 Q
 | .bl true=>Q (.bl true) S1
 |_=>False):=pz id id
theorem zqp{t:WE}:(zno t E σ S Q)=(t E σ S fun w S1=>match w with
 | .bl b=>Q (.bl !b) S1
 |_=>False):=pz id id
theorem zrL{c:WT}{t u:WS}:(zdn c t u E D σ S)=(c E σ S fun b S1=>if b=true then t E D σ S1 else u E D σ S1):=pz id id
theorem zqt:(zaP  E D σ S)=(D.nx σ S):=pz id id
theorem zlK{t u:WS}:(zat t u E D σ S)=(t E { D with nx:=u E D } σ S):=pz id id
theorem zsM{e:WE}:(zbD e E D σ S)=(e E σ S D.rt):=pz id id
theorem zpZ{e:WE}:(zhM e E D σ S)=(e E σ S fun _ S1=>D.nx σ S1):=pz id id
theorem zhR{i:Nat}:(wGN i w σ S P)=(P (σ.set i (some w)) S):=pz id id
theorem zfP{e:WE}{g:WG}:(wAsg e g E D σ S)=(e E σ S fun w S1=>g w σ S1 D.nx):=pz id id
theorem zux:(zuz  ws σ S P)=(match ws with
 | []=>P σ S
 |_=>False):=pz id id
theorem zeO:(waNil  E σ S QA)=(QA [] S):=pz id id
theorem zdU{t:WE}{u:WA}:(zab t u E σ S QA)=(t E σ S fun w S1=>u E σ S1 fun ws S2=>QA (w::ws) S2):=pz id id
theorem zrE{t:WA}:(zjh t E σ S Q)=(t E σ S fun ws S1=>ws.length≤sizeLine∧Q (.tup ws) S1):=pz id id
theorem zsB{t:WA}:(zeG t E σ S QA)=(t E σ S fun ws S1=>ws.length≤sizeLine∧QA ws S1):=pz id id
theorem ztk{t:WL}:(zfe t E σ S Q)=(t E σ S fun ws S1=>∀a,S1 a=none→Q (.ref a) (put S1 a (.lst ws))):=pz id id
theorem zpl{c:WSp}{t:WA}:(zaA c t E σ S Q)=(t E σ S fun ws S1=>c ws S1 Q fun cl S2=>E cl σ S2):=pz id id
theorem zeK{n k:Nat}{body:WS}:(zeb n k body ws S Q EX)=(ws.length=k∧body (fun c _ S'=>EX c S') { nx:=fun _ S'=>∃S'',Sub S'' S'∧Q .non S'',rt:=fun w S'=>∃S'',Sub S'' S'∧Q w S'' } (ws.map some++List.replicate (n - k) none) S):=pz id id
theorem zqT{t:WE}:(zql t E σ S Q)=(t E σ S fun w S1=>match w with
 | .int i=>Q (.int (-i)) S1
 |_=>False):=pz id id
theorem ztG{t u:WE}:(zuq t u E σ S QA)=(t E σ S fun x S1=>u E σ S1 fun y S2=>match x,y with
 | .ref a, .ref b=>zcM S2 a fun xs=>zcM S2 b fun ys=>xs.length+ys.length≤sizeLine∧QA (xs++ys) S2
 |_,_=>False):=pz id id
theorem zlR{neg:Bool}:(oEq neg x y S Q)=(match eqF S 60 x y with
 |some b=>Q (.bl (if neg then !b else b)) S
 |none=>False):=pz id id
theorem znC{r r':W2}{a b c:WE}:(zfu r r' a b c E σ S Q)=(a E σ S fun x S1=>b E σ S1 fun y S2=>r x y S2 fun z S3=>match z with
 | .bl true=>c E σ S3 fun u S4=>r' y u S4 Q
 | .bl false=>Q (.bl false) S3
 |_=>False):=pz id id
theorem zuH:(woN  E σ S QO)=(QO none S):=pz id id
theorem zum{t:WE}:(woS t E σ S QO)=(t E σ S fun w S1=>match w with
 | .int i=>QO (some i) S1
 |_=>False):=pz id id
theorem ztS{t:WE}{l h:WO}:(wSl t l h E σ S Q)=(t E σ S fun x S1=>l E σ S1 fun lo S2=>h E σ S2 fun hi S3=>oSl x lo hi S3 Q):=pz id id
theorem zvV{f:WF}{t:WA}:(wB f t E σ S Q)=(t E σ S fun ws S1=>f ws S1 Q):=pz id id
theorem zuc{f:WF}{t:WL}:(wBL f t E σ S Q)=(t E σ S fun ws S1=>f ws S1 Q):=pz id id
theorem zlU:(zgX  ws S Q)=(Q (.tup ws) S):=pz id id
theorem zqE:(zio  ws S Q)=(match ziq ws with
 |some bs=>Q (.bl (bs.all _root_.id)) S
 |none=>False):=pz id id
theorem zru{T:String}{t:WE}:(zkI T t E σ S Q)=(t E σ S fun w S1=>tyW w S1 fun A=>Q (.bl (zbv A T)) S1):=pz id id
theorem zvA{rv:W→Sto→Prop}{f:WMf}{to:WE}{t:WA}:(wM rv f to t E σ S Q)=(to E σ S fun w S1=>rv w S1∧t E σ S1 fun ws S2=>f w ws S2 Q):=pz id id
theorem ztM{rv:W→Sto→Prop}{f:WMf}{to:WE}{t:WL}:(wML rv f to t E σ S Q)=(to E σ S fun w S1=>rv w S1∧t E σ S1 fun ws S2=>f w ws S2 Q):=pz id id
theorem zrm{i:Nat}{g:Int→Int→Int}{e:WE}:(ztd i g e E D σ S)=(match σ[i]? with
 |some (some (.int a))=>e E σ S fun w S1=>match w with
  | .int b=>D.nx (σ.set i (some (.int (g a b)))) S1
  |_=>False
 |_=>False):=pz id id
theorem zsp{q:WI}{g:WG}{b:WS}:(zoK q g b E D σ S)=(q E σ S fun ws G S1=>zhq g b E D G ws σ S1):=pz id id
theorem zuK{t:WE}:(wIv t E σ S QI)=(t E σ S fun w S1=>match w with
 | .tup ws=>QI ws (fun _=>True) S1
 | .ref a=>zcM S1 a fun ws=>QI ws (fun S'=>S' a=some (.lst ws)) S1
 | .scr ns=>QI (ns.map W.int) (fun _=>True) S1
 | .str z=>QI (zfB z) (fun _=>True) S1
 |_=>False):=pz id id
theorem zsY{t:WA}:(zqa t E σ S QI)=(t E σ S fun ws S1=>match ws with
 | [.int j]=>(-(2 ^ 62)≤j∧j<2 ^ 62)∧QI (zkx 0 j.toNat) (fun _=>True) S1
 |_=>False):=pz id id
theorem zta:(zjH  E σ S QB)=(QB true S):=pz id id
theorem zpX{k:Nat}{fr:List Nat}{q:WI}{g:WG}{c:WT}{e:WE}:(zgd k fr q g c e E σ S QA)=(q noE σ S fun ws G S1=>zfC g c e noE G QA ws [] (List.replicate k none++fr.map fun j=>(σ[j]?).join) S1):=pz id id
theorem zpv{t:WE}{l h:WO}:(zst t l h E σ S QA)=(t E σ S fun x S1=>l E σ S1 fun lo S2=>h E σ S2 fun hi S3=>match x with
 | .ref a=>zcM S3 a fun ws=>QA (zdr ws lo hi) S3
 | .scr ns=>QA ((zdr ns lo hi).map W.int) S3
 |_=>False):=pz id id
theorem zsE{t:WL}{u:WE}:(zrU t u E σ S Q)=(t E σ S fun ws S1=>u E σ S1 fun y S2=>match y with
 | .int i=>match atI ws i with
  |some w=>Q w S2
  |none=>False
 |_=>False):=pz id id
theorem zqv{t:WE}{u:WL}:(zjf t u E σ S QA)=(t E σ S fun x S1=>u E σ S1 fun ys S2=>match x with
 | .ref a=>zcM S2 a fun xs=>xs.length+ys.length≤sizeLine∧QA (xs++ys) S2
 |_=>False):=pz id id
theorem zpV{t u:WL}:(znx t u E σ S QA)=(t E σ S fun xs S1=>u E σ S1 fun ys S2=>xs.length+ys.length≤sizeLine∧QA (xs++ys) S2):=pz id id
theorem zpA{t:WL}{u:WE}:(znf t u E σ S QA)=(t E σ S fun xs S1=>u E σ S1 fun y S2=>match y with
 | .int k=>(-(2 ^ 63)≤k∧k<2 ^ 63∧xs.length*k.toNat≤sizeLine)∧QA (List.replicate k.toNat xs).flatten S2
 |_=>False):=pz id id
end
section
variable {S:Sto}{Q:WK}
theorem zsL{xs:List W}{k:Int}:ztx (.tup xs) (.int k) S Q=((xs≠ []∧ -(2 ^ 63)≤k∧k<2 ^ 63∧xs.length*k.toNat≤sizeLine)∧Q (.tup (List.replicate k.toNat xs).flatten) S):=pz id id
theorem zqN{z:Str}:zse (.str z) [] S Q=(z.length≤5592405∧Q (.str (Txt.upper z)) S):=pz id id
end
end L2
end
section
def L2.wZ (d:String):Lean.MacroM (Lean.TSyntax `tactic):=do
  let a:Array Lean.Term:=(("zsX zqc zqz zpu zpB L2.zej L2.zrw L2.zkU L2.zrV L2.zmF L2.zsC L2.zuk L2.zsH L2.zpr L2.zsN L2.zqp L2.zrL L2.zqt L2.zlK L2.zsM L2.zpZ L2.zhR L2.zfP L2.zeO L2.zdU L2.zrE L2.zsB L2.ztk L2.zpl L2.zeK L2.zqT L2.zlR L2.znC L2.zuH L2.zum L2.ztS L2.zvV L2.zuc L2.zlU L2.zqE L2.zru L2.zvA L2.ztM L2.zrm L2.zsp L2.zuK L2.zsY L2.zta L2.zpX L2.zpv L2.zsE L2.zqv L2.zpV L2.zpA zdT zic zth zgU L2.zsL L2.zqN L2.zjY L2.zcO L2.zhX L2.zsg L2.ztQ L2.ziY L2.zbX L2.ziM L2.zhJ L2.ziT L2.zhf L2.zid L2.ziB L2.zgQ L2.zij L2.zgq L2.zhj L2.ziO L2.zhS L2.ziW L2.zhi L2.zik L2.zgO L2.zgp L2.zgK L2.sub_tuple_tuple L2.sub_tuple_list L2.zim L2.zgW L2.zhI L2.sub_list_tuple L2.sub_list_list L2.zmX L2.zmw L2.zmQ L2.zmo L2.zmh L2.zmj L2.zmK L2.zqB L2.znE L2.zni L2.zok L2.znM L2.zou L2.zlk L2.zlp L2.zmE L2.zmG L2.ztW L2.zrS L2.zna L2.zol L2.zlQ L2.zmO L2.zkP L2.zlA L2.zoq L2.znO L2.zmY L2.znl L2.zoa L2.zoh L2.zne L2.znP L2.ziK L2.ziU L2.znW L2.ztE L2.zil L2.zhC L2.zlH L2.ztK L2.ztA L2.znL L2.zmm L2.zsQ L2.zrl L2.ztm L2.zqK L2.znK L2.zqo L2.zpL L2.zpP L2.zqj L2.zqw L2.zor L2.znk L2.znX List.map_cons List.map_nil List.length_cons List.length_nil List.cons_append List.nil_append List.append_nil List.replicate List.getElem?_cons_zero List.getElem?_cons_succ List.getElem?_nil List.set_cons_zero List.set_cons_succ Nat.reduceAdd Nat.reduceSub true_and and_true if_true if_false Bool.false_eq_true reduceIte Bool.not_true Bool.not_false Option.join_some Option.join_none decide_eq_true_eq and_self".splitOn " ").filter (· != d)).toArray.map fun s=>Lean.mkIdent s.toName
  `(tactic| simp only [$[$a:term],*])
local macro_rules | `(tactic| walk_at "wp") => L2.wZ ""
section
namespace L2
open PySem PySem.Spec PyProof.Rows
section
variable {E:WX}{D:WEnds}{σ:WSt}{S:Sto}{Q:WK}
theorem zdT{c:WSp}{t:WA}:(zhs c t E σ S Q)=(t noX σ S fun ws S1=>c ws S1 Q fun cl S2=>E cl σ S2):=pz id id
theorem zic{c:WT}{t u:WS}:(ztu c t u E D σ S)=(c noX σ S fun b S1=>if b=true then t E D σ S1 else u E D σ S1):=pz id id
theorem zth{i:Nat}{a:Addr}{b:Bool}:(zjd i a b E σ S Q)=(σ[i]? =some (some (.ref a))∧Q (.bl b) S):=pz id id
theorem zbh{x:Str}{t:WA}:(zeI x t E D σ S)=(t E σ S fun ws S1=>ws.length≤sizeLine∧E x σ S1):=pz id id
theorem zgU{i:Nat}{al:List Str}{t:WS}{u:Str→Addr→WS}:(zmz i al t u E D σ S)=(t (fun cl σ' S'=>cl∈al∧ ∀a,u cl a noX { nx:=fun σ'' S''=>D.nx (σ''.set i none) S'',rt:=D.rt,bk:=fun σ'' S''=>D.bk (σ''.set i none) S'',ct:=fun σ'' S''=>D.ct (σ''.set i none) S'' } (σ'.set i (some (.ref a))) S') D σ S):=pz id id
end
section
variable {X:Cx}{e:Expr}{es:List Expr}{t:WA}{p pos:Pos}
noncomputable def ztq:WF:=fun ws S Q=>match ws with
 | [.int i]=>i.natAbs.log2<1920∧Q (.str (Str.ofString (toString i))) S
 |_=>False
theorem zla{K:PySem.W.Frag}:zjq K (fun xs H Q=>∃i,xs=[.int i]∧i.natAbs.log2<1920∧Q (.str (toString i)) H) ztq:=fun H vs ws S Q QW r hS h hQ=>by
 cases r with
 |nil=>exact h.elim
 |cons r1 r2=>
  cases r2 with
  |cons _ _=>cases r1<;>exact h.elim
  |nil=>
   cases r1 with
   |int i=>exact⟨i,rfl,h.1,hQ _ S _ H .refl (.str _) hS h.2⟩
   |_=>exact h.elim
theorem zpf (hg:Gl X "str") (hm:X.mg "str" =none) (ha:JA X (e::es) t)
  (he:starEach (e::es) X.env=(false,eval e X.env)::starEach es X.env:=by rfl) (hpl:(backTo pos (starEach es X.env)).any (·.1)=false:=by rfl):JE X (.Call (.Name "str" p) (e::es) [] pos) (wB ztq t):=by
 have h1:= @zhF X;have h2:= @zla X.K;have h3:=PyProof.Rows.boot_str;generalize (fun xs H Q=>∃i,xs=[V.int i]∧i.natAbs.log2<1920∧Q (V.str (Str.ofString (toString i))) H:List V→Hp→VK→Prop)=rr at h1 h2;exact zob h1 h2 hg hm h3 ha (by decide) (by decide) he hpl
end
theorem ztN{i:Int}{S:Sto}{Q:WK}:ztq [.int i] S Q=(i.natAbs.log2<1920∧Q (.str (Str.ofString (toString i))) S):=pz id id
theorem znv{k n:Nat}(hk:1≤k) (hn:n<10 ^ k):(Str.ofString (toString (n:Int))).length≤k:=by
 rw [ofString_len];show(Nat.repr n).length≤k;have:=digits10_le hk hn;rw [←String.length_toList,Nat.toList_repr];exact this
noncomputable def zdc (f:Str) (v:W):List (Str×W)→List (Str×W)
 | []=>[(f,v)]
 | (g,x)::r=>if g=f then(g,v)::r else(g,x)::zdc f v r
noncomputable def ziC (S:Sto) (cl:Str) (a:Addr) (P:List (Str×W)→Prop):Prop:=match S a with
 |some (.ins c fs)=>c=cl∧P fs
 |_=>False
theorem zft{S:Sto}{cl:Str}{a:Addr}{P:List (Str×W)→Prop}(h:ziC S cl a P):∃fs,S a=some (.ins cl fs)∧P fs:=by
 unfold ziC at h;split at h
 ·obtain⟨rfl,h⟩:=h;exact⟨_, ‹_›,h⟩
 ·exact h.elim
theorem zgP{S:Sto}{cl:Str}{a:Addr}{fs:List (Str×W)}{P:List (Str×W)→Prop}(e:S a=some (.ins cl fs)):ziC S cl a P=P fs:=by
 unfold ziC;rw [e];exact propext ⟨fun h=>h.2,fun h=>⟨rfl,h⟩⟩
noncomputable abbrev RpF (K:PySem.W.Frag) (H:Hp):List (Str×W)→List (Str×V)→Prop:=Paired fun q p=>p.1=q.1∧Rep K H q.2 p.2
section
variable {K:PySem.W.Frag}{H:Hp}
theorem RpF.look{fs:List (Str×W)}{ps:List (Str×V)}(r:RpF K H fs ps) (f:Str):(∀w,fs.lookup f=some w→ ∃v,ps.lookup f=some v∧Rep K H w v)∧(fs.lookup f=none→ps.lookup f=none):=by
 induction r with
 |nil=>exact⟨fun w h=>by simp at h,fun _=>rfl⟩
 | @cons q p fs ps h t ih=>
  obtain⟨g,x⟩:=q;obtain⟨g',y⟩:=p;obtain⟨h1,h2⟩:=h;simp only at h1 h2;subst h1;rw [List.lookup_cons,List.lookup_cons];cases e:f == g' with
  |true=>exact⟨fun w z=>by cases z;exact⟨_,rfl,h2⟩,fun z=>by cases z⟩
  |false=>exact ih
theorem RpF.put{fs:List (Str×W)}{ps:List (Str×V)}(r:RpF K H fs ps) (f:Str) {w:W}{v:V}(rw':Rep K H w v):RpF K H (zdc f w fs) (zhk f v ps):=by
 induction r with
 |nil=>exact .cons ⟨rfl,rw'⟩ .nil
 | @cons q p fs ps h t ih=>
  obtain⟨g,x⟩:=q;obtain⟨g',y⟩:=p;obtain⟨h1,h2⟩:=h;simp only at h1 h2;subst h1;rw [zdc,zhk];by_cases e:g'=f
  ·rw [if_pos e,if_pos e];exact .cons ⟨rfl,rw'⟩ t
  ·rw [if_neg e,if_neg e];exact .cons ⟨rfl,h2⟩ ih
theorem RpF.len{fs:List (Str×W)}{ps:List (Str×V)}(r:RpF K H fs ps):ps.length=fs.length:=by
 induction r with
 |nil=>rfl
 |cons h t ih=>rw [List.length_cons,List.length_cons,ih]
theorem RepS.set_ins{S:Sto}{C dx a:Addr}{cl:Str}{fs0 fs:List (Str×W)}{ps0 ps:List (Str×V)}(h:RepS K H S) (hn:PySem.W.nsIn K mainGlobals cl=some (some (.ref C))) (e:S a=some (.ins cl fs0)) (e0:H a=some (.ins C dx ps0)) (r:RpF K H fs ps) :
  Ext H S (upd H a (.ins C dx ps)) (put S a (.ins cl fs))∧RepS K (upd H a (.ins C dx ps)) (put S a (.ins cl fs)):=by
 have x:Ext H S (upd H a (.ins C dx ps)) (put S a (.ins cl fs)):= .mut e0 e (fun _ z=>nomatch z) fun _ _ z=>nomatch z;refine⟨x,fun b o q=>?_⟩;by_cases hb:b=a
 ·subst hb;rw [zaj]at q;cases q;exact⟨C,dx,ps,hn,zaz,Paired.mapP r fun _ _ z=>⟨z.1,z.2.ext x⟩⟩
 ·rw [zbN hb]at q;exact(h b o q).keep x fun u z=>by rw [zax hb];exact z
end
noncomputable def zms (cl f:Str) (ta:WE):WE:=fun E σ S Q=>ta E σ S fun x S1=>match x with
 | .ref a=>ziC S1 cl a fun fs=>match fs.lookup f with
  |some w=>Q w S1
  |none=>False
 |_=>False
noncomputable def zlq (cl f:Str) (ta tv:WE):WS:=fun E D σ S=>tv E σ S fun v S1=>ta E σ S1 fun x S2=>match x with
 | .ref a=>ziC S2 cl a fun fs=>fs.length<1000∧D.nx σ (put S2 a (.ins cl (zdc f v fs)))
 |_=>False
noncomputable def zlM (cl f:Str) (ta tv:WE):WS:=fun E D σ S=>ta E σ S fun x S1=>match x with
 | .ref a=>ziC S1 cl a fun fs=>match fs.lookup f with
  |some (.int i)=>tv E σ S1 fun y S2=>match y with
   | .int j=>ziC S2 cl a fun fs'=>fs'.length<1000∧D.nx σ (put S2 a (.ins cl (zdc f (.int (i+j)) fs')))
   |_=>False
  |_=>False
 |_=>False
noncomputable def zfW (cl m:Str) (c:WSp) (ta:WE) (t:WA):WE:=fun E σ S Q=>ta E σ S fun x S1=>match x with
 | .ref a=>ziC S1 cl a fun fs=>fs.lookup m=none∧t E σ S1 fun ws S2=>c (.ref a::ws) S2 Q fun cl' S3=>E cl' σ S3
 |_=>False
noncomputable def zqk (cl:Str) (c:WSp) (t:WA):WE:=fun E σ S Q=>t E σ S fun ws S1=>∀a,S1 a=none→c (.ref a::ws) (put S1 a (.ins cl [])) (fun w S2=>w= .non∧Q (.ref a) S2) fun cl' S3=>E cl' σ S3
section
variable {X:Cx}{o e value:Expr}{f cl:Str}{C:Addr}{pos pos' tpos:Pos}{ta tv:WE}
theorem zfa (hn:PySem.W.nsIn X.K mainGlobals cl=some (some (.ref C))) (c:Cls X.K C) (n:NoAttr X.K C f) (he:JE X e ta) (hb:attributeBase e f X.env (eval e X.env)=eval e X.env:=by rfl):JE X (.Attribute e f pos) (zms cl f ta):=fun E hE=>
 (zrg (he E hE) hb).mono fun σ H Q ⟨σW,S,QW,hσ,hS,ht,hQ⟩=>⟨σW,S,_,hσ,hS,ht,fun w S1 v H1 e1 r1 hS1 h1=>by
  split at h1
  ·rename_i a;obtain⟨fs,ea,h1⟩:=zft h1;split at h1
   ·rename_i w el;obtain⟨C',dx,ps,hn',eh,rp⟩:=hS1 a _ ea;rw [hn]at hn';cases hn';obtain⟨v',ev,rv⟩:=(RpF.look rp f).1 w el;cases r1;exact⟨a,C,dx,ps,v',rfl,eh,c,n,ev,hQ _ S1 _ H1 e1 rv hS1 h1⟩
   ·exact h1.elim
  ·exact h1.elim⟩
theorem zmB (hn:PySem.W.nsIn X.K mainGlobals cl=some (some (.ref C))) (c:Cls X.K C) (n:NoAttr X.K C f) (ha:JE X o ta) (hv:JE X value tv) (hs:swapsWith value (some (.Attribute o f pos')) pos.line X.env=pure false:=by rfl):JS X (.Assign [.Attribute o f pos'] value pos) (zlq cl f ta tv):=fun E hE=>
 (zsv (ha E hE) (hv E hE) hs).mono fun D σ H ⟨σW,S,DW,hσ,hS,ht,hD⟩=>⟨σW,S,_,hσ,hS,ht,fun w S1 v H1 e1 r1 hS1 h1=>⟨σW,S1,_,hσ.ext e1,hS1,h1,fun wx S2 x H2 e2 r2 hS2 h2=>by
  split at h2
  ·rename_i a;obtain⟨fs,ea,hl,h2⟩:=zft h2;obtain⟨C',dx,ps,hn',eh,rp⟩:=hS2 a _ ea;rw [hn]at hn';cases hn';cases r2;obtain⟨x3,s3⟩:=hS2.set_ins hn ea eh (RpF.put rp f (r1.ext e2));exact⟨a,C,dx,ps,rfl,eh,c,n,by rw [RpF.len rp];exact hl,hD.nx σW _ σ _ ((e1.trans e2).trans x3) (((hσ.ext e1).ext e2).ext x3) s3 h2⟩
  ·exact h2.elim⟩⟩
theorem ziR (hn:PySem.W.nsIn X.K mainGlobals cl=some (some (.ref C))) (c:Cls X.K C) (n:NoAttr X.K C f) (ha:JE X o ta) (hv:JE X value tv):JS X (.AugAssign (.Attribute o f tpos) .Add value pos) (zlM cl f ta tv):=fun E hE=>
 (zld (ha E hE) (hv E hE) zqX).mono fun D σ H ⟨σW,S,DW,hσ,hS,ht,hD⟩=>⟨σW,S,_,hσ,hS,ht,fun wx S1 x H1 e1 r1 hS1 h1=>by
  split at h1
  ·rename_i a;obtain⟨fs,ea,h1⟩:=zft h1;split at h1
   ·rename_i i el;obtain⟨C',dx,ps,hn',eh,rp⟩:=hS1 a _ ea;rw [hn]at hn';cases hn';obtain⟨v',ev,rv⟩:=(RpF.look rp f).1 _ el;cases rv;cases r1;refine⟨a,C,dx,ps, .int i,rfl,eh,c,n,ev,σW,S1,_,hσ.ext e1,hS1,h1,fun wy S2 y H2 e2 r2 hS2 h2=>?_⟩;split at h2
    ·rename_i j;obtain⟨fs',ea',hl,h2⟩:=zft h2;obtain⟨C',dx',ps',hn',eh',rp'⟩:=hS2 a _ ea';rw [hn]at hn';cases hn';cases r2;obtain⟨x3,s3⟩:=hS2.set_ins hn ea' eh' (RpF.put rp' f (.int (i+j)));exact⟨i,j,rfl,rfl,dx',ps',eh',by rw [RpF.len rp'];exact hl,hD.nx σW _ σ _ ((e1.trans e2).trans x3) (((hσ.ext e1).ext e2).ext x3) s3 h2⟩
    ·exact h2.elim
   ·exact h1.elim
  ·exact h1.elim⟩
end
section
variable {X:Cx}{k:Nat}{f C:Addr}{fd:FuncData}{ps:List Str}{c:WSp}{x m cl:Str}{p pos apos:Pos}{e o:Expr}{es:List Expr}{t:WA}{ta:WE}
theorem ziI{pl:Sem Bool}(hn:PySem.W.nsIn X.K mainGlobals cl=some (some (.ref C))) (cC:Cls X.K C) (hm:Meth X.K C m f) (F:FnOk X.prog X.w X.K X.mg X.base (CX1 X.prog X.w) k f fd ps (zaV X.K c)) (hr:Room k X.A) (hb:Binds X.K fd ps []) (he:JE X o ta) (ha:JA X (e::es) t)
    (hst:starEach (e::es) X.env=(false,eval e X.env)::starEach es X.env:=by rfl) (hpl:(backTo pos (starEach es X.env)).any (·.1)=false:=by rfl)
    (ht:eval (.Call (.Attribute o m apos) (e::es) [] pos) X.env=(do
      let ov ←eval o X.env
      standAt apos.atName
      let (f,first) ←holding [ov] (getMethod ov m pl)
      callWith pos f first (backTo pos (starEach (e::es) X.env)) (backToKw pos (keywordEach [] X.env))):=by rfl) :
    JE X (.Call (.Attribute o m apos) (e::es) [] pos) (zfW cl m c ta t):=fun E hE pins s σ H Q I h=>by
  obtain⟨σW,S,QW,hσ,hS,h0,hQ⟩:=h;refine PySem.W.methodCall_KW (pl:=pl) (thn (he E hE pins s σ H (fun v H1=>∃a fs S1,v= .ref a∧RpSt X.K H1 σW σ∧RepS X.K H1 S1∧S1 a=some (.ins cl fs)∧fs.lookup m=none∧Wish X.K H1 S1 QW Q∧t E σW S1 fun ws S2=>c (.ref a::ws) S2 QW fun cl' S3=>E cl' σW S3) I
    ⟨σW,S,_,hσ,hS,h0,fun w S1 v H1 e1 r1 hS1 h1=>by
      split at h1
      · obtain⟨fs,ea,hl,h1⟩:=zft h1;cases r1;exact⟨_,fs,S1,rfl,hσ.ext e1,hS1,ea,hl,hQ.from e1,h1⟩
      · exact h1.elim⟩) fun u s1 ⟨v,H1,I1,rv,a,fs,S1,ev,hσ1,hS1,ea,hl,hQ1,h1⟩=>?_) ht
  subst ev;obtain rfl:u=Value.ref a:=rv;obtain⟨C',dx,ps',hn',eh,rp⟩:=hS1 a _ ea;rw [hn]at hn';cases hn';refine zgF I1 eh cC hm ((RpF.look rp m).2 hl) ?_;refine PySem.W.callWith_K (first:=[.ref a]) (h₀:=X.base) I.ok.mod.kin hm.kp (thn (ha E hE pos pins s1 σ H1 (fun vs H2=>∃ws S2,Reps X.K H2 ws vs∧RpSt X.K H2 σW σ∧RepS X.K H2 S2∧c (.ref a::ws) S2 QW (fun cl S'=>E cl σW S')∧Wish X.K H2 S2 QW Q) I1
    ⟨σW,S1,_,hσ1,hS1,h1,fun ws S2 vs H2 e2 r2 hS2 h2=>⟨ws,S2,r2,hσ1.ext e2,hS2,h2,hQ1.from e2⟩⟩) fun us s2 ⟨vs,H2,I2,r,ws,S2,r2,hσ2,hS2,h2,hQ2⟩=>⟨I2.kIn,?_⟩) hst hpl
  exact zpy (us:= .ref a::us) (vs:= .ref a::vs) (ws:= .ref a::ws) F hr hb hE I2 (.cons rfl r) (.cons (.ref a) r2) hσ2 hS2 h2 hQ2
theorem zeX{pl:Sem Bool}(hn:PySem.W.nsIn X.K mainGlobals cl=some (some (.ref C))) (cC:Cls X.K C) (hm:Meth X.K C m f) (F:FnOk X.prog X.w X.K X.mg X.base (CX1 X.prog X.w) k f fd ps (zaV X.K c)) (hr:Room k X.A) (hb:Binds X.K fd ps []) (he:JE X o ta)
    (ht:eval (.Call (.Attribute o m apos) [] [] pos) X.env=(do
      let ov ←eval o X.env
      standAt apos.atName
      let (f,first) ←holding [ov] (getMethod ov m pl)
      callWith pos f first (backTo pos (starEach [] X.env)) (backToKw pos (keywordEach [] X.env))):=by rfl) :
    JE X (.Call (.Attribute o m apos) [] [] pos) (zfW cl m c ta waNil):=fun E hE pins s σ H Q I h=>by
  obtain⟨σW,S,QW,hσ,hS,h0,hQ⟩:=h;refine PySem.W.methodCall_KW (pl:=pl) (thn (he E hE pins s σ H (fun v H1=>∃a fs S1,v= .ref a∧RpSt X.K H1 σW σ∧RepS X.K H1 S1∧S1 a=some (.ins cl fs)∧fs.lookup m=none∧Wish X.K H1 S1 QW Q∧c [.ref a] S1 QW fun cl' S3=>E cl' σW S3) I
    ⟨σW,S,_,hσ,hS,h0,fun w S1 v H1 e1 r1 hS1 h1=>by
      split at h1
      · obtain⟨fs,ea,hl,h1⟩:=zft h1;cases r1;exact⟨_,fs,S1,rfl,hσ.ext e1,hS1,ea,hl,hQ.from e1,h1⟩
      · exact h1.elim⟩) fun u s1 ⟨v,H1,I1,rv,a,fs,S1,ev,hσ1,hS1,ea,hl,hQ1,h1⟩=>?_) ht
  subst ev;obtain rfl:u=Value.ref a:=rv;obtain⟨C',dx,ps',hn',eh,rp⟩:=hS1 a _ ea;rw [hn]at hn';cases hn';refine zgF I1 eh cC hm ((RpF.look rp m).2 hl) ?_;exact PySem.W.callWith_K0 (first:=[.ref a]) I1.kIn hm.kp (zpy (us:=[.ref a]) (vs:=[.ref a]) (ws:=[.ref a]) F hr hb hE I1 (.cons rfl .nil) (.cons (.ref a) .nil) hσ1 hS1 h1 hQ1)
theorem zrX{E:WX}{pins:List (Addr×Obj)}{σ:St}{σW:WSt}{H:Hp}{S:Sto}{s:Shared}{Q:VK}{QW:WK}{us:List Value}{vs:List V}{ws:List W}(hn:PySem.W.nsIn X.K mainGlobals cl=some (some (.ref C))) (M:Mk X.K C f)
  (F:FnOk X.prog X.w X.K X.mg X.base (CX1 X.prog X.w) k f fd ps (zaV X.K c)) (hr:Room (k+1) X.A) (hb:Binds X.K fd ps []) (hE:Hook X E) (I:Inv X pins σ H s) (r:Vals vs us) (rs:Reps X.K H ws vs) (hσ:RpSt X.K H σW σ) (hS:RepS X.K H S)
  (h:∀a,S a=none→c (.ref a::ws) (put S a (.ins cl [])) (fun w S'=>w= .non∧QW (.ref a) S') fun cl S'=>E cl σW S') (hQ:Wish X.K H S QW Q):wpAny (model X.prog X.w) X.A (call (.ref C) us) (EP X pins σ Q) X.xe s:=by
 have fx:H (s.heap.objs.size+1)=none:=I.hok.fresh (Nat.le_succ _);have fd0:H s.heap.objs.size=none:=I.hok.fresh (Nat.le_refl _);have nx:s.heap.objs.size+1≠s.heap.objs.size:=Nat.succ_ne_self _;have hq:=h (s.heap.objs.size+1) (hS.free fx);have I2:=Inv.made (C:=C) I;have x1:Ext H S (upd H s.heap.objs.size (.own (s.heap.objs.size+1))) S:= .new fd0;have fx1:upd H s.heap.objs.size (.own (s.heap.objs.size+1)) (s.heap.objs.size+1)=none:=by rw [zax nx];exact fx
 have x2:Ext (upd H s.heap.objs.size (.own (s.heap.objs.size+1))) S (upd (upd H s.heap.objs.size (.own (s.heap.objs.size+1))) (s.heap.objs.size+1) (.ins C s.heap.objs.size [])) (put S (s.heap.objs.size+1) (.ins cl [])):= .newS fx1;have xx:=x1.trans x2;have hS2:RepS X.K (upd (upd H s.heap.objs.size (.own (s.heap.objs.size+1))) (s.heap.objs.size+1) (.ins C s.heap.objs.size [])) (put S (s.heap.objs.size+1) (.ins cl [])):=fun b o q=>by
  by_cases hb:b=s.heap.objs.size+1
  ·subst hb;rw [zaj]at q;cases q;exact⟨C,s.heap.objs.size,[],hn,zaz, .nil⟩
  ·rw [zbN hb]at q;exact(RepS.new (RepS.new hS fd0) fx1) b o q
 have hσ2:=hσ.ext xx;have rs2:Reps X.K _ (.ref (s.heap.objs.size+1)::ws) (.ref (s.heap.objs.size+1)::vs):= .cons (.ref _) (rs.ext xx);have r2:Vals (V.ref (s.heap.objs.size+1)::vs) (Value.ref (s.heap.objs.size+1)::us):= .cons rfl r;have hQ2:=hQ.from xx;have e0:=I2.env0;generalize hH2:upd (upd H s.heap.objs.size (.own (s.heap.objs.size+1))) (s.heap.objs.size+1) (.ins C s.heap.objs.size [])=H2 at *;generalize hS2':put S (s.heap.objs.size+1) (.ins cl [])=S2 at *;have sp:zaV X.K c (V.ref (s.heap.objs.size+1)::vs) (unt H2 S2) (fun v H'=>∃w S',Rep X.K H' w v∧RepS X.K H' S'∧w= .non∧QW (.ref (s.heap.objs.size+1)) S') (fun cv _ H'=>∃cl C S',cv= .ref C∧PySem.W.nsIn X.K mainGlobals cl=some (some (.ref C))∧RepS X.K H' S'∧E cl σW S'):=
  ⟨_,S2,_,_,Reps.mv zeg zeN rs2,hS2.unt,hq,fun w S' v H' _ r1 r2 q=>⟨w,S',r1,r2,q⟩,fun cl C S' H' hn hS' q=>⟨cl,C,S',rfl,hn,hS',q⟩⟩
 have e1:Env0 X.prog X.w X.K X.mg X.base X.A X.stack _ (unt H2 S2):=⟨e0.frames,e0.mod,fun b o e=>⟨(e0.bs b o e).1,zdG (e0.bs b o e).2⟩,e0.bsz,e0.funs,fun b hb=>zdG (e0.frf b hb),e0.hok.unt,e0.bare⟩;have hl:(Value.ref (s.heap.objs.size+1)::us).length=ps.length:=by rw [←r2.length];exact F.len _ _ _ _ sp
 have hb':=hb _ (Value.ref (s.heap.objs.size+1)::us) I2.kIn (by rw [List.append_nil];exact hl);rw [List.append_nil]at hb';refine wpAny_call (znu (f:=f) I.kIn M.makes M.init (beq_iff_eq.mp M.fn) (codeAny_mono (F.run _ X.stack _ (unt H2 S2) ⟨Value.ref (s.heap.objs.size+1)::us,[]⟩ (Value.ref (s.heap.objs.size+1)::us) _ _ _ (hr.make C us []) (e1.make C us []) hb' r2 sp) fun rr s' hq'=>?_));cases rr with
 |error e=>
  obtain⟨a,C',H',rfl,os,bare,un,ok',fly,cl',C'',S',ec,hn',hS',q⟩:=hq';cases ec;refine hE.far pins σ H2 _ σW cl' C' a (rtk H2 S2 H') S' s' I2 hσ2 hn' os bare (zgt un I2.hok) (zke un I2.hok ok' e0.frf) ?_ (zof un I2.hok hS') q;obtain⟨g1,g2,oe,vs',T,oT,ts,a1,a2,a3,a4,a5,a6,a7⟩:=fly;have free:∀{b:Addr},Heap.get? _ b=none→H' b=none→rtk H2 S2 H' b=none:=fun {b} q1 q2=>by
   have hn:H2 b=none:=by
    cases z:H2 b with
    |none=>rfl
    |some u=>obtain⟨ob,eo⟩:=(I2.hok b u z).ex;rw [q1]at eo;cases eo
   unfold rtk;rw [zdG hn,hn];exact q2
  exact⟨g1,free g1 g2,oe,vs',T,oT,ts,a1,a2,a3,a4,a5,free a5 a6,a7⟩
 |ok fl=>
  cases fl with
  |ret u=>
   obtain⟨v,H',os,bare,un,ok',rv,w,S',r1,r2',ew,q⟩:=hq';subst ew;cases r1;exact⟨rv,⟨.ref (s.heap.objs.size+1),rtk H2 S2 H',I2.call' os (zgt un I2.hok) (zke un I2.hok ok' e0.frf) bare (fun _ z=>nomatch z),rfl,hQ2 _ S' _ _ (zjm un I2.hok r2') (.ref _) (zof un I2.hok r2') q⟩⟩
  |next=>exact False.elim hq'
  |brk=>exact False.elim hq'
  |cont=>exact False.elim hq'
theorem zpD (hn:PySem.W.nsIn X.K mainGlobals x=some (some (.ref C))) (M:Mk X.K C f) (F:FnOk X.prog X.w X.K X.mg X.base (CX1 X.prog X.w) k f fd ps (zaV X.K c)) (hr:Room (k+1) X.A) (hg:Gl X x) (hm:X.mg x=some (.ref C)) (hb:Binds X.K fd ps [])
  (ha:JA X (e::es) t) (hdb:(x == ("__debug__" :Str))=false:=by decide) (he:starEach (e::es) X.env=(false,eval e X.env)::starEach es X.env:=by rfl) (hpl:(backTo pos (starEach es X.env)).any (·.1)=false:=by rfl) :
  JE X (.Call (.Name x p) (e::es) [] pos) (zqk x c t):=fun E hE pins s σ H Q I h=>by
 obtain⟨σW,S,QW,hσ,hS,ht,hQ⟩:=h;refine wpAny_Call_Name_kw (zfl I hg hm ?_ hdb);refine PySem.W.callWith_K (h₀:=X.base) I.ok.mod.kin M.kp (thn (ha E hE pos pins s σ H (fun vs H1=>∃ws S1,Reps X.K H1 ws vs∧RpSt X.K H1 σW σ∧RepS X.K H1 S1∧(∀a,S1 a=none→c (.ref a::ws) (put S1 a (.ins x [])) (fun w S'=>w= .non∧QW (.ref a) S') fun cl S'=>E cl σW S')∧Wish X.K H1 S1 QW Q) I
  ⟨σW,S,_,hσ,hS,ht,fun ws S1 vs H1 e1 r1 hS1 h1=>⟨ws,S1,r1,hσ.ext e1,hS1,h1,hQ.from e1⟩⟩) fun us s1 ⟨vs,H1,I1,r,ws,S1,r1,hσ1,hS1,h1,hQ1⟩=>⟨I1.kIn,?_⟩) he hpl
 exact zrX hn M F hr hb hE I1 r r1 hσ1 hS1 h1 hQ1
end
section
variable {E:WX}{σ:WSt}{S:Sto}{Q:WK}{D:WEnds}{cl f:Str}{c:WSp}{ta tv:WE}{t:WA}
theorem zsX:(zms cl f ta E σ S Q)=(ta E σ S fun x S1=>match x with
 | .ref a=>ziC S1 cl a fun fs=>match fs.lookup f with
  |some w=>Q w S1
  |none=>False
 |_=>False):=pz id id
theorem zqc:(zlq cl f ta tv E D σ S)=(tv E σ S fun v S1=>ta E σ S1 fun x S2=>match x with
 | .ref a=>ziC S2 cl a fun fs=>fs.length<1000∧D.nx σ (put S2 a (.ins cl (zdc f v fs)))
 |_=>False):=pz id id
theorem zqz:(zlM cl f ta tv E D σ S)=(ta E σ S fun x S1=>match x with
 | .ref a=>ziC S1 cl a fun fs=>match fs.lookup f with
  |some (.int i)=>tv E σ S1 fun y S2=>match y with
   | .int j=>ziC S2 cl a fun fs'=>fs'.length<1000∧D.nx σ (put S2 a (.ins cl (zdc f (.int (i+j)) fs')))
   |_=>False
  |_=>False
 |_=>False):=pz id id
theorem zpu:(zfW cl f c ta t E σ S Q)=(ta E σ S fun x S1=>match x with
 | .ref a=>ziC S1 cl a fun fs=>fs.lookup f=none∧t E σ S1 fun ws S2=>c (.ref a::ws) S2 Q fun cl' S3=>E cl' σ S3
 |_=>False):=pz id id
theorem zpB:(zqk cl c t E σ S Q)=(t E σ S fun ws S1=>∀a,S1 a=none→c (.ref a::ws) (put S1 a (.ins cl [])) (fun w S2=>w= .non∧Q (.ref a) S2) fun cl' S3=>E cl' σ S3):=pz id id
end
section
variable {X:Cx}{o e:Expr}{es:List Expr}{to:WE}{t:WA}{apos cpos p pos:Pos}
noncomputable def zrM:V→List V→Hp→VK→Prop:=fun x vs H Q=>∃z y:Str,x= .str z∧vs=[.str y]∧(y.length == 0)=false∧z.length≤100000∧ ∀l,H l=none→Q (.ref l) (upd H l (.tup [.str (Txt.partition z y).1, .str (Txt.partition z y).2.1, .str (Txt.partition z y).2.2]))
theorem zhA:MtR X "str.partition" zrM:=by
 intro pins s σ H x vs v us Q I rx rv h;obtain⟨z,y,rfl,rfl,hy,hz,q⟩:=h;obtain⟨t,rfl⟩:=rx;obtain⟨u,rfl,ru⟩:=zgr rv;obtain⟨t',rfl⟩:=ru;refine call_meets PySem.F.slot_str_partition (show s.TypeIs (Value.str z t) "str" from by first |rfl |trivial |exact⟨⟩) PySem.F.entry_str_partition (PySem.F.args_str_partition_2 _ _) (meets_str_partition z y t t' hy (Nat.le_trans hz (by decide))) ?_
 have hT:∀(its:List Value) (k:Nat),Vals [.str (Txt.partition z y).1, .str (Txt.partition z y).2.1, .str (Txt.partition z y).2.2] its→EP X pins σ Q (Value.ref s.heap.objs.size) { s with heap:=s.heap.push { cls:= .type "tuple",data:= .seq its.toArray },toks:=k }:=fun its k r=>by
  have I2:Inv X pins σ (upd H s.heap.objs.size (.tup [.str (Txt.partition z y).1, .str (Txt.partition z y).2.1, .str (Txt.partition z y).2.2])) { s with heap:=s.heap.push { cls:= .type "tuple",data:= .seq its.toArray },toks:=k }:=
   I.laid (t':=k) (fun b o e=>Heap.get?_push_of_some _ e) (Nat.le_refl _) (show ObjOk X.prog X.w _ _ _ (.tup _) from⟨(by show 3≤sizeLine;decide),its,r,IsTup.new _ _⟩)
  exact⟨.ref s.heap.objs.size,_,I2,rfl,q _ (I.hok.fresh (Nat.le_refl _))⟩
 show EP X pins σ Q (Value.ref s.heap.objs.size) _;cases e:Builtin.Str.occurrences z y 0 z.length 1 with
 |nil=>
  have e2:Txt.partition z y=(z,Str.empty,Str.empty):=by unfold Txt.partition;rw [e]
  exact hT [.str z t, .str Str.empty s.toks, .str Str.empty s.toks] _ (by rw [e2];exact .cons ⟨_,rfl⟩ (.cons ⟨_,rfl⟩ (.cons ⟨_,rfl⟩ .nil)))
 |cons i is=>
  have e2:Txt.partition z y=(Builtin.Str.strSub z 0 i,y,Builtin.Str.strSub z (i+y.length) z.length):=by unfold Txt.partition;rw [e]
  exact hT [.str _ s.toks, .str y t', .str _ (s.toks+1)] _ (by rw [e2];exact .cons ⟨_,rfl⟩ (.cons ⟨_,rfl⟩ (.cons ⟨_,rfl⟩ .nil)))
noncomputable def zks:WMf:=fun w ws S Q=>match w,ws with
 | .str z,[.str y]=>(y.length == 0)=false∧z.length≤100000∧Q (.tup [.str (Txt.partition z y).1, .str (Txt.partition z y).2.1, .str (Txt.partition z y).2.2]) S
 |_,_=>False
theorem zho{K:PySem.W.Frag}:MtW K zrM zks:=fun H x w vs ws S Q QW r rs hS h hQ=>by
 unfold zks at h;split at h
 ·rename_i z y;cases r;cases rs with
  |cons r1 rs=>
   cases rs;cases r1;refine⟨z,y,rfl,rfl,h.1,h.2.1,fun l hl=>?_⟩;have x:Ext H S (upd H l (.tup [.str (Txt.partition z y).1, .str (Txt.partition z y).2.1, .str (Txt.partition z y).2.2])) S:= .new hl;exact hQ _ S _ _ x (.tup zaz (.cons (.str _) (.cons (.str _) (.cons (.str _) .nil)))) (hS.new hl) h.2.2
 ·exact h.elim
theorem zfy (ho:JE X o to) (ha:JA X (e::es) t) (hbase:attributeBase o "partition" X.env (eval o X.env)=eval o X.env:=by rfl) (hfew:((backTo cpos (starEach (e::es) X.env)).all (fun x=> !x.1)&&(backToKw cpos (keywordEach [] X.env)).all (fun x=>x.1.isSome)
   &&decide ((e::es).length+([]:List Keyword).length+(if([]:List Keyword).isEmpty then 0 else 1)<30))=true:=by rfl) (hline:(apos.endLine == cpos.line)=true:=by rfl) (hs:starEach (e::es) X.env=(false,eval e X.env)::starEach es X.env:=by rfl) (hplain:(backTo cpos (starEach es X.env)).any (·.1)=false:=by rfl) :
  JE X (.Call (.Attribute o "partition" apos) (e::es) [] cpos) (wM rvS zks to t):=zsl PySem.F.plainAttrs_str PySem.F.slot_str_partition PySem.F.type_str_partition zjG zhA zho ho ha hbase hfew hline hs hplain
theorem zmN:CallR X (.type "int") (fun xs H Q=>∃(x:Str) (n:Int),xs=[.str x]∧intText? x=some n∧x.length≤640∧Q (.int n) H):=by
 intro pins s σ H xs us Q I r h;obtain⟨x,n,rfl,e,hl,q⟩:=h;obtain⟨u,rfl,ru⟩:=zgr r;obtain⟨t,rfl⟩:=ru;exact PySem.W.KIN.call_text e hl ⟨.int n,H,I.tok _,⟨_,rfl⟩,q⟩
noncomputable def zkN:WF:=fun ws S Q=>match ws with
 | [.str x]=>match intText? x with
  |some n=>x.length≤640∧Q (.int n) S
  |none=>False
 |_=>False
theorem zkw{K:PySem.W.Frag}:zjq K (fun xs H Q=>∃(x:Str) (n:Int),xs=[.str x]∧intText? x=some n∧x.length≤640∧Q (.int n) H) zkN:=fun H vs ws S Q QW r hS h hQ=>by
 unfold zkN at h;split at h
 ·rename_i x;cases r with
  |cons r1 r2=>
   cases r2;cases r1;split at h
   ·rename_i n e;exact⟨x,n,rfl,e,h.1,hQ _ S _ H .refl (.int _) hS h.2⟩
   ·exact h.elim
 ·exact h.elim
theorem zqI (hg:Gl X "int") (hm:X.mg "int" =none) (ha:JA X (e::es) t)
  (he:starEach (e::es) X.env=(false,eval e X.env)::starEach es X.env:=by rfl) (hpl:(backTo pos (starEach es X.env)).any (·.1)=false:=by rfl):JE X (.Call (.Name "int" p) (e::es) [] pos) (wB zkN t):=
 zob zmN zkw hg hm PyProof.Rows.boot_int ha (by decide) (by decide) he hpl
end
section
variable {S:Sto}{Q:WK}{z y:Str}{n:Int}
theorem zeR (hy:(y.length == 0)=false) (hz:z.length≤100000):(zks (.str z) [.str y] S Q)=Q (.tup [.str (Txt.partition z y).1, .str (Txt.partition z y).2.1, .str (Txt.partition z y).2.2]) S:=propext ⟨fun h=>h.2.2,fun h=>⟨hy,hz,h⟩⟩
theorem ztn (h:intText? z=some n) (hl:z.length≤640):(zkN [.str z] S Q)=Q (.int n) S:=by
 show(match intText? z with
  |some n=>z.length≤640∧Q (.int n) S
  |none=>False)=_
 rw [h];exact propext ⟨fun h=>h.2,fun h=>⟨hl,h⟩⟩
end
section
variable {X:Cx}{a b o e:Expr}{es:List Expr}{to:WE}{t:WA}{apos cpos pos:Pos}
noncomputable def fnd (z y:Str):Int:=match Builtin.Str.occurrences z y 0 z.length 1 with
 |i::_=>(i:Int)
 | []=> -1
noncomputable def ztg:V→List V→Hp→VK→Prop:=fun x vs H Q=>∃z y:Str,x= .str z∧vs=[.str y]∧Q (.int (fnd z y)) H
theorem zqM:MtR X "str.find" ztg:=by
 intro pins s σ H x vs v us Q I rx rv h;obtain⟨z,y,rfl,rfl,q⟩:=h;obtain⟨t,rfl⟩:=rx;obtain⟨u,rfl,ru⟩:=zgr rv;obtain⟨t',rfl⟩:=ru;exact call_gives PySem.F.slot_str_find (show s.TypeIs (Value.str z t) "str" from by first |rfl |trivial |exact⟨⟩) PySem.F.entry_str_find (PySem.F.args_str_find_2 _ _) (gives_str_find z y t t') ⟨.int (fnd z y),H,I.tok _,⟨_,rfl⟩,q⟩
noncomputable def zkp:WMf:=fun w ws S Q=>match w,ws with
 | .str z,[.str y]=>Q (.int (fnd z y)) S
 |_,_=>False
theorem zop{K:PySem.W.Frag}:MtW K ztg zkp:=fun H x w vs ws S Q QW r rs hS h hQ=>by
 unfold zkp at h;split at h
 ·rename_i z y;cases r;cases rs with
  |cons r1 rs=>
   cases rs;cases r1;exact⟨z,y,rfl,rfl,hQ _ S _ _ .refl (.int _) hS h⟩
 ·exact h.elim
theorem zmf (ho:JE X o to) (ha:JA X (e::es) t) (hbase:attributeBase o "find" X.env (eval o X.env)=eval o X.env:=by rfl) (hfew:((backTo cpos (starEach (e::es) X.env)).all (fun x=> !x.1)&&(backToKw cpos (keywordEach [] X.env)).all (fun x=>x.1.isSome)
   &&decide ((e::es).length+([]:List Keyword).length+(if([]:List Keyword).isEmpty then 0 else 1)<30))=true:=by rfl) (hline:(apos.endLine == cpos.line)=true:=by rfl) (hs:starEach (e::es) X.env=(false,eval e X.env)::starEach es X.env:=by rfl) (hplain:(backTo cpos (starEach es X.env)).any (·.1)=false:=by rfl) :
  JE X (.Call (.Attribute o "find" apos) (e::es) [] cpos) (wM rvS zkp to t):=zsl PySem.F.plainAttrs_str PySem.F.slot_str_find PySem.F.type_str_find zjG zqM zop ho ha hbase hfew hline hs hplain
noncomputable def zkk (x:Str) (k:Nat):Str:=⟨(List.replicate k x.cps.toList).flatten.toArray⟩
theorem zjA:∀(l:List (Array Nat)) (a:Array Nat),(l.foldl (· ++ ·) a).toList=a.toList++(l.map (·.toList)).flatten
 | [],a=>by simp
 |x::l,a=>by rw [List.foldl_cons,zjA l];simp
theorem zoj (x:Str) (k:Nat):(⟨(List.replicate k x.cps).foldl (· ++ ·) #[]⟩:Str)=zkk x k:=by
 unfold zkk;congr 1;apply Array.toList_inj.mp;rw [zjA];simp
noncomputable def zsI:R2:=fun x y H Q=>∃(z:Str) (k:Int),x= .str z∧y= .int k∧ -(2 ^ 63)≤k∧k<2 ^ 40∧z.length*k.toNat≤1000000∧Q (.str (zkk z k.toNat)) H
theorem zqd:OpR X (binaryOp .Mult) zsI:=by
  intro pins s σ H x y v u Q I rx ry h;obtain⟨z,k,rfl,rfl,h1,h2,h3,q⟩:=h;obtain⟨t,rfl⟩:=rx;obtain⟨t',rfl⟩:=ry;have hz:∀y:Str,y=zkk z k.toNat→y.length≤1000000:=fun y e=>by
    subst e;unfold zkk;show(List.replicate k.toNat z.cps.toList).flatten.toArray.size≤_;rw [List.size_toArray,List.length_flatten,List.map_replicate,List.sum_replicate_nat];have:z.cps.toList.length=z.length:=by simp [Str.length]
    rw [this,Nat.mul_comm];exact h3
  refine P.mul_str (by rw [decide_eq_false (by omega),decide_eq_false (by omega)];rfl) (fun hk _=>?_) (fun _ _=>?_) ?_
  · have e:(2 ^ 63 - 1:Int) / k≥2 ^ 63 / 2 ^ 41:=by
      have:(2 ^ 63 / 2 ^ 41:Int)*k≤2 ^ 63 - 1:=by omega
      exact(Int.le_ediv_iff_mul_le (by omega)).mpr this
    have:z.length≤1000000:=by
      have:1≤k.toNat:=by omega
      calc z.length=z.length*1:=by omega
        _≤z.length*k.toNat:=Nat.mul_le_mul_left _ this
        _≤_:=h3
    omega
  · unfold Builtin.Str.tooLong
    first
      |exact decide_eq_false (by unfold sizeLine;omega)
      | (simp [sizeLine];omega)
  · by_cases hk:k<1
    · rw [if_pos hk];have e:zkk z k.toNat=Str.empty:=by
        have:k.toNat=0:=by omega
        rw [this];rfl
      rw [e]at q;exact⟨by decide, .str Str.empty,H,I.tok _,⟨_,rfl⟩,q⟩
    · rw [if_neg hk];by_cases h1':(k == 1 || z.length == 0)=true
      · rw [if_pos h1'];have e:zkk z k.toNat=z:=by
          rw [Bool.or_eq_true]at h1';rcases h1' with h |h
          · have:k=1:=by simpa using h
            subst this;obtain⟨c⟩:=z;simp [zkk]
          · have:z.length=0:=by simpa using h
            have:z.cps.toList=[]:=by
              apply List.eq_nil_of_length_eq_zero;simpa [Str.length]using this
            obtain⟨c⟩:=z;unfold zkk;congr 1;apply Array.toList_inj.mp;simp only at this;rw [this];simp
        rw [e]at q;exact⟨.str z,H,I,⟨_,rfl⟩,q⟩
      · rw [if_neg h1',zoj];exact⟨by
          have:=hz _ rfl
          first
            |exact Nat.le_trans this (by decide)
            | (simp [sizeLine];omega), .str _,H,I.tok _,⟨_,rfl⟩,q⟩
noncomputable def zkr:W2
 | .str z, .int k,S,Q=>(-(2 ^ 63)≤k∧k<2 ^ 40∧z.length*k.toNat≤1000000)∧Q (.str (zkk z k.toNat)) S
 |_,_,_,_=>False
theorem znQ{K:PySem.W.Frag}:OpW K zsI zkr:=fun H x y wx wy S Q QW rx ry hS h hQ=>by
 cases rx with
 |str z=>
  cases ry with
  |int k=>exact⟨z,k,rfl,rfl,h.1.1,h.1.2.1,h.1.2.2,hQ _ S _ H .refl (.str _) hS h.2⟩
  |_=>exact h.elim
 |_=>cases ry<;>exact h.elim
theorem zjj{ta tb:WE}(ha:JE X a ta) (hb:JE X b tb):JE X (.BinOp a .Mult b pos) (wOp zkr ta tb):=zji zqd znQ ha hb
end
section
variable {S:Sto}{Q:WK}{z y:Str}{k:Int}
theorem zoQ:zkp (.str z) [.str y] S Q=Q (.int (fnd z y)) S:=rfl
theorem zoy:zkr (.str z) (.int k) S Q=((-(2 ^ 63)≤k∧k<2 ^ 40∧z.length*k.toNat≤1000000)∧Q (.str (zkk z k.toNat)) S):=rfl
end
noncomputable def zdI:Nat→WSp
 |0=>zcf
 |r+1=>zeb 1 1 (zat (zdn (zex (zkI "int" (zag 0))) (zbD (zjh waNil)) zaP)
  (zbD (wSl (zag 0) (woS (wC (.int 1))) woN)))
noncomputable def zcN (r:Nat) (self:WSp):WS:=(zhM (wM rvL zgk (zag 1) (zab (zaA (zdI r) (zab (zag 2) waNil)) waNil)))
noncomputable def zbT:Nat→WSp
 |0=>zcf
 |r+1=>zeb 3 1 (zat (wAsg (zfe (zeG waNil)) (wGN 1))
  (zat (zoK (wIv (zag 0)) (wGN 2) (zcN r zcf))
  (zbD (zag 1))))
noncomputable def zfz (r:Nat) (self:WSp):WS:=(zat (ztd 1 (fun a b=>a+b) (wB zdZ (zab (zag 3) waNil)))
  (zat (ztd 2 (fun a b=>a+b) (wC (.int 1)))
  (zat (zdn (wOr (wTb (wOp oGt (zag 1) (wC (.int 400)))) (wTb (wOp oGt (zag 2) (wC (.int 40))))) (zbD (wC (.bl false))) zaP)
  (wAsg (zaA (zbT r) (zab (zag 3) waNil)) (wGN 3)))))
noncomputable def zdP:Nat→WSp
 |0=>zcf
 |r+1=>zeb 4 1 (zat (wAsg (wC (.int 0)) (wGN 1))
  (zat (wAsg (wC (.int 0)) (wGN 2))
  (zat (wAsg (zfe (zeG (zab (zag 0) waNil))) (wGN 3))
  (zat (zfX (zex (zag 3)) (zfz r zcf))
  (zbD (wC (.bl true)))))))
noncomputable def zcG (r:Nat) (self:WSp):WE:=(zfu oLe oLe (wC (.str "a")) (zag 0) (wC (.str "z")))
noncomputable def zaC:Nat→WSp
 |0=>zcf
 |r+1=>zeb 1 1 (zbD (wBL zio (zgd 1 [] (wIv (zag 0)) (wGN 0) zjH (zcG r zcf))))
noncomputable def zdh:Nat→WSp
 |0=>zcf
 |r+1=>zeb 1 1 (zbD (zee (zfu oLe oLe (wC (.int 1)) (wB zdZ (zab (zag 0) waNil)) (wC (.int 8))) (zaA (zaC r) (zab (zag 0) waNil))))
noncomputable def zcc:Nat→WSp
 |0=>zcf
 |r+1=>zeb 1 1 (zbD (zee (zfu oLe oLe (wC (.int 1)) (wB zdZ (zab (zag 0) waNil)) (wC (.int 8))) (zee (zfu oLe oLe (wC (.str "A")) (wOp oIx (zag 0) (wC (.int 0))) (wC (.str "Z"))) (zaA (zaC r) (zab (wSl (zag 0) (woS (wC (.int 1))) woN) waNil)))))
noncomputable def zaX:Nat→WSp
 |0=>zcf
 |r+1=>zeb 3 3 (zat (zlq "Reader" "text" (zag 0) (zag 1))
  (zat (zlq "Reader" "in_side" (zag 0) (zag 2))
  (zlq "Reader" "at" (zag 0) (wC (.int 0)))))
noncomputable def zaR:Nat→WSp
 |0=>zcf
 |r+1=>zeb 1 1 (zbD (wSl (zms "Reader" "text" (zag 0)) (woS (zms "Reader" "at" (zag 0))) (woS (wOp zbw (zms "Reader" "at" (zag 0)) (wC (.int 1))))))
noncomputable def zcY (r:Nat) (self:WSp):WS:=(zlM "Reader" "at" (zag 0) (wC (.int 1)))
noncomputable def zaS:Nat→WSp
 |0=>zcf
 |r+1=>zeb 2 1 (zat (wAsg (zms "Reader" "at" (zag 0)) (wGN 1))
  (zat (zfX (wTb (wOp (oIn true) (zfW "Reader" "here" (zaR r) (zag 0) waNil) (zjh (zab (wC (.str "")) (zab (wC (.str "(")) (zab (wC (.str ",")) (zab (wC (.str ")")) waNil))))))) (zcY r zcf))
  (zbD (wSl (zms "Reader" "text" (zag 0)) (woS (zag 1)) (woS (zms "Reader" "at" (zag 0)))))))
noncomputable def zaQ (r:Nat) (self:WSp):WS:=(zat (zlM "Reader" "at" (zag 0) (wC (.int 1)))
  (zhM (wM rvL zfm (zag 2) (zab (zfW "Reader" "read_thing" self (zag 0) (zab (zag 1) waNil)) waNil))))
noncomputable def zaw (cT:WSp):Nat→WSp
 |0=>zcf
 |r+1=>zeb 3 2 (zat (zdn (wTb (wOp (oEq true) (zfW "Reader" "here" (zaR r) (zag 0) waNil) (wC (.str "(")))) (zbD (zjh waNil)) zaP)
  (zat (wAsg (zfe (zeG waNil)) (wGN 2))
  (zat (zfX (wOr (zfN (zex (zag 2))) (wTb (wOp (oEq false) (zfW "Reader" "here" (zaR r) (zag 0) waNil) (wC (.str ","))))) (zaQ r cT))
  (zat (zdn (wTb (wOp (oEq true) (zfW "Reader" "here" (zaR r) (zag 0) waNil) (wC (.str ")")))) (zeI "NoText" (zab (wC (.str "a bracket is not closed")) waNil)) zaP)
  (zat (zlM "Reader" "at" (zag 0) (wC (.int 1)))
  (zbD (wB ziu (zab (zag 2) waNil))))))))
noncomputable def zdf (r:Nat) (self:WSp):WE:=(zfu oLe oLe (wC (.str "0")) (zag 0) (wC (.str "9")))
noncomputable def zbb:Nat→WSp
 |0=>zcf
 |r+1=>zeb 1 1 (zat (zdn (zfN (zex (wBL zio (zgd 1 [] (wIv (zag 0)) (wGN 0) zjH (zdf r zcf))))) (zbD (wC (.bl false))) zaP)
  (zbD (zrv (wOp (oEq false) (wB zdZ (zab (zag 0) waNil)) (wC (.int 1))) (zee (wOp (oEq false) (wB zdZ (zab (zag 0) waNil)) (wC (.int 2))) (wOp (oEq true) (wOp oIx (zag 0) (wC (.int 0))) (wC (.str "0")))))))
noncomputable def zbz:Nat→WSp
 |0=>zcf
 |r+1=>zeb 1 1 (zbD (zee (wOp (oEq false) (wSl (zag 0) woN (woS (wC (.int 1)))) (wC (.str "?"))) (zaA (zbb r) (zab (wSl (zag 0) (woS (wC (.int 1))) woN) waNil))))
noncomputable def zap:Nat→WSp
 |0=>zcf
 |1=>zcf
 |r+2=>zeb 3 2 (zat (zdn (wTb (wOp (oEq false) (zag 1) (wC (.int 0)))) (zeI "NoText" (zab (wC (.str "the text is nested too deep")) waNil)) zaP)
  (zat (wAsg (zfW "Reader" "read_word" (zaS (r+1)) (zag 0) waNil) (wGN 2))
  (zat (zdn (zoA (zex (zms "Reader" "in_side" (zag 0))) (zex (zaA (zbz (r+1)) (zab (zag 2) waNil)))) (zbD (wB zkN (zab (wSl (zag 2) (woS (wC (.int 1))) woN) waNil))) zaP)
  (zat (zdn (zoA (zfN (zex (zaA (zdh (r+1)) (zab (zag 2) waNil)))) (wOr (zex (zms "Reader" "in_side" (zag 0))) (zfN (zex (zaA (zcc (r+1)) (zab (zag 2) waNil)))))) (zeI "NoText" (zab (wC (.str "a word of the text is none that may stand there")) waNil)) zaP)
  (zbD (wOp zbw (zjh (zab (zag 2) waNil)) (zfW "Reader" "read_parts" (zaw (zap r) (r+1)) (zag 0) (zab (wOp (zhm fun i j=> .int (i - j)) (zag 1) (wC (.int 1))) waNil))))))))
noncomputable def zaK:Nat→WSp
 |0=>zcf
 |r+1=>zeb 1 1 (zat (zdn (zfN (zex (zkI "str" (zag 0)))) (zeI "NoText" (zab (wC (.str "this is no text")) waNil)) zaP)
  (zdn (wTb (wOp oGt (wB zdZ (zab (zag 0) waNil)) (wC (.int 4000)))) (zeI "NoText" (zab (wC (.str "the text is too long")) waNil)) zaP))
noncomputable def zbe:Nat→WSp
 |0=>zcf
 |1=>zcf
 |r+2=>zeb 4 2 (zat (zhM (zaA (zaK (r+1)) (zab (zag 0) waNil)))
  (zat (wAsg (zqk "Reader" (zaX r) (zab (zag 0) (zab (zag 1) waNil))) (wGN 2))
  (zat (wAsg (zfW "Reader" "read_thing" (zap (r+1)) (zag 2) (zab (wC (.int 40)) waNil)) (wGN 3))
  (zat (zdn (wTb (wOp (oEq true) (zms "Reader" "at" (zag 2)) (wB zdZ (zab (zag 0) waNil)))) (zeI "NoText" (zab (wC (.str "something stands behind the end")) waNil)) zaP)
  (zat (zdn (zfN (zex (zaA (zdP (r+1)) (zab (zag 3) waNil)))) (zeI "NoText" (zab (wC (.str "the text tells of a thing that is not small")) waNil)) zaP)
  (zbD (zag 3)))))))
noncomputable def zcr:Nat→WSp
 |0=>zcf
 |r+1=>zeb 1 1 (zbD (zaA (zbe r) (zab (zag 0) (zab (wC (.bl false)) waNil))))
noncomputable def zbg:Nat→WSp
 |0=>zcf
 |r+1=>zeb 1 1 (zbD (zaA (zbe r) (zab (zag 0) (zab (wC (.bl true)) waNil))))
noncomputable def zaT:Nat→WSp
 |0=>zcf
 |r+1=>zeb 4 1 (zat (zhM (zaA (zaK r) (zab (zag 0) waNil)))
  (zat (wAsg (wM rvS zks (zag 0) (zab (wC (.str ": ")) waNil)) (wGN 1))
  (zat (wAsg (wOp oIx (zag 1) (wC (.int 0))) (wGN 2))
  (zat (wAsg (wM rvS zks (wOp oIx (zag 1) (wC (.int 2))) (zab (wC (.str " > ")) waNil)) (wGN 3))
  (zat (zdn (zfN (zex (zaA (zcc r) (zab (zag 2) waNil)))) (zeI "NoText" (zab (wC (.str "a turning's text begins with a title")) waNil)) zaP)
  (zbD (zjh (zab (zag 2) (zab (zaA (zbg r) (zab (wOp oIx (zag 3) (wC (.int 0))) waNil)) (zab (zaA (zbg r) (zab (wOp oIx (zag 3) (wC (.int 2))) waNil)) waNil))))))))))
noncomputable def zbj:Nat→WSp
 |0=>zcf
 |r+1=>zeb 4 2 (zat (zdn (wTb (wOp (oEq false) (wB zdZ (zab (zag 0) waNil)) (wC (.int 0)))) (zbD (wC (.int 0))) zaP)
  (zat (wAsg (wOp (zco (fun _ j=>0<j) fun i j=> .int (i % j)) (wOp oIx (zag 0) (wOp (zco (fun _ j=>0<j) fun i j=> .int (i % j)) (zag 1) (wB zdZ (zab (zag 0) waNil)))) (wOp (zco zso fun i j=> .int (i ^ j.toNat)) (wC (.int 10)) (wC (.int 60)))) (wGN 2))
  (zat (zdn (wTb (wOp oLt (zag 1) (wB zdZ (zab (zag 0) waNil)))) (zbD (zag 2)) zaP)
  (zat (wAsg (wOp (zco (fun _ j=>0<j) fun i j=> .int (i % j)) (wOp zbw (wOp zbw (zag 2) (wOp (zco CMul fun i j=> .int (i*j)) (wOp (zco CMul fun i j=> .int (i*j)) (wC (.int 7919)) (zag 1)) (zag 1))) (wC (.int 1))) (wC (.int 2147483647))) (wGN 3))
  (zbD (wOp (zco (fun _ j=>0<j) fun i j=> .int (i % j)) (wOp (zco CMul fun i j=> .int (i*j)) (zag 3) (zag 3)) (wC (.int 2147483647))))))))
noncomputable def zeF (r:Nat) (self:WSp):WE:=(wOp oIx (zag 1) (wOp (zco (fun _ j=>0<j) fun i j=> .int (i % j)) (wOp zbw (wOp oIx (zag 2) (zag 0)) (wOp (zco CMul fun i j=> .int (i*j)) (zag 3) (wB zox (zab (wOp (oEq false) (zag 0) (zag 4)) waNil)))) (wC (.int 26))))
noncomputable def zeC (r:Nat) (self:WSp):WS:=(zhM (wM rvL zfm (zag 10) (zab (wML rvS zfA (wC (.str "")) (zgd 1 [3,6,11,9] (zqa (zab (zag 8) waNil)) (wGN 0) zjH (zeF r zcf))) waNil)))
noncomputable def zeE (r:Nat) (self:WSp):WE:=(wOp oIx (zag 1) (zag 0))
noncomputable def zez (r:Nat) (self:WSp):WE:=(wML rvS zfA (wC (.str "")) (zgd 1 [1] (wIv (wSl (zag 2) woN (woS (wOp zbw (zag 0) (wC (.int 1)))))) (wGN 0) zjH (zeE r zcf)))
noncomputable def zdE (r:Nat) (self:WSp):WS:=(zat (zhM (wM rvL zfm (zag 6) (zab (wOp (zco (fun _ j=>0<j) fun i j=> .int (i % j)) (zag 5) (wC (.int 26))) waNil)))
  (wAsg (wOp (zco zhZ fun i j=> .int (i / j)) (zag 5) (wC (.int 26))) (wGN 5)))
noncomputable def zcd:Nat→WSp
 |0=>zcf
 |r+1=>zeb 12 3 (zat (wAsg (wC (.str "abcdefghijklmnopqrstuvwxyz")) (wGN 3))
  (zat (wAsg (zaA (zbj r) (zab (zag 0) (zab (zag 1) waNil))) (wGN 4))
  (zat (wAsg (wOp (zco (fun _ j=>0<j) fun i j=> .int (i % j)) (wOp (zco CMul fun i j=> .int (i*j)) (zaA (zbj r) (zab (zag 0) (zab (wOp zbw (zag 1) (wC (.int 1))) waNil))) (wC (.int 982451653))) (wOp (zco zso fun i j=> .int (i ^ j.toNat)) (wC (.int 26)) (wC (.int 8)))) (wGN 5))
  (zat (wAsg (zfe (zeG waNil)) (wGN 6))
  (zat (zoK (zqa (zab (wC (.int 8)) waNil)) (wGN 7) (zdE r zcf))
  (zat (zdn (wTb (wOp (oEq false) (wOp (zco (fun _ j=>0<j) fun i j=> .int (i % j)) (zag 4) (wC (.int 3))) (wC (.int 0)))) (zbD (zfe (zgd 1 [3,6] (zqa (zab (zag 2) waNil)) (wGN 0) zjH (zez r zcf)))) zaP)
  (zat (wAsg (wOp zbw (wC (.int 1)) (wOp (zco (fun _ j=>0<j) fun i j=> .int (i % j)) (wOp (zco zhZ fun i j=> .int (i / j)) (zag 4) (wC (.int 3))) (wC (.int 8)))) (wGN 8))
  (zat (wAsg (wOp (zco (fun _ j=>0<j) fun i j=> .int (i % j)) (wOp (zco zhZ fun i j=> .int (i / j)) (zag 4) (wC (.int 24))) (zag 8)) (wGN 9))
  (zat (wAsg (zfe (zeG waNil)) (wGN 10))
  (zat (zoK (zqa (zab (zag 2) waNil)) (wGN 11) (zeC r zcf))
  (zbD (zag 10))))))))))))
noncomputable def zem (r:Nat) (self:WSp):WE:=(wOp zbw (wOp oIx (zag 1) (wM rvS zig (zag 2) (zab (wOp oIx (zag 0) (wC (.int 0))) waNil))) (wSl (zag 0) (woS (wC (.int 1))) woN))
noncomputable def zch:Nat→WSp
 |0=>zcf
 |r+1=>zeb 5 3 (zat (wAsg (wC (.str "abcdefghijklmnopqrstuvwxyz")) (wGN 3))
  (zat (wAsg (wC (.str "ABCDEFGHIJKLMNOPQRSTUVWXYZ")) (wGN 4))
  (zbD (zfe (zgd 1 [4,3] (wIv (zaA (zcd r) (zab (zag 0) (zab (zag 1) (zab (zag 2) waNil))))) (wGN 0) zjH (zem r zcf))))))
noncomputable def zcl:Nat→WSp
 |0=>zcf
 |r+1=>zeb 6 4 (zat (wAsg (zrU (zeG (zab (wC (.int 0)) (zab (wC (.int 0)) (zab (wC (.int 1)) (zab (wC (.int 2)) (zab (wC (.int 3)) waNil)))))) (wOp (zco (fun _ j=>0<j) fun i j=> .int (i % j)) (zag 1) (wC (.int 5)))) (wGN 4))
  (zat (wAsg (wOp (zco zhZ fun i j=> .int (i / j)) (zag 1) (wC (.int 5))) (wGN 5))
  (zat (zdn (wOr (wTb (wOp (oEq false) (zag 4) (wC (.int 0)))) (wTb (wOp oLt (wB zdZ (zab (zag 0) waNil)) (zag 4)))) (zbD (zfe (zjf (zag 0) (zeG (zab (wOp oIx (zag 3) (wOp (zco (fun _ j=>0<j) fun i j=> .int (i % j)) (zag 5) (wB zdZ (zab (zag 3) waNil)))) waNil))))) zaP)
  (zbD (zfe (znx (zst (zag 0) woN (woS (zql (zag 4)))) (zeG (zab (wOp zbw (zjh (zab (wOp oIx (zag 2) (wOp (zco (fun _ j=>0<j) fun i j=> .int (i % j)) (zag 5) (wB zdZ (zab (zag 2) waNil)))) waNil)) (wBL zgX (zst (zag 0) (woS (zql (zag 4))) woN))) waNil))))))))
noncomputable def zeL (r:Nat) (self:WSp):WS:=(wAsg (zfe (znx (zst (zag 3) woN (woS (zql (wC (.int 2))))) (zeG (zab (zjh (zab (wOp oIx (zag 1) (wC (.int 0))) (zab (wOp oIx (zag 3) (zql (wC (.int 2)))) (zab (wOp oIx (zag 3) (zql (wC (.int 1)))) waNil)))) waNil)))) (wGN 3))
noncomputable def zeA (r:Nat) (self:WSp):WS:=(wAsg (zaA (zcl r) (zab (zag 3) (zab (wOp (zco (fun _ j=>0<j) fun i j=> .int (i % j)) (zag 4) (wOp (zco zso fun i j=> .int (i ^ j.toNat)) (wC (.int 10)) (wC (.int 60)))) (zab (zag 1) (zab (zag 2) waNil))))) (wGN 3))
noncomputable def zcb:Nat→WSp
 |0=>zcf
 |r+1=>zeb 5 3 (zat (wAsg (zfe (zeG waNil)) (wGN 3))
  (zat (zoK (wIv (zag 0)) (wGN 4) (zeA r zcf))
  (zat (zdn (wTb (wOp (oEq false) (wB zdZ (zab (zag 3) waNil)) (wC (.int 0)))) (zbD (wOp oIx (zag 2) (wC (.int 0)))) zaP)
  (zat (zfX (wTb (wOp oGt (wB zdZ (zab (zag 3) waNil)) (wC (.int 1)))) (zeL r zcf))
  (zbD (wOp oIx (zag 3) (wC (.int 0))))))))
noncomputable def zcT (r:Nat) (self:WSp):WS:=(zat (wAsg (wOp zbw (wOp zbw (zag 1) (zag 2)) (zaA self (zab (zag 3) waNil))) (wGN 1))
  (wAsg (wC (.str ",")) (wGN 2)))
noncomputable def zar:Nat→WSp
 |0=>zcf
 |r+1=>zeb 4 1 (zat (zdn (zex (zkI "int" (zag 0))) (zbD (wOp zbw (wC (.str "?")) (wB ztq (zab (zag 0) waNil)))) zaP)
  (zat (wAsg (wOp oIx (zag 0) (wC (.int 0))) (wGN 1))
  (zat (wAsg (wC (.str "(")) (wGN 2))
  (zat (zoK (wIv (wSl (zag 0) (woS (wC (.int 1))) woN)) (wGN 3) (zcT r (zar r)))
  (zat (zdn (wTb (wOp (oEq false) (zag 2) (wC (.str ",")))) (wAsg (wOp zbw (zag 1) (wC (.str ")"))) (wGN 1)) zaP)
  (zbD (zag 1)))))))
noncomputable def zeo (r:Nat) (self:WSp):WE:=(wOp (oIn false) (zag 0) (zag 1))
noncomputable def zbi:Nat→WSp
 |0=>zcf
 |r+1=>zeb 2 2 (zbD (wBL zio (zgd 1 [1] (wIv (zag 0)) (wGN 0) zjH (zeo r zcf))))
noncomputable def zbk (r:Nat):WS:=(zbD (zrv (wOp (oEq false) (wB zdZ (zab (zag 4) waNil)) (wC (.int 1))) (zee (wOp (oEq false) (wB zdZ (zab (zag 4) waNil)) (wC (.int 2))) (wOp (oEq true) (wOp oIx (zag 4) (wC (.int 0))) (wC (.str "0"))))))
noncomputable def zbY (r:Nat) (T:WS):WS:=(zat (zdn (wOr (wTb (wOp (oEq true) (wSl (zag 0) woN (woS (wC (.int 1)))) (wC (.str "?")))) (zfN (zex (zaA (zbi r) (zab (zag 4) (zab (wC (.str "0123456789")) waNil)))))) (zbD (wC (.bl false))) zaP) T)
noncomputable def zbZ (r:Nat) (T:WS):WS:=(zat (wAsg (wSl (zag 0) (woS (wC (.int 1))) woN) (wGN 4)) T)
noncomputable def zaL (r:Nat):WS:=(zbD (zee (zag 3) (zaA (zbi r) (zab (wSl (zag 0) (woS (wC (.int 1))) woN) (zab (zag 2) waNil)))))
noncomputable def zbK (r:Nat) (T:WS):WS:=(zat (wAsg (zee (wOp oGt (wB zdZ (zab (zag 0) waNil)) (wC (.int 0))) (zee (wOp oLt (wB zdZ (zab (zag 0) waNil)) (wC (.int 9))) (wOp (oIn false) (wOp oIx (zag 0) (wC (.int 0))) (wC (.str "ABCDEFGHIJKLMNOPQRSTUVWXYZ"))))) (wGN 3)) T)
noncomputable def zcV (r:Nat) (T:WS):WS:=(zat (zdn (wTb (wOp (oEq false) (zag 1) (wC (.int 0)))) (zbK r (zaL r)) zaP) T)
noncomputable def zbW (r:Nat) (T:WS):WS:=(zat (zdn (zoA (wTb (wOp oGt (wB zdZ (zab (zag 0) waNil)) (wC (.int 0)))) (zoA (wTb (wOp oLt (wB zdZ (zab (zag 0) waNil)) (wC (.int 9)))) (zex (zaA (zbi r) (zab (zag 0) (zab (zag 2) waNil)))))) (zbD (wC (.bl true))) zaP) T)
noncomputable def zcR (r:Nat) (T:WS):WS:=(zat (wAsg (wC (.str "abcdefghijklmnopqrstuvwxyz")) (wGN 2)) T)
noncomputable def zbm:Nat→WSp
 |0=>zcf
 |r+1=>zeb 5 2 (zcR r (zbW r (zcV r (zbZ r (zbY r (zbk r))))))
noncomputable def zea (r:Nat) (self:WSp):WS:=(wAsg (wOp zbw (zag 2) (wC (.int 1))) (wGN 2))
noncomputable def zbV:Nat→WSp
 |0=>zcf
 |r+1=>zeb 3 2 (zat (wAsg (zag 1) (wGN 2))
  (zat (zfX (zoA (wTb (wOp oLt (zag 2) (wB zdZ (zab (zag 0) waNil)))) (wTb (wOp (oIn true) (wOp oIx (zag 0) (zag 2)) (wC (.str "(),"))))) (zea r zcf))
  (zbD (wSl (zag 0) (woS (zag 1)) (woS (zag 2))))))
noncomputable def zct (r:Nat):WS:=(zbD (zee (zno (zag 4)) (zee (wOp (oEq false) (zag 2) (wC (.int 0))) (wOp oLe (zag 3) (wC (.int 400))))))
noncomputable def zbd (r:Nat):WS:=(wAsg (wOp zbw (zag 5) (wB zox (zab (zag 4) waNil))) (wGN 5))
noncomputable def zaY (r:Nat) (T:WS):WS:=(zat (wAsg (wOp zbw (zag 2) (wB zox (zab (zag 4) waNil))) (wGN 2)) T)
noncomputable def zaZ (r:Nat) (T:WS):WS:=(zat (zdn (zoA (zex (zag 4)) (wTb (wOp (oEq false) (wOp oIx (zag 6) (wC (.int 0))) (wC (.str "?"))))) (zbD (wC (.bl false))) zaP) T)
noncomputable def zbF (r:Nat) (T:WS):WS:=(zat (wAsg (wOp (oEq false) (wSl (zag 0) (woS (zag 5)) (woS (wOp zbw (zag 5) (wC (.int 1))))) (wC (.str "("))) (wGN 4)) T)
noncomputable def zbC (r:Nat) (T:WS):WS:=(zat (wAsg (wOp zbw (zag 5) (wB zdZ (zab (zag 6) waNil))) (wGN 5)) T)
noncomputable def zbE (r:Nat) (T:WS):WS:=(zat (wAsg (wOp zbw (zag 3) (wC (.int 1))) (wGN 3)) T)
noncomputable def zbA (r:Nat) (T:WS):WS:=(zat (zdn (wOr (zfN (zex (zaA (zbm r) (zab (zag 6) (zab (zag 1) waNil))))) (wTb (wOp oGt (zag 2) (wC (.int 39))))) (zbD (wC (.bl false))) zaP) T)
noncomputable def zaE (r:Nat):WS:=(wAsg (wOp zbw (zag 5) (wC (.int 1))) (wGN 5))
noncomputable def zbB (r:Nat) (T:WS):WS:=(zat (wAsg (wOp (zhm fun i j=> .int (i - j)) (zag 2) (wB zox (zab (wOp (oEq false) (wOp oIx (zag 0) (zag 5)) (wC (.str ")"))) waNil))) (wGN 2)) T)
noncomputable def zcm (r:Nat) (T:WS):WS:=(zat (wAsg (wOp (oEq false) (wOp oIx (zag 0) (zag 5)) (wC (.str ","))) (wGN 4)) T)
noncomputable def zbc (r:Nat):WS:=(zdn (zex (zag 4)) (zbA r (zbE r (zbC r (zbF r (zaZ r (zaY r (zbd r))))))) (zdn (wOr (wTb (wOp (oEq false) (zag 2) (wC (.int 0)))) (wOr (wTb (wOp (oEq false) (wOp oIx (zag 0) (zag 5)) (wC (.str "(")))) (wTb (wOp (oEq true) (zag 6) (wC (.str "")))))) (zbD (wC (.bl false))) (zcm r (zbB r (zaE r)))))
noncomputable def zcj (r:Nat) (T:WS):WS:=(zat (wAsg (zaA (zbV r) (zab (zag 0) (zab (zag 5) waNil))) (wGN 6)) T)
noncomputable def zdp (r:Nat) (self:WSp):WS:=(zcj r (zbc r))
noncomputable def zcx (r:Nat) (T:WS):WS:=(zat (zfX (wTb (wOp oLt (zag 5) (wB zdZ (zab (zag 0) waNil)))) (zdp r zcf)) T)
noncomputable def zcw (r:Nat) (T:WS):WS:=(zat (wAsg (wC (.int 0)) (wGN 5)) T)
noncomputable def zcz (r:Nat) (T:WS):WS:=(zat (wAsg (wC (.bl true)) (wGN 4)) T)
noncomputable def zcy (r:Nat) (T:WS):WS:=(zat (wAsg (wC (.int 0)) (wGN 3)) T)
noncomputable def zcv (r:Nat) (T:WS):WS:=(zat (wAsg (wC (.int 0)) (wGN 2)) T)
noncomputable def zby:Nat→WSp
 |0=>zcf
 |r+1=>zeb 7 2 (zcv r (zcy r (zcz r (zcw r (zcx r (zct r))))))
noncomputable def zbo (r:Nat):WS:=(zbD (zee (zaA (zby r) (zab (wSl (zag 0) (woS (wOp zbw (zag 1) (wC (.int 2)))) (woS (zag 2))) (zab (wC (.int 1)) waNil))) (zaA (zby r) (zab (wSl (zag 0) (woS (wOp zbw (zag 2) (wC (.int 3)))) woN) (zab (wC (.int 1)) waNil)))))
noncomputable def zbq (r:Nat) (T:WS):WS:=(zat (zdn (wOr (zfN (zex (zaA (zbm r) (zab (wSl (zag 0) woN (woS (zag 1))) (zab (wC (.int 0)) waNil))))) (wTb (wOp (oIn false) (wOp oIx (zag 0) (wC (.int 0))) (wC (.str "abcdefghijklmnopqrstuvwxyz"))))) (zbD (wC (.bl false))) zaP) T)
noncomputable def zbp (r:Nat) (T:WS):WS:=(zat (zdn (wOr (wTb (wOp oGt (wB zdZ (zab (zag 0) waNil)) (wC (.int 4000)))) (wOr (wTb (wOp oLt (zag 1) (wC (.int 1)))) (wTb (wOp oLt (zag 2) (wOp zbw (zag 1) (wC (.int 2))))))) (zbD (wC (.bl false))) zaP) T)
noncomputable def zbn (r:Nat) (T:WS):WS:=(zat (wAsg (wM rvS zkp (zag 0) (zab (wC (.str " > ")) waNil)) (wGN 2)) T)
noncomputable def zbr (r:Nat) (T:WS):WS:=(zat (wAsg (wM rvS zkp (zag 0) (zab (wC (.str ": ")) waNil)) (wGN 1)) T)
noncomputable def zaF:Nat→WSp
 |0=>zcf
 |r+1=>zeb 3 1 (zbr r (zbn r (zbp r (zbq r (zbo r)))))
noncomputable def zdM (r:Nat) (self:WSp):WE:=(zaA self (zab (zag 0) waNil))
noncomputable def zay:Nat→WSp
 |0=>zcf
 |r+1=>zeb 1 1 (zat (zdn (zex (zkI "int" (zag 0))) (zbD (zno (zkI "bool" (zag 0)))) zaP)
  (zat (zdn (wOr (zfN (zex (zkI "tuple" (zag 0)))) (wOr (wTb (wOp (oEq false) (wB zdZ (zab (zag 0) waNil)) (wC (.int 0)))) (zfN (zex (zkI "str" (wOp oIx (zag 0) (wC (.int 0)))))))) (zbD (wC (.bl false))) zaP)
  (zbD (wBL zio (zgd 1 [] (wIv (wSl (zag 0) (woS (wC (.int 1))) woN)) (wGN 0) zjH (zdM r (zay r)))))))
noncomputable def zcS (r:Nat):WS:=(zbD (wOp zbw (wOp zbw (wOp zbw (wOp zbw (wOp oIx (zag 0) (wC (.int 0))) (wC (.str ": "))) (zaA (zar r) (zab (wOp oIx (zag 0) (wC (.int 1))) waNil))) (wC (.str " > "))) (zaA (zar r) (zab (wOp oIx (zag 0) (wC (.int 2))) waNil))))
noncomputable def zcQ (r:Nat) (T:WS):WS:=(zat (zdn (wOr (zfN (zex (zaA (zay r) (zab (wOp oIx (zag 0) (wC (.int 1))) waNil)))) (zfN (zex (zaA (zay r) (zab (wOp oIx (zag 0) (wC (.int 2))) waNil))))) (zbD (wC (.str ""))) zaP) T)
noncomputable def zcU (r:Nat) (T:WS):WS:=(zat (zdn (wOr (zfN (zex (zkI "tuple" (zag 0)))) (wOr (wTb (wOp (oEq true) (wB zdZ (zab (zag 0) waNil)) (wC (.int 3)))) (zfN (zex (zkI "str" (wOp oIx (zag 0) (wC (.int 0)))))))) (zbD (wC (.str ""))) zaP) T)
noncomputable def zbI (r:Nat):WS:=(zbD (zaA (zar r) (zab (zag 0) waNil)))
noncomputable def zbL (r:Nat) (T:WS):WS:=(zat (zdn (zfN (zex (zaA (zay r) (zab (zag 0) waNil)))) (zbD (wC (.str ""))) zaP) T)
noncomputable def zcP (r:Nat) (T:WS):WS:=(zat (zdn (wTb (wOp oLt (zag 1) (wC (.int 2)))) (zbL r (zbI r)) zaP) T)
noncomputable def zbS:Nat→WSp
 |0=>zcf
 |r+1=>zeb 2 2 (zcP r (zcU r (zcQ r (zcS r))))
noncomputable def zcZ (r:Nat):WS:=(zbD (zee (wOp (oEq false) (zag 2) (zfe (zeG waNil))) (wOp (oEq false) (zaA (zbS r) (zab (zag 3) (zab (zag 1) waNil))) (zag 0))))
noncomputable def zbM (r:Nat) (T:WS):WS:=(zat (zdn (zfN (zex (zag 5))) (zbD (wOp (oEq false) (zag 2) (zfe (zeG (zab (wC (.bl true)) (zab (wC (.bl true)) (zab (wC (.bl false)) waNil))))))) zaP) T)
noncomputable def zbG (r:Nat) (T:WS):WS:=(zat (wAsg (zee (zkI "str" (zag 0)) (zrv (zee (wOp oLt (zag 1) (wC (.int 2))) (zaA (zby r) (zab (zag 0) (zab (zag 1) waNil)))) (zee (wOp (oEq false) (zag 1) (wC (.int 2))) (zaA (zaF r) (zab (zag 0) waNil))))) (wGN 5)) T)
noncomputable def zbH (r:Nat) (T:WS):WS:=(zat (zmz 4 ["NoText"] (ztu (wTb (wOp (oEq false) (zag 1) (wC (.int 0)))) (wAsg (zhs (zcr r) (zab (zag 0) waNil)) (wGN 3)) (ztu (wTb (wOp (oEq false) (zag 1) (wC (.int 1)))) (wAsg (zhs (zbg r) (zab (zag 0) waNil)) (wGN 3)) (wAsg (zhs (zaT r) (zab (zag 0) waNil)) (wGN 3)))) (fun cl a=>(wAsg (zfe (zeG (zab (zjd 4 a (zhp cl "NoText")) (zab (zjd 4 a (zhp cl "ValueError")) (zab (zjd 4 a (zhp cl "NoTurning")) waNil))))) (wGN 2)))) T)
noncomputable def zdb (r:Nat) (T:WS):WS:=(zat (wAsg (wC .non) (wGN 3)) T)
noncomputable def zda (r:Nat) (T:WS):WS:=(zat (wAsg (zfe (zeG waNil)) (wGN 2)) T)
noncomputable def zaM:Nat→WSp
 |0=>zcf
 |r+1=>zeb 6 2 (zda r (zdb r (zbH r (zbG r (zbM r (zcZ r))))))
noncomputable def zbR:Nat→WSp
 |0=>zcf
 |r+1=>zeb 7 2 (zat (wAsg (wC (.str "abzAZ019?(),:> _+-\n\t")) (wGN 2))
  (zat (wAsg (wOp (zco (fun _ j=>0<j) fun i j=> .int (i % j)) (zag 1) (wC (.int 5))) (wGN 3))
  (zat (wAsg (wOp (zco (fun _ j=>0<j) fun i j=> .int (i % j)) (wOp (zco zhZ fun i j=> .int (i / j)) (zag 1) (wC (.int 5))) (wB zdZ (zab (zag 0) waNil))) (wGN 4))
  (zat (wAsg (wOp oIx (zag 2) (wOp (zco (fun _ j=>0<j) fun i j=> .int (i % j)) (wOp (zco zhZ fun i j=> .int (i / j)) (wOp (zco zhZ fun i j=> .int (i / j)) (zag 1) (wC (.int 5))) (wB zdZ (zab (zag 0) waNil))) (wB zdZ (zab (zag 2) waNil)))) (wGN 5))
  (zat (zdn (wTb (wOp (oEq false) (zag 3) (wC (.int 0)))) (zbD (wOp zbw (wSl (zag 0) woN (woS (zag 4))) (wSl (zag 0) (woS (wOp zbw (zag 4) (wC (.int 1)))) woN))) zaP)
  (zat (zdn (wTb (wOp (oEq false) (zag 3) (wC (.int 1)))) (zbD (wOp zbw (wSl (zag 0) woN (woS (wOp zbw (zag 4) (wC (.int 1))))) (wSl (zag 0) (woS (zag 4)) woN))) zaP)
  (zat (zdn (wTb (wOp (oEq false) (zag 3) (wC (.int 2)))) (zbD (wOp zbw (wOp zbw (wSl (zag 0) woN (woS (zag 4))) (zag 5)) (wSl (zag 0) (woS (wOp zbw (zag 4) (wC (.int 1)))) woN))) zaP)
  (zat (zdn (wTb (wOp (oEq false) (zag 3) (wC (.int 3)))) (zbD (wOp zbw (wOp zbw (wSl (zag 0) woN (woS (zag 4))) (zag 5)) (wSl (zag 0) (woS (zag 4)) woN))) zaP)
  (zat (wAsg (wOp zbw (wSl (zag 0) (woS (wOp zbw (zag 4) (wC (.int 1)))) (woS (wOp zbw (zag 4) (wC (.int 2))))) (wSl (zag 0) (woS (zag 4)) (woS (wOp zbw (zag 4) (wC (.int 1)))))) (wGN 6))
  (zbD (wOp zbw (wOp zbw (wSl (zag 0) woN (woS (zag 4))) (zag 6)) (wSl (zag 0) (woS (wOp zbw (zag 4) (wC (.int 2)))) woN))))))))))))
noncomputable def zdu (r:Nat):WS:=(zbD (wOp oIx (zag 1) (wOp (zco (fun _ j=>0<j) fun i j=> .int (i % j)) (zag 0) (wB zdZ (zab (zag 1) waNil)))))
noncomputable def zds (r:Nat) (T:WS):WS:=(zat (wAsg (zfe (zjf (zag 1) (zeG (zab (wC (.str "a(?0,?0)")) (zab (wC (.str "Abcdefghi")) (zab (wC (.str "A: ?0 > ?7")) (zab (wC (.str "a(b ,c)")) (zab (wC (.str "a (b)")) (zab (wC (.str "A : a > a")) waNil))))))))) (wGN 1)) T)
noncomputable def zdA (r:Nat) (T:WS):WS:=(zat (wAsg (zfe (zjf (zag 1) (zeG (zab (wC (.str "A:a > a")) (zab (wC (.str "A: a >a")) (zab (wC (.str "A: a > a > a")) (zab (wC (.str "A: B > a")) (zab (wC (.str "AB(a)")) (zab (wC (.str "? 1")) (zab (wC (.str "?99")) waNil)))))))))) (wGN 1)) T)
noncomputable def zdt (r:Nat) (T:WS):WS:=(zat (wAsg (zfe (zjf (zag 1) (zeG (zab (wC (.str "a(b))")) (zab (wC (.str "a\n")) (zab (wC (.str "a,b")) (zab (wC (.str "?9 ")) (zab (wC (.str "a(b;c)")) (zab (wC (.str "Ab(")) (zab (wC (.str "A: a > ?0")) (zab (wC (.str "a: a > a")) (zab (wC (.str "A: a > ")) waNil)))))))))))) (wGN 1)) T)
noncomputable def zdv (r:Nat) (T:WS):WS:=(zat (wAsg (zfe (zjf (zag 1) (zeG (zab (wC (.str "?")) (zab (wC (.str "?-1")) (zab (wC (.str "?00")) (zab (wC (.str "?07")) (zab (wC (.str "?100")) (zab (wC (.str "?1_0")) (zab (wC (.str "?+1")) (zab (wC (.str "a1")) (zab (wC (.str "abcdefghi")) (zab (wC (.str "?0(a)")) waNil))))))))))))) (wGN 1)) T)
noncomputable def zdw (r:Nat) (T:WS):WS:=(zat (wAsg (zfe (zeG (zab (wC (.str "")) (zab (wC (.str " ")) (zab (wC (.str "a ")) (zab (wC (.str " a")) (zab (wC (.str "a()")) (zab (wC (.str "a(,b)")) (zab (wC (.str "a(b,)")) (zab (wC (.str "a(b")) (zab (wC (.str "a)b")) (zab (wC (.str "(a)")) (zab (wC (.str "a(b)(c)")) (zab (wC (.str "A")) (zab (wC (.str "Ab")) (zab (wC (.str "aB")) (zab (wC (.str "?0")) waNil))))))))))))))))) (wGN 1)) T)
noncomputable def zdO:Nat→WSp
 |0=>zcf
 |r+1=>zeb 2 1 (zdw r (zdv r (zdt r (zdA r (zds r (zdu r))))))
noncomputable def zcu (r:Nat):WS:=(zbD (wOp zbw (wOp zbw (wOp zbw (wOp zbw (wOp zbw (wOp zbw (wC (.str "T: zyxwvuts(")) (zag 4)) (wC (.str ") > "))) (wOp zkr (wC (.str "a")) (wOp zbw (wC (.int 6)) (zag 2)))) (wC (.str "("))) (zag 4)) (wC (.str ")"))))
noncomputable def zcA (r:Nat) (T:WS):WS:=(zat (wAsg (wML rvS zfA (wC (.str ",")) (znf (zeG (zab (wC (.str "abcdefgh")) waNil)) (wC (.int 221)))) (wGN 4)) T)
noncomputable def zbP (r:Nat) (T:WS):WS:=(zat (zdn (wTb (wOp (oEq false) (wOp (zco (fun _ j=>0<j) fun i j=> .int (i % j)) (zag 0) (wC (.int 3))) (wC (.int 1)))) (zbD (wOp zbw (wOp zbw (wOp zbw (wOp oIx (zag 1) (wC (.int 0))) (wC (.str "("))) (wML rvS zfA (wC (.str ",")) (znf (zeG (zab (wOp oIx (zag 1) (wC (.int 1))) waNil)) (wOp zbw (wC (.int 399)) (zag 2))))) (wC (.str ")")))) zaP) T)
noncomputable def zcg (r:Nat):WS:=(zbD (wOp zbw (wOp zbw (wOp zkr (wOp zbw (wOp oIx (zag 1) (wC (.int 0))) (wC (.str "("))) (zag 3)) (wOp oIx (zag 1) (wC (.int 1)))) (wOp zkr (wC (.str ")")) (zag 3))))
noncomputable def zcn (r:Nat) (T:WS):WS:=(zat (wAsg (wOp zbw (wC (.int 39)) (zag 2)) (wGN 3)) T)
noncomputable def zdH (r:Nat) (T:WS):WS:=(zat (zdn (wTb (wOp (oEq false) (wOp (zco (fun _ j=>0<j) fun i j=> .int (i % j)) (zag 0) (wC (.int 3))) (wC (.int 0)))) (zcn r (zcg r)) zaP) T)
noncomputable def zdD (r:Nat) (T:WS):WS:=(zat (wAsg (wOp (zhm fun i j=> .int (i - j)) (wOp (zco (fun _ j=>0<j) fun i j=> .int (i % j)) (wOp (zco zhZ fun i j=> .int (i / j)) (zag 0) (wC (.int 3))) (wC (.int 3))) (wC (.int 1))) (wGN 2)) T)
noncomputable def zcE:Nat→WSp
 |0=>zcf
 |r+1=>zeb 5 2 (zdD r (zdH r (zbP r (zcA r (zcu r)))))
noncomputable def zcH (r:Nat):WS:=(zbD (zaA (zaM r) (zab (zrU (zeG (zab (wC .non) (zab (wC (.int 7)) (zab (wC (.bl true)) (zab (zfe (zeG (zab (wC (.str "a")) waNil))) (zab (zjh (zab (wC (.str "a")) waNil)) waNil)))))) (wOp (zco (fun _ j=>0<j) fun i j=> .int (i % j)) (wOp (zco zhZ fun i j=> .int (i / j)) (zag 10) (wC (.int 9))) (wC (.int 5)))) (zab (wOp (zco (fun _ j=>0<j) fun i j=> .int (i % j)) (wOp (zco zhZ fun i j=> .int (i / j)) (zag 10) (wC (.int 45))) (wC (.int 3))) waNil))))
noncomputable def zcC (r:Nat) (T:WS):WS:=(zat (zdn (zfN (zex (zaA (zaM r) (zab (zag 12) (zab (zrU (zeG (zab (wOp (zco (fun _ j=>0<j) fun i j=> .int (i % j)) (wOp (zco zhZ fun i j=> .int (i / j)) (zag 10) (wC (.int 9))) (wC (.int 2))) (zab (wOp (zco (fun _ j=>0<j) fun i j=> .int (i % j)) (wOp (zco zhZ fun i j=> .int (i / j)) (zag 10) (wC (.int 9))) (wC (.int 2))) (zab (wC (.int 2)) waNil)))) (wOp (zco (fun _ j=>0<j) fun i j=> .int (i % j)) (zag 10) (wC (.int 3)))) waNil))))) (zbD (wC (.bl false))) zaP) T)
noncomputable def zcD (r:Nat) (T:WS):WS:=(zat (wAsg (zaA (zcE r) (zab (zag 10) (zab (zag 1) waNil))) (wGN 12)) T)
noncomputable def zcJ (r:Nat) (T:WS):WS:=(zat (wAsg (zaA (zbj r) (zab (zag 0) (zab (wC (.int 2)) waNil))) (wGN 10)) T)
noncomputable def zcB (r:Nat):WS:=(zdn (zfN (zex (zaA (zaM r) (zab (zaA (zdO r) (zab (wOp (zco zhZ fun i j=> .int (i / j)) (zag 10) (wC (.int 9))) waNil)) (zab (zag 11) waNil))))) (zbD (wC (.bl false))) zaP)
noncomputable def zcL (r:Nat) (T:WS):WS:=(zat (zdn (zfN (zex (zaA (zaM r) (zab (zaA (zbR r) (zab (wOp oIx (zag 8) (zag 11)) (zab (wOp (zco zhZ fun i j=> .int (i / j)) (zag 10) (wC (.int 3))) waNil))) (zab (zag 11) waNil))))) (zbD (wC (.bl false))) zaP) T)
noncomputable def zcK (r:Nat) (T:WS):WS:=(zat (wAsg (wOp (zco (fun _ j=>0<j) fun i j=> .int (i % j)) (zag 10) (wC (.int 3))) (wGN 11)) T)
noncomputable def zcI (r:Nat) (T:WS):WS:=(zat (wAsg (zaA (zbj r) (zab (zag 0) (zab (wOp zbw (wC (.int 3)) (zag 9)) waNil))) (wGN 10)) T)
noncomputable def zeM (r:Nat) (self:WSp):WS:=(zcI r (zcK r (zcL r (zcB r))))
noncomputable def zdl (r:Nat) (T:WS):WS:=(zat (zoK (zqa (zab (wC (.int 6)) waNil)) (wGN 9) (zeM r zcf)) T)
noncomputable def zde (r:Nat) (T:WS):WS:=(zat (wAsg (zfe (zeG (zab (zag 5) (zab (zag 7) (zab (wOp zbw (wOp zbw (wOp zbw (wOp zbw (wOp oIx (zag 2) (wC (.int 1))) (wC (.str ": "))) (zag 7)) (wC (.str " > "))) (wOp oIx (zag 1) (wC (.int 0)))) waNil))))) (wGN 8)) T)
noncomputable def zdq (r:Nat) (T:WS):WS:=(zat (wAsg (zaA (zar r) (zab (zaA (zcb r) (zab (wSl (zag 0) (woS (zag 3)) (woS (wC (.int 40)))) (zab (zag 1) (zab (zag 6) waNil)))) waNil)) (wGN 7)) T)
noncomputable def zdo (r:Nat) (T:WS):WS:=(zat (wAsg (zfe (zeG (zab (zjh (zab (wOp oIx (zag 1) (wC (.int 0))) waNil)) (zab (wC (.int 0)) (zab (zjh (zab (wOp oIx (zag 1) (wC (.int 3))) waNil)) (zab (wOp (zco (fun _ j=>0<j) fun i j=> .int (i % j)) (zaA (zbj r) (zab (zag 0) (zab (wC (.int 3)) waNil))) (wC (.int 100))) (zab (wC (.int 2)) waNil))))))) (wGN 6)) T)
noncomputable def zdg (r:Nat) (T:WS):WS:=(zat (wAsg (zaA (zar r) (zab (zaA (zcb r) (zab (wSl (zag 0) (woS (wC (.int 4))) (woS (zag 3))) (zab (wOp zbw (zag 1) (zag 2)) (zab (zag 4) waNil)))) waNil)) (wGN 5)) T)
noncomputable def zdm (r:Nat) (T:WS):WS:=(zat (wAsg (zfe (zeG (zab (zjh (zab (wOp oIx (zag 1) (wC (.int 0))) waNil)) (zab (zjh (zab (wOp oIx (zag 2) (wC (.int 0))) waNil)) (zab (zjh (zab (wOp oIx (zag 1) (wC (.int 2))) waNil)) waNil))))) (wGN 4)) T)
noncomputable def zdj (r:Nat) (T:WS):WS:=(zat (wAsg (wOp zbw (wC (.int 4)) (wOp (zco zhZ fun i j=> .int (i / j)) (wB zdZ (zab (wSl (zag 0) (woS (wC (.int 4))) (woS (wC (.int 40)))) waNil)) (wC (.int 2)))) (wGN 3)) T)
noncomputable def zdi (r:Nat) (T:WS):WS:=(zat (wAsg (zaA (zch r) (zab (zag 0) (zab (wC (.int 2)) (zab (wC (.int 2)) waNil)))) (wGN 2)) T)
noncomputable def zdk (r:Nat) (T:WS):WS:=(zat (wAsg (zaA (zcd r) (zab (zag 0) (zab (wC (.int 0)) (zab (wC (.int 4)) waNil)))) (wGN 1)) T)
noncomputable def zdK:Nat→WSp
 |0=>zcf
 |r+1=>zeb 13 1 (zdk r (zdi r (zdj r (zdm r (zdg r (zdo r (zdq r (zde r (zdl r (zcJ r (zcD r (zcC r (zcH r)))))))))))))
theorem zns{r:Nat}{t:Tr}{S:Sto}{Q:WK}{E:Str→Sto→Prop}(h:Q (.tup (zbx t.kids)) S):zdI (r+1) [enc t] S Q E:=by
 rw [zdI];cases t with
 |bl n=>
  simp only[enc];walk_at "wp";exact⟨Nat.zero_le _,S, .refl,h⟩
 |nd s ts=>
  simp only[enc];walk_at "wp";exact⟨S, .refl,h⟩
theorem zfQ{ns:List Int}{k:Int}{r:Nat}{S:Sto}{Q:WK}{E:Str→Sto→Prop}(h0:0≤k) (h1:k≤100000) (h:∀n:Int,0≤n→n<10 ^ 60→Q (.int n) S):zbj (r+1) [.scr ns, .int k] S Q E:=by
 rw [zbj];walk_at "wp";have e60:(10:Int) ^ Int.toNat 60=10 ^ 60:=rfl;by_cases hn:ns.length=0
 ·rw [if_pos (by simp [hn])];exact⟨S, .refl,h 0 (by decide) (by decide)⟩
 ·rw [if_neg (by simpa using hn)];have hm0:0≤k % (ns.length:Int):=Int.emod_nonneg _ (by omega);have hm1:k % (ns.length:Int)<(ns.length:Int):=Int.emod_lt_of_pos _ (by omega);have q:=zdW (xs:=ns) (n:=(k % (ns.length:Int)).toNat);rw [Int.toNat_of_nonneg hm0,List.getElem?_eq_getElem (by omega)]at q;rw [q];generalize ns[(k % (ns.length:Int)).toNat]'(by omega)=n;have v0:0≤n % (10:Int) ^ 60:=Int.emod_nonneg _ (by decide);have v1:n % (10:Int) ^ 60<10 ^ 60:=Int.emod_lt_of_pos _ (by decide);refine⟨by omega,⟨by decide,by decide,by decide⟩,by decide,?_⟩
  rw [e60];split
  ·exact⟨S, .refl,h _ v0 v1⟩
  ·have m0:0≤(n % (10:Int) ^ 60+7919*k*k+1) % 2147483647:=Int.emod_nonneg _ (by decide);have m1:(n % (10:Int) ^ 60+7919*k*k+1) % 2147483647<2147483647:=Int.emod_lt_of_pos _ (by decide);refine⟨.inl ⟨by decide,by decide⟩, .inr ⟨by omega,by omega⟩,by decide, .inl ⟨Int.lt_of_lt_of_le (by decide) m0,Int.lt_trans m1 (by decide)⟩,by decide,S, .refl,h _ (Int.emod_nonneg _ (by decide)) ?_⟩
   exact Int.lt_of_lt_of_le (Int.emod_lt_of_pos _ (by decide)) (by decide)
noncomputable def Low (c:Nat):Prop:=97≤c∧c≤122
noncomputable def zeQ (x:Str):Prop:=1≤x.cps.toList.length∧x.cps.toList.length≤8∧ ∀c∈x.cps.toList,Low c
noncomputable def zeD (x:Str):Prop:=∃c r,x.cps.toList=c::r∧65≤c∧c≤90∧r.length≤7∧ ∀d∈r,Low d
theorem zpO:(Str.ofString "abcdefghijklmnopqrstuvwxyz").cps.toList=List.range' 97 26:=by decide +kernel
theorem zpk:(Str.ofString "ABCDEFGHIJKLMNOPQRSTUVWXYZ").cps.toList=List.range' 65 26:=by decide +kernel
theorem zpb:(Str.ofString "abcdefghijklmnopqrstuvwxyz").length=26:=by decide +kernel
theorem zss:(Str.ofString "ABCDEFGHIJKLMNOPQRSTUVWXYZ").length=26:=by decide +kernel
theorem zqS{n:Int}(h0:0≤n) (h1:n<26):∃c,atI (Str.ofString "abcdefghijklmnopqrstuvwxyz").cps.toList n=some c∧Low c:=by
 refine⟨97+n.toNat,?_,by constructor<;>omega⟩
 have e:=zgS (xs:=(Str.ofString "abcdefghijklmnopqrstuvwxyz").cps.toList) (j:=n.toNat) (v:=97+n.toNat) (by
  rw [zpO,List.getElem?_range' (by omega)];simp)
 rw [Int.toNat_of_nonneg h0]at e;exact e
theorem ztF{n:Nat}(h1:n<26):atI (Str.ofString "ABCDEFGHIJKLMNOPQRSTUVWXYZ").cps.toList (n:Int)=some (65+n):=
 zgS (by
  rw [zpk,List.getElem?_range' (by omega)];simp)
theorem zsS{c:Nat}(h:Low c):Builtin.Str.occurrences (Str.ofString "abcdefghijklmnopqrstuvwxyz") ⟨#[c]⟩ 0 (Str.ofString "abcdefghijklmnopqrstuvwxyz").length 1=[c - 97]:=by
 have all:((List.range 26).all fun i=>decide (Builtin.Str.occurrences (Str.ofString "abcdefghijklmnopqrstuvwxyz") ⟨#[97+i]⟩ 0 (Str.ofString "abcdefghijklmnopqrstuvwxyz").length 1=[i]))=true:=by decide +kernel
 have q:=of_decide_eq_true (List.all_eq_true.mp all (c - 97) (List.mem_range.mpr (by have:=h.1;have:=h.2;omega)));have e:97+(c - 97)=c:=by have:=h.1;omega
 rw [e]at q;exact q
theorem zih:∀cs:List Nat,(Str.join (Str.ofString "") (cs.map fun c=>(⟨#[c]⟩:Str))).cps.toList=cs
 | []=>rfl
 | [c]=>rfl
 |c::d::r=>by
  have ih:=zih (d::r);show((⟨#[c]⟩:Str)++Str.ofString "" ++Str.join (Str.ofString "") ((d::r).map fun c=>(⟨#[c]⟩:Str))).cps.toList=_;show(#[c]++(Str.ofString "").cps++(Str.join (Str.ofString "") ((d::r).map fun c=>(⟨#[c]⟩:Str))).cps).toList=_;rw [Array.toList_append,Array.toList_append,ih];rfl
theorem zow (cs:List Nat):((cs.map fun c=>(⟨#[c]⟩:Str)).map (·.length)).sum=cs.length:=by
 induction cs with
 |nil=>rfl
 |cons c r ih=>
  rw [List.map_cons,List.map_cons,List.sum_cons,ih,List.length_cons];show 1+r.length=r.length+1;omega
theorem zhT{cs:List Nat}(h1:1≤cs.length) (h2:cs.length≤8) (h:∀c∈cs,Low c):zeQ (Str.join (Str.ofString "") (cs.map fun c=>(⟨#[c]⟩:Str))):=by
 unfold zeQ;rw [zih];exact⟨h1,h2,h⟩
theorem ziy:∀(ws:List W) {rs:List Int}{sp:Int}{a:Addr}{r:Nat}{S:Sto}{E:WX}{D:WEnds}{x0 x1 x2 x3 x4 x7 x8 x9 x10 x11:Option W},S a=some (.lst (rs.map W.int))→rs.length+ws.length≤1000→(∀v∈rs,0≤v∧v<26)→0≤sp→
  (∀(rs':List Int) sp' x7',rs'.length=rs.length+ws.length→(∀v∈rs',0≤v∧v<26)→D.nx [x0,x1,x2,x3,x4,some (.int sp'),some (.ref a),x7',x8,x9,x10,x11] (put S a (.lst (rs'.map W.int))))→
  zhq (wGN 7) (zdE r zcf) E D (fun _=>True) ws [x0,x1,x2,x3,x4,some (.int sp),some (.ref a),x7,x8,x9,x10,x11] S
 | [],rs,sp,a,r,S,E,D,x0,x1,x2,x3,x4,x7,x8,x9,x10,x11,ha,hl,hv,hs,h=>by
  simp only[zhq];have:=h rs sp x7 (by simp) hv;rw [zgu ha]at this;exact this
 |w::ws,rs,sp,a,r,S,E,D,x0,x1,x2,x3,x4,x7,x8,x9,x10,x11,ha,hl,hv,hs,h=>by
  simp only[zhq,zdE];walk_at "wp";simp only[List.length_cons]at hl h;simp only[zas ha,true_and];have m0:0≤sp % 26:=Int.emod_nonneg _ (by decide);have m1:sp % 26<26:=Int.emod_lt_of_pos _ (by decide);have d0:0≤sp / 26:=Int.ediv_nonneg hs (by decide);refine⟨by decide,zfO (by simp;omega),⟨by decide,by decide⟩,_, .refl,?_⟩
  refine ziy (r:=r) ws (rs:=rs++[sp % 26]) (by rw [zaj];simp) (by simp;omega) (fun v hm=>?_) d0 fun rs' sp' x7' h1 h2=>?_
  ·rcases List.mem_append.mp hm with z |z
   ·exact hv v z
   ·have:v=sp % 26:=by simpa using z
    omega
  ·rw [zcO];exact h rs' sp' x7' (by simp at h1;omega) h2
theorem zeT:∀cs:List Nat,zel (cs.map fun c=>W.str ⟨#[c]⟩)=some (cs.map fun c=>(⟨#[c]⟩:Str))
 | []=>rfl
 |c::cs=>by rw [List.map_cons,zel,zeT cs];rfl
theorem ziN{P:W→W→Prop}(hP:∀w y,P w y→ ∃c,y=W.str ⟨#[c]⟩∧Low c):∀{ws ys:List W},Paired P ws ys→ ∃cs:List Nat,cs.length=ws.length∧(∀c∈cs,Low c)∧ys=cs.map fun c=>W.str ⟨#[c]⟩
 |_,_, .nil=>⟨[],rfl,(fun _ h=>nomatch h),rfl⟩
 |_,_, .cons h t=>by
  obtain⟨c,rfl,hc⟩:=hP _ _ h;obtain⟨cs,h1,h2,rfl⟩:=ziN hP t;exact⟨c::cs,by simp [h1],fun d hd=>(List.mem_cons.mp hd).elim (fun e=>e▸hc) (h2 d),rfl⟩
theorem zjb{P:W→W→Prop}{G:Str→Prop}(hP:∀w y,P w y→ ∃x,y=W.str x∧G x):∀{ws ys:List W},Paired P ws ys→ ∃xs:List Str,xs.length=ws.length∧(∀x∈xs,G x)∧ys=xs.map W.str
 |_,_, .nil=>⟨[],rfl,(fun _ h=>nomatch h),rfl⟩
 |_,_, .cons h t=>by
  obtain⟨x,rfl,hx⟩:=hP _ _ h;obtain⟨xs,h1,h2,rfl⟩:=zjb hP t;exact⟨x::xs,by simp [h1],fun d hd=>(List.mem_cons.mp hd).elim (fun e=>e▸hx) (h2 d),rfl⟩
theorem zif (cs:List Nat) (h:cs.length≤1000):(List.map (fun x=>x.length) (cs.map fun c=>(⟨#[c]⟩:Str))).sum+(cs.map fun c=>(⟨#[c]⟩:Str)).length*(Str.ofString "").length≤16777216:=by
 have e:=zow cs;have z:(Str.ofString "").length=0:=by decide +kernel
 rw [e,z];omega
theorem zhl{lo:Int}{n:Nat}{w:W}(h:w∈zkx lo n):∃i:Nat,i<n∧w= .int (lo+i):=by
 unfold zkx at h;obtain⟨i,hi,rfl⟩:=List.mem_map.mp h;exact⟨i,List.mem_range.mp hi,rfl⟩
theorem zer{lo:Int}{n:Nat}:(zkx lo n).length=n:=by simp [zkx]
theorem zjU{ns:List Int}{k:Int}{many:Nat}{r:Nat}{S:Sto}{Q:WK}{E:Str→Sto→Prop}(h0:0≤k) (h1:k≤1000) (hm:many≤8) (h:∀(a:Addr) (ws:List Str),S a=none→ws.length=many→(∀x∈ws,zeQ x)→Q (.ref a) (put S a (.lst (ws.map W.str)))):zcd (r+2) [.scr ns, .int k, .int many] S Q E:=by
 rw [zcd];walk_at "wp";refine zfQ h0 (by omega) fun first f0 f1=>zfQ (by omega) (by omega) fun sp p0 p1=>?_;walk_at "wp";have sp0:0≤sp*982451653 % (26:Int) ^ Int.toNat 8:=Int.emod_nonneg _ (by decide);refine⟨.inr ⟨by decide,by decide⟩,⟨by decide,by decide,by decide⟩,by decide,Nat.zero_le _,fun a ha=>⟨⟨by decide,by decide⟩,?_⟩⟩
 refine ziy _ (rs:=[]) zaj (by decide) (fun _ h=>nomatch h) sp0 fun rs sp' x7 hl hv=>?_;have hl8:rs.length=8:=by simpa [zer]using hl
 rw [zcO];walk_at "wp";refine⟨by decide,?_⟩;split
 ·refine⟨⟨by omega,by omega⟩,?_⟩
  rw [Int.toNat_natCast];refine zeq (fun σ=>∃x,σ=[x,some (.str (Str.ofString "abcdefghijklmnopqrstuvwxyz")),some (.ref a)]) (fun w y=>∃x,y=W.str x∧zeQ x) trivial _ [] _ ⟨none,rfl⟩ (by simp [zer];omega) (fun w hw σ R ⟨x,hσ⟩ hR=>?_) fun ys hp=>?_
  ·obtain⟨i,hi,rfl⟩:=zhl hw;subst hσ;simp only[zez];walk_at "wp";intro p hp';obtain⟨hp1,hp2⟩:=zdX hp';have e1:zdr (List.map W.int rs) none (some (0+(i:Int)+1))=(rs.take (i+1)).map W.int:=by
    rw [show(0+(i:Int)+1)=((i+1:Nat):Int) by omega,zmU,List.map_take]
   rw [e1];refine zeq (fun σ=>∃x,σ=[x,some (.str (Str.ofString "abcdefghijklmnopqrstuvwxyz"))]) (fun w y=>∃c,y=W.str ⟨#[c]⟩∧Low c) zaj _ [] _ ⟨none,rfl⟩ (by simp;omega) (fun w hw σ R ⟨x,hσ⟩ hR=>?_) fun ys hp=>?_
   ·subst hσ;obtain⟨v,hv',rfl⟩:=List.mem_map.mp hw;obtain⟨v0,v1⟩:=hv v (List.mem_of_mem_take hv');obtain⟨c,ec,lc⟩:=zqS v0 v1;simp only[zeE];walk_at "wp";rw [ec];exact⟨zaf (by rw [zpb];decide),hR _ _ _ ⟨_,rfl⟩ ⟨c,rfl,lc⟩ .refl⟩
   ·obtain⟨cs,c1,c2,rfl⟩:=ziN (fun w y h=>h) hp;have c3:cs.length=i+1:=by simp at c1;omega
    rw [List.nil_append,zeT];refine⟨zif cs (by omega),hR _ _ _ ⟨_,rfl⟩ ⟨_,rfl,zhT (by omega) (by omega) c2⟩ (.put .refl hp')⟩
  ·obtain⟨xs,x1,x2,rfl⟩:=zjb (fun w y h=>h) hp;rw [List.nil_append];intro b hb;obtain⟨hb1,hb2⟩:=zdX hb;exact⟨_, .put2 (.put .refl ha),h b xs hb1 (by simpa [zer]using x1) x2⟩
 ·have hs0:0≤first / 3 % 8:=Int.emod_nonneg _ (by decide);have hs1:first / 3 % 8<8:=Int.emod_lt_of_pos _ (by decide);refine⟨⟨by decide,by decide⟩,by decide,⟨by decide,by decide⟩,by omega,Nat.zero_le _,fun b hb=>⟨⟨by omega,by omega⟩,?_⟩⟩
  obtain⟨hb1,hb2⟩:=zdX hb;rw [Int.toNat_natCast];refine zgV (fun ws σ S'=>∃(xs:List Str) (x11:Option W),(∀x∈xs,zeQ x)∧xs.length+ws.length=many∧(∀w∈ws,∃i:Nat,i<many∧w= .int (0+i))∧S'=put (put S a (.lst (rs.map W.int))) b (.lst (xs.map W.str))∧
   σ=[some (.scr ns),some (.int k),some (.int many),some (.str (Str.ofString "abcdefghijklmnopqrstuvwxyz")),some (.int first),some (.int sp'),some (.ref a),x7,some (.int (1+first / 3 % 8)),some (.int (first / 24 % (1+first / 3 % 8))),some (.ref b),x11]) ?_ ?_ _ _ _
   ⟨[],none,(fun _ h=>nomatch h),by simp [zer],fun w hw=>zhl hw,rfl,rfl⟩
  ·rintro w ws σ S' N ⟨xs,x11,hx,hlen,hws,rfl,rfl⟩ hN;obtain⟨j,hj,rfl⟩:=hws w List.mem_cons_self;simp only[zeC];walk_at "wp";refine⟨⟨by omega,by omega⟩,?_⟩
   have ea:put (put S a (Ob.lst (List.map W.int rs))) b (Ob.lst (List.map W.str xs)) a=some (.lst (rs.map W.int)):=by rw [zbN (Ne.symm hb2),zaj]
   refine zeq (fun σ=>∃x,σ=[x,some (.str (Str.ofString "abcdefghijklmnopqrstuvwxyz")),some (.ref a),some (.int (0+(j:Int))),some (.int (first / 24 % (1+first / 3 % 8)))]) (fun w y=>∃c,y=W.str ⟨#[c]⟩∧Low c) trivial _ [] _ ⟨none,rfl⟩ (by simp [zer];omega) (fun w hw σ R ⟨x,hσ⟩ hR=>?_) fun ys hp=>?_
   ·obtain⟨i,hi,rfl⟩:=zhl hw;subst hσ;simp only[zeF];walk_at "wp";have e:=zdW (xs:=rs.map W.int) (n:=i);rw [show(i:Int)=0+(i:Int) by omega,List.getElem?_map,List.getElem?_eq_getElem (show i<rs.length by omega)]at e
    rw [zas ea,e];dsimp only[Option.map];walk_at "wp";obtain⟨c,ec,lc⟩:=zqS (n:=(rs[i]'(by omega)+(0+(j:Int))*(if(0+(i:Int) == first / 24 % (1+first / 3 % 8))=true then 1 else 0)) % 26) (Int.emod_nonneg _ (by decide)) (Int.emod_lt_of_pos _ (by decide));rw [ec];exact⟨.inl ⟨by omega,by omega⟩,by decide,zaf (by rw [zpb];decide),hR _ _ _ ⟨_,rfl⟩ ⟨c,rfl,lc⟩ .refl⟩
   ·obtain⟨cs,c1,c2,rfl⟩:=ziN (fun w y h=>h) hp;rw [zer]at c1;have c3:(cs.length:Int)=1+first / 3 % 8:=by rw [c1];omega
    rw [List.nil_append,zeT];have hz:=zhT (cs:=cs) (by omega) (by omega) c2;refine⟨zif cs (by omega),?_⟩;generalize Str.join (Str.ofString "") (cs.map fun c=>(⟨#[c]⟩:Str))=z at hz⊢;simp only[zjY,zcO];simp only[List.length_cons]at hlen;have hxl:(List.map W.str xs).length<sizeLine:=zfO (by rw [List.length_map];omega);refine⟨hxl,hN _ _ _ .refl trivial ⟨xs++[z],some (.int (0+(j:Int))),fun x hx'=>?_,by rw [List.length_append,List.length_singleton];omega,fun w hw=>hws w (List.mem_cons_of_mem _ hw),by rw [List.map_append,List.map_cons,List.map_nil],rfl⟩⟩
    rcases List.mem_append.mp hx' with y |y
    ·exact hx x y
    ·rw [List.mem_singleton.mp y];exact hz
  ·rintro σ S' ⟨xs,x11,hx,hlen,hws,rfl,rfl⟩;walk_at "wp";exact⟨_, .put2 (.put .refl ha),h b xs hb1 (by simpa using hlen) hx⟩
theorem zlD{α:Type}{xs:List α}(n:Int) (h:xs≠ []):∃(i:Nat) (x:α),xs[i]? =some x∧atI xs (n % (xs.length:Int))=some x:=by
 have hp:0<xs.length:=List.length_pos_iff.mpr h;have h0:0≤n % (xs.length:Int):=Int.emod_nonneg _ (by omega);have h1:n % (xs.length:Int)<(xs.length:Int):=Int.emod_lt_of_pos _ (by omega);have hlt:(n % (xs.length:Int)).toNat<xs.length:=by omega
 refine⟨(n % (xs.length:Int)).toNat,xs[(n % (xs.length:Int)).toNat],List.getElem?_eq_getElem hlt,?_⟩;have e:=zgS (xs:=xs) (j:=(n % (xs.length:Int)).toNat) (v:=xs[(n % (xs.length:Int)).toNat]) (List.getElem?_eq_getElem hlt);rw [Int.toNat_of_nonneg h0]at e;exact e
theorem zkZ{ns:List Int}{k:Int}{many:Nat}{r:Nat}{S:Sto}{Q:WK}{E:Str→Sto→Prop}(h0:0≤k) (h1:k≤1000) (hm:many≤8) (h:∀(a:Addr) (ws:List Str),S a=none→ws.length=many→(∀x∈ws,zeD x)→Q (.ref a) (put S a (.lst (ws.map W.str)))):zch (r+3) [.scr ns, .int k, .int many] S Q E:=by
 rw [zch];walk_at "wp";refine zjU h0 h1 hm fun a ws ha hl hw=>?_;walk_at "wp";refine zeq (fun σ=>∃x,σ=[x,some (.str (Str.ofString "ABCDEFGHIJKLMNOPQRSTUVWXYZ")),some (.str (Str.ofString "abcdefghijklmnopqrstuvwxyz"))]) (fun w y=>∃x,y=W.str x∧zeD x) zaj _ [] _ ⟨none,rfl⟩ (by simp;omega) (fun w hw' σ R ⟨x,hσ⟩ hR=>?_) fun ys hp=>?_
 ·subst hσ;obtain⟨z,hz,rfl⟩:=List.mem_map.mp hw';obtain⟨l1,l2,w3⟩:=hw z hz;obtain⟨c0,rest,hc⟩:∃c0 rest,z.cps.toList=c0::rest:=by
   cases e:z.cps.toList with
   |nil=>rw [e]at l1;simp at l1
   |cons c0 rest=>exact⟨c0,rest,rfl⟩
  have hlow:Low c0:=w3 c0 (by rw [hc];exact List.mem_cons_self);have hwl:z.length=rest.length+1:=by
   have:z.length=z.cps.toList.length:=by simp [Str.length]
   rw [this,hc,List.length_cons]
  rw [hc,List.length_cons]at l2;have hsl:=Txt.slice_le z (some 1) none;simp only[zem];walk_at "wp";rw [hc];walk_at "wp";rw [zsS hlow];dsimp only;rw [ztF (by have:=hlow.2;omega)];dsimp only;refine⟨zaf (by omega),zaf (by rw [zss];decide),zaf (by omega),?_,hR _ _ _ ⟨_,rfl⟩ ⟨_,rfl,65+(c0 - 97),rest,?_,by omega,by have:=hlow.2;omega,by omega,fun d hd=>w3 d (by rw [hc];exact List.mem_cons_of_mem _ hd)⟩ .refl⟩
  ·show 1+(Txt.slice z (some 1) none).length≤sizeLine;exact zaf (by omega)
  ·show(#[65+(c0 - 97)]++(Txt.slice z (some 1) none).cps).toList=_;rw [Array.toList_append,zba,hc];have ez:ziD (c0::rest) (some 1) none=rest:=ziY;rw [ez];rfl
 ·obtain⟨xs,x1,x2,rfl⟩:=zjb (fun w y h=>h) hp;rw [List.nil_append];intro b hb;obtain⟨hb1,hb2⟩:=zdX hb;exact⟨_, .put2 (.put .refl ha),h b xs hb1 (by simpa [hl]using x1) x2⟩
inductive Made (hs:List Str) (ls:List Tr):Tr→Prop where
  |leaf {t:Tr}:t∈ls→Made hs ls t
  |node {h:Str}{ts:List Tr}:h∈hs→1≤ts.length→ts.length≤3→(∀t∈ts,Made hs ls t)→Made hs ls (.nd h ts)
noncomputable def zoJ (ts:List Tr) (hs:List Str) (ls ts':List Tr):Prop:=
 (∃l∈ls,ts'=ts++[l])∨ ∃pre kids h,ts=pre++kids∧1≤kids.length∧kids.length≤3∧h∈hs∧ts'=pre++[.nd h kids]
theorem znA (n:Int):∃m:Nat,m≤3∧atI [W.int 0,W.int 0,W.int 1,W.int 2,W.int 3] (n % 5)=some (W.int (m:Int)):=by
 have h0:0≤n % 5:=Int.emod_nonneg _ (by decide);have h1:n % 5<5:=Int.emod_lt_of_pos _ (by decide);have:n % 5=0∨n % 5=1∨n % 5=2∨n % 5=3∨n % 5=4:=by omega
 rcases this with e |e |e |e |e<;>rw [e]
 ·exact⟨0,by decide,rfl⟩
 ·exact⟨0,by decide,rfl⟩
 ·exact⟨1,by decide,rfl⟩
 ·exact⟨2,by decide,rfl⟩
 ·exact⟨3,by decide,rfl⟩
theorem zdV (ts us:List Tr):zbx (ts++us)=zbx ts++zbx us:=by rw [zaD,zaD,zaD,List.map_append]
theorem zhr (ts:List Tr) (n:Nat):(zbx ts).take n=zbx (ts.take n):=by rw [zaD,zaD,List.map_take]
theorem zkL (ts:List Tr) (n:Nat):(zbx ts).drop n=zbx (ts.drop n):=by rw [zaD,zaD,List.map_drop]
theorem zkY{a b c:Addr}{ts ls:List Tr}{hs:List Str}{cell:Int}{r:Nat}{S:Sto}{Q:WK}{E:Str→Sto→Prop}(ha:S a=some (.lst (zbx ts))) (hb:S b=some (.lst (hs.map W.str))) (hc:S c=some (.lst (zbx ls))) (hh:hs≠ []) (hl:ls≠ []) (hn:ts.length≤100000)
  (h:∀p ts',S p=none→zoJ ts hs ls ts'→Q (.ref p) (put S p (.lst (zbx ts')))):zcl (r+1) [.ref a, .int cell, .ref b, .ref c] S Q E:=by
 rw [zcl];walk_at "wp";obtain⟨m,hm,e⟩:=znA cell;rw [e];walk_at "wp";simp only[zas ha,zas hb,zas hc];obtain⟨i,l,el,al⟩:=zlD (xs:=zbx ls) (cell / 5) (by rw [zaD];simpa using hl);obtain⟨t,et,rfl⟩:∃t,ls[i]? =some t∧l=enc t:=by
  rw [zaD,List.getElem?_map]at el;cases q:ls[i]? with
  |none=>rw [q]at el;cases el
  |some t=>rw [q]at el;exact⟨t,rfl,(Option.some.inj el).symm⟩
 obtain⟨j,hw,ej,ah⟩:=zlD (xs:=hs.map W.str) (cell / 5) (by simpa using hh);obtain⟨x,ex,rfl⟩:∃x,hs[j]? =some x∧hw= .str x:=by
  rw [List.getElem?_map]at ej;cases q:hs[j]? with
  |none=>rw [q]at ej;cases ej
  |some t=>rw [q]at ej;exact⟨t,rfl,(Option.some.inj ej).symm⟩
 have hl0:0<ls.length:=List.length_pos_iff.mpr hl;have hh0:0<hs.length:=List.length_pos_iff.mpr hh;simp only[al,ah];have leaf:0<((zbx ls).length:Int)∧1≤sizeLine∧(zbx ts).length+1≤sizeLine∧ ∀p,S p=none→ ∃S'',Sub S'' (put S p (.lst (zbx ts++[enc t])))∧Q (.ref p) S'':=by
  rw [zaH,zaH];refine⟨by omega,zaf (by decide),zaf (by omega),fun p hp=>⟨_, .refl,?_⟩⟩;have:=h p (ts++[t]) hp (.inl ⟨t,List.mem_of_getElem? et,rfl⟩);rw [zdV]at this;exact this
 refine⟨zaf (by decide),by decide,⟨by decide,by decide⟩,?_⟩
 split
 ·exact leaf
 ·rename_i hm0;split
  ·exact leaf
  ·rename_i hlt;have hm1:0<m:=by
    rcases Nat.eq_zero_or_pos m with z |z
    ·rw [z]at hm0;simp at hm0
    ·exact z
   rw [zaH]at hlt;have hk:m≤ts.length:=by omega
   rw [zfY m hm1,zlX m hm1,zaH,zhr,zkL];simp only[zaH,List.length_map];refine⟨by omega,zaf (by decide),zaf (by simp;omega),zaf (by decide),zaf (by simp;omega),fun p hp=>⟨_, .refl,?_⟩⟩;have:=h p (ts.take (ts.length - m)++[.nd x (ts.drop (ts.length - m))]) hp (.inr ⟨_,_,x,(List.take_append_drop _ _).symm,by simp;omega,by simp;omega,List.mem_of_getElem? ex,rfl⟩)
   rw [zdV]at this;exact this
theorem ziF{ts:List Tr}{hs:List Str}{ls ts':List Tr}(h:zoJ ts hs ls ts') (hm:∀t∈ts,Made hs ls t) (hw:∀t∈ls,t.weight=1):(∀t∈ts',Made hs ls t)∧wts ts'=wts ts+1∧ts'.length≤ts.length+1:=by
 rcases h with⟨l,hl,rfl⟩ |⟨pre,kids,h,rfl,h1,h2,h3,rfl⟩
 ·refine⟨fun t ht=>?_,?_,by simp⟩
  ·rcases List.mem_append.mp ht with z |z
   ·exact hm t z
   ·rw [List.mem_singleton.mp z];exact .leaf hl
  ·rw [zcq,zaI,zck,hw l hl]
 ·refine⟨fun t ht=>?_,?_,by simp only[List.length_append,List.length_cons,List.length_nil];omega⟩
  ·rcases List.mem_append.mp ht with z |z
   ·exact hm t (List.mem_append_left _ z)
   ·rw [List.mem_singleton.mp z];exact .node h3 h1 h2 fun u hu=>hm u (List.mem_append_right _ hu)
  ·rw [zcq,zcq,zaI,zck,zcs];show wts pre+(1+wts kids+0)=_;omega
theorem zkc{cs b c:Addr}{ns:List Int}{ls:List Tr}{hs:List Str}{r:Nat}{S:Sto}{Q:WK}{E:Str→Sto→Prop}(hcs:S cs=some (.lst (ns.map W.int))) (hb:S b=some (.lst (hs.map W.str))) (hc:S c=some (.lst (zbx ls))) (hh:hs≠ []) (hl:ls≠ []) (hw:∀t∈ls,t.weight=1) (hn:ns.length≤1000)
  (h:∀t,Made hs ls t→t.weight≤2*ns.length+1→Q (enc t) S):zcb (r+2) [.ref cs, .ref b, .ref c] S Q E:=by
 rw [zcb];walk_at "wp";refine⟨Nat.zero_le _,fun a ha=>?_⟩;simp only[zjn (zgZ hcs ha),zas hcs];refine zgV (fun ws σ S'=>∃(a:Addr) (ts:List Tr) (ms:List Int) (x4:Option W),S a=none∧S'=put S a (.lst (zbx ts))∧ws=ms.map W.int∧(∀t∈ts,Made hs ls t)∧wts ts+ms.length=ns.length∧ts.length+ms.length≤ns.length∧σ=[some (.ref cs),some (.ref b),some (.ref c),some (.ref a),x4]) ?_ ?_ _ _ _
  ⟨a,[],ns,none,ha,by simp [zbx],rfl,(fun _ h=>nomatch h),by simp [zck],by simp,rfl⟩
 ·rintro w ws σ S' N ⟨a,ts,ms,x4,ha,rfl,ew,hm,h1,h2,rfl⟩ hN;cases ms with
  |nil=>cases ew
  |cons n ms=>
   simp only[List.map_cons,List.cons.injEq]at ew;obtain⟨rfl,rfl⟩:=ew;simp only[zeA];walk_at "wp";simp only[List.length_cons]at h1 h2;refine⟨⟨by decide,by decide,by decide⟩,by decide,?_⟩
   refine zkY zaj (by rw [zbN (zgZ hb ha)];exact hb) (by rw [zbN (zgZ hc ha)];exact hc) hh hl (by omega) fun p ts' hp hps=>?_;obtain⟨hp1,hp2⟩:=zdX hp;obtain⟨p1,p2,p3⟩:=ziF hps hm hw;exact hN _ _ _ (.put2 (.put .refl ha)) (by rw [zbN (zgZ hcs hp1)];exact hcs) ⟨p,ts',ms,_,hp1,rfl,rfl,p1,by omega,by omega,rfl⟩
 ·rintro σ S' ⟨a,ts,ms,x4,ha,rfl,ew,hm,h1,h2,rfl⟩;cases ms with
  |cons n ms=>cases ew
  |nil=>
   simp only[List.length_nil,Nat.add_zero]at h1 h2;walk_at "wp";rw [zaH];have leaf0:∃t,ls[0]? =some t:=⟨ls[0]'(List.length_pos_iff.mpr hl),List.getElem?_eq_getElem _⟩;split
   ·obtain⟨t,et⟩:=leaf0;have e0:atI (zbx ls) 0=some (enc t):=by
     have:=zdW (xs:=zbx ls) (n:=0);rw [zaD,List.getElem?_map,et]at this;rw [zaD];exact this
    rw [zjn (zgZ hc ha),zas hc,e0];have ht:=List.mem_of_getElem? et;exact⟨S, .put .refl ha,h t (.leaf ht) (by rw [hw t ht];omega)⟩
   ·rename_i hts;have hpos:1≤ts.length:=by
     rcases Nat.eq_zero_or_pos ts.length with z |z
     ·rw [z]at hts;simp at hts
     ·exact z
    refine⟨fun m σ S'=>∃(a:Addr) (ts:List Tr),m=ts.length∧S a=none∧S'=put S a (.lst (zbx ts))∧(∀t∈ts,Made hs ls t)∧1≤ts.length∧wts ts+ts.length≤2*ns.length+1∧ts.length≤ns.length∧σ=[some (.ref cs),some (.ref b),some (.ref c),some (.ref a),x4],⟨_,a,ts,rfl,ha,rfl,hm,hpos,by omega,by omega,rfl⟩,?_⟩
    rintro m σ S' ⟨a,ts,rfl,ha,rfl,hm,hpos,h1,h2,rfl⟩;walk_at "wp";rw [zaH];obtain⟨x0,ex0⟩:∃x,hs[0]? =some x:=⟨hs[0]'(List.length_pos_iff.mpr hh),List.getElem?_eq_getElem _⟩;split
    ·rename_i hlt;have hl2:2≤ts.length:=by omega
     have q1:ts[ts.length - 2]? =some (ts[ts.length - 2]'(by omega)):=List.getElem?_eq_getElem _;have q2:ts[ts.length - 1]? =some (ts[ts.length - 1]'(by omega)):=List.getElem?_eq_getElem _;generalize ts[ts.length - 2]'(by omega)=u at q1;generalize ts[ts.length - 1]'(by omega)=v at q2;have dec:ts=ts.take (ts.length - 2)++[u,v]:=by
      apply List.ext_getElem?;intro i;by_cases hi:i<ts.length - 2
      ·rw [List.getElem?_append_left (by simp;omega),List.getElem?_take_of_lt hi]
      ·rw [List.getElem?_append_right (by simp;omega),List.length_take,Nat.min_eq_left (by omega)];by_cases h0:i=ts.length - 2
       ·subst h0;rw [q1];simp
       ·by_cases h1:i=ts.length - 1
        ·subst h1;rw [q2,show ts.length - 1 - (ts.length - 2)=1 by omega];rfl
        ·rw [List.getElem?_eq_none (by omega),List.getElem?_eq_none (by simp;omega)]
     have e2:atI (zbx ts) (-2)=some (enc u):=by
      have:=zlr (xs:=zbx ts) (k:=2) (by decide) (by rw [zaH];omega);rw [zaH,zaD,List.getElem?_map,q1]at this;rw [zaD];exact this
     have e1:atI (zbx ts) (-1)=some (enc v):=by
      have:=zlr (xs:=zbx ts) (k:=1) (by decide) (by rw [zaH];omega);rw [zaH,zaD,List.getElem?_map,q2]at this;rw [zaD];exact this
     have e0:atI (hs.map W.str) 0=some (.str x0):=by
      have:=zdW (xs:=hs.map W.str) (n:=0);rw [List.getElem?_map,ex0]at this;exact this
     have ec:zdr (zbx ts) none (some (-2))=zbx (ts.take (ts.length - 2)):=by
      have:=zfY (xs:=zbx ts) 2 (by decide);rw [zaH,zhr]at this;exact this
     simp only[zeL];walk_at "wp";simp only[zjn (zgZ hb ha),zas hb,e0,e1,e2,ec];have hw1:wts ts=wts (ts.take (ts.length - 2))+(u.weight+(v.weight+0)):=by
      conv=>lhs;rw [dec]
      rw [zcq,zaI,zaI,zck]
     refine⟨zaf (by decide),zaf (by decide),zaf (by rw [zaH];simp;omega),fun p hp=>?_⟩;obtain⟨hp1,hp2⟩:=zdX hp;refine⟨_,put S p (.lst (zbx (ts.take (ts.length - 2)++[.nd x0 [u,v]]))),?_,?_,p,_,rfl,hp1,rfl,fun t ht=>?_,by simp,?_,by simp;omega,rfl⟩
     ·simp;omega
     ·rw [zdV];exact .put2 (.put .refl ha)
     ·rcases List.mem_append.mp ht with z |z
      ·exact hm t (List.mem_of_mem_take z)
      ·rw [List.mem_singleton.mp z];refine .node (List.mem_of_getElem? ex0) (by simp) (by simp) fun w hw'=>?_;rcases List.mem_cons.mp hw' with rfl |z
       ·exact hm _ (List.mem_of_getElem? q1)
       ·rw [List.mem_singleton.mp z];exact hm _ (List.mem_of_getElem? q2)
     ·rw [zcq,zaI,zck,zcs];show wts (ts.take (ts.length - 2))+(1+wts [u,v]+0)+_≤_;rw [zaI,zaI,zck];simp;omega
    ·rename_i hlt;have hl1:ts.length=1:=by omega
     obtain⟨t,rfl⟩:=List.length_eq_one_iff.mp hl1;simp only[zbx,zbX];rw [zaI,zck]at h1;simp at h1;exact⟨S, .put .refl ha,h t (hm t List.mem_cons_self) (by omega)⟩
theorem keep{S:Sto}{a p:Addr}{o x:Ob}(f:S a=some o) (h:S p=none):put S p x a=some o:=by rw [zbN (zgZ f h)];exact f
theorem zlu{u:Tr}:∀{ts:List Tr},u∈ts→u.depth≤dts ts
 |t::ts,h=>by
  rcases List.mem_cons.mp h with rfl |h
  ·simp [dts];omega
  ·have:=zlu h;simp [dts];omega
theorem zps{α:Type}{xs:List α}:atI xs 2=xs[2]? :=zdW (n:=2)
theorem zei{α:Type}{g:WG}{e:WE}{E:WX}{G:Sto→Prop}{Q:List W→Sto→Prop}{S:Sto}(I:WSt→Prop) (k f:α→W) (hG:G S):∀(xs:List α) (acc:List W) (σ:WSt),I σ→acc.length+xs.length≤1000000→
  (∀x∈xs,∀σ (R:WSt→W→Sto→Prop),I σ→(∀σ1 S3,I σ1→Sub S S3→R σ1 (f x) S3)→g (k x) σ S fun σ1 S1=>e E σ1 S1 fun y S3=>R σ1 y S3)→
  Q (acc++xs.map f) S→zfC g zjH e E G Q (xs.map k) acc σ S
 | [],acc,σ,hI,hl,step,hQ=>by simpa [zfC]using hQ
 |x::xs,acc,σ,hI,hl,step,hQ=>by
  simp only[List.map_cons,zfC,zjH,if_true];simp only[List.length_cons]at hl;refine step x List.mem_cons_self σ _ hI fun σ1 S3 hI1 sb=>⟨zfO (by omega),S,sb,hG,zei I k f hG xs (acc++[f x]) σ1 hI1 (by simp;omega) (fun y hy=>step y (List.mem_cons_of_mem _ hy)) ?_⟩;simpa using hQ
theorem ziA (j:Int) (m:Nat):zkx j (m+1)= .int j::zkx (j+1) m:=by
 unfold zkx;rw [List.range_succ_eq_map,List.map_cons,List.map_map];congr 1
 ·simp
 ·apply List.map_congr_left;intro i _;simp only[Function.comp,W.int.injEq];omega
theorem zmi{α:Type}{xs:List α}{i:Int}(h0:0≤i) (h1:i<xs.length):∃x,atI xs i=some x∧x∈xs:=by
 have q:=zdW (xs:=xs) (n:=i.toNat);rw [Int.toNat_of_nonneg h0,List.getElem?_eq_getElem (by omega)]at q;exact⟨_,q,List.getElem_mem ..⟩
theorem zpS{g:WG}{b:WS}{E:WX}{D:WEnds}(I:Nat→WSt→Sto→Prop) (n:Nat)
  (step:∀i,i<n→ ∀σ S (N:WSt→Sto→Prop),I i σ S→(∀σ' S' S'',Sub S'' S'→I (i+1) σ' S''→N σ' S')→g (.int i) σ S fun σ1 S1=>b E { D with nx:=N,ct:=N,bk:=D.nx } σ1 S1)
  (done:∀σ S,I n σ S→D.nx σ S) {σ:WSt}{S:Sto}(h:I 0 σ S):zhq g b E D (fun _=>True) (zkx 0 n) σ S:=by
 refine zgV (fun ws σ S=>∃i,i≤n∧ws=zkx (i:Int) (n - i)∧I i σ S) ?_ ?_ _ _ _ ⟨0,Nat.zero_le _,rfl,h⟩
 ·rintro w ws σ S N ⟨i,hi,e,hI⟩ hN;obtain⟨m,hm⟩:∃m,n - i=m+1:=by
   rcases Nat.eq_zero_or_pos (n - i) with z |z
   ·rw [z]at e;cases e
   ·exact⟨n - i - 1,by omega⟩
  rw [hm,ziA]at e;cases e;exact step i (by omega) σ S N hI fun σ' S' S'' sb h'=>hN σ' S' S'' sb trivial ⟨i+1,by omega,by rw [show n - (i+1)=m by omega];push_cast;rfl,h'⟩
 ·rintro σ S ⟨i,hi,e,hI⟩;have:n - i=0:=by
   rcases Nat.eq_zero_or_pos (n - i) with z |z
   ·exact z
   ·obtain⟨m,hm⟩:∃m,n - i=m+1:=⟨n - i - 1,by omega⟩
    rw [hm,ziA]at e;cases e
  rw [show i=n by omega]at hI
  exact done σ S hI
theorem zkb{g:WG}{b:WS}{E:WX}{D:WEnds}{G:Sto→Prop}{w:W}{ws:List W}{σ:WSt}{S:Sto}(h:∀N:WSt→Sto→Prop,(∀σ S S',Sub S' S→G S'→zhq g b E D G ws σ S'→N σ S)→g w σ S fun σ1 S1=>b E { D with nx:=N,ct:=N,bk:=D.nx } σ1 S1):zhq g b E D G (w::ws) σ S:=h _ fun σ S S' a c d=>⟨S',a,c,d⟩
mutual
noncomputable def Tr.txt:Tr→Str
 | .bl n=>Str.ofString "?" ++Str.ofString (toString n)
 | .nd s ts=>if ts.isEmpty then s else s++zkm (Str.ofString "(") ts++Str.ofString ")"
noncomputable def zkm (m:Str):List Tr→Str
 | []=>Str.empty
 |t::ts=>m++t.txt++zkm (Str.ofString ",") ts
end
inductive Plain:Tr→Prop
 |bl {n:Int}:0≤n→n<10 ^ 60→Plain (.bl n)
 |nd {s:Str}{ts:List Tr}:s.length≤8→(∀t∈ts,Plain t)→Plain (.nd s ts)
theorem zjJ{n:Int}:(Tr.bl n).txt=Str.ofString "?" ++Str.ofString (toString n):=by unfold Tr.txt;rfl
theorem zfR{s:Str}:(Tr.nd s []).txt=s:=by unfold Tr.txt;rfl
theorem zfI{m:Str}:zkm m []=Str.empty:=by unfold zkm;rfl
theorem zdS{m:Str}{t:Tr}{ts:List Tr}:zkm m (t::ts)=m++t.txt++zkm (Str.ofString ",") ts:=by conv=>lhs;unfold zkm
theorem ziv{s:Str}{ts:List Tr}(h:ts≠ []):(Tr.nd s ts).txt=s++zkm (Str.ofString "(") ts++Str.ofString ")" :=by
 conv=>lhs;unfold Tr.txt
 cases ts with
 |nil=>exact absurd rfl h
 |cons t ts=>rfl
theorem sl1:(Str.ofString "?").length=1:=by decide +kernel
theorem sl2:(Str.ofString "(").length=1:=by decide +kernel
theorem sl3:(Str.ofString ",").length=1:=by decide +kernel
theorem sl4:(Str.ofString ")").length=1:=by decide +kernel
theorem sl5:(Str.ofString ": ").length=2:=by decide +kernel
theorem sl6:(Str.ofString " > ").length=3:=by decide +kernel
theorem zkM{n:Int}(h0:0≤n) (h1:n<10 ^ 60):(Str.ofString (toString n)).length≤60:=by
 obtain⟨k,rfl⟩:∃k:Nat,n=k:=⟨n.toNat,(Int.toNat_of_nonneg h0).symm⟩;exact znv (by decide) (by omega)
theorem zqu{n:Int}(h0:0≤n) (h1:n<10 ^ 60):n.natAbs.log2<1920:=by
 by_cases e:n.natAbs=0
 ·rw [e];decide
 ·rw [Nat.log2_lt e];have:n.natAbs<10 ^ 60:=by omega
  have:(10:Nat) ^ 60<2 ^ 1920:=by decide +kernel
  omega
theorem zjv:∀{ts:List Tr}{m:Str},m.length≤1→(∀t∈ts,t.txt.length+3≤64*t.weight)→(zkm m ts).length≤64*wts ts
 | [],m,_,_=>by rw [zfI];exact Nat.zero_le _
 |t::ts,m,hm,h=>by
  have h1:=h t List.mem_cons_self;have h2:=zjv (ts:=ts) (m:=Str.ofString ",") (by rw [sl3];decide) fun u hu=>h u (List.mem_cons_of_mem _ hu);rw [zdS,Str.length_append,Str.length_append,zaI];omega
theorem zgL{t:Tr}(h:Plain t):t.txt.length+3≤64*t.weight:=by
 induction h with
 |bl h0 h1=>
  have:=zkM h0 h1;rw [zjJ,Str.length_append,sl1,Tr.weight];omega
 | @nd s ts hs ht ih=>
  rw [Tr.weight];by_cases e:ts=[]
  ·subst e;rw [zfR];omega
  ·have:=zjv (ts:=ts) (m:=Str.ofString "(") (by rw [sl2];decide) ih;have:=zfM ts;rw [ziv e,Str.length_append,Str.length_append,sl4];omega
theorem zju{α:Type}(f:α→Str):∀(ts:List α),zel (ts.map fun t=>W.str (f t))=some (ts.map f)
 | []=>rfl
 |t::ts=>by
  show(zel (ts.map fun t=>W.str (f t))).map (f t:: ·)=_;rw [zju f ts];rfl
theorem zfS{d:Nat}{t0:Option W}(ih:∀{t:Tr}{r:Nat}{S:Sto}{Q:WK}{E:Str→Sto→Prop},t.depth≤d→d≤r→Plain t→t.weight≤10000→Q (.str t.txt) S→zar (r+1) [enc t] S Q E) {r:Nat}(hr:d≤r) {S:Sto}{E:WX}{D:WEnds}:∀(ts:List Tr) {row m:Str}{x3:Option W},(∀t∈ts,Plain t)→dts ts≤d→m.length≤1→wts ts≤10000→row.length≤900000→row.length+64*wts ts≤900000→
  (∀x3,D.nx [t0,some (.str (row++zkm m ts)),some (.str (if ts.isEmpty then m else Str.ofString ",")),x3] S)→
  zhq (wGN 3) (zcT (r+1) (zar (r+1))) E D (fun _=>True) (ts.map enc) [t0,some (.str row),some (.str m),x3] S
 | [],row,m,x3,hp,hd,hm,hw,h1,h2,h=>by
  have:=h x3;rw [zfI,Str.append_empty]at this;exact this
 |t::ts,row,m,x3,hp,hd,hm,hw,h1,h2,h=>by
  rw [zdz]at hd;rw [zaI]at hw h2;have hl:=zgL (hp t List.mem_cons_self);rw [List.map_cons];refine zkb fun N hN=>?_;simp only[zcT];walk_at "wp";refine⟨zaf (by omega),?_⟩;refine ih (by omega) hr (hp t List.mem_cons_self) (by omega) ?_;walk_at "wp";refine⟨zaf (by rw [Str.length_append];omega),?_⟩;refine hN _ _ S .refl trivial ?_;refine zfS ih hr ts (fun u hu=>hp u (List.mem_cons_of_mem _ hu)) (by omega) (by rw [sl3];decide) (by omega) (by simp only[Str.length_append];omega) (by simp only[Str.length_append];omega) fun x3=>?_;have:=h x3;rw [zdS]at this;simp only[List.isEmpty_cons,Bool.false_eq_true,if_false]at this;rw [ite_self];simpa only[Str.append_assoc]using this
theorem zdd:∀(d:Nat) {t:Tr}{r:Nat}{S:Sto}{Q:WK}{E:Str→Sto→Prop},t.depth≤d→d≤r→Plain t→t.weight≤10000→Q (.str t.txt) S→zar (r+1) [enc t] S Q E
 |0,t,r,S,Q,E,hd,hr,hp,hw,h=>by have:=zhH t;omega
 |d+1, .bl n,r,S,Q,E,hd,hr,hp,hw,h=>by
  cases hp with
  |bl h0 h1=>
  rw [zar];simp only[enc];walk_at "wp";rw [ztN];walk_at "wp";have:=zkM h0 h1;rw [zjJ]at h;exact⟨zqu h0 h1,zaf (by rw [sl1];omega),_, .refl,h⟩
 |d+1, .nd s ts,r,S,Q,E,hd,hr,hp,hw,h=>by
  have hl:=zgL hp;cases hp with
  |nd hs ht=>
  simp only[Tr.depth]at hd;simp only[Tr.weight]at hw hl;obtain⟨r,rfl⟩:∃r',r=r'+1:=⟨r - 1,by omega⟩
  rw [zar];simp only[enc];walk_at "wp";rw [zaD];refine zfS (d:=d) (fun {t r S Q E}=>zdd d) (by omega) ts ht (by omega) (by rw [sl2];decide) (by omega) (by omega) (by omega) fun x3=>?_;walk_at "wp";by_cases e:ts=[]
  ·subst e;rw [zfR]at h;simp only[List.isEmpty_nil,if_true,zfI,Str.append_empty];rw [if_neg (by decide +kernel)];exact⟨_, .refl,h⟩
  ·have hne:ts.isEmpty=false:=by cases ts with
    |nil=>exact absurd rfl e
    |cons _ _=>rfl
   rw [hne];simp only[Bool.false_eq_true,if_false];rw [ziv e]at h hl;rw [if_pos (by simp)];simp only[Str.length_append,sl4]at hl;refine⟨zaf (by rw [Str.length_append,sl4];omega),_, .refl,h⟩
theorem zfd{x:Str}(h:zeQ x):x.length≤8:=by
 have:x.length=x.cps.toList.length:=by simp [Str.length]
 rw [this];exact h.2.1
theorem zfK{x:Str}(h:zeD x):x.length≤8:=by
 obtain⟨c,r,e,_,_,h1,_⟩:=h;have:x.length=x.cps.toList.length:=by simp [Str.length]
 rw [this,e,List.length_cons];omega
theorem zkA{hs:List Str}{ls:List Tr}{t:Tr}(h:Made hs ls t) (h1:∀x∈hs,x.length≤8) (h2:∀l∈ls,Plain l):Plain t:=by
 induction h with
 |leaf hm=>exact h2 _ hm
 |node hh _ _ _ ih=>exact .nd (h1 _ hh) ih
noncomputable def zec (c:Nat):Bool:=decide (97≤c)&&decide (c≤122)
noncomputable def small (xs:List Nat):Bool:=xs.all zec
noncomputable def zbl (xs:List Nat):Bool:=decide (1≤xs.length)&&(decide (xs.length≤8)&&(decide (65≤xs.headD 0)&&(decide (xs.headD 0≤90)&&small (xs.drop 1))))
theorem zjk{s:Str}{a:Nat}(hs:s.cps.toList=[a]) (c:Nat):(!decide ((⟨#[c]⟩:Str).cps.toList<s.cps.toList))=decide (a≤c):=by
 rw [hs];show(!decide (([c]:List Nat)< [a]))=_;by_cases h:a≤c
 ·rw [decide_eq_true h,decide_eq_false (fun z=>by have:=(zjR c a).mp z;omega)];rfl
 ·rw [decide_eq_false h,decide_eq_true ((zjR c a).mpr (by omega))];rfl
theorem zjc{s:Str}{a:Nat}(hs:s.cps.toList=[a]) (c:Nat):(!decide (s.cps.toList<(⟨#[c]⟩:Str).cps.toList))=decide (c≤a):=by
 rw [hs];show(!decide (([a]:List Nat)< [c]))=_;by_cases h:c≤a
 ·rw [decide_eq_true h,decide_eq_false (fun z=>by have:=(zjR a c).mp z;omega)];rfl
 ·rw [decide_eq_false h,decide_eq_true ((zjR a c).mpr (by omega))];rfl
theorem zsb:(Str.ofString "a").cps.toList=[97]:=by decide +kernel
theorem zto:(Str.ofString "z").cps.toList=[122]:=by decide +kernel
theorem zrF:(Str.ofString "A").cps.toList=[65]:=by decide +kernel
theorem zqR:(Str.ofString "Z").cps.toList=[90]:=by decide +kernel
theorem drop_one (x:Str):(Txt.slice x (some 1) none).cps.toList=x.cps.toList.drop 1:=by
 rw [zba];unfold ziD;rw [HT.sIx_none];have ez:HT.sIx x.cps.toList.length 0 (some 1)=min 1 x.cps.toList.length:=HT.sIx_nat x.cps.toList.length 0 1;rw [ez];by_cases h:1≤x.cps.toList.length
 ·rw [Nat.min_eq_left h,List.take_of_length_le (by rw [List.length_drop];exact Nat.le_refl _)]
 ·have:x.cps.toList=[]:=List.eq_nil_of_length_eq_zero (by omega);rw [this];rfl
theorem zme (x:Str):x.length=x.cps.toList.length:=by simp [Str.length]
theorem zfc (bs:List Bool):ziq (bs.map W.bl)=some bs:=by
 induction bs with
 |nil=>rfl
 |cons b bs ih=>rw [List.map_cons,ziq,ih];rfl
theorem zeY{α:Type}(xs:List α) (f:α→Bool):((xs.map f).all _root_.id)=xs.all f:=by rw [List.all_map];rfl
theorem zhv{x:Str}{r:Nat}{S:Sto}{Q:WK}{E:Str→Sto→Prop}(hx:x.length≤1000) (h:Q (.bl (small x.cps.toList)) S):zaC (r+1) [.str x] S Q E:=by
 rw [zme]at hx;rw [zaC];walk_at "wp";unfold zfB;refine zei (fun σ=>∃x,σ=[x]) (fun c=> .str ⟨#[c]⟩) (fun c=> .bl (zec c)) ?_ x.cps.toList [] _ ⟨none,rfl⟩ (by rw [List.length_nil];omega) (fun c hc σ R hI hR=>?_) ?_
 ·exact trivial
 ·obtain⟨y,rfl⟩:=hI;simp only[zcG];walk_at "wp";rw [zjk zsb,zjc zto];unfold zec at hR;cases e:decide (97≤c) with
  |false=>rw [e]at hR;exact hR _ _ ⟨_,rfl⟩ .refl
  |true=>rw [e]at hR;exact hR _ _ ⟨_,rfl⟩ .refl
 ·have e:x.cps.toList.map (fun c=>W.bl (zec c))=(x.cps.toList.map zec).map W.bl:=by rw [List.map_map];rfl
  rw [List.nil_append,e,zfc];dsimp only;rw [zeY];exact⟨_, .refl,h⟩
theorem znV{x:Str}{r:Nat}{S:Sto}{Q:WK}{E:Str→Sto→Prop}(hx:x.length≤1000) (h:Q (.bl (zbl x.cps.toList)) S):zcc (r+2) [.str x] S Q E:=by
 have hsl:=Txt.slice_le x (some 1) none;have hxl:=zme x;rw [zcc];walk_at "wp";unfold zbl at h;rw [←hxl]at h;cases e1:decide (1≤x.length) with
 |false=>
  rw [e1]at h;have:¬1≤x.length:=by simpa using e1
  have e1':decide ((1:Int)≤(x.length:Int))=false:=by simp;omega
  rw [e1'];walk_at "wp";exact⟨zaf (by omega),_, .refl,h⟩
 |true=>
  rw [e1]at h;have h1:1≤x.length:=by simpa using e1
  have e1':decide ((1:Int)≤(x.length:Int))=true:=by simp;omega
  rw [e1'];refine⟨zaf (by omega),?_⟩;walk_at "wp";cases e2:decide (x.length≤8) with
  |false=>
   rw [e2]at h;have:¬x.length≤8:=by simpa using e2
   have e2':decide ((x.length:Int)≤8)=false:=by simp;omega
   rw [e2'];exact⟨_, .refl,h⟩
  |true=>
   rw [e2]at h;have h2:x.length≤8:=by simpa using e2
   have e2':decide ((x.length:Int)≤8)=true:=by simp;omega
   rw [e2'];walk_at "wp";obtain⟨c,rest,hc⟩:∃c rest,x.cps.toList=c::rest:=by
    cases e:x.cps.toList with
    |nil=>rw [e]at hxl;simp at hxl;omega
    |cons c rest=>exact⟨c,rest,rfl⟩
   rw [hc]at h⊢;replace h:Q (W.bl (decide (65≤c)&&(decide (c≤90)&&small rest))) S:=h;walk_at "wp";rw [zjk zrF];refine⟨zaf (by omega),?_⟩;cases e3:decide (65≤c) with
   |false=>rw [e3]at h;exact⟨_, .refl,h⟩
   |true=>
    rw [e3]at h;walk_at "wp";rw [zjc zqR];cases e4:decide (c≤90) with
    |false=>rw [e4]at h;exact⟨_, .refl,h⟩
    |true=>
     rw [e4]at h;walk_at "wp";refine⟨zaf (by omega),zhv (by omega) ⟨_, .refl,?_⟩⟩;rw [drop_one,hc];exact h
theorem zgE{r:Nat}{a b:Addr}{ps:List W}{E:WX}{D:WEnds}{x0:Option W}(hba:b≠a):∀(ts:List Tr) {S:Sto}{us:List Tr}{x2:Option W},S a=some (.lst (zbx us))→S b=some (.lst ps)→us.length+wts ts≤200000→
  (∀x2,D.nx [x0,some (.ref a),x2] (put S a (.lst (zbx (us++ts.flatMap Tr.kids)))))→
  zhq (wGN 2) (zcN (r+1) zcf) E D (fun S'=>S' b=some (.lst ps)) (zbx ts) [x0,some (.ref a),x2] S
 | [],S,us,x2,ha,hb,hl,h=>by
  have:=h x2;simp only[List.flatMap_nil,List.append_nil,zgu ha]at this;simpa [zbx,zhq]using this
 |t::ts,S,us,x2,ha,hb,hl,h=>by
  simp only[wts]at hl;have hk:=zfM t.kids;have hw:=zcs t;simp only[zbx];refine zkb fun N hN=>?_;simp only[zcN];walk_at "wp";simp only[zas ha,true_and];refine zns ?_;walk_at "wp";rw [zas ha];refine⟨zaf (by rw [zaH,zaH];omega),hN _ _ _ .refl (by rw [zbN hba];exact hb) ?_⟩;rw [←zdV];refine zgE hba ts zaj (by rw [zbN hba];exact hb) (by rw [List.length_append];omega) fun x2=>?_;rw [zcO];have:=h x2;rw [List.flatMap_cons,←List.append_assoc]at this;exact this
theorem ziV{ts:List Tr}{b:Addr}{r:Nat}{S:Sto}{Q:WK}{E:Str→Sto→Prop}(hb:S b=some (.lst (zbx ts))) (hw:wts ts≤100000) (h:∀a,S a=none→Q (.ref a) (put S a (.lst (zbx (ts.flatMap Tr.kids))))):zbT (r+2) [.ref b] S Q E:=by
 rw [zbT];walk_at "wp";refine⟨Nat.zero_le _,fun a ha=>?_⟩;have hba:=zgZ hb ha;rw [zas (keep hb ha)];refine zgE (us:=[]) hba ts (by simp [zaj,zbx]) (keep hb ha) (by simpa using(by omega:wts ts≤200000)) fun x2=>?_;rw [zcO];walk_at "wp";exact⟨_, .refl,h a ha⟩
noncomputable def Tr.small (t:Tr):Bool:=decide (t.weight≤400)&&decide (t.depth≤40)
theorem zkH{t:Tr}{r:Nat}{S:Sto}{Q:WK}{E:Str→Sto→Prop}(hw:t.weight≤90000) (h:Q (.bl t.small) S):zdP (r+3) [enc t] S Q E:=by
 rw [zdP];walk_at "wp";refine⟨zaf (by decide),fun a ha=>?_⟩;refine⟨fun m σ S'=>∃(ts:List Tr) (k d:Nat) (b:Addr),m=wts ts∧k+wts ts=t.weight∧d+dts ts=t.depth∧k≤400∧d≤40∧S b=none∧S'=put S b (.lst (zbx ts))∧σ=[some (enc t),some (.int k),some (.int d),some (.ref b)],⟨_,[t],0,0,a,rfl,by simp [wts],by simp [dts],by decide,by decide,ha,by simp [zbx],rfl⟩,?_⟩
 rintro m σ S' ⟨ts,k,d,b,rfl,hwt,hk,hk4,hd4,hb,rfl,rfl⟩;walk_at "wp";cases ts with
 |nil=>
  simp only[zbx,List.isEmpty_nil];walk_at "wp";simp only[dts,wts,Nat.add_zero]at hk hwt;have e:t.small=true:=by unfold Tr.small;rw [decide_eq_true (by omega),decide_eq_true (by omega)];rfl
  rw [e]at h;exact⟨_, .put .refl hb,h⟩
 |cons u us=>
  have hne:(zbx (u::us)).isEmpty=false:=by simp [zbx]
  rw [hne];have hfl:=zkh (u::us);have hdf:=zjV (ts:=u::us) (by simp);have hlw:=zfM (u::us);simp only[zfz];walk_at "wp";rw [zaH];have no:400<t.weight∨40<t.depth→ ∃S'',Sub S'' (put S b (Ob.lst (zbx (u::us))))∧Q (W.bl false) S'':=fun z=>by
   have e:t.small=false:=by
    unfold Tr.small;rcases z with z |z
    ·rw [decide_eq_false (by omega)];rfl
    ·rw [decide_eq_false (p:=t.depth≤40) (by omega),Bool.and_false]
   rw [e]at h;exact⟨_, .put .refl hb,h⟩
  split
  ·exact no (.inl (by omega))
  ·split
   ·exact no (.inr (by omega))
   ·refine ziV zaj (by omega) fun c hc=>?_;obtain⟨hc1,hc2⟩:=zdX hc;refine⟨wts ((u::us).flatMap Tr.kids),put S c (.lst (zbx ((u::us).flatMap Tr.kids))),by simp only[List.length_cons]at hfl;omega, .put2 (.put .refl hb),_,k+(u::us).length,d+1,c,rfl,by omega,by omega,by omega,by omega,hc1,rfl,?_⟩
    push_cast
    rfl
noncomputable abbrev rf (x:Str) (b:Bool) (n:Int):List (Str×W):=[("text", .str x),("in_side", .bl b),("at", .int n)]
noncomputable def rd (x:Str) (b:Bool) (n:Int):Ob:= .ins "Reader" (rf x b n)
theorem ne1:((Str.ofString "in_side" :Str) == Str.ofString "text")=false:=by decide +kernel
theorem ne2:((Str.ofString "at" :Str) == Str.ofString "text")=false:=by decide +kernel
theorem ne3:((Str.ofString "at" :Str) == Str.ofString "in_side")=false:=by decide +kernel
theorem nq1:¬((Str.ofString "text" :Str)=Str.ofString "in_side"):=by decide +kernel
theorem nq2:¬((Str.ofString "text" :Str)=Str.ofString "at"):=by decide +kernel
theorem nq3:¬((Str.ofString "in_side" :Str)=Str.ofString "at"):=by decide +kernel
section
variable {S:Sto}{Q:WK}{E:Str→Sto→Prop}{a:Addr}{x:Str}{b:Bool}{n m:Int}{r:Nat}{u v w:W}
theorem zjo:List.lookup (Str.ofString "text") [(Str.ofString "text",u),(Str.ofString "in_side",v),(Str.ofString "at",w)]=some u:=by rw [List.lookup_cons,beq_self_eq_true]
theorem zjl:List.lookup (Str.ofString "in_side") [(Str.ofString "text",u),(Str.ofString "in_side",v),(Str.ofString "at",w)]=some v:=by rw [List.lookup_cons,ne1];simp only;rw [List.lookup_cons,beq_self_eq_true]
theorem ziG:List.lookup (Str.ofString "at") [(Str.ofString "text",u),(Str.ofString "in_side",v),(Str.ofString "at",w)]=some w:=by rw [List.lookup_cons,ne2];simp only;rw [List.lookup_cons,ne3];simp only;rw [List.lookup_cons,beq_self_eq_true]
theorem zhh{m:Str}(h1:(m == Str.ofString "text")=false) (h2:(m == Str.ofString "in_side")=false) (h3:(m == Str.ofString "at")=false):List.lookup m (rf x b n)=none:=by
 rw [rf,List.lookup_cons,h1];simp only;rw [List.lookup_cons,h2];simp only;rw [List.lookup_cons,h3];rfl
theorem zfk:List.lookup (Str.ofString "here") (rf x b n)=none:=zhh (by decide +kernel) (by decide +kernel) (by decide +kernel)
theorem zpm:List.lookup (Str.ofString "read_word") (rf x b n)=none:=zhh (by decide +kernel) (by decide +kernel) (by decide +kernel)
theorem zjE:List.lookup (Str.ofString "read_thing") (rf x b n)=none:=zhh (by decide +kernel) (by decide +kernel) (by decide +kernel)
theorem znR:List.lookup (Str.ofString "read_parts") (rf x b n)=none:=zhh (by decide +kernel) (by decide +kernel) (by decide +kernel)
theorem zpp:zdc (Str.ofString "at") (.int m) (rf x b n)=rf x b m:=by
 rw [rf,zdc,if_neg nq2,zdc,if_neg nq3,zdc,if_pos rfl]
theorem zrK:zdc (Str.ofString "at") (.int n) (zdc (Str.ofString "in_side") (.bl b) (zdc (Str.ofString "text") (.str x) []))=rf x b n:=by
 rw [zdc,zdc,if_neg nq1,zdc,zdc,if_neg nq2,zdc,if_neg nq3,zdc]
theorem zce{P:List (Str×W)→Prop}(h:S a=some (rd x b n)):ziC S (Str.ofString "Reader") a P=P (rf x b n):=zgP h
theorem zqg (ha:S a=some (.ins "Reader" [])) (h:Q .non (put S a (rd x b 0))):zaX (r+1) [.ref a, .str x, .bl b] S Q E:=by
 rw [zaX];walk_at "wp";rw [zgP ha];refine⟨by decide,?_⟩;rw [zgP zaj];refine⟨by rw [zdc];show 1<1000;decide,?_⟩;rw [zgP zaj];refine⟨by rw [zdc,zdc,if_neg nq1,zdc];show 2<1000;decide,?_⟩;rw [zrK];exact⟨_, .refl,h⟩
noncomputable abbrev cl (x:Str):List Nat:=x.cps.toList
theorem zdQ{x y:Str}(h:cl x=cl y):x=y:=by
 obtain⟨x⟩:=x;obtain⟨y⟩:=y;exact congrArg Str.mk (Array.toList_inj.mp h)
theorem zcF (x y:Str):cl (x++y)=cl x++cl y:=by
 show(x.cps++y.cps).toList=_;exact Array.toList_append
theorem zqs{x:Str}{p w q:List Nat}(h:cl x=p++w++q):Txt.slice x (some (p.length:Int)) (some ((p.length+w.length:Nat):Int))=⟨w.toArray⟩:=by
 apply zdQ;rw [cl,zba];unfold ziD;rw [HT.sIx_nat,HT.sIx_nat,show x.cps.toList=p++w++q from h];rw [Nat.min_eq_left (by simp),Nat.min_eq_left (by simp;done),List.append_assoc,List.drop_left,Nat.add_sub_cancel_left,List.take_left]
noncomputable def hdS:List Nat→Str
 | []=>Str.empty
 |c::_=>⟨#[c]⟩
theorem zsy{x:Str}{p q:List Nat}(h:cl x=p++q):Txt.slice x (some (p.length:Int)) (some ((p.length:Int)+1))=hdS q:=by
 cases q with
 |nil=>
  apply zdQ;rw [cl,zba];unfold ziD;have e:((p.length:Int)+1)=((p.length+1:Nat):Int):=by omega
  rw [e,HT.sIx_nat,HT.sIx_nat,show x.cps.toList=p++[] from h];simp [hdS,Str.empty]
 |cons c q=>exact zqs (w:=[c]) (q:=q) (by rw [h];simp)
theorem zfs{p q:List Nat}(ha:S a=some (rd x b p.length)) (e:cl x=p++q) (hx:x.length≤100000) (h:Q (.str (hdS q)) S):zaR (r+1) [.ref a] S Q E:=by
 rw [zaR];walk_at "wp";simp only[zce ha,zjo,ziG];walk_at "wp";rw [zsy e];exact⟨zaf (by omega),_, .refl,h⟩
noncomputable def stp (c:Nat):Bool:=c == 40 || c == 44 || c == 41
theorem zpg:Str.ofString "(" =⟨#[40]⟩:=by decide +kernel
theorem zro:Str.ofString "," =⟨#[44]⟩:=by decide +kernel
theorem zqO:Str.ofString ")" =⟨#[41]⟩:=by decide +kernel
theorem zuM:Str.ofString "" =⟨#[]⟩:=by decide +kernel
theorem zdR (c d:Nat):((⟨#[c]⟩:Str) == ⟨#[d]⟩)=(c == d):=by
 by_cases h:c=d
 ·subst h;rw [beq_self_eq_true,beq_self_eq_true]
 ·have:¬((⟨#[c]⟩:Str)=⟨#[d]⟩):=fun z=>h (by have:=congrArg cl z;simpa [cl]using this);rw [beq_eq_false_iff_ne.mpr this,beq_eq_false_iff_ne.mpr h]
theorem zgc (c:Nat):((⟨#[]⟩:Str) == ⟨#[c]⟩)=false:=beq_eq_false_iff_ne.mpr fun z=>by have:=congrArg cl z;simp [cl]at this
theorem ztl{q:List Nat}:inF S (.str (hdS q)) [.str (Str.ofString ""), .str (Str.ofString "("), .str (Str.ofString ","), .str (Str.ofString ")")]=some (match q with
  | []=>true
  |c::_=>stp c):=by
 have e59:∀a b:Str,eqF S 59 (.str a) (.str b)=some (a == b):=fun _ _=>rfl;rw [zuM,zpg,zro,zqO];simp only[inF,e59];cases q with
 |nil=>
  show some ((⟨#[]⟩:Str) == ⟨#[]⟩ || _)=some true;rw [beq_self_eq_true];rfl
 |cons c q=>
  simp only[hdS,zdR,zgc,stp];rw [BEq.comm (a:=40),BEq.comm (a:=44),BEq.comm (a:=41)];simp only[Bool.false_or,Bool.or_false,Bool.or_assoc]
theorem zqn{p w q:List Nat}(ha:S a=some (rd x b p.length)) (e:cl x=p++w++q) (hx:x.length≤100000) (hw:∀c∈w,stp c=false) (hq:∀c q',q=c::q'→stp c=true) (h:Q (.str ⟨w.toArray⟩) (put S a (rd x b ((p++w).length:Nat)))):zaS (r+2) [.ref a] S Q E:=by
 rw [zaS];walk_at "wp";simp only[zce ha,zjo,ziG];refine⟨fun m σ S'=>σ=[some (.ref a),some (.int p.length)]∧ ∃w1 w2,w=w1++w2∧m=w2.length∧S'=put S a (rd x b ((p++w1).length:Nat)),⟨w.length,rfl,[],w,rfl,rfl,by rw [List.append_nil];exact(zgu ha).symm⟩,?_⟩
 rintro m σ S' ⟨rfl,w1,w2,rfl,rfl,rfl⟩;walk_at "wp";have e':cl x=(p++w1)++(w2++q):=by rw [e];simp
 rw [zce zaj];refine⟨zfk,?_⟩;refine zfs zaj e' hx ⟨by decide,?_⟩;rw [ztl];cases w2 with
 |nil=>
  have hs:(match([]++q:List Nat) with
    | []=>true
    |c::_=>stp c)=true:=by
   cases q with
   |nil=>rfl
   |cons c q'=>exact hq c q' rfl
  simp only[hs];walk_at "wp";simp only[zce zaj,zjo,ziG];walk_at "wp";rw [List.append_nil]at e h;have e2:(((p++w1).length:Nat):Int)=((p.length+w1.length:Nat):Int):=by rw [List.length_append]
  rw [e2,zqs e];rw [e2]at h;exact⟨zaf (by omega),_, .refl,h⟩
 |cons c w2=>
  have hs:stp c=false:=hw c (by simp);simp only[List.cons_append,hs];rw [zcY];walk_at "wp";simp only[zce zaj,ziG];refine⟨by show 3<1000;decide,w2.length,_,by omega, .refl,w1++[c],w2,by simp,rfl,?_⟩
  have e3:(((p++w1).length:Nat):Int)+1=(((p++(w1++[c])).length:Nat):Int):=by simp;omega
  rw [zpp,e3];rfl
end
noncomputable def zdB (xs:List Nat):Bool:=decide (1≤xs.length)&&(decide (xs.length≤8)&&small xs)
section
variable {S:Sto}{Q:WK}{E:Str→Sto→Prop}{x:Str}{r:Nat}
theorem zpw (hx:x.length≤1000) (h:Q (.bl (zdB (cl x))) S):zdh (r+2) [.str x] S Q E:=by
 have hl:x.length=(cl x).length:=by simp [Str.length,cl]
 rw [zdh];walk_at "wp";refine⟨zaf (by omega),?_⟩;by_cases h1:1≤(cl x).length
 ·have e1:decide ((1:Int)≤(x.length:Int))=true:=decide_eq_true (by omega);rw [e1];by_cases h2:(cl x).length≤8
  ·have e2:decide ((x.length:Int)≤8)=true:=decide_eq_true (by omega);rw [e2];refine zhv hx ⟨_, .refl,?_⟩;unfold zdB at h;rw [decide_eq_true h1,decide_eq_true h2]at h;exact h
  ·have e2:decide ((x.length:Int)≤8)=false:=decide_eq_false (by omega);rw [e2];unfold zdB at h;rw [decide_eq_false h2,Bool.false_and,Bool.and_false]at h;exact⟨_, .refl,h⟩
 ·have e1:decide ((1:Int)≤(x.length:Int))=false:=decide_eq_false (by omega);rw [e1];unfold zdB at h;rw [decide_eq_false h1,Bool.false_and]at h;exact⟨_, .refl,h⟩
noncomputable def dg (n:Nat):List Nat:=if n<10 then [48+n] else [48+n / 10,48+n % 10]
theorem zoD:∀n:Nat,n<100→cl (Str.ofString (toString (n:Int)))=dg n:=by decide +kernel
theorem zrJ:∀n:Nat,n<100→intText? (Str.ofString (toString (n:Int)))=some (n:Int):=by decide +kernel
theorem zpY:Str.ofString "?" =⟨#[63]⟩:=by decide +kernel
theorem zoP{c:Nat}{w:List Nat}(e:cl x=c::w):Txt.slice x none (some 1)=⟨#[c]⟩:=by
 apply zdQ;rw [cl,zba];unfold ziD;rw [HT.sIx_none,show(1:Int)=((1:Nat):Int) from rfl,HT.sIx_nat,show x.cps.toList=c::w from e];rw [List.drop_zero,Nat.min_eq_left (by simp),Nat.sub_zero];rfl
theorem ziX{c:Nat}{w:List Nat}(e:cl x=c::w):Txt.slice x (some 1) none=⟨w.toArray⟩:=by
 apply zdQ;rw [cl,drop_one,show x.cps.toList=c::w from e];rfl
theorem zqY:(Str.ofString "0").cps.toList=[48]:=by decide +kernel
theorem zsO:(Str.ofString "9").cps.toList=[57]:=by decide +kernel
theorem zsV:Str.ofString "0" =⟨#[48]⟩:=by decide +kernel
end
inductive Wrt (b:Bool):Tr→Prop
 |bl {n:Int}:b=true→0≤n→n<100→Wrt b (.bl n)
 |nd {s:Str}{ts:List Tr}:(zeQ s∨b=false∧zeD s)→(∀t∈ts,Wrt b t)→Wrt b (.nd s ts)
theorem zjD{S:Sto}{a f:Addr}{o1 o2 L:Ob}(h:a≠f):put (put (put S a o1) f L) a o2=put (put S a o2) f L:=by
 funext c;unfold put;by_cases h1:c=a
 ·subst h1;rw [if_pos rfl,if_neg h,if_pos rfl]
 ·rw [if_neg h1];by_cases h2:c=f
  ·rw [if_pos h2,if_pos h2]
  ·rw [if_neg h2,if_neg h2,if_neg h1,if_neg h1]
section
variable {S:Sto}{Q:WK}{E:Str→Sto→Prop}{x:Str}{r:Nat}
theorem zon (hx:x.length≤4000) (h:Q .non S):zaK (r+1) [.str x] S Q E:=by
 rw [zaK];walk_at "wp";rw [if_neg (by omega)];exact⟨zaf (by omega),_, .refl,h⟩
end
theorem sub_iff{z y:Str}{i:Nat}:Builtin.Str.subAt z y i=true↔((cl z).drop i).take (cl y).length=cl y:=by
 unfold Builtin.Str.subAt;rw [beq_iff_eq,←Array.toList_inj,Array.toList_extract];have hl:y.length=(cl y).length:=by simp [Str.length,cl]
 rw [hl,List.extract_eq_take_drop,Nat.add_sub_cancel_left]
theorem zlz{z:Str}{i j:Nat}:Builtin.Str.strSub z i j=⟨(((cl z).drop i).take (j - i)).toArray⟩:=by
 apply zdQ;show(z.cps.extract i j).toList=_;rw [Array.toList_extract,List.extract_eq_take_drop]
noncomputable def fig (c:Nat):Bool:=decide (48≤c)&&decide (c≤57)
noncomputable def zeJ (w:List Nat):Bool:=w.all fig&&(w.length == 1 || (w.length == 2&& !(w.headD 0 == 48)))
noncomputable def zcp:List Nat→Bool
 |c::w=>c == 63&&zeJ w
 | []=>false
noncomputable def numL:List Nat→Nat
 | [a]=>a - 48
 | [a,b]=>10*(a - 48)+(b - 48)
 |_=>0
noncomputable def wrd (l:List Nat):List Nat:=l.takeWhile fun c=> !stp c
noncomputable def rst (l:List Nat):List Nat:=l.dropWhile fun c=> !stp c
noncomputable def rdL (f:List Nat→Option (Tr×List Nat)):Nat→List Nat→Option (List Tr×List Nat)
 |0,_=>none
 |k+1,l=>match f l with
  |none=>none
  |some (_,[])=>none
  |some (t,c::q)=>if c=44 then(rdL f k q).map fun z=>(t::z.1,z.2) else if c=41 then some ([t],q) else none
noncomputable def rdP (f:List Nat→Option (Tr×List Nat)):List Nat→Option (List Tr×List Nat)
 | []=>some ([],[])
 |c::q=>if c=40 then rdL f (q.length+1) q else some ([],c::q)
noncomputable def okW (b:Bool) (w:List Nat):Bool:=zdB w || (!b&&zbl w)
noncomputable def rdT (b:Bool):Nat→List Nat→Option (Tr×List Nat)
 |0,_=>none
 |n+1,l=>if(b&&zcp (wrd l))=true then some (.bl (numL ((wrd l).drop 1)),rst l)
  else if okW b (wrd l)=true then(rdP (rdT b n) (rst l)).map fun z=>(.nd ⟨(wrd l).toArray⟩ z.1,z.2) else none
theorem zeV (l:List Nat):l=wrd l++rst l:=(List.takeWhile_append_dropWhile ..).symm
theorem zoV{l:List Nat}:∀c∈wrd l,stp c=false:=fun c hc=>by
 have:=List.all_takeWhile (p:=fun c=> !stp c) (l:=l);have:=List.all_eq_true.mp this c hc;simpa using this
theorem zmu:∀{l:List Nat}{c:Nat}{q:List Nat},rst l=c::q→stp c=true
 | [],c,q,h=>by cases h
 |d::l,c,q,h=>by
  unfold rst at h;rw [List.dropWhile_cons]at h;split at h
  ·exact zmu (l:=l) h
  ·rename_i hd;cases h;simpa using hd
theorem zoI{b:Bool}{w:List Nat}(h:okW b w=true):w≠ []:=fun e=>by
 subst e;unfold okW zdB zbl at h;simp at h
theorem zit{w:List Nat}(h:zcp w=true):w≠ []:=fun e=>by subst e;cases h
theorem zgl{l:List Nat}(h:wrd l≠ []):(rst l).length<l.length:=by
 have:=congrArg List.length (zeV l);rw [List.length_append]at this;have:=List.length_pos_iff.mpr h;omega
theorem zjB{f:List Nat→Option (Tr×List Nat)}(hf:∀l t q,f l=some (t,q)→q.length<l.length):∀(k:Nat) {l:List Nat}{ts:List Tr}{q:List Nat},rdL f k l=some (ts,q)→q.length<l.length
 |0,l,ts,q,h=>by cases h
 |k+1,l,ts,q,h=>by
  rw [rdL]at h;split at h
  ·cases h
  ·cases h
  ·rename_i t c q' e;have h1:=hf _ _ _ e;rw [List.length_cons]at h1;split at h
   ·cases e2:rdL f k q' with
    |none=>rw [e2]at h;cases h
    |some z=>
     rw [e2]at h;have:=zjB hf k (ts:=z.1) (q:=z.2) e2;cases h;omega
   ·split at h
    ·cases h;omega
    ·cases h
theorem zrn{f:List Nat→Option (Tr×List Nat)}(hf:∀l t q,f l=some (t,q)→q.length<l.length) {l:List Nat}{ts:List Tr}{q:List Nat}(h:rdP f l=some (ts,q)):q.length≤l.length:=by
 unfold rdP at h;split at h
 ·cases h;omega
 ·split at h
  ·have:=zjB hf _ h;rw [List.length_cons];omega
  ·cases h;omega
theorem zfv{b:Bool}:∀(n:Nat) (l:List Nat) (t:Tr) (q:List Nat),rdT b n l=some (t,q)→q.length<l.length
 |0,l,t,q,h=>by cases h
 |n+1,l,t,q,h=>by
  rw [rdT]at h;split at h
  ·rename_i hb;cases h;rw [Bool.and_eq_true]at hb;exact zgl (zit hb.2)
  ·split at h
   ·rename_i hw;cases e:rdP (rdT b n) (rst l) with
    |none=>rw [e]at h;cases h
    |some z=>
     rw [e]at h;have:=zrn (zfv n) (ts:=z.1) (q:=z.2) e;have:=zgl (zoI hw);cases h;omega
   ·cases h
theorem zhy{w:List Nat}(h:zeJ w=true):numL w<100∧w=dg (numL w):=by
 unfold zeJ at h;rw [Bool.and_eq_true,Bool.or_eq_true,List.all_eq_true]at h;obtain⟨h1,h2⟩:=h
 match w,h1,h2 with
 | [],h1,h2=>simp at h2
 | [a],h1,h2=>
  have:=h1 a (by simp);unfold fig at this;simp at this;rw [show numL [a]=a - 48 from rfl];unfold dg;refine⟨by omega,?_⟩;rw [if_pos (by omega)];congr 1;omega
 | [a,b],h1,h2=>
  have ha:=h1 a (by simp);have hb:=h1 b (by simp);unfold fig at ha hb;simp at ha hb h2;rw [show numL [a,b]=10*(a - 48)+(b - 48) from rfl];unfold dg;refine⟨by omega,?_⟩;rw [if_neg (by omega)];congr 1
  ·omega
  ·congr 1;omega
 |a::b::c::w,h1,h2=>simp at h2
theorem zin{w:List Nat}(h:small w=true):∀c∈w,Low c:=fun c hc=>by
 unfold small at h;have:=List.all_eq_true.mp h c hc;unfold zec at this;unfold Low;simpa using this
theorem zmM{w:List Nat}(h:zdB w=true):zeQ ⟨w.toArray⟩:=by
 unfold zdB at h;simp only[Bool.and_eq_true,decide_eq_true_eq]at h;exact⟨h.1,h.2.1,zin h.2.2⟩
theorem zjs{w:List Nat}(h:zbl w=true):zeD ⟨w.toArray⟩:=by
 unfold zbl at h;simp only[Bool.and_eq_true,decide_eq_true_eq]at h;obtain⟨h1,h2,h3,h4,h5⟩:=h;cases w with
 |nil=>simp at h1
 |cons c w=>
  simp at h2 h3 h4 h5;exact⟨c,w,rfl,h3,h4,by omega,zin h5⟩
theorem znS{b:Bool}{w:List Nat}(h:okW b w=true):zeQ ⟨w.toArray⟩∨b=false∧zeD ⟨w.toArray⟩:=by
 unfold okW at h;rw [Bool.or_eq_true,Bool.and_eq_true]at h;rcases h with h |⟨h1,h2⟩
 ·exact .inl (zmM h)
 ·exact .inr ⟨by simpa using h1,zjs h2⟩
structure Rdd (b:Bool) (n:Nat) (l:List Nat) (t:Tr) (q:List Nat):Prop where
  tx:l=cl t.txt++q
  wr:Wrt b t
  dp:t.depth≤n
structure RddL (b:Bool) (n:Nat) (m:Str) (l:List Nat) (ts:List Tr) (q:List Nat):Prop where
  tx:cl m++l=cl (zkm m ts)++41::q
  ne:ts≠ []
  wr:∀t∈ts,Wrt b t
  dp:dts ts≤n
theorem zoz{b:Bool}{n:Nat}{f:List Nat→Option (Tr×List Nat)}(hf:∀l t q,f l=some (t,q)→Rdd b n l t q):∀(k:Nat) {m:Str}{l:List Nat}{ts:List Tr}{q:List Nat},rdL f k l=some (ts,q)→RddL b n m l ts q
 |0,m,l,ts,q,h=>by cases h
 |k+1,m,l,ts,q,h=>by
  rw [rdL]at h;split at h
  ·cases h
  ·cases h
  ·rename_i t c q' e;have h1:=hf _ _ _ e;split at h
   ·rename_i hc;subst hc;cases e2:rdL f k q' with
    |none=>rw [e2]at h;cases h
    |some z=>
     rw [e2]at h;have h2:=zoz hf k (m:=Str.ofString ",") (ts:=z.1) (q:=z.2) e2;cases h;refine⟨?_,List.cons_ne_nil _ _,fun u hu=>?_,?_⟩
     ·rw [zdS,zcF,zcF,h1.tx];have:=h2.tx;rw [show cl (Str.ofString ",")=[44] by rw [zro]]at this
      simp only[List.append_assoc];rw [←this];rfl
     ·rcases List.mem_cons.mp hu with rfl |hu
      ·exact h1.wr
      ·exact h2.wr u hu
     ·rw [zdz];have:=h1.dp;have:=h2.dp;omega
   ·split at h
    ·rename_i hc;subst hc;cases h;refine⟨?_,List.cons_ne_nil _ _,fun u hu=>?_,?_⟩
     ·rw [zdS,zfI,zcF,zcF,h1.tx,show cl Str.empty=[] from rfl];simp
     ·rw [List.mem_singleton]at hu;subst hu;exact h1.wr
     ·rw [zdz,zfq];have:=h1.dp;omega
    ·cases h
theorem zjy{b:Bool}:∀(n:Nat) (l:List Nat) (t:Tr) (q:List Nat),rdT b n l=some (t,q)→Rdd b n l t q
 |0,l,t,q,h=>by cases h
 |n+1,l,t,q,h=>by
  rw [rdT]at h;split at h
  ·rename_i hb;cases h;rw [Bool.and_eq_true]at hb;obtain⟨hb,hw⟩:=hb;cases e:wrd l with
   |nil=>rw [e]at hw;cases hw
   |cons c w=>
    rw [e]at hw;unfold zcp at hw;rw [Bool.and_eq_true]at hw;obtain⟨hc,hs⟩:=hw;have hc:c=63:=by simpa using hc
    subst hc;obtain⟨h1,h2⟩:=zhy hs;refine⟨?_, .bl hb (by omega) (by simp;omega),by simp [Tr.depth]⟩
    rw [zjJ,zcF,zpY,List.drop_one,List.tail_cons,zoD _ h1,←h2]
    conv=>lhs;rw [zeV l,e]
    rfl
  ·split at h
   ·rename_i hw;cases e:rdP (rdT b n) (rst l) with
    |none=>rw [e]at h;cases h
    |some z=>
     obtain⟨ts,q'⟩:=z;rw [e]at h;cases h;have el:=zeV l;have ew:cl (⟨(wrd l).toArray⟩:Str)=wrd l:=rfl;unfold rdP at e;split at e
     ·rename_i er;cases e;rw [er]at el;exact⟨by rw [zfR,ew];exact el, .nd (znS hw) (fun t ht=>by cases ht),by rw [Tr.depth,zfq];omega⟩
     ·rename_i c q0 er;split at e
      ·rename_i hc;subst hc;have h2:=zoz (zjy n) _ (m:=Str.ofString "(") e;have h3:=h2.tx;rw [show cl (Str.ofString "(")=[40] by rw [zpg]]at h3
       refine⟨?_, .nd (znS hw) h2.wr,?_⟩
       ·rw [ziv h2.ne,zcF,zcF,ew,show cl (Str.ofString ")")=[41] by rw [zqO]]
        conv=>lhs;rw [el,er]
        simp only[List.append_assoc];rw [show(40::q0)=[40]++q0 from rfl,h3];rfl
       ·rw [Tr.depth];have:=h2.dp;dsimp only;omega
      ·cases e;rw [er]at el;exact⟨by rw [zfR,ew];exact el, .nd (znS hw) (fun t ht=>by cases ht),by rw [Tr.depth,zfq];omega⟩
   ·cases h
noncomputable def isW (b:Bool) (w:List Nat):Bool:=zdB w || (if b then zcp w else zbl w)
noncomputable def scn (b:Bool):Nat→Bool→Nat→Nat→List Nat→Bool
 |0,_,_,_,_=>false
 |_+1,fr,o,h,[]=> !fr&&(o == 0&&decide (h≤400))
 |k+1,true,o,h,c::l=>if(!isW b (wrd (c::l)) || decide (39<o))=true then false
  else match rst (c::l) with
   | []=>scn b k false o (h+1) []
   |d::q=>if d=40 then(if(wrd (c::l)).headD 0=63 then false else scn b k true (o+1) (h+1) q) else scn b k false o (h+1) (d::q)
 |k+1,false,o,h,c::l=>if(o == 0 || (c == 40 || !stp c))=true then false else scn b k (c == 44) (if c=41 then o - 1 else o) h l
theorem zkd{b:Bool}{w:List Nat}(h:isW b w=true):w≠ []:=fun e=>by
 subst e;unfold isW zdB zbl zcp at h;cases b<;>simp at h
theorem zbt{b:Bool}:∀(k j:Nat) (fr:Bool) (o h:Nat) (l:List Nat),l.length<k→l.length<j→scn b k fr o h l=scn b j fr o h l
 |0,_,_,_,_,_,h1,_=>by omega
 |_,0,_,_,_,_,_,h1=>by omega
 |k+1,j+1,fr,o,h,[],_,_=>by cases fr<;>rfl
 |k+1,j+1,false,o,h,c::l,h1,h2=>by
  rw [scn,scn];rw [List.length_cons]at h1 h2;rw [zbt k j _ _ _ l (by omega) (by omega)]
 |k+1,j+1,true,o,h,c::l,h1,h2=>by
  rw [scn,scn];split
  ·rfl
  ·rename_i hw;have hw:isW b (wrd (c::l))=true:=by
    cases e:isW b (wrd (c::l)) with
    |true=>rfl
    |false=>rw [e]at hw;simp at hw
   have hl:=zgl (zkd hw);cases e:rst (c::l) with
   |nil=>
    rw [List.length_cons]at h1 h2;exact zbt k j _ _ _ [] (by simp;omega) (by simp;omega)
   |cons d q=>
    rw [e]at hl;rw [List.length_cons]at h1 h2 hl;rw [List.length_cons]at hl;dsimp only;rw [zbt k j _ _ _ q (by omega) (by omega),zbt k j false _ _ (d::q) (by rw [List.length_cons];omega) (by rw [List.length_cons];omega)]
theorem zmP{b:Bool}:∀n,rdT b n []=none
 |0=>rfl
 |n+1=>by
  rw [rdT];have e:wrd []=[]:=rfl;rw [e,show zcp []=false from rfl,Bool.and_false,if_neg (by simp),if_neg (by unfold okW zdB zbl;simp)]
theorem zjX{b:Bool}{n:Nat}(hn:n≤39) (hT:∀(h:Nat) (l:List Nat) (k:Nat),l.length<k→scn b k true (40 - n) h l=match rdT b n l with
   |none=>false
   |some (t,q)=>scn b k false (40 - n) (h+t.weight) q):∀(j:Nat) (h:Nat) (l:List Nat) (k:Nat),l.length<k→l.length<j→scn b k true (40 - n) h l=match rdL (rdT b n) j l with
   |none=>false
   |some (ts,q)=>scn b k false (40 - (n+1)) (h+wts ts) q
 |0,h,l,k,hk,hj=>by omega
 |j+1,h,l,k,hk,hj=>by
  rw [hT h l k hk,rdL];cases e:rdT b n l with
  |none=>rfl
  |some z=>
   obtain⟨t,q⟩:=z;have hlt:=zfv n _ _ _ e;obtain⟨k,rfl⟩:∃k',k=k'+1:=⟨k - 1,by omega⟩
   cases q with
   |nil=>
    dsimp only;rw [scn];have:(40 - n == 0)=false:=by simp;omega
    rw [this];rfl
   |cons c q=>
    rw [List.length_cons]at hlt;dsimp only;rw [scn];have h0:(40 - n == 0)=false:=by simp;omega
    rw [h0,Bool.false_or];by_cases h44:c=44
    ·subst h44;rw [if_neg (by decide),if_pos rfl];have:(if(44:Nat)=41 then 40 - n - 1 else 40 - n)=40 - n:=if_neg (by decide);rw [this,show((44:Nat) == 44)=true from rfl,zjX hn hT j (h+t.weight) q k (by omega) (by omega)];cases e2:rdL (rdT b n) j q with
     |none=>rfl
     |some z2=>
      obtain⟨ts,q2⟩:=z2;have:=zjB (zfv n) _ e2;dsimp only[Option.map];rw [zaI,←Nat.add_assoc];exact zbt _ _ _ _ _ _ (by omega) (by omega)
    ·rw [if_neg h44];by_cases h41:c=41
     ·subst h41;rw [if_neg (by decide),if_pos rfl,if_pos rfl];dsimp only;rw [zaI,zck,Nat.add_zero,show 40 - n - 1=40 - (n+1) by omega]
      exact zbt _ _ _ _ _ _ (by omega) (by omega)
     ·rw [if_neg h41];by_cases h40:c=40
      ·subst h40;rfl
      ·have:stp c=false:=by unfold stp;simp;exact⟨⟨h40,h44⟩,h41⟩
       rw [this,if_neg h41];simp
theorem zhG{b:Bool}:∀(n:Nat),n≤40→ ∀(h:Nat) (l:List Nat) (k:Nat),l.length<k→scn b k true (40 - n) h l=match rdT b n l with
   |none=>false
   |some (t,q)=>scn b k false (40 - n) (h+t.weight) q
 |n,hn,h,[],k,hk=>by
  rw [zmP];obtain⟨k,rfl⟩:∃k',k=k'+1:=⟨k - 1,by omega⟩
  rfl
 |0,hn,h,c::l,k,hk=>by
  obtain⟨k,rfl⟩:∃k',k=k'+1:=⟨k - 1,by omega⟩
  rw [scn,if_pos (by simp),rdT]
 |n+1,hn,h,c::l,k,hk=>by
  obtain⟨k,rfl⟩:∃k',k=k'+1:=⟨k - 1,by omega⟩
  have hd:decide (39<40 - (n+1))=false:=decide_eq_false (by omega);rw [scn,rdT,hd,Bool.or_false];by_cases hb:(b&&zcp (wrd (c::l)))=true
  ·rw [if_pos hb];rw [Bool.and_eq_true]at hb;obtain⟨rfl,hb⟩:=hb;have hne:=zit hb;have hlt:=zgl hne;have hw:isW true (wrd (c::l))=true:=by unfold isW;rw [hb];simp
   rw [hw,if_neg (by simp)];have h63:(wrd (c::l)).headD 0=63:=by
    cases e:wrd (c::l) with
    |nil=>exact absurd e hne
    |cons d w=>
     rw [e]at hb;unfold zcp at hb;rw [Bool.and_eq_true]at hb;simpa using hb.1
   cases e:rst (c::l) with
   |nil=>
    dsimp only;rw [Tr.weight];exact zbt _ _ _ _ _ _ (by simp;rw [List.length_cons]at hk;omega) (by simp)
   |cons d q=>
    rw [e]at hlt;dsimp only;rw [Tr.weight];by_cases h40:d=40
    ·subst h40;rw [if_pos rfl,if_pos h63,scn];have:((40 - (n+1) == 0) || ((40:Nat) == 40 || !stp 40))=true:=by simp
     rw [if_pos this]
    ·rw [if_neg h40];exact zbt _ _ _ _ _ _ (by omega) (by omega)
  ·rw [if_neg hb];have hb:(b&&zcp (wrd (c::l)))=false:=by simpa using hb
   have hwo:isW b (wrd (c::l))=okW b (wrd (c::l)):=by
    unfold isW okW;cases b with
    |true=>
     rw [Bool.true_and]at hb;rw [if_pos rfl,hb];simp
    |false=>simp
   rw [hwo];cases hw:okW b (wrd (c::l)) with
   |false=>rfl
   |true=>
    have hne:=zoI hw;have hlt:=zgl hne;have h63:(wrd (c::l)).headD 0≠63:=fun z=>by
     have e:=znS hw;cases e':wrd (c::l) with
     |nil=>exact hne e'
     |cons d w=>
      rw [e']at z;have z:d=63:=z;subst z;rw [e']at e;rcases e with⟨_,_,e⟩ |⟨_,c',r',e1,e2,e3,_⟩
      ·have:=e 63 (by simp);unfold Low at this;omega
      ·simp at e1;omega
    rw [if_neg (by simp),if_pos rfl];cases e:rst (c::l) with
    |nil=>
     rw [rdP];dsimp only[Option.map];rw [Tr.weight,zck];exact zbt _ _ _ _ _ _ (by simp;rw [List.length_cons]at hk;omega) (by simp)
    |cons d q=>
     rw [e,List.length_cons]at hlt;rw [rdP];dsimp only;by_cases h40:d=40
     ·subst h40;rw [if_pos rfl,if_neg h63,if_pos rfl];have e1:40 - (n+1)+1=40 - n:=by omega
      rw [e1,zjX (by omega) (fun h l k hk=>zhG n (by omega) h l k hk) (q.length+1) (h+1) q k (by omega) (by omega)];cases e2:rdL (rdT b n) (q.length+1) q with
      |none=>rfl
      |some z=>
       obtain⟨ts,q2⟩:=z;have:=zjB (zfv n) _ e2;dsimp only[Option.map];rw [Tr.weight,←Nat.add_assoc];exact zbt _ _ _ _ _ _ (by omega) (by omega)
     ·rw [if_neg h40,if_neg h40];dsimp only[Option.map];rw [Tr.weight,zck];exact zbt _ _ _ _ _ _ (by rw [List.length_cons];omega) (by rw [List.length_cons];omega)
noncomputable def rdA (b:Bool) (l:List Nat):Option Tr:=match rdT b 40 l with
 |some (t,[])=>if t.weight≤400 then some t else none
 |_=>none
theorem zpF{b:Bool}{l:List Nat}{k:Nat}(hk:l.length<k):scn b k true 0 0 l=(rdA b l).isSome:=by
 have:=zhG (b:=b) 40 (by omega) 0 l k hk;rw [show 40 - 40=0 from rfl]at this;rw [this,rdA];cases e:rdT b 40 l with
 |none=>rfl
 |some z=>
  obtain⟨t,q⟩:=z;obtain⟨k,rfl⟩:∃k',k=k'+1:=⟨k - 1,by omega⟩
  cases q with
  |nil=>
   dsimp only;rw [scn,Nat.zero_add];by_cases h4:t.weight≤400
   ·rw [if_pos h4,decide_eq_true h4];rfl
   ·rw [if_neg h4,decide_eq_false h4];rfl
  |cons c q=>
   dsimp only;rw [scn,if_pos (by simp)];rfl
theorem zhx{b:Bool}{l:List Nat}{t:Tr}(h:rdA b l=some t):l=cl t.txt∧Wrt b t∧t.weight≤400∧t.depth≤40:=by
 unfold rdA at h;split at h
 ·rename_i t' e;split at h
  ·cases h;have:=zjy _ _ _ _ e;have h1:=this.tx;rw [List.append_nil]at h1;exact⟨h1,this.wr,by assumption,this.dp⟩
  ·cases h
 ·cases h
section
variable {S:Sto}{Q:WK}{E:Str→Sto→Prop}{a:Addr}{x:Str}{b:Bool}{r:Nat}
theorem zfw:x.length=(cl x).length:=by simp [Str.length,cl]
theorem zjL (hx:x.length≤100000) (h:Q (.bl (zdB (cl x))) S):zdh (r+2) [.str x] S Q E:=by
 by_cases hb:x.length≤1000
 ·exact zpw hb h
 ·have hl:x.length=(cl x).length:=zfw;rw [zdh];walk_at "wp";refine⟨zaf (by omega),?_⟩;have e1:decide ((1:Int)≤(x.length:Int))=true:=decide_eq_true (by omega);have e2:decide ((x.length:Int)≤8)=false:=decide_eq_false (by omega);have e3:¬(cl x).length≤8:=by omega
  rw [e1,e2];unfold zdB at h;rw [decide_eq_false e3,Bool.false_and,Bool.and_false]at h;exact⟨_, .refl,h⟩
theorem zgf (hx:x.length≤100000) (h:Q (.bl (zbl (cl x))) S):zcc (r+2) [.str x] S Q E:=by
 by_cases hb:x.length≤1000
 ·exact znV hb h
 ·have hl:x.length=(cl x).length:=zfw;rw [zcc];walk_at "wp";refine⟨zaf (by omega),?_⟩;have e1:decide ((1:Int)≤(x.length:Int))=true:=decide_eq_true (by omega);have e2:decide ((x.length:Int)≤8)=false:=decide_eq_false (by omega);have e3:¬(cl x).length≤8:=by omega
  rw [e1,e2];unfold zbl at h;rw [decide_eq_false e3,Bool.false_and,Bool.and_false]at h;exact⟨_, .refl,h⟩
theorem zlw (hx:x.length≤100000) (h:Q (.bl (zeJ (cl x))) S):zbb (r+1) [.str x] S Q E:=by
 have hl:x.length=(cl x).length:=zfw;have hcl:([]:List W).length+x.cps.toList.length≤1000000:=by
  rw [List.length_nil];show 0+(cl x).length≤_;omega
 rw [zbb];walk_at "wp";unfold zfB;refine zei (fun σ=>∃x,σ=[x]) (fun c=> .str ⟨#[c]⟩) (fun c=> .bl (fig c)) ?_ x.cps.toList [] _ ⟨none,rfl⟩ hcl (fun c hc σ R hI hR=>?_) ?_
 ·exact trivial
 ·obtain⟨y,rfl⟩:=hI;simp only[zdf];walk_at "wp";rw [zjk zqY,zjc zsO];unfold fig at hR;cases e:decide (48≤c) with
  |true=>rw [e]at hR;exact hR _ _ ⟨_,rfl⟩ .refl
  |false=>rw [e]at hR;exact hR _ _ ⟨_,rfl⟩ .refl
 ·have e1:x.cps.toList.map (fun c=>W.bl (fig c))=(x.cps.toList.map fig).map W.bl:=by rw [List.map_map];rfl
  rw [List.nil_append,e1,zfc];dsimp only;rw [zeY];have hll:x.length≤sizeLine:=zaf (by omega);unfold zeJ at h;cases e2:(cl x).all fig with
  |false=>
   rw [e2,Bool.false_and]at h;simp only[Bool.not_false,if_true];exact⟨_, .refl,h⟩
  |true=>
   rw [e2,Bool.true_and]at h;simp only[Bool.not_true,Bool.false_eq_true,if_false];refine⟨hll,?_⟩;by_cases h1:(cl x).length=1
   ·have el:((x.length:Int) == 1)=true:=by rw [hl,h1];rfl
    rw [el];rw [h1]at h;exact⟨_, .refl,h⟩
   ·have el:((x.length:Int) == 1)=false:=by rw [beq_eq_false_iff_ne];omega
    rw [el];have e3:((cl x).length == 1)=false:=by rw [beq_eq_false_iff_ne];exact h1
    rw [e3,Bool.false_or]at h;refine⟨hll,?_⟩;by_cases h2:(cl x).length=2
    ·have el2:((x.length:Int) == 2)=true:=by rw [hl,h2];rfl
     rw [el2];obtain⟨c,d,e⟩:∃c d,cl x=[c,d]:=by
      match cl x,h2 with
      | [c,d],_=>exact⟨c,d,rfl⟩
     refine⟨hll,?_⟩;rw [show x.cps.toList=[c,d] from e,zbX];show ∃S'',Sub S'' S∧Q (W.bl !((⟨#[c]⟩:Str) == Str.ofString "0")) S'';rw [zsV,zdR];rw [e]at h;exact⟨_, .refl,h⟩
    ·have el2:((x.length:Int) == 2)=false:=by rw [beq_eq_false_iff_ne];omega
     have e4:((cl x).length == 2)=false:=by rw [beq_eq_false_iff_ne];exact h2
     rw [el2];rw [e4,Bool.false_and]at h;exact⟨_, .refl,h⟩
theorem zmr (hx:x.length≤100000) (h:Q (.bl (zcp (cl x))) S):zbz (r+2) [.str x] S Q E:=by
 have hl:x.length=(cl x).length:=zfw;rw [zbz];walk_at "wp";refine⟨zaf (by omega),?_⟩;cases e:cl x with
 |nil=>
  rw [e]at h;have e1:Txt.slice x none (some 1)=⟨#[]⟩:=by
   apply zdQ;rw [cl,zba];unfold ziD;rw [show x.cps.toList=[] from e];simp
  rw [e1,zpY,zgc];exact⟨_, .refl,h⟩
 |cons c w=>
  rw [e]at h;rw [zoP e,zpY,zdR];rw [show zcp (c::w)=(c == 63&&zeJ w) from rfl]at h;cases e1:(c == 63) with
  |false=>
   rw [e1,Bool.false_and]at h;exact⟨_, .refl,h⟩
  |true=>
   rw [e1,Bool.true_and]at h;rw [ziX e];refine⟨zaf (by omega),zlw ?_ ⟨_, .refl,h⟩⟩;rw [hl,e,List.length_cons]at hx;show w.toArray.size≤_;rw [List.size_toArray];omega
noncomputable def RdX (b:Bool) (n:Nat) (c:WSp):Prop:=∀{S:Sto}{Q:WK}{E:Str→Sto→Prop}{a:Addr}{x:Str}{p l:List Nat},S a=some (rd x b p.length)→cl x=p++l→x.length≤100000→
 (∀t q p',rdT b n l=some (t,q)→cl x=p'++q→Q (enc t) (put S a (rd x b (p'.length:Nat))))→
 (rdT b n l=none→ ∀(m:Int) S',Sub (put S a (rd x b m)) S'→E "NoText" S')→c [.ref a, .int n] S Q E
theorem zjP{f:List Nat→Option (Tr×List Nat)}(hf:∀l t q,f l=some (t,q)→q.length<l.length):∀(k j:Nat) (l:List Nat),l.length<k→l.length<j→rdL f k l=rdL f j l
 |0,_,_,h,_=>by omega
 |_,0,_,_,h=>by omega
 |k+1,j+1,l,h1,h2=>by
  rw [rdL,rdL];cases e:f l with
  |none=>rfl
  |some z=>
   obtain⟨t,q⟩:=z;have:=hf _ _ _ e;cases q with
   |nil=>rfl
   |cons c q=>
    rw [List.length_cons]at this;dsimp only;rw [zjP hf k j q (by omega) (by omega)]
noncomputable def nxt (b:Bool) (n:Nat) (ts:List Tr):List Nat→Option (List Tr×List Nat)
 | []=>none
 |c::l=>if ts=[]∨c=44 then(rdL (rdT b n) (l.length+1) l).map fun z=>(ts++z.1,z.2) else if c=41 then some (ts,l) else none
theorem zmV{n:Nat}{ts:List Tr}{c:Nat}{l:List Nat}(h:ts=[]∨c=44) {t:Tr}{q:List Nat}(e:rdT b n l=some (t,q)):nxt b n ts (c::l)=nxt b n (ts++[t]) q:=by
 have hlt:=zfv n _ _ _ e;rw [nxt,if_pos h,rdL,e];cases q with
 |nil=>rfl
 |cons d q=>
  rw [List.length_cons]at hlt;rw [nxt];dsimp only;by_cases h1:d=44
  ·rw [if_pos h1,if_pos (Or.inr h1),zjP (zfv n) l.length (q.length+1) q (by omega) (by omega)];cases rdL (rdT b n) (q.length+1) q with
   |none=>rfl
   |some z=>simp
  ·rw [if_neg h1,if_neg (show ¬(ts++[t]=[]∨d=44) by simp [h1])]
   by_cases h2:d=41
   ·rw [if_pos h2,if_pos h2];rfl
   ·rw [if_neg h2,if_neg h2];rfl
theorem znF{n:Nat}{ts:List Tr}{c:Nat}{l:List Nat}(h:ts=[]∨c=44) (e:rdT b n l=none):nxt b n ts (c::l)=none:=by
 rw [nxt,if_pos h,rdL,e];rfl
theorem zuC{cT:WSp}{n:Nat}{p l:List Nat}{ts1:List Tr}{f:Addr}{c:Nat}{EX:WX}{D:WEnds}(hT:RdX b n cT) (hf:a≠f) (e:cl x=p++c::l) (hx:x.length≤100000) (hl:ts1.length≤100000)
  (h:∀t q p',rdT b n l=some (t,q)→cl x=p'++q→D.nx [some (.ref a),some (.int n),some (.ref f)] (put (put S a (rd x b (p'.length:Nat))) f (.lst (zbx (ts1++[t])))))
  (hE:rdT b n l=none→ ∀(m:Int) S',Sub (put (put S a (rd x b m)) f (.lst (zbx ts1))) S'→EX "NoText" [some (.ref a),some (.int n),some (.ref f)] S') :
  zaQ r cT EX D [some (.ref a),some (.int n),some (.ref f)] (put (put S a (rd x b (p.length:Nat))) f (.lst (zbx ts1))):=by
 have ea:∀n:Int,put (put S a (rd x b n)) f (Ob.lst (zbx ts1)) a=some (rd x b n):=fun n=>by rw [zbN hf,zaj]
 rw [zaQ];walk_at "wp";simp only[zce (ea _),ziG];refine⟨by show 3<1000;decide,?_⟩;rw [zpp,show Ob.ins (Str.ofString "Reader") (rf x b ((p.length:Int)+1))=rd x b ((p.length:Int)+1) from rfl,zjD hf];have e1:((p.length:Int)+1)=(((p++[c]).length:Nat):Int):=by simp
 rw [e1];rw [zas zaj,zce (ea _)];refine⟨trivial,zjE,hT (l:=l) (ea _) (by rw [e];simp) hx (fun t q p' e2 e3=>?_) fun e2 m S' hs=>?_⟩
 ·rw [zjD hf,zas zaj,zcO];have e4:zbx ts1++[enc t]=zbx (ts1++[t]):=by rw [zaD,zaD,List.map_append];rfl
  rw [e4];exact⟨zfO (by rw [zaH];omega),h t q p' e2 e3⟩
 ·rw [zjD hf]at hs;exact hE e2 m S' hs
theorem zmJ{cT:WSp}{n:Nat}{p l:List Nat}(hT:RdX b n cT) (ha:S a=some (rd x b p.length)) (e:cl x=p++l) (hx:x.length≤100000) (h:∀ts q p',rdP (rdT b n) l=some (ts,q)→cl x=p'++q→Q (.tup (zbx ts)) (put S a (rd x b (p'.length:Nat))))
  (hE:rdP (rdT b n) l=none→ ∀(m:Int) S',Sub (put S a (rd x b m)) S'→E "NoText" S'):zaw cT (r+2) [.ref a, .int n] S Q E:=by
 have e60:∀(S:Sto) (u v:Str),eqF S 60 (.str u) (.str v)=some (u == v):=fun _ _ _=>rfl;have hxl:x.length=(cl x).length:=zfw;by_cases h40:∃l',l=40::l'
 ·obtain⟨l0,rfl⟩:=h40;rw [rdP]at h hE;rw [if_pos rfl]at h hE;rw [zaw];walk_at "wp";rw [zce ha];refine⟨zfk,zfs ha e hx ?_⟩;rw [e60,hdS,zpg,beq_self_eq_true];refine⟨Nat.zero_le _,fun f hf0=>?_⟩;have hf:a≠f:=by rintro rfl;rw [ha]at hf0;cases hf0
  have ea:∀(n:Int) (L:List W),put (put S a (rd x b n)) f (Ob.lst L) a=some (rd x b n):=fun n L=>by rw [zbN hf,zaj]
  have hfa:∀o,put S a o f=none:=fun o=>by rw [zbN (Ne.symm hf)];exact hf0
  have hn0:nxt b n [] (40::l0)=rdL (rdT b n) (l0.length+1) l0:=by
   rw [nxt,if_pos (.inl rfl)];cases rdL (rdT b n) (l0.length+1) l0 with
   |none=>rfl
   |some z=>rfl
  rw [←hn0]at h hE;refine⟨fun m σ S'=>σ=[some (.ref a),some (.int n),some (.ref f)]∧ ∃ts1 p1 l1,cl x=p1++l1∧ts1.length≤p1.length∧nxt b n ts1 l1=nxt b n [] (40::l0)∧(ts1=[]→l1=40::l0)∧m=l1.length∧S'=put (put S a (rd x b (p1.length:Nat))) f (.lst (zbx ts1)),⟨_,rfl,[],p,40::l0,e,Nat.zero_le _,rfl,fun _=>rfl,rfl,?_⟩,?_⟩
  ·rw [zgu ha];rfl
  ·rintro m σ S' ⟨rfl,ts1,p1,l1,e1,hlen,hnx,hnil,rfl,rfl⟩;have hp1:p1.length≤x.length:=by rw [hxl,e1,List.length_append];omega
   have go:∀(c:Nat) (l2:List Nat),l1=c::l2→(ts1=[]∨c=44)→ ∀(D:WEnds),(∀S',(∃m' S'',m'<l1.length∧Sub S'' S'∧([some (W.ref a),some (.int n),some (.ref f)]:WSt)=[some (.ref a),some (.int n),some (.ref f)]∧ ∃ts1 p1 l1,cl x=p1++l1∧ts1.length≤p1.length∧nxt b n ts1 l1=nxt b n [] (40::l0)∧(ts1=[]→l1=40::l0)∧m'=l1.length∧S''=put (put S a (rd x b (p1.length:Nat))) f (.lst (zbx ts1)))→D.nx [some (.ref a),some (.int n),some (.ref f)] S')→
     zaQ (r+1) cT (fun c x S'=>E c S') D [some (.ref a),some (.int n),some (.ref f)] (put (put S a (rd x b (p1.length:Nat))) f (.lst (zbx ts1))):=fun c l2 el hc D hD=>by
    subst el;refine zuC hT hf e1 hx (by omega) (fun t q p' e2 e3=>hD _ ⟨q.length,_,?_, .refl,rfl,ts1++[t],p',q,e3,?_,?_,fun z=>by simp at z,rfl,rfl⟩) fun e2 m S' hs=>?_
    ·have:=zfv n _ _ _ e2;rw [List.length_cons];omega
    ·have h1:=zfv n _ _ _ e2;have h2:=congrArg List.length e1;have h3:=congrArg List.length e3;rw [List.length_append,List.length_cons]at h2;rw [List.length_append]at h3;rw [List.length_append,List.length_singleton];omega
    ·rw [←hnx,zmV hc e2]
    ·refine hE (by rw [←hnx,znF hc e2]) m S' (.trans ?_ hs);exact .put .refl (hfa _)
   walk_at "wp";cases ts1 with
   |nil=>
    have e3:(!!(zbx ([]:List Tr)).isEmpty)=true:=rfl;rw [if_pos e3];exact go 40 l0 (hnil rfl) (.inl rfl) _ fun S' z=>z
   |cons u us=>
    have e3:¬(!!(zbx (u::us)).isEmpty)=true:=by simp [zbx]
    rw [if_neg e3,zce (ea _ _)];refine⟨zfk,zfs (ea _ _) e1 hx ?_⟩;rw [e60,zro];have fin:∀l2,l1=41::l2→(∀(D:WK),True)→nxt b n [] (40::l0)=some (u::us,l2):=fun l2 el _=>by
     subst el;rw [←hnx,nxt,if_neg (by simp),if_pos rfl]
    cases l1 with
    |nil=>
     rw [hdS,show(Str.empty:Str)=⟨#[]⟩ from rfl,zgc];simp only[Bool.false_eq_true,if_false];rw [zce (ea _ _)];refine⟨zfk,zfs (ea _ _) e1 hx ?_⟩;rw [e60,hdS,zqO,show(Str.empty:Str)=⟨#[]⟩ from rfl,zgc];simp only[Bool.not_false,if_true];rw [zbh];walk_at "wp";exact⟨zaf (by decide),hE (by rw [←hnx];rfl) _ _ (.put .refl (hfa _))⟩
    |cons c l2=>
     rw [hdS,zdR];by_cases h44:c=44
     ·subst h44;rw [beq_self_eq_true];dsimp only;rw [if_pos rfl];exact go 44 l2 rfl (.inr rfl) _ fun S' z=>z
     ·rw [beq_eq_false_iff_ne.mpr h44];simp only[Bool.false_eq_true,if_false];rw [zce (ea _ _)];refine⟨zfk,zfs (ea _ _) e1 hx ?_⟩;rw [e60,hdS,zqO,zdR];by_cases h41:c=41
      ·subst h41;rw [beq_self_eq_true];dsimp only;simp only[Bool.not_true,Bool.false_eq_true,if_false];simp only[zce (ea _ _),ziG];refine⟨by show 3<1000;decide,?_⟩;rw [zpp,show Ob.ins (Str.ofString "Reader") (rf x b (((p1.length:Nat):Int)+1))=rd x b (((p1.length:Nat):Int)+1) from rfl,zjD hf,zas zaj];have e5:((p1.length:Nat):Int)+1=(((p1++[41]).length:Nat):Int):=by simp
       rw [e5];refine⟨_, .put .refl (hfa _),h (u::us) l2 (p1++[41]) (fin l2 rfl fun _=>trivial) (by rw [e1];simp)⟩
      ·rw [beq_eq_false_iff_ne.mpr h41];simp only[Bool.not_false,if_true];rw [zbh];walk_at "wp";refine⟨zaf (by decide),hE ?_ _ _ (.put .refl (hfa _))⟩;rw [←hnx,nxt,if_neg (by simp [h44]),if_neg h41]
 ·have hp:rdP (rdT b n) l=some ([],l):=by
   cases l with
   |nil=>rfl
   |cons c l=>rw [rdP,if_neg fun z=>h40 ⟨l,by rw [z]⟩]
  rw [zaw];walk_at "wp";rw [zce ha];refine⟨zfk,zfs ha e hx ?_⟩;have hh:(hdS l == Str.ofString "(")=false:=by
   rw [zpg];cases l with
   |nil=>exact zgc 40
   |cons c q'=>
    rw [hdS,zdR,beq_eq_false_iff_ne];exact fun z=>h40 ⟨q',by rw [z]⟩
  rw [e60,hh];have:=h [] l p hp e;rw [zgu ha]at this;exact⟨Nat.zero_le _,_, .refl,this⟩
theorem znt:RdX b 0 (zap (r+2)):=fun {S Q E a x p l} ha e hx h hE=>by
 rw [zap];walk_at "wp";rw [show((((0:Nat):Int)) == 0)=true from rfl];simp only[if_true];rw [zbh];walk_at "wp";have:=hE rfl p.length S (by rw [zgu ha];exact .refl);exact⟨zaf (by decide),this⟩
theorem znz{n:Nat}(ih:RdX b n (zap (r+2))):RdX b (n+1) (zap (r+4)):=fun {S Q E a x p l} ha e hx h hE=>by
 have hxl:x.length=(cl x).length:=zfw;have ew:=zeV l;have e1:cl x=p++wrd l++rst l:=by rw [e,List.append_assoc,←zeV]
 have hwl:(⟨(wrd l).toArray⟩:Str).length≤100000:=by
  have:=congrArg List.length e1;simp only[List.length_append]at this;show(wrd l).toArray.size≤_;rw [List.size_toArray];omega
 have ecw:cl (⟨(wrd l).toArray⟩:Str)=wrd l:=rfl;rw [rdT]at h hE;rw [zap];walk_at "wp";have e0:((((n+1:Nat):Int)) == 0)=false:=by rw [beq_eq_false_iff_ne];omega
 rw [e0];simp only[Bool.false_eq_true,if_false];rw [zce ha];refine⟨zpm,zqn (w:=wrd l) (q:=rst l) ha e1 hx zoV (fun c q' z=>zmu z) ?_⟩;have fin:(b&&zcp (wrd l))=false→okW b (wrd l)=true→ ∀G:Sto→Prop,ziC (put S a (rd x b ((p++wrd l).length:Nat))) (Str.ofString "Reader") a (fun fs=>List.lookup (Str.ofString "read_parts") fs=none∧zaw (zap (r+2)) (r+2+1) [.ref a, .int (((n+1:Nat):Int) - 1)] (put S a (rd x b ((p++wrd l).length:Nat))) (fun w S'=>zbw (.tup [.str ⟨(wrd l).toArray⟩]) w S' fun w S'=>∃S'',Sub S'' S'∧Q w S'') fun cl' S3=>E cl' S3):=fun hb hw _=>by
  rw [if_neg (by simp [hb]),if_pos hw]at h hE;rw [zce zaj,show(((n+1:Nat):Int) - 1)=(n:Int) by omega]
  refine⟨znR,zmJ (p:=p++wrd l) (l:=rst l) ih zaj e1 hx (fun ts q p' e2 e3=>?_) fun e2 m S' hs=>?_⟩
  ·rw [zcO];walk_at "wp";have es:W.tup (.str ⟨(wrd l).toArray⟩::zbx ts)=enc (.nd ⟨(wrd l).toArray⟩ ts):=by simp [enc]
   rw [es];have hr:=h _ q p' (by rw [e2];rfl) e3;refine⟨zaf ?_,_, .refl,hr⟩;have hd:=zjy (b:=b) (n+1) l (.nd ⟨(wrd l).toArray⟩ ts) q (by rw [rdT,if_neg (by simp [hb]),if_pos hw,e2];rfl);have h1:=congrArg List.length hd.tx;have h2:=congrArg List.length e;rw [List.length_append]at h1 h2;have h3:ts.length≤(cl (Tr.nd ⟨(wrd l).toArray⟩ ts).txt).length:=by
    by_cases hts:ts=[]
    ·rw [hts];simp
    ·rw [ziv hts,zcF,zcF,List.length_append,List.length_append];have:∀(ts:List Tr) (m:Str),1≤(cl m).length→ts.length≤(cl (zkm m ts)).length:=fun ts=>by
      induction ts with
      |nil=>intro m _;simp
      |cons t ts ih=>
       intro m hm;rw [zdS,zcF,zcF,List.length_append,List.length_append,List.length_cons];have:=ih (Str.ofString ",") (by rw [zro];decide);omega
     have:=this ts (Str.ofString "(") (by rw [zpg];decide);omega
   rw [zaH];omega
  ·rw [zcO]at hs;exact hE (by rw [e2];rfl) m S' hs
 have bad:(b&&zcp (wrd l))=false→okW b (wrd l)=false→E (Str.ofString "NoText") (put S a (rd x b ((p++wrd l).length:Nat))):=fun hb hw=>by
  rw [if_neg (by simp [hb]),if_neg (by simp [hw])]at hE;exact hE rfl _ _ .refl
 rw [zce zaj,zjl];walk_at "wp";cases b with
 |true=>
  simp only[if_true];refine zmr hwl ?_;rw [ecw];cases hb:zcp (wrd l) with
  |true=>
   rw [hb,Bool.true_and,if_pos rfl]at h;walk_at "wp";cases ewl:wrd l with
   |nil=>rw [ewl]at hb;cases hb
   |cons c w=>
    rw [ewl]at hb h e1;unfold zcp at hb;rw [Bool.and_eq_true]at hb;obtain⟨hn,hd⟩:=zhy hb.2;rw [ziX (c:=c) (w:=w) rfl];have ed:(⟨w.toArray⟩:Str)=Str.ofString (toString (numL w:Int)):=zdQ (by rw [zoD _ hn,←hd]);have hd2:(dg (numL w)).length≤2:=by unfold dg;split<;>simp
    have hl2:(Str.ofString (toString (numL w:Int))).length≤640:=by
     rw [←ed];show w.toArray.size≤640;rw [List.size_toArray,hd];omega
    rw [ed,ztn (zrJ _ hn) hl2];refine⟨zaf ?_,_, .refl,?_⟩
    ·rw [ewl]at hwl;exact Nat.le_trans hwl (by decide)
    ·exact h _ (rst l) (p++c::w) rfl e1
  |false=>
   rw [hb,Bool.true_and]at fin bad;walk_at "wp";refine zjL hwl ?_;rw [ecw];have ho:okW true (wrd l)=zdB (wrd l):=by unfold okW;simp
   cases hs:zdB (wrd l) with
   |true=>
    walk_at "wp";exact⟨zaf (by decide),fin rfl (by rw [ho,hs]) fun _=>True⟩
   |false=>
    walk_at "wp";rw [zce zaj,zjl];walk_at "wp";rw [zbh];walk_at "wp";exact⟨zaf (by decide),bad rfl (by rw [ho,hs])⟩
 |false=>
  simp only[Bool.false_eq_true,if_false];refine zjL hwl ?_;rw [ecw];cases hs:zdB (wrd l) with
  |true=>
   walk_at "wp";exact⟨zaf (by decide),fin rfl (by unfold okW;rw [hs];rfl) fun _=>True⟩
  |false=>
   walk_at "wp";rw [zce zaj,zjl];walk_at "wp";refine zgf hwl ?_;rw [ecw];cases ht:zbl (wrd l) with
   |true=>
    walk_at "wp";exact⟨zaf (by decide),fin rfl (by unfold okW;rw [hs,ht];rfl) fun _=>True⟩
   |false=>
    walk_at "wp";rw [zbh];walk_at "wp";exact⟨zaf (by decide),bad rfl (by unfold okW;rw [hs,ht];rfl)⟩
theorem ziw:∀(n:Nat) {r:Nat},2*n+2≤r→RdX b n (zap r)
 |0,r,hr=>by
  obtain⟨r,rfl⟩:∃r',r=r'+2:=⟨r - 2,by omega⟩
  exact znt
 |n+1,r,hr=>by
  obtain⟨r,rfl⟩:∃r',r=r'+4:=⟨r - 4,by omega⟩
  exact znz (ziw n (by omega))
end
section
variable {S:Sto}{Q:WK}{E:Str→Sto→Prop}{a:Addr}{x:Str}{b:Bool}{r:Nat}
theorem zht{P:Prop}(hx:x.length≤100000) (h:x.length≤4000→Q .non S) (hE:4000<x.length→E "NoText" S):zaK (r+1) [.str x] S Q E:=by
 by_cases h4:x.length≤4000
 ·exact zon h4 (h h4)
 ·rw [zaK];walk_at "wp";rw [if_pos (by omega),zbh];walk_at "wp";exact⟨zaf (by omega),zaf (by decide),hE (by omega)⟩
inductive NoStr (S:Sto):W→Prop
 |non:NoStr S .non
 |int {i:Int}:NoStr S (.int i)
 |bl {b:Bool}:NoStr S (.bl b)
 |tup {ws:List W}:NoStr S (.tup ws)
 |ref {a:Addr}{ws:List W}:S a=some (.lst ws)→NoStr S (.ref a)
theorem zie{w:W}(hw:NoStr S w) (hE:E "NoText" S):zaK (r+1) [w] S Q E:=by
 have q1:zbv "NoneType" "str" =false:=by decide
 have q2:zbv "int" "str" =false:=by decide
 have q3:zbv "bool" "str" =false:=by decide
 have q4:zbv "tuple" "str" =false:=by decide
 have q5:zbv "list" "str" =false:=by decide
 rw [zaK];cases hw with
 |non=>
  walk_at "wp";rw [q1];simp only[Bool.not_false,if_true];rw [zbh];walk_at "wp";exact⟨zaf (by decide),hE⟩
 |int=>
  walk_at "wp"
  try rw [q2]
  try simp only[Bool.not_false,if_true]
  rw [zbh];walk_at "wp";exact⟨zaf (by decide),hE⟩
 |bl=>
  walk_at "wp"
  try rw [q3]
  try simp only[Bool.not_false,if_true]
  rw [zbh];walk_at "wp";exact⟨zaf (by decide),hE⟩
 |tup=>
  walk_at "wp"
  try rw [q4]
  try simp only[Bool.not_false,if_true]
  rw [zbh];walk_at "wp";exact⟨zaf (by decide),hE⟩
 |ref ha=>
  walk_at "wp";rw [zas ha]
  try rw [q5]
  try simp only[Bool.not_false,if_true]
  rw [zbh];walk_at "wp";exact⟨zaf (by decide),hE⟩
theorem zmy:∀(ts:List Tr) (m:Str),(∀t∈ts,t.weight≤(cl t.txt).length)→wts ts≤(cl (zkm m ts)).length
 | [],m,_=>by rw [zck];omega
 |t::ts,m,h=>by
  have h1:=h t List.mem_cons_self;have h2:=zmy ts (Str.ofString ",") fun u hu=>h u (List.mem_cons_of_mem _ hu);rw [zaI,zdS,zcF,zcF,List.length_append,List.length_append];omega
theorem zpa{t:Tr}(h:Wrt b t):t.weight≤(cl t.txt).length:=by
 induction h with
 |bl h0 h1 h2=>
  rw [Tr.weight,zjJ,zcF,zpY,List.length_append];show 1≤1+_;omega
 | @nd s ts hs ht ih=>
  have h1:1≤(cl s).length:=by
   rcases hs with hs |⟨_,c,w,e,_⟩
   ·exact hs.1
   ·rw [show cl s=c::w from e];simp
  rw [Tr.weight];by_cases e:ts=[]
  ·subst e;rw [zck,zfR];omega
  ·have:=zmy ts (Str.ofString "(") ih;rw [ziv e,zcF,zcF,List.length_append,List.length_append];omega
theorem zhU (hx:x.length≤100000) (hr:90≤r) (h:∀t,x.length≤4000→rdA b (cl x)=some t→ ∀S',Sub S S'→Q (enc t) S') (hE:(4000<x.length∨rdA b (cl x)=none)→ ∀S',Sub S S'→E "NoText" S'):zbe (r+2) [.str x, .bl b] S Q E:=by
 obtain⟨r,rfl⟩:∃r',r=r'+3:=⟨r - 3,by omega⟩
 have hxl:x.length=(cl x).length:=zfw;rw [zbe];walk_at "wp";refine zht (P:=True) hx (fun h4=>?_) fun h4=>hE (.inl h4) _ .refl;intro a hn;refine zqg zaj ⟨rfl,?_⟩;rw [zcO,zce zaj];have sb:∀o,Sub S (put S a o):=fun o=> .put .refl hn;refine⟨zjE,ziw (b:=b) 40 (by omega) (p:=[]) (l:=cl x) zaj rfl hx (fun t q p' e1 e2=>?_) fun e1 m S' hs=>?_⟩
 ·have hd:=zjy _ _ _ _ e1;have hw:t.weight≤90000:=by
   have h1:=zpa hd.wr;have h2:=congrArg List.length hd.tx;rw [List.length_append]at h2;omega
  rw [zcO,zce zaj,ziG];refine⟨zaf (by omega),?_⟩;have e60:∀(S:Sto) (u v:Int),eqF S 60 (.int u) (.int v)=some (u == v):=fun _ _ _=>rfl;have h2:=congrArg List.length e2;rw [List.length_append]at h2;cases q with
  |cons c q=>
   have e3:((p'.length:Int) == (x.length:Int))=false:=by
    rw [beq_eq_false_iff_ne];rw [List.length_cons]at h2;omega
   rw [e60,e3]
   try dsimp only
   simp only[Bool.not_false,if_true];rw [zbh];walk_at "wp";exact⟨zaf (by decide),hE (.inr (by rw [rdA,e1])) _ (sb _)⟩
  |nil=>
   rw [List.length_nil]at h2;have e3:((p'.length:Int) == (x.length:Int))=true:=by rw [beq_iff_eq];omega
   rw [e60,e3]
   try dsimp only
   simp only[Bool.not_true,Bool.false_eq_true,if_false];refine zkH hw ?_;have hdp:=hd.dp;by_cases h4':t.weight≤400
   ·have es:t.small=true:=by unfold Tr.small;rw [decide_eq_true h4',decide_eq_true hdp];rfl
    rw [es];walk_at "wp";exact⟨_, .refl,h t h4 (by rw [rdA,e1];dsimp only;rw [if_pos h4']) _ (sb _)⟩
   ·have es:t.small=false:=by unfold Tr.small;rw [decide_eq_false h4'];rfl
    rw [es];walk_at "wp";rw [zbh];walk_at "wp";exact⟨zaf (by decide),hE (.inr (by rw [rdA,e1];dsimp only;rw [if_neg h4'])) _ (sb _)⟩
 ·rw [zcO]at hs;exact hE (.inr (by rw [rdA,e1])) _ ((sb _).trans hs)
theorem zog (hx:x.length≤100000) (hr:93≤r) (h:∀t,x.length≤4000→rdA false (cl x)=some t→ ∀S',Sub S S'→Q (enc t) S') (hE:(4000<x.length∨rdA false (cl x)=none)→ ∀S',Sub S S'→E "NoText" S'):zcr (r+1) [.str x] S Q E:=by
 obtain⟨r,rfl⟩:∃r',r=r'+2:=⟨r - 2,by omega⟩
 rw [zcr];walk_at "wp";exact zhU hx (by omega) (fun t h4 e S' hs=>⟨_, .refl,h t h4 e S' hs⟩) hE
theorem zdL (hx:x.length≤100000) (hr:93≤r) (h:∀t,x.length≤4000→rdA true (cl x)=some t→ ∀S',Sub S S'→Q (enc t) S') (hE:(4000<x.length∨rdA true (cl x)=none)→ ∀S',Sub S S'→E "NoText" S'):zbg (r+1) [.str x] S Q E:=by
 obtain⟨r,rfl⟩:∃r',r=r'+2:=⟨r - 2,by omega⟩
 rw [zbg];walk_at "wp";exact zhU hx (by omega) (fun t h4 e S' hs=>⟨_, .refl,h t h4 e S' hs⟩) hE
theorem zis{w:W}(hw:NoStr S w) (hE:E "NoText" S):zbe (r+2) [w, .bl b] S Q E:=by
 rw [zbe];walk_at "wp";exact zie hw hE
theorem znD{w:W}(hw:NoStr S w) (hE:E "NoText" S):zcr (r+3) [w] S Q E:=by
 rw [zcr];walk_at "wp";exact zis hw hE
theorem zlB{w:W}(hw:NoStr S w) (hE:E "NoText" S):zbg (r+3) [w] S Q E:=by
 rw [zbg];walk_at "wp";exact zis hw hE
theorem zmx{w:W}(hw:NoStr S w) (hE:E "NoText" S):zaT (r+3) [w] S Q E:=by
 rw [zaT];walk_at "wp";exact zie hw hE
end
section
theorem zhN:cl (Str.ofString ": ")=[58,32]:=by decide +kernel
theorem zgo:cl (Str.ofString " > ")=[32,62,32]:=by decide +kernel
end
noncomputable def AtL (l y:List Nat) (i:Nat):Prop:=(l.drop i).take y.length=y
noncomputable def Fst (l y:List Nat) (i:Nat):Prop:=AtL l y i∧ ∀k,k<i→ ¬AtL l y k
theorem Fst.one{l y:List Nat}{i j:Nat}(h:Fst l y i) (g:Fst l y j):i=j:=by
 rcases Nat.lt_trichotomy i j with z |z |z
 ·exact absurd h.1 (g.2 _ z)
 ·exact z
 ·exact absurd g.1 (h.2 _ z)
theorem zfx{l y:List Nat}{i:Nat}(h:AtL l y i) (hy:y≠ []):i+y.length≤l.length:=by
 have:=congrArg List.length h;rw [List.length_take,List.length_drop]at this;have:=List.length_pos_iff.mpr hy;omega
theorem zfb{l y:List Nat}{i k:Nat}:AtL (l.drop i) y k↔AtL l y (i+k):=by
 unfold AtL;rw [List.drop_drop]
theorem zek (z y:Str) (hy:cl y≠ []):(Txt.partition z y=(z,Str.empty,Str.empty)∧fnd z y= -1∧ ∀i,¬AtL (cl z) (cl y) i)∨
  ∃i:Nat,Txt.partition z y=(⟨((cl z).take i).toArray⟩,y,⟨((cl z).drop (i+(cl y).length)).toArray⟩)∧fnd z y=(i:Int)∧Fst (cl z) (cl y) i:=by
 have hyl:y.length=(cl y).length:=zfw;have hzl:z.length=(cl z).length:=zfw;have at_iff:∀i,AtL (cl z) (cl y) i→StrLaws.At z y z.length i:=fun i h=>⟨by have:=zfx h hy;omega,sub_iff.mpr h⟩;rcases StrLaws.occ_head z y 1 (Nat.le_refl 1) with⟨h0,hn⟩ |⟨i,r,h0,hi,hn⟩
 ·refine .inl ⟨by unfold Txt.partition;rw [h0],by unfold fnd;rw [h0],fun i h=>hn i (at_iff i h)⟩
 ·refine .inr ⟨i,?_,by unfold fnd;rw [h0],sub_iff.mp hi.2,fun k hk h=>hn k hk (at_iff k h)⟩
  unfold Txt.partition;rw [h0];dsimp only;rw [zlz,zlz,hyl,hzl];rw [List.drop_zero,Nat.sub_zero,List.take_of_length_le (show((cl z).drop (i+(cl y).length)).length≤_ by rw [List.length_drop];omega)]
noncomputable def Tur (l:List Nat) (s:Str) (t u:Tr):Prop:=∃i j,Fst l [58,32] i∧Fst l [32,62,32] j∧i+2≤j∧zbl (l.take i)=true∧s=⟨(l.take i).toArray⟩∧rdA true ((l.take j).drop (i+2))=some t∧rdA true (l.drop (j+3))=some u
theorem Tur.txt{l:List Nat}{s:Str}{t u:Tr}(h:Tur l s t u):l=cl s++[58,32]++cl t.txt++[32,62,32]++cl u.txt:=by
  obtain⟨i,j,⟨h1,_⟩,⟨h2,_⟩,hij,_,rfl,h3,h4⟩:=h;rw [←(zhx h3).1,←(zhx h4).1];unfold AtL at h1 h2;have e1:l.take i++([58,32]++l.drop (i+2))=l:=by
    rw [←h1];show l.take i++((l.drop i).take 2++l.drop (i+2))=l;rw [←List.drop_drop,List.take_append_drop,List.take_append_drop]
  have e2:l.take j++([32,62,32]++l.drop (j+3))=l:=by
    rw [←h2];show l.take j++((l.drop j).take 3++l.drop (j+3))=l;rw [←List.drop_drop,List.take_append_drop,List.take_append_drop]
  have hjl:j+3≤l.length:=zfx h2 (by simp);have a1:(l.take j).take i=l.take i:=by rw [List.take_take,Nat.min_eq_left (by omega)]
  have a2:((l.take j).drop i).take 2=[58,32]:=by rw [List.drop_take,List.take_take,Nat.min_eq_left (by omega)];exact h1
  have e3:l.take j=l.take i++([58,32]++(l.take j).drop (i+2)):=by
    calc l.take j=(l.take j).take i++(l.take j).drop i:=(List.take_append_drop ..).symm
      _=(l.take j).take i++(((l.take j).drop i).take 2++((l.take j).drop i).drop 2):=by rw [List.take_append_drop 2 ((l.take j).drop i)]
      _=_:=by rw [a1,a2,List.drop_drop]
  show l=l.take i++[58,32]++(l.take j).drop (i+2)++[32,62,32]++l.drop (j+3)
  calc l=l.take j++([32,62,32]++l.drop (j+3)):=e2.symm
    _=(l.take i++([58,32]++(l.take j).drop (i+2)))++([32,62,32]++l.drop (j+3)):=by rw [←e3]
    _=_:=by simp only[List.append_assoc]
theorem zmb{b:Bool}:rdA b []=none:=by rw [rdA,zmP]
theorem zsc{b:Bool}{l:List Nat}:rdA b (62::l)=none:=by
 have e:∃w,wrd (62::l)=62::w:=⟨wrd l,by unfold wrd;rw [List.takeWhile_cons,if_pos (by decide)]⟩
 obtain⟨w,e⟩:=e;have:rdT b 40 (62::l)=none:=by
  rw [rdT,e,if_neg (by simp [zcp]),if_neg];have e1:zdB (62::w)=false:=by unfold zdB small zec;simp
  have e2:zbl (62::w)=false:=by unfold zbl;simp
  unfold okW;rw [e1,e2];cases b<;>decide
 rw [rdA,this]
theorem znZ{l:List Nat}{i k:Nat}(h:zbl (l.take i)=true) (hk:k<i):¬AtL l [32,62,32] k:=fun z=>by
 have hW:=zjs h;have hl:=zfx z (by simp);obtain⟨c,r,e,h1,h2,h3,h4⟩:=hW;have e:l.take i=c::r:=e;unfold AtL at z;have e1:l[k]? =some 32:=by
  have:=congrArg (fun q=>q[0]?) z;simpa using this
 have e2:(l.take i)[k]? =some 32:=by rw [List.getElem?_take_of_lt hk];exact e1
 rw [e]at e2;cases k with
 |zero=>simp at e2;omega
 |succ k=>
  have:=h4 32 (List.mem_of_getElem? (by simpa using e2));unfold Low at this;omega
section
variable {S:Sto}{Q:WK}{E:Str→Sto→Prop}{x:Str}{r:Nat}
theorem zlL (hx:x.length≤100000) (hr:100≤r) (h:∀s t u,x.length≤4000→Tur (cl x) s t u→ ∀S',Sub S S'→Q (.tup [.str s,enc t,enc u]) S') (hE:(x.length≤4000→ ∀s t u,¬Tur (cl x) s t u)→ ∀S',Sub S S'→E "NoText" S') :
  zaT (r+1) [.str x] S Q E:=by
 obtain⟨r,rfl⟩:∃r',r=r'+2:=⟨r - 2,by omega⟩
 have hxl:x.length=(cl x).length:=zfw;have mkl:∀l:List Nat,(⟨l.toArray⟩:Str).length=l.length:=fun l=>by show l.toArray.size=_;rw [List.size_toArray]
 have ecl:∀l:List Nat,cl (⟨l.toArray⟩:Str)=l:=fun l=>rfl;rw [zaT];walk_at "wp";refine zht (P:=True) hx (fun h4=>?_) fun h4=>hE (fun z=>by omega) _ .refl
 replace h:=fun s t u=>h s t u h4;replace hE:(∀s t u,¬Tur (cl x) s t u)→ ∀S',Sub S S'→E "NoText" S':=fun z=>hE fun _=>z;rw [zeR (by decide +kernel) (by omega)];have at2:∀u v w:W,atI [u,v,w] 2=some w:=fun _ _ _=>rfl;rcases zek x (Str.ofString ": ") (by rw [zhN];simp) with⟨p1,_,no⟩ |⟨i,p1,_,hi⟩
 ·rw [p1]
  try walk_at "wp"
  rw [at2];refine⟨trivial,?_⟩;rw [zeR (by decide +kernel) (Nat.zero_le _)];have hno:∀s t u,¬Tur (cl x) s t u:=fun s t u ⟨i,j,z,_⟩=>no i (by rw [zhN];exact z.1);refine zgf hx ?_;cases ht:zbl (cl x) with
  |false=>
   try walk_at "wp"
   rw [zbh];walk_at "wp";exact⟨zaf (by decide),hE hno _ .refl⟩
  |true=>
   try walk_at "wp"
   have p2:Txt.partition Str.empty (Str.ofString " > ")=(Str.empty,Str.empty,Str.empty):=by
    rcases zek Str.empty (Str.ofString " > ") (by rw [zgo];simp) with⟨p2,_⟩ |⟨m,_,_,hm⟩
    ·exact p2
    ·have:=zfx hm.1 (by rw [zgo];simp);rw [zgo]at this;simp [Str.empty]at this
   rw [p2];refine zdL (Nat.zero_le _) (by omega) (fun t _ e=>?_) fun _ S' hs=>hE hno _ hs;rw [show cl Str.empty=[] from rfl,zmb]at e;cases e
 ·rw [zhN]at hi;rw [p1,zhN]
  try walk_at "wp"
  rw [at2];refine⟨trivial,?_⟩;have hil:=zfx hi.1 (by simp);simp only[List.length_cons,List.length_nil]at hil⊢;generalize hR:(cl x).drop (i+(0+1+1))=R at *;have hRl:R.length≤x.length:=by rw [←hR,List.length_drop];omega
  rw [zeR (by decide +kernel) (by rw [mkl];omega)];have hR2:R=(cl x).drop (i+2):=hR.symm;have tl:((⟨((cl x).take i).toArray⟩:Str)).length≤100000:=by rw [mkl,List.length_take];omega
  refine zgf tl ?_;rw [ecl];cases ht:zbl ((cl x).take i) with
  |false=>
   try walk_at "wp"
   rw [zbh];walk_at "wp";refine⟨zaf (by decide),hE (fun s t u ⟨i',j,z,_,_,zt,_⟩=>?_) _ .refl⟩;rw [hi.one z,zt]at ht;cases ht
  |true=>
   try walk_at "wp"
   rcases zek ⟨R.toArray⟩ (Str.ofString " > ") (by rw [zgo];simp) with⟨p2,_,no⟩ |⟨m,p2,_,hm⟩
   ·rw [ecl,zgo]at no;have hno:∀s t u,¬Tur (cl x) s t u:=fun s t u ⟨i',j,z,z2,z3,_⟩=>by
     have:=hi.one z;subst this;refine no (j - (i+2)) ?_;rw [hR2,zfb,show i+2+(j - (i+2))=j by omega]
     exact z2.1
    rw [p2]
    try walk_at "wp"
    refine zdL (by rw [mkl];omega) (by omega) (fun t _ e S1 s1=>?_) fun _ S' hs=>hE hno _ hs
    try walk_at "wp"
    rw [at2]
    try walk_at "wp"
    refine zdL (Nat.zero_le _) (by omega) (fun t _ e=>?_) fun _ S' hs=>hE hno _ (s1.trans hs);rw [show cl Str.empty=[] from rfl,zmb]at e;cases e
   ·rw [ecl,zgo]at hm p2;have hml:=zfx hm.1 (by simp);simp only[List.length_cons,List.length_nil]at hml p2;rw [p2]
    try walk_at "wp"
    have key:∀j,Fst (cl x) [32,62,32] j→i+2≤j→j=i+2+m:=fun j z z3=>by
     have h1:AtL R [32,62,32] (j - (i+2)):=by rw [hR2,zfb,show i+2+(j - (i+2))=j by omega];exact z.1
     have h2:AtL (cl x) [32,62,32] (i+2+m):=by rw [←zfb,←hR2];exact hm.1
     rcases Nat.lt_trichotomy j (i+2+m) with q |q |q
     ·exact absurd h1 (hm.2 _ (by omega))
     ·exact q
     ·exact absurd h2 (z.2 _ q)
    have eR1:R.take m=((cl x).take (i+2+m)).drop (i+2):=by
     rw [hR2,List.drop_take,show i+2+m - (i+2)=m by omega]
    have eR2:R.drop (m+3)=(cl x).drop (i+2+m+3):=by rw [hR2,List.drop_drop,show i+2+m+3=i+2+(m+3) by omega]
    have hno1:rdA true (R.take m)=none→ ∀s t u,¬Tur (cl x) s t u:=fun e s t u ⟨i',j,z,z2,z3,_,_,z4,_⟩=>by
     have:=hi.one z;subst this;rw [key j z2 z3,←eR1,e]at z4;cases z4
    have hno2:rdA true (R.drop (m+3))=none→ ∀s t u,¬Tur (cl x) s t u:=fun e s t u ⟨i',j,z,z2,z3,_,_,_,z4⟩=>by
     have:=hi.one z;subst this;rw [key j z2 z3,←eR2,e]at z4;cases z4
    have l1:(⟨(R.take m).toArray⟩:Str).length≤4000:=by rw [mkl,List.length_take];omega
    have l2:(⟨(R.drop (m+3)).toArray⟩:Str).length≤4000:=by rw [mkl,List.length_drop];omega
    refine zdL (by omega) (by omega) (fun t _ e S1 s1=>?_) fun z S' hs=>hE (hno1 ?_) _ hs
    ·rw [ecl]at e
     try walk_at "wp"
     rw [at2]
     try walk_at "wp"
     refine zdL (by show(⟨(R.drop (m+3)).toArray⟩:Str).length≤_;omega) (by omega) (fun u _ e2 S2 s2=>?_) fun z S' hs=>hE (hno2 ?_) _ (s1.trans hs)
     ·have e2:rdA true (R.drop (m+3))=some u:=e2
      try walk_at "wp"
      refine⟨zaf (by decide),_, .refl,h _ t u ⟨i,i+2+m,hi,⟨?_,fun k hk z=>?_⟩,by omega,ht,rfl,by rw [←eR1];exact e,by rw [←eR2];exact e2⟩ _ (s1.trans s2)⟩
      ·rw [←zfb,←hR2];exact hm.1
      ·by_cases k1:k<i
       ·exact znZ ht k1 z
       ·by_cases k2:i+2≤k
        ·refine hm.2 (k - (i+2)) (by omega) ?_;rw [hR2,zfb,show i+2+(k - (i+2))=k by omega]
         exact z
        ·have ci:(cl x)[i]? =some 58∧(cl x)[i+1]? =some 32:=by
          have:=hi.1;unfold AtL at this;have a1:=congrArg (fun q=>q[0]?) this;have a2:=congrArg (fun q=>q[1]?) this;simp at a1 a2;exact⟨by simpa [cl]using a1,by simpa [cl]using a2⟩
         have ck:(cl x)[k]? =some 32∧(cl x)[k+1]? =some 62:=by
          unfold AtL at z;have a1:=congrArg (fun q=>q[0]?) z;have a2:=congrArg (fun q=>q[1]?) z;simp at a1 a2;exact⟨by simpa [cl]using a1,by simpa [cl]using a2⟩
         obtain rfl |rfl:k=i∨k=i+1:=by omega
         ·rw [ci.1]at ck;simp at ck
         ·have hR0:R[0]? =some 62:=by rw [hR2];simpa using ck.2
          have hRm:R[m]? =some 32:=by
           have:=hm.1;unfold AtL at this;have a1:=congrArg (fun q=>q[0]?) this;simpa using a1
          cases m with
          |zero=>rw [hR0]at hRm;simp at hRm
          |succ m=>
           cases R with
           |nil=>simp at hR0
           |cons c R'=>
            simp at hR0;subst hR0;rw [List.take_succ_cons,zsc]at e;cases e
     ·rcases z with z |z
      ·have:(⟨(R.drop (m+3)).toArray⟩:Str).length > 4000:=z;omega
      ·exact z
    ·rcases z with z |z
     ·omega
     ·exact z
end
section
variable {S:Sto}{Q:WK}{E:Str→Sto→Prop}{a:Addr}{x y:Str}{b:Bool}{r:Nat}
theorem zgJ{g:Nat→Bool}(hg:∀c,decide (c∈cl y)=g c) (hx:x.length≤100000) (h:Q (.bl ((cl x).all g)) S):zbi (r+1) [.str x, .str y] S Q E:=by
 have hl:x.length=(cl x).length:=zfw;have hcl:([]:List W).length+x.cps.toList.length≤1000000:=by
  rw [List.length_nil];show 0+(cl x).length≤_;omega
 rw [zbi];walk_at "wp";unfold zfB;refine zei (fun σ=>∃z,σ=[z,some (.str y)]) (fun c=> .str ⟨#[c]⟩) (fun c=> .bl (g c)) ?_ x.cps.toList [] _ ⟨none,rfl⟩ hcl (fun c hc σ R hI hR=>?_) ?_
 ·exact trivial
 ·obtain⟨z,rfl⟩:=hI;simp only[zeo];walk_at "wp";rw [StrLaws.found_one,show decide (c∈y.cps.toList)=g c from hg c];exact hR _ _ ⟨_,rfl⟩ .refl
 ·have e1:x.cps.toList.map (fun c=>W.bl (g c))=(x.cps.toList.map g).map W.bl:=by rw [List.map_map];rfl
  rw [List.nil_append,e1,zfc];dsimp only;rw [zeY];exact⟨_, .refl,h⟩
theorem zuG:cl (Str.ofString "abcdefghijklmnopqrstuvwxyz")=List.range' 97 26:=by decide +kernel
theorem ztR:cl (Str.ofString "ABCDEFGHIJKLMNOPQRSTUVWXYZ")=List.range' 65 26:=by decide +kernel
theorem zuJ:cl (Str.ofString "0123456789")=List.range' 48 10:=by decide +kernel
theorem zkS (a n c:Nat):decide (c∈List.range' a n)=(decide (a≤c)&&decide (c<a+n)):=by
 rw [←Bool.decide_and];congr 1;rw [List.mem_range'_1]
theorem zlT (c:Nat):decide (c∈cl (Str.ofString "abcdefghijklmnopqrstuvwxyz"))=zec c:=by
 rw [zuG,zkS];unfold zec;congr 1;congr 1;apply propext;omega
theorem zsh (c:Nat):decide (c∈cl (Str.ofString "0123456789"))=fig c:=by
 rw [zuJ,zkS];unfold fig;congr 1;congr 1;apply propext;omega
theorem zsW (c:Nat):decide (c∈cl (Str.ofString "ABCDEFGHIJKLMNOPQRSTUVWXYZ"))=(decide (65≤c)&&decide (c≤90)):=by
 rw [ztR,zkS];congr 1;congr 1;apply propext;omega
theorem zje{c:Nat}:(!(Builtin.Str.occurrences y ⟨#[c]⟩ 0 y.length 1).isEmpty)=decide (c∈cl y):=StrLaws.found_one y c
noncomputable def zqP (b:Bool):Int:=if b then 1 else 0
theorem iw6{f:Str}{y0 y1 y2 y3:Option W}{EX:WX}{D:WEnds}(hx:f.length≤100000) (ha:(cl f).all fig=true) (h:D.rt (.bl (zeJ (cl f))) S):zbk r EX D [y0,y1,y2,y3,some (.str f)] S:=by
 have hl:f.length=(cl f).length:=zfw;have hll:f.length≤sizeLine:=zaf (by omega);unfold zeJ at h;rw [ha,Bool.true_and]at h;rw [zbk];walk_at "wp";refine⟨hll,?_⟩;by_cases h1:(cl f).length=1
 ·have el:((f.length:Int) == 1)=true:=by rw [hl,h1];rfl
  rw [el];rw [h1]at h;exact h
 ·have el:((f.length:Int) == 1)=false:=by rw [beq_eq_false_iff_ne];omega
  rw [el];have e3:((cl f).length == 1)=false:=by rw [beq_eq_false_iff_ne];exact h1
  rw [e3,Bool.false_or]at h;refine⟨hll,?_⟩;by_cases h2:(cl f).length=2
  ·have el2:((f.length:Int) == 2)=true:=by rw [hl,h2];rfl
   rw [el2];obtain⟨c,d,e⟩:∃c d,cl f=[c,d]:=by
    match cl f,h2 with
    | [c,d],_=>exact⟨c,d,rfl⟩
   refine⟨hll,?_⟩;rw [show f.cps.toList=[c,d] from e,zbX];show D.rt (W.bl !((⟨#[c]⟩:Str) == Str.ofString "0")) S;rw [zsV,zdR];rw [e]at h;exact h
  ·have el2:((f.length:Int) == 2)=false:=by rw [beq_eq_false_iff_ne];omega
   have e4:((cl f).length == 2)=false:=by rw [beq_eq_false_iff_ne];exact h2
   rw [el2];rw [e4,Bool.false_and]at h;exact h
theorem zvb{y1 y2 y3 y4:Option W}{EX:WX}{D:WEnds}(hx:x.length≤100000) (h:D.rt (.bl (zcp (cl x))) S):zbZ (r+1) (zbY (r+1) (zbk (r+1))) EX D [some (.str x),y1,y2,y3,y4] S:=by
 have hl:x.length=(cl x).length:=zfw;have hll:x.length≤sizeLine:=zaf (by omega);rw [zbZ];walk_at "wp";refine⟨hll,?_⟩;rw [zbY];walk_at "wp";refine⟨hll,?_⟩;cases e:cl x with
 |nil=>
  rw [e]at h;have e1:Txt.slice x none (some 1)=⟨#[]⟩:=by
   apply zdQ;rw [cl,zba];unfold ziD;rw [show x.cps.toList=[] from e];simp
  rw [e1,zpY,zgc];exact h
 |cons c w=>
  rw [e,show zcp (c::w)=(c == 63&&zeJ w) from rfl]at h;rw [zoP e,zpY,zdR,ziX e];have hw:(⟨w.toArray⟩:Str).length≤100000:=by
   rw [hl,e,List.length_cons]at hx;show w.toArray.size≤_;rw [List.size_toArray];omega
  cases e1:(c == 63) with
  |false=>
   rw [e1,Bool.false_and]at h;exact h
  |true=>
   rw [e1,Bool.true_and]at h;simp only[Bool.not_true,Bool.false_eq_true,if_false];refine zgJ zsh hw ?_;walk_at "wp";show(if(!(w.all fig))=true then _ else _);cases e2:w.all fig with
   |false=>
    unfold zeJ at h;rw [e2,Bool.false_and]at h;exact h
   |true=>
    simp only[Bool.not_true,Bool.false_eq_true,if_false];exact iw6 hw e2 h
theorem iwa{y4:Option W}{y3:Option W}{EX:WX}{D:WEnds}(hx:x.length≤100000) (h:D.rt (.bl (zbl (cl x))) S):zbK (r+1) (zaL (r+1)) EX D [some (.str x),some (.int 0),some (.str (Str.ofString "abcdefghijklmnopqrstuvwxyz")),y3,y4] S:=by
 have hl:x.length=(cl x).length:=zfw;have hll:x.length≤sizeLine:=zaf (by omega);rw [zbK];walk_at "wp";refine⟨hll,?_⟩;have fin:∀v:Bool,(v=true→D.rt (.bl (small ((cl x).drop 1))) S)→(v=false→D.rt (.bl false) S)→zaL (r+1) EX D [some (.str x),some (.int 0),some (.str (Str.ofString "abcdefghijklmnopqrstuvwxyz")),some (.bl v),y4] S:=fun v h1 h2=>by
  rw [zaL];walk_at "wp";cases v with
  |false=>exact h2 rfl
  |true=>
   have e1:cl (Txt.slice x (some 1) none)=(cl x).drop 1:=drop_one x;refine⟨hll,zgJ zlT ?_ ?_⟩
   ·rw [zfw,e1,List.length_drop];omega
   ·rw [e1];exact h1 rfl
 cases e:cl x with
 |nil=>
  rw [e]at h;have e1:decide ((0:Int)<(x.length:Int))=false:=decide_eq_false (by rw [hl,e];simp);rw [e1];refine fin false (fun z=>by cases z) fun _=>?_
  unfold zbl at h;exact h
 |cons c w=>
  rw [e]at h;have e1:decide ((0:Int)<(x.length:Int))=true:=decide_eq_true (by rw [hl,e];simp);rw [e1];refine⟨hll,?_⟩;unfold zbl at h;rw [decide_eq_true (show 1≤(c::w).length by simp),Bool.true_and]at h
  by_cases h8:(c::w).length≤8
  ·have e2:decide ((x.length:Int)<9)=true:=decide_eq_true (by rw [hl,e];omega);rw [e2];rw [decide_eq_true h8,Bool.true_and]at h;refine⟨hll,?_⟩;rw [show x.cps.toList=c::w from e,zbX];show zaL (r+1) EX D [some (.str x),some (.int 0),some (.str (Str.ofString "abcdefghijklmnopqrstuvwxyz")),some (.bl (!(Builtin.Str.occurrences (Str.ofString "ABCDEFGHIJKLMNOPQRSTUVWXYZ") ⟨#[c]⟩ 0 (Str.ofString "ABCDEFGHIJKLMNOPQRSTUVWXYZ").length 1).isEmpty)),y4] S;rw [zje,zsW];have h:D.rt (.bl (decide (65≤c)&&(decide (c≤90)&&small w))) S:=h;rw [←Bool.and_assoc]at h;refine fin _ (fun z=>?_) fun z=>?_
   ·rw [z,Bool.true_and]at h;rw [e];exact h
   ·rw [z,Bool.false_and]at h;exact h
  ·have e2:decide ((x.length:Int)<9)=false:=decide_eq_false (by rw [hl,e];omega);rw [e2];rw [decide_eq_false h8,Bool.false_and]at h;exact fin false (fun z=>by cases z) fun _=>h
theorem iw2{T:WS}{y1 y3 y4:Option W}{EX:WX}{D:WEnds}(hx:x.length≤100000) (h1:zdB (cl x)=true→D.rt (.bl true) S) (h2:zdB (cl x)=false→T EX D [some (.str x),y1,some (.str (Str.ofString "abcdefghijklmnopqrstuvwxyz")),y3,y4] S) :
  zbW (r+1) T EX D [some (.str x),y1,some (.str (Str.ofString "abcdefghijklmnopqrstuvwxyz")),y3,y4] S:=by
 have hl:x.length=(cl x).length:=zfw;have hll:x.length≤sizeLine:=zaf (by omega);rw [zbW];walk_at "wp";refine⟨hll,?_⟩;unfold zdB at h1 h2;by_cases g1:1≤(cl x).length
 ·rw [if_pos (by omega)];rw [decide_eq_true g1,Bool.true_and]at h1 h2;refine⟨hll,?_⟩;by_cases g2:(cl x).length≤8
  ·rw [if_pos (by omega)];rw [decide_eq_true g2,Bool.true_and]at h1 h2;refine zgJ zlT hx ?_;walk_at "wp";show(if small (cl x)=true then _ else _);cases em:small (cl x) with
   |true=>exact h1 em
   |false=>exact h2 em
  ·rw [if_neg (by omega)];exact h2 (by rw [decide_eq_false g2];rfl)
 ·rw [if_neg (by omega)];exact h2 (by rw [decide_eq_false g1];rfl)
theorem zir (hx:x.length≤100000) (h:Q (.bl (isW b (cl x))) S):zbm (r+2) [.str x, .int (zqP b)] S Q E:=by
 unfold isW at h;rw [zbm,zeK];refine⟨rfl,?_⟩;rw [zcR];walk_at "wp";refine iw2 hx (fun e=>?_) fun e=>?_
 ·rw [e]at h;exact⟨_, .refl,h⟩
 ·rw [e,Bool.false_or]at h;rw [zcV];walk_at "wp";cases b with
  |true=>
   rw [if_neg (by decide)];exact zvb hx ⟨_, .refl,h⟩
  |false=>
   rw [if_pos (by decide)];exact iwa hx ⟨_, .refl,h⟩
end
section
variable {S:Sto}{Q:WK}{E:Str→Sto→Prop}{x y:Str}{b:Bool}{r:Nat}
theorem zub:cl (Str.ofString "(),")=[40,41,44]:=by decide +kernel
theorem zph (c:Nat):decide (c∈cl (Str.ofString "(),"))=stp c:=by
 rw [zub];unfold stp;by_cases h1:c=40
 ·subst h1;rfl
 ·by_cases h2:c=41
  ·subst h2;rfl
  ·by_cases h3:c=44
   ·subst h3;rfl
   ·rw [decide_eq_false (by simp [h1,h2,h3])];simp [h1,h2,h3]
theorem zma{p l:List Nat}{c:Nat}:atI (p++c::l) (p.length:Int)=some c:=by
 exact zgS (by simp)
theorem zkO{p l:List Nat}(e:cl x=p++l) (hx:x.length≤100000) (h:Q (.str ⟨(wrd l).toArray⟩) S):zbV (r+1) [.str x, .int p.length] S Q E:=by
 have hl:x.length=(cl x).length:=zfw;have hll:x.length≤sizeLine:=zaf (by omega);have e1:cl x=p++wrd l++rst l:=by rw [e,List.append_assoc,←zeV]
 rw [zbV];walk_at "wp";refine⟨fun m σ S'=>S=S'∧ ∃w1 w2,wrd l=w1++w2∧m=w2.length∧σ=[some (.str x),some (.int p.length),some (.int ((p++w1).length:Nat))],⟨_,rfl,[],wrd l,rfl,rfl,by rw [List.append_nil]⟩,?_⟩
 rintro m σ S' ⟨rfl,w1,w2,ew,rfl,rfl⟩;walk_at "wp";refine⟨hll,?_⟩;rw [ew]at e1;have fin:w2=[]→hll=hll→x.length≤sizeLine∧ ∃S'',Sub S'' S∧Q (.str (Txt.slice x (some (p.length:Int)) (some (((p++w1).length:Nat):Int)))) S'':=fun z _=>by
  subst z;rw [List.append_nil]at e1 ew;have e2:(((p++w1).length:Nat):Int)=((p.length+w1.length:Nat):Int):=by rw [List.length_append]
  rw [e2,zqs e1,←ew];exact⟨hll,_, .refl,h⟩
 have e3:cl x=(p++w1)++(w2++rst l):=by rw [e1];simp
 have hlen:=congrArg List.length e3;rw [List.length_append]at hlen;cases hq:w2++rst l with
 |nil=>
  rw [hq,List.length_nil]at hlen;rw [if_neg (by omega)];exact fin (List.append_eq_nil_iff.mp hq).1 rfl
 |cons c q=>
  rw [hq,List.length_cons]at hlen;rw [hq]at e3;rw [if_pos (by omega)];refine⟨hll,?_⟩;rw [show x.cps.toList=(p++w1)++c::q from e3,zma];dsimp only;rw [zje,zph];cases w2 with
  |nil=>
   rw [List.nil_append]at hq;have hc:=zmu hq;rw [hc];simp only[Bool.not_true,Bool.false_eq_true,if_false];exact fin rfl rfl
  |cons d w2=>
   rw [List.cons_append]at hq;cases hq;have hc:stp c=false:=zoV (l:=l) c (by rw [ew];simp);rw [hc];simp only[Bool.not_false,if_true];rw [zea];walk_at "wp";refine⟨w2.length,_,by simp, .refl,rfl,w1++[c],w2,by rw [ew];simp,rfl,?_⟩
   have e3:(((p++w1).length:Nat):Int)+1=(((p++(w1++[c])).length:Nat):Int):=by simp;omega
   rw [e3]
theorem wrd_hd{c:Nat}{l:List Nat}:wrd (c::l)=[]↔stp c=true:=by
 unfold wrd;rw [List.takeWhile_cons];cases h:stp c<;>simp
noncomputable def znb (x:Str) (b:Bool) (o h:Nat) (fr:Bool) (p:List Nat) (y:Option W):WSt:=[some (.str x),some (.int (zqP b)),some (.int o),some (.int h),some (.bl fr),some (.int p.length),y]
theorem zvR{p l:List Nat}{c:Nat}{o h:Nat}{EX:WX}{D:WEnds}(e:cl x=p++c::l) (hx:x.length≤100000)
  (hbad:(!isW b (wrd (c::l)) || decide (39<o))=true→D.rt (.bl false) S)
  (hq:(wrd (c::l)).headD 0=63→ ∀q,rst (c::l)=40::q→D.rt (.bl false) S)
  (h40:isW b (wrd (c::l))=true→o≤39→(wrd (c::l)).headD 0≠63→ ∀q p',rst (c::l)=40::q→cl x=p'++q→ ∀y,D.nx (znb x b (o+1) (h+1) true p' y) S)
  (hno:isW b (wrd (c::l))=true→o≤39→(∀q,rst (c::l)≠40::q)→ ∀p',cl x=p'++rst (c::l)→ ∀y,D.nx (znb x b o (h+1) false p' y) S) :
  zbA (r+2) (zbE (r+2) (zbC (r+2) (zbF (r+2) (zaZ (r+2) (zaY (r+2) (zbd (r+2))))))) EX D (znb x b o h true p (some (.str ⟨(wrd (c::l)).toArray⟩))) S:=by
 have hl:x.length=(cl x).length:=zfw;have hll:x.length≤sizeLine:=zaf (by omega);have ew:=zeV (c::l);have e1:cl x=p++wrd (c::l)++rst (c::l):=by rw [e,List.append_assoc,←ew]
 have hwl:(⟨(wrd (c::l)).toArray⟩:Str).length≤100000:=by
  have:=congrArg List.length e1;simp only[List.length_append]at this;show(wrd (c::l)).toArray.size≤_;rw [List.size_toArray];omega
 unfold znb at *;rw [zbA];walk_at "wp";refine zir hwl ?_;walk_at "wp";show(if(!isW b (wrd (c::l)))=true then _ else _);cases hw:isW b (wrd (c::l)) with
 |false=>exact hbad (by rw [hw];rfl)
 |true=>
  simp only[Bool.not_true,Bool.false_eq_true,if_false];by_cases ho:39<o
  ·rw [if_pos (by omega)];exact hbad (by rw [decide_eq_true ho,Bool.or_true])
  ·rw [if_neg (by omega)];rw [zbE];walk_at "wp";rw [zbC];walk_at "wp";refine⟨Nat.le_trans hwl (by decide),?_⟩;rw [zbF];walk_at "wp";have e5:((p.length:Int)+((⟨(wrd (c::l)).toArray⟩:Str).length:Int))=(((p++wrd (c::l)).length:Nat):Int):=by
    rw [List.length_append];show _+(((wrd (c::l)).toArray.size:Nat):Int)=_;rw [List.size_toArray];omega
   rw [e5,zsy e1];refine⟨hll,?_⟩;have hne:=zkd hw;obtain⟨d,w,ed⟩:=List.exists_cons_of_ne_nil hne;have e6:((h:Int)+1)=((h+1:Nat):Int):=by omega
   rw [e6,zpg];by_cases h4:∃q,rst (c::l)=40::q
   ·obtain⟨q,e4⟩:=h4;rw [e4,hdS,beq_self_eq_true];rw [zaZ];walk_at "wp";refine⟨Nat.le_trans hwl (by decide),?_⟩;show(match atI (wrd (c::l)) 0 with
     |some c=>_
     |none=>False)
    rw [ed,zbX];show(if(((⟨#[d]⟩:Str)) == Str.ofString "?")=true then _ else _);rw [zpY,zdR];by_cases h63:d=63
    ·rw [if_pos (by rw [h63];rfl)];exact hq (by rw [ed];exact h63) q e4
    ·rw [if_neg (by rw [beq_iff_eq];exact h63)];rw [zaY];walk_at "wp";rw [zbd];walk_at "wp";have:=h40 hw (by omega) (by rw [ed];exact h63) q (p++wrd (c::l)++[40]) e4 (by rw [e1,e4];simp) (some (.str ⟨(d::w).toArray⟩));have e7:((o:Int)+1)=((o+1:Nat):Int):=by omega
     have e8:(((p++wrd (c::l)).length:Nat):Int)+1=(((p++wrd (c::l)++[40]).length:Nat):Int):=by
      rw [List.length_append (bs:=[40]),List.length_singleton];omega
     rw [←ed]at *
     first
      | (rw [e7,e8];exact this)
      | (simp only[if_true];rw [e7,e8];exact this)
   ·have h4':∀q,rst (c::l)≠40::q:=fun q z=>h4 ⟨q,z⟩;have ef:(hdS (rst (c::l)) == (⟨#[40]⟩:Str))=false:=by
     cases er:rst (c::l) with
     |nil=>exact zgc 40
     |cons f q=>
      rw [hdS,zdR,beq_eq_false_iff_ne];exact fun z=>h4' q (by rw [er,z])
    rw [ef];rw [zaZ];walk_at "wp";rw [zaY];walk_at "wp";rw [zbd];walk_at "wp";have:=hno hw (by omega) h4' (p++wrd (c::l)) e1 (some (.str ⟨(wrd (c::l)).toArray⟩))
    first
     |exact this
     | (simp only[Bool.false_eq_true,if_false,Int.add_zero];exact this)
theorem zvS{p l:List Nat}{c:Nat}{o h:Nat}{EX:WX}{D:WEnds}(e:cl x=p++c::l) (hx:x.length≤100000)
  (hbad:(o == 0 || (c == 40 || !stp c))=true→D.rt (.bl false) S)
  (hgo:(o == 0 || (c == 40 || !stp c))=false→ ∀y,D.nx (znb x b (if c=41 then o - 1 else o) h (c == 44) (p++[c]) y) S) :
  zbc (r+2) EX D (znb x b o h false p (some (.str ⟨(wrd (c::l)).toArray⟩))) S:=by
 have hl:x.length=(cl x).length:=zfw;have hll:x.length≤sizeLine:=zaf (by omega);have ec:atI x.cps.toList (p.length:Int)=some c:=by rw [show x.cps.toList=p++c::l from e,zma]
 unfold znb at *;rw [zbc];walk_at "wp";by_cases ho:o=0
 ·rw [if_pos (by rw [ho];rfl)];exact hbad (by rw [ho];rfl)
 ·rw [if_neg (by rw [beq_iff_eq];omega)];refine⟨hll,?_⟩;rw [ec];show(if((⟨#[c]⟩:Str) == Str.ofString "(")=true then _ else _);rw [zpg,zdR];have e0:(o == 0)=false:=by rw [beq_eq_false_iff_ne];exact ho
  rw [e0,Bool.false_or]at hbad hgo;cases h40:(c == 40) with
  |true=>exact hbad (by rw [h40];rfl)
  |false=>
   rw [h40,Bool.false_or]at hbad hgo;simp only[Bool.false_eq_true,if_false];have ewd:((⟨(wrd (c::l)).toArray⟩:Str) == Str.ofString "")=stp c:=by
    rw [zuM];cases hs:stp c with
    |true=>rw [wrd_hd.mpr hs];rfl
    |false=>
     rw [beq_eq_false_iff_ne];intro z;have:wrd (c::l)=[]:=congrArg cl z;rw [wrd_hd,hs]at this;cases this
   rw [ewd];cases hs:stp c with
   |false=>exact hbad (by rw [hs];rfl)
   |true=>
    simp only[Bool.not_true,Bool.false_eq_true,if_false];have:=hgo (by rw [hs];rfl) (some (.str ⟨(wrd (c::l)).toArray⟩));rw [zcm];walk_at "wp";refine⟨hll,?_⟩;rw [ec];show zbB (r+2) (zaE (r+2)) EX D [some (.str x),some (.int (zqP b)),some (.int o),some (.int h),some (.bl ((⟨#[c]⟩:Str) == Str.ofString ",")),some (.int p.length),some (.str ⟨(wrd (c::l)).toArray⟩)] S;rw [zro,zdR,zbB];walk_at "wp";refine⟨hll,?_⟩;rw [ec];have e9:(((p.length:Int)+1))=(((p++[c]).length:Nat):Int):=by simp
    by_cases h41:c=41
    ·subst h41;have e7:((o:Int) - 1)=((o - 1:Nat):Int):=by omega
     rw [if_pos rfl]at this;show zaE (r+2) EX D [some (.str x),some (.int (zqP b)),some (.int ((o:Int) - (if((⟨#[41]⟩:Str) == Str.ofString ")")=true then 1 else 0))),some (.int h),some (.bl ((41:Nat) == 44)),some (.int p.length),some (.str ⟨(wrd (41::l)).toArray⟩)] S;rw [zqO,beq_self_eq_true,if_pos rfl,e7,zaE];walk_at "wp";rw [e9];exact this
    ·rw [if_neg h41]at this;show zaE (r+2) EX D [some (.str x),some (.int (zqP b)),some (.int ((o:Int) - (if((⟨#[c]⟩:Str) == Str.ofString ")")=true then 1 else 0))),some (.int h),some (.bl (c == 44)),some (.int p.length),some (.str ⟨(wrd (c::l)).toArray⟩)] S;rw [zqO,zdR,if_neg (by rw [beq_iff_eq];exact h41),Int.sub_zero,zaE];walk_at "wp";rw [e9];exact this
theorem zeW (hx:x.length≤100000) (h:Q (.bl (rdA b (cl x)).isSome) S):zby (r+3) [.str x, .int (zqP b)] S Q E:=by
 have hl:x.length=(cl x).length:=zfw;have hll:x.length≤sizeLine:=zaf (by omega);rw [←zpF (k:=(cl x).length+1) (by omega)]at h;rw [zby,zeK];refine⟨rfl,?_⟩;rw [zcv];walk_at "wp";rw [zcy];walk_at "wp";rw [zcz];walk_at "wp";rw [zcw];walk_at "wp";rw [zcx];walk_at "wp";refine⟨fun m σ S'=>S=S'∧ ∃(o g:Nat) (fr:Bool) (p l:List Nat) (y:Option W),cl x=p++l∧m=l.length∧scn b (l.length+1) fr o g l=scn b ((cl x).length+1) true 0 0 (cl x)∧σ=znb x b o g fr p y,⟨_,rfl,0,0,true,[],cl x,none,rfl,rfl,rfl,rfl⟩,?_⟩;rintro m σ S' ⟨rfl,o,g,fr,p,l,y,e,rfl,hs,rfl⟩;have hlen:=congrArg List.length e;rw [List.length_append]at hlen;have ret:scn b (l.length+1) fr o g l=false→ ∃S'',Sub S'' S∧Q (.bl false) S'':=fun z=>by
  rw [hs]at z;rw [z]at h;exact⟨_, .refl,h⟩
 rw [znb];walk_at "wp";refine⟨hll,?_⟩;cases l with
 |nil=>
  rw [List.length_nil]at hlen;rw [if_neg (by omega),zct];walk_at "wp";rw [←hs]at h;rw [List.length_nil,scn]at h;cases fr with
  |true=>exact⟨_, .refl,h⟩
  |false=>
   simp only[Bool.not_false];have e0:((o:Int) == 0)=(o == 0):=by
    by_cases ho:o=0
    ·subst ho;rfl
    ·rw [beq_eq_false_iff_ne.mpr ho,beq_eq_false_iff_ne];omega
   have e4:decide ((g:Int)≤400)=decide (g≤400):=by
    congr 1;apply propext;omega
   rw [e0,e4];rw [Bool.not_false,Bool.true_and]at h;cases ho:(o == 0) with
   |true=>rw [ho,Bool.true_and]at h;exact⟨_, .refl,h⟩
   |false=>rw [ho,Bool.false_and]at h;exact⟨_, .refl,h⟩
 |cons c l=>
  rw [List.length_cons]at hlen;rw [if_pos (by omega),zdp,zcj];walk_at "wp";refine zkO e hx ?_;cases fr with
  |false=>
   refine zvS (r:=r) (b:=b) (o:=o) (h:=g) e hx (fun z=>ret ?_) fun z y=>⟨l.length,_,by simp, .refl,rfl,_,_,_,p++[c],l,y,by rw [e];simp,rfl,?_,rfl⟩
   ·rw [List.length_cons,scn,if_pos z]
   ·rw [List.length_cons,scn,if_neg (by rw [z];decide)]at hs;exact hs
  |true=>
   rw [zbc];walk_at "wp";refine zvR (r:=r) (b:=b) (o:=o) (h:=g) e hx (fun z=>ret ?_) (fun z q eq=>ret ?_) (fun hw ho h63 q p' eq ep y=>?_) fun hw ho hn p' ep y=>?_
   ·rw [List.length_cons,scn,if_pos z]
   ·rw [List.length_cons,scn,eq];dsimp only;rw [if_pos rfl,if_pos z];split<;>rfl
   ·have hlt:=zgl (zkd hw);rw [eq,List.length_cons,List.length_cons]at hlt;refine⟨q.length,_,by omega, .refl,rfl,_,_,_,p',q,y,ep,rfl,?_,rfl⟩
    rw [List.length_cons,scn,if_neg (by rw [hw,decide_eq_false (by omega)];decide),eq]at hs;dsimp only at hs;rw [if_pos rfl,if_neg h63]at hs;rw [←hs];exact zbt _ _ _ _ _ _ (by omega) (by omega)
   ·have hlt:=zgl (zkd hw);refine⟨(rst (c::l)).length,_,by omega, .refl,rfl,_,_,_,p',rst (c::l),y,ep,rfl,?_,rfl⟩
    rw [List.length_cons,scn,if_neg (by rw [hw,decide_eq_false (by omega)];decide)]at hs;rw [←hs];rw [List.length_cons]at hlt;cases er:rst (c::l) with
    |nil=>exact zbt _ _ _ _ _ _ (by simp) (by simp)
    |cons d q=>
     dsimp only;rw [if_neg fun z=>hn q (by rw [er,z])];rw [er]at hlt;exact zbt _ _ _ _ _ _ (by omega) (by omega)
end
section
variable {S:Sto}{Q:WK}{E:Str→Sto→Prop}{x y:Str}{b:Bool}{r:Nat}{way:Int}
theorem zfh{t:Tr}(h:Wrt b t):Plain t:=by
 induction h with
 |bl h0 h1 h2=>exact .bl h1 (Int.lt_trans h2 (by decide))
 |nd hs _ ih=>
  refine .nd ?_ ih;rcases hs with hs |⟨_,hs⟩
  ·exact zfd hs
  ·exact zfK hs
theorem zev:∀(d:Nat) {t:Tr}{r:Nat}{S:Sto}{Q:WK}{E:Str→Sto→Prop},t.depth≤d→d≤r→t.weight≤10000→Q (.bl true) S→zay (r+1) [enc t] S Q E
 |0,t,r,S,Q,E,hd,hr,hw,h=>by have:=zhH t;omega
 |d+1, .bl n,r,S,Q,E,hd,hr,hw,h=>by
  rw [zay];simp only[enc];walk_at "wp";exact⟨_, .refl,h⟩
 |d+1, .nd s ts,r,S,Q,E,hd,hr,hw,h=>by
  obtain⟨r,rfl⟩:∃r',r=r'+1:=⟨r - 1,by omega⟩
  rw [Tr.depth]at hd;rw [Tr.weight]at hw;have hl:=zfM ts;rw [zay];simp only[enc];walk_at "wp";have hc:(zbx ts).length+1≤sizeLine:=zaf (by rw [zaH];omega);have e0:((((zbx ts).length+1:Nat):Int) == 0)=false:=by rw [beq_eq_false_iff_ne];omega
  rw [e0];simp only[Bool.false_eq_true,if_false]
  try rw [ziY]
  try walk_at "wp"
  rw [zaD];refine zei (fun σ=>∃z,σ=[z]) enc (fun _=> .bl true) ?_ ts [] _ ⟨none,rfl⟩ (by simp;omega) (fun u hu σ R hI hR=>?_) ?_
  ·exact trivial
  ·obtain⟨z,rfl⟩:=hI;simp only[zdM];walk_at "wp";exact zev d (by have:=zlu hu;omega) (by omega) (by have:=zlI hu;omega) (hR _ _ ⟨_,rfl⟩ .refl)
  ·have e1:ts.map (fun _=>W.bl true)=(ts.map fun _=>true).map W.bl:=by rw [List.map_map];rfl
   rw [List.nil_append,e1,zfc];dsimp only;rw [zeY];have e2:(ts.all fun _=>true)=true:=by simp
   rw [e2];exact⟨_, .refl,h⟩
noncomputable def Res (way:Int) (x:Str) (w:W):Prop:=x.length≤4000∧((way=0∧ ∃t,rdA false (cl x)=some t∧w=enc t)∨(way=1∧ ∃t,rdA true (cl x)=some t∧w=enc t)∨(way=2∧ ∃s t u,Tur (cl x) s t u∧w= .tup [.str s,enc t,enc u]))
theorem zuP{t:Tr}{y1:Option W}{EX:WX}{D:WEnds}(hx:rdA b (cl x)=some t) (hr:50≤r) (h:D.rt (.str x) S):zbL r (zbI r) EX D [some (enc t),y1] S:=by
 obtain⟨r,rfl⟩:∃r',r=r'+1:=⟨r - 1,by omega⟩
 obtain⟨e1,e2,e3,e4⟩:=zhx hx;rw [zbL];walk_at "wp";refine zev 40 e4 (by omega) (by omega) ?_;walk_at "wp";rw [zbI];walk_at "wp";refine zdd 40 e4 (by omega) (zfh e2) (by omega) ?_;rw [zdQ e1]at h;exact h
theorem zkK{w:W}(hw:Res way x w) (hr:60≤r) (h:Q (.str x) S):zbS (r+1) [w, .int way] S Q E:=by
 obtain⟨h4,hw⟩:=hw;rw [zbS,zeK];refine⟨rfl,?_⟩;rw [zcP];walk_at "wp";rcases hw with⟨rfl,t,e,rfl⟩ |⟨rfl,t,e,rfl⟩ |⟨rfl,s,t,u,e,rfl⟩
 ·rw [if_pos (by decide)];exact zuP e (by omega) ⟨_, .refl,h⟩
 ·rw [if_pos (by decide)];exact zuP e (by omega) ⟨_, .refl,h⟩
 ·rw [if_neg (by decide)];obtain⟨r,rfl⟩:∃r',r=r'+1:=⟨r - 1,by omega⟩
  have ex:=e.txt;obtain⟨i,j,_,_,_,_,_,ht,hu⟩:=e;obtain⟨_,t2,t3,t4⟩:=zhx ht;obtain⟨_,u2,u3,u4⟩:=zhx hu;have at1:∀u v w:W,atI [u,v,w] 1=some v:=fun _ _ _=>rfl;have at2:∀u v w:W,atI [u,v,w] 2=some w:=fun _ _ _=>rfl;rw [zcU];walk_at "wp";rw [if_neg (by decide)];rw [zcQ];walk_at "wp"
  try rw [at1]
  try walk_at "wp"
  refine zev 40 t4 (by omega) (by omega) ?_;walk_at "wp"
  try rw [at2]
  try walk_at "wp"
  refine zev 40 u4 (by omega) (by omega) ?_;walk_at "wp";rw [zcS];walk_at "wp";have tl:∀y:Str,y.length=(cl y).length:=fun y=>by simp [Str.length,cl]
  have exl:=congrArg List.length ex;rw [←tl]at exl;simp only[List.length_append,←tl,List.length_cons,List.length_nil]at exl;have ez:x=s++Str.ofString ": " ++t.txt++Str.ofString " > " ++u.txt:=zdQ (by
   rw [ex];simp only[zcF,zhN,zgo])
  rw [sl5];refine⟨zaf (by omega),?_⟩
  try rw [at1]
  try walk_at "wp"
  refine zdd 40 t4 (by omega) (zfh t2) (by omega) ?_;walk_at "wp";simp only[Str.length_append,sl5,sl6];refine⟨zaf (by omega),zaf (by omega),?_⟩
  try rw [at2]
  try walk_at "wp"
  refine zdd 40 u4 (by omega) (zfh u2) (by omega) ?_;walk_at "wp";simp only[Str.length_append,sl5,sl6];rw [←ez];exact⟨zaf (by omega),_, .refl,h⟩
open Classical in
theorem zkv (hx:x.length≤100000) (h:Q (.bl (decide (x.length≤4000∧ ∃s t u,Tur (cl x) s t u))) S):zaF (r+4) [.str x] S Q E:=by
 have hl:x.length=(cl x).length:=zfw;have hll:x.length≤sizeLine:=zaf (by omega);have mkl:∀l:List Nat,(⟨l.toArray⟩:Str).length=l.length:=fun l=>by show l.toArray.size=_;rw [List.size_toArray]
 rw [zaF,zeK];refine⟨rfl,?_⟩;rw [zbr];walk_at "wp";rw [zoQ,zbn];walk_at "wp";rw [zoQ,zbp];walk_at "wp";refine⟨hll,?_⟩;have no:¬(x.length≤4000∧ ∃s t u,Tur (cl x) s t u)→ ∃S'',Sub S'' S∧Q (.bl false) S'':=fun z=>by
  rw [decide_eq_false z]at h;exact⟨_, .refl,h⟩
 by_cases h4:x.length≤4000
 ·rw [if_neg (by omega)];rcases zek x (Str.ofString ": ") (by rw [zhN];simp) with⟨_,f1,n1⟩ |⟨i,_,f1,hi⟩
  ·rw [f1,if_pos (by decide)];exact no fun⟨_,s,t,u,i,j,z,_⟩=>n1 i (by rw [zhN];exact z.1)
  ·rw [zhN]at hi;rw [f1];have hil:=zfx hi.1 (by simp);simp only[List.length_cons,List.length_nil]at hil;by_cases i0:i=0
   ·subst i0;rw [if_pos (by decide)];refine no fun⟨_,s,t,u,i',j,z,_,_,z2,_⟩=>?_;rw [←hi.one z]at z2;simp [zbl]at z2
   ·rw [if_neg (by omega)];rcases zek x (Str.ofString " > ") (by rw [zgo];simp) with⟨_,f2,n2⟩ |⟨j,_,f2,hj⟩
    ·rw [f2,if_pos (by omega)];exact no fun⟨_,s,t,u,i,j,_,z,_⟩=>n2 j (by rw [zgo];exact z.1)
    ·rw [zgo]at hj;rw [f2];have hjl:=zfx hj.1 (by simp);simp only[List.length_cons,List.length_nil]at hjl;by_cases hij:i+2≤j
     ·rw [if_neg (by omega),zbq];walk_at "wp";refine⟨hll,?_⟩;have es:Txt.slice x none (some (i:Int))=⟨((cl x).take i).toArray⟩:=by
       apply zdQ;rw [cl,zba];unfold ziD;rw [HT.sIx_none,HT.sIx_nat,List.drop_zero,Nat.sub_zero];show(cl x).take (min i (cl x).length)=_;rw [Nat.min_eq_left (by omega)]
      rw [es];refine zir (b:=false) (by rw [mkl,List.length_take];omega) ?_;walk_at "wp";show(if(!(isW false ((cl x).take i)))=true then _ else _);have tur:∀s t u,Tur (cl x) s t u→zbl ((cl x).take i)=true∧rdA true (((cl x).take j).drop (i+2))=some t∧rdA true ((cl x).drop (j+3))=some u:=fun s t u ⟨i',j',z1,z2,_,z3,_,z4,z5⟩=>by
       have q1:=hi.one z1;have q2:=hj.one z2;subst q1 q2;exact⟨z3,z4,z5⟩
      obtain⟨c,w,ec⟩:∃c w,cl x=c::w:=by
       cases e:cl x with
       |nil=>rw [e]at hil;simp at hil
       |cons c w=>exact⟨c,w,rfl⟩
      have ei:(cl x).take i=c::w.take (i - 1):=by
       rw [ec];obtain⟨i,rfl⟩:∃i',i=i'+1:=⟨i - 1,by omega⟩
       rfl
      cases hw:isW false ((cl x).take i) with
      |false=>
       simp only[Bool.not_false,if_true];refine no fun⟨_,s,t,u,z⟩=>?_;have:=(tur s t u z).1;unfold isW at hw;rw [this]at hw;simp at hw
      |true=>
       simp only[Bool.not_true,Bool.false_eq_true,if_false];refine⟨hll,?_⟩;rw [show x.cps.toList=c::w from ec,zbX];show(if(!(Builtin.Str.occurrences (Str.ofString "abcdefghijklmnopqrstuvwxyz") ⟨#[c]⟩ 0 (Str.ofString "abcdefghijklmnopqrstuvwxyz").length 1).isEmpty)=true then _ else _);rw [zje,zlT];cases hc:zec c with
       |true=>
        simp only[if_true];refine no fun⟨_,s,t,u,z⟩=>?_;have:=(tur s t u z).1;rw [ei]at this;unfold zbl at this;unfold zec at hc;simp at this hc;omega
       |false=>
        simp only[Bool.false_eq_true,if_false];have ht:zbl ((cl x).take i)=true:=by
         unfold isW at hw;rw [if_neg (by decide),Bool.or_eq_true]at hw;rcases hw with hw |hw
         ·rw [ei]at hw;have:=zmM hw;have:=this.2.2 c (by simp);unfold Low at this;unfold zec at hc;simp [this.1,this.2]at hc
         ·exact hw
        rw [zbo];walk_at "wp";refine⟨hll,?_⟩;have e2:((i:Int)+2)=((i+2:Nat):Int):=by omega
        have e3:((j:Int)+3)=((j+3:Nat):Int):=by omega
        have sA:Txt.slice x (some (((i+2:Nat)):Int)) (some (j:Int))=⟨(((cl x).take j).drop (i+2)).toArray⟩:=by
         apply zdQ;rw [cl,zba];unfold ziD;rw [HT.sIx_nat,HT.sIx_nat];show((cl x).drop (min (i+2) (cl x).length)).take (min j (cl x).length - min (i+2) (cl x).length)=_;rw [Nat.min_eq_left (by omega),Nat.min_eq_left (by omega),List.drop_take]
        have sB:Txt.slice x (some (((j+3:Nat)):Int)) none=⟨((cl x).drop (j+3)).toArray⟩:=by
         apply zdQ;rw [cl,zba];unfold ziD;rw [HT.sIx_nat];show List.take _ ((cl x).drop (min (j+3) (cl x).length))=_;rw [Nat.min_eq_left (by omega),List.take_of_length_le];rw [List.length_drop]
         first
          | (rw [HT.sIx_none'];omega)
          | (show _≤(cl x).length - _;omega)
        rw [e2,e3,sA,sB];refine zeW (b:=true) (by rw [mkl,List.length_drop,List.length_take];omega) ?_;show(match W.bl (rdA true (((cl x).take j).drop (i+2))).isSome with
         | .bl true=>_
         | .bl false=>_
         |_=>False)
        cases ea:rdA true (((cl x).take j).drop (i+2)) with
        |none=>
         exact no fun⟨_,s,t,u,z⟩=>by
          have:=(tur s t u z).2.1;rw [ea]at this;cases this
        |some t=>
         refine⟨hll,zeW (b:=true) (by rw [mkl,List.length_drop];omega) ?_⟩;show ∃S'',Sub S'' S∧Q (W.bl (rdA true ((cl x).drop (j+3))).isSome) S'';cases eb:rdA true ((cl x).drop (j+3)) with
         |none=>
          exact no fun⟨_,s,t,u,z⟩=>by
           have:=(tur s t u z).2.2;rw [eb]at this;cases this
         |some u=>
          rw [decide_eq_true ⟨h4,⟨((cl x).take i).toArray⟩,t,u,i,j,hi,hj,hij,ht,rfl,ea,eb⟩]at h;exact⟨_, .refl,h⟩
     ·rw [if_pos (by omega)];refine no fun⟨_,s,t,u,i',j',z1,z2,z3,_⟩=>hij ?_;rw [hi.one z1,hj.one z2];exact z3
 ·rw [if_pos (by omega)];exact no fun z=>h4 z.1
end
section
variable {S:Sto}{Q:WK}{E:Str→Sto→Prop}{a k:Addr}{x:Str}{b:Bool}{r:Nat}{way:Int}{T:WS}{EX:WX}{D:WEnds}{y4 y5:Option W}
theorem xcs{cl0:Str}(h:cl0=Str.ofString "NoText"):zhp cl0 "NoText" =true∧zhp cl0 "ValueError" =true∧zhp cl0 "NoTurning" =false:=by subst h;decide
theorem zuU{X:W}{w3:W}(h:∀S' k2,Sub S S'→S' k2=some (.lst [.bl true, .bl true, .bl false])→T EX D [some X,some (.int way),some (.ref k2),some .non,none,y5] S') (a:Addr) :
  ∀S1,Sub S S1→(wAsg (zfe (zeG (zab (zjd 4 a (zhp "NoText" "NoText")) (zab (zjd 4 a (zhp "NoText" "ValueError")) (zab (zjd 4 a (zhp "NoText" "NoTurning")) waNil))))) (wGN 2)) noX { nx:=fun σ'' S''=>T EX D (σ''.set 4 none) S'',rt:=D.rt,bk:=fun σ'' S''=>D.bk (σ''.set 4 none) S'',ct:=fun σ'' S''=>D.ct (σ''.set 4 none) S'' } [some X,some (.int way),some (.ref k),some .non,some (.ref a),y5] S1:=fun S1 s1=>by
 obtain⟨q1,q2,q3⟩:=xcs rfl;walk_at "wp";refine⟨by decide,fun k2 hk=>?_⟩;rw [q1,q2,q3];exact h _ k2 (s1.trans (.put .refl hk)) zaj
theorem gd3 (hx:x.length≤100000) (hw:way=0∨way=1∨way=2) (hr:150≤r) (h1:∀w S',Res way x w→Sub S S'→T EX D [some (.str x),some (.int way),some (.ref k),some w,y4,y5] S')
  (h2:(∀w,¬Res way x w)→ ∀S' k2,Sub S S'→S' k2=some (.lst [.bl true, .bl true, .bl false])→T EX D [some (.str x),some (.int way),some (.ref k2),some .non,none,y5] S') :
  zbH r T EX D [some (.str x),some (.int way),some (.ref k),some .non,y4,y5] S:=by
 obtain⟨r,rfl⟩:∃r',r=r'+1:=⟨r - 1,by omega⟩
 rw [zbH,zlK,zgU];have no:(∀w,¬Res way x w)→ ∀(S':Sto),Sub S S'→(Str.ofString "NoText")∈ [Str.ofString "NoText"]∧ ∀a,(wAsg (zfe (zeG (zab (zjd 4 a (zhp "NoText" "NoText")) (zab (zjd 4 a (zhp "NoText" "ValueError")) (zab (zjd 4 a (zhp "NoText" "NoTurning")) waNil))))) (wGN 2)) noX { nx:=fun σ'' S''=>T EX D (σ''.set 4 none) S'',rt:=D.rt,bk:=fun σ'' S''=>D.bk (σ''.set 4 none) S'',ct:=fun σ'' S''=>D.ct (σ''.set 4 none) S'' } [some (.str x),some (.int way),some (.ref k),some .non,some (.ref a),y5] S':=fun z S' hs=>⟨by simp,fun a=>zuU (k:=k) (w3:= .non) (h2 z) a S' hs⟩;rcases hw with rfl |rfl |rfl
 ·simp only[zic,zmF,zkU,zej,zrw,List.getElem?_cons_succ,List.getElem?_cons_zero,zlR,zhX];rw [if_pos (by decide)];simp only[zfP,zdT,zdU,zeO,zej,zhR,List.getElem?_cons_succ,List.getElem?_cons_zero,List.set_cons_succ,List.set_cons_zero];refine zog hx (by omega) (fun t h4 e S' hs=>h1 _ S' ⟨h4, .inl ⟨rfl,t,e,rfl⟩⟩ hs) fun z S' hs=>no (fun w ⟨g1,g2⟩=>?_) S' hs;rcases g2 with⟨_,t,e,_⟩ |⟨g,_⟩ |⟨g,_⟩
  ·rcases z with z |z
   ·omega
   ·rw [z]at e;cases e
  ·cases g
  ·cases g
 ·simp only[zic,zmF,zkU,zej,zrw,List.getElem?_cons_succ,List.getElem?_cons_zero,zlR,zhX];rw [if_neg (by decide),if_pos (by decide)];simp only[zfP,zdT,zdU,zeO,zej,zhR,List.getElem?_cons_succ,List.getElem?_cons_zero,List.set_cons_succ,List.set_cons_zero];refine zdL hx (by omega) (fun t h4 e S' hs=>h1 _ S' ⟨h4, .inr (.inl ⟨rfl,t,e,rfl⟩)⟩ hs) fun z S' hs=>no (fun w ⟨g1,g2⟩=>?_) S' hs;rcases g2 with⟨g,_⟩ |⟨_,t,e,_⟩ |⟨g,_⟩
  ·cases g
  ·rcases z with z |z
   ·omega
   ·rw [z]at e;cases e
  ·cases g
 ·simp only[zic,zmF,zkU,zej,zrw,List.getElem?_cons_succ,List.getElem?_cons_zero,zlR,zhX];rw [if_neg (by decide),if_neg (by decide)];simp only[zfP,zdT,zdU,zeO,zej,zhR,List.getElem?_cons_succ,List.getElem?_cons_zero,List.set_cons_succ,List.set_cons_zero];refine zlL hx (by omega) (fun s t u h4 e S' hs=>h1 _ S' ⟨h4, .inr (.inr ⟨rfl,s,t,u,e,rfl⟩)⟩ hs) fun z S' hs=>no (fun w ⟨g1,g2⟩=>?_) S' hs;rcases g2 with⟨g,_⟩ |⟨g,_⟩ |⟨_,s,t,u,e,_⟩
  ·cases g
  ·cases g
  ·exact z g1 s t u e
theorem zvL{w:W}(hn:NoStr S w) (hr:150≤r) (h2:∀S' k2,Sub S S'→S' k2=some (.lst [.bl true, .bl true, .bl false])→T EX D [some w,some (.int way),some (.ref k2),some .non,none,y5] S') :
  zbH r T EX D [some w,some (.int way),some (.ref k),some .non,y4,y5] S:=by
 obtain⟨r,rfl⟩:∃r',r=r'+3:=⟨r - 3,by omega⟩
 rw [zbH,zlK,zgU];have no:(Str.ofString "NoText")∈ [Str.ofString "NoText"]∧ ∀a,(wAsg (zfe (zeG (zab (zjd 4 a (zhp "NoText" "NoText")) (zab (zjd 4 a (zhp "NoText" "ValueError")) (zab (zjd 4 a (zhp "NoText" "NoTurning")) waNil))))) (wGN 2)) noX { nx:=fun σ'' S''=>T EX D (σ''.set 4 none) S'',rt:=D.rt,bk:=fun σ'' S''=>D.bk (σ''.set 4 none) S'',ct:=fun σ'' S''=>D.ct (σ''.set 4 none) S'' } [some w,some (.int way),some (.ref k),some .non,some (.ref a),y5] S:=⟨by simp,fun a=>zuU (k:=k) (w3:= .non) h2 a S .refl⟩;simp only[zic,zmF,zkU,zej,zrw,List.getElem?_cons_succ,List.getElem?_cons_zero,zlR,zhX,Bool.false_eq_true,if_false];split
 ·simp only[zfP,zdT,zdU,zeO,zej,zhR,List.getElem?_cons_succ,List.getElem?_cons_zero,List.set_cons_succ,List.set_cons_zero];refine znD hn ?_;exact no
 ·split
  ·simp only[zfP,zdT,zdU,zeO,zej,zhR,List.getElem?_cons_succ,List.getElem?_cons_zero,List.set_cons_succ,List.set_cons_zero];refine zlB hn ?_;exact no
  ·simp only[zfP,zdT,zdU,zeO,zej,zhR,List.getElem?_cons_succ,List.getElem?_cons_zero,List.set_cons_succ,List.set_cons_zero];refine zmx hn ?_;exact no
open Classical in
theorem gd4{y2 y3:Option W}(hx:x.length≤100000) (hw:way=0∨way=1∨way=2) (h4:way≠2→x.length≤4000) (hr:150≤r) (h:T EX D [some (.str x),some (.int way),y2,y3,y4,some (.bl (decide (∃w,Res way x w)))] S):zbG r T EX D [some (.str x),some (.int way),y2,y3,y4,y5] S:=by
 obtain⟨r,rfl⟩:∃r',r=r'+4:=⟨r - 4,by omega⟩
 rw [zbG];walk_at "wp";rcases hw with rfl |rfl |rfl
 ·have e:decide (∃w,Res 0 x w)=(rdA false (cl x)).isSome:=by
   cases e:rdA false (cl x) with
   |some t=>exact decide_eq_true ⟨_,h4 (by decide), .inl ⟨rfl,t,e,rfl⟩⟩
   |none=>
    refine decide_eq_false fun⟨w,_,z⟩=>?_;rcases z with⟨_,t,z,_⟩ |⟨z,_⟩ |⟨z,_⟩
    ·rw [e]at z;cases z
    ·cases z
    ·cases z
  rw [e]at h;refine zeW (r:=r+1) (b:=false) hx ?_;cases e9:(rdA false (cl x)).isSome with
  |true=>rw [e9]at h;exact h
  |false=>rw [e9]at h;exact h
 ·have e:decide (∃w,Res 1 x w)=(rdA true (cl x)).isSome:=by
   cases e:rdA true (cl x) with
   |some t=>exact decide_eq_true ⟨_,h4 (by decide), .inr (.inl ⟨rfl,t,e,rfl⟩)⟩
   |none=>
    refine decide_eq_false fun⟨w,_,z⟩=>?_;rcases z with⟨z,_⟩ |⟨_,t,z,_⟩ |⟨z,_⟩
    ·cases z
    ·rw [e]at z;cases z
    ·cases z
  rw [e]at h;refine zeW (r:=r+1) (b:=true) hx ?_;cases e9:(rdA true (cl x)).isSome with
  |true=>rw [e9]at h;exact h
  |false=>rw [e9]at h;exact h
 ·have e:decide (∃w,Res 2 x w)=decide (x.length≤4000∧ ∃s t u,Tur (cl x) s t u):=by
   congr 1;apply propext;refine⟨fun⟨w,g,z⟩=>?_,fun⟨g,s,t,u,z⟩=>⟨_,g, .inr (.inr ⟨rfl,s,t,u,z,rfl⟩)⟩⟩;rcases z with⟨z,_⟩ |⟨z,_⟩ |⟨_,s,t,u,z,_⟩
   ·cases z
   ·cases z
   ·exact⟨g,s,t,u,z⟩
  rw [e]at h;exact zkv hx h
theorem zvw{w:W}{y2 y3:Option W}(hn:NoStr S w) (h:T EX D [some w,some (.int way),y2,y3,y4,some (.bl false)] S):zbG r T EX D [some w,some (.int way),y2,y3,y4,y5] S:=by
 have q1:zbv "NoneType" "str" =false:=by decide
 rw [zbG];cases hn with
 |non=>
  walk_at "wp"
  try rw [q1]
  exact h
 |int=>
  walk_at "wp";exact h
 |bl=>
  walk_at "wp";exact h
 |tup=>
  walk_at "wp";exact h
 |ref ha=>
  walk_at "wp";rw [zas ha];exact h
theorem zot{k q:Addr}(hk:S k=some (.lst [.bl true, .bl true, .bl false])) (hq:S q=some (.lst [.bl true, .bl true, .bl false])):eqF S 60 (.ref k) (.ref q)=some true:=by
 show(match S k with
  |some (.lst xs)=>match S q with
   |some (.lst ys)=>zhE (eqF S 59) xs ys
   |_=>none
  |_=>none)=some true
 rw [hk,hq];rfl
theorem zqi{k q:Addr}(hk:S k=some (.lst [])) (hq:S q=some (.lst [])):eqF S 60 (.ref k) (.ref q)=some true:=by
 show(match S k with
  |some (.lst xs)=>match S q with
   |some (.lst ys)=>zhE (eqF S 59) xs ys
   |_=>none
  |_=>none)=some true
 rw [hk,hq];rfl
theorem zuT{y0 y1 y3:Option W}(hk:S k=some (.lst [.bl true, .bl true, .bl false])) (h:∀S',Sub S S'→D.rt (.bl true) S'):zbM r T EX D [y0,y1,some (.ref k),y3,y4,some (.bl false)] S:=by
 rw [zbM];walk_at "wp";refine⟨by decide,fun q hq=>?_⟩;rw [zot (keep hk hq) zaj];exact h _ (.put .refl hq)
theorem gd5{y0 y1 y2 y3:Option W}(h:T EX D [y0,y1,y2,y3,y4,some (.bl true)] S):zbM r T EX D [y0,y1,y2,y3,y4,some (.bl true)] S:=by
 rw [zbM];walk_at "wp";exact h
theorem gd6{w:W}{y5:Option W}(hk:S k=some (.lst [])) (hw:Res way x w) (hr:150≤r) (h:∀S',Sub S S'→D.rt (.bl true) S'):zcZ r EX D [some (.str x),some (.int way),some (.ref k),some w,y4,y5] S:=by
 obtain⟨r,rfl⟩:∃r',r=r'+1:=⟨r - 1,by omega⟩
 rw [zcZ];walk_at "wp";refine⟨by decide,fun q hq=>?_⟩;rw [zqi (keep hk hq) zaj];dsimp only;refine zkK hw (by omega) ?_;walk_at "wp";rw [beq_self_eq_true];exact h _ (.put .refl hq)
open Classical in
theorem zja (hx:x.length≤100000) (hw:way=0∨way=1∨way=2) (h4:way≠2→x.length≤4000) (hr:150≤r) (h:∀S',Sub S S'→Q (.bl true) S'):zaM (r+1) [.str x, .int way] S Q E:=by
 rw [zaM,zeK];refine⟨rfl,?_⟩;rw [zda];walk_at "wp";refine⟨by decide,fun k hk=>?_⟩;have s0:Sub S (put S k (.lst [])):= .put .refl hk;have fk:put S k (.lst []) k=some (.lst []):=zaj;generalize put S k (.lst [])=S1 at s0 fk;rw [zdb];walk_at "wp";refine gd3 hx hw hr (fun w S' z hs=>?_) fun z S' k2 hs f2=>?_
 ·refine gd4 hx hw h4 hr ?_;rw [decide_eq_true ⟨w,z⟩];exact gd5 (gd6 (hs _ _ fk) z hr fun S2 s2=>⟨_, .refl,h _ (s0.trans (hs.trans s2))⟩)
 ·refine gd4 hx hw h4 hr ?_;rw [decide_eq_false fun⟨w,q⟩=>z w q];exact zuT f2 fun S2 s2=>⟨_, .refl,h _ (s0.trans (hs.trans s2))⟩
theorem NoStr.sub{S':Sto}{w:W}(h:NoStr S w) (s:Sub S S'):NoStr S' w:=by
 cases h with
 |non=>exact .non
 |int=>exact .int
 |bl=>exact .bl
 |tup=>exact .tup
 |ref ha=>exact .ref (s _ _ ha)
theorem zng{w:W}(hn:NoStr S w) (hr:150≤r) (h:∀S',Sub S S'→Q (.bl true) S'):zaM (r+1) [w, .int way] S Q E:=by
 rw [zaM,zeK];refine⟨rfl,?_⟩;rw [zda];walk_at "wp";refine⟨by decide,fun k hk=>?_⟩;have s0:Sub S (put S k (.lst [])):= .put .refl hk;generalize put S k (.lst [])=S1 at s0;rw [zdb];walk_at "wp";refine zvL (hn.sub s0) hr fun S' k2 hs f2=>zvw (hn.sub (s0.trans hs)) (zuT f2 fun S2 s2=>⟨_, .refl,h _ (s0.trans (hs.trans s2))⟩)
end
theorem zjN{hs:List Str}{ls:List Tr}{t:Tr}(h:Made hs ls t) {b:Bool}(h1:∀x∈hs,zeQ x∨b=false∧zeD x) (h2:∀l∈ls,Wrt b l):Wrt b t:=by
 induction h with
 |leaf hm=>exact h2 _ hm
 |node hh _ _ _ ih=>exact .nd (h1 _ hh) ih
section
variable {S:Sto}{a b:Addr}{s0 s1 s2 s3 t0 t1:Str}
structure P05 (S:Sto) (a b:Addr) (s0 s1 s2 s3 t0 t1:Str):Prop where
  fa:S a=some (.lst [.str s0, .str s1, .str s2, .str s3])
  fb:S b=some (.lst [.str t0, .str t1])
  ss:∀x∈ [s0,s1,s2,s3],zeQ x
  tt:∀x∈ [t0,t1],zeD x
theorem P05.sub{S':Sto}(P:P05 S a b s0 s1 s2 s3 t0 t1) (h:Sub S S'):P05 S' a b s0 s1 s2 s3 t0 t1:=⟨h _ _ P.fa,h _ _ P.fb,P.ss,P.tt⟩
end
theorem zha{ns:List Int}(i j:Nat):(zdr ns (some (i:Int)) (some (j:Int))).length=min j ns.length - min i ns.length:=by
 unfold zdr;rw [HT.sIx_nat,HT.sIx_nat,List.length_take,List.length_drop];omega
section
variable {S:Sto}{Q:WK}{E:Str→Sto→Prop}{a:Addr}{x y:Str}{b:Bool}{r:Nat}{c:Int}
theorem zpj{n:Nat}:(Txt.slice x (some (n:Int)) none).length≤x.length - n:=by
 rw [zfw,cl,zba];unfold ziD;rw [HT.sIx_nat,zfw];simp only[List.length_take,List.length_drop];show min _ ((cl x).length - min n (cl x).length)≤(cl x).length - n;omega
theorem zrk{n:Nat}:(Txt.slice x none (some (n:Int))).length≤n:=by
 rw [zfw,cl,zba];unfold ziD;rw [HT.sIx_nat];simp only[List.length_take,List.length_drop];omega
theorem zsD{n m:Nat}:(Txt.slice x (some (n:Int)) (some ((n+m:Nat):Int))).length≤m:=by
 rw [zfw,cl,zba];unfold ziD;rw [HT.sIx_nat,HT.sIx_nat];simp only[List.length_take,List.length_drop];omega
theorem zfF:(Str.ofString "abzAZ019?(),:> _+-\n\t").length=20:=by decide +kernel
theorem zkF (h0:0≤c) (hx0:1≤x.length) (hx:x.length≤3000) (h:∀y:Str,y.length≤x.length+1→Q (.str y) S):zbR (r+1) [.str x, .int c] S Q E:=by
 have hll:x.length≤sizeLine:=zaf (by omega);have h20:(Str.ofString "abzAZ019?(),:> _+-\n\t").length≤sizeLine:=by rw [zfF];decide
 rw [zbR];walk_at "wp";refine⟨by decide,⟨by decide,by decide⟩,hll,by omega,⟨by decide,by decide⟩,hll,⟨?_,?_⟩,h20,by rw [zfF];decide,h20,?_⟩
 ·omega
 ·omega
 ·have m0:0≤c / 5 % (x.length:Int):=Int.emod_nonneg _ (by omega);have m1:c / 5 % (x.length:Int)<x.length:=Int.emod_lt_of_pos _ (by omega);have z0:0≤c / 5 / (x.length:Int) % ((Str.ofString "abzAZ019?(),:> _+-\n\t").length:Int):=Int.emod_nonneg _ (by rw [zfF];decide);have z1:c / 5 / (x.length:Int) % ((Str.ofString "abzAZ019?(),:> _+-\n\t").length:Int)<((Str.ofString "abzAZ019?(),:> _+-\n\t").length:Int):=Int.emod_lt_of_pos _ (by rw [zfF];decide);generalize c / 5 / (x.length:Int) % ((Str.ofString "abzAZ019?(),:> _+-\n\t").length:Int)=z at z0 z1;generalize c / 5 % (x.length:Int)=m at m0 m1;obtain⟨n,rfl⟩:∃n:Nat,m=n:=⟨m.toNat,by omega⟩
  obtain⟨d,ed,_⟩:=zmi (xs:=(Str.ofString "abzAZ019?(),:> _+-\n\t").cps.toList) z0 (by
   have:(Str.ofString "abzAZ019?(),:> _+-\n\t").cps.toList.length=(Str.ofString "abzAZ019?(),:> _+-\n\t").length:=by simp [Str.length]
   rw [this];exact z1)
  rw [ed];dsimp only;have e1:((n:Int)+1)=((n+1:Nat):Int):=by omega
  have e2:((n:Int)+2)=((n+1+1:Nat):Int):=by omega
  rw [e1,e2];have l1:=zrk (x:=x) (n:=n);have l2:=zrk (x:=x) (n:=n+1);have l3:=zpj (x:=x) (n:=n);have l4:=zpj (x:=x) (n:=n+1);have l5:=zpj (x:=x) (n:=n+1+1);have l6:=zsD (x:=x) (n:=n) (m:=1);have l7:=zsD (x:=x) (n:=n+1) (m:=1);have l8:(⟨#[d]⟩:Str).length=1:=rfl;have fin:∀y:Str,y.length≤x.length+1→ ∃S'',Sub S'' S∧Q (.str y) S'':=fun y hy=>⟨_, .refl,h y hy⟩;split
  ·exact⟨hll,hll,zaf (by omega),fin _ (by rw [Str.length_append];omega)⟩
  ·split
   ·exact⟨hll,hll,zaf (by omega),fin _ (by rw [Str.length_append];omega)⟩
   ·split
    ·exact⟨hll,zaf (by omega),hll,zaf (by rw [Str.length_append];omega),fin _ (by rw [Str.length_append,Str.length_append];omega)⟩
    ·split
     ·exact⟨hll,zaf (by omega),hll,zaf (by rw [Str.length_append];omega),fin _ (by rw [Str.length_append,Str.length_append];omega)⟩
     ·refine⟨hll,hll,zaf (by omega),hll,zaf (by rw [Str.length_append];omega),hll,zaf (by rw [Str.length_append,Str.length_append];omega),fin _ ?_⟩;rw [Str.length_append,Str.length_append,Str.length_append];omega
structure ShL (ws:List W):Prop where
  ne:ws≠ []
  ln:ws.length≤50
  al:∀w∈ws,∃y:Str,w= .str y∧y.length≤100
noncomputable def zuA (ls:List String):List W:=ls.map fun s=>W.str (Str.ofString s)
theorem zli{ls:List String}(h:∀s∈ls,(Str.ofString s).length≤100):∀w∈zuA ls,∃y:Str,w= .str y∧y.length≤100:=fun w hw=>by
 obtain⟨s,hs,rfl⟩:=List.mem_map.mp hw;exact⟨_,rfl,h s hs⟩
theorem ShL.app{ws:List W}{ls:List String}(h:ShL ws) (hl:ws.length+ls.length≤50) (g:∀s∈ls,(Str.ofString s).length≤100):ShL (ws++zuA ls):=⟨by simp [h.ne],by rw [List.length_append,zuA,List.length_map];exact hl,fun w hw=>by
 rcases List.mem_append.mp hw with hw |hw
 ·exact h.al w hw
 ·exact zli g w hw⟩
variable {T:WS}{EX:WX}{D:WEnds}{y0 y1:Option W}
theorem zvN (h:∀S' a ws,Sub S S'→S' a=some (.lst ws)→ShL ws→ws.length=15→T EX D [y0,some (.ref a)] S'):zdw r T EX D [y0,y1] S:=by
 rw [zdw];walk_at "wp";refine⟨by decide,fun a ha=>h _ a _ (.put .refl ha) zaj ⟨by simp,by decide,?_⟩ rfl⟩
 exact zli (ls:=["", " ", "a ", " a", "a()", "a(,b)", "a(b,)", "a(b", "a)b", "(a)", "a(b)(c)", "A", "Ab", "aB", "?0"]) (by decide +kernel)
theorem zvq{ws:List W}(ha:S a=some (.lst ws)) (g:ShL ws) (hl:ws.length=15) (h:∀S' a ws,Sub S S'→S' a=some (.lst ws)→ShL ws→ws.length=25→T EX D [y0,some (.ref a)] S'):zdv r T EX D [y0,some (.ref a)] S:=by
 rw [zdv];walk_at "wp";rw [zas ha];refine⟨by decide,zaf (by simp;omega),fun q hq=>h _ q _ (.put .refl hq) zaj ?_ (by simp;omega)⟩;exact g.app (ls:=["?", "?-1", "?00", "?07", "?100", "?1_0", "?+1", "a1", "abcdefghi", "?0(a)"]) (by simp;omega) (by decide +kernel)
theorem zvC{ws:List W}(ha:S a=some (.lst ws)) (g:ShL ws) (hl:ws.length=25) (h:∀S' a ws,Sub S S'→S' a=some (.lst ws)→ShL ws→ws.length=34→T EX D [y0,some (.ref a)] S'):zdt r T EX D [y0,some (.ref a)] S:=by
 rw [zdt];walk_at "wp";rw [zas ha];refine⟨by decide,zaf (by simp;omega),fun q hq=>h _ q _ (.put .refl hq) zaj ?_ (by simp;omega)⟩;exact g.app (ls:=["a(b))", "a\n", "a,b", "?9 ", "a(b;c)", "Ab(", "A: a > ?0", "a: a > a", "A: a > "]) (by simp;omega) (by decide +kernel)
theorem zvy{ws:List W}(ha:S a=some (.lst ws)) (g:ShL ws) (hl:ws.length=34) (h:∀S' a ws,Sub S S'→S' a=some (.lst ws)→ShL ws→ws.length=41→T EX D [y0,some (.ref a)] S'):zdA r T EX D [y0,some (.ref a)] S:=by
 rw [zdA];walk_at "wp";rw [zas ha];refine⟨by decide,zaf (by simp;omega),fun q hq=>h _ q _ (.put .refl hq) zaj ?_ (by simp;omega)⟩;exact g.app (ls:=["A:a > a", "A: a >a", "A: a > a > a", "A: B > a", "AB(a)", "? 1", "?99"]) (by simp;omega) (by decide +kernel)
theorem zvE{ws:List W}(ha:S a=some (.lst ws)) (g:ShL ws) (hl:ws.length=41) (h:∀S' a ws,Sub S S'→S' a=some (.lst ws)→ShL ws→T EX D [y0,some (.ref a)] S'):zds r T EX D [y0,some (.ref a)] S:=by
 rw [zds];walk_at "wp";rw [zas ha];refine⟨by decide,zaf (by simp;omega),fun q hq=>h _ q _ (.put .refl hq) zaj ?_⟩;exact g.app (ls:=["a(?0,?0)", "Abcdefghi", "A: ?0 > ?7", "a(b ,c)", "a (b)", "A : a > a"]) (by simp;omega) (by decide +kernel)
theorem zvM{ws:List W}(ha:S a=some (.lst ws)) (g:ShL ws) (h:∀y:Str,y.length≤100→D.rt (.str y) S):zdu r EX D [some (.int c),some (.ref a)] S:=by
 rw [zdu];walk_at "wp";rw [zas ha];obtain⟨j,w,e1,e2⟩:=zlD c g.ne;obtain⟨y,rfl,hy⟩:=g.al w (List.mem_of_getElem? e1);have:=List.length_pos_iff.mpr g.ne;refine⟨by omega,?_⟩;rw [zas ha,e2];exact h y hy
theorem zsq (h:∀(S':Sto) (y:Str),Sub S S'→y.length≤100→Q (.str y) S'):zdO (r+1) [.int c] S Q E:=by
 rw [zdO,zeK];refine⟨rfl,?_⟩;refine zvN fun S1 a1 w1 s1 f1 g1 l1=>zvq f1 g1 l1 fun S2 a2 w2 s2 f2 g2 l2=>zvC f2 g2 l2 fun S3 a3 w3 s3 f3 g3 l3=>zvy f3 g3 l3 fun S4 a4 w4 s4 f4 g4 l4=>zvE f4 g4 l4 fun S5 a5 w5 s5 f5 g5=>?_;exact zvM f5 g5 fun y hy=>⟨_, .refl,h _ y (s1.trans (s2.trans (s3.trans (s4.trans s5)))) hy⟩
theorem zdY{n:Nat}:(zkk x n).length=n*x.length:=by
 unfold zkk;show(List.replicate n x.cps.toList).flatten.toArray.size=_;rw [List.size_toArray,List.length_flatten,List.map_replicate,List.sum_replicate_nat];simp [Str.length]
theorem zkg:∀(ys:List Str) (z:Str),(Str.join z ys).length≤(ys.map (·.length)).sum+ys.length*z.length
 | [],z=>by show 0≤_;omega
 | [y],z=>by show y.length≤_;simp
 |y::y2::ys,z=>by
  show(y++z++Str.join z (y2::ys)).length≤_;have:=zkg (y2::ys) z;rw [Str.length_append,Str.length_append];simp only[List.map_cons,List.sum_cons,List.length_cons]at *;rw [Nat.add_mul (ys.length+1) 1];omega
theorem ziz{n:Nat}:zel (List.replicate n [W.str x]).flatten=some (List.replicate n x):=by
 rw [List.flatten_replicate_singleton];have:=zju (fun y:Str=>y) (List.replicate n x);rw [List.map_replicate]at this;simpa using this
theorem zjC{n:Nat}(hx:x.length≤8) (hn:n≤400):((List.replicate n x).map (·.length)).sum+(List.replicate n x).length*(Str.ofString ",").length≤3600∧(Str.join (Str.ofString ",") (List.replicate n x)).length≤n*x.length+n:=by
 have:=zkg (List.replicate n x) (Str.ofString ",");rw [List.map_replicate,List.sum_replicate_nat,List.length_replicate,sl3]at *;have h1:n*x.length≤400*8:=Nat.mul_le_mul hn hx;omega
variable {y2 y3 y4:Option W}{o:Int}{s0 s1 s2 s3:Str}
theorem zvK (fa:S a=some (.lst [.str s0, .str s1, .str s2, .str s3])) (h0:s0.length≤8) (h1:s1.length≤8) (ho: -1≤o) (ho1:o≤1) (h:∀y:Str,y.length≤4000→D.rt (.str y) S) :
  zcn r (zcg r) EX D [y0,some (.ref a),some (.int o),y3,y4] S:=by
 rw [zcn];walk_at "wp";rw [zcg];walk_at "wp";simp only[zas fa,zbX,List.getElem?_cons_zero];walk_at "wp";have e1:(s0++Str.ofString "(").length≤9:=by rw [Str.length_append,sl2];omega
 have hk:(39+o).toNat≤40:=by omega
 have m1:(39+o).toNat*(s0++Str.ofString "(").length≤40*9:=Nat.mul_le_mul hk e1;have m2:(39+o).toNat*(Str.ofString ")").length≤40*1:=Nat.mul_le_mul hk (by rw [sl4];exact Nat.le_refl _);have m3:(Str.ofString ")").length*(39+o).toNat≤40:=by rw [sl4];omega
 have m4:(s0++Str.ofString "(").length*(39+o).toNat≤360:=by rw [Nat.mul_comm];exact m1
 simp only[zoy,sl2];refine⟨zaf (by omega),⟨by omega,by omega,by omega⟩,?_⟩
 rw [zas fa,show atI [W.str s0, .str s1, .str s2, .str s3] 1=some (.str s1) from rfl];walk_at "wp";rw [zdY];refine⟨zaf (by omega),⟨by omega,by omega,by omega⟩,?_⟩
 rw [Str.length_append,zdY,zdY];refine⟨zaf (by omega),h _ ?_⟩;rw [Str.length_append,Str.length_append,zdY,zdY];omega
theorem zvo (hc:c % 3=1) (fa:S a=some (.lst [.str s0, .str s1, .str s2, .str s3])) (h0:s0.length≤8) (h1:s1.length≤8) (ho: -1≤o) (ho1:o≤1) (h:∀y:Str,y.length≤4000→D.rt (.str y) S) :
  zbP r T EX D [some (.int c),some (.ref a),some (.int o),y3,y4] S:=by
 rw [zbP];walk_at "wp";refine⟨by decide,?_⟩;rw [if_pos (by rw [hc];rfl)];simp only[zas fa,zbX,List.getElem?_cons_zero];walk_at "wp";have hk:(399+o).toNat≤400:=by omega
 obtain⟨j1,j2⟩:=zjC h1 hk;have m1:(399+o).toNat*s1.length≤400*8:=Nat.mul_le_mul hk h1;rw [sl2];refine⟨zaf (by omega),?_⟩;rw [zas fa,show atI [W.str s0, .str s1, .str s2, .str s3] 1=some (.str s1) from rfl];dsimp only;refine⟨by decide,⟨by omega,by omega,zaf (by omega)⟩,?_⟩
 rw [ziz];refine⟨by omega,?_⟩
 try walk_at "wp"
 simp only[Str.length_append,sl2,sl4];refine⟨zaf (by omega),zaf (by omega),h _ ?_⟩;simp only[Str.length_append,sl2,sl4];omega
theorem zvv (h:∀y:Str,y.length≤2000→T EX D [y0,y1,y2,y3,some (.str y)] S):zcA r T EX D [y0,y1,y2,y3,y4] S:=by
 rw [zcA];walk_at "wp";have e8:(Str.ofString "abcdefgh").length=8:=by decide +kernel
 obtain⟨j1,j2⟩:=zjC (x:=Str.ofString "abcdefgh") (n:=(221:Int).toNat) (by rw [e8];exact Nat.le_refl _) (by decide);refine⟨by decide,⟨by decide,by decide,by decide⟩,?_⟩
 rw [ziz];refine⟨by omega,h _ ?_⟩;rw [e8]at j2;exact Nat.le_trans j2 (by decide)
theorem zva (hx:x.length≤2000) (ho: -1≤o) (ho1:o≤1) (h:∀y:Str,y.length≤5000→D.rt (.str y) S):zcu r EX D [y0,y1,some (.int o),y3,some (.str x)] S:=by
 have q1:(Str.ofString "T: zyxwvuts(").length=12:=by decide +kernel
 have q2:(Str.ofString ") > ").length=4:=by decide +kernel
 have q3:(Str.ofString "a").length=1:=by decide +kernel
 rw [zcu];walk_at "wp";simp only[zoy]
 try walk_at "wp"
 simp only[Str.length_append,zdY,q1,q2,q3,sl2,sl4];refine⟨zaf (by omega),zaf (by omega),⟨by omega,by omega,by omega⟩,zaf (by omega),zaf (by omega),zaf (by omega),zaf (by omega),h _ ?_⟩
 simp only[Str.length_append,zdY,q1,q2,q3,sl2,sl4];omega
theorem znB (hc:0≤c) (fa:S a=some (.lst [.str s0, .str s1, .str s2, .str s3])) (h0:s0.length≤8) (h1:s1.length≤8) (h:∀y:Str,y.length≤5000→(c % 3≠2→y.length≤4000)→Q (.str y) S):zcE (r+1) [.int c, .ref a] S Q E:=by
 have m0:0≤c / 3 % 3:=Int.emod_nonneg _ (by decide);have m1:c / 3 % 3<3:=Int.emod_lt_of_pos _ (by decide);have n0:0≤c % 3:=Int.emod_nonneg _ (by decide);have n1:c % 3<3:=Int.emod_lt_of_pos _ (by decide);rw [zcE,zeK];refine⟨rfl,?_⟩;rw [zdD];walk_at "wp";refine⟨⟨by decide,by decide⟩,by decide,?_⟩
 rw [zdH];walk_at "wp";refine⟨by decide,?_⟩;by_cases h3:c % 3=0
 ·rw [if_pos (by rw [h3];rfl)];exact zvK fa h0 h1 (by omega) (by omega) fun y hy=>⟨_, .refl,h y (by omega) fun _=>hy⟩
 ·rw [if_neg (by rw [beq_iff_eq];exact h3)];by_cases h4:c % 3=1
  ·exact zvo h4 fa h0 h1 (by omega) (by omega) fun y hy=>⟨_, .refl,h y (by omega) fun _=>hy⟩
  ·rw [zbP];walk_at "wp";refine⟨by decide,?_⟩;rw [if_neg (by rw [beq_iff_eq];exact h4)];exact zvv fun y hy=>zva hy (by omega) (by omega) fun y hy=>⟨_, .refl,h y hy fun z=>by omega⟩
end
section
variable {S:Sto}{E:WX}{D:WEnds}{T:WS}{ns:List Int}{a b l f:Addr}{t:Tr}{s0 s1 s2 s3 t0 t1 x:Str}{y1 y2 y3 y4 y5 y6 y7 y8 y9 y10 y11 y12:Option W}{c n:Int}
theorem ztD (h:∀S' a s0 s1 s2 s3,S' a=some (.lst [.str s0, .str s1, .str s2, .str s3])→(∀x∈ [s0,s1,s2,s3],zeQ x)→T E D [some (.scr ns),some (.ref a),y2,y3,y4,y5,y6,y7,y8,y9,y10,y11,y12] S') :
  zdk 199 T E D [some (.scr ns),y1,y2,y3,y4,y5,y6,y7,y8,y9,y10,y11,y12] S:=by
 rw [zdk];walk_at "wp";refine zjU (many:=4) (by decide) (by decide) (by decide) fun a ss ha hsl hss=>?_
 match ss,hsl with
 | [s0,s1,s2,s3],_=>exact h _ a s0 s1 s2 s3 zaj hss
theorem ztz (fa:S a=some (.lst [.str s0, .str s1, .str s2, .str s3])) (hs:∀x∈ [s0,s1,s2,s3],zeQ x) (h:∀S' b t0 t1,P05 S' a b s0 s1 s2 s3 t0 t1→T E D [some (.scr ns),some (.ref a),some (.ref b),y3,y4,y5,y6,y7,y8,y9,y10,y11,y12] S') :
  zdi 199 T E D [some (.scr ns),some (.ref a),y2,y3,y4,y5,y6,y7,y8,y9,y10,y11,y12] S:=by
 rw [zdi];walk_at "wp";refine zkZ (many:=2) (by decide) (by decide) (by decide) fun b tt hb htl htt=>?_
 match tt,htl with
 | [t0,t1],_=>exact h _ b t0 t1 ⟨keep fa hb,zaj,hs,htt⟩
theorem zun (P:P05 S a b s0 s1 s2 s3 t0 t1) (h:∀S',P05 S' a b s0 s1 s2 s3 t0 t1→T E D [some (.scr ns),some (.ref a),some (.ref b),some (.int (4+((zdr ns (some 4) (some 40)).length:Int) / 2)),y4,y5,y6,y7,y8,y9,y10,y11,y12] S') :
  zdj 199 T E D [some (.scr ns),some (.ref a),some (.ref b),y3,y4,y5,y6,y7,y8,y9,y10,y11,y12] S:=by
 rw [zdj];walk_at "wp";intro p hp;rw [List.length_map];exact⟨⟨by decide,by decide⟩,h _ (P.sub (.put .refl hp))⟩
theorem zuE (P:P05 S a b s0 s1 s2 s3 t0 t1) (h:∀S' l,P05 S' a b s0 s1 s2 s3 t0 t1→S' l=some (.lst (zbx [.nd s0 [], .nd t0 [], .nd s2 []]))→T E D [some (.scr ns),some (.ref a),some (.ref b),y3,some (.ref l),y5,y6,y7,y8,y9,y10,y11,y12] S') :
  zdm 199 T E D [some (.scr ns),some (.ref a),some (.ref b),y3,y4,y5,y6,y7,y8,y9,y10,y11,y12] S:=by
 rw [zdm];walk_at "wp";simp only[zas P.fa,zas P.fb,zbX,zps,List.getElem?_cons_succ,List.getElem?_cons_zero];refine⟨by decide,by decide,by decide,by decide,fun z hz=>h _ z (P.sub (.put .refl hz)) ?_⟩
 rw [zaj];simp [zbx,enc]
structure Txo (x:Str):Prop where
  p:1≤x.length
  q:x.length≤2900
theorem zoR{bb:Bool}(wt:Wrt bb t) (pt:Plain t) (g:t.weight≤40):t.depth≤40∧Txo t.txt:=by
 have h1:=zep t;have h2:=zgL pt;have h3:=zpa wt;have h4:=zgG t;have h5:t.txt.length=(cl t.txt).length:=zfw;exact⟨by omega,by omega,by omega⟩
theorem ztB (hl:ns.length≤63) (hc:(zdr ns (some 4) (some c)).length≤19) (P:P05 S a b s0 s1 s2 s3 t0 t1) (fl:S l=some (.lst (zbx [.nd s0 [], .nd t0 [], .nd s2 []]))) (h:∀S' x,P05 S' a b s0 s1 s2 s3 t0 t1→Txo x→T E D [some (.scr ns),some (.ref a),some (.ref b),some (.int c),some (.ref l),some (.str x),y6,y7,y8,y9,y10,y11,y12] S') :
  zdg 199 T E D [some (.scr ns),some (.ref a),some (.ref b),some (.int c),some (.ref l),y5,y6,y7,y8,y9,y10,y11,y12] S:=by
 rw [zdg];walk_at "wp";intro p hp;have s1':Sub S (put S p (.lst ((zdr ns (some 4) (some c)).map W.int))):= .put .refl hp;have P1:=P.sub s1';have fl1:=s1' _ _ fl;rw [zas P1.fa,zas P1.fb];refine⟨zaf (by simp),fun q hq=>?_⟩;have s2':Sub _ (put (put S p (.lst ((zdr ns (some 4) (some c)).map W.int))) q (.lst ([.str s0, .str s1, .str s2, .str s3]++[.str t0, .str t1]))):= .put .refl hq;have P2:=P1.sub s2';have fl2:=s2' _ _ fl1;have fp:=s2' p _ zaj;have fq:put (put S p (.lst ((zdr ns (some 4) (some c)).map W.int))) q (.lst ([.str s0, .str s1, .str s2, .str s3]++[.str t0, .str t1])) q=some (.lst ([s0,s1,s2,s3,t0,t1].map W.str)):=zaj;simp only[List.cons_append,List.nil_append]at P2 fp fq fl2⊢;generalize put (put S p _) q _=S3 at P2 fp fq fl2⊢;have all:∀x∈ [s0,s1,s2,s3,t0,t1],zeQ x∨false=false∧zeD x:=fun x hx=>by
  rcases List.mem_append.mp (show x∈ [s0,s1,s2,s3]++[t0,t1] from hx) with z |z
  ·exact .inl (P.ss x z)
  ·exact .inr ⟨rfl,P.tt x z⟩
 have al8:∀x∈ [s0,s1,s2,s3,t0,t1],x.length≤8:=fun x hx=>by
  rcases all x hx with z |⟨_,z⟩
  ·exact zfd z
  ·exact zfK z
 refine zkc (ns:=zdr ns (some 4) (some c)) (hs:=[s0,s1,s2,s3,t0,t1]) (ls:=[.nd s0 [], .nd t0 [], .nd s2 []]) fp fq fl2 (by simp) (by simp) (by simp [Tr.weight,wts]) (by omega) fun t hm hw=>?_;have wt:Wrt false t:=zjN hm all fun l hl=>by
  simp only[List.mem_cons,List.not_mem_nil,or_false]at hl;rcases hl with rfl |rfl |rfl<;>exact .nd (all _ (by simp)) fun _ z=>nomatch z
 have pt:Plain t:=zkA hm al8 fun l hl=>by
  simp only[List.mem_cons,List.not_mem_nil,or_false]at hl;rcases hl with rfl |rfl |rfl<;>exact .nd (al8 _ (by simp)) fun _ z=>nomatch z
 obtain⟨dt,xt⟩:=zoR wt pt (by omega);refine zdd 40 dt (by decide) pt (by omega) ?_;exact h _ _ P2 xt
theorem ztH (P:P05 S a b s0 s1 s2 s3 t0 t1) (h:∀S' l (n:Int),0≤n→n<100→P05 S' a b s0 s1 s2 s3 t0 t1→S' l=some (.lst (zbx [.nd s0 [], .bl 0, .nd s3 [], .bl n, .bl 2]))→T E D [some (.scr ns),some (.ref a),some (.ref b),y3,y4,y5,some (.ref l),y7,y8,y9,y10,y11,y12] S') :
  zdo 199 T E D [some (.scr ns),some (.ref a),some (.ref b),y3,y4,y5,y6,y7,y8,y9,y10,y11,y12] S:=by
 rw [zdo];walk_at "wp";simp only[zas P.fa,zbX,List.getElem?_cons_succ,List.getElem?_cons_zero];rw [show atI [W.str s0, .str s1, .str s2, .str s3] 3=some (.str s3) from rfl];refine⟨by decide,by decide,?_⟩
 refine zfQ (by decide) (by decide) fun w h0 h1=>?_
 try walk_at "wp"
 refine⟨by decide,by decide,fun l hl=>?_⟩
 exact h _ l (w % 100) (Int.emod_nonneg _ (by decide)) (Int.emod_lt_of_pos _ (by decide)) (P.sub (.put .refl hl)) (by rw [zaj];simp [zbx,enc])
theorem ztJ (hn:ns.length≤63) (hc:(zdr ns (some c) (some 40)).length≤19) (h0:0≤n) (h1:n<100) (P:P05 S a b s0 s1 s2 s3 t0 t1) (fl:S l=some (.lst (zbx [.nd s0 [], .bl 0, .nd s3 [], .bl n, .bl 2]))) (h:∀S' x,P05 S' a b s0 s1 s2 s3 t0 t1→Txo x→x.length≤2600→T E D [some (.scr ns),some (.ref a),some (.ref b),some (.int c),y4,y5,some (.ref l),some (.str x),y8,y9,y10,y11,y12] S') :
  zdq 199 T E D [some (.scr ns),some (.ref a),some (.ref b),some (.int c),y4,y5,some (.ref l),y7,y8,y9,y10,y11,y12] S:=by
 rw [zdq];walk_at "wp";intro p hp;have s1':Sub S (put S p (.lst ((zdr ns (some c) (some 40)).map W.int))):= .put .refl hp;have P1:=P.sub s1';have fp:put S p (.lst ((zdr ns (some c) (some 40)).map W.int)) p=some (.lst ((zdr ns (some c) (some 40)).map W.int)):=zaj;have fl1:=s1' _ _ fl;generalize put S p _=S3 at P1 fp fl1⊢;have all:∀x∈ [s0,s1,s2,s3],zeQ x∨true=false∧zeD x:=fun x hx=> .inl (P.ss x hx);refine zkc (ns:=zdr ns (some c) (some 40)) (hs:=[s0,s1,s2,s3]) (ls:=[.nd s0 [], .bl 0, .nd s3 [], .bl n, .bl 2]) fp P1.fa fl1 (by simp) (by simp) (by simp [Tr.weight,wts]) (by omega) fun t hm hw=>?_;have wt:Wrt true t:=zjN hm all fun l hl=>by
  simp only[List.mem_cons,List.not_mem_nil,or_false]at hl;rcases hl with rfl |rfl |rfl |rfl |rfl
  ·exact .nd (all _ (by simp)) fun _ z=>nomatch z
  ·exact .bl rfl (by decide) (by decide)
  ·exact .nd (all _ (by simp)) fun _ z=>nomatch z
  ·exact .bl rfl h0 h1
  ·exact .bl rfl (by decide) (by decide)
 have pt:=zfh wt;obtain⟨dt,xt⟩:=zoR wt pt (by omega);refine zdd 40 dt (by decide) pt (by omega) ?_;exact h _ _ P1 xt (by have:=zgL pt;omega)
noncomputable def Tx3 (ws:List W):Prop:=∃x y z:Str,ws=[.str x, .str y, .str z]∧Txo x∧Txo y∧Txo z
theorem ztI{x y:Str}(hx:Txo x) (hy:Txo y) (hy4:y.length≤2600) (P:P05 S a b s0 s1 s2 s3 t0 t1) (h:∀S' f ws,P05 S' a b s0 s1 s2 s3 t0 t1→S' f=some (.lst ws)→Tx3 ws→T E D [some (.scr ns),some (.ref a),some (.ref b),y3,y4,some (.str x),y6,some (.str y),some (.ref f),y9,y10,y11,y12] S') :
  zde 199 T E D [some (.scr ns),some (.ref a),some (.ref b),y3,y4,some (.str x),y6,some (.str y),y8,y9,y10,y11,y12] S:=by
 have q1:=zfd (P.ss s0 (by simp));have q2:=zfK (P.tt t1 (by simp));rw [zde];walk_at "wp";rw [zas P.fb,show atI [W.str t0, .str t1] 1=some (.str t1) from rfl]
 try walk_at "wp"
 simp only[zas P.fa,zbX,List.getElem?_cons_zero]
 try walk_at "wp"
 have q3:=hy.q;simp only[Str.length_append,sl5,sl6];refine⟨zaf (by omega),zaf (by omega),zaf (by omega),?_⟩;refine⟨zaf (by omega),by decide,fun f hf=>h _ f _ (P.sub (.put .refl hf)) zaj ⟨_,_,_,rfl,hx,hy,?_,?_⟩⟩
 ·simp only[Str.length_append,sl5,sl6];omega
 ·simp only[Str.length_append,sl5,sl6];omega
end
section
variable {S:Sto}{E:WX}{D:WEnds}{T:WS}{ns:List Int}{a b f:Addr}{u:Tr}{s0 s1 s2 s3 t0 t1 x:Str}{y0 y1 y2 y3 y4 y5 y6 y7 y8 y9 y10 y11 y12:Option W}{c w:Int}{ws:List W}
theorem zrB{k:Nat}(hk:k<6) (h:∀c:Int,0≤c→T E D [some (.scr ns),y1,y2,y3,y4,y5,y6,y7,y8,some (.int k),some (.int c),y11,y12] S):zcI 199 T E D [some (.scr ns),y1,y2,y3,y4,y5,y6,y7,y8,some (.int k),y10,y11,y12] S:=by
 rw [zcI];walk_at "wp";exact zfQ (by omega) (by omega) fun w h0 _=>h w h0
theorem zrt (h:∀w:Int,(w=0∨w=1∨w=2)→T E D [y0,y1,y2,y3,y4,y5,y6,y7,y8,y9,some (.int c),some (.int w),y12] S):zcK 199 T E D [y0,y1,y2,y3,y4,y5,y6,y7,y8,y9,some (.int c),y11,y12] S:=by
 have m0:0≤c % 3:=Int.emod_nonneg _ (by decide);have m1:c % 3<3:=Int.emod_lt_of_pos _ (by decide);rw [zcK];walk_at "wp";exact⟨by decide,h _ (by omega)⟩
theorem zsx (hw:w=0∨w=1∨w=2) (hc:0≤c) (ff:S f=some (.lst ws)) (g:Tx3 ws) (h:∀S',Sub S S'→T E D [y0,y1,y2,y3,y4,y5,y6,y7,some (.ref f),y9,some (.int c),some (.int w),y12] S'):zcL 199 T E D [y0,y1,y2,y3,y4,y5,y6,y7,some (.ref f),y9,some (.int c),some (.int w),y12] S:=by
 obtain⟨x,y,z,rfl,hx,hy,hz⟩:=g;obtain⟨u,eu,hu⟩:∃u:Str,atI [W.str x, .str y, .str z] w=some (.str u)∧Txo u:=by
  rcases hw with rfl |rfl |rfl
  ·exact⟨x,rfl,hx⟩
  ·exact⟨y,rfl,hy⟩
  ·exact⟨z,rfl,hz⟩
 have hp:=hu.p;have hq:=hu.q;rw [zcL];walk_at "wp";rw [zas ff,eu];refine⟨⟨by decide,by decide⟩,?_⟩
 refine zkF (r:=198) (Int.ediv_nonneg hc (by decide)) hp (by omega) fun y hy=>?_;refine zja (r:=198) (by omega) hw (fun _=>by omega) (by decide) fun S' s'=>?_
 walk_at "wp";exact h _ s'
theorem zrr (hw:w=0∨w=1∨w=2) (h:∀S',Sub S S'→D.nx [y0,y1,y2,y3,y4,y5,y6,y7,y8,y9,some (.int c),some (.int w),y12] S'):zcB 199 E D [y0,y1,y2,y3,y4,y5,y6,y7,y8,y9,some (.int c),some (.int w),y12] S:=by
 rw [zcB];walk_at "wp";refine⟨⟨by decide,by decide⟩,?_⟩
 refine zsq (r:=198) fun S1 y s1 hy=>?_;refine zja (r:=198) (by omega) hw (fun _=>by omega) (by decide) fun S' s'=>?_
 walk_at "wp";exact h _ (s1.trans s')
theorem zui (P:P05 S a b s0 s1 s2 s3 t0 t1) (ff:S f=some (.lst ws)) (g:Tx3 ws) (h:∀S' z9 z10 z11,P05 S' a b s0 s1 s2 s3 t0 t1→T E D [some (.scr ns),some (.ref a),some (.ref b),y3,y4,y5,y6,y7,some (.ref f),z9,z10,z11,y12] S') :
  zdl 199 T E D [some (.scr ns),some (.ref a),some (.ref b),y3,y4,y5,y6,y7,some (.ref f),y9,y10,y11,y12] S:=by
 rw [zdl];walk_at "wp";refine⟨⟨by decide,by decide⟩,?_⟩
 refine zpS (fun _ σ S'=>∃z9 z10 z11,Sub S S'∧σ=[some (.scr ns),some (.ref a),some (.ref b),y3,y4,y5,y6,y7,some (.ref f),z9,z10,z11,y12]) 6 (fun j hj σ S1 N ⟨z9,z10,z11,sb,hσ⟩ hN=>?_) (fun σ S1 ⟨z9,z10,z11,sb,hσ⟩=>?_) ⟨_,_,_, .refl,rfl⟩
 ·subst hσ;exact h S1 _ _ _ (P.sub sb)
 ·subst hσ;rw [zhR,zeM];refine zrB hj fun c hc=>zrt fun w hw=>zsx hw hc (sb _ _ ff) g fun S2 s2=>zrr hw fun S3 s3=>?_;exact hN _ _ _ .refl ⟨_,_,_,sb.trans (s2.trans s3),rfl⟩
theorem zsm (h:∀c:Int,0≤c→T E D [some (.scr ns),y1,y2,y3,y4,y5,y6,y7,y8,y9,some (.int c),y11,y12] S):zcJ 199 T E D [some (.scr ns),y1,y2,y3,y4,y5,y6,y7,y8,y9,y10,y11,y12] S:=by
 rw [zcJ];walk_at "wp";exact zfQ (by decide) (by decide) fun w h0 _=>h w h0
theorem zsj (hc:0≤c) (P:P05 S a b s0 s1 s2 s3 t0 t1) (h:∀y:Str,y.length≤5000→(c % 3≠2→y.length≤4000)→T E D [y0,some (.ref a),y2,y3,y4,y5,y6,y7,y8,y9,some (.int c),y11,some (.str y)] S):zcD 199 T E D [y0,some (.ref a),y2,y3,y4,y5,y6,y7,y8,y9,some (.int c),y11,y12] S:=by
 rw [zcD];walk_at "wp";exact znB (r:=198) hc P.fa (zfd (P.ss _ (by simp))) (zfd (P.ss _ (by simp))) fun y h1 h2=>h y h1 h2
theorem ztp (hx:x.length≤5000) (h4:c % 3≠2→x.length≤4000) (h:∀S',T E D [y0,y1,y2,y3,y4,y5,y6,y7,y8,y9,some (.int c),y11,some (.str x)] S'):zcC 199 T E D [y0,y1,y2,y3,y4,y5,y6,y7,y8,y9,some (.int c),y11,some (.str x)] S:=by
 have m0:0≤c % 3:=Int.emod_nonneg _ (by decide);have m1:c % 3<3:=Int.emod_lt_of_pos _ (by decide);have n0:0≤c / 9 % 2:=Int.emod_nonneg _ (by decide);have n1:c / 9 % 2<2:=Int.emod_lt_of_pos _ (by decide);obtain⟨w,ew,hw,hw2⟩:∃w:Int,atI [W.int (c / 9 % 2), .int (c / 9 % 2), .int 2] (c % 3)=some (.int w)∧(w=0∨w=1∨w=2)∧(w≠2→c % 3≠2):=by
  generalize hq:c % 3=q at m0 m1;obtain rfl |rfl |rfl:q=0∨q=1∨q=2:=by omega
  ·exact⟨_,rfl,by omega,fun _=>by decide⟩
  ·exact⟨_,rfl,by omega,fun _=>by decide⟩
  ·exact⟨_,rfl,by omega,fun z=>absurd rfl z⟩
 rw [zcC];walk_at "wp";refine⟨⟨by decide,by decide⟩,by decide,⟨by decide,by decide⟩,by decide,by decide,by decide,?_⟩
 rw [ew];dsimp only;refine zja (r:=198) (by omega) hw (fun z=>h4 (hw2 z)) (by decide) fun S' s'=>?_;walk_at "wp";exact h _
theorem zsA (h:∀S',D.rt (.bl true) S'):zcH 199 E D [y0,y1,y2,y3,y4,y5,y6,y7,y8,y9,some (.int c),y11,y12] S:=by
 have m0:0≤c / 9 % 5:=Int.emod_nonneg _ (by decide);have m1:c / 9 % 5<5:=Int.emod_lt_of_pos _ (by decide);rw [zcH];walk_at "wp";refine⟨by decide,fun q hq=>⟨by decide,by decide,⟨by decide,by decide⟩,by decide,?_⟩⟩
 have fin:∀u:W,NoStr (put S q (.lst [.str (Str.ofString "a")])) u→zaM 199 [u, .int (c / 45 % 3)] (put S q (.lst [.str (Str.ofString "a")])) D.rt fun cl S2=>E cl [y0,y1,y2,y3,y4,y5,y6,y7,y8,y9,some (.int c),y11,y12] S2:=fun u hu=>zng (r:=198) hu (by decide) fun S' _=>h S';generalize c / 9 % 5=z at m0 m1;obtain rfl |rfl |rfl |rfl |rfl:z=0∨z=1∨z=2∨z=3∨z=4:=by omega
 ·exact⟨⟨by decide,by decide⟩,by decide,fin _ .non⟩
 ·exact⟨⟨by decide,by decide⟩,by decide,fin _ .int⟩
 ·exact⟨⟨by decide,by decide⟩,by decide,fin _ .bl⟩
 ·exact⟨⟨by decide,by decide⟩,by decide,fin _ (.ref zaj)⟩
 ·exact⟨⟨by decide,by decide⟩,by decide,fin _ .tup⟩
end
theorem ztc (ns:List Int) (hl:ns.length≤63):zdK 200 [.scr ns] (fun _=>none) (fun w _=>w= .bl true) (fun _ _=>False):=by
 rw [show(200:Nat)=199+1 from rfl,zdK,zeK];refine⟨rfl,?_⟩;refine ztD fun S1 a s0 s1 s2 s3 fa hs=>ztz fa hs fun S2 b t0 t1 P=>zun P fun S3 P=>?_;have c1:=zha (ns:=ns) 4 40;obtain⟨m,hm⟩:∃m:Nat,(4:Int)+((zdr ns (some 4) (some 40)).length:Int) / 2=(m:Int):=⟨4+(zdr ns (some 4) (some 40)).length / 2,by omega⟩
 rw [hm];have c2:=zha (ns:=ns) 4 m;have c3:=zha (ns:=ns) m 40;have hc1:((4:Nat):Int)=4:=rfl;have hc2:((40:Nat):Int)=40:=rfl;rw [hc1,hc2]at c1;rw [hc1]at c2;rw [hc2]at c3;refine zuE P fun S4 l P fl=>ztB hl (by omega) P fl fun S5 x P hx=>ztH P fun S6 l n n0 n1 P fl=>ztJ hl (by omega) n0 n1 P fl fun S7 y P hy hq=>?_;refine ztI hx hy (by omega) P fun S8 f ws P ff g=>zui P ff g fun S9 z9 z10 z11 P=>zsm fun c hc=>zsj hc P fun y h1 h2=>ztp h1 h2 fun S12=>zsA fun S13=>⟨_, .refl,rfl⟩
end L2
end
end
section
namespace K06
open PySem L2 PyProof.Rows
noncomputable def top (i:Nat):Stmt:=PySem.Challenge.pw_turnweave_k06_texts_read_or_refused.main.body.getD i (.Pass ⟨0,0,0,0⟩)
structure Cal (P:Program) (w:World) (K:PySem.W.Frag) (mg:Str→Option Value) (base:Heap) (nm:Str) (ps:List Str) (c:Nat→WSp) where
  zf:Addr
  zd:FuncData
  zg:∀r,FnOk P w K mg base (CX1 P w) r zf zd ps (zaV K (c r))
  zb:Binds K zd ps []
  zk:PySem.W.keepIn K (.ref zf)=true
  zm:mg nm=some (.ref zf)
noncomputable def mkC {P:Program}{w:World}{K:PySem.W.Frag}{h:Heap}{mg:Str→Option Value}{base:Heap}{nm:Str}{st:Stmt}{ps:List Str}{c:Nat→WSp}{f:Addr}{d:FuncData}(X:K.In h) (G:h.Ns mainGlobals mg) (F:Fun K nm nm st f d) (a:PySem.W.nsIn K mainGlobals nm=some (some (.ref f))) (g:∀r,FnOk P w K mg base (CX1 P w) r f d ps (zaV K (c r))) (b:Binds K d ps []):Cal P w K mg base nm ps c:=⟨f,d,g,b,F.kp,PySem.W.mg_of X G a⟩
noncomputable def Dfn (K:PySem.W.Frag) (nm:Str) (st:Stmt):Prop:=∃f d,PySem.W.nsIn K mainGlobals nm=some (some (.ref f))∧Fun K nm nm st f d
theorem dfn{K:PySem.W.Frag}{x:Str}{st:Stmt}{f:Addr}{oc:Value}{od an:Option Addr}{osl:Array (Option Value)}{kV doc pm cdv ct:Value}(a:PySem.W.nsIn K mainGlobals x=some (some (.ref f))) (l:K.lookup f=some ⟨oc,od, .func (PySem.W.fnOf x x (zfn st) (zeU st) (zal st) .none kV doc pm an cdv ct),osl⟩) (c:PySem.W.codeIn K cdv x=true) (k:PySem.W.keepIn K (.ref f)=true):Dfn K x st:=⟨f,_,a,zoM l c k⟩
structure MCal (P:Program) (w:World) (K:PySem.W.Frag) (mg:Str→Option Value) (base:Heap) (C:Addr) (nm:Str) (ps:List Str) (c:Nat→WSp) where
  zf:Addr
  zd:FuncData
  zg:∀r,FnOk P w K mg base (CX1 P w) r zf zd ps (zaV K (c r))
  zb:Binds K zd ps []
  zh:Meth K C nm zf
structure PCal (P:Program) (w:World) (K:PySem.W.Frag) (mg:Str→Option Value) (base:Heap) (C:Addr) (nm:Str) (ps:List Str) (c:WSp→Nat→WSp) (fT:Addr) (dT:FuncData) (pT:List Str) where
  zf:Addr
  zd:FuncData
  zg:∀r cT,FnOk P w K mg base (CX1 P w) r fT dT pT (zaV K cT)→FnOk P w K mg base (CX1 P w) (r+1) zf zd ps (zaV K (c cT (r+1)))
  zb:Binds K zd ps []
  zh:Meth K C nm zf
structure Kls (K:PySem.W.Frag) (mg:Str→Option Value) (x:Str) where
  C:Addr
  hn:PySem.W.nsIn K mainGlobals x=some (some (.ref C))
  cc:Cls K C
  cm:mg x=some (.ref C)
noncomputable def zqQ (K:PySem.W.Frag) (C:Addr) (m qual:Str) (st:Stmt):Prop:=∃f d,PySem.W.findIn K (.ref C) m=some (some (.ref f))∧PySem.W.isFn K (.ref f)=true∧Fun K m qual st f d
theorem dfnM{K:PySem.W.Frag}{C:Addr}{m qual:Str}{st:Stmt}{f:Addr}{oc:Value}{od an:Option Addr}{osl:Array (Option Value)}{kV doc pm cdv ct:Value}(a:PySem.W.findIn K (.ref C) m=some (some (.ref f))) (i:PySem.W.isFn K (.ref f)=true) (l:K.lookup f=some ⟨oc,od, .func (PySem.W.fnOf m qual (zfn st) (zeU st) (zal st) .none kV doc pm an cdv ct),osl⟩) (c:PySem.W.codeIn K cdv qual=true) (k:PySem.W.keepIn K (.ref f)=true):zqQ K C m qual st:=⟨f,_,a,i,zoM l c k⟩
theorem nC{p:List Value→Prop}{k:Nat}(h:∀a us,us.length=k→p (a::us)):∀us,us.length=k+1→p us:=fun us e=>by
 cases us with
 |nil=>cases e
 |cons a us=>exact h a us (Nat.succ.inj e)
theorem n0{p:List Value→Prop}(h:p []):∀us,us.length=0→p us:=fun us e=>by
 cases us with
 |nil=>exact h
 |cons a us=>cases e
theorem n1{p:List Value→Prop}(h:∀a,p [a]):∀us,us.length=1→p us:=nC fun a=>n0 (p:=fun us=>p (a::us)) (h a)
theorem n2{p:List Value→Prop}(h:∀a b,p [a,b]):∀us,us.length=2→p us:=nC fun a=>n1 (p:=fun us=>p (a::us)) (h a)
theorem n3{p:List Value→Prop}(h:∀a b c,p [a,b,c]):∀us,us.length=3→p us:=nC fun a=>n2 (p:=fun us=>p (a::us)) (h a)
theorem n4{p:List Value→Prop}(h:∀a b c d,p [a,b,c,d]):∀us,us.length=4→p us:=nC fun a=>n3 (p:=fun us=>p (a::us)) (h a)
theorem n5{p:List Value→Prop}(h:∀a b c d e,p [a,b,c,d,e]):∀us,us.length=5→p us:=nC fun a=>n4 (p:=fun us=>p (a::us)) (h a)
theorem n6{p:List Value→Prop}(h:∀a b c d e f,p [a,b,c,d,e,f]):∀us,us.length=6→p us:=nC fun a=>n5 (p:=fun us=>p (a::us)) (h a)
local macro_rules | `(tactic| walk_at "sc") => `(tactic| (refine ⟨rfl, rfl, rfl, ?_, rfl, ?_, ?_⟩ <;> decide +kernel))
noncomputable abbrev Ok (P:Program) (w:World) (K:PySem.W.Frag) (mg:Str→Option Value) (base:Heap) (f:Addr) (d:FuncData) (ps:List Str) (c:Nat→WSp):Prop:=∀r,FnOk P w K mg base (CX1 P w) r f d ps (zaV K (c r))
theorem zey{P:Program}{w:World}{K:PySem.W.Frag}{mg:Str→Option Value}{base:Heap}{f:Addr}{d:FuncData}{ps:List Str}{c:Nat→WSp}(h0:c 0=zcf) (h:∀r,FnOk P w K mg base (CX1 P w) r f d ps (zaV K (c r))→FnOk P w K mg base (CX1 P w) (r+1) f d ps (zaV K (c (r+1)))):Ok P w K mg base f d ps c:=fun r=>by
 induction r with
 |zero=>rw [h0];exact zlV
 |succ r ih=>exact h r ih
theorem zpo{P:Program}{w:World}{K:PySem.W.Frag}{mg:Str→Option Value}{base:Heap}{f:Addr}{d:FuncData}{ps:List Str}{c:Nat→WSp}(h0:c 0=zcf) (h1:c 1=zcf) (h:∀r,FnOk P w K mg base (CX1 P w) r f d ps (zaV K (c r))→FnOk P w K mg base (CX1 P w) (r+2) f d ps (zaV K (c (r+2)))):Ok P w K mg base f d ps c
 |0=>by rw [h0];exact zlV
 |1=>by rw [h1];exact zlV
 |r+2=>h r (zpo h0 h1 h r)
structure Ncl (mg:Str→Option Value) (x:Str) where
  xC:Addr
  xm:mg x=some (.ref xC)
theorem zge:bootBuiltins "ValueError" =some (.type "ValueError"):=by first |rfl |decide +kernel | (unfold bootBuiltins;decide +kernel)
noncomputable abbrev s0:Stmt:=top 7
theorem sc0:FnScope ["t"] ["t"] (zal s0):=by walk_at "sc"
noncomputable abbrev s1:Stmt:=top 8
theorem sc1:FnScope ["things", "found", "thing"] ["things"] (zal s1):=by walk_at "sc"
noncomputable abbrev s2:Stmt:=top 9
theorem sc2:FnScope ["t", "heavy", "deep", "level"] ["t"] (zal s2):=by walk_at "sc"
noncomputable abbrev s3:Stmt:=top 15
theorem sc3:FnScope ["text"] ["text"] (zal s3):=by walk_at "sc"
noncomputable abbrev s4:Stmt:=top 13
theorem sc4:FnScope ["text"] ["text"] (zal s4):=by walk_at "sc"
noncomputable abbrev s5:Stmt:=top 14
theorem sc5:FnScope ["text"] ["text"] (zal s5):=by walk_at "sc"
noncomputable abbrev s6:Stmt:=zga (top 21) 0
theorem sc6:FnScope ["self", "text", "in_side"] ["self", "text", "in_side"] (zal s6):=by walk_at "sc"
noncomputable abbrev s7:Stmt:=zga (top 21) 1
theorem sc7:FnScope ["self"] ["self"] (zal s7):=by walk_at "sc"
noncomputable abbrev s8:Stmt:=zga (top 21) 2
theorem sc8:FnScope ["self", "start"] ["self"] (zal s8):=by walk_at "sc"
noncomputable abbrev s9:Stmt:=zga (top 21) 4
theorem sc9:FnScope ["self", "room", "found"] ["self", "room"] (zal s9):=by walk_at "sc"
noncomputable abbrev s10:Stmt:=top 23
theorem zuV:FnScope ["figures"] ["figures"] (zal s10):=by walk_at "sc"
noncomputable abbrev s11:Stmt:=top 22
theorem zvG:FnScope ["word"] ["word"] (zal s11):=by walk_at "sc"
noncomputable abbrev s12:Stmt:=zga (top 21) 3
theorem sc12:FnScope ["self", "room", "word"] ["self", "room"] (zal s12):=by walk_at "sc"
noncomputable abbrev s13:Stmt:=top 19
theorem zvr:FnScope ["text"] ["text"] (zal s13):=by walk_at "sc"
noncomputable abbrev s14:Stmt:=top 20
theorem sc14:FnScope ["text", "in_side", "reader", "thing"] ["text", "in_side"] (zal s14):=by walk_at "sc"
noncomputable abbrev s15:Stmt:=top 16
theorem zvt:FnScope ["text"] ["text"] (zal s15):=by walk_at "sc"
noncomputable abbrev s16:Stmt:=top 17
theorem zvW:FnScope ["text"] ["text"] (zal s16):=by walk_at "sc"
noncomputable abbrev s17:Stmt:=top 18
theorem sc17:FnScope ["text", "title_and_sides", "title", "sides"] ["text"] (zal s17):=by walk_at "sc"
noncomputable abbrev s18:Stmt:=top 25
theorem sc18:FnScope ["script", "k", "cell", "mixed"] ["script", "k"] (zal s18):=by walk_at "sc"
noncomputable abbrev s19:Stmt:=top 26
theorem sc19:FnScope ["script", "k", "many", "letters", "first", "spell", "row", "j", "size", "at", "words", "n"] ["script", "k", "many"] (zal s19):=by walk_at "sc"
noncomputable abbrev s20:Stmt:=top 27
theorem sc20:FnScope ["script", "k", "many", "letters", "great"] ["script", "k", "many"] (zal s20):=by walk_at "sc"
noncomputable abbrev s21:Stmt:=top 28
theorem sc21:FnScope ["stack", "cell", "heads", "leaves", "many", "pick"] ["stack", "cell", "heads", "leaves"] (zal s21):=by walk_at "sc"
noncomputable abbrev s22:Stmt:=top 29
theorem sc22:FnScope ["cells", "heads", "leaves", "stack", "cell"] ["cells", "heads", "leaves"] (zal s22):=by walk_at "sc"
noncomputable abbrev s23:Stmt:=top 30
theorem sc23:FnScope ["t", "row", "mark", "one"] ["t"] (zal s23):=by walk_at "sc"
noncomputable abbrev s24:Stmt:=top 31
theorem zvg:FnScope ["word", "some"] ["word", "some"] (zal s24):=by walk_at "sc"
noncomputable abbrev s25:Stmt:=top 32
theorem sc25:FnScope ["word", "way", "letters", "great", "figures"] ["word", "way"] (zal s25):=by walk_at "sc"
noncomputable abbrev s26:Stmt:=top 33
theorem sc26:FnScope ["text", "at", "stop"] ["text", "at"] (zal s26):=by walk_at "sc"
noncomputable abbrev s27:Stmt:=top 34
theorem sc27:FnScope ["text", "way", "opened", "heavy", "fresh", "at", "word"] ["text", "way"] (zal s27):=by walk_at "sc"
noncomputable abbrev s28:Stmt:=top 35
theorem sc28:FnScope ["text", "one", "two"] ["text"] (zal s28):=by walk_at "sc"
noncomputable abbrev s29:Stmt:=top 36
theorem zvF:FnScope ["t"] ["t"] (zal s29):=by walk_at "sc"
noncomputable abbrev s30:Stmt:=top 37
theorem zvJ:FnScope ["found", "way"] ["found", "way"] (zal s30):=by walk_at "sc"
noncomputable abbrev s31:Stmt:=top 38
theorem sc31:FnScope ["text", "way", "kinds", "found", "e", "due"] ["text", "way"] (zal s31):=by walk_at "sc"
noncomputable abbrev s32:Stmt:=top 39
theorem sc32:FnScope ["text", "cell", "some", "way", "at", "sign", "pair"] ["text", "cell"] (zal s32):=by walk_at "sc"
noncomputable abbrev s33:Stmt:=top 40
theorem sc33:FnScope ["cell", "some"] ["cell"] (zal s33):=by walk_at "sc"
noncomputable abbrev s34:Stmt:=top 41
theorem sc34:FnScope ["cell", "signs", "over", "deep", "wide"] ["cell", "signs"] (zal s34):=by walk_at "sc"
noncomputable abbrev s35:Stmt:=top 42
theorem sc35:FnScope ["script", "signs", "titles", "cut", "ends", "one", "leaves", "other", "texts", "k", "cell", "way", "bound"] ["script"] (zal s35):=by walk_at "sc"
section
variable (P:Program) (w:World) (K:PySem.W.Frag) (mg:Str→Option Value) (base:Heap)
noncomputable abbrev C0:=Cal P w K mg base "parts_of" ["t"] zdI
noncomputable abbrev C1:=Cal P w K mg base "parts_of_all" ["things"] zbT
noncomputable abbrev C2:=Cal P w K mg base "is_small" ["t"] zdP
noncomputable abbrev C3:=Cal P w K mg base "are_small_letters" ["text"] zaC
noncomputable abbrev C4:=Cal P w K mg base "is_sign" ["text"] zdh
noncomputable abbrev C5:=Cal P w K mg base "is_title" ["text"] zcc
noncomputable abbrev C6 (C:Addr):=MCal P w K mg base C "__init__" ["self", "text", "in_side"] zaX
noncomputable abbrev C7 (C:Addr):=MCal P w K mg base C "here" ["self"] zaR
noncomputable abbrev C8 (C:Addr):=MCal P w K mg base C "read_word" ["self"] zaS
noncomputable abbrev C9 (C fT:Addr) (dT:FuncData):=PCal P w K mg base C "read_parts" ["self", "room"] zaw fT dT ["self", "room"]
noncomputable abbrev C10:=Cal P w K mg base "is_short_number" ["figures"] zbb
noncomputable abbrev C11:=Cal P w K mg base "is_blank_text" ["word"] zbz
noncomputable abbrev C12 (C:Addr):=MCal P w K mg base C "read_thing" ["self", "room"] zap
noncomputable abbrev C13:=Cal P w K mg base "check_text" ["text"] zaK
noncomputable abbrev C14:=Cal P w K mg base "read_whole" ["text", "in_side"] zbe
noncomputable abbrev C15:=Cal P w K mg base "read_way" ["text"] zcr
noncomputable abbrev C16:=Cal P w K mg base "read_side" ["text"] zbg
noncomputable abbrev C17:=Cal P w K mg base "read_turning" ["text"] zaT
noncomputable abbrev C18:=Cal P w K mg base "_law_draw" ["script", "k"] zbj
noncomputable abbrev C19:=Cal P w K mg base "_law_signs" ["script", "k", "many"] zcd
noncomputable abbrev C20:=Cal P w K mg base "_law_titles" ["script", "k", "many"] zch
noncomputable abbrev C21:=Cal P w K mg base "_law_pushed" ["stack", "cell", "heads", "leaves"] zcl
noncomputable abbrev C22:=Cal P w K mg base "_law_thing" ["cells", "heads", "leaves"] zcb
noncomputable abbrev C23:=Cal P w K mg base "_law_written" ["t"] zar
noncomputable abbrev C24:=Cal P w K mg base "_law_all_in" ["word", "some"] zbi
noncomputable abbrev C25:=Cal P w K mg base "_law_is_word" ["word", "way"] zbm
noncomputable abbrev C26:=Cal P w K mg base "_law_word_at" ["text", "at"] zbV
noncomputable abbrev C27:=Cal P w K mg base "_law_reads" ["text", "way"] zby
noncomputable abbrev C28:=Cal P w K mg base "_law_reads_turning" ["text"] zaF
noncomputable abbrev C29:=Cal P w K mg base "_law_is_thing" ["t"] zay
noncomputable abbrev C30:=Cal P w K mg base "_law_text_of" ["found", "way"] zbS
noncomputable abbrev C31:=Cal P w K mg base "_law_good" ["text", "way"] zaM
noncomputable abbrev C32:=Cal P w K mg base "_law_spoiled" ["text", "cell"] zbR
noncomputable abbrev C33:=Cal P w K mg base "_law_odd" ["cell"] zdO
noncomputable abbrev C34:=Cal P w K mg base "_law_bound" ["cell", "signs"] zcE
end
section
variable {P:Program}{w:World}{K:PySem.W.Frag}{mg:Str→Option Value}{base:Heap}
theorem o0{f:Addr}{d:FuncData}(F:Fun K "parts_of" "parts_of" s0 f d) (n_i:mg "isinstance" =none) (n_n:mg "int" =none):Ok P w K mg base f d ["t"] zdI:=zey rfl fun r ih=>zbu F sc0 rfl rfl fun _ _ _ _ _ _ hr=>(zad (zaO (zaN (zeH rfl n_i rfl n_n PyProof.Rows.boot_int (jv 0) (by decide) (by decide) (zmR _ (by simp)))) (zai (zan (zdN zae))) zav)
  (zai (zan (zbJ (jv 0) (zaq zac) zaB))))
theorem o1{f:Addr}{d:FuncData}(F:Fun K "parts_of_all" "parts_of_all" s1 f d) (x0:C0 P w K mg base):Ok P w K mg base f d ["things"] zbT:=zey rfl fun r ih=>zbu F sc1 rfl rfl fun _ _ _ _ _ _ hr=>(zad (zak (i:=1) sc1.nd rfl (Or.inl rfl) (zbs (zaW zae)))
  (zad (zgx (zeZ (jv 0)) (zci (i:=2) sc1.nd rfl (Or.inl rfl)) (zai (zfp (zlh (jv 1) (zaa (zam (x0.zg r) hr rfl x0.zm x0.zk x0.zb (zaa (jv 2) zae)) zae)))))
  (zai (zan (jv 1)))))
theorem o2{f:Addr}{d:FuncData}(F:Fun K "is_small" "is_small" s2 f d) (x1:C1 P w K mg base) (n_l:mg "len" =none) {t_MOST_HEAVY:Tok}(g_MOST_HEAVY:mg "MOST_HEAVY" =some (.int 400 t_MOST_HEAVY)) {t_MOST_DEEP:Tok}(g_MOST_DEEP:mg "MOST_DEEP" =some (.int 40 t_MOST_DEEP)):Ok P w K mg base f d ["t"] zdP:=zey rfl fun r ih=>zbu F sc2 rfl rfl fun _ _ _ _ _ _ hr=>(zad (zak (i:=1) sc2.nd rfl (Or.inl rfl) zac)
  (zad (zak (i:=2) sc2.nd rfl (Or.inl rfl) zac)
  (zad (zak (i:=3) sc2.nd rfl (Or.inl rfl) (zbs (zaW (zaa (jv 0) zae))))
  (zad (zet (zaN (jv 3)) (zad (zoY (i:=1) sc2.nd rfl (Or.inl rfl) (zaJ rfl n_l (zaa (jv 3) zae)))
  (zad (zoY (i:=2) sc2.nd rfl (Or.inl rfl) zac)
  (zad (zaO (JW.jt (zew (ziQ (jv 1) (zfr rfl g_MOST_HEAVY)) (zed (ziQ (jv 2) (zfr rfl g_MOST_DEEP))))) (zai (zan zdF)) zav)
  (zai (zak (i:=3) sc2.nd rfl (Or.inl rfl) (zam (x1.zg r) hr rfl x1.zm x1.zk x1.zb (zaa (jv 3) zae))))))))
  (zai (zan zdF))))))
theorem o3{f:Addr}{d:FuncData}(F:Fun K "are_small_letters" "are_small_letters" s3 f d) (n_a:mg "all" =none):Ok P w K mg base f d ["text"] zaC:=zey rfl fun r ih=>zbu F sc3 rfl rfl fun _ _ _ _ _ _ hr=>(zai (zan (zhg rfl n_a (zen (N:=["letter"]) (k:=1) (fr:=[]) ⟨rfl,by decide +kernel,rfl,rfl,rfl,rfl,rfl,rfl,rfl⟩ (zeZ (jv 0)) (fun _ _ _ _=>(zci (i:=0) (show List.Nodup [("letter" :Str)] from by decide +kernel) rfl (Or.inl rfl))) (fun _ _ _ _=>zef) (fun _ _ _ _=>(zgb zah (jv 0) zah))))))
theorem o4{f:Addr}{d:FuncData}(F:Fun K "is_sign" "is_sign" s4 f d) (x3:C3 P w K mg base) (n_l:mg "len" =none) {t_MOST_LETTERS:Tok}(g_MOST_LETTERS:mg "MOST_LETTERS" =some (.int 8 t_MOST_LETTERS)):Ok P w K mg base f d ["text"] zdh:=zey rfl fun r ih=>zbu F sc4 rfl rfl fun _ _ _ _ _ _ hr=>(zai (zan (zcW (zgb zac (zaJ rfl n_l (zaa (jv 0) zae)) (zfr rfl g_MOST_LETTERS)) (zcX (zam (x3.zg r) hr rfl x3.zm x3.zk x3.zb (zaa (jv 0) zae))))))
theorem o5{f:Addr}{d:FuncData}(F:Fun K "is_title" "is_title" s5 f d) (x3:C3 P w K mg base) (n_l:mg "len" =none) {t_MOST_LETTERS:Tok}(g_MOST_LETTERS:mg "MOST_LETTERS" =some (.int 8 t_MOST_LETTERS)):Ok P w K mg base f d ["text"] zcc:=zey rfl fun r ih=>zbu F sc5 rfl rfl fun _ _ _ _ _ _ hr=>(zai (zan (zcW (zgb zac (zaJ rfl n_l (zaa (jv 0) zae)) (zfr rfl g_MOST_LETTERS)) (zcW (zgb zah (zaG (jv 0) zac) zah) (zcX (zam (x3.zg r) hr rfl x3.zm x3.zk x3.zb (zaa (zbJ (jv 0) (zaq zac) zaB) zae)))))))
theorem o6{f:Addr}{d:FuncData}(F:Fun K "__init__" "Reader.__init__" s6 f d) (kl_Reader:Kls K mg "Reader") (a_Reader_at:NoAttr K kl_Reader.C "at") (a_Reader_in_side:NoAttr K kl_Reader.C "in_side") (a_Reader_text:NoAttr K kl_Reader.C "text"):Ok P w K mg base f d ["self", "text", "in_side"] zaX:=zey rfl fun r ih=>zbu F sc6 rfl rfl fun _ _ _ _ _ _ hr=>(zad (zmB kl_Reader.hn kl_Reader.cc a_Reader_text (jv 0) (jv 1))
  (zad (zmB kl_Reader.hn kl_Reader.cc a_Reader_in_side (jv 0) (jv 2))
  (zai (zmB kl_Reader.hn kl_Reader.cc a_Reader_at (jv 0) zac))))
theorem o7{f:Addr}{d:FuncData}(F:Fun K "here" "Reader.here" s7 f d) (kl_Reader:Kls K mg "Reader") (a_Reader_at:NoAttr K kl_Reader.C "at") (a_Reader_text:NoAttr K kl_Reader.C "text"):Ok P w K mg base f d ["self"] zaR:=zey rfl fun r ih=>zbu F sc7 rfl rfl fun _ _ _ _ _ _ hr=>(zai (zan (zbJ (zfa kl_Reader.hn kl_Reader.cc a_Reader_text (jv 0)) (zaq (zfa kl_Reader.hn kl_Reader.cc a_Reader_at (jv 0))) (zaq (zao (zfa kl_Reader.hn kl_Reader.cc a_Reader_at (jv 0)) zac)))))
theorem o8{f:Addr}{d:FuncData}(F:Fun K "read_word" "Reader.read_word" s8 f d) (kl_Reader:Kls K mg "Reader") (a_Reader_at:NoAttr K kl_Reader.C "at") (a_Reader_text:NoAttr K kl_Reader.C "text") (x7:C7 P w K mg base kl_Reader.C):Ok P w K mg base f d ["self"] zaS:=zey rfl fun r ih=>zbu F sc8 rfl rfl fun _ _ _ _ _ _ hr=>(zad (zak (i:=1) sc8.nd rfl (Or.inl rfl) (zfa kl_Reader.hn kl_Reader.cc a_Reader_at (jv 0)))
  (zad (zet (zjt hr (zeX kl_Reader.hn kl_Reader.cc x7.zh (x7.zg r) hr x7.zb (jv 0)) (zdN (zaa zah (zaa zah (zaa zah (zaa zah zae)))))) (zai (ziR kl_Reader.hn kl_Reader.cc a_Reader_at (jv 0) zac)))
  (zai (zan (zbJ (zfa kl_Reader.hn kl_Reader.cc a_Reader_text (jv 0)) (zaq (jv 1)) (zaq (zfa kl_Reader.hn kl_Reader.cc a_Reader_at (jv 0))))))))
theorem o9{f:Addr}{d:FuncData}(F:Fun K "read_parts" "Reader.read_parts" s9 f d) (kl_Reader:Kls K mg "Reader") (a_Reader_at:NoAttr K kl_Reader.C "at") {fT:Addr}{dT:FuncData}(bT:Binds K dT ["self", "room"] []) (hT:Meth K kl_Reader.C "read_thing" fT) (x7:C7 P w K mg base kl_Reader.C) (n_t:mg "tuple" =none) (y_NoText:Ncl mg "NoText") (v_NoText:XcIn K "NoText" y_NoText.xC):∀r cT,FnOk P w K mg base (CX1 P w) r fT dT ["self", "room"] (zaV K cT)→FnOk P w K mg base (CX1 P w) (r+1) f d ["self", "room"] (zaV K (zaw cT (r+1))):=fun r cT gT=>zbu F sc9 rfl rfl fun _ _ _ _ _ _ hr=>(zad (zaO (zkD hr (zeX kl_Reader.hn kl_Reader.cc x7.zh (x7.zg r) hr x7.zb (jv 0)) zah) (zai (zan (zdN zae))) zav)
  (zad (zak (i:=2) sc9.nd rfl (Or.inl rfl) (zbs (zaW zae)))
  (zad (zet (JW.jt (zew (zbU (zaN (jv 2))) (zed (zdJ hr (zeX kl_Reader.hn kl_Reader.cc x7.zh (x7.zg r) hr x7.zb (jv 0)) zah)))) (zad (ziR kl_Reader.hn kl_Reader.cc a_Reader_at (jv 0) zac)
  (zai (zfp (zgj (jv 2) (zaa (ziI kl_Reader.hn kl_Reader.cc hT gT hr bT (jv 0) (zaa (jv 1) zae)) zae))))))
  (zad (zaO (zkD hr (zeX kl_Reader.hn kl_Reader.cc x7.zh (x7.zg r) hr x7.zb (jv 0)) zah) (zai (zdy v_NoText rfl y_NoText.xm (zaa zah zae))) zav)
  (zad (ziR kl_Reader.hn kl_Reader.cc a_Reader_at (jv 0) zac)
  (zai (zan (znq rfl n_t (zaa (jv 2) zae)))))))))
theorem o10{f:Addr}{d:FuncData}(F:Fun K "is_short_number" "is_short_number" s10 f d) (n_a:mg "all" =none) (n_l:mg "len" =none):Ok P w K mg base f d ["figures"] zbb:=zey rfl fun r ih=>zbu F zuV rfl rfl fun _ _ _ _ _ _ hr=>(zad (zaO (zbU (zaN (zhg rfl n_a (zen (N:=["figure"]) (k:=1) (fr:=[]) ⟨rfl,by decide +kernel,rfl,rfl,rfl,rfl,rfl,rfl,rfl⟩ (zeZ (jv 0)) (fun _ _ _ _=>(zci (i:=0) (show List.Nodup [("figure" :Str)] from by decide +kernel) rfl (Or.inl rfl))) (fun _ _ _ _=>zef) (fun _ _ _ _=>(zgb zah (jv 0) zah)))))) (zai (zan zdF)) zav)
  (zai (zan (zpq (zff hr (zaJ rfl n_l (zaa (jv 0) zae)) zac) (zcX (zcW (zff hr (zaJ rfl n_l (zaa (jv 0) zae)) zac) (zcX (zsu hr (zaG (jv 0) zac) zah))))))))
theorem o11{f:Addr}{d:FuncData}(F:Fun K "is_blank_text" "is_blank_text" s11 f d) (x10:C10 P w K mg base):Ok P w K mg base f d ["word"] zbz:=zey rfl fun r ih=>zbu F zvG rfl rfl fun _ _ _ _ _ _ hr=>(zai (zan (zcW (zff hr (zbJ (jv 0) zaB (zaq zac)) zah) (zcX (zam (x10.zg r) hr rfl x10.zm x10.zk x10.zb (zaa (zbJ (jv 0) (zaq zac) zaB) zae))))))
theorem o12{f:Addr}{d:FuncData}(F:Fun K "read_thing" "Reader.read_thing" s12 f d) (kl_Reader:Kls K mg "Reader") (a_Reader_in_side:NoAttr K kl_Reader.C "in_side") (x8:C8 P w K mg base kl_Reader.C) (x9:C9 P w K mg base kl_Reader.C f d) (x11:C11 P w K mg base) (x4:C4 P w K mg base) (x5:C5 P w K mg base) (n_n:mg "int" =none) (y_NoText:Ncl mg "NoText") (v_NoText:XcIn K "NoText" y_NoText.xC):Ok P w K mg base f d ["self", "room"] zap:=zpo rfl rfl fun r ih=>zbu F sc12 rfl rfl fun _ _ _ _ _ _ hr=>(zad (zaO (zdJ hr (jv 1) zac) (zai (zdy v_NoText rfl y_NoText.xm (zaa zah zae))) zav)
  (zad (zak (i:=2) sc12.nd rfl (Or.inl rfl) (zeX kl_Reader.hn kl_Reader.cc x8.zh (x8.zg (r+1)) hr x8.zb (jv 0)))
  (zad (zaO (JW.jt (zgy (zaN (zfa kl_Reader.hn kl_Reader.cc a_Reader_in_side (jv 0))) (zgm (zaN (zam (x11.zg (r+1)) hr rfl x11.zm x11.zk x11.zb (zaa (jv 2) zae)))))) (zai (zan (zqI rfl n_n (zaa (zbJ (jv 2) (zaq zac) zaB) zae)))) zav)
  (zad (zaO (JW.jt (zgy (zbU (zaN (zam (x4.zg (r+1)) hr rfl x4.zm x4.zk x4.zb (zaa (jv 2) zae)))) (zgm (JW.jt (zew (zaN (zfa kl_Reader.hn kl_Reader.cc a_Reader_in_side (jv 0))) (zed (zbU (zaN (zam (x5.zg (r+1)) hr rfl x5.zm x5.zk x5.zb (zaa (jv 2) zae)))))))))) (zai (zdy v_NoText rfl y_NoText.xm (zaa zah zae))) zav)
  (zai (zan (zao (zdN (zaa (jv 2) zae)) (ziI kl_Reader.hn kl_Reader.cc x9.zh (x9.zg r _ ih) hr x9.zb (jv 0) (zaa (zlj (jv 1) zac) zae)))))))))
theorem o13{f:Addr}{d:FuncData}(F:Fun K "check_text" "check_text" s13 f d) (n_i:mg "isinstance" =none) (n_c:mg "str" =none) (n_l:mg "len" =none) {t_MOST_SIGNS:Tok}(g_MOST_SIGNS:mg "MOST_SIGNS" =some (.int 4000 t_MOST_SIGNS)) (y_NoText:Ncl mg "NoText") (v_NoText:XcIn K "NoText" y_NoText.xC):Ok P w K mg base f d ["text"] zaK:=zey rfl fun r ih=>zbu F zvr rfl rfl fun _ _ _ _ _ _ hr=>(zad (zaO (zbU (zaN (zeH rfl n_i rfl n_c PyProof.Rows.boot_str (jv 0) (by decide) (by decide) (zmR _ (by simp))))) (zai (zdy v_NoText rfl y_NoText.xm (zaa zah zae))) zav)
  (zai (zaO (ziQ (zaJ rfl n_l (zaa (jv 0) zae)) (zfr rfl g_MOST_SIGNS)) (zai (zdy v_NoText rfl y_NoText.xm (zaa zah zae))) zav)))
theorem o14{f:Addr}{d:FuncData}(F:Fun K "read_whole" "read_whole" s14 f d) (kl_Reader:Kls K mg "Reader") (a_Reader_at:NoAttr K kl_Reader.C "at") (x6:C6 P w K mg base kl_Reader.C) (x12:C12 P w K mg base kl_Reader.C) (x13:C13 P w K mg base) (x2:C2 P w K mg base) (M_Reader:Mk K kl_Reader.C x6.zf) (n_l:mg "len" =none) {t_MOST_DEEP:Tok}(g_MOST_DEEP:mg "MOST_DEEP" =some (.int 40 t_MOST_DEEP)) (y_NoText:Ncl mg "NoText") (v_NoText:XcIn K "NoText" y_NoText.xC):Ok P w K mg base f d ["text", "in_side"] zbe:=zpo rfl rfl fun r ih=>zbu F sc14 rfl rfl fun _ _ _ _ _ _ hr=>(zad (zfp (zam (x13.zg (r+1)) hr rfl x13.zm x13.zk x13.zb (zaa (jv 0) zae)))
  (zad (zak (i:=2) sc14.nd rfl (Or.inl rfl) (zpD kl_Reader.hn M_Reader (x6.zg r) hr rfl kl_Reader.cm x6.zb (zaa (jv 0) (zaa (jv 1) zae))))
  (zad (zak (i:=3) sc14.nd rfl (Or.inl rfl) (ziI kl_Reader.hn kl_Reader.cc x12.zh (x12.zg (r+1)) hr x12.zb (jv 2) (zaa (zfr rfl g_MOST_DEEP) zae)))
  (zad (zaO (zkD hr (zfa kl_Reader.hn kl_Reader.cc a_Reader_at (jv 2)) (zaJ rfl n_l (zaa (jv 0) zae))) (zai (zdy v_NoText rfl y_NoText.xm (zaa zah zae))) zav)
  (zad (zaO (zbU (zaN (zam (x2.zg (r+1)) hr rfl x2.zm x2.zk x2.zb (zaa (jv 3) zae)))) (zai (zdy v_NoText rfl y_NoText.xm (zaa zah zae))) zav)
  (zai (zan (jv 3))))))))
theorem o15{f:Addr}{d:FuncData}(F:Fun K "read_way" "read_way" s15 f d) (x14:C14 P w K mg base):Ok P w K mg base f d ["text"] zcr:=zey rfl fun r ih=>zbu F zvt rfl rfl fun _ _ _ _ _ _ hr=>(zai (zan (zam (x14.zg r) hr rfl x14.zm x14.zk x14.zb (zaa (jv 0) (zaa zdF zae)))))
theorem o16{f:Addr}{d:FuncData}(F:Fun K "read_side" "read_side" s16 f d) (x14:C14 P w K mg base):Ok P w K mg base f d ["text"] zbg:=zey rfl fun r ih=>zbu F zvW rfl rfl fun _ _ _ _ _ _ hr=>(zai (zan (zam (x14.zg r) hr rfl x14.zm x14.zk x14.zb (zaa (jv 0) (zaa zdF zae)))))
theorem o17{f:Addr}{d:FuncData}(F:Fun K "read_turning" "read_turning" s17 f d) (x13:C13 P w K mg base) (x5:C5 P w K mg base) (x16:C16 P w K mg base) (y_NoText:Ncl mg "NoText") (v_NoText:XcIn K "NoText" y_NoText.xC):Ok P w K mg base f d ["text"] zaT:=zey rfl fun r ih=>zbu F sc17 rfl rfl fun _ _ _ _ _ _ hr=>(zad (zfp (zam (x13.zg r) hr rfl x13.zm x13.zk x13.zb (zaa (jv 0) zae)))
  (zad (zak (i:=1) sc17.nd rfl (Or.inl rfl) (zfy (jv 0) (zaa zah zae)))
  (zad (zak (i:=2) sc17.nd rfl (Or.inl rfl) (zaG (jv 1) zac))
  (zad (zak (i:=3) sc17.nd rfl (Or.inl rfl) (zfy (zaG (jv 1) zac) (zaa zah zae)))
  (zad (zaO (zbU (zaN (zam (x5.zg r) hr rfl x5.zm x5.zk x5.zb (zaa (jv 2) zae)))) (zai (zdy v_NoText rfl y_NoText.xm (zaa zah zae))) zav)
  (zai (zan (zdN (zaa (jv 2) (zaa (zam (x16.zg r) hr rfl x16.zm x16.zk x16.zb (zaa (zaG (jv 3) zac) zae)) (zaa (zam (x16.zg r) hr rfl x16.zm x16.zk x16.zb (zaa (zaG (jv 3) zac) zae)) zae)))))))))))
theorem o18{f:Addr}{d:FuncData}(F:Fun K "_law_draw" "_law_draw" s18 f d) (n_l:mg "len" =none):Ok P w K mg base f d ["script", "k"] zbj:=zey rfl fun r ih=>zbu F sc18 rfl rfl fun _ _ _ _ _ _ hr=>(zad (zaO (zdJ hr (zaJ rfl n_l (zaa (jv 0) zae)) zac) (zai (zan zac)) zav)
  (zad (zak (i:=2) sc18.nd rfl (Or.inl rfl) (zaU (zaG (jv 0) (zaU (jv 1) (zaJ rfl n_l (zaa (jv 0) zae)))) (zlx zac zac)))
  (zad (zaO (zib (jv 1) (zaJ rfl n_l (zaa (jv 0) zae))) (zai (zan (jv 2))) zav)
  (zad (zak (i:=3) sc18.nd rfl (Or.inl rfl) (zaU (zao (zao (jv 2) (zia (zia zac (jv 1)) (jv 1))) zac) zac))
  (zai (zan (zaU (zia (jv 3) (jv 3)) zac)))))))
theorem o19{f:Addr}{d:FuncData}(F:Fun K "_law_signs" "_law_signs" s19 f d) (x18:C18 P w K mg base) (n_r:mg "range" =none) (n_n:mg "int" =none):Ok P w K mg base f d ["script", "k", "many"] zcd:=zey rfl fun r ih=>zbu F sc19 rfl rfl fun _ _ _ _ _ _ hr=>(zad (zak (i:=3) sc19.nd rfl (Or.inr rfl) zah)
  (zad (zak (i:=4) sc19.nd rfl (Or.inl rfl) (zam (x18.zg r) hr rfl x18.zm x18.zk x18.zb (zaa (jv 0) (zaa (jv 1) zae))))
  (zad (zak (i:=5) sc19.nd rfl (Or.inl rfl) (zaU (zia (zam (x18.zg r) hr rfl x18.zm x18.zk x18.zb (zaa (jv 0) (zaa (zao (jv 1) zac) zae))) zac) (zlx zac zac)))
  (zad (zak (i:=6) sc19.nd rfl (Or.inr rfl) (zbs (zaW zae)))
  (zad (zgx (zfi rfl n_r (zaa zac zae)) (zci (i:=7) sc19.nd rfl (Or.inl rfl)) (zad (zfp (zgj (jv 6) (zaa (zaU (jv 5) zac) zae)))
  (zai (zak (i:=5) sc19.nd rfl (Or.inl rfl) (zca (jv 5) zac)))))
  (zad (zaO (zdJ hr (zaU (jv 4) zac) zac) (zai (zan (zbs (zen (N:=["j", "letters", "row"]) (k:=1) (fr:=[3,6]) ⟨rfl,by decide +kernel,rfl,rfl,rfl,rfl,rfl,rfl,rfl⟩ (zfi rfl n_r (zaa (jv 2) zae)) (fun _ _ _ _=>(zci (i:=0) (show List.Nodup [("j" :Str),("letters" :Str),("row" :Str)] from by decide +kernel) rfl (Or.inl rfl))) (fun _ _ _ _=>zef) (fun _ _ _ _=>(zfH zah (zen (N:=["n", "letters"]) (k:=1) (fr:=[1]) ⟨rfl,by decide +kernel,rfl,rfl,rfl,rfl,rfl,rfl,rfl⟩ (zeZ (zbJ (jv 2) zaB (zaq (zao (jv 0) zac)))) (fun _ _ _ _=>(zci (i:=0) (show List.Nodup [("n" :Str),("letters" :Str)] from by decide +kernel) rfl (Or.inl rfl))) (fun _ _ _ _=>zef) (fun _ _ _ _=>(zaG (jv 1) (jv 0)))))))))) zav)
  (zad (zak (i:=8) sc19.nd rfl (Or.inl rfl) (zao zac (zaU (zca (jv 4) zac) zac)))
  (zad (zak (i:=9) sc19.nd rfl (Or.inr rfl) (zaU (zca (jv 4) zac) (jv 8)))
  (zad (zak (i:=10) sc19.nd rfl (Or.inl rfl) (zbs (zaW zae)))
  (zad (zgx (zfi rfl n_r (zaa (jv 2) zae)) (zci (i:=11) sc19.nd rfl (Or.inr rfl)) (zai (zfp (zgj (jv 10) (zaa (zfH zah (zen (N:=["j", "letters", "row", "n", "at"]) (k:=1) (fr:=[3,6,11,9]) ⟨rfl,by decide +kernel,rfl,rfl,rfl,rfl,rfl,rfl,rfl⟩ (zfi rfl n_r (zaa (jv 8) zae)) (fun _ _ _ _=>(zci (i:=0) (show List.Nodup [("j" :Str),("letters" :Str),("row" :Str),("n" :Str),("at" :Str)] from by decide +kernel) rfl (Or.inl rfl))) (fun _ _ _ _=>zef) (fun _ _ _ _=>(zaG (jv 1) (zaU (zao (zaG (jv 2) (jv 0)) (zia (jv 3) (zgN rfl n_n (zaa (zff hr (jv 0) (jv 4)) zae)))) zac))))) zae)))))
  (zai (zan (jv 10)))))))))))))
theorem o20{f:Addr}{d:FuncData}(F:Fun K "_law_titles" "_law_titles" s20 f d) (x19:C19 P w K mg base):Ok P w K mg base f d ["script", "k", "many"] zch:=zey rfl fun r ih=>zbu F sc20 rfl rfl fun _ _ _ _ _ _ hr=>(zad (zak (i:=3) sc20.nd rfl (Or.inr rfl) zah)
  (zad (zak (i:=4) sc20.nd rfl (Or.inr rfl) zah)
  (zai (zan (zbs (zen (N:=["word", "great", "letters"]) (k:=1) (fr:=[4,3]) ⟨rfl,by decide +kernel,rfl,rfl,rfl,rfl,rfl,rfl,rfl⟩ (zeZ (zam (x19.zg r) hr rfl x19.zm x19.zk x19.zb (zaa (jv 0) (zaa (jv 1) (zaa (jv 2) zae))))) (fun _ _ _ _=>(zci (i:=0) (show List.Nodup [("word" :Str),("great" :Str),("letters" :Str)] from by decide +kernel) rfl (Or.inl rfl))) (fun _ _ _ _=>zef) (fun _ _ _ _=>(zao (zaG (jv 1) (znr (jv 2) (zaa (zaG (jv 0) zac) zae))) (zbJ (jv 0) (zaq zac) zaB)))))))))
theorem o21{f:Addr}{d:FuncData}(F:Fun K "_law_pushed" "_law_pushed" s21 f d) (n_l:mg "len" =none) (n_t:mg "tuple" =none):Ok P w K mg base f d ["stack", "cell", "heads", "leaves"] zcl:=zey rfl fun r ih=>zbu F sc21 rfl rfl fun _ _ _ _ _ _ hr=>(zad (zak (i:=4) sc21.nd rfl (Or.inl rfl) (zlt (zaW (zaa zac (zaa zac (zaa zac (zaa zac (zaa zac zae)))))) (zaU (jv 1) zac)))
  (zad (zak (i:=5) sc21.nd rfl (Or.inl rfl) (zca (jv 1) zac))
  (zad (zaO (JW.jt (zew (zdJ hr (jv 4) zac) (zed (zib (zaJ rfl n_l (zaa (jv 0) zae)) (jv 4))))) (zai (zan (zbs (zfT (jv 0) (zaW (zaa (zaG (jv 3) (zaU (jv 5) (zaJ rfl n_l (zaa (jv 3) zae)))) zae)))))) zav)
  (zai (zan (zbs (zll (zpU (jv 0) zaB (zaq (zix (jv 4)))) (zaW (zaa (zao (zdN (zaa (zaG (jv 2) (zaU (jv 5) (zaJ rfl n_l (zaa (jv 2) zae)))) zae)) (zkQ rfl n_t (zpU (jv 0) (zaq (zix (jv 4))) zaB))) zae)))))))))
theorem o22{f:Addr}{d:FuncData}(F:Fun K "_law_thing" "_law_thing" s22 f d) (x21:C21 P w K mg base) (n_l:mg "len" =none):Ok P w K mg base f d ["cells", "heads", "leaves"] zcb:=zey rfl fun r ih=>zbu F sc22 rfl rfl fun _ _ _ _ _ _ hr=>(zad (zak (i:=3) sc22.nd rfl (Or.inl rfl) (zbs (zaW zae)))
  (zad (zgx (zeZ (jv 0)) (zci (i:=4) sc22.nd rfl (Or.inl rfl)) (zai (zak (i:=3) sc22.nd rfl (Or.inl rfl) (zam (x21.zg r) hr rfl x21.zm x21.zk x21.zb (zaa (jv 3) (zaa (zaU (jv 4) (zlx zac zac)) (zaa (jv 1) (zaa (jv 2) zae))))))))
  (zad (zaO (zdJ hr (zaJ rfl n_l (zaa (jv 3) zae)) zac) (zai (zan (zaG (jv 2) zac))) zav)
  (zad (zet (ziQ (zaJ rfl n_l (zaa (jv 3) zae)) zac) (zai (zak (i:=3) sc22.nd rfl (Or.inl rfl) (zbs (zll (zpU (jv 3) zaB (zaq (zix zac))) (zaW (zaa (zdN (zaa (zaG (jv 1) zac) (zaa (zaG (jv 3) (zix zac)) (zaa (zaG (jv 3) (zix zac)) zae)))) zae)))))))
  (zai (zan (zaG (jv 3) zac)))))))
theorem o23{f:Addr}{d:FuncData}(F:Fun K "_law_written" "_law_written" s23 f d) (b:Binds K d ["t"] []) (m:mg "_law_written" =some (.ref f)) (n_i:mg "isinstance" =none) (n_n:mg "int" =none) (n_c:mg "str" =none):Ok P w K mg base f d ["t"] zar:=zey rfl fun r ih=>zbu F sc23 rfl rfl fun _ _ _ _ _ _ hr=>(zad (zaO (zaN (zeH rfl n_i rfl n_n PyProof.Rows.boot_int (jv 0) (by decide) (by decide) (zmR _ (by simp)))) (zai (zan (zao zah (zpf rfl n_c (zaa (jv 0) zae))))) zav)
  (zad (zak (i:=1) sc23.nd rfl (Or.inl rfl) (zaG (jv 0) zac))
  (zad (zak (i:=2) sc23.nd rfl (Or.inl rfl) zah)
  (zad (zgx (zeZ (zbJ (jv 0) (zaq zac) zaB)) (zci (i:=3) sc23.nd rfl (Or.inl rfl)) (zad (zak (i:=1) sc23.nd rfl (Or.inl rfl) (zao (zao (jv 1) (jv 2)) (zam ih hr rfl m F.kp b (zaa (jv 3) zae))))
  (zai (zak (i:=2) sc23.nd rfl (Or.inl rfl) zah))))
  (zad (zaO (zdJ hr (jv 2) zah) (zai (zak (i:=1) sc23.nd rfl (Or.inl rfl) (zao (jv 1) zah))) zav)
  (zai (zan (jv 1))))))))
theorem o24{f:Addr}{d:FuncData}(F:Fun K "_law_all_in" "_law_all_in" s24 f d) (n_a:mg "all" =none):Ok P w K mg base f d ["word", "some"] zbi:=zey rfl fun r ih=>zbu F zvg rfl rfl fun _ _ _ _ _ _ hr=>(zai (zan (zhg rfl n_a (zen (N:=["letter", "some"]) (k:=1) (fr:=[1]) ⟨rfl,by decide +kernel,rfl,rfl,rfl,rfl,rfl,rfl,rfl⟩ (zeZ (jv 0)) (fun _ _ _ _=>(zci (i:=0) (show List.Nodup [("letter" :Str),("some" :Str)] from by decide +kernel) rfl (Or.inl rfl))) (fun _ _ _ _=>zef) (fun _ _ _ _=>(zrO hr (jv 0) (jv 1)))))))
theorem o25{f:Addr}{d:FuncData}(F:Fun K "_law_is_word" "_law_is_word" s25 f d) (x24:C24 P w K mg base) (n_l:mg "len" =none):Ok P w K mg base f d ["word", "way"] zbm:=zey rfl fun r ih=>by
  refine zbu F sc25 rfl rfl fun _ _ _ _ _ _ hr=>?_;delta zbk zbY zbZ zaL zbK zcV zbW zcR;exact(zad (zak (i:=2) sc25.nd rfl (Or.inl rfl) zah)
  (zad (zaO (JW.jt (zgy (ziQ (zaJ rfl n_l (zaa (jv 0) zae)) zac) (zgy (zib (zaJ rfl n_l (zaa (jv 0) zae)) zac) (zgm (zaN (zam (x24.zg r) hr rfl x24.zm x24.zk x24.zb (zaa (jv 0) (zaa (jv 2) zae)))))))) (zai (zan zdF)) zav)
  (zad (zaO (zdJ hr (jv 1) zac) (zad (zak (i:=3) sc25.nd rfl (Or.inl rfl) (zcW (ztV (zaJ rfl n_l (zaa (jv 0) zae)) zac) (zcW (zsk (zaJ rfl n_l (zaa (jv 0) zae)) zac) (zcX (zrO hr (zaG (jv 0) zac) zah)))))
  (zai (zan (zcW (jv 3) (zcX (zam (x24.zg r) hr rfl x24.zm x24.zk x24.zb (zaa (zbJ (jv 0) (zaq zac) zaB) (zaa (jv 2) zae)))))))) zav)
  (zad (zak (i:=4) sc25.nd rfl (Or.inl rfl) (zbJ (jv 0) (zaq zac) zaB))
  (zad (zaO (JW.jt (zew (zkD hr (zbJ (jv 0) zaB (zaq zac)) zah) (zed (zbU (zaN (zam (x24.zg r) hr rfl x24.zm x24.zk x24.zb (zaa (jv 4) (zaa zah zae)))))))) (zai (zan zdF)) zav)
  (zai (zan (zpq (zff hr (zaJ rfl n_l (zaa (jv 4) zae)) zac) (zcX (zcW (zff hr (zaJ rfl n_l (zaa (jv 4) zae)) zac) (zcX (zsu hr (zaG (jv 4) zac) zah))))))))))))
theorem o26{f:Addr}{d:FuncData}(F:Fun K "_law_word_at" "_law_word_at" s26 f d) (n_l:mg "len" =none):Ok P w K mg base f d ["text", "at"] zbV:=zey rfl fun r ih=>zbu F sc26 rfl rfl fun _ _ _ _ _ _ hr=>(zad (zak (i:=2) sc26.nd rfl (Or.inl rfl) (jv 1))
  (zad (zet (JW.jt (zgy (zib (jv 2) (zaJ rfl n_l (zaa (jv 0) zae))) (zgm (zjt hr (zaG (jv 0) (jv 2)) zah)))) (zai (zak (i:=2) sc26.nd rfl (Or.inl rfl) (zao (jv 2) zac))))
  (zai (zan (zbJ (jv 0) (zaq (jv 1)) (zaq (jv 2)))))))
theorem o27{f:Addr}{d:FuncData}(F:Fun K "_law_reads" "_law_reads" s27 f d) (x26:C26 P w K mg base) (x25:C25 P w K mg base) (n_l:mg "len" =none) (n_n:mg "int" =none):Ok P w K mg base f d ["text", "way"] zby:=zey rfl fun r ih=>by
  refine zbu F sc27 rfl rfl fun _ _ _ _ _ _ hr=>?_;delta zct zbd zaY zaZ zbF zbC zbE zbA zaE zbB zcm zbc zcj zcx zcw zcz zcy zcv;delta zdp;delta zct zbd zaY zaZ zbF zbC zbE zbA zaE zbB zcm zbc zcj zcx zcw zcz zcy zcv;exact(zad (zak (i:=2) sc27.nd rfl (Or.inl rfl) zac)
  (zad (zak (i:=3) sc27.nd rfl (Or.inl rfl) zac)
  (zad (zak (i:=4) sc27.nd rfl (Or.inl rfl) zdF)
  (zad (zak (i:=5) sc27.nd rfl (Or.inl rfl) zac)
  (zad (zet (zib (jv 5) (zaJ rfl n_l (zaa (jv 0) zae))) (zad (zak (i:=6) sc27.nd rfl (Or.inl rfl) (zam (x26.zg r) hr rfl x26.zm x26.zk x26.zb (zaa (jv 0) (zaa (jv 5) zae))))
  (zai (zaO (zaN (jv 4)) (zad (zaO (JW.jt (zew (zbU (zaN (zam (x25.zg r) hr rfl x25.zm x25.zk x25.zb (zaa (jv 6) (zaa (jv 1) zae))))) (zed (ziQ (jv 2) zac)))) (zai (zan zdF)) zav)
  (zad (zak (i:=3) sc27.nd rfl (Or.inl rfl) (zao (jv 3) zac))
  (zad (zak (i:=5) sc27.nd rfl (Or.inl rfl) (zao (jv 5) (zaJ rfl n_l (zaa (jv 6) zae))))
  (zad (zak (i:=4) sc27.nd rfl (Or.inl rfl) (zff hr (zbJ (jv 0) (zaq (jv 5)) (zaq (zao (jv 5) zac))) zah))
  (zad (zaO (JW.jt (zgy (zaN (jv 4)) (zgm (zdJ hr (zaG (jv 6) zac) zah)))) (zai (zan zdF)) zav)
  (zad (zak (i:=2) sc27.nd rfl (Or.inl rfl) (zao (jv 2) (zgN rfl n_n (zaa (jv 4) zae))))
  (zai (zak (i:=5) sc27.nd rfl (Or.inl rfl) (zao (jv 5) (zgN rfl n_n (zaa (jv 4) zae))))))))))) (zai (zaO (JW.jt (zew (zdJ hr (jv 2) zac) (zew (zdJ hr (zaG (jv 0) (jv 5)) zah) (zed (zkD hr (jv 6) zah))))) (zai (zan zdF)) (zad (zak (i:=4) sc27.nd rfl (Or.inl rfl) (zff hr (zaG (jv 0) (jv 5)) zah))
  (zad (zak (i:=2) sc27.nd rfl (Or.inl rfl) (zlj (jv 2) (zgN rfl n_n (zaa (zff hr (zaG (jv 0) (jv 5)) zah) zae))))
  (zai (zak (i:=5) sc27.nd rfl (Or.inl rfl) (zao (jv 5) zac)))))))))))
  (zai (zan (zcW (zoT (jv 4)) (zcW (zff hr (jv 2) zac) (zcX (zus (jv 3) zac)))))))))))
theorem o28{f:Addr}{d:FuncData}(F:Fun K "_law_reads_turning" "_law_reads_turning" s28 f d) (x27:C27 P w K mg base) (x25:C25 P w K mg base) (n_l:mg "len" =none):Ok P w K mg base f d ["text"] zaF:=zey rfl fun r ih=>by
  refine zbu F sc28 rfl rfl fun _ _ _ _ _ _ hr=>?_;delta zbo zbq zbp zbn zbr;exact(zad (zak (i:=1) sc28.nd rfl (Or.inl rfl) (zmf (jv 0) (zaa zah zae)))
  (zad (zak (i:=2) sc28.nd rfl (Or.inl rfl) (zmf (jv 0) (zaa zah zae)))
  (zad (zaO (JW.jt (zew (ziQ (zaJ rfl n_l (zaa (jv 0) zae)) zac) (zew (zib (jv 1) zac) (zed (zib (jv 2) (zao (jv 1) zac)))))) (zai (zan zdF)) zav)
  (zad (zaO (JW.jt (zew (zbU (zaN (zam (x25.zg r) hr rfl x25.zm x25.zk x25.zb (zaa (zbJ (jv 0) zaB (zaq (jv 1))) (zaa zac zae))))) (zed (zup hr (zaG (jv 0) zac) zah)))) (zai (zan zdF)) zav)
  (zai (zan (zcW (zam (x27.zg r) hr rfl x27.zm x27.zk x27.zb (zaa (zbJ (jv 0) (zaq (zao (jv 1) zac)) (zaq (jv 2))) (zaa zac zae))) (zcX (zam (x27.zg r) hr rfl x27.zm x27.zk x27.zb (zaa (zbJ (jv 0) (zaq (zao (jv 2) zac)) zaB) (zaa zac zae)))))))))))
theorem o29{f:Addr}{d:FuncData}(F:Fun K "_law_is_thing" "_law_is_thing" s29 f d) (b:Binds K d ["t"] []) (m:mg "_law_is_thing" =some (.ref f)) (n_i:mg "isinstance" =none) (n_n:mg "int" =none) (n_a:mg "all" =none) (n_b:mg "bool" =none) (n_t:mg "tuple" =none) (n_l:mg "len" =none) (n_c:mg "str" =none):Ok P w K mg base f d ["t"] zay:=zey rfl fun r ih=>zbu F zvF rfl rfl fun _ _ _ _ _ _ hr=>(zad (zaO (zaN (zeH rfl n_i rfl n_n PyProof.Rows.boot_int (jv 0) (by decide) (by decide) (zmR _ (by simp)))) (zai (zan (zoT (zeH rfl n_i rfl n_b PyProof.Rows.boot_bool (jv 0) (by decide) (by decide) (zmR _ (by simp)))))) zav)
  (zad (zaO (JW.jt (zew (zbU (zaN (zeH rfl n_i rfl n_t PyProof.Rows.boot_tuple (jv 0) (by decide) (by decide) (zmR _ (by simp))))) (zew (zdJ hr (zaJ rfl n_l (zaa (jv 0) zae)) zac) (zed (zbU (zaN (zeH rfl n_i rfl n_c PyProof.Rows.boot_str (zaG (jv 0) zac) (by decide) (by decide) (zmR _ (by simp))))))))) (zai (zan zdF)) zav)
  (zai (zan (zhg rfl n_a (zen (N:=["one"]) (k:=1) (fr:=[]) ⟨rfl,by decide +kernel,rfl,rfl,rfl,rfl,rfl,rfl,rfl⟩ (zeZ (zbJ (jv 0) (zaq zac) zaB)) (fun _ _ _ _=>(zci (i:=0) (show List.Nodup [("one" :Str)] from by decide +kernel) rfl (Or.inl rfl))) (fun _ _ _ _=>zef) (fun _ _ _ _=>(zam ih hr rfl m F.kp b (zaa (jv 0) zae)))))))))
theorem o30{f:Addr}{d:FuncData}(F:Fun K "_law_text_of" "_law_text_of" s30 f d) (x23:C23 P w K mg base) (x29:C29 P w K mg base) (n_i:mg "isinstance" =none) (n_t:mg "tuple" =none) (n_l:mg "len" =none) (n_c:mg "str" =none):Ok P w K mg base f d ["found", "way"] zbS:=zey rfl fun r ih=>by
  refine zbu F zvJ rfl rfl fun _ _ _ _ _ _ hr=>?_;delta zcS zcQ zcU zbI zbL zcP;exact(zad (zaO (zib (jv 1) zac) (zad (zaO (zbU (zaN (zam (x29.zg r) hr rfl x29.zm x29.zk x29.zb (zaa (jv 0) zae)))) (zai (zan zah)) zav)
  (zai (zan (zam (x23.zg r) hr rfl x23.zm x23.zk x23.zb (zaa (jv 0) zae))))) zav)
  (zad (zaO (JW.jt (zew (zbU (zaN (zeH rfl n_i rfl n_t PyProof.Rows.boot_tuple (jv 0) (by decide) (by decide) (zmR _ (by simp))))) (zew (zkD hr (zaJ rfl n_l (zaa (jv 0) zae)) zac) (zed (zbU (zaN (zeH rfl n_i rfl n_c PyProof.Rows.boot_str (zaG (jv 0) zac) (by decide) (by decide) (zmR _ (by simp))))))))) (zai (zan zah)) zav)
  (zad (zaO (JW.jt (zew (zbU (zaN (zam (x29.zg r) hr rfl x29.zm x29.zk x29.zb (zaa (zaG (jv 0) zac) zae)))) (zed (zbU (zaN (zam (x29.zg r) hr rfl x29.zm x29.zk x29.zb (zaa (zaG (jv 0) zac) zae))))))) (zai (zan zah)) zav)
  (zai (zan (zao (zao (zao (zao (zaG (jv 0) zac) zah) (zam (x23.zg r) hr rfl x23.zm x23.zk x23.zb (zaa (zaG (jv 0) zac) zae))) zah) (zam (x23.zg r) hr rfl x23.zm x23.zk x23.zb (zaa (zaG (jv 0) zac) zae))))))))
theorem o31{f:Addr}{d:FuncData}(F:Fun K "_law_good" "_law_good" s31 f d) (x15:C15 P w K mg base) (x30:C30 P w K mg base) (x16:C16 P w K mg base) (x17:C17 P w K mg base) (x27:C27 P w K mg base) (x28:C28 P w K mg base) (n_i:mg "isinstance" =none) (n_c:mg "str" =none) (n_ValueError:mg "ValueError" =none) (y_NoText:Ncl mg "NoText") (y_NoTurning:Ncl mg "NoTurning") (y_TurnError:Ncl mg "TurnError") (e_NoText_TurnError:PySem.W.exmOne K (.ref y_NoText.xC) (.ref y_TurnError.xC)=some true) (q_NoText_NoText:PySem.W.kitOne K (.ref y_NoText.xC) (.ref y_NoText.xC)=some (zhp "NoText" "NoText")) (q_NoText_NoTurning:PySem.W.kitOne K (.ref y_NoText.xC) (.ref y_NoTurning.xC)=some (zhp "NoText" "NoTurning")) (q_NoText_ValueError:PySem.W.kitOne K (.ref y_NoText.xC) (.type "ValueError")=some (zhp "NoText" "ValueError")) (v_NoText:XcIn K "NoText" y_NoText.xC):Ok P w K mg base f d ["text", "way"] zaM:=zey rfl fun r ih=>by
  refine zbu F sc31 rfl rfl fun _ _ _ _ _ _ hr=>?_;delta zcZ zbM zbG zbH zdb zda;exact(zad (zak (i:=2) sc31.nd rfl (Or.inl rfl) (zbs (zaW zae)))
  (zad (zak (i:=3) sc31.nd rfl (Or.inl rfl) zoU)
  (zad (znh (fun _ _=>(zhz (ztf (zdJ hr (jv 1) zac) (zhz (zmq (i:=3) sc31.nd rfl (Or.inl rfl) (ziS (x15.zg r) hr rfl x15.zm x15.zk x15.zb (zaa (jv 0) zae)))) (zhz (ztf (zdJ hr (jv 1) zac) (zhz (zmq (i:=3) sc31.nd rfl (Or.inl rfl) (ziS (x16.zg r) hr rfl x16.zm x16.zk x16.zb (zaa (jv 0) zae)))) (zhz (zmq (i:=3) sc31.nd rfl (Or.inl rfl) (ziS (x17.zg r) hr rfl x17.zm x17.zk x17.zb (zaa (jv 0) zae))))))))) (alc ⟨y_NoText.xC,v_NoText,e_NoText_TurnError,fun a oa pn hp hc=>(zai (zak (i:=2) sc31.nd rfl (Or.inl rfl) (zbs (zaW (zaa (zoG hp hc v_NoText.xc q_NoText_NoText rfl n_i (i:=4) rfl (Or.inl rfl) rfl y_NoText.xm) (zaa (zpz hp hc v_NoText.xc q_NoText_ValueError rfl n_i (i:=4) rfl (Or.inl rfl) rfl n_ValueError zge) (zaa (zoG hp hc v_NoText.xc q_NoText_NoTurning rfl n_i (i:=4) rfl (Or.inl rfl) rfl y_NoTurning.xm) zae)))))))⟩ aln) rfl y_TurnError.xm sc31.nd rfl rfl)
  (zad (zak (i:=5) sc31.nd rfl (Or.inl rfl) (zcW (zeH rfl n_i rfl n_c PyProof.Rows.boot_str (jv 0) (by decide) (by decide) (zmR _ (by simp))) (zcX (zpq (zcW (zsk (jv 1) zac) (zcX (zam (x27.zg r) hr rfl x27.zm x27.zk x27.zb (zaa (jv 0) (zaa (jv 1) zae))))) (zcX (zcW (zff hr (jv 1) zac) (zcX (zam (x28.zg r) hr rfl x28.zm x28.zk x28.zb (zaa (jv 0) zae)))))))))
  (zad (zaO (zbU (zaN (jv 5))) (zai (zan (zff hr (jv 2) (zbs (zaW (zaa zdF (zaa zdF (zaa zdF zae)))))))) zav)
  (zai (zan (zcW (zff hr (jv 2) (zbs (zaW zae))) (zcX (zff hr (zam (x30.zg r) hr rfl x30.zm x30.zk x30.zb (zaa (jv 3) (zaa (jv 1) zae))) (jv 0)))))))))))
theorem o32{f:Addr}{d:FuncData}(F:Fun K "_law_spoiled" "_law_spoiled" s32 f d) (n_l:mg "len" =none):Ok P w K mg base f d ["text", "cell"] zbR:=zey rfl fun r ih=>zbu F sc32 rfl rfl fun _ _ _ _ _ _ hr=>(zad (zak (i:=2) sc32.nd rfl (Or.inl rfl) zah)
  (zad (zak (i:=3) sc32.nd rfl (Or.inl rfl) (zaU (jv 1) zac))
  (zad (zak (i:=4) sc32.nd rfl (Or.inl rfl) (zaU (zca (jv 1) zac) (zaJ rfl n_l (zaa (jv 0) zae))))
  (zad (zak (i:=5) sc32.nd rfl (Or.inl rfl) (zaG (jv 2) (zaU (zca (zca (jv 1) zac) (zaJ rfl n_l (zaa (jv 0) zae))) (zaJ rfl n_l (zaa (jv 2) zae)))))
  (zad (zaO (zdJ hr (jv 3) zac) (zai (zan (zao (zbJ (jv 0) zaB (zaq (jv 4))) (zbJ (jv 0) (zaq (zao (jv 4) zac)) zaB)))) zav)
  (zad (zaO (zdJ hr (jv 3) zac) (zai (zan (zao (zbJ (jv 0) zaB (zaq (zao (jv 4) zac))) (zbJ (jv 0) (zaq (jv 4)) zaB)))) zav)
  (zad (zaO (zdJ hr (jv 3) zac) (zai (zan (zao (zao (zbJ (jv 0) zaB (zaq (jv 4))) (jv 5)) (zbJ (jv 0) (zaq (zao (jv 4) zac)) zaB)))) zav)
  (zad (zaO (zdJ hr (jv 3) zac) (zai (zan (zao (zao (zbJ (jv 0) zaB (zaq (jv 4))) (jv 5)) (zbJ (jv 0) (zaq (jv 4)) zaB)))) zav)
  (zad (zak (i:=6) sc32.nd rfl (Or.inl rfl) (zao (zbJ (jv 0) (zaq (zao (jv 4) zac)) (zaq (zao (jv 4) zac))) (zbJ (jv 0) (zaq (jv 4)) (zaq (zao (jv 4) zac)))))
  (zai (zan (zao (zao (zbJ (jv 0) zaB (zaq (jv 4))) (jv 6)) (zbJ (jv 0) (zaq (zao (jv 4) zac)) zaB)))))))))))))
theorem o33{f:Addr}{d:FuncData}(F:Fun K "_law_odd" "_law_odd" s33 f d) (n_l:mg "len" =none):Ok P w K mg base f d ["cell"] zdO:=zey rfl fun r ih=>by
  refine zbu F sc33 rfl rfl fun _ _ _ _ _ _ hr=>?_;delta zdu zds zdA zdt zdv zdw;refine zad ?_ ?_
  ·refine zak (i:=1) ?_ ?_ ?_ ?_ ?_ ?_
   ·exact sc33.nd
   ·rfl
   ·exact(Or.inl rfl)
   rotate_left
   ·rfl
   ·first |exact .inl rfl |exact .inr rfl |assumption
   refine zbs ?_;refine zaW ?_;refine zaa ?_ ?_ ?_
   ·exact zah
   rotate_left
   ·rfl
   refine zaa ?_ ?_ ?_
   ·exact zah
   rotate_left
   ·rfl
   refine zaa ?_ ?_ ?_
   ·exact zah
   rotate_left
   ·rfl
   refine zaa ?_ ?_ ?_
   ·exact zah
   rotate_left
   ·rfl
   refine zaa ?_ ?_ ?_
   ·exact zah
   rotate_left
   ·rfl
   refine zaa ?_ ?_ ?_
   ·exact zah
   rotate_left
   ·rfl
   refine zaa ?_ ?_ ?_
   ·exact zah
   rotate_left
   ·rfl
   refine zaa ?_ ?_ ?_
   ·exact zah
   rotate_left
   ·rfl
   refine zaa ?_ ?_ ?_
   ·exact zah
   rotate_left
   ·rfl
   refine zaa ?_ ?_ ?_
   ·exact zah
   rotate_left
   ·rfl
   refine zaa ?_ ?_ ?_
   ·exact zah
   rotate_left
   ·rfl
   refine zaa ?_ ?_ ?_
   ·exact zah
   rotate_left
   ·rfl
   refine zaa ?_ ?_ ?_
   ·exact zah
   rotate_left
   ·rfl
   refine zaa ?_ ?_ ?_
   ·exact zah
   rotate_left
   ·rfl
   refine zaa ?_ ?_ ?_
   ·exact zah
   rotate_left
   ·rfl
   exact zae
  refine zad ?_ ?_
  ·refine zak (i:=1) ?_ ?_ ?_ ?_ ?_ ?_
   ·exact sc33.nd
   ·rfl
   ·exact(Or.inl rfl)
   rotate_left
   ·rfl
   ·first |exact .inl rfl |exact .inr rfl |assumption
   refine zbs ?_;refine zfT (jv 1) ?_;refine zaW ?_;refine zaa ?_ ?_ ?_
   ·exact zah
   rotate_left
   ·rfl
   refine zaa ?_ ?_ ?_
   ·exact zah
   rotate_left
   ·rfl
   refine zaa ?_ ?_ ?_
   ·exact zah
   rotate_left
   ·rfl
   refine zaa ?_ ?_ ?_
   ·exact zah
   rotate_left
   ·rfl
   refine zaa ?_ ?_ ?_
   ·exact zah
   rotate_left
   ·rfl
   refine zaa ?_ ?_ ?_
   ·exact zah
   rotate_left
   ·rfl
   refine zaa ?_ ?_ ?_
   ·exact zah
   rotate_left
   ·rfl
   refine zaa ?_ ?_ ?_
   ·exact zah
   rotate_left
   ·rfl
   refine zaa ?_ ?_ ?_
   ·exact zah
   rotate_left
   ·rfl
   refine zaa ?_ ?_ ?_
   ·exact zah
   rotate_left
   ·rfl
   exact zae
  refine zad ?_ ?_
  ·refine zak (i:=1) ?_ ?_ ?_ ?_ ?_ ?_
   ·exact sc33.nd
   ·rfl
   ·exact(Or.inl rfl)
   rotate_left
   ·rfl
   ·first |exact .inl rfl |exact .inr rfl |assumption
   refine zbs ?_;refine zfT (jv 1) ?_;refine zaW ?_;refine zaa ?_ ?_ ?_
   ·exact zah
   rotate_left
   ·rfl
   refine zaa ?_ ?_ ?_
   ·exact zah
   rotate_left
   ·rfl
   refine zaa ?_ ?_ ?_
   ·exact zah
   rotate_left
   ·rfl
   refine zaa ?_ ?_ ?_
   ·exact zah
   rotate_left
   ·rfl
   refine zaa ?_ ?_ ?_
   ·exact zah
   rotate_left
   ·rfl
   refine zaa ?_ ?_ ?_
   ·exact zah
   rotate_left
   ·rfl
   refine zaa ?_ ?_ ?_
   ·exact zah
   rotate_left
   ·rfl
   refine zaa ?_ ?_ ?_
   ·exact zah
   rotate_left
   ·rfl
   refine zaa ?_ ?_ ?_
   ·exact zah
   rotate_left
   ·rfl
   exact zae
  refine zad ?_ ?_
  ·refine zak (i:=1) ?_ ?_ ?_ ?_ ?_ ?_
   ·exact sc33.nd
   ·rfl
   ·exact(Or.inl rfl)
   rotate_left
   ·rfl
   ·first |exact .inl rfl |exact .inr rfl |assumption
   refine zbs ?_;refine zfT (jv 1) ?_;refine zaW ?_;refine zaa ?_ ?_ ?_
   ·exact zah
   rotate_left
   ·rfl
   refine zaa ?_ ?_ ?_
   ·exact zah
   rotate_left
   ·rfl
   refine zaa ?_ ?_ ?_
   ·exact zah
   rotate_left
   ·rfl
   refine zaa ?_ ?_ ?_
   ·exact zah
   rotate_left
   ·rfl
   refine zaa ?_ ?_ ?_
   ·exact zah
   rotate_left
   ·rfl
   refine zaa ?_ ?_ ?_
   ·exact zah
   rotate_left
   ·rfl
   refine zaa ?_ ?_ ?_
   ·exact zah
   rotate_left
   ·rfl
   exact zae
  refine zad ?_ ?_
  ·refine zak (i:=1) ?_ ?_ ?_ ?_ ?_ ?_
   ·exact sc33.nd
   ·rfl
   ·exact(Or.inl rfl)
   rotate_left
   ·rfl
   ·first |exact .inl rfl |exact .inr rfl |assumption
   refine zbs ?_;refine zfT (jv 1) ?_;refine zaW ?_;refine zaa ?_ ?_ ?_
   ·exact zah
   rotate_left
   ·rfl
   refine zaa ?_ ?_ ?_
   ·exact zah
   rotate_left
   ·rfl
   refine zaa ?_ ?_ ?_
   ·exact zah
   rotate_left
   ·rfl
   refine zaa ?_ ?_ ?_
   ·exact zah
   rotate_left
   ·rfl
   refine zaa ?_ ?_ ?_
   ·exact zah
   rotate_left
   ·rfl
   refine zaa ?_ ?_ ?_
   ·exact zah
   rotate_left
   ·rfl
   exact zae
  refine zai ?_
  ·exact(zan (zaG (jv 1) (zaU (jv 0) (zaJ rfl n_l (zaa (jv 1) zae)))))
theorem o34{f:Addr}{d:FuncData}(F:Fun K "_law_bound" "_law_bound" s34 f d):Ok P w K mg base f d ["cell", "signs"] zcE:=zey rfl fun r ih=>by
  refine zbu F sc34 rfl rfl fun _ _ _ _ _ _ hr=>?_;delta zcu zcA zbP zcg zcn zdH zdD;exact(zad (zak (i:=2) sc34.nd rfl (Or.inl rfl) (zlj (zaU (zca (jv 0) zac) zac) zac))
  (zad (zaO (zdJ hr (zaU (jv 0) zac) zac) (zad (zak (i:=3) sc34.nd rfl (Or.inl rfl) (zao zac (jv 2)))
  (zai (zan (zao (zao (zjj (zao (zaG (jv 1) zac) zah) (jv 3)) (zaG (jv 1) zac)) (zjj zah (jv 3)))))) zav)
  (zad (zaO (zdJ hr (zaU (jv 0) zac) zac) (zai (zan (zao (zao (zao (zaG (jv 1) zac) zah) (zfH zah (zoL (zaW (zaa (zaG (jv 1) zac) zae)) (zao zac (jv 2))))) zah))) zav)
  (zad (zak (i:=4) sc34.nd rfl (Or.inl rfl) (zfH zah (zoL (zaW (zaa zah zae)) zac)))
  (zai (zan (zao (zao (zao (zao (zao (zao zah (jv 4)) zah) (zjj zah (zao zac (jv 2)))) zah) (jv 4)) zah)))))))
theorem o35{f:Addr}{d:FuncData}(F:Fun K "law" "law" s35 f d) (x19:C19 P w K mg base) (x20:C20 P w K mg base) (x23:C23 P w K mg base) (x18:C18 P w K mg base) (x34:C34 P w K mg base) (x31:C31 P w K mg base) (x22:C22 P w K mg base) (x32:C32 P w K mg base) (x33:C33 P w K mg base) (n_r:mg "range" =none) (n_l:mg "len" =none):Ok P w K mg base f d ["script"] zdK:=zey rfl fun r ih=>by
  refine zbu F sc35 rfl rfl fun _ _ _ _ _ _ hr=>?_;delta zcH zcC zcD zcJ zcB zcL zcK zcI zdl zde zdq zdo zdg zdm zdj zdi zdk;delta zeM;delta zcH zcC zcD zcJ zcB zcL zcK zcI zdl zde zdq zdo zdg zdm zdj zdi zdk;exact(zad (zak (i:=1) sc35.nd rfl (Or.inl rfl) (zam (x19.zg r) hr rfl x19.zm x19.zk x19.zb (zaa (jv 0) (zaa zac (zaa zac zae)))))
  (zad (zak (i:=2) sc35.nd rfl (Or.inl rfl) (zam (x20.zg r) hr rfl x20.zm x20.zk x20.zb (zaa (jv 0) (zaa zac (zaa zac zae)))))
  (zad (zak (i:=3) sc35.nd rfl (Or.inl rfl) (zao zac (zca (zaJ rfl n_l (zaa (zbJ (jv 0) (zaq zac) (zaq zac)) zae)) zac)))
  (zad (zak (i:=4) sc35.nd rfl (Or.inl rfl) (zbs (zaW (zaa (zdN (zaa (zaG (jv 1) zac) zae)) (zaa (zdN (zaa (zaG (jv 2) zac) zae)) (zaa (zdN (zaa (zaG (jv 1) zac) zae)) zae))))))
  (zad (zak (i:=5) sc35.nd rfl (Or.inl rfl) (zam (x23.zg r) hr rfl x23.zm x23.zk x23.zb (zaa (zam (x22.zg r) hr rfl x22.zm x22.zk x22.zb (zaa (zbJ (jv 0) (zaq zac) (zaq (jv 3))) (zaa (zao (jv 1) (jv 2)) (zaa (jv 4) zae)))) zae)))
  (zad (zak (i:=6) sc35.nd rfl (Or.inl rfl) (zbs (zaW (zaa (zdN (zaa (zaG (jv 1) zac) zae)) (zaa zac (zaa (zdN (zaa (zaG (jv 1) zac) zae)) (zaa (zaU (zam (x18.zg r) hr rfl x18.zm x18.zk x18.zb (zaa (jv 0) (zaa zac zae))) zac) (zaa zac zae))))))))
  (zad (zak (i:=7) sc35.nd rfl (Or.inl rfl) (zam (x23.zg r) hr rfl x23.zm x23.zk x23.zb (zaa (zam (x22.zg r) hr rfl x22.zm x22.zk x22.zb (zaa (zbJ (jv 0) (zaq (jv 3)) (zaq zac)) (zaa (jv 1) (zaa (jv 6) zae)))) zae)))
  (zad (zak (i:=8) sc35.nd rfl (Or.inl rfl) (zbs (zaW (zaa (jv 5) (zaa (jv 7) (zaa (zao (zao (zao (zao (zaG (jv 2) zac) zah) (jv 7)) zah) (zaG (jv 1) zac)) zae))))))
  (zad (zgx (zfi rfl n_r (zaa zac zae)) (zci (i:=9) sc35.nd rfl (Or.inl rfl)) (zad (zak (i:=10) sc35.nd rfl (Or.inl rfl) (zam (x18.zg r) hr rfl x18.zm x18.zk x18.zb (zaa (jv 0) (zaa (zao zac (jv 9)) zae))))
  (zad (zak (i:=11) sc35.nd rfl (Or.inl rfl) (zaU (jv 10) zac))
  (zad (zaO (zbU (zaN (zam (x31.zg r) hr rfl x31.zm x31.zk x31.zb (zaa (zam (x32.zg r) hr rfl x32.zm x32.zk x32.zb (zaa (zaG (jv 8) (jv 11)) (zaa (zca (jv 10) zac) zae))) (zaa (jv 11) zae))))) (zai (zan zdF)) zav)
  (zai (zaO (zbU (zaN (zam (x31.zg r) hr rfl x31.zm x31.zk x31.zb (zaa (zam (x33.zg r) hr rfl x33.zm x33.zk x33.zb (zaa (zca (jv 10) zac) zae)) (zaa (jv 11) zae))))) (zai (zan zdF)) zav))))))
  (zad (zak (i:=10) sc35.nd rfl (Or.inl rfl) (zam (x18.zg r) hr rfl x18.zm x18.zk x18.zb (zaa (jv 0) (zaa zac zae))))
  (zad (zak (i:=12) sc35.nd rfl (Or.inl rfl) (zam (x34.zg r) hr rfl x34.zm x34.zk x34.zb (zaa (jv 10) (zaa (jv 1) zae))))
  (zad (zaO (zbU (zaN (zam (x31.zg r) hr rfl x31.zm x31.zk x31.zb (zaa (jv 12) (zaa (zlt (zaW (zaa (zaU (zca (jv 10) zac) zac) (zaa (zaU (zca (jv 10) zac) zac) (zaa zac zae)))) (zaU (jv 10) zac)) zae))))) (zai (zan zdF)) zav)
  (zai (zan (zam (x31.zg r) hr rfl x31.zm x31.zk x31.zb (zaa (zlt (zaW (zaa zoU (zaa zac (zaa zdF (zaa (zbs (zaW (zaa zah zae))) (zaa (zdN (zaa zah zae)) zae)))))) (zaU (zca (jv 10) zac) zac)) (zaa (zaU (zca (jv 10) zac) zac) zae)))))))))))))))))
end
theorem all_mk{l:PySem.W.OpenLaw}{w:World}{K:PySem.W.Frag}{h:Heap}{mg:Str→Option Value}{fa:Addr}(X:K.In h) (G:h.Ns mainGlobals mg) (hfa:mg "law" =some (.ref fa))
  {C_Reader:Addr}(z_Reader:PySem.W.nsIn K mainGlobals "Reader" =some (some (.ref C_Reader))) (zp_Reader:PySem.W.plainGet K C_Reader Str.empty=true) (zh_Reader:PySem.W.hasDictIn K C_Reader=true) (zo_Reader:PySem.W.plainOver K C_Reader=true) (zs_Reader:PySem.W.findIn K (.ref C_Reader) "__setattr__" =some (some (.builtin "object.__setattr__"))) (zm_Reader:PySem.W.makesIn K C_Reader=true) (zk_Reader:PySem.W.keepIn K (.ref C_Reader)=true)
  (zn_Reader_at:PySem.W.findIn K (.ref C_Reader) "at" =some none)
  (zn_Reader_in_side:PySem.W.findIn K (.ref C_Reader) "in_side" =some none)
  (zn_Reader_text:PySem.W.findIn K (.ref C_Reader) "text" =some none)
  (D0:Dfn K "parts_of" s0)
  (D1:Dfn K "parts_of_all" s1)
  (D2:Dfn K "is_small" s2)
  (D4:Dfn K "is_sign" s4)
  (D5:Dfn K "is_title" s5)
  (D3:Dfn K "are_small_letters" s3)
  (D15:Dfn K "read_way" s15)
  (D16:Dfn K "read_side" s16)
  (D17:Dfn K "read_turning" s17)
  (D13:Dfn K "check_text" s13)
  (D14:Dfn K "read_whole" s14)
  (D6:zqQ K C_Reader "__init__" "Reader.__init__" s6)
  (D7:zqQ K C_Reader "here" "Reader.here" s7)
  (D8:zqQ K C_Reader "read_word" "Reader.read_word" s8)
  (D12:zqQ K C_Reader "read_thing" "Reader.read_thing" s12)
  (D9:zqQ K C_Reader "read_parts" "Reader.read_parts" s9)
  (D11:Dfn K "is_blank_text" s11)
  (D10:Dfn K "is_short_number" s10)
  (D18:Dfn K "_law_draw" s18)
  (D19:Dfn K "_law_signs" s19)
  (D20:Dfn K "_law_titles" s20)
  (D21:Dfn K "_law_pushed" s21)
  (D22:Dfn K "_law_thing" s22)
  (D23:Dfn K "_law_written" s23)
  (D24:Dfn K "_law_all_in" s24)
  (D25:Dfn K "_law_is_word" s25)
  (D26:Dfn K "_law_word_at" s26)
  (D27:Dfn K "_law_reads" s27)
  (D28:Dfn K "_law_reads_turning" s28)
  (D29:Dfn K "_law_is_thing" s29)
  (D30:Dfn K "_law_text_of" s30)
  (D31:Dfn K "_law_good" s31)
  (D32:Dfn K "_law_spoiled" s32)
  (D33:Dfn K "_law_odd" s33)
  (D34:Dfn K "_law_bound" s34)
  (D35:Dfn K "law" s35)
  (z_ValueError:PySem.W.nsIn K mainGlobals "ValueError" =some none)
  (z_a:PySem.W.nsIn K mainGlobals "all" =some none)
  (z_b:PySem.W.nsIn K mainGlobals "bool" =some none)
  (z_n:PySem.W.nsIn K mainGlobals "int" =some none)
  (z_i:PySem.W.nsIn K mainGlobals "isinstance" =some none)
  (z_l:PySem.W.nsIn K mainGlobals "len" =some none)
  (z_r:PySem.W.nsIn K mainGlobals "range" =some none)
  (z_c:PySem.W.nsIn K mainGlobals "str" =some none)
  (z_t:PySem.W.nsIn K mainGlobals "tuple" =some none)
  {t_MOST_HEAVY:Tok}(z_MOST_HEAVY:PySem.W.nsIn K mainGlobals "MOST_HEAVY" =some (some (.int 400 t_MOST_HEAVY)))
  {t_MOST_DEEP:Tok}(z_MOST_DEEP:PySem.W.nsIn K mainGlobals "MOST_DEEP" =some (some (.int 40 t_MOST_DEEP)))
  {t_MOST_LETTERS:Tok}(z_MOST_LETTERS:PySem.W.nsIn K mainGlobals "MOST_LETTERS" =some (some (.int 8 t_MOST_LETTERS)))
  {t_MOST_SIGNS:Tok}(z_MOST_SIGNS:PySem.W.nsIn K mainGlobals "MOST_SIGNS" =some (some (.int 4000 t_MOST_SIGNS)))
  {C_NoText:Addr}(z_NoText:PySem.W.nsIn K mainGlobals "NoText" =some (some (.ref C_NoText)))
  {C_NoTurning:Addr}(z_NoTurning:PySem.W.nsIn K mainGlobals "NoTurning" =some (some (.ref C_NoTurning)))
  {C_TurnError:Addr}(z_TurnError:PySem.W.nsIn K mainGlobals "TurnError" =some (some (.ref C_TurnError)))
  (ze_NoText_TurnError:PySem.W.exmOne K (.ref C_NoText) (.ref C_TurnError)=some true)
  (zq_NoText_NoText:PySem.W.kitOne K (.ref C_NoText) (.ref C_NoText)=some (true))
  (zq_NoText_NoTurning:PySem.W.kitOne K (.ref C_NoText) (.ref C_NoTurning)=some (false))
  (zq_NoText_ValueError:PySem.W.kitOne K (.ref C_NoText) (.type "ValueError")=some (true))
  (za_NoText:PySem.W.excIn K C_NoText bmV "ValueError.__new__" =true) (zb_NoText:PySem.W.findIn K (.ref C_NoText) "__getattribute__" =some (some (.builtin "BaseException.__getattribute__"))) (zc_NoText:PySem.W.findIn K (.ref C_NoText) "__getattr__" =some none) (zd_NoText:PySem.W.findIn K (.ref C_NoText) "__class__" =some (some (.builtin "object.__class__"))) (ze_NoText:PySem.W.mroIn K C_NoText (.type "object")=some true) (zf_NoText:PySem.W.mroIn K C_NoText (.type "BaseException")=some true)
  :∃fd:FuncData,(∀(s:Shared) (v:Value),BindsTo s fd ⟨[v],[]⟩ [("script",v)])∧ ∀base:Heap,K.In base→base.Ns mainGlobals mg→FnOk l.prog w K mg base (CX1 l.prog w) 200 fa fd ["script"] (zaV K (zdK 200)):=by
 obtain⟨f35,d35,a35,F35⟩:=D35;have e:=hfa.symm.trans (PySem.W.mg_of X G a35);cases e;obtain⟨f6,d6,a6,i6,F6⟩:=D6;obtain⟨f7,d7,a7,i7,F7⟩:=D7;obtain⟨f8,d8,a8,i8,F8⟩:=D8;obtain⟨f12,d12,a12,i12,F12⟩:=D12;obtain⟨f9,d9,a9,i9,F9⟩:=D9;have n_ValueError:=PySem.W.mg_none_of X G z_ValueError;have n_a:=PySem.W.mg_none_of X G z_a;have n_b:=PySem.W.mg_none_of X G z_b;have n_n:=PySem.W.mg_none_of X G z_n;have n_i:=PySem.W.mg_none_of X G z_i;have n_l:=PySem.W.mg_none_of X G z_l;have n_r:=PySem.W.mg_none_of X G z_r;have n_c:=PySem.W.mg_none_of X G z_c;have n_t:=PySem.W.mg_none_of X G z_t;have g_MOST_HEAVY:=PySem.W.mg_of X G z_MOST_HEAVY;have g_MOST_DEEP:=PySem.W.mg_of X G z_MOST_DEEP;have g_MOST_LETTERS:=PySem.W.mg_of X G z_MOST_LETTERS;have g_MOST_SIGNS:=PySem.W.mg_of X G z_MOST_SIGNS;refine⟨d35,fun s v=>?_,fun base _ _=>?_⟩
 ·obtain⟨oc,od,kV,doc,pm,an,cdv,ct,osl,rfl,lk,hcd⟩:=F35.ex;exact .of_eq rfl
 obtain⟨f,d,a,F⟩:=D0;have x0:=mkC (base:=base) X G F a (o0 (P:=l.prog) (w:=w) F n_i n_n) (F.binds fun _ _ _ _ _ _=>n1 fun _=>rfl);obtain⟨f,d,a,F⟩:=D1;have x1:=mkC (base:=base) X G F a (o1 (P:=l.prog) (w:=w) F x0) (F.binds fun _ _ _ _ _ _=>n1 fun _=>rfl);obtain⟨f,d,a,F⟩:=D2;have x2:=mkC (base:=base) X G F a (o2 (P:=l.prog) (w:=w) F x1 n_l g_MOST_HEAVY g_MOST_DEEP) (F.binds fun _ _ _ _ _ _=>n1 fun _=>rfl);obtain⟨f,d,a,F⟩:=D3;have x3:=mkC (base:=base) X G F a (o3 (P:=l.prog) (w:=w) F n_a) (F.binds fun _ _ _ _ _ _=>n1 fun _=>rfl);obtain⟨f,d,a,F⟩:=D4;have x4:=mkC (base:=base) X G F a (o4 (P:=l.prog) (w:=w) F x3 n_l g_MOST_LETTERS) (F.binds fun _ _ _ _ _ _=>n1 fun _=>rfl);obtain⟨f,d,a,F⟩:=D5;have x5:=mkC (base:=base) X G F a (o5 (P:=l.prog) (w:=w) F x3 n_l g_MOST_LETTERS) (F.binds fun _ _ _ _ _ _=>n1 fun _=>rfl);have x6:C6 l.prog w K mg base C_Reader:=⟨f6,d6,o6 (P:=l.prog) (w:=w) F6 ⟨C_Reader,z_Reader,⟨zp_Reader,zh_Reader,zo_Reader,zs_Reader⟩,PySem.W.mg_of X G z_Reader⟩ zn_Reader_at zn_Reader_in_side zn_Reader_text,(F6.binds fun _ _ _ _ _ _=>n3 fun _ _ _=>rfl),⟨a6,i6,F6.kp⟩⟩;have x7:C7 l.prog w K mg base C_Reader:=⟨f7,d7,o7 (P:=l.prog) (w:=w) F7 ⟨C_Reader,z_Reader,⟨zp_Reader,zh_Reader,zo_Reader,zs_Reader⟩,PySem.W.mg_of X G z_Reader⟩ zn_Reader_at zn_Reader_text,(F7.binds fun _ _ _ _ _ _=>n1 fun _=>rfl),⟨a7,i7,F7.kp⟩⟩;have x8:C8 l.prog w K mg base C_Reader:=⟨f8,d8,o8 (P:=l.prog) (w:=w) F8 ⟨C_Reader,z_Reader,⟨zp_Reader,zh_Reader,zo_Reader,zs_Reader⟩,PySem.W.mg_of X G z_Reader⟩ zn_Reader_at zn_Reader_text x7,(F8.binds fun _ _ _ _ _ _=>n1 fun _=>rfl),⟨a8,i8,F8.kp⟩⟩;have x9:C9 l.prog w K mg base C_Reader f12 d12:=⟨f9,d9,o9 (P:=l.prog) (w:=w) F9 ⟨C_Reader,z_Reader,⟨zp_Reader,zh_Reader,zo_Reader,zs_Reader⟩,PySem.W.mg_of X G z_Reader⟩ zn_Reader_at (F12.binds fun _ _ _ _ _ _=>n2 fun _ _=>rfl) ⟨a12,i12,F12.kp⟩ x7 n_t ⟨C_NoText,PySem.W.mg_of X G z_NoText⟩ ⟨z_NoText,za_NoText,⟨zb_NoText,zc_NoText,zd_NoText,ze_NoText,zf_NoText⟩⟩,(F9.binds fun _ _ _ _ _ _=>n2 fun _ _=>rfl),⟨a9,i9,F9.kp⟩⟩;obtain⟨f,d,a,F⟩:=D10;have x10:=mkC (base:=base) X G F a (o10 (P:=l.prog) (w:=w) F n_a n_l) (F.binds fun _ _ _ _ _ _=>n1 fun _=>rfl);obtain⟨f,d,a,F⟩:=D11;have x11:=mkC (base:=base) X G F a (o11 (P:=l.prog) (w:=w) F x10) (F.binds fun _ _ _ _ _ _=>n1 fun _=>rfl);have x12:C12 l.prog w K mg base C_Reader:=⟨f12,d12,o12 (P:=l.prog) (w:=w) F12 ⟨C_Reader,z_Reader,⟨zp_Reader,zh_Reader,zo_Reader,zs_Reader⟩,PySem.W.mg_of X G z_Reader⟩ zn_Reader_in_side x8 x9 x11 x4 x5 n_n ⟨C_NoText,PySem.W.mg_of X G z_NoText⟩ ⟨z_NoText,za_NoText,⟨zb_NoText,zc_NoText,zd_NoText,ze_NoText,zf_NoText⟩⟩,(F12.binds fun _ _ _ _ _ _=>n2 fun _ _=>rfl),⟨a12,i12,F12.kp⟩⟩;obtain⟨f,d,a,F⟩:=D13;have x13:=mkC (base:=base) X G F a (o13 (P:=l.prog) (w:=w) F n_i n_c n_l g_MOST_SIGNS ⟨C_NoText,PySem.W.mg_of X G z_NoText⟩ ⟨z_NoText,za_NoText,⟨zb_NoText,zc_NoText,zd_NoText,ze_NoText,zf_NoText⟩⟩) (F.binds fun _ _ _ _ _ _=>n1 fun _=>rfl);obtain⟨f,d,a,F⟩:=D14;have x14:=mkC (base:=base) X G F a (o14 (P:=l.prog) (w:=w) F ⟨C_Reader,z_Reader,⟨zp_Reader,zh_Reader,zo_Reader,zs_Reader⟩,PySem.W.mg_of X G z_Reader⟩ zn_Reader_at x6 x12 x13 x2 ⟨zm_Reader,x6.zh.at_,x6.zh.fn,zk_Reader⟩ n_l g_MOST_DEEP ⟨C_NoText,PySem.W.mg_of X G z_NoText⟩ ⟨z_NoText,za_NoText,⟨zb_NoText,zc_NoText,zd_NoText,ze_NoText,zf_NoText⟩⟩) (F.binds fun _ _ _ _ _ _=>n2 fun _ _=>rfl);obtain⟨f,d,a,F⟩:=D15;have x15:=mkC (base:=base) X G F a (o15 (P:=l.prog) (w:=w) F x14) (F.binds fun _ _ _ _ _ _=>n1 fun _=>rfl);obtain⟨f,d,a,F⟩:=D16;have x16:=mkC (base:=base) X G F a (o16 (P:=l.prog) (w:=w) F x14) (F.binds fun _ _ _ _ _ _=>n1 fun _=>rfl);obtain⟨f,d,a,F⟩:=D17;have x17:=mkC (base:=base) X G F a (o17 (P:=l.prog) (w:=w) F x13 x5 x16 ⟨C_NoText,PySem.W.mg_of X G z_NoText⟩ ⟨z_NoText,za_NoText,⟨zb_NoText,zc_NoText,zd_NoText,ze_NoText,zf_NoText⟩⟩) (F.binds fun _ _ _ _ _ _=>n1 fun _=>rfl);obtain⟨f,d,a,F⟩:=D18;have x18:=mkC (base:=base) X G F a (o18 (P:=l.prog) (w:=w) F n_l) (F.binds fun _ _ _ _ _ _=>n2 fun _ _=>rfl);obtain⟨f,d,a,F⟩:=D19;have x19:=mkC (base:=base) X G F a (o19 (P:=l.prog) (w:=w) F x18 n_r n_n) (F.binds fun _ _ _ _ _ _=>n3 fun _ _ _=>rfl);obtain⟨f,d,a,F⟩:=D20;have x20:=mkC (base:=base) X G F a (o20 (P:=l.prog) (w:=w) F x19) (F.binds fun _ _ _ _ _ _=>n3 fun _ _ _=>rfl);obtain⟨f,d,a,F⟩:=D21;have x21:=mkC (base:=base) X G F a (o21 (P:=l.prog) (w:=w) F n_l n_t) (F.binds fun _ _ _ _ _ _=>n4 fun _ _ _ _=>rfl);obtain⟨f,d,a,F⟩:=D22;have x22:=mkC (base:=base) X G F a (o22 (P:=l.prog) (w:=w) F x21 n_l) (F.binds fun _ _ _ _ _ _=>n3 fun _ _ _=>rfl);obtain⟨f,d,a,F⟩:=D23;have x23:=mkC (base:=base) X G F a (o23 (P:=l.prog) (w:=w) F (F.binds fun _ _ _ _ _ _=>n1 fun _=>rfl) (PySem.W.mg_of X G a) n_i n_n n_c) (F.binds fun _ _ _ _ _ _=>n1 fun _=>rfl);obtain⟨f,d,a,F⟩:=D24;have x24:=mkC (base:=base) X G F a (o24 (P:=l.prog) (w:=w) F n_a) (F.binds fun _ _ _ _ _ _=>n2 fun _ _=>rfl);obtain⟨f,d,a,F⟩:=D25;have x25:=mkC (base:=base) X G F a (o25 (P:=l.prog) (w:=w) F x24 n_l) (F.binds fun _ _ _ _ _ _=>n2 fun _ _=>rfl);obtain⟨f,d,a,F⟩:=D26;have x26:=mkC (base:=base) X G F a (o26 (P:=l.prog) (w:=w) F n_l) (F.binds fun _ _ _ _ _ _=>n2 fun _ _=>rfl);obtain⟨f,d,a,F⟩:=D27;have x27:=mkC (base:=base) X G F a (o27 (P:=l.prog) (w:=w) F x26 x25 n_l n_n) (F.binds fun _ _ _ _ _ _=>n2 fun _ _=>rfl);obtain⟨f,d,a,F⟩:=D28;have x28:=mkC (base:=base) X G F a (o28 (P:=l.prog) (w:=w) F x27 x25 n_l) (F.binds fun _ _ _ _ _ _=>n1 fun _=>rfl);obtain⟨f,d,a,F⟩:=D29;have x29:=mkC (base:=base) X G F a (o29 (P:=l.prog) (w:=w) F (F.binds fun _ _ _ _ _ _=>n1 fun _=>rfl) (PySem.W.mg_of X G a) n_i n_n n_a n_b n_t n_l n_c) (F.binds fun _ _ _ _ _ _=>n1 fun _=>rfl);obtain⟨f,d,a,F⟩:=D30;have x30:=mkC (base:=base) X G F a (o30 (P:=l.prog) (w:=w) F x23 x29 n_i n_t n_l n_c) (F.binds fun _ _ _ _ _ _=>n2 fun _ _=>rfl);obtain⟨f,d,a,F⟩:=D31;have x31:=mkC (base:=base) X G F a (o31 (P:=l.prog) (w:=w) F x15 x30 x16 x17 x27 x28 n_i n_c n_ValueError ⟨C_NoText,PySem.W.mg_of X G z_NoText⟩ ⟨C_NoTurning,PySem.W.mg_of X G z_NoTurning⟩ ⟨C_TurnError,PySem.W.mg_of X G z_TurnError⟩ ze_NoText_TurnError (zq_NoText_NoText.trans (congrArg some (by decide))) (zq_NoText_NoTurning.trans (congrArg some (by decide))) (zq_NoText_ValueError.trans (congrArg some (by decide))) ⟨z_NoText,za_NoText,⟨zb_NoText,zc_NoText,zd_NoText,ze_NoText,zf_NoText⟩⟩) (F.binds fun _ _ _ _ _ _=>n2 fun _ _=>rfl);obtain⟨f,d,a,F⟩:=D32;have x32:=mkC (base:=base) X G F a (o32 (P:=l.prog) (w:=w) F n_l) (F.binds fun _ _ _ _ _ _=>n2 fun _ _=>rfl);obtain⟨f,d,a,F⟩:=D33;have x33:=mkC (base:=base) X G F a (o33 (P:=l.prog) (w:=w) F n_l) (F.binds fun _ _ _ _ _ _=>n1 fun _=>rfl);obtain⟨f,d,a,F⟩:=D34;have x34:=mkC (base:=base) X G F a (o34 (P:=l.prog) (w:=w) F) (F.binds fun _ _ _ _ _ _=>n2 fun _ _=>rfl);exact o35 F35 x19 x20 x23 x18 x34 x31 x22 x32 x33 n_r n_l 200
theorem walk{l:PySem.W.OpenLaw}{q:Program}{loose:List Str}{XP:(Str→Option Value)→Heap→Prop}{YP:World→Heap→Prop}{d:DefRec}{K:Params→PySem.W.Frag}(hn:l.most=some 63) (hdf:d.params.defaults=[])
  (hY:∀(w:World) (h:Heap),YP w h→(K w.params).In h)
  (F:∀(w:World) (mg:Str→Option Value) (fa:Addr) (h:Heap),(K w.params).In h→h.Ns mainGlobals mg→mg d.name=some (.ref fa)→
   ∃fd:FuncData,(∀(s:Shared) (u:Value),BindsTo s fd ⟨[u],[]⟩ [("script",u)])∧ ∀base:Heap,(K w.params).In base→base.Ns mainGlobals mg→FnOk l.prog w (K w.params) mg base (CX1 l.prog w) 200 fa fd ["script"] (zaV (K w.params) (zdK 200))) :
  PySem.W.WalkO q loose XP YP l.row.toRowW d [] (fun f vs=>PySem.call f vs):=
 L2.zpN (n:=63) (k:=200) (x:= "script") (CX:=fun w=>CX1 l.prog w) (sp:=fun w=>zaV (K w.params) (zdK 200)) hn (by decide) hdf ⟨rfl,by decide,by decide⟩ hY F (fun w H a ns hl hO hS=>znT hO hS (ztc ns hl)) fun _ _ _ _ _ ⟨_,_,_,_,_,_,_,_,_,z⟩=>z
end K06
noncomputable def PySem.W.Fast.tw16998806447243548450:Nat:=0
noncomputable def PySem.W.Fast.tw7007040544498987279:Nat:=0
noncomputable def PySem.W.Fast.tw14870691789874948347:Nat:=0
noncomputable def PySem.W.Fast.tw14625368739705547272:Nat:=0
noncomputable def PySem.W.Fast.tw1693276085488671109:Nat:=0
noncomputable def PySem.W.Fast.tw16332062266507236828:Nat:=0
noncomputable def PySem.W.Fast.tw12083092758899136922:Nat:=0
noncomputable def PySem.W.Fast.tw10908154257030209046:Nat:=0
noncomputable def PySem.W.Fast.tw3148426779107402268:Nat:=0
noncomputable def PySem.W.Fast.tw4945368060475266613:Nat:=0
noncomputable def PySem.W.Fast.tw4194378651991070984:Nat:=0
noncomputable def PySem.W.Fast.tw10218525298548678584:Nat:=0
noncomputable def PySem.W.Fast.tw3832368996732986141:Nat:=0
noncomputable def PySem.W.Fast.tw16964732368696267908:Nat:=0
noncomputable def PySem.W.Fast.tw2856583364547157756:Nat:=0
noncomputable def PySem.W.Fast.tw9769372053148922821:Nat:=0
noncomputable def PySem.W.Fast.tw5506624680321737262:Nat:=0
noncomputable def PySem.W.Fast.tw14242506625119002699:Nat:=0
noncomputable def PySem.W.Fast.tw9329604865706232457:Nat:=0
noncomputable def PySem.W.Fast.tw10253620045003431001:Nat:=0
noncomputable def PySem.W.Fast.tw13252285620987699139:Nat:=0
noncomputable def PySem.W.Fast.tw7979521370765799818:Nat:=0
noncomputable def PySem.W.Fast.tw3932378126348479657:Nat:=0
noncomputable def PySem.W.Fast.tw5067916457676719022:Nat:=0
noncomputable def PySem.W.Fast.tw18118290526462639525:Nat:=0
noncomputable def PySem.W.Fast.tw9114051679239585161:Nat:=0
noncomputable def PySem.W.Fast.tw3366184054715313404:Nat:=0
noncomputable def PySem.W.Fast.tw15835300255153473708:Nat:=0
noncomputable def PySem.W.Fast.tw10334747816900699967:Nat:=0
noncomputable def PySem.W.Fast.tw11253121054099493052:Nat:=0
noncomputable def PySem.W.Fast.tw6990528514826941166:Nat:=0
noncomputable def PySem.W.Fast.tw1450748155582936847:Nat:=0
noncomputable def PySem.W.Fast.tw2412263962994084039:Nat:=0
noncomputable def PySem.W.Fast.tw11261360663406668991:Nat:=0
noncomputable def PySem.W.Fast.tw5230106719528284537:Nat:=0
noncomputable def PySem.W.Fast.tw407547869746863155:Nat:=0
noncomputable def PySem.W.Fast.tw9000358873933563743:Nat:=0
noncomputable def PySem.W.Fast.tw4888794846778299806:Nat:=0
noncomputable def PySem.W.Fast.tw8704296156498665042:Nat:=0
noncomputable def PySem.W.Fast.tw14898997805412299070:Nat:=0
noncomputable def PySem.W.Fast.tw15714977390044591890:Nat:=0
noncomputable def PySem.W.Fast.tw2388999904691693340:Nat:=0
noncomputable def PySem.W.Fast.tw10456822348137685419:Nat:=0
noncomputable def PySem.W.Fast.tw1269549243219193158:Nat:=0
noncomputable def PySem.W.Fast.tw17440789382392129307:Nat:=0
noncomputable def PySem.W.Fast.tw13854814835921781581:Nat:=0
noncomputable def PySem.W.Fast.tw17284328412920206253:Nat:=0
noncomputable def PySem.W.Fast.tw18435528245752987232:Nat:=0
noncomputable def PySem.W.Fast.tw1451798269949168886:Nat:=0
noncomputable def PySem.W.Fast.tw8705210501954854049:Nat:=0
noncomputable def PySem.W.Fast.tw7525563279623734426:Nat:=0
noncomputable def PySem.W.Fast.tw16945590738295279458:Nat:=0
noncomputable def PySem.W.Fast.tw14464891045198742554:Nat:=0
noncomputable def PySem.W.Fast.tw14666537390722760877:Nat:=0
noncomputable def PySem.W.Fast.tw12084830737240001915:Nat:=0
noncomputable def PySem.W.Fast.tw13039244665989574614:Nat:=0
noncomputable def PySem.W.Fast.tw15848403926460473617:Nat:=0
noncomputable def PySem.W.Fast.tw17585523633856811471:Nat:=0
noncomputable def PySem.W.Fast.tw14456912028000418767:Nat:=0
noncomputable def PySem.W.Fast.tw8274760437362762674:Nat:=0
noncomputable def PySem.W.Fast.tw530145832410030855:Nat:=0
noncomputable def PySem.W.Fast.tw12324292644524243826:Nat:=0
noncomputable def PySem.W.Fast.tw5744555355920866054:Nat:=0
noncomputable def PySem.W.Fast.tw6822530202272322619:Nat:=0
noncomputable def PySem.W.Fast.tw718721740681910614:Nat:=0
noncomputable def PySem.W.Fast.tw14878530093813887312:Nat:=0
noncomputable def PySem.W.Fast.tw12672591066910760362:Nat:=0
noncomputable def PySem.W.Fast.tw17339045904276147153:Nat:=0
noncomputable def PySem.W.Fast.tw7446322953604615375:Nat:=0
noncomputable def PySem.W.Fast.tw4637252343535343682:Nat:=0
noncomputable def PySem.W.Fast.tw8526538446232254384:Nat:=0
noncomputable def PySem.W.Fast.tw10373168975130954877:Nat:=0
noncomputable def PySem.W.Fast.tw10945849978046592960:Nat:=0
noncomputable def PySem.W.Fast.tw4851427985897214943:Nat:=0
noncomputable def PySem.W.Fast.tw16146032052911105907:Nat:=0
noncomputable def PySem.W.Fast.tw14904649249829195297:Nat:=0
noncomputable def PySem.W.Fast.tw6197587427037620648:Nat:=0
noncomputable def PySem.W.Fast.tw1612266618713256478:Nat:=0
noncomputable def PySem.W.Fast.tw14357931509875662355:Nat:=0
noncomputable def PySem.W.Fast.tw3482484143412847902:Nat:=0
noncomputable def PySem.W.Fast.tw3162559213225179:Nat:=0
noncomputable def PySem.W.Fast.tw13286086982521853846:Nat:=0
noncomputable def PySem.W.Fast.tw7268368594575527784:Nat:=0
noncomputable def PySem.W.Fast.tw2567759014215886163:Nat:=0
noncomputable def PySem.W.Fast.tw8757763372557678483:Nat:=0
noncomputable def PySem.W.Fast.tw14690704216906330119:Nat:=0
noncomputable def PySem.W.Fast.tw4176111564774502678:Nat:=0
noncomputable def PySem.W.Fast.tw364345645669965249:Nat:=0
noncomputable def PySem.W.Fast.tw6269860294610969538:Nat:=0
noncomputable def PySem.W.Fast.tw17783694314314059332:Nat:=0
noncomputable def PySem.W.Fast.tw12473008159573004036:Nat:=0
noncomputable def PySem.W.Fast.tw17644493087965594194:Nat:=0
noncomputable def PySem.W.Fast.tw15808795616491159965:Nat:=0
noncomputable def PySem.W.Fast.tw978683043321991169:Nat:=0
noncomputable def PySem.W.Fast.tw10571368028040781734:Nat:=0
noncomputable def PySem.W.Fast.tw3837500901421393270:Nat:=0
noncomputable def PySem.W.Fast.tw8146731753530983161:Nat:=0
noncomputable def PySem.W.Fast.tw8521758389896972323:Nat:=0
noncomputable def PySem.W.Fast.tw2950866568132008169:Nat:=0
noncomputable def PySem.W.Fast.tw9761906059126798864:Nat:=0
noncomputable def PySem.W.Fast.tw17844505706361142999:Nat:=0
open PySem PySem.W PyProof.Rows
set_option maxRecDepth 100000 in
set_option maxHeartbeats 0 in
theorem PySem.Challenge.cw_turnweave_k06_texts_read_or_refused_holds : PySem.Challenge.rw_turnweave_k06_texts_read_or_refused.Holds := by
 w_on;o_law;k_head;(case hw=>w_witness2)
 k_fill
 refine K06.walk (l:=PySem.Challenge.rw_turnweave_k06_texts_read_or_refused) rfl rfl (fun w h Y=>PySem.W.kIn_of Y) ?F
 case F=>
  intro w mg fa h KX G hmg
  refine' K06.all_mk KX G hmg ?_ ?_ ?_ ?_ ?_ ?_ ?_ ?_ ?_ ?_ (K06.dfn ?_ ?_ ?_ ?_) (K06.dfn ?_ ?_ ?_ ?_) (K06.dfn ?_ ?_ ?_ ?_) (K06.dfn ?_ ?_ ?_ ?_) (K06.dfn ?_ ?_ ?_ ?_) (K06.dfn ?_ ?_ ?_ ?_) (K06.dfn ?_ ?_ ?_ ?_) (K06.dfn ?_ ?_ ?_ ?_) (K06.dfn ?_ ?_ ?_ ?_) (K06.dfn ?_ ?_ ?_ ?_) (K06.dfn ?_ ?_ ?_ ?_) (K06.dfnM ?_ ?_ ?_ ?_ ?_) (K06.dfnM ?_ ?_ ?_ ?_ ?_) (K06.dfnM ?_ ?_ ?_ ?_ ?_) (K06.dfnM ?_ ?_ ?_ ?_ ?_) (K06.dfnM ?_ ?_ ?_ ?_ ?_) (K06.dfn ?_ ?_ ?_ ?_) (K06.dfn ?_ ?_ ?_ ?_) (K06.dfn ?_ ?_ ?_ ?_) (K06.dfn ?_ ?_ ?_ ?_) (K06.dfn ?_ ?_ ?_ ?_) (K06.dfn ?_ ?_ ?_ ?_) (K06.dfn ?_ ?_ ?_ ?_) (K06.dfn ?_ ?_ ?_ ?_) (K06.dfn ?_ ?_ ?_ ?_) (K06.dfn ?_ ?_ ?_ ?_) (K06.dfn ?_ ?_ ?_ ?_) (K06.dfn ?_ ?_ ?_ ?_) (K06.dfn ?_ ?_ ?_ ?_) (K06.dfn ?_ ?_ ?_ ?_) (K06.dfn ?_ ?_ ?_ ?_) (K06.dfn ?_ ?_ ?_ ?_) (K06.dfn ?_ ?_ ?_ ?_) (K06.dfn ?_ ?_ ?_ ?_) (K06.dfn ?_ ?_ ?_ ?_) (K06.dfn ?_ ?_ ?_ ?_) ?_ ?_ ?_ ?_ ?_ ?_ ?_ ?_ ?_ ?_ ?_ ?_ ?_ ?_ ?_ ?_ ?_ ?_ ?_ ?_ ?_ ?_ ?_ ?_ ?_ ?_<;>first |k_is |kit_is | (dsimp only[List.map];kit_is) |kts_exm | (delta L2.bmV;k_exc) |skip
end
