import PyProof.Rows.All
import Wide.All
import OpenK.AllK
import Wide.FinOn
import Lean
import PyProof.EqAt
import PyProof.EqKinds
import PyProof.TupleCall
import PyProof.NeKinds
import PyProof.ListMulRoad
import PyProof.AttrMissHeap
import KE.KDictOf
import KE.KRevIter
import PyProof.ListRange
import KE.KSortTup
import KE.KMinKey
import PyProof.MinMaxWalk
import PyProof.Rows.CallKwBuiltin
import PyProof.Rows.SetFrom
import PyProof.Rows.SeqMore
import PySem.Challenge.RW_turnweave_k13_books
set_option Elab.async false
set_option compiler.extract_closed false
set_option linter.all false
set_option maxRecDepth 100000
set_option maxHeartbeats 4000000
section
namespace L2
open PySem PySem.Spec PyProof.Rows
noncomputable abbrev Key:=Sum Int Str
noncomputable def zkL:Key→Value→Bool
 | .inl k,v=>Value.isInt k v
 | .inr x,v=>Value.isStrOf x v
noncomputable def zwA (w:World):Key→Int
 | .inl k=>hashInt k
 | .inr x=>hashStr w x
theorem zbe:∀{k:Key}{v:Value},zkL k v=true→(∃i t,k=Sum.inl i∧v=Value.int i t)∨(∃x t,k=Sum.inr x∧v=Value.str x t)
 | .inl i,v,h=>by
  obtain⟨t,e⟩:=Value.isInt_shape (k:=i) (v:=v) h;exact .inl ⟨i,t,rfl,e⟩
 | .inr x,v,h=>by
  obtain⟨t,e⟩:=Value.isStrOf_shape (x:=x) (v:=v) h;exact .inr ⟨x,t,rfl,e⟩
theorem zlh (i:Int) (t:Tok):zkL (.inl i) (.int i t)=true:=by simp [zkL,Value.isInt]
theorem zlk (x:Str) (t:Tok):zkL (.inr x) (.str x t)=true:=by simp [zkL,Value.isStrOf]
theorem zti (a b:Int):decide ((Sum.inl a:Key)=Sum.inl b)=(a == b):=by
 by_cases e:a=b
 ·subst e;simp
 ·have h:¬(Sum.inl a:Key)=Sum.inl b:=fun q=>e (Sum.inl.inj q);rw [decide_eq_false h];exact(beq_eq_false_iff_ne.mpr e).symm
theorem zsg (a b:Str):decide ((Sum.inr a:Key)=Sum.inr b)=decide (a=b):=by
 by_cases e:a=b
 ·subst e;simp
 ·have h:¬(Sum.inr a:Key)=Sum.inr b:=fun q=>e (Sum.inr.inj q);rw [decide_eq_false h,decide_eq_false e]
theorem ztu (a:Int) (b:Str):decide ((Sum.inl a:Key)=Sum.inr b)=false:=decide_eq_false (fun q=>nomatch q)
theorem zsr (a:Str) (b:Int):decide ((Sum.inr a:Key)=Sum.inl b)=false:=decide_eq_false (fun q=>nomatch q)
noncomputable def zbM (prog:Program) (w:World):PySem.KeyKind prog w Key where
  is:=zkL
  hash:=zwA w
  inj:=fun v a b ha hb=>by
    rcases zbe ha with⟨i,t,rfl,rfl⟩ |⟨x,t,rfl,rfl⟩
    · rcases zbe hb with⟨j,u,rfl,e⟩ |⟨y,u,rfl,e⟩
      · injection e with e1 _;rw [e1]
      · exact nomatch e
    · rcases zbe hb with⟨j,u,rfl,e⟩ |⟨y,u,rfl,e⟩
      · exact nomatch e
      · injection e with e1 _;rw [e1]
  byValue:=fun k v h=>by
    rcases zbe h with⟨i,t,rfl,rfl⟩ |⟨x,t,rfl,rfl⟩<;>rfl
  pyHash:=fun hv h=>by
    rcases zbe hv with⟨i,t,rfl,rfl⟩ |⟨x,t,rfl,rfl⟩
    · exact wpAny_pyHash_int h
    · exact wpAny_pyHash_str h
  eqBool:=fun hu hv h=>by
    rcases zbe hu with⟨i,t,rfl,rfl⟩ |⟨x,t,rfl,rfl⟩
    · rcases zbe hv with⟨j,u,rfl,rfl⟩ |⟨y,u,rfl,rfl⟩
      · rw [zti]at h;exact wpAny_eqBool_int h
      · rw [ztu]at h;exact SeqAt.EqAt.int_str i t y u _ _ _ _ h
    · rcases zbe hv with⟨j,u,rfl,rfl⟩ |⟨y,u,rfl,rfl⟩
      · rw [zsr]at h;exact SeqAt.EqAt.str_int x t j u _ _ _ _ h
      · rw [zsg]at h;exact wpAny_eqBool_str h
  «strs» :=fun k x t v h=>by
    rcases zbe h with⟨i,u,rfl,e⟩ |⟨y,u,rfl,e⟩
    · exact nomatch e
    · injection e with e1 _;subst e1;cases v<;>rfl
theorem ziL (prog:Program) (w:World) (i:Int) (t:Tok):(zbM prog w).is (.inl i) (.int i t)=true:=zlh i t
theorem ziX (prog:Program) (w:World) (x:Str) (t:Tok):(zbM prog w).is (.inr x) (.str x t)=true:=zlk x t
inductive V where
  |non |bl (b:Bool) |int (i:Int) |str (x:Str) |byt (b:Array UInt8) |flt (b:UInt64) |ref (a:Addr) |ty (n:String)
  deriving DecidableEq
noncomputable def RelV:V→Value→Prop
 | .non,u=>u=Value.none
 | .bl b,u=>u=Value.bool b
 | .int i,u=>∃t,u=Value.int i t
 | .str x,u=>∃t,u=Value.str x t
 | .byt b,u=>∃t,u=Value.bytes b t
 | .flt b,u=>∃t,u=Value.float b t
 | .ref a,u=>u=Value.ref a
 | .ty n,u=>u=Value.type n
noncomputable abbrev Vals:List V→List Value→Prop:=Paired RelV
theorem Vals.length{xs:List V}{us:List Value}(r:Vals xs us):xs.length=us.length:=Paired.length r
theorem Vals.get:∀{xs:List V}{us:List Value}{i:Nat}{x:V},Vals xs us→xs[i]? =some x→ ∃u,us[i]? =some u∧RelV x u
 |_,_,_,_, .nil,e=>by simp at e
 |_,_,0,_, .cons r _,e=>by simp at e;subst e;exact⟨_,rfl,r⟩
 |_,_,i+1,x, .cons _ t,e=>by
  obtain⟨u,h1,h2⟩:=Vals.get (i:=i) (x:=x) t (by simpa using e);exact⟨u,by simpa using h1,h2⟩
theorem Vals.set{x:V}{u:Value}(r:RelV x u):∀{xs:List V}{us:List Value}(i:Nat),Vals xs us→Vals (xs.set i x) (us.set i u)
 |_,_,_, .nil=> .nil
 |_,_,0, .cons _ t=> .cons r t
 |_,_,i+1, .cons q t=> .cons q (Vals.set r i t)
theorem Vals.append:∀{xs ys:List V}{us ws:List Value},Vals xs us→Vals ys ws→Vals (xs++ys) (us++ws)
 |_,_,_,_, .nil,s=>s
 |_,_,_,_, .cons r t,s=> .cons r (Vals.append t s)
theorem Vals.take:∀{xs:List V}{us:List Value}(n:Nat),Vals xs us→Vals (xs.take n) (us.take n)
 |_,_,0,_=> .nil
 |_,_,_+1, .nil=> .nil
 |_,_,n+1, .cons r t=> .cons r (Vals.take n t)
theorem Vals.drop:∀{xs:List V}{us:List Value}(n:Nat),Vals xs us→Vals (xs.drop n) (us.drop n)
 |_,_,0,r=>r
 |_,_,_+1, .nil=> .nil
 |_,_,n+1, .cons _ t=>Vals.drop n t
noncomputable def RelO:Option V→Option Value→Prop
 |some v,some u=>RelV v u
 |none,none=>True
 |_,_=>False
noncomputable def KV {κ:Type}:List (κ×V)→List (κ×Value)→Prop:=Paired fun(p:κ×V) (q:κ×Value)=>p.1=q.1∧RelV p.2 q.2
noncomputable def kV:Key→V
 | .inl i=> .int i
 | .inr x=> .str x
inductive HO where
    |lst (xs:List V)
    |tup (xs:List V)
    |dK (kvs:List (Key×V)) |dT (kvs:List (List Key×V))
    |set (S:Int→Bool) (n:Nat)
    |ins (C dx:Addr) (fs:List (Str×V))
    |own (x:Addr)
    |xd (fs:List (Str×V))
    |met (f x:Addr)
    |rng (lo hi:Int)
    |frz (o:Obj) (u:HO)
    |tbl (ps:Array Value)
    |ext (φ:Heap→Prop)
noncomputable abbrev Hp:=Addr→Option HO
noncomputable def upd (H:Hp) (a:Addr) (o:HO):Hp:=fun b=>if b=a then some o else H b
theorem zat{H:Hp}{a:Addr}{o:HO}:upd H a o a=some o:=by unfold upd;rw [if_pos rfl]
theorem zau{H:Hp}{a b:Addr}{o:HO}(h:b≠a):upd H a o b=H b:=by unfold upd;rw [if_neg h]
theorem zmB{H:Hp}{a b:Addr}{o u:HO}(h:H a=some o) (h':H b=some u) (d:o≠u):a≠b:=by
 intro e;subst e;rw [h]at h';exact d (Option.some.inj h')
theorem zaq{H:Hp}{a b:Addr}{o:HO}(h:H a=some o) (h':H b=none):a≠b:=by
 intro e;subst e;rw [h]at h';cases h'
section
variable (P:Program) (w:World)
noncomputable def ObjOk (H:Hp) (h:Heap) (a:Addr):HO→Prop
 | .lst xs=>xs.length≤sizeLine∧ ∃(its:List Value) (n:Nat),Vals xs its∧h.get? a=some { cls:= .type "list",data:= .seq its.toArray n }
 | .tup xs=>xs.length≤sizeLine∧ ∃its:List Value,Vals xs its∧IsTup h a its.toArray
 | .dK kvs=>kvs.length≤sizeLine∧(a == sysModules)=false∧ ∃vs,KV kvs vs∧h.DictOf (zbM P w) a vs
 | .dT kvs=>kvs.length≤sizeLine∧(a == sysModules)=false∧ ∃xs:List (List Key×Addr×Value),
   Paired (fun(p:List Key×V) (q:List Key×Addr×Value)=>p.1=q.1∧H q.2.1=some (.tup (p.1.map kV))∧RelV p.2 q.2.2) kvs xs∧
   ∃o es ep,h.get? a=some o∧o.ExactDict∧o.data= .dict es ep∧es.toList=xs.map (entryOfKey (tupleKind (zbM P w)))∧(xs.map (·.1)).Nodup
 | .set S n=>h.SetOf (intKind P w) a S n
 | .ins C dx fs=>H dx=some (.own a)∧fs.length≤1000∧dx≠a∧h.get? a=some (PySem.W.instObj C dx)∧
   ∃mA,h.Ns1 dx mA∧(∀f,RelO (fs.lookup f) (mA f))∧PySem.Within mA (fs.map (·.1))
 | .own _=>∃o,h.get? a=some o
 | .xd fs=>∃mA,h.Ns1 a mA∧ ∀f,RelO (fs.lookup f) (mA f)
 | .rng lo hi=>∃t u v,h.get? a=some { cls:= .type "range",data:= .fields #[.int lo t, .int hi u, .int 1 v] }
 | .frz o u=>h.get? a=some o∧ObjOk H h a u
 | .tbl ps=>h.get? a=some { cls:= .none,data:= .fields ps }
 | .met f x=>h.get? a=some (PySem.W.methodObj (.ref f) (.ref x))
 | .ext φ=>φ h∧(∃o,h.get? a=some o)∧ ∀h1 h2:Heap,φ h1→(∀o,h1.get? a=some o→h2.get? a=some o)→φ h2
noncomputable def HOk (H:Hp) (h:Heap):Prop:=∀a o,H a=some o→ObjOk P w H h a o
end
section
variable {P:Program}{w:World}{H H':Hp}{h h':Heap}{a:Addr}{o:HO}
theorem ObjOk.lt (x:ObjOk P w H h a o):a<h.objs.size:=by
 cases o with
 |lst xs=>obtain⟨_,_,_,_,e⟩:=x;exact Heap.lt_size e
 |tup xs=>obtain⟨_,_,_,p⟩:=x;exact p.lt
 |dK kvs=>obtain⟨_,_,_,_,o,_,_,e,_⟩:=x;exact Heap.lt_size e
 |dT kvs=>obtain⟨_,_,_,_,o,_,_,e,_⟩:=x;exact Heap.lt_size e
 |set S n=>obtain⟨o,_,_,_,e,_⟩:=x;exact Heap.lt_size e
 |ins C dx fs=>obtain⟨_,_,_,e,_⟩:=x;exact Heap.lt_size e
 |own y=>obtain⟨_,e⟩:=x;exact Heap.lt_size e
 |xd fs=>obtain⟨_,⟨_,_,_,e,_⟩,_⟩:=x;exact Heap.lt_size e
 |rng lo hi=>obtain⟨_,_,_,e⟩:=x;exact Heap.lt_size e
 |frz ob u=>obtain⟨e,_⟩:=x;exact Heap.lt_size e
 |tbl ps=>exact Heap.lt_size (show h.get? a=some _ from x)
 |met f y=>exact Heap.lt_size (show h.get? a=some _ from x)
 |ext φ=>obtain⟨_,⟨_,e⟩,_⟩:=x;exact Heap.lt_size e
theorem Paired.mapP{α β:Type}{F G:α→β→Prop}:∀{l₁:List α}{l₂:List β},Paired F l₁ l₂→(∀a b,F a b→G a b)→Paired G l₁ l₂
 |_,_, .nil,_=> .nil
 |_,_, .cons r t,f=> .cons (f _ _ r) (Paired.mapP t f)
theorem ObjOk.stay (x:ObjOk P w H h a o) (k:∀b u,(b=a∨H b=some (.own a))→h.get? b=some u→h'.get? b=some u)
  (ho:∀b,H b=some (.own a)→H' b=some (.own a)) (ht:∀b xs,H b=some (.tup xs)→H' b=some (.tup xs)):ObjOk P w H' h' a o:=by
 induction o with
 |lst xs=>obtain⟨z,its,n,r,e⟩:=x;exact⟨z,its,n,r,k _ _ (.inl rfl) e⟩
 |tup xs=>obtain⟨z,its,r,ob,e,c⟩:=x;exact⟨z,its,r,ob,k _ _ (.inl rfl) e,c⟩
 |dK kvs=>obtain⟨z,y,vs,r,ob,es,ep,e,c⟩:=x;exact⟨z,y,vs,r,ob,es,ep,k _ _ (.inl rfl) e,c⟩
 |dT kvs=>
  obtain⟨z,y,xs,r,ob,es,ep,e,c⟩:=x;exact⟨z,y,xs,Paired.mapP r fun p q z=>⟨z.1,ht _ _ z.2.1,z.2.2⟩,ob,es,ep,k _ _ (.inl rfl) e,c⟩
 |set S n=>obtain⟨ob,es,ep,t,e,c⟩:=x;exact⟨ob,es,ep,t,k _ _ (.inl rfl) e,c⟩
 |ins C dx fs=>
  obtain⟨d,z,ne,e,mA,⟨od,es,ep,e2,c⟩,r⟩:=x;exact⟨ho _ d,z,ne,k _ _ (.inl rfl) e,mA,⟨od,es,ep,k _ _ (.inr d) e2,c⟩,r⟩
 |own y=>obtain⟨ob,e⟩:=x;exact⟨ob,k _ _ (.inl rfl) e⟩
 |xd fs=>obtain⟨mA,⟨od,es,ep,e,c⟩,r⟩:=x;exact⟨mA,⟨od,es,ep,k _ _ (.inl rfl) e,c⟩,r⟩
 |rng lo hi=>obtain⟨t,u,v,e⟩:=x;exact⟨t,u,v,k _ _ (.inl rfl) e⟩
 |frz ob u ih=>obtain⟨e,q⟩:=x;exact⟨k _ _ (.inl rfl) e,ih q⟩
 |tbl ps=>
  have e:h.get? a=some { cls:= .none,data:= .fields ps }:=x;show h'.get? a=some { cls:= .none,data:= .fields ps };exact k a _ (.inl rfl) e
 |met f y=>
  have e:h.get? a=some (PySem.W.methodObj (.ref f) (.ref y)):=x;show h'.get? a=some (PySem.W.methodObj (.ref f) (.ref y));exact k a _ (.inl rfl) e
 |ext φ=>obtain⟨p,⟨o,e⟩,st⟩:=x;exact⟨st _ _ p fun o q=>k _ _ (.inl rfl) q,⟨o,k _ _ (.inl rfl) e⟩,st⟩
theorem HOk.lt (x:HOk P w H h) (e:H a=some o):a<h.objs.size:=(x a o e).lt
theorem HOk.fresh (x:HOk P w H h) (e:h.objs.size≤a):H a=none:=by
 cases q:H a with
 |none=>rfl
 |some u=>exact absurd (Nat.lt_of_lt_of_le (x.lt q) e) (Nat.lt_irrefl _)
theorem HOk.kept (x:HOk P w H h) (k:∀b u,h.get? b=some u→h'.get? b=some u):HOk P w H h':=fun a o e=>
 (x a o e).stay (fun b u _ q=>k b u q) (fun _ q=>q) fun _ _ q=>q
theorem HOk.laid (x:HOk P w H h) (k:∀b u,h.get? b=some u→h'.get? b=some u) (hp:h.objs.size≤a) (new:ObjOk P w (upd H a o) h' a o):HOk P w (upd H a o) h':=fun b u e=>by
 have hn:=x.fresh hp;by_cases hb:b=a
 ·subst hb;rw [zat]at e;cases e;exact new
 ·rw [zau hb]at e;exact(x b u e).stay (fun c v _ q=>k c v q) (fun c q=>by rw [zau (zaq q hn)];exact q) fun c xs q=>by rw [zau (zaq q hn)];exact q
end
noncomputable def Rd (H:Hp) (a:Addr) (u:HO):Prop:=H a=some u∨ ∃o,H a=some (.frz o u)
theorem Rd.ok{P:Program}{w:World}{H:Hp}{h:Heap}{a:Addr}{u:HO}(r:Rd H a u) (x:HOk P w H h):ObjOk P w H h a u:=by
 rcases r with r |⟨o,r⟩
 ·exact x a u r
 ·obtain⟨_,q⟩:=x a _ r;exact q
noncomputable def Mut:Option HO→Prop
 |some (.lst _)=>True
 |some (.dK _)=>True
 |some (.dT _)=>True
 |some (.set _ _)=>True
 |some (.ins _ _ _)=>True
 |some (.ext _)=>True
 |_=>False
section
variable {P:Program}{w:World}{H:Hp}{h h':Heap}{x e:Addr}{o':HO}
theorem HOk.write (ok:HOk P w H h) (mu:Mut (H x)) (he:e=x∨H e=some (.own x)) (k:∀b u,b≠e→h.get? b=some u→h'.get? b=some u) (heo:∃u,h'.get? e=some u)
  (new:ObjOk P w (upd H x o') h' x o'):HOk P w (upd H x o') h':=fun b u q=>by
 have nown:∀c y,H c=some (.own y)→c≠x:=fun c y r z=>by subst z;rw [r]at mu;exact mu
 have ntup:∀c xs,H c=some (.tup xs)→c≠x:=fun c xs r z=>by subst z;rw [r]at mu;exact mu
 by_cases hb:b=x
 ·subst hb;rw [zat]at q;cases q;exact new
 ·rw [zau hb]at q;by_cases hbe:b=e
  ·have q':H b=some (.own x):=by
    rcases he with z |z
    ·exact absurd (hbe.trans z) hb
    ·rw [hbe];exact z
   rw [q]at q';cases q';obtain⟨v,hv⟩:=heo;exact⟨v,by rw [hbe];exact hv⟩
  ·refine(ok b u q).stay (fun c v hc r=>k c v ?_ r) (fun c r=>by rw [zau (nown c b r)];exact r) fun c xs r=>by rw [zau (ntup c xs r)];exact r
   rcases hc with rfl |hc
   ·exact hbe
   ·rintro rfl;rcases he with z |z
    ·exact nown c b hc z
    ·rw [hc]at z;cases z;exact hb rfl
end
structure Un (fs ex:List Addr) (H H':Hp) (h h':Heap):Prop where
  keep:∀b o,h.get? b=some o→H b=none→b∉fs→b∉ex→h'.get? b=some o
  slot:∀b o,h.get? b=some o→H b=none→b∈fs→b∉ex→ ∃sl,h'.get? b=some { o with slots:=sl }
  free:∀b o,h.get? b=some o→H b=none→b∉ex→H' b=none
  there:∀b o,h.get? b=some o→b∉ex→ ∃o',h'.get? b=some o'
  tups:∀b xs,H b=some (.tup xs)→H' b=some (.tup xs)
  frzs:∀b o u,H b=some (.frz o u)→H' b=some (.frz o u)
  tbls:∀b ps,H b=some (.tbl ps)→ ∃more,H' b=some (.tbl (ps++more))
section
variable {fs ex:List Addr}{H H1 H2:Hp}{h h1 h2 h':Heap}{a x e:Addr}{o:HO}
theorem Un.any (u:Un fs ex H H1 h h1) {b:Addr}{ob:Obj}(q:h.get? b=some ob) (n:H b=none) (hx:b∉ex):∃sl,h1.get? b=some { ob with slots:=sl }:=by
 by_cases hb:b∈fs
 ·exact u.slot b ob q n hb hx
 ·exact⟨ob.slots,u.keep b ob q n hb hx⟩
theorem Un.trans (a:Un fs ex H H1 h h1) (b:Un fs ex H1 H2 h1 h2):Un fs ex H H2 h h2 where
  keep:=fun c ob q n hc hx=>b.keep c ob (a.keep c ob q n hc hx) (a.free c ob q n hx) hc hx
  slot:=fun c ob q n hc hx=>by
    obtain⟨sl,e1⟩:=a.slot c ob q n hc hx;obtain⟨sl',e2⟩:=b.slot c _ e1 (a.free c ob q n hx) hc hx;exact⟨sl',e2⟩
  free:=fun c ob q n hx=>by
    obtain⟨o',e1⟩:=a.there c ob q hx;exact b.free c o' e1 (a.free c ob q n hx) hx
  there:=fun c ob q hx=>by
    obtain⟨o',e1⟩:=a.there c ob q hx;exact b.there c o' e1 hx
  tups:=fun c xs q=>b.tups c xs (a.tups c xs q)
  frzs:=fun c ob xs q=>b.frzs c ob xs (a.frzs c ob xs q)
  tbls:=fun c ps q=>by
    obtain⟨m1,e1⟩:=a.tbls c ps q;obtain⟨m2,e2⟩:=b.tbls c _ e1;exact⟨m1++m2,by rw [e2,Array.append_assoc]⟩
theorem Un.kept (k:∀b u,h.get? b=some u→h'.get? b=some u):Un fs ex H H h h':=
 ⟨fun b ob q _ _ _=>k b ob q,fun b ob q _ _ _=>⟨ob.slots,k b ob q⟩,fun _ _ _ n _=>n,fun b ob q _=>⟨ob,k b ob q⟩,fun _ _ q=>q,fun _ _ _ q=>q,fun _ ps q=>⟨#[],by rw [q];simp⟩⟩
theorem Un.refl:Un fs ex H H h h:=Un.kept fun _ _ q=>q
theorem Un.laid (k:∀b u,h.get? b=some u→h'.get? b=some u) (hp:h.objs.size≤a) (hn:H a=none):Un fs ex H (upd H a o) h h' where
  keep:=fun b u q _ _ _=>k b u q
  slot:=fun b u q _ _ _=>⟨u.slots,k b u q⟩
  free:=fun b u q n _=>by rw [zau (Nat.ne_of_lt (Nat.lt_of_lt_of_le (Heap.lt_size q) hp))];exact n
  there:=fun b u q _=>⟨u,k b u q⟩
  tups:=fun b xs q=>by rw [zau (zaq q hn)];exact q
  frzs:=fun b u xs q=>by rw [zau (zaq q hn)];exact q
  tbls:=fun b ps q=>⟨#[],by rw [zau (zaq q hn),q];simp⟩
theorem Un.write (mu:Mut (H x)) (he:e=x∨H e=some (.own x)) (k:∀b u,b≠e→h.get? b=some u→h'.get? b=some u) (heo:∃u,h'.get? e=some u):Un fs ex H (upd H x o) h h':=by
 have hx:∀b,H b=none→b≠x:=fun b n z=>by subst z;rw [n]at mu;exact mu
 have hb:∀b,H b=none→b≠e:=fun b n z=>by
  subst z;rcases he with r |r
  ·exact hx b n r
  ·rw [n]at r;cases r
 have hm:∀b u,H b=some u→ ¬Mut (some u)→b≠x:=fun b u q nm z=>by subst z;rw [q]at mu;exact nm mu
 refine⟨fun b u q n _ _=>k b u (hb b n) q,fun b u q n _ _=>⟨u.slots,k b u (hb b n) q⟩,fun b u q n _=>by rw [zau (hx b n)];exact n,fun b u q _=>?_,
  fun b xs q=>by rw [zau (hm b _ q fun z=>z)];exact q,fun b u xs q=>by rw [zau (hm b _ q fun z=>z)];exact q,fun b ps q=>⟨#[],by rw [zau (hm b _ q fun z=>z),q];simp⟩⟩
 by_cases hbe:b=e
 ·subst hbe;exact heo
 ·exact⟨u,k b u hbe q⟩
end
noncomputable def trk (h:Heap) (H:Hp):List Addr:=(List.range h.objs.size).filter fun a=>(H a).isSome
noncomputable def zoY (h:Heap) (H:Hp):Heap:=PySem.W.hideAll h (trk h H)
theorem zmP (h:Heap) (H:Hp):(zoY h H).objs.size=h.objs.size:=PySem.W.hideAll_size _ _
theorem zpq{h:Heap}{H:Hp}{b:Addr}{o:Obj}(e:h.get? b=some o) (n:H b=none):(zoY h H).get? b=some o:=
 PySem.W.hideAll_get _ e fun hm=>by
  have q:(H b).isSome=true:=(List.mem_filter.mp hm).2;rw [n]at q;simp at q
theorem zrf{h:Heap}{H:Hp}{b:Addr}{o:Obj}(e:(zoY h H).get? b=some o):h.get? b=some o∧H b=none:=by
 have e':h.get? b=some o:=PySem.W.of_hideAll (trk h H) e;refine⟨e',?_⟩;cases q:H b with
 |none=>rfl
 |some x=>
  have hm:b∈trk h H:=List.mem_filter.mpr ⟨List.mem_range.mpr (Heap.lt_size e'),by simp [q]⟩
  have z:(zoY h H).get? b=none:=PySem.W.hideAll_none (trk h H) hm;rw [z]at e;cases e
noncomputable def zqQ (g h:Heap) (L:Addr):List (Addr×Obj):=(List.range h.objs.size).filterMap fun a=>if a=L∨(g.get? a).isSome=true then none else(h.get? a).map fun o=>(a,o)
noncomputable def rest (g h:Heap) (L d:Addr):List (Addr×Obj):=(zqQ g h L).filter fun p=>decide (p.1≠d)
structure Mod (K:PySem.W.Frag) (mg:Str→Option Value) (base:Heap):Prop where
  kin:K.In base
  glob:base.Ns mainGlobals mg
  blt:∃mb,base.Ns builtinsNs mb∧ ∀x:Str,x≠ "__name__" →mb x=bootBuiltins x
  nolimit:base.NoLimit
structure Cx where
  prog:Program
  w:World
  K:PySem.W.Frag
  mg:Str→Option Value
  base:Heap
  A:Around
  N:List Str
  s₀:Shared
  H₀:Hp
  env:Env
  outer:List Env
  stack:List Env
  ex:List Addr
  fn:Str→Bool
  calm:Bool
  pn:List (Addr×Obj)
  xe:Value→Shared→Prop
noncomputable def frs (l:List Env):List Addr:=l.filterMap (·.frame)
noncomputable abbrev Cx.fs (X:Cx):List Addr:=frs X.outer
noncomputable def Vis (sc:Scope) (x:Str):Prop:=sc.names.lookup x=some .local∨sc.names.lookup x=some .cell∨sc.names.lookup x=some .free
noncomputable def Loc (sc:Scope) (x:Str):Prop:=sc.names.lookup x=some .local∨sc.names.lookup x=some .cell
noncomputable def zxa (env:Env) (h:Heap) (m:Str→Option Value) (x:Str) (u:Value):Prop:=
 (env.kindOf x=some .local∧m x=some u)∨((env.kindOf x=some .cell∨env.kindOf x=some .free)∧ ∃c,env.cells.lookup x=some c∧h.IsCell c (some u))
structure Cx.Ok (X:Cx):Prop where
  mod:Mod X.K X.mg X.base
  kind:X.env.scope.kind= .function
  glob:X.env.globals=mainGlobals
  blt:X.env.builtins=builtinsNs
  above:X.s₀.heap.objs.size≤X.env.locals
  inj:∀x y c,X.env.cells.lookup x=some c→X.env.cells.lookup y=some c→x=y
  has:∀x,(X.env.kindOf x=some .cell∨X.env.kindOf x=some .free)→ ∃c,X.env.cells.lookup x=some c
  cab:∀x c,X.fn x=true→X.env.cells.lookup x=some c→X.s₀.heap.objs.size≤c
  hd:X.calm=true→X.A.handled=none
  frames:X.A.frames=some X.stack
  stk:X.stack=X.outer∨(X.stack=X.env::X.outer∧X.env.frame=some X.env.locals)
  exf:∀b∈X.ex,b≠X.env.locals∧ ∀x c,X.env.cells.lookup x=some c→c≠b
  bs:∀b o,X.base.get? b=some o→X.s₀.heap.get? b=some o∧X.H₀ b=none
  bsz:X.base.objs.size≤X.s₀.heap.objs.size
  noex:∀b o,X.base.get? b=some o→b∉X.ex
  exfs:∀b∈X.ex,b∉X.fs
  funs:X.s₀.heap.FunFrames X.base X.outer
  frf:∀b∈X.fs,X.H₀ b=none
structure Inv (X:Cx) (pins:List (Addr×Obj)) (σ:List (Option V)) (H:Hp) (s:Shared):Prop where
  ok:X.Ok
  os:s.os=X.s₀.os
  bare:AllBare s.gens
  base:Un X.fs X.ex X.H₀ H X.s₀.heap s.heap
  loc:∃m,s.heap.Ns X.env.locals m∧ ∀(i:Nat) (x:Str) (v:V),X.N[i]? =some x→σ[i]? =some (some v)→Vis X.env.scope x→ ∃u,RelV v u∧zxa X.env s.heap m x u
  cell:∀x c,X.env.cells.lookup x=some c→ ∃v,s.heap.IsCell c v
  free:H X.env.locals=none
  freeC:∀x c,X.env.cells.lookup x=some c→H c=none
  pin:∀p∈X.pn++pins,s.heap.get? p.1=some p.2∧H p.1=none∧p.1≠X.env.locals∧p.1∉X.fs∧ ∀v,p.2.data≠ .cell v
  hok:HOk X.prog X.w H s.heap
  len:σ.length=X.N.length
section
variable {X:Cx}{pins:List (Addr×Obj)}{σ:List (Option V)}{H H':Hp}{s:Shared}{h':Heap}
theorem Cx.Ok.nofr (ok:X.Ok) {b:Addr}{o:Obj}(e:X.base.get? b=some o):b∉X.fs:=fun hb=>by
 have:=(ok.funs.mem hb).1;rw [e]at this;cases this
theorem Inv.bs (I:Inv X pins σ H s):∀b o,X.base.get? b=some o→s.heap.get? b=some o∧H b=none:=fun b o e=>
 ⟨I.base.keep b o (I.ok.bs b o e).1 (I.ok.bs b o e).2 (I.ok.nofr e) (I.ok.noex b o e),I.base.free b o (I.ok.bs b o e).1 (I.ok.bs b o e).2 (I.ok.noex b o e)⟩
theorem Inv.bk (I:Inv X pins σ H s):∀b o,X.base.get? b=some o→s.heap.get? b=some o:=fun b o e=>(I.bs b o e).1
theorem Inv.mod (I:Inv X pins σ H s):Mod X.K X.mg X.base:=I.ok.mod
theorem Inv.kIn (I:Inv X pins σ H s):X.K.In s.heap:=I.ok.mod.kin.keeps I.bk
theorem Inv.lt (I:Inv X pins σ H s):X.env.locals<s.heap.objs.size:=let ⟨_,hn,_⟩:=I.loc;hn.lt
theorem Inv.sz (I:Inv X pins σ H s):X.s₀.heap.objs.size≤s.heap.objs.size:=Nat.le_trans I.ok.above (Nat.le_of_lt I.lt)
theorem Inv.nofs (I:Inv X pins σ H s) {a:Addr}(h:s.heap.objs.size≤a):a∉X.fs:=fun hb=>by
 obtain⟨_,o,ho,_⟩:=I.ok.funs.mem hb;exact absurd (Nat.lt_of_lt_of_le (Heap.lt_size ho) (Nat.le_trans I.sz h)) (Nat.lt_irrefl _)
theorem Inv.cne (I:Inv X pins σ H s):∀x c,X.env.cells.lookup x=some c→c≠X.env.locals:=fun x c e z=>by
 obtain⟨v,o,ho,hd⟩:=I.cell x c e;obtain⟨m,⟨o',es,ep,ho',hd',_⟩,_⟩:=I.loc;rw [z,ho']at ho;cases ho;rw [hd']at hd;cases hd
theorem Inv.funs (I:Inv X pins σ H s):s.heap.FunFrames X.base X.outer:=by
 have all:∀(l:List Env),(∀b∈frs l,b∈X.fs)→X.s₀.heap.FunFrames X.base l→s.heap.FunFrames X.base l:=by
  intro l
  induction l with
  |nil=>intro _ _;trivial
  |cons env r ih=>
   intro hs hl;obtain⟨hk,⟨L,o,hf,hn,ho,hd⟩,hr⟩:=hl;have hL:L∈X.fs:=hs L (by unfold frs;rw [List.filterMap_cons,hf];exact List.mem_cons_self);obtain⟨sl,e⟩:=I.base.slot L o ho (I.ok.frf L hL) hL fun z=>I.ok.exfs L z hL;exact⟨hk,⟨L,_,hf,hn,e,hd⟩,ih (fun b hb=>hs b (by unfold frs;rw [List.filterMap_cons,hf];exact List.mem_cons_of_mem _ hb)) hr⟩
 exact all X.outer (fun _ hb=>hb) I.ok.funs
theorem Inv.stack (I:Inv X pins σ H s):s.heap.FunFrames X.base X.stack:=by
 rcases I.ok.stk with e |⟨e,hf⟩
 ·rw [e];exact I.funs
 ·rw [e];obtain⟨m,hn,_⟩:=I.loc;refine .cons (by rw [I.ok.kind];decide) hf hn ?_ I.funs;exact Heap.get?_none_of_le (Nat.le_trans I.ok.bsz I.ok.above)
theorem Inv.stkSub (I:Inv X pins σ H s):∀b∈frs X.stack,b∈X.env.locals::X.fs:=fun b hb=>by
 rcases I.ok.stk with e |⟨e,hf⟩
 ·rw [e]at hb;exact List.mem_cons_of_mem _ hb
 ·rw [e]at hb;unfold frs at hb;rw [List.filterMap_cons,hf]at hb;exact hb
theorem Inv.stkFree (I:Inv X pins σ H s):∀b∈frs X.stack,H b=none:=fun b hb=>by
 rcases List.mem_cons.mp (I.stkSub b hb) with e |hb
 ·rw [e];exact I.free
 ·obtain⟨_,o,ho,_⟩:=I.ok.funs.mem hb;exact I.base.free b o ho (I.ok.frf b hb) fun z=>I.ok.exfs b z hb
theorem Inv.step{g':Array GenState}{t':Nat}{d':Drawn}{ch:List Addr}(I:Inv X pins σ H s)
  (hch:∀b∈ch,(b∈X.ex∨X.s₀.heap.objs.size≤b)∧b≠X.env.locals∧(∀x c,X.env.cells.lookup x=some c→c≠b)∧ ∀p∈X.pn++pins,p.1≠b)
  (keep:∀b o,b≠X.env.locals→b∉X.fs→b∉ch→s.heap.get? b=some o→H b=none→h'.get? b=some o)
  (slot:∀b o,b≠X.env.locals→b∈X.fs→b∉ch→s.heap.get? b=some o→H b=none→ ∃sl,h'.get? b=some { o with slots:=sl }) (free:∀b o,b∉ch→s.heap.get? b=some o→H b=none→H' b=none)
  (there:∀b o,b∉ch→s.heap.get? b=some o→ ∃o',h'.get? b=some o')
  (tups:∀b xs,H b=some (.tup xs)→H' b=some (.tup xs)) (frzs:∀b o u,H b=some (.frz o u)→H' b=some (.frz o u)) (tbls:∀b ps,H b=some (.tbl ps)→ ∃more,H' b=some (.tbl (ps++more)))
  (ns:∀m,s.heap.Ns X.env.locals m→h'.Ns X.env.locals m) (hok:HOk X.prog X.w H' h') (hg:AllBare g') :
  Inv X pins σ H' { s with heap:=h',gens:=g',drawn:=d',toks:=t' }:=by
 have neL:∀b o,X.s₀.heap.get? b=some o→b≠X.env.locals:=fun b o e=>Nat.ne_of_lt (Nat.lt_of_lt_of_le (Heap.lt_size e) I.ok.above);have neC:∀b o,X.s₀.heap.get? b=some o→b∉X.ex→b∉ch:=fun b o e hx hb=>by
  rcases(hch b hb).1 with z |z
  ·exact hx z
  ·exact absurd (Nat.lt_of_lt_of_le (Heap.lt_size e) z) (Nat.lt_irrefl _)
 have cellK:∀x c,X.env.cells.lookup x=some c→ ∀v,s.heap.IsCell c v→h'.IsCell c v:=fun x c e v ⟨o,ho,hd⟩=>by
  have nch:c∉ch:=fun z=>(hch c z).2.2.1 x c e rfl;by_cases hc:c∈X.fs
  ·obtain⟨sl,q⟩:=slot c o (I.cne x c e) hc nch ho (I.freeC x c e);exact⟨_,q,hd⟩
  ·exact⟨o,keep c o (I.cne x c e) hc nch ho (I.freeC x c e),hd⟩
 refine⟨I.ok,I.os,hg,⟨fun b o e n hb hx=>?_,fun b o e n hb hx=>?_,fun b o e n hx=>?_,fun b o e hx=>?_,fun b xs e=>tups b xs (I.base.tups b xs e),fun b o xs e=>frzs b o xs (I.base.frzs b o xs e),fun b ps e=>?_⟩,?_,fun x c e=>?_,?_,fun x c e=>?_,fun p hp=>?_,hok,I.len⟩
 ·exact keep b o (neL b o e) hb (neC b o e hx) (I.base.keep b o e n hb hx) (I.base.free b o e n hx)
 ·obtain⟨sl,e1⟩:=I.base.slot b o e n hb hx;obtain⟨sl',e2⟩:=slot b _ (neL b o e) hb (neC b o e hx) e1 (I.base.free b o e n hx);exact⟨sl',e2⟩
 ·obtain⟨o',e1⟩:=I.base.there b o e hx;exact free b o' (neC b o e hx) e1 (I.base.free b o e n hx)
 ·obtain⟨o',e1⟩:=I.base.there b o e hx;exact there b o' (neC b o e hx) e1
 ·obtain⟨m1,e1⟩:=I.base.tbls b ps e;obtain⟨m2,e2⟩:=tbls b _ e1;exact⟨m1++m2,by rw [e2,Array.append_assoc]⟩
 ·obtain⟨m,hn,hl⟩:=I.loc;refine⟨m,ns m hn,fun i x v e1 e2 e3=>?_⟩;obtain⟨u,r,l⟩:=hl i x v e1 e2 e3;refine⟨u,r,?_⟩;rcases l with l |⟨k,c,e,z⟩
  ·exact .inl l
  ·exact .inr ⟨k,c,e,cellK x c e _ z⟩
 ·obtain⟨v,z⟩:=I.cell x c e;exact⟨v,cellK x c e v z⟩
 ·obtain⟨m,⟨o,_,_,ho,_⟩,_⟩:=I.loc;exact free _ o (fun z=>(hch _ z).2.1 rfl) ho I.free
 ·obtain⟨v,o,ho,hd⟩:=I.cell x c e;exact free c o (fun z=>(hch c z).2.2.1 x c e rfl) ho (I.freeC x c e)
 ·obtain⟨e,n,ne,nf,d⟩:=I.pin p hp;have nch:p.1∉ch:=fun z=>(hch p.1 z).2.2.2 p hp rfl;exact⟨keep p.1 p.2 ne nf nch e n,free p.1 p.2 nch e n,ne,nf,d⟩
theorem Inv.un{t':Nat}(I:Inv X pins σ H s) (u:Un X.fs [] H H' s.heap h') (hok:HOk X.prog X.w H' h'):Inv X pins σ H' { s with heap:=h',toks:=t' }:=by
 obtain⟨m,⟨o,es,ep,ho,r⟩,_⟩:=id I.loc;obtain⟨sl,hL⟩:=u.any ho I.free (by simp);exact I.step (g':=s.gens) (d':=s.drawn) (ch:=[]) (fun _ z=>nomatch z) (fun b o _ hb _ e n=>u.keep b o e n hb (by simp)) (fun b o _ hb _ e n=>u.slot b o e n hb (by simp)) (fun b o _ e n=>u.free b o e n (by simp)) (fun b o _ e=>u.there b o e (by simp)) u.tups u.frzs u.tbls (fun m' hm=>by
  obtain⟨o',es',ep',ho',r'⟩:=hm;rw [ho]at ho';cases ho';exact⟨_,es',ep',hL,r'⟩) hok I.bare
theorem Inv.call{g':Array GenState}{t':Nat}{d':Drawn}{ch:List Addr}(I:Inv X pins σ H s) (u:Un (frs X.stack) ch H H' s.heap h') (hok:HOk X.prog X.w H' h') (hg:AllBare g')
  (hch:∀b∈ch,(b∈X.ex∨X.s₀.heap.objs.size≤b)∧b≠X.env.locals∧(∀x c,X.env.cells.lookup x=some c→c≠b)∧ ∀p∈X.pn++pins,p.1≠b) :
  Inv X pins σ H' { s with heap:=h',gens:=g',drawn:=d',toks:=t' }:=by
 obtain⟨m,⟨o,es,ep,ho,r⟩,_⟩:=id I.loc;obtain⟨sl,hL⟩:=u.any ho I.free fun z=>(hch _ z).2.1 rfl;exact I.step (ch:=ch) hch (fun b o hL hb hc e n=>u.keep b o e n (fun z=>(List.mem_cons.mp (I.stkSub b z)).elim hL hb) hc) (fun b o _ _ hc e n=>u.any e n hc) (fun b o hc e n=>u.free b o e n hc) (fun b o hc e=>u.there b o e hc) u.tups u.frzs u.tbls (fun m' hm=>by
  obtain⟨o',es',ep',ho',r'⟩:=hm;rw [ho]at ho';cases ho';exact⟨_,es',ep',hL,r'⟩) hok hg
theorem Inv.turned{t':Nat}{it:Addr}(I:Inv X pins σ H s) (k:∀b o,b≠it→s.heap.get? b=some o→h'.get? b=some o) (hn:H it=none) (hL:it≠X.env.locals)
  (h1:it∈X.ex∨X.s₀.heap.objs.size≤it) (h2:∀x c,X.env.cells.lookup x=some c→c≠it) (h3:∀p∈X.pn++pins,p.1≠it):Inv X pins σ H { s with heap:=h',toks:=t' }:=by
 have nit:∀b u,H b=some u→b≠it:=fun b u e z=>by rw [z,hn]at e;cases e
 refine I.step (g':=s.gens) (d':=s.drawn) (ch:=[it]) (fun b hb=>?_) (fun b o _ _ hc e _=>k b o (fun z=>hc (by simp [z])) e) (fun b o _ _ hc e _=>⟨o.slots,k b o (fun z=>hc (by simp [z])) e⟩) (fun _ _ _ _ n=>n)
  (fun b o hc e=>⟨o,k b o (fun z=>hc (by simp [z])) e⟩) (fun _ _ e=>e) (fun _ _ _ e=>e) (fun b ps e=>⟨#[],by rw [e];simp⟩) (fun m hm=>?_) (fun b u e=>?_) I.bare
 ·have e:b=it:=by simpa using hb
  subst e;exact⟨h1,hL,h2,h3⟩
 ·obtain⟨o,es,ep,ho,r⟩:=hm;exact⟨o,es,ep,k _ o (Ne.symm hL) ho,r⟩
 ·refine(I.hok b u e).stay (fun c v hc q=>k c v ?_ q) (fun _ q=>q) fun _ _ q=>q;rcases hc with z |z
  ·rw [z];exact nit b u e
  ·exact nit c _ z
theorem Inv.tok (I:Inv X pins σ H s) (t:Nat):Inv X pins σ H { s with toks:=t }:=I.un (h':=s.heap) (t':=t) Un.refl I.hok
theorem Inv.kept{t':Nat}(I:Inv X pins σ H s) (k:∀b u,s.heap.get? b=some u→h'.get? b=some u):Inv X pins σ H { s with heap:=h',toks:=t' }:=I.un (Un.kept k) (I.hok.kept k)
theorem Inv.laid{a:Addr}{o:HO}{t':Nat}(I:Inv X pins σ H s) (k:∀b u,s.heap.get? b=some u→h'.get? b=some u) (hp:s.heap.objs.size≤a) (new:ObjOk X.prog X.w (upd H a o) h' a o) :
  Inv X pins σ (upd H a o) { s with heap:=h',toks:=t' }:=I.un (Un.laid k hp (I.hok.fresh hp)) (I.hok.laid k hp new)
theorem Inv.write{x e:Addr}{o:HO}{t':Nat}(I:Inv X pins σ H s) (mu:Mut (H x)) (he:e=x∨H e=some (.own x)) (k:∀b u,b≠e→s.heap.get? b=some u→h'.get? b=some u) (heo:∃u,h'.get? e=some u)
  (new:ObjOk X.prog X.w (upd H x o) h' x o):Inv X pins σ (upd H x o) { s with heap:=h',toks:=t' }:=I.un (Un.write mu he k heo) (I.hok.write mu he k heo new)
theorem Inv.pins_of{pins':List (Addr×Obj)}(I:Inv X pins σ H s) (h:∀p∈pins',s.heap.get? p.1=some p.2∧H p.1=none∧p.1≠X.env.locals∧p.1∉X.fs∧ ∀v,p.2.data≠ .cell v):Inv X pins' σ H s:=
 ⟨I.ok,I.os,I.bare,I.base,I.loc,I.cell,I.free,I.freeC,fun p hp=>(List.mem_append.mp hp).elim (fun z=>I.pin p (List.mem_append_left _ z)) (h p),I.hok,I.len⟩
theorem zgF{N:List Str}(hN:N.Nodup) {i j:Nat}{x:Str}(a:N[i]? =some x) (b:N[j]? =some x):i=j:=by
 obtain⟨h1,e1⟩:=List.getElem?_eq_some_iff.mp a;obtain⟨h2,e2⟩:=List.getElem?_eq_some_iff.mp b;exact(List.getElem_inj hN).mp (e1.trans e2.symm)
theorem zig{M:Model}{A:Around}{E:Value→Shared→Prop}{i:Nat}{x:Str}{v:V}{u:Value}{Q:Unit→Shared→Prop}(I:Inv X pins σ H s) (hN:X.N.Nodup) (hi:X.N[i]? =some x) (hx:Loc X.env.scope x) (r:RelV v u)
  (h:∀s',Inv X pins (σ.set i (some v)) H s'→(∃a,Heap.SameBut a s.heap s'.heap∧(a=X.env.locals∨X.env.cells.lookup x=some a))→Q () s') (hf:X.fn x=true∨X.env.scope.names.lookup x=some .local:=by first |exact .inl rfl |exact .inr rfl |assumption):wpAny M A (storeName X.env x u) Q E s:=by
 obtain⟨m,hn,hl⟩:=id I.loc;have hcls:(X.env.scope.kind == .class || (X.env.scope.kind == .module&&X.env.locals != X.env.globals))=false:=by rw [I.ok.kind];rfl
 have hiσ:i<σ.length:=by rw [I.len];exact(List.getElem?_eq_some_iff.mp hi).1
 have cne:=I.cne;have tracked:∀{a:Addr}{h':Heap},(∃o,s.heap.get? a=some o∧H a=none)→Heap.SameBut a s.heap h'→HOk X.prog X.w H h':=fun {a h'} ha hs b ob e=>by
  obtain⟨_,_,hfree⟩:=ha;refine(I.hok b ob e).stay (fun c w' hc q=>(hs.2 c ?_).trans q) (fun _ q=>q) fun _ _ q=>q;rintro rfl;rcases hc with rfl |hc
  ·rw [hfree]at e;cases e
  ·rw [hfree]at hc;cases hc
 rcases hx with hk |hk
 ·refine wpAny_storeName_local hk hn (fun h' hn' hs=>?_) hcls;obtain⟨oL,_,_,hoL,_⟩:=id hn;refine h _ ⟨I.ok,I.os,I.bare,⟨fun b o e n hb hx=>?_,fun b o e n hb hx=>?_,I.base.free,fun b o e hx=>?_,I.base.tups,I.base.frzs,I.base.tbls⟩,⟨_,hn',fun j y v' e1 e2 e3=>?_⟩,fun y c e=>?_,I.free,I.freeC,fun p hp=>?_,tracked ⟨oL,hoL,I.free⟩ hs,by simpa using I.len⟩ ⟨_,hs, .inl rfl⟩
  ·exact(hs.2 b (Nat.ne_of_lt (Nat.lt_of_lt_of_le (Heap.lt_size e) I.ok.above))).trans (I.base.keep b o e n hb hx)
  ·obtain⟨sl,e1⟩:=I.base.slot b o e n hb hx;exact⟨sl,(hs.2 b (Nat.ne_of_lt (Nat.lt_of_lt_of_le (Heap.lt_size e) I.ok.above))).trans e1⟩
  ·obtain⟨o',e1⟩:=I.base.there b o e hx;exact⟨o',(hs.2 b (Nat.ne_of_lt (Nat.lt_of_lt_of_le (Heap.lt_size e) I.ok.above))).trans e1⟩
  ·by_cases hj:j=i
   ·subst hj;rw [hi]at e1;cases e1;rw [List.getElem?_set_self hiσ]at e2;cases e2;exact⟨u,r, .inl ⟨hk,by simp⟩⟩
   ·rw [List.getElem?_set_ne (Ne.symm hj)]at e2;obtain⟨u',r',q⟩:=hl j y v' e1 e2 e3;refine⟨u',r',?_⟩;rcases q with⟨k,e⟩ |⟨k,c,e,z⟩
    ·refine .inl ⟨k,?_⟩;have:y≠x:=fun e=>hj (zgF hN e1 (e▸hi));simp [this,e]
    ·exact .inr ⟨k,c,e,z.sameBut hs (cne y c e)⟩
  ·obtain⟨w',z⟩:=I.cell y c e;exact⟨w',z.sameBut hs (cne y c e)⟩
  ·obtain⟨e,n,ne,nf,d⟩:=I.pin p hp;exact⟨(hs.2 p.1 ne).trans e,n,ne,nf,d⟩
 ·have hfn:X.fn x=true:=by
   rcases hf with z |z
   ·exact z
   ·rw [z]at hk;cases hk
  obtain⟨c,hc⟩:=I.ok.has x (.inl hk);obtain⟨w',z⟩:=I.cell x c hc;refine wpAny_storeName_cell I.ok.kind hk hc z (fun h' hc' hs=>?_);obtain⟨oc,hoc,hocd⟩:=id z;refine h { s with heap:=h' } ⟨I.ok,I.os,I.bare,⟨fun b o e n hb hx=>?_,fun b o e n hb hx=>?_,I.base.free,fun b o e hx=>?_,I.base.tups,I.base.frzs,I.base.tbls⟩,⟨m,hn.sameBut hs (Ne.symm (cne x c hc)),fun j y v' e1 e2 e3=>?_⟩,fun y c' e=>?_,I.free,I.freeC,fun p hp=>?_,tracked ⟨oc,hoc,I.freeC x c hc⟩ hs,by simpa using I.len⟩ ⟨c,hs, .inr hc⟩
  ·exact(hs.2 b (Nat.ne_of_lt (Nat.lt_of_lt_of_le (Heap.lt_size e) (I.ok.cab x c hfn hc)))).trans (I.base.keep b o e n hb hx)
  ·obtain⟨sl,e1⟩:=I.base.slot b o e n hb hx;exact⟨sl,(hs.2 b (Nat.ne_of_lt (Nat.lt_of_lt_of_le (Heap.lt_size e) (I.ok.cab x c hfn hc)))).trans e1⟩
  ·obtain⟨o',e1⟩:=I.base.there b o e hx;exact⟨o',(hs.2 b (Nat.ne_of_lt (Nat.lt_of_lt_of_le (Heap.lt_size e) (I.ok.cab x c hfn hc)))).trans e1⟩
  ·by_cases hj:j=i
   ·subst hj;rw [hi]at e1;cases e1;rw [List.getElem?_set_self hiσ]at e2;cases e2;exact⟨u,r, .inr ⟨.inl hk,c,hc,hc'⟩⟩
   ·rw [List.getElem?_set_ne (Ne.symm hj)]at e2;obtain⟨u',r',q⟩:=hl j y v' e1 e2 e3;refine⟨u',r',?_⟩;rcases q with q |⟨k,c',e,z'⟩
    ·exact .inl q
    ·refine .inr ⟨k,c',e,z'.sameBut hs ?_⟩;rintro rfl;exact hj (zgF hN e1 (I.ok.inj _ _ _ e hc▸hi))
  ·by_cases hcc:c'=c
   ·subst hcc;exact⟨_,hc'⟩
   ·obtain⟨w2,z2⟩:=I.cell y c' e;exact⟨w2,z2.sameBut hs hcc⟩
  ·obtain⟨e,n,ne,nf,d⟩:=I.pin p hp;refine⟨(hs.2 p.1 ?_).trans e,n,ne,nf,d⟩;intro q;rw [q,hoc]at e;have q':oc=p.2:=Option.some.inj e;exact d w' (by rw [←q'];exact hocd)
theorem zfk{M:Model}{A:Around}{E:Value→Shared→Prop}{i:Nat}{x:Str}{v:V}{u:Value}{Q:Unit→Shared→Prop}(I:Inv X pins σ H s) (hN:X.N.Nodup) (hi:X.N[i]? =some x) (hx:Loc X.env.scope x) (r:RelV v u)
  (h:∀s',Inv X pins (σ.set i (some v)) H s'→Q () s') (hf:X.fn x=true∨X.env.scope.names.lookup x=some .local:=by first |exact .inl rfl |exact .inr rfl |assumption):wpAny M A (storeName X.env x u) Q E s:=
 zig I hN hi hx r (fun s' I' _=>h s' I') hf
theorem Inv.call'{s':Shared}{ch:List Addr}(I:Inv X pins σ H s) (ho:s'.os=s.os) (u:Un (frs X.stack) ch H H' s.heap s'.heap) (hok:HOk X.prog X.w H' s'.heap) (hg:AllBare s'.gens)
  (hch:∀b∈ch,(b∈X.ex∨X.s₀.heap.objs.size≤b)∧b≠X.env.locals∧(∀x c,X.env.cells.lookup x=some c→c≠b)∧ ∀p∈X.pn++pins,p.1≠b):Inv X pins σ H' s':=by
 obtain⟨h',g',d',t',o'⟩:=s';have e:o'=s.os:=ho;subst e;exact I.call (g':=g') (t':=t') (d':=d') u hok hg hch
end
noncomputable abbrev XK:=Value→Option Addr→Hp→Prop
noncomputable abbrev St:=List (Option V)
noncomputable abbrev VK:=V→Hp→Prop
noncomputable abbrev TE:=St→Hp→VK→Prop
noncomputable abbrev TT:=St→Hp→(Bool→Hp→Prop)→Prop
noncomputable abbrev TA:=St→Hp→(List V→Hp→Prop)→Prop
structure Ends where
  nx:St→Hp→Prop
  rt:VK
  bk:St→Hp→Prop:=fun _ _=>False
  ct:St→Hp→Prop:=fun _ _=>False
noncomputable abbrev TS:=Ends→St→Hp→Prop
noncomputable def EP (X:Cx) (pins:List (Addr×Obj)) (σ:St) (Q:VK) (u:Value) (s':Shared):Prop:=∃v H',Inv X pins σ H' s'∧RelV v u∧Q v H'
noncomputable def TP (X:Cx) (pins:List (Addr×Obj)) (σ:St) (Q:Bool→Hp→Prop) (b:Bool) (s':Shared):Prop:=∃H',Inv X pins σ H' s'∧Q b H'
noncomputable def AP (X:Cx) (pins:List (Addr×Obj)) (σ:St) (Q:List V→Hp→Prop) (us:List Value) (s':Shared):Prop:=∃vs H',Inv X pins σ H' s'∧Vals vs us∧Q vs H'
noncomputable def SP (X:Cx) (pins:List (Addr×Obj)) (D:Ends) (f:Flow) (s':Shared):Prop:=
 match f with
 | .next=>∃σ' H',Inv X pins σ' H' s'∧D.nx σ' H'
 | .brk=>∃σ' H',Inv X pins σ' H' s'∧D.bk σ' H'
 | .cont=>∃σ' H',Inv X pins σ' H' s'∧D.ct σ' H'
 | .ret u=>∃v σ' H',Inv X pins σ' H' s'∧RelV v u∧D.rt v H'
noncomputable def PE (X:Cx) (e:Expr) (t:TE):Prop:=
 ∀(pins:List (Addr×Obj)) (s:Shared) (σ:St) (H:Hp) (Q:VK),Inv X pins σ H s→t σ H Q→wpAny (model X.prog X.w) X.A (eval e X.env) (EP X pins σ Q) X.xe s
noncomputable def PT (X:Cx) (e:Expr) (t:TT):Prop:=
 ∀(pins:List (Addr×Obj)) (s:Shared) (σ:St) (H:Hp) (Q:Bool→Hp→Prop),Inv X pins σ H s→t σ H Q→wpAny (model X.prog X.w) X.A (isTrue e X.env (eval e X.env)) (TP X pins σ Q) X.xe s
noncomputable def PW (X:Cx) (e:Expr) (t:TT):Prop:=
 ∀(whole:Sem Value) (pins:List (Addr×Obj)) (s:Shared) (σ:St) (H:Hp) (Q:Bool→Hp→Prop),Inv X pins σ H s→t σ H Q→wpAny (model X.prog X.w) X.A (isTrue e X.env whole) (TP X pins σ Q) X.xe s
theorem PW.pt{X:Cx}{e:Expr}{t:TT}(h:PW X e t):PT X e t:=h _
noncomputable def PA (X:Cx) (es:List Expr) (t:TA):Prop:=
 ∀(pos:Pos) (pins:List (Addr×Obj)) (s:Shared) (σ:St) (H:Hp) (Q:List V→Hp→Prop),Inv X pins σ H s→t σ H Q→wpAny (model X.prog X.w) X.A (spliced (backTo pos (starEach es X.env))) (AP X pins σ Q) X.xe s
noncomputable def PS (X:Cx) (st:Stmt) (t:TS):Prop:=
 ∀(pins:List (Addr×Obj)) (s:Shared) (σ:St) (H:Hp) (D:Ends),Inv X pins σ H s→t D σ H→wpAny (model X.prog X.w) X.A (exec st X.env) (SP X pins D) X.xe s
noncomputable def PSs (X:Cx) (st:List Stmt) (t:TS):Prop:=
 ∀(pins:List (Addr×Obj)) (s:Shared) (σ:St) (H:Hp) (D:Ends),Inv X pins σ H s→t D σ H→wpAny (model X.prog X.w) X.A (execs st X.env) (SP X pins D) X.xe s
theorem thn{α:Type}{t:Sem α}{Q Q':α→Shared→Prop}{M:Model}{A:Around}{E:Value→Shared→Prop}{s:Shared}(h:wpAny M A t Q E s) (hQ:∀a s,Q a s→Q' a s):wpAny M A t Q' E s:=wpAny_mono h hQ fun _ _ x=>x
section
variable {X:Cx}
noncomputable def zwL (i:Nat):TE:=fun σ H Q=>∃v,σ[i]? =some (some v)∧Q v H
noncomputable def tC (v:V):TE:=fun _ H Q=>Q v H
theorem zmf{i:Nat}{x:Str}{pos:Pos}(hN:X.N[i]? =some x) (hv:Vis X.env.scope x) (hd:(x == ("__debug__" :Str))=false:=by decide) (hcd:(x == ("__classdict__" :Str))=false:=by decide):PE X (.Name x pos) (zwL i):=by
 intro pins s σ H Q I h;obtain⟨v,e,h⟩:=h;obtain⟨m,hn,hl⟩:=I.loc;obtain⟨u,r,l⟩:=hl i x v hN e hv;have fin:EP X pins σ Q u s:=⟨v,H,I,r,h⟩;rcases l with⟨hk,hm⟩ |⟨hk,c,hc,hcell⟩
 ·exact wpAny_Name (wpAny_loadName_local I.ok.kind hk hn hm fin) hd
 ·rcases hk with hk |hk
  ·exact wpAny_Name (wpAny_loadName_cell I.ok.kind hk hc hcell fin) hd
  ·exact wpAny_Name (wpAny_loadName_free I.ok.kind hk hc hcell fin hcd) hd
theorem ztE{i j pos}:PE X (.Constant (.int i) j pos) (tC (.int i)):=fun _ _ _ H _ I h=>wpAny_Constant_int ⟨.int i,H,I.tok _,⟨_,rfl⟩,h⟩
theorem zvf{b j pos}:PE X (.Constant (.bool b) j pos) (tC (.bl b)):=fun _ _ _ H _ I h=>Constant_bool ⟨.bl b,H,I,rfl,h⟩
theorem zum{j pos}:PE X (.Constant .none j pos) (tC .non):=fun _ _ _ H _ I h=>Constant_none ⟨.non,H,I,rfl,h⟩
theorem ztC{x j pos}:PE X (.Constant (.str x) j pos) (tC (.str x)):=fun _ _ _ H _ I h=>Calls.Constant_str ⟨.str x,H,I.tok _,⟨_,rfl⟩,h⟩
noncomputable def Gl (X:Cx) (x:Str):Prop:=X.env.kindOf x=some .globalImplicit
theorem zfP{E:Value→Shared→Prop}{pins:List (Addr×Obj)}{s:Shared}{σ:St}{H:Hp}{x:Str}{u:Value}{pos:Pos}{Q:Value→Shared→Prop}(I:Inv X pins σ H s) (hg:Gl X x) (hm:X.mg x=some u) (h:Q u s)
  (hd:(x == ("__debug__" :Str))=false:=by decide):wpAny (model X.prog X.w) X.A (eval (.Name x pos) X.env) Q E s:=
 Calls.Name_function_global I.ok.kind hg (Calls.loadGlobal_global (by rw [I.ok.glob];exact I.mod.glob.keeps I.bk) hm h) hd
theorem zdJ{E:Value→Shared→Prop}{pins:List (Addr×Obj)}{s:Shared}{σ:St}{H:Hp}{x:Str}{u:Value}{pos:Pos}{Q:Value→Shared→Prop}(I:Inv X pins σ H s) (hg:Gl X x) (hm:X.mg x=none) (hv:bootBuiltins x=some u) (h:Q u s)
  (hn:x≠ "__name__" :=by decide) (hd:(x == ("__debug__" :Str))=false:=by decide):wpAny (model X.prog X.w) X.A (eval (.Name x pos) X.env) Q E s:=by
 obtain⟨mb,h1,h2⟩:=I.mod.blt;exact Calls.Name_function_global I.ok.kind hg (Calls.loadGlobal_builtin (by rw [I.ok.glob];exact I.mod.glob.keeps I.bk) hm (by rw [I.ok.blt];exact h1.keeps I.bk) ((h2 x hn).trans hv) h) hd
theorem zlK{x:Str}{v:V}{u:Value}{pos:Pos}(hg:Gl X x) (hm:X.mg x=some u) (r:RelV v u) (hd:(x == ("__debug__" :Str))=false:=by decide):PE X (.Name x pos) (tC v):=
 fun _ _ _ H _ I h=>zfP I hg hm ⟨v,H,I,r,h⟩ hd
theorem znB{x:Str}{v:V}{u:Value}{pos:Pos}(hg:Gl X x) (hm:X.mg x=none) (hv:bootBuiltins x=some u) (r:RelV v u) (hn:x≠ "__name__" :=by decide) (hd:(x == ("__debug__" :Str))=false:=by decide):PE X (.Name x pos) (tC v):=
 fun _ _ _ H _ I h=>zdJ I hg hm hv ⟨v,H,I,r,h⟩ hn hd
variable {a b:Expr}{ta tb:TE}{pos:Pos}
variable {tA tB':TT}{rest:List Expr}
noncomputable def zwV (t u:TT):TT:=fun σ H Q=>t σ H fun c H1=>if c=true then u σ H1 Q else Q false H1
noncomputable def tOr (t u:TT):TT:=fun σ H Q=>t σ H fun c H1=>if c=true then Q true H1 else u σ H1 Q
noncomputable def zwM (t:TT):TT:=fun σ H Q=>t σ H fun c H1=>Q (!c) H1
theorem zrL (ha:PT X a tA):PW X (.BoolOp .And [a] pos) tA:=by
 intro wh pins s σ H Q I h;refine isTrue_and (thn (ha pins s σ H Q I h) fun c s1 e=>?_);cases c with
 |true=>exact isTrue_and_nil e
 |false=>exact e
theorem zub (ha:PT X a tA):PW X (.BoolOp .Or [a] pos) tA:=by
 intro wh pins s σ H Q I h;refine isTrue_or (thn (ha pins s σ H Q I h) fun c s1 e=>?_);cases c with
 |false=>exact isTrue_or_nil e
 |true=>exact e
theorem zud (ha:PT X a tA) (hb:PW X (.BoolOp .And (b::rest) pos) tB'):PW X (.BoolOp .And (a::b::rest) pos) (zwV tA tB'):=by
 intro wh pins s σ H Q I h;refine isTrue_and (thn (ha pins s σ H _ I h) fun c s1 ⟨H1,I1,q1⟩=>?_);cases c with
 |true=>exact hb wh pins s1 σ H1 Q I1 q1
 |false=>exact⟨H1,I1,q1⟩
theorem zuZ (ha:PT X a tA) (hb:PW X (.BoolOp .Or (b::rest) pos) tB'):PW X (.BoolOp .Or (a::b::rest) pos) (tOr tA tB'):=by
 intro wh pins s σ H Q I h;refine isTrue_or (thn (ha pins s σ H _ I h) fun c s1 ⟨H1,I1,q1⟩=>?_);cases c with
 |true=>exact⟨H1,I1,q1⟩
 |false=>exact hb wh pins s1 σ H1 Q I1 q1
theorem zsl (ha:PT X a tA):PT X (.UnaryOp .Not a pos) (zwM tA):=by
 intro pins s σ H Q I h;exact isTrue_not (ha pins s σ H (fun c H1=>Q (!c) H1) I h)
noncomputable def zvQ (ta tb:TE):TE:=fun σ H Q=>ta σ H fun x H1=>∃c,x= .bl c∧if c=true then tb σ H1 Q else Q (.bl false) H1
noncomputable def zwI (ta tb:TE):TE:=fun σ H Q=>ta σ H fun x H1=>∃c,x= .bl c∧if c=true then Q (.bl true) H1 else tb σ H1 Q
noncomputable def zuL (ta:TE):TE:=fun σ H Q=>ta σ H fun x H1=>∃c,x= .bl c∧Q (.bl (!c)) H1
theorem zsH{op}{t:TE}(h:PE X a t):PE X (.BoolOp op [a] pos) t:=fun pins s σ H Q I hw=>BoolOp_one (h pins s σ H Q I hw)
theorem ztQ (ha:PE X a ta) (hb:PE X (.BoolOp .And (b::rest) pos) tb):PE X (.BoolOp .And (a::b::rest) pos) (zvQ ta tb):=by
 intro pins s σ H Q I h;refine BoolOp_and (thn (ha pins s σ H _ I h) fun v s1 ⟨x,H1,I1,r1,q1⟩=>?_);obtain⟨c,rfl,q1⟩:=q1;cases r1;refine wpAny_truthy_bool ?_;cases c with
 |true=>exact hb pins s1 σ H1 Q I1 q1
 |false=>exact⟨.bl false,H1,I1,rfl,q1⟩
theorem zvk (ha:PE X a ta) (hb:PE X (.BoolOp .Or (b::rest) pos) tb):PE X (.BoolOp .Or (a::b::rest) pos) (zwI ta tb):=by
 intro pins s σ H Q I h;refine BoolOp_or (thn (ha pins s σ H _ I h) fun v s1 ⟨x,H1,I1,r1,q1⟩=>?_);obtain⟨c,rfl,q1⟩:=q1;cases r1;refine wpAny_truthy_bool ?_;cases c with
 |false=>exact hb pins s1 σ H1 Q I1 q1
 |true=>exact⟨.bl true,H1,I1,rfl,q1⟩
theorem ztj (ha:PE X a ta):PE X (.UnaryOp .Not a pos) (zuL ta):=by
 intro pins s σ H Q I h;refine UnaryOp_ (thn (ha pins s σ H _ I h) fun v s1 ⟨x,H1,I1,r1,q1⟩=>?_);obtain⟨c,rfl,q1⟩:=q1;cases r1;exact not_of (wpAny_truthy_bool ⟨.bl (!c),H1,I1,rfl,q1⟩)
end
noncomputable def SqL (K:PySem.W.Frag) (H:Hp) (a:Addr) (xs:List V):Prop:=
 Rd H a (.lst xs)∨
  ∃(o:Obj) (its:Array Value) (n:Nat),K.lookup a=some o∧o.cls= .type "list" ∧o.dict=none∧o.data= .seq its n∧its.size≤sizeLine∧Vals xs its.toList
noncomputable def SqT (K:PySem.W.Frag) (H:Hp) (a:Addr) (xs:List V):Prop:=
 Rd H a (.tup xs)∨
  ∃(o:Obj) (its:Array Value) (n:Nat),K.lookup a=some o∧o.cls= .type "tuple" ∧o.data= .seq its n∧its.size≤sizeLine∧Vals xs its.toList
noncomputable def zwB:Value→Option V
 | .none=>some .non
 | .bool b=>some (.bl b)
 | .int i _=>some (.int i)
 | .str x _=>some (.str x)
 | .bytes b _=>some (.byt b)
 | .float b _=>some (.flt b)
 | .ref a=>some (.ref a)
 | .type n=>some (.ty n)
 |_=>none
theorem RelV.abs{x:V}{u:Value}(r:RelV x u):zwB u=some x:=by
 cases x with
 |non=>cases r;rfl
 |bl _=>cases r;rfl
 |int _=>obtain⟨t,rfl⟩:=r;rfl
 |str _=>obtain⟨t,rfl⟩:=r;rfl
 |byt _=>obtain⟨t,rfl⟩:=r;rfl
 |flt _=>obtain⟨t,rfl⟩:=r;rfl
 |ref _=>cases r;rfl
 |ty _=>cases r;rfl
theorem RelV.inj{x y:V}{u:Value}(r:RelV x u) (q:RelV y u):x=y:=Option.some.inj (r.abs.symm.trans q.abs)
theorem Vals.inj:∀{xs ys:List V}{us:List Value},Vals xs us→Vals ys us→xs=ys
 |_,_,_, .nil, .nil=>rfl
 |_,_,_, .cons r t, .cons r' t'=>by rw [r.inj r',Vals.inj t t']
section
variable {X:Cx}{pins:List (Addr×Obj)}{σ:St}{H:Hp}{s:Shared}{a:Addr}{xs ys:List V}
theorem SqL.of{K:PySem.W.Frag}(h:H a=some (.lst xs)):SqL K H a xs:= .inl (.inl h)
theorem SqT.of{K:PySem.W.Frag}(h:H a=some (.tup xs)):SqT K H a xs:= .inl (.inl h)
theorem Inv.list (I:Inv X pins σ H s) (h:SqL X.K H a xs):∃its:List Value,Vals xs its∧PlainL s.heap a its.toArray∧xs.length≤sizeLine:=by
 rcases h with h |⟨o,its,n,hk,hc,hd,hs,hz,r⟩
 ·obtain⟨z,its,n,r,e⟩:=h.ok I.hok;exact⟨its,r,⟨_,n,e,rfl,rfl,rfl⟩,z⟩
 ·refine⟨its.toList,r,⟨o,n,I.kIn a o hk,hc,hd,by simpa using hs⟩,?_⟩
  have e:=r.length;simp only[Array.length_toList]at e;omega
theorem Inv.tuple (I:Inv X pins σ H s) (h:SqT X.K H a xs):∃its:List Value,Vals xs its∧IsTup s.heap a its.toArray∧xs.length≤sizeLine:=by
 rcases h with h |⟨o,its,n,hk,hc,hs,hz,r⟩
 ·obtain⟨z,its,r,p⟩:=h.ok I.hok;exact⟨its,r,p,z⟩
 ·refine⟨its.toList,r,⟨o,I.kIn a o hk,hc,n,by simpa using hs⟩,?_⟩
  have e:=r.length;simp only[Array.length_toList]at e;omega
theorem Inv.list_inj (I:Inv X pins σ H s) (h:SqL X.K H a xs) (h':SqL X.K H a ys):xs=ys:=by
 obtain⟨its,r,⟨o,n,e,_,_,d⟩,_⟩:=I.list h;obtain⟨its',r',⟨o',n',e',_,_,d'⟩,_⟩:=I.list h';rw [e]at e';cases e';rw [d]at d';injection d' with d1 _;have:its=its':=by simpa using congrArg Array.toList d1
 subst this;exact r.inj r'
theorem Inv.tuple_inj (I:Inv X pins σ H s) (h:SqT X.K H a xs) (h':SqT X.K H a ys):xs=ys:=by
 obtain⟨its,r,⟨o,e,_,n,d⟩,_⟩:=I.tuple h;obtain⟨its',r',⟨o',e',_,n',d'⟩,_⟩:=I.tuple h';rw [e]at e';cases e';rw [d]at d';injection d' with d1 _;have:its=its':=by simpa using congrArg Array.toList d1
 subst this;exact r.inj r'
end
noncomputable abbrev Cx.wish (X:Cx) (E:Value→Shared→Prop):Cx:={ X with xe:=E }
noncomputable abbrev Cx.nox (X:Cx):Cx:=X.wish fun _ _=>False
theorem Cx.Ok.wish{X:Cx}(ok:X.Ok) (E:Value→Shared→Prop):(X.wish E).Ok:=
 ⟨ok.mod,ok.kind,ok.glob,ok.blt,ok.above,ok.inj,ok.has,ok.cab,ok.hd,ok.frames,ok.stk,ok.exf,ok.bs,ok.bsz,ok.noex,ok.exfs,ok.funs,ok.frf⟩
theorem Cx.Ok.unwish{X:Cx}{E:Value→Shared→Prop}(ok:(X.wish E).Ok):X.Ok:=
 ⟨ok.mod,ok.kind,ok.glob,ok.blt,ok.above,ok.inj,ok.has,ok.cab,ok.hd,ok.frames,ok.stk,ok.exf,ok.bs,ok.bsz,ok.noex,ok.exfs,ok.funs,ok.frf⟩
section
variable {X:Cx}{pins:List (Addr×Obj)}{σ:St}{H:Hp}{s:Shared}{E:Value→Shared→Prop}
theorem Inv.wish (I:Inv X pins σ H s) (E:Value→Shared→Prop):Inv (X.wish E) pins σ H s:=⟨I.ok.wish E,I.os,I.bare,I.base,I.loc,I.cell,I.free,I.freeC,I.pin,I.hok,I.len⟩
theorem Inv.unwish (I:Inv (X.wish E) pins σ H s):Inv X pins σ H s:=⟨I.ok.unwish,I.os,I.bare,I.base,I.loc,I.cell,I.free,I.freeC,I.pin,I.hok,I.len⟩
theorem SP.unwish{D:Ends}{f:Flow}{s':Shared}(h:SP (X.wish E) pins D f s'):SP X pins D f s':=by
 cases f with
 |next=>obtain⟨σ',H',I,q⟩:=h;exact⟨σ',H',I.unwish,q⟩
 |brk=>obtain⟨σ',H',I,q⟩:=h;exact⟨σ',H',I.unwish,q⟩
 |cont=>obtain⟨σ',H',I,q⟩:=h;exact⟨σ',H',I.unwish,q⟩
 |ret u=>obtain⟨v,σ',H',I,r,q⟩:=h;exact⟨v,σ',H',I.unwish,r,q⟩
theorem PE.nox{e:Expr}{t:TE}(h:PE X.nox e t):PE X e t:=fun pins s σ H Q I hw=>
 wpAny_mono (h pins s σ H Q (I.wish _) hw) (fun _ _ ⟨v,H',I',r,q⟩=>⟨v,H',I'.unwish,r,q⟩) fun _ _ z=>False.elim z
end
section
variable {X:Cx}{st:Stmt}{rest:List Stmt}{t u:TS}{e:Expr}{te:TE}{pos:Pos}
noncomputable def zwk:TS:=fun D σ H=>D.nx σ H
noncomputable def zxd (t u:TS):TS:=fun D σ H=>t { D with nx:=u D } σ H
theorem pss_nil:PSs X [] zwk:=fun _ _ σ H _ I h=>wpAny_execs_nil ⟨σ,H,I,h⟩
theorem zps (h1:PS X st t) (h2:PSs X rest u):PSs X (st::rest) (zxd t u):=by
 intro pins s σ H D I h;refine wpAny_execs_cons (thn (h1 pins s σ H { D with nx:=u D } I h) fun f s1 q=>?_);cases f with
 |next=>
  obtain⟨σ',H',I',q⟩:=q;exact h2 pins s1 σ' H' D I' q
 |ret v=>exact q
 |brk=>exact q
 |cont=>exact q
theorem zlR (h1:PS X st t):PSs X [st] t:=by
 intro pins s σ H D I h;refine wpAny_execs_cons (thn (h1 pins s σ H D I h) fun f s1 q=>?_);cases f with
 |next=>exact wpAny_execs_nil q
 |ret v=>exact q
 |brk=>exact q
 |cont=>exact q
theorem Inv.quiet{pins:List (Addr×Obj)}{σ:St}{H:Hp}{s:Shared}(I:Inv X pins σ H s):interactive X.env=false:=by simp [interactive,I.ok.kind]
noncomputable def zuO (te:TE):TS:=fun D σ H=>te σ H fun _ H1=>D.nx σ H1
theorem zqM (he:PE X e te) (hs:swapsWith e none pos.line X.env=pure false:=by rfl):PS X (.Expr e pos) (zuO te):=by
 intro pins s σ H D I h;exact wpAny_Expr_any (thn (he pins s σ H _ I h) fun v s1 ⟨x,H1,I1,r1,q1⟩=>⟨σ,H1,I1,q1⟩) I.quiet hs
noncomputable def zwP (te:TE):TS:=fun D σ H=>te σ H D.rt
theorem ztf (he:PE X e te):PS X (.Return (some e) pos) (zwP te):=by
 intro pins s σ H D I h;exact wpAny_Return_some (thn (he pins s σ H _ I h) fun v s1 ⟨x,H1,I1,r1,q1⟩=>⟨x,σ,H1,I1,r1,q1⟩)
noncomputable def zwx (c:TT) (t u:TS):TS:=fun D σ H=>c σ H fun b H1=>if b=true then t D σ H1 else u D σ H1
theorem zvI{c:Expr}{a b:List Stmt}{tc:TT}(hc:PT X c tc) (ha:PSs X a t) (hb:PSs X b u):PS X (.If c a b pos) (zwx tc t u):=by
 intro pins s σ H D I h;refine wpAny_If (thn (hc pins s σ H _ I h) fun d s1 ⟨H1,I1,q1⟩=>?_);cases d with
 |true=>exact ha pins s1 σ H1 D I1 q1
 |false=>exact hb pins s1 σ H1 D I1 q1
end
noncomputable abbrev TG:=V→St→Hp→(St→Hp→Prop)→Prop
noncomputable abbrev TGs:=List V→St→Hp→(St→Hp→Prop)→Prop
noncomputable def PG (X:Cx) (target:Expr) (t:TG):Prop:=
 ∀(pins:List (Addr×Obj)) (s:Shared) (σ:St) (H:Hp) (v:V) (u:Value) (Q:St→Hp→Prop),Inv X pins σ H s→RelV v u→t v σ H Q→
  wpAny (model X.prog X.w) X.A (assign target X.env u) (fun _ s'=>∃σ' H',Inv X pins σ' H' s'∧Q σ' H') X.xe s
noncomputable def PGs (X:Cx) (ts:List Expr) (t:TGs):Prop:=
 ∀(pins:List (Addr×Obj)) (s:Shared) (σ:St) (H:Hp) (vs:List V) (us:List Value) (Q:St→Hp→Prop),Inv X pins σ H s→Vals vs us→t vs σ H Q→
  wpAny (model X.prog X.w) X.A (assignInOrder ((assignEach ts X.env).map (·.2)) us) (fun _ s'=>∃σ' H',Inv X pins σ' H' s'∧Q σ' H') X.xe s
noncomputable abbrev zvq:=V→V→V→Hp→(Hp→Prop)→Prop
noncomputable def zwq (X:Cx) (t:zvq):Prop:=
 ∀(pins:List (Addr×Obj)) (s:Shared) (σ:St) (H:Hp) (o i v:V) (ov iv u:Value) (Q:Hp→Prop),Inv X pins σ H s→RelV o ov→RelV i iv→RelV v u→t o i v H Q→
  wpAny (model X.prog X.w) X.A (setItem ov iv u) (fun _ s'=>∃H',Inv X pins σ H' s'∧Q H') X.xe s
noncomputable abbrev TIp:=V→V→Hp→VK→Prop
noncomputable def PIp (X:Cx) (op:Operator) (t:TIp):Prop:=
 ∀(pins:List (Addr×Obj)) (s:Shared) (σ:St) (H:Hp) (x y:V) (v u:Value) (Q:VK),Inv X pins σ H s→RelV x v→RelV y u→t x y H Q→
  wpAny (model X.prog X.w) X.A (inplaceOp op v u) (EP X pins σ Q) X.xe s
section
variable {X:Cx}{pos:Pos}
noncomputable def zrC (i:Nat):TG:=fun v σ H Q=>Q (σ.set i (some v)) H
theorem zqm{i:Nat}{x:Str}(hN:X.N.Nodup) (hi:X.N[i]? =some x) (hx:Loc X.env.scope x) (hf:X.fn x=true∨X.env.scope.names.lookup x=some .local:=by first |exact .inl rfl |exact .inr rfl |assumption):PG X (.Name x pos) (zrC i):=by
 intro pins s σ H v u Q I r h;exact wpAny_assign_Name (zfk I hN hi hx r (fun s' I'=>⟨_,H,I',h⟩) hf)
noncomputable def zwN:TGs:=fun vs σ H Q=>vs=[]∧Q σ H
noncomputable def zvz (t:TG) (u:TGs):TGs:=fun vs σ H Q=>∃v r,vs=v::r∧t v σ H fun σ' H'=>u r σ' H' Q
theorem zqG:PGs X [] zwN:=by
 intro pins s σ H vs us Q I r h;obtain⟨e,h⟩:=h;subst e;cases r;exact assignInOrder_nil ⟨σ,H,I,h⟩
theorem zpo{e:Expr}{es:List Expr}{t:TG}{u:TGs}(h1:PG X e t) (h2:PGs X es u)
  (hs:(assignEach (e::es) X.env).map (·.2)=assign e X.env::(assignEach es X.env).map (·.2):=by rfl):PGs X (e::es) (zvz t u):=by
 intro pins s σ H vs us Q I r h;obtain⟨v,vr,e1,h⟩:=h;subst e1;cases r with
 |cons r rr=>
  rw [hs];refine assignInOrder_cons (thn (h1 pins s σ H _ _ _ I r h) fun _ s1 ⟨σ1,H1,I1,q1⟩=>?_);exact h2 pins s1 σ1 H1 _ _ Q I1 rr q1
noncomputable def zwH (K:PySem.W.Frag) (n:Nat) (t:TGs):TG:=fun v σ H Q=>∃a xs,v= .ref a∧SqT K H a xs∧xs.length=n∧t xs σ H Q
theorem zsQ{es:List Expr}{k:Nat}{t:TGs}{n:Nat}(hc:X.calm=true) (h:PGs X es t)
  (hn:(assignEach es X.env).length=n:=by rfl) (hst:(assignEach es X.env).findIdx? (·.1)=none:=by rfl):PG X (.Tuple es k pos) (zwH X.K n t):=by
 intro pins s σ H v u Q I r hw;obtain⟨a,xs,e1,hq,hl,hw⟩:=hw;subst e1;cases r;obtain⟨its,rv,ht,hz⟩:=I.tuple hq;refine assign_Tuple_tuple (I.ok.hd hc) ht (by simp [hn,←hl,rv.length]) hst fun h' hx=>?_;have I1:Inv X pins σ H { s with heap:=h' }:=I.kept (t':=s.toks) fun b o e=>hx b o (Nat.ne_of_lt (Heap.lt_size e)) e;exact h pins _ σ H xs _ Q I1 (by simpa using rv) hw
noncomputable def zwR (to ti:TE) (t:zvq):TG:=fun v σ H Q=>to σ H fun o H1=>ti σ H1 fun i H2=>t o i v H2 fun H3=>Q σ H3
theorem zsd{o i:Expr}{to ti:TE}{t:zvq}(ho:PE X o to) (hi:PE X i ti) (hs:zwq X t)
    (ha:∀v,assign (.Subscript o i pos) X.env v=(do
      let ov ←holding [v] (eval o X.env)
      let iv ←holding [v,ov] (eval i X.env)
      standAt pos
      holding [v,ov,iv] (setItem ov iv v)
      release [v,ov,iv] []):=by intro _;rfl):PG X (.Subscript o i pos) (zwR to ti t):=by
  intro pins s σ H v u Q I r h;rw [ha];refine wpAny_bind (wpAny_holding (thn (ho pins s σ H _ I h) fun ov s1 ⟨x,H1,I1,r1,q1⟩=>?_));refine wpAny_bind (wpAny_holding (thn (hi pins s1 σ H1 _ I1 q1) fun iv s2 ⟨y,H2,I2,r2,q2⟩=>?_));refine wpAny_bind (wpAny_standAt (wpAny_bind (wpAny_holding (thn (hs pins s2 σ H2 x y v ov iv u _ I2 r1 r2 r q2) fun _ s3 ⟨H3,I3,q3⟩=>?_))));exact wpAny_release ⟨σ,H3,I3,q3⟩
noncomputable def zuS (te:TE) (g:TG):TS:=fun D σ H=>te σ H fun x H1=>g x σ H1 D.nx
theorem zse{tg e:Expr}{te:TE}{g:TG}(he:PE X e te) (hg:PG X tg g) (hs:swapsWithSole [tg] e pos.line X.env=pure false:=by rfl) (hw:swappedStores [tg] e X.env=pure none:=by rfl)
  (h1:(assignEach [tg] X.env).map (·.2)=[assign tg X.env]:=by rfl):PS X (.Assign [tg] e pos) (zuS te g):=by
 intro pins s σ H D I h;refine wpAny_Assign_stores (thn (he pins s σ H _ I h) fun v s1 ⟨x,H1,I1,r1,q1⟩=>?_) hs hw;rw [h1];exact thn (hg pins s1 σ H1 x v _ I1 r1 q1) fun _ s2 q=>q
theorem zpO{i:Nat}{x:Str}{e:Expr}{te:TE}{pos':Pos}(hN:X.N.Nodup) (hi:X.N[i]? =some x) (hx:Loc X.env.scope x) (he:PE X e te) (hs:swapsWith e (some (.Name x pos')) pos.line X.env=pure false:=by rfl) (hf:X.fn x=true∨X.env.scope.names.lookup x=some .local:=by first |exact .inl rfl |exact .inr rfl |assumption) :
  PS X (.Assign [.Name x pos'] e pos) (zuS te (zrC i)):=by
 intro pins s σ H D I h;refine wpAny_Assign_Name (thn (he pins s σ H _ I h) fun v s1 ⟨y,H1,I1,r1,q1⟩=>?_) hs;exact zfk I1 hN hi hx r1 (fun s2 I2=>⟨_,H1,I2,q1⟩) hf
noncomputable def zwU (i:Nat) (te:TE) (ti:TIp):TS:=fun D σ H=>∃x,σ[i]? =some (some x)∧te σ H fun y H1=>ti x y H1 fun z H2=>D.nx (σ.set i (some z)) H2
theorem zsZ{i:Nat}{x:Str}{e:Expr}{te:TE}{op:Operator}{ti:TIp}{pos':Pos}(hN:X.N.Nodup) (hi:X.N[i]? =some x) (hx:Loc X.env.scope x) (he:PE X e te) (ho:PIp X op ti) (hf:X.fn x=true∨X.env.scope.names.lookup x=some .local:=by first |exact .inl rfl |exact .inr rfl |assumption) :
  PS X (.AugAssign (.Name x pos') op e pos) (zwU i te ti):=by
 intro pins s σ H D I h;obtain⟨v,e1,h⟩:=h;obtain⟨m,hn,hl⟩:=I.loc;have vis:Vis X.env.scope x:=by rcases hx with k |k;exact .inl k;exact .inr (.inl k)
 obtain⟨u,r,l⟩:=hl i x v hi e1 vis;refine wpAny_AugAssign_Name ?_;have go:wpAny (model X.prog X.w) X.A (eval e X.env) (fun w s₂=>wpAny (model X.prog X.w) X.A (inplaceOp op u w) (fun r s₃=>wpAny (model X.prog X.w) X.A (storeName X.env x r) (fun _=>SP X pins D .next) X.xe s₃) X.xe s₂) X.xe s:=by
  refine thn (he pins s σ H _ I h) fun w s1 ⟨y,H1,I1,r1,q1⟩=>?_;refine thn (ho pins s1 σ H1 v y u w _ I1 r r1 q1) fun z s2 ⟨zv,H2,I2,r2,q2⟩=>?_;exact zfk I2 hN hi hx r2 (fun s3 I3=>⟨_,H2,I3,q2⟩) hf
 rcases l with⟨hk,hm⟩ |⟨hk,c,hc,hcell⟩
 ·exact wpAny_loadName_local I.ok.kind hk hn hm go
 ·rcases hk with hk |hk
  ·exact wpAny_loadName_cell I.ok.kind hk hc hcell go
  ·rcases hx with k |k
   ·have:X.env.scope.names.lookup x=some .free:=hk;rw [k]at this;cases this
   ·have:X.env.scope.names.lookup x=some .free:=hk;rw [k]at this;cases this
noncomputable def ipI (f:Int→Int→Int):TIp:=fun x y H Q=>∃i j,x= .int i∧y= .int j∧Q (.int (f i j)) H
theorem zsT:PIp X .Add (ipI fun i j=>i+j):=by
 intro pins s σ H x y v u Q I r1 r2 h;obtain⟨i,j,e1,e2,q⟩:=h;subst e1;subst e2;obtain⟨t,rfl⟩:=r1;obtain⟨t',rfl⟩:=r2;exact iadd_int ⟨.int _,H,I.tok _,⟨_,rfl⟩,q⟩
end
section
variable {X:Cx}{pos:Pos}
noncomputable def zsD (c:TT) (tb:TS):TS:=fun D σ H=>∃W:Nat→St→Hp→Prop,(∃m,W m σ H)∧ ∀m σ H,W m σ H→
 c σ H fun b H1=>if b=true then ∃N:St→Hp→Prop,(∀σ' H',N σ' H'→ ∃m',m'<m∧W m' σ' H')∧tb { D with nx:=N,ct:=N,bk:=D.nx } σ H1 else D.nx σ H1
theorem znV{c:Expr}{body:List Stmt}{tc:TT}{tb:TS}(hp:PassesOwn (model X.prog X.w) X.A X.env X.xe) (hc:PT X c tc) (hb:PSs X body tb):PS X (.While c body [] pos) (zsD tc tb):=by
 intro pins s σ H D I h;obtain⟨W,⟨m0,w0⟩,turn⟩:=h;refine wpAny_While (codeAny_whileLoop (fun n s'=>∃σ' H',Inv X pins σ' H' s'∧W n σ' H') ?_ m0 ⟨σ,H,I,w0⟩);rintro n s1 ⟨σ1,H1,I1,w1⟩;refine wpAny_passesOwn hp (thn (hc pins s1 σ1 H1 _ I1 (turn n σ1 H1 w1)) fun b s2 ⟨H2,I2,q2⟩=>?_);cases b with
 |true=>
  obtain⟨N,hN,q2⟩:=q2;rw [if_pos rfl];refine wpAny_passesOwn hp (thn (hb pins s2 σ1 H2 _ I2 q2) fun f s3 q3=>?_);cases f with
  |next=>
   obtain⟨σ3,H3,I3,n3⟩:=q3;obtain⟨m',hm,w3⟩:=hN σ3 H3 n3;exact⟨m',hm,σ3,H3,I3,w3⟩
  |cont=>
   obtain⟨σ3,H3,I3,n3⟩:=q3;obtain⟨m',hm,w3⟩:=hN σ3 H3 n3;exact⟨m',hm,σ3,H3,I3,w3⟩
  |brk=>exact q3
  |ret v=>exact q3
 |false=>
  rw [if_neg Bool.false_ne_true];exact wpAny_execs_nil ⟨σ1,H2,I2,q2⟩
end
structure It where
  go:Nat→Hp→Prop
  yld:Nat→Hp→V→Hp→Prop
  stop:Nat→Hp→Prop
noncomputable def zhi (X:Cx) (pins:List (Addr×Obj)) (H:Hp) (b:Addr):Prop:=
 H b=none∧b≠X.env.locals∧b∉X.fs∧(b∈X.ex∨X.s₀.heap.objs.size≤b)∧(∀x c,X.env.cells.lookup x=some c→c≠b)∧ ∀p∈X.pn++pins,p.1≠b
theorem Inv.fpOk{X:Cx}{pins:List (Addr×Obj)}{σ:St}{H H':Hp}{s:Shared}{b:Addr}(I:Inv X pins σ H s) (hb:s.heap.objs.size≤b) (hn:H' b=none):zhi X pins H' b:=by
 refine⟨hn,Nat.ne_of_gt (Nat.lt_of_lt_of_le I.lt hb),I.nofs hb, .inr (Nat.le_trans I.sz hb),fun x c e z=>?_,fun p hp z=>?_⟩
 ·obtain⟨v,q⟩:=I.cell x c e;exact absurd (Nat.lt_of_lt_of_le q.lt (by rw [z];exact hb)) (Nat.lt_irrefl _)
 ·exact absurd (Nat.lt_of_lt_of_le (Heap.lt_size (I.pin p hp).1) (by rw [z];exact hb)) (Nat.lt_irrefl _)
structure Turn (P:Program) (w:World) (K:PySem.W.Frag) (tg:Expr) (J:It) (fp:List Addr) (it:Addr) (tn:Nat→Heap→Prop):Prop where
  mem:it∈fp
  obj:∀i h,tn i h→ ∀b∈fp,∃o,h.get? b=some o∧ ∀v,o.data≠ .cell v
  keep:∀i h h',tn i h→(∀b∈fp,∀o,h.get? b=some o→h'.get? b=some o)→tn i h'
  item:∀(X:Cx),X.prog=P→X.w=w→X.K=K→X.calm=true→ ∀(i:Nat) (pins:List (Addr×Obj)) (s:Shared) (σ:St) (H:Hp) (E:Value→Shared→Prop),Inv X pins σ H s→(∀b∈fp,zhi X pins H b)→tn i s.heap→J.go i H→
    wpAny (model P w) X.A (pyNext (.ref it)) (fun r s1=>∃u,r=some u∧
      wpAny (model P w) X.A (letOwnedTupleGo tg (.ref it) u) (fun _ s2=>∃x H',Inv X pins σ H' s2∧RelV x u∧J.yld i H x H'∧tn (i+1) s2.heap∧ ∀b∈fp,H' b=none) E s1) E s
  done:∀(X:Cx),X.prog=P→X.w=w→X.K=K→X.calm=true→ ∀(i:Nat) (pins:List (Addr×Obj)) (s:Shared) (σ:St) (H:Hp) (E:Value→Shared→Prop),Inv X pins σ H s→(∀b∈fp,zhi X pins H b)→tn i s.heap→J.stop i H→
    wpAny (model P w) X.A (pyNext (.ref it)) (fun r s1=>r=none∧Inv X pins σ H s1) E s
  self:∀(A:Around) (i:Nat) (s:Shared) (Q:Value→Shared→Prop) (E:Value→Shared→Prop),tn i s.heap→Q (.ref it) s→wpAny (model P w) A (pyIter (.ref it)) Q E s
noncomputable abbrev TI:=St→Hp→(It→Hp→Prop)→Prop
noncomputable def PIE (X:Cx) (pins:List (Addr×Obj)) (σ:St) (tg:Expr) (R:It→Hp→Prop) (itv:Value) (s2:Shared):Prop:=
 ∃(it:Addr) (fp:List Addr) (tn:Nat→Heap→Prop) (J:It) (H':Hp),itv= .ref it∧Inv X pins σ H' s2∧Turn X.prog X.w X.K tg J fp it tn∧tn 0 s2.heap∧(∀b∈fp,zhi X pins H' b)∧R J H'
noncomputable def PI (X:Cx) (tg iter:Expr) (wi:TI):Prop:=
 ∀(pins:List (Addr×Obj)) (s:Shared) (σ:St) (H:Hp) (R:It→Hp→Prop),Inv X pins σ H s→wi σ H R→
  wpAny (model X.prog X.w) X.A (eval iter X.env) (fun v s1=>wpAny (model X.prog X.w) X.A (pyIter v) (PIE X pins σ tg R) X.xe s1) X.xe s
theorem zlM{M:Model}{A:Around}{E:Value→Shared→Prop}{s:Shared}{tg:Expr}{it:Addr}{u:Value}{o:Obj}{n:String}{vs:Array Value}{Q:Unit→Shared→Prop}(ho:s.heap.get? it=some o) (hc:o.cls= .type n) (hd:o.data= .fields vs)
    (hn: ["enumerate", "zip", "dict_itemiterator", "dict_reverseitemiterator", "odict_iterator", "itertools.zip_longest", "itertools.pairwise"].contains n=false) (hQ:Q () s):wpAny M A (letOwnedTupleGo tg (.ref it) u) Q E s:=by
  unfold letOwnedTupleGo;cases tg<;>first
    |exact wpAny_pure hQ
    | (cases u<;>first
        |exact wpAny_pure hQ
        | (refine wpAny_bind (wpAny_load ho ?_)
           rw [hc,hd];show wpAny M A (if(["enumerate", "zip", "dict_itemiterator", "dict_reverseitemiterator", "odict_iterator", "itertools.zip_longest", "itertools.pairwise"].contains n&&vs[0]? == some (rawInt _))=true then _ else _) Q E s;rw [if_neg (by intro h;rw [hn,Bool.false_and]at h;cases h)];exact wpAny_pure hQ))
noncomputable def Itl (K:PySem.W.Frag) (a:Addr):It:=
 ⟨fun i H=>∃xs x,SqL K H a xs∧xs[i]? =some x,fun i H x H'=>H'=H∧ ∀xs,SqL K H a xs→xs[i]? =some x,fun i H=>∃xs,SqL K H a xs∧xs.length≤i⟩
noncomputable def Itt (K:PySem.W.Frag) (a:Addr):It:=
 ⟨fun i H=>∃xs x,SqT K H a xs∧xs[i]? =some x,fun i H x H'=>H'=H∧ ∀xs,SqT K H a xs→xs[i]? =some x,fun i H=>∃xs,SqT K H a xs∧xs.length≤i⟩
noncomputable def Itr (lo:Int) (n:Nat):It:=⟨fun i _=>i<n,fun i H x H'=>H'=H∧x= .int (lo+i),fun i _=>n≤i⟩
theorem zmx{P:Program}{w:World}{K:PySem.W.Frag}{tg:Expr}(a it:Addr):Turn P w K tg (Itl K a) [it] it (fun i h=>h.IsListIter it a i) where
  mem:=by simp
  obj:=fun i h st b hb=>by
    have e:b=it:=by simpa using hb
    subst e;obtain⟨o,e,c,d⟩:=st;exact⟨o,e,fun v z=>by rw [d]at z;cases z⟩
  keep:=fun i h h' st k=>st.at fun o e=>k it (by simp) o e
  item:=by
    intro X hP hw hK hc i pins s σ H E I hf st hg;subst hP hw hK;obtain⟨xs,x,hq,hx⟩:=hg;obtain⟨its,rv,p,hz⟩:=I.list hq;obtain⟨u,hu,ru⟩:=rv.get hx;obtain⟨f0,f1,f2,f3,f4,f5⟩:=hf it (by simp);refine wpAny_pyNext_list_item st p.isList (x:=u) (by simpa using hu) fun h' st' sb=>?_;have I1:Inv X pins σ H { s with heap:=h' }:=I.turned (t':=s.toks) (fun b o hb e=>(sb.2 b hb).trans e) f0 f1 f3 f4 f5;obtain⟨o,e,c,d⟩:=id st';exact⟨u,rfl,zlM (s:={ s with heap:=h' }) e c d (by decide) ⟨x,H,I1,ru,⟨rfl,fun ys hy=>by rw [I.list_inj hy hq];exact hx⟩,st',fun b hb=>(hf b hb).1⟩⟩
  done:=by
    intro X hP hw hK hc i pins s σ H E I hf st hg;subst hP hw hK;obtain⟨xs,hq,hx⟩:=hg;obtain⟨its,rv,p,hz⟩:=I.list hq;obtain⟨f0,f1,f2,f3,f4,f5⟩:=hf it (by simp);have hl:=rv.length;exact wpAny_pyNext_list_end (I.ok.hd hc) st p.isList (by simp;omega) fun h' eb=>⟨rfl,I.turned (t':=s.toks) (fun b o hb e=>eb b o hb e) f0 f1 f3 f4 f5⟩
  self:=fun _ _ _ _ _ st h=>wpAny_pyIter_listiter st h
theorem zkX{P:Program}{w:World}{K:PySem.W.Frag}{tg:Expr}(a it:Addr):Turn P w K tg (Itt K a) [it] it (fun i h=>h.IsTupleIter it a i) where
  mem:=by simp
  obj:=fun i h st b hb=>by
    have e:b=it:=by simpa using hb
    subst e;obtain⟨o,e,c,d⟩:=st;exact⟨o,e,fun v z=>by rw [d]at z;cases z⟩
  keep:=fun i h h' st k=>st.at fun o e=>k it (by simp) o e
  item:=by
    intro X hP hw hK hc i pins s σ H E I hf st hg;subst hP hw hK;obtain⟨xs,x,hq,hx⟩:=hg;obtain⟨its,rv,p,hz⟩:=I.tuple hq;obtain⟨u,hu,ru⟩:=rv.get hx;obtain⟨f0,f1,f2,f3,f4,f5⟩:=hf it (by simp);refine wpAny_pyNext_tuple_item st (show s.heap.IsTuple a its.toArray from p) (x:=u) (by simpa using hu) fun h' st' sb=>?_;have I1:Inv X pins σ H { s with heap:=h' }:=I.turned (t':=s.toks) (fun b o hb e=>(sb.2 b hb).trans e) f0 f1 f3 f4 f5;obtain⟨o,e,c,d⟩:=id st';exact⟨u,rfl,zlM (s:={ s with heap:=h' }) e c d (by decide) ⟨x,H,I1,ru,⟨rfl,fun ys hy=>by rw [I.tuple_inj hy hq];exact hx⟩,st',fun b hb=>(hf b hb).1⟩⟩
  done:=by
    intro X hP hw hK hc i pins s σ H E I hf st hg;subst hP hw hK;obtain⟨xs,hq,hx⟩:=hg;obtain⟨its,rv,p,hz⟩:=I.tuple hq;obtain⟨f0,f1,f2,f3,f4,f5⟩:=hf it (by simp);have hl:=rv.length;exact wpAny_pyNext_tuple_end (I.ok.hd hc) st (show s.heap.IsTuple a its.toArray from p) (by simp;omega) fun h' eb=>⟨rfl,I.turned (t':=s.toks) (fun b o hb e=>eb b o hb e) f0 f1 f3 f4 f5⟩
  self:=fun _ _ _ _ _ st h=>wpAny_pyIter_tupleiter st h
theorem zkV{P:Program}{w:World}{K:PySem.W.Frag}{tg:Expr}(it:Addr) (lo:Int) (n:Nat):Turn P w K tg (Itr lo n) [it] it (fun i h=>IsRangeIter h it (lo+(i:Nat)*1) ((n:Int) - (i:Nat)) 1) where
  mem:=by simp
  obj:=fun i h st b hb=>by
    have e:b=it:=by simpa using hb
    subst e;exact⟨_,st,fun v z=>by
      have z':Data.fields _=Data.cell v:=z;cases z'⟩
  keep:=fun i h h' st k=>k it (by simp) _ st
  item:=by
    intro X hP hw hK hc i pins s σ H E I hf st hg;subst hP hw hK;obtain⟨f0,f1,f2,f3,f4,f5⟩:=hf it (by simp);have W:=Walks.range (prog:=X.prog) (w:=X.w) (I.ok.hd hc) it lo 1 n;refine W.item i s _ _ hg st fun v h' tk hv st' kk=>?_;obtain⟨t,rfl⟩:=hv;have I1:Inv X pins σ H { s with heap:=h',toks:=tk }:=I.turned (fun b o hb e=>kk b o (by simpa using hb) e) f0 f1 f3 f4 f5;refine⟨_,rfl,zlM (s:={ s with heap:=h',toks:=tk }) (n:= "range_iterator") st' rfl rfl (by decide) ⟨.int (lo+i),H,I1,⟨t,?_⟩,⟨rfl,rfl⟩,st',fun b hb=>(hf b hb).1⟩⟩;rw [Int.mul_one]
  done:=by
    intro X hP hw hK hc i pins s σ H E I hf st hg;subst hP hw hK;obtain⟨f0,f1,f2,f3,f4,f5⟩:=hf it (by simp);exact wpAny_pyNext_range_end (I.ok.hd hc) st (by have:n≤i:=hg;omega) fun h' eb=>⟨rfl,I.turned (t':=s.toks) (fun b o hb e=>eb b o hb e) f0 f1 f3 f4 f5⟩
  self:=fun _ _ _ _ _ st h=>wpAny_pyIter_rangeiter st h
section
variable {X:Cx}{tg:Expr}
theorem zoB{pins:List (Addr×Obj)}{σ:St}{H:Hp}{s:Shared}{R:It→Hp→Prop}{E:Value→Shared→Prop}{lo hi:Int}{t u v:Tok}{tk:Nat}(I:Inv X pins σ H s) (h1: -(2 ^ 62)≤lo) (h2:lo<2 ^ 62) (h3: -(2 ^ 62)≤hi) (h4:hi<2 ^ 62)
  (q:R (Itr lo (hi - lo).toNat) H):wpAny (model X.prog X.w) X.A (pyIter (.ref s.heap.objs.size)) (PIE X pins σ tg R) E { s with heap:=s.heap.push { cls:= .type "range",data:= .fields #[.int lo t, .int hi u, .int 1 v] },toks:=tk }:=by
 refine wpAny_pyIter_range (IsRange.new ..) (small_one h1 h2 h3 h4) ?_;have I1:Inv X pins σ H { s with heap:=s.heap.push { cls:= .type "range",data:= .fields #[.int lo t, .int hi u, .int 1 v] },toks:=tk }:=I.kept fun b o e=>Heap.get?_push_of_some _ e;refine⟨(s.heap.push { cls:= .type "range",data:= .fields #[.int lo t, .int hi u, .int 1 v] }).objs.size,[(s.heap.push { cls:= .type "range",data:= .fields #[.int lo t, .int hi u, .int 1 v] }).objs.size],_,_,H,rfl,
  I1.kept (t':=tk) fun b o e=>Heap.get?_push_of_some _ e,zkV _ lo (hi - lo).toNat,?_,fun b hb=>?_,q⟩
 ·have e1:lo+((0:Nat):Int)*1=lo:=by simp
  have e2:(((hi - lo).toNat:Nat):Int) - ((0:Nat):Int)=Builtin.Range.rangeSize lo hi 1:=by rw [rangeSize_one];split<;>omega
  show IsRangeIter _ _ (lo+((0:Nat):Int)*1) ((((hi - lo).toNat:Nat):Int) - ((0:Nat):Int)) 1;rw [e1,e2];exact Heap.get?_push_size _ rfl
 ·have e:b=(s.heap.push { cls:= .type "range",data:= .fields #[.int lo t, .int hi u, .int 1 v] }).objs.size:=by simpa using hb
  subst e;exact I1.fpOk (Nat.le_refl _) (I1.hok.fresh (Nat.le_refl _))
noncomputable def zuP (ta:TA):TI:=fun σ H R=>ta σ H fun vs H1=>∃j:Int,vs=[.int j]∧ -(2 ^ 62)≤j∧j<2 ^ 62∧R (Itr 0 j.toNat) H1
theorem zmK{a:Expr}{ta:TA}{p pos:Pos}(hg:Gl X "range") (hm:X.mg "range" =none) (ha:PA X [a] ta) (hs:starEach [a] X.env=[(false,eval a X.env)]:=by rfl):PI X tg (.Call (.Name "range" p) [a] [] pos) (zuP ta):=by
 intro pins s σ H R I h;refine Call_ (zdJ I hg hm boot_range (PyProof.Rows.callWith_type1 (thn (ha pos pins s σ H _ I h) fun us s1 ⟨vs,H1,I1,r1,q1⟩=>?_) hs rfl));obtain⟨j,e,q1,q2,q⟩:=q1;subst e;cases r1 with
 |cons r rr=>
  cases rr;obtain⟨t,rfl⟩:=r;exact call_range_1 (zoB I1 (by omega) (by omega) q1 q2 (by simpa using q))
noncomputable def zxg (wi:TI) (g:TG) (tb:TS):TS:=fun D σ H=>wi σ H fun J H1=>∃W:Nat→Nat→St→Hp→Prop,(∃m,W 0 m σ H1)∧ ∀i m σ H,W i m σ H→
 (J.stop i H∧D.nx σ H)∨(J.go i H∧ ∃N:St→Hp→Prop,(∀σ' H',N σ' H'→ ∃m',m'<m∧W (i+1) m' σ' H')∧ ∀x H',J.yld i H x H'→g x σ H' fun σ2 H2=>tb { D with nx:=N,ct:=N,bk:=D.nx } σ2 H2)
noncomputable def ziC (fp:List Addr) (h:Heap):List (Addr×Obj):=fp.filterMap fun b=>(h.get? b).map fun o=>(b,o)
theorem zdT{fp:List Addr}{h:Heap}{b:Addr}{o:Obj}(hb:b∈fp) (e:h.get? b=some o):(b,o)∈ziC fp h:=List.mem_filterMap.mpr ⟨b,hb,by rw [e];rfl⟩
theorem zlH{fp:List Addr}{h:Heap}{p:Addr×Obj}(hp:p∈ziC fp h):p.1∈fp∧h.get? p.1=some p.2:=by
 obtain⟨b,hb,e⟩:=List.mem_filterMap.mp hp;cases q:h.get? b with
 |none=>rw [q]at e;cases e
 |some o=>
  rw [q]at e;have e':(b,o)=p:=Option.some.inj e;subst e';exact⟨hb,q⟩
theorem Inv.pinned{pins:List (Addr×Obj)}{σ:St}{H:Hp}{s:Shared}{fp:List Addr}(I:Inv X pins σ H s) (hf:∀b∈fp,zhi X pins H b) (ho:∀b∈fp,∃o,s.heap.get? b=some o∧ ∀v,o.data≠ .cell v):Inv X (pins++ziC fp s.heap) σ H s:=
 I.pins_of fun p hp=>(List.mem_append.mp hp).elim (fun z=>I.pin p (List.mem_append_right _ z)) fun z=>by
  obtain⟨hb,e⟩:=zlH z;obtain⟨f0,f1,f2,_⟩:=hf p.1 hb;obtain⟨o,e',d⟩:=ho p.1 hb;rw [e]at e';cases e';exact⟨e,f0,f1,f2,d⟩
theorem Inv.unpinned{pins pl:List (Addr×Obj)}{σ:St}{H:Hp}{s:Shared}(I:Inv X (pins++pl) σ H s):Inv X pins σ H s:=I.pins_of fun p hp=>I.pin p (List.mem_append_right _ (List.mem_append_left _ hp))
theorem zul{iter:Expr}{body:List Stmt}{wi:TI}{g:TG}{tb:TS}{pos:Pos}(hp:PassesOwn (model X.prog X.w) X.A X.env X.xe) (hc:X.calm=true) (hi:PI X tg iter wi) (hg:PG X tg g) (hb:PSs X body tb)
  (hs:∀x,foldedSetIterable iter X.env x=pure x:=by intro _;rfl):PS X (.For tg iter body [] pos) (zxg wi g tb):=by
 intro pins s σ H D I h;refine wpAny_For (thn (hi pins s σ H _ I h) fun v s1 h1=>thn h1 fun itv s2 h2=>?_) hs;obtain⟨it,fp,tn,J,H2,e,I2,T,st2,f2,W,⟨m0,w0⟩,turn⟩:=h2;subst e;have stat:∀{H':Hp},(∀b∈fp,H' b=none)→ ∀b∈fp,zhi X pins H' b:=fun hn b hb=>⟨hn b hb,(f2 b hb).2⟩;refine codeAny_forLoop_any (fun n s'=>∃i σ' H',Inv X pins σ' H' s'∧tn i s'.heap∧(∀b∈fp,H' b=none)∧W i n σ' H') ?_ m0 ⟨0,σ,H2,I2,st2,fun b hb=>(f2 b hb).1,w0⟩;rintro n s3 ⟨i,σ3,H3,I3,st3,fr3,w3⟩;rcases turn i n σ3 H3 w3 with⟨stop,qn⟩ |⟨go,N,hN,step⟩
 ·refine wpAny_passesOwn hp (thn (T.done X rfl rfl rfl hc i pins s3 σ3 H3 X.xe I3 (stat fr3) st3 stop) fun r s4 ⟨hr,I4⟩=>?_);subst hr;exact wpAny_execs_nil ⟨σ3,H3,I4,qn⟩
 ·refine wpAny_passesOwn hp (thn (T.item X rfl rfl rfl hc i pins s3 σ3 H3 X.xe I3 (stat fr3) st3 go) fun r s4 ⟨u,hr,h4⟩=>?_);subst hr;refine wpAny_passesOwn hp (thn h4 fun _ s5 ⟨x,H5,I5,r5,y5,st5,fr5⟩=>?_);have I5':=I5.pinned (stat fr5) (T.obj _ _ st5);refine wpAny_passesOwn hp (thn (hg _ s5 σ3 H5 x u _ I5' r5 (step x H5 y5)) fun _ s6 ⟨σ6,H6,I6,q6⟩=>?_);refine wpAny_passesOwn hp (thn (hb _ s6 σ6 H6 _ I6 q6) fun f s7 q7=>?_);have again:∀{σ7:St}{H7:Hp},Inv X (pins++ziC fp s5.heap) σ7 H7 s7→N σ7 H7→ ∃m,m<n∧ ∃i σ' H',Inv X pins σ' H' s7∧tn i s7.heap∧(∀b∈fp,H' b=none)∧W i m σ' H':=fun {σ7 H7} I7 n7=>by
   obtain⟨m',hm,w7⟩:=hN σ7 H7 n7;refine⟨m',hm,i+1,σ7,H7,I7.unpinned,T.keep _ _ _ st5 fun b hb o e=>(I7.pin (b,o) (List.mem_append_right _ (List.mem_append_right _ (zdT hb e)))).1,fun b hb=>?_,w7⟩;obtain⟨o,e,d⟩:=T.obj _ _ st5 b hb;exact(I7.pin (b,o) (List.mem_append_right _ (List.mem_append_right _ (zdT hb e)))).2.1
  cases f with
  |next=>obtain⟨σ7,H7,I7,n7⟩:=q7;exact again I7 n7
  |cont=>obtain⟨σ7,H7,I7,n7⟩:=q7;exact again I7 n7
  |brk=>obtain⟨σ7,H7,I7,q7⟩:=q7;exact⟨σ7,H7,I7.unpinned,q7⟩
  |ret v=>obtain⟨x7,σ7,H7,I7,r7,q7⟩:=q7;exact⟨x7,σ7,H7,I7.unpinned,r7,q7⟩
end
noncomputable abbrev R2:=V→V→Hp→VK→Prop
noncomputable def OpR (X:Cx) (f:Value→Value→Sem Value) (r:R2):Prop:=
 ∀(pins:List (Addr×Obj)) (s:Shared) (σ:St) (H:Hp) (x y:V) (v u:Value) (Q:VK),Inv X pins σ H s→RelV x v→RelV y u→r x y H Q→
  wpAny (model X.prog X.w) X.A (f v u) (EP X pins σ Q) X.xe s
noncomputable def UnR (X:Cx) (f:Value→Sem Value) (r:V→Hp→VK→Prop):Prop:=
 ∀(pins:List (Addr×Obj)) (s:Shared) (σ:St) (H:Hp) (x:V) (v:Value) (Q:VK),Inv X pins σ H s→RelV x v→r x H Q→
  wpAny (model X.prog X.w) X.A (f v) (EP X pins σ Q) X.xe s
noncomputable def CallR (X:Cx) (f:Value) (r:List V→Hp→VK→Prop):Prop:=
 ∀(pins:List (Addr×Obj)) (s:Shared) (σ:St) (H:Hp) (xs:List V) (us:List Value) (Q:VK),Inv X pins σ H s→Vals xs us→r xs H Q→
  wpAny (model X.prog X.w) X.A (call f us) (EP X pins σ Q) X.xe s
noncomputable def zxe (X:Cx) (r:V→Hp→(Bool→Hp→Prop)→Prop):Prop:=
 ∀(pins:List (Addr×Obj)) (s:Shared) (σ:St) (H:Hp) (x:V) (v:Value) (Q:Bool→Hp→Prop),Inv X pins σ H s→RelV x v→r x H Q→
  wpAny (model X.prog X.w) X.A (truthy v) (TP X pins σ Q) X.xe s
noncomputable def tOp (r:R2) (ta tb:TE):TE:=fun σ H Q=>ta σ H fun x H1=>tb σ H1 fun y H2=>r x y H2 Q
noncomputable def tUn (r:V→Hp→VK→Prop) (ta:TE):TE:=fun σ H Q=>ta σ H fun x H1=>r x H1 Q
noncomputable def rI (C:Int→Int→Prop) (g:Int→Int→V):R2:=fun x y H Q=>∃i j,x= .int i∧y= .int j∧C i j∧Q (g i j) H
noncomputable def rI0 (g:Int→Int→V):R2:=fun x y H Q=>∃i j,x= .int i∧y= .int j∧Q (g i j) H
noncomputable def rU (g:Int→V):V→Hp→VK→Prop:=fun x H Q=>∃i,x= .int i∧Q (g i) H
section
variable {X:Cx}{a b:Expr}{ta tb:TE}{pos:Pos}
theorem zvo (ha:PE X a ta) (hb:PE X b tb) {pins:List (Addr×Obj)}{s:Shared}{σ:St}{H:Hp}{R:V→V→Hp→Prop}(I:Inv X pins σ H s)
  (h:ta σ H fun x H1=>tb σ H1 fun y H2=>R x y H2) {Q:Value→Shared→Prop}{f:Value→Value→Sem Value}
  (hf:∀v u s2 x y H2,Inv X pins σ H2 s2→RelV x v→RelV y u→R x y H2→wpAny (model X.prog X.w) X.A (f v u) Q X.xe s2) :
  wpAny (model X.prog X.w) X.A (eval a X.env) (fun v s₁=>wpAny (model X.prog X.w) X.A (eval b X.env) (fun u s₂=>wpAny (model X.prog X.w) X.A (f v u) Q X.xe s₂) X.xe s₁) X.xe s:=by
 refine thn (ha pins s σ H _ I h) fun v s1 ⟨x,H1,I1,r1,q1⟩=>?_;refine thn (hb pins s1 σ H1 _ I1 q1) fun u s2 ⟨y,H2,I2,r2,q2⟩=>?_;exact hf v u s2 x y H2 I2 r1 r2 q2
theorem zom{op:Operator}{r:R2}(ho:OpR X (binaryOp op) r) (ha:PE X a ta) (hb:PE X b tb):PE X (.BinOp a op b pos) (tOp r ta tb):=by
 intro pins s σ H Q I h;exact wpAny_BinOp (zvo ha hb I h fun v u s2 x y H2 I2 rx ry q=>ho pins s2 σ H2 x y v u Q I2 rx ry q)
theorem zvv{op:UnaryOp}{r:V→Hp→VK→Prop}(ho:UnR X (unaryOp op) r) (ha:PE X a ta):PE X (.UnaryOp op a pos) (tUn r ta):=by
 intro pins s σ H Q I h;exact UnaryOp_ (thn (ha pins s σ H _ I h) fun v s1 ⟨x,H1,I1,r1,q1⟩=>ho pins s1 σ H1 x v Q I1 r1 q1)
theorem opI{f:Value→Value→Sem Value}{C:Int→Int→Prop}{g:Int→Int→Int}
  (rule:∀(i j:Int) (t u:Tok) (s:Shared) (Q:Value→Shared→Prop) (E:Value→Shared→Prop),C i j→Q (.int (g i j) s.toks) { s with toks:=s.toks+1 }→wpAny (model X.prog X.w) X.A (f (.int i t) (.int j u)) Q E s) :
  OpR X f (rI C fun i j=> .int (g i j)):=by
 intro pins s σ H x y v u Q I rx ry h;obtain⟨i,j,rfl,rfl,hc,q⟩:=h;obtain⟨t,rfl⟩:=rx;obtain⟨t',rfl⟩:=ry;exact rule i j t t' s _ _ hc ⟨.int (g i j),H,I.tok _,⟨_,rfl⟩,q⟩
theorem zwp{f:Value→Value→Sem Value}{g:Int→Int→Int}
  (rule:∀(i j:Int) (t u:Tok) (s:Shared) (Q:Value→Shared→Prop) (E:Value→Shared→Prop),Q (.int (g i j) s.toks) { s with toks:=s.toks+1 }→wpAny (model X.prog X.w) X.A (f (.int i t) (.int j u)) Q E s) :
  OpR X f (rI0 fun i j=> .int (g i j)):=by
 intro pins s σ H x y v u Q I rx ry h;obtain⟨i,j,rfl,rfl,q⟩:=h;obtain⟨t,rfl⟩:=rx;obtain⟨t',rfl⟩:=ry;exact rule i j t t' s _ _ ⟨.int (g i j),H,I.tok _,⟨_,rfl⟩,q⟩
theorem zuG{f:Value→Value→Sem Value}{g:Int→Int→Bool}
  (rule:∀(i j:Int) (t u:Tok) (s:Shared) (Q:Value→Shared→Prop) (E:Value→Shared→Prop),Q (.bool (g i j)) s→wpAny (model X.prog X.w) X.A (f (.int i t) (.int j u)) Q E s) :
  OpR X f (rI0 fun i j=> .bl (g i j)):=by
 intro pins s σ H x y v u Q I rx ry h;obtain⟨i,j,rfl,rfl,q⟩:=h;obtain⟨t,rfl⟩:=rx;obtain⟨t',rfl⟩:=ry;exact rule i j t t' s _ _ ⟨.bl (g i j),H,I,rfl,q⟩
noncomputable def ziG (i j:Int):Prop:=0<j∧j<1073741824
noncomputable def zsY (i j:Int):Prop:=0≤j∧j≤1000000∧i.natAbs<2 ^ 64
noncomputable def CMul (i j:Int):Prop:=(-(2 ^ 64)<i∧i<2 ^ 64)∨(-(2 ^ 64)<j∧j<2 ^ 64)
theorem CMul.ok{i j:Int}(h:CMul i j):IntMulOk i j:=by
 rcases h with⟨h1,h2⟩ |⟨h1,h2⟩
 ·exact .of_left (intBits_le_64 h1 h2)
 ·exact .of_right (intBits_le_64 h1 h2)
theorem op_add:OpR X (binaryOp .Add) (rI0 fun i j=> .int (i+j)):=zwp fun _ _ _ _ _ _ _ q=>add_int q
theorem ztK:OpR X (binaryOp .Sub) (rI0 fun i j=> .int (i - j)):=zwp fun _ _ _ _ _ _ _ q=>sub_int q
theorem zsW:OpR X (binaryOp .Mult) (rI CMul fun i j=> .int (i*j)):=opI fun _ _ _ _ _ _ _ hc q=>mul_int q hc.ok
theorem zrn:OpR X (binaryOp .FloorDiv) (rI ziG fun i j=> .int (i / j)):=opI fun i j _ _ _ _ _ hc q=>by
 have h1:(0:Int)<j:=hc.1;have h2:j<1073741824:=hc.2;exact floordiv_int (by omega) (by rw [Int.fdiv_eq_ediv_of_nonneg i (by omega)];exact q) (.inl (PyProof.noPylong_small (by omega)))
theorem zsn:OpR X (binaryOp .Mod) (rI (fun _ j=>0<j) fun i j=> .int (i % j)):=opI fun i j _ _ _ _ _ hc q=>by
 have h1:(0:Int)<j:=hc;exact mod_int' (by omega) (by rw [Int.fmod_eq_emod_of_nonneg i (by omega)];exact q)
theorem ztF:OpR X (binaryOp .Pow) (rI zsY fun i j=> .int (i ^ j.toNat)):=opI fun _ _ _ _ _ _ _ hc q=>pow_int_small hc.1 hc.2.1 hc.2.2 q
theorem unI{f:Value→Sem Value}{g:Int→Int}
  (rule:∀(i:Int) (t:Tok) (s:Shared) (Q:Value→Shared→Prop) (E:Value→Shared→Prop),Q (.int (g i) s.toks) { s with toks:=s.toks+1 }→wpAny (model X.prog X.w) X.A (f (.int i t)) Q E s) :
  UnR X f (rU fun i=> .int (g i)):=by
 intro pins s σ H x v Q I rx h;obtain⟨i,rfl,q⟩:=h;obtain⟨t,rfl⟩:=rx;exact rule i t s _ _ ⟨.int (g i),H,I.tok _,⟨_,rfl⟩,q⟩
theorem zuw:UnR X (unaryOp .USub) (rU fun i=> .int (-i)):=unI fun _ _ _ _ _ q=>neg_int q
end
section
variable {X:Cx}{a b c:Expr}{ta tb tc:TE}{pos:Pos}
theorem zjB{pins:List (Addr×Obj)}{σ:St}{H:Hp}{s:Shared}{Q:VK}{k k':Bool}(I:Inv X pins σ H s) (q:Q (.bl k) H) (e:k=k'):EP X pins σ Q (.bool k') s:=by
 subst e;exact⟨.bl k,H,I,rfl,q⟩
theorem zun:OpR X (compareOp .Lt) (rI0 fun i j=> .bl (decide (i<j))):=zuG fun _ _ _ _ _ _ _ q=>lt_int q
theorem op_le:OpR X (compareOp .LtE) (rI0 fun i j=> .bl (decide (i≤j))):=zuG fun _ _ _ _ _ _ _ q=>le_int q
theorem ztX:OpR X (compareOp .Gt) (rI0 fun i j=> .bl (decide (j<i))):=zuG fun _ _ _ _ _ _ _ q=>gt_int q
theorem zvF:OpR X (compareOp .GtE) (rI0 fun i j=> .bl (decide (j≤i))):=zuG fun _ _ _ _ _ _ _ q=>ge_int q
theorem op_in_str:OpR X (compareOp .In) (fun x y H Q=>∃i j,x= .str i∧y= .str j∧Q (.bl (!(Builtin.Str.occurrences j i 0 j.length 1).isEmpty)) H):=by
 intro pins s σ H x y v u Q I rx ry h;obtain⟨i,j,rfl,rfl,q⟩:=h;obtain⟨t,rfl⟩:=rx;obtain⟨t',rfl⟩:=ry;exact in_str (zjB I q rfl)
theorem op_notN:OpR X (compareOp .IsNot) (fun x y H Q=>y= .non∧Q (.bl (!decide (x= .non))) H):=by
 intro pins s σ H x y v u Q I rx ry h;obtain⟨rfl,q⟩:=h;cases ry;refine isnot_none_gen (zjB I q ?_);cases x<;>first
  | (cases rx;rfl)
  | (obtain⟨t,rfl⟩:=rx;rfl)
theorem op_notin_str:OpR X (compareOp .NotIn) (fun x y H Q=>∃i j,x= .str i∧y= .str j∧Q (.bl (!(!(Builtin.Str.occurrences j i 0 j.length 1).isEmpty))) H):=by
 intro pins s σ H x y v u Q I rx ry h;obtain⟨i,j,rfl,rfl,q⟩:=h;obtain⟨t,rfl⟩:=rx;obtain⟨t',rfl⟩:=ry;exact notIn_str (zjB I q rfl)
theorem OpR.or{f:Value→Value→Sem Value}{r r':R2}(h:OpR X f r) (h':OpR X f r'):OpR X f (fun x y H Q=>r x y H Q∨r' x y H Q):=by
 intro pins s σ H x y v u Q I rx ry q;rcases q with q |q
 ·exact h pins s σ H x y v u Q I rx ry q
 ·exact h' pins s σ H x y v u Q I rx ry q
theorem nomark (b:Expr) {op:CmpOp}(h:op≠ .In:=by decide) (h2:op≠ .NotIn:=by decide):behindInMarks op b=false:=by
 have e1:(op == CmpOp.In)=false:=by cases op<;>first |rfl |exact absurd rfl h
 have e2:(op == CmpOp.NotIn)=false:=by cases op<;>first |rfl |exact absurd rfl h2
 cases b<;>simp [behindInMarks,e1,e2]
theorem zqw{op:CmpOp}{r:R2}(ho:OpR X (compareOp op) r) (ha:PE X a ta) (hb:PE X b tb) (hm:behindInMarks op b=false):PE X (.Compare a [op] [b] pos) (tOp r ta tb):=by
 intro pins s σ H Q I h;exact wpAny_Compare1 (zvo ha hb I h fun v u s2 x y H2 I2 rx ry q=>ho pins s2 σ H2 x y v u Q I2 rx ry q) hm
noncomputable def zvL (t:TE):TT:=fun σ H Q=>t σ H fun x H'=>∃k,x= .bl k∧Q k H'
theorem zqF{op:CmpOp}{r:R2}(ho:OpR X (compareOp op) r) (ha:PE X a ta) (hb:PE X b tb) (hm:behindInMarks op b=false):PT X (.Compare a [op] [b] pos) (zvL (tOp r ta tb)):=by
 intro pins s σ H Q I h;refine wpAny_isTrue_Compare1 (thn (ha pins s σ H _ I h) fun v s1 ⟨x,H1,I1,r1,q1⟩=>thn (hb pins s1 σ H1 _ I1 q1) fun u s2 ⟨y,H2,I2,r2,q2⟩=>
  thn (ho pins s2 σ H2 x y v u _ I2 r1 r2 q2) fun c s3 ⟨z,H3,I3,r3,k,e,q3⟩=>?_) hm
 subst e;cases r3;exact wpAny_truthy_bool ⟨H3,I3,q3⟩
noncomputable def zsq (r r':R2) (ta tb tc:TE):TE:=fun σ H Q=>ta σ H fun x H1=>tb σ H1 fun y H2=>r x y H2 fun z H3=>∃k,z= .bl k∧
 (if k=true then tc σ H3 fun w' H4=>r' y w' H4 Q else Q (.bl false) H3)
theorem zoO{op op':CmpOp}{r r':R2}(ho:OpR X (compareOp op) r) (ho':OpR X (compareOp op') r') (ha:PE X a ta) (hb:PE X b tb) (hc:PE X c tc)
  (hm:lastMarks [op,op'] [b,c]=false:=by with_unfolding_all rfl):PE X (.Compare a [op,op'] [b,c] pos) (zsq r r' ta tb tc):=by
 intro pins s σ H Q I h;refine Compare_chain (thn (ha pins s σ H _ I h) fun v s1 ⟨x,H1,I1,r1,q1⟩=>chain_link (thn (hb pins s1 σ H1 _ I1 q1) fun u s2 ⟨y,H2,I2,r2,q2⟩=>
  thn (ho pins s2 σ H2 x y v u _ I2 r1 r2 q2) fun d s3 ⟨z,H3,I3,r3,k,e,q3⟩=>?_)) hm
 subst e;cases r3;refine wpAny_truthy_bool ?_;cases k with
 |false=>exact ite_ff ⟨.bl false,H3,I3,rfl,q3⟩
 |true=>exact ite_tt (chain_last (thn (hc pins s3 σ H3 _ I3 q3) fun w' s4 ⟨z',H4,I4,r4,q4⟩=>ho' pins s4 σ H4 y z' u w' Q I4 r2 r4 q4))
noncomputable def zuV (K:PySem.W.Frag) (x:V) (H:Hp) (k:Bool):Prop:=
 match x with
 | .non=>k=false
 | .bl b=>k=b
 | .int i=>k=(i != 0)
 | .str y=>y.length≤sizeLine∧k=((y.length:Int) != 0)
 | .byt y=>y.size≤sizeLine∧k=((y.size:Int) != 0)
 | .ref p=>(∃xs,SqL K H p xs∧k= !xs.isEmpty)∨(∃xs,SqT K H p xs∧k= !xs.isEmpty)∨ ∃kvs,H p=some (.dK kvs)∧k= !kvs.isEmpty
 |_=>False
theorem zkU{κ:Type}{kvs:List (κ×V)}{vs:List (κ×Value)}(r:KV kvs vs):(!vs.isEmpty)= !kvs.isEmpty:=by
 cases r<;>rfl
theorem zgn{xs:List V}{its:List Value}(r:Vals xs its):(!its.toArray.isEmpty)= !xs.isEmpty:=by
 cases r<;>simp
theorem zfJ:(sizeLine:Nat)<2 ^ 63:=by rw [sizeLine_eq];decide
theorem ztO:zxe X (fun x H Q=>∃k,zuV X.K x H k∧Q k H):=by
 intro pins s σ H x v Q I rx h;obtain⟨k,e,q⟩:=h;have hl:=zfJ;have hs:sizeLine=16777216:=sizeLine_eq;cases x with
 |non=>
  cases rx;have e':k=false:=e;subst e';exact truthy_none ⟨H,I,q⟩
 |bl b=>
  cases rx;have e':k=b:=e;subst e';exact wpAny_truthy_bool ⟨H,I,q⟩
 |int i=>
  obtain⟨t,rfl⟩:=rx;have e':k=(i != 0):=e;subst e';exact PySem.P.truthy_int ⟨H,I,q⟩
 |str y=>
  obtain⟨t,rfl⟩:=rx;obtain⟨hy,e'⟩:y.length≤sizeLine∧k=((y.length:Int) != 0):=e;subst e';exact PySem.P.truthy_str (by omega) ⟨H,I.tok _,q⟩
 |byt y=>
  obtain⟨t,rfl⟩:=rx;obtain⟨hy,e'⟩:y.size≤sizeLine∧k=((y.size:Int) != 0):=e;subst e';exact PySem.W.truthy_bytes (by omega) ⟨H,I.tok _,q⟩
 |ref p=>
  cases rx;have e':(∃xs,SqL X.K H p xs∧k= !xs.isEmpty)∨(∃xs,SqT X.K H p xs∧k= !xs.isEmpty)∨ ∃kvs,H p=some (.dK kvs)∧k= !kvs.isEmpty:=e;rcases e' with⟨xs,hx,e'⟩ |⟨xs,hx,e'⟩ |⟨kvs,hx,e'⟩
  ·subst e';obtain⟨its,r,pl,hz⟩:=I.list hx;have hlen:=r.length;exact wpAny_truthy_list pl.isList (by simp only[List.size_toArray];omega) ⟨H,I.tok _,by rw [zgn r];exact q⟩
  ·subst e';obtain⟨its,r,pl,hz⟩:=I.tuple hx;have hlen:=r.length;exact truthy_tuple pl (by simp only[List.size_toArray];omega) ⟨H,I.tok _,by rw [zgn r];exact q⟩
  ·subst e';obtain⟨hz,hS,vs,r,m⟩:kvs.length≤sizeLine∧(p == sysModules)=false∧ ∃vs,KV kvs vs∧s.heap.DictOf (zbM X.prog X.w) p vs:=I.hok p _ hx;have hlen:kvs.length=vs.length:=Paired.length r;exact wpAny_truthy_dict hS m (by omega) ⟨H,I.tok _,by rw [zkU r];exact q⟩
 |_=>exact(show False from e).elim
theorem zoc (ha:PE X a ta) (he:∀whole,isTrue a X.env whole=(do let v ←whole;standAt a.pos;holding [v] (truthy v))) :
  PT X a (fun σ H Q=>ta σ H fun x H'=>∃k,zuV X.K x H' k∧Q k H'):=by
 intro pins s σ H Q I h;exact isTrue_plain (thn (ha pins s σ H _ I h) fun v s1 ⟨x,H1,I1,r1,q1⟩=>ztO pins s1 σ H1 x v Q I1 r1 q1) (he _)
theorem op_add_str:OpR X (binaryOp .Add) (fun x y H Q=>∃i j,x= .str i∧y= .str j∧i.length+j.length≤sizeLine∧Q (.str (i++j)) H):=by
 intro pins s σ H x y v u Q I rx ry h;obtain⟨i,j,rfl,rfl,hz,q⟩:=h;obtain⟨t,rfl⟩:=rx;obtain⟨t',rfl⟩:=ry;exact add_str (fun t' tk=>⟨.str (i++j),H,I.tok _,⟨_,rfl⟩,q⟩) hz
theorem zgG{x:V}{us:List Value}(r:Vals [x] us):∃u,us=[u]∧RelV x u:=by
 cases r with
 |cons r1 r2=>cases r2;exact⟨_,rfl,r1⟩
theorem zqp{x y:V}{us:List Value}(r:Vals [x,y] us):∃u w',us=[u,w']∧RelV x u∧RelV y w':=by
 cases r with
 |cons r1 r2=>
  cases r2 with
  |cons r3 r4=>cases r4;exact⟨_,_,rfl,r1,r3⟩
theorem znJ (hc:X.calm=true):CallR X (.builtin "max") (fun xs H Q=>∃i j,xs=[.int i, .int j]∧Q (.int (if j > i then j else i)) H):=by
 intro pins s σ H xs us Q I r h;obtain⟨i,j,rfl,q⟩:=h;obtain⟨u,w',rfl,⟨t,rfl⟩,⟨t',rfl⟩⟩:=zqp r;refine max_two_ints (I.ok.hd hc) fun h' tk k=>⟨_,H,I.kept k,?_,q⟩;by_cases hj:j > i
 ·rw [if_pos hj,if_pos hj];exact⟨_,rfl⟩
 ·rw [if_neg hj,if_neg hj];exact⟨_,rfl⟩
theorem zmY (hc:X.calm=true):CallR X (.builtin "min") (fun xs H Q=>∃i j,xs=[.int i, .int j]∧Q (.int (if j<i then j else i)) H):=by
 intro pins s σ H xs us Q I r h;obtain⟨i,j,rfl,q⟩:=h;obtain⟨u,w',rfl,⟨t,rfl⟩,⟨t',rfl⟩⟩:=zqp r;refine min_two_ints (I.ok.hd hc) fun h' tk k=>⟨_,H,I.kept k,?_,q⟩;by_cases hj:j<i
 ·rw [if_pos hj,if_pos hj];exact⟨_,rfl⟩
 ·rw [if_neg hj,if_neg hj];exact⟨_,rfl⟩
theorem znF:CallR X (.type "int") (fun xs H Q=>(∃i,xs=[.int i]∧Q (.int i) H)∨ ∃k,xs=[.bl k]∧Q (.int (if k then 1 else 0)) H):=by
 intro pins s σ H xs us Q I r h;rcases h with⟨i,rfl,q⟩ |⟨k,rfl,q⟩
 ·obtain⟨u,rfl,t,rfl⟩:=zgG r;exact call_int_int ⟨.int i,H,I,⟨_,rfl⟩,q⟩
 ·obtain⟨u,rfl,r1⟩:=zgG r;cases r1;exact call_int_bool ⟨.int (if k then 1 else 0),H,I.tok _,⟨_,rfl⟩,q⟩
end
structure ObjM (h:Heap) (x dx C:Addr) (mA:Str→Option Value):Prop where
  obj:h.get? x=some (PySem.W.instObj C dx)
  ns:h.Ns1 dx mA
  ne:dx≠x
theorem znG{h:Heap}{dx:Addr}{mA:Str→Option Value}(n:h.Ns1 dx mA):∃od,h.get? dx=some od∧ ∀name,PySem.W.lookIn name od=some (mA name):=by
 obtain⟨o,es,ep,ho,hd,hk,_,hm⟩:=n;refine⟨o,ho,fun name=>?_⟩;have e:=hm name;unfold nsFind findBy at e;rw [←Array.find?_toList]at e;unfold PySem.W.lookIn;rw [hd];dsimp only;split
 ·rename_i y q;rw [q]at e;exact congrArg some e
 ·rename_i q;rw [q]at e;have a:es.toList.any (·.refKey)=false:=by
   rw [List.any_eq_false];intro y hy;obtain⟨z,t,hkey⟩:=hk y (Array.mem_toList_iff.mp hy);simp [DictEntry.refKey,hkey]
  have a':¬es.toList.any (·.refKey)=true:=by rw [a];exact Bool.false_ne_true
  rw [if_neg a'];exact congrArg some e
theorem ObjM.look{h:Heap}{x dx C:Addr}{mA:Str→Option Value}(I:ObjM h x dx C mA):∃od,PySem.W.InstAt h x (PySem.W.instObj C dx) C (some od)∧ ∀name,PySem.W.lookIn name od=some (mA name):=
 let ⟨od,ho,hl⟩:=znG I.ns
 ⟨od,⟨I.obj,rfl,rfl,ho⟩,hl⟩
theorem RelO.some_of{v:V}{o:Option Value}(r:RelO (some v) o):∃u,o=some u∧RelV v u:=by
 cases o with
 |none=>exact(show False from r).elim
 |some u=>exact⟨u,rfl,r⟩
section
variable {P:Program}{w:World}{H:Hp}{h:Heap}{a C dx:Addr}{fs:List (Str×V)}
theorem zrd (hok:HOk P w H h) (e:H a=some (.ins C dx fs)):∃mA,ObjM h a dx C mA∧(∀f,RelO (fs.lookup f) (mA f))∧PySem.Within mA (fs.map (·.1))∧fs.length≤1000∧H dx=some (.own a):=by
 obtain⟨d,z,ne,ob,mA,n,r,q⟩:=(show ObjOk P w H h a (.ins C dx fs) from hok a _ e);exact⟨mA,⟨ob,n,ne⟩,r,q,z,d⟩
end
structure Cls (K:PySem.W.Frag) (C:Addr):Prop where
  pg:PySem.W.plainGet K C Str.empty=true
  hd:PySem.W.hasDictIn K C=true
  po:PySem.W.plainOver K C=true
  sa:PySem.W.findIn K (.ref C) "__setattr__" =some (some (.builtin "object.__setattr__"))
theorem Cls.get{K:PySem.W.Frag}{C:Addr}(c:Cls K C) (f:Str):PySem.W.plainGet K C f=true:=c.pg
section
variable {X:Cx}{pins:List (Addr×Obj)}{σ:St}{H:Hp}{s:Shared}{A:Around}{E:Value→Shared→Prop}{Q:Value→Shared→Prop}{c:Value}{b:Bool}
inductive TyOf (K:PySem.W.Frag) (H:Hp):V→Value→Prop where
  |non:TyOf K H .non (.type "NoneType")
  |bl (x:Bool):TyOf K H (.bl x) (.type "bool")
  |int (i:Int):TyOf K H (.int i) (.type "int")
  |str (x:Str):TyOf K H (.str x) (.type "str")
  |flt (x:UInt64):TyOf K H (.flt x) (.type "float")
  |lst {a:Addr}{xs:List V}(e:H a=some (.lst xs)):TyOf K H (.ref a) (.type "list")
  |frz {a:Addr}{o:Obj}{xs:List V}(e:H a=some (.frz o (.lst xs))):TyOf K H (.ref a) (.type "list")
  |tup {a:Addr}{xs:List V}(e:H a=some (.tup xs)):TyOf K H (.ref a) (.type "tuple")
  |dK {a:Addr}{kvs:List (Key×V)}(e:H a=some (.dK kvs)):TyOf K H (.ref a) (.type "dict")
  |dT {a:Addr}{kvs:List (List Key×V)}(e:H a=some (.dT kvs)):TyOf K H (.ref a) (.type "dict")
  |ins {a C dx:Addr}{fs:List (Str×V)}(e:H a=some (.ins C dx fs)) (cl:Cls K C) (ha:PySem.W.findIn K (.ref C) "__class__" =some (some (.builtin "object.__class__")))
      (hn:PySem.W.specialIn K (.builtin "object.__class__") "__get__" =some (some (.builtin "getset_descriptor.__get__"))) (htk:PySem.W.takesIn K (.builtin "object.__class__")=some true)
      (hm:PySem.W.mroIn K C (.type "object")=some true):TyOf K H (.ref a) (.ref C)
theorem zna{x:V}{u t:Value}(I:Inv X pins σ H s) (rx:RelV x u) (ty:TyOf X.K H x t) (e:PySem.W.kitOne X.K t c=some b) (h:∀tk,Q (.bool b) { s with toks:=tk }) :
  wpAny (model X.prog X.w) A (call (.builtin "isinstance") [u,c]) Q E s:=by
 cases ty with
 |non=>cases(show u=Value.none from rx);exact PySem.W.kia_one PySem.W.kitx_none I.kIn True.intro e (fun z=>nomatch z) h
 |bl y=>cases(show u=Value.bool y from rx);exact PySem.W.kia_one PySem.W.kitx_bool I.kIn True.intro e (fun z=>nomatch z) h
 |int i=>obtain⟨t,q⟩:=(show ∃t,u=Value.int i t from rx);cases q;exact PySem.W.kia_one PySem.W.kitx_int I.kIn True.intro e (fun z=>nomatch z) h
 |str y=>obtain⟨t,q⟩:=(show ∃t,u=Value.str y t from rx);cases q;exact PySem.W.kia_one PySem.W.kitx_str I.kIn True.intro e (fun z=>nomatch z) h
 |flt y=>obtain⟨t,q⟩:=(show ∃t,u=Value.float y t from rx);cases q;exact PySem.W.kia_one PySem.W.kitx_float I.kIn True.intro e (fun z=>nomatch z) h
 | @lst a xs ea=>
  cases(show u=Value.ref a from rx);obtain⟨_,_,n,_,h1⟩:=(show ObjOk X.prog X.w H s.heap a (.lst xs) from I.hok a _ ea);exact PySem.W.kia_one PySem.W.kitx_list I.kIn ⟨_,h1,rfl⟩ e (fun z=>nomatch z) h
 | @frz a ob xs ea=>
  cases(show u=Value.ref a from rx);obtain⟨_,_,_,n,_,h1⟩:=(show ObjOk X.prog X.w H s.heap a (.frz ob (.lst xs)) from I.hok a _ ea);exact PySem.W.kia_one PySem.W.kitx_list I.kIn ⟨_,h1,rfl⟩ e (fun z=>nomatch z) h
 | @tup a xs ea=>
  cases(show u=Value.ref a from rx);obtain⟨_,_,_,p⟩:=(show ObjOk X.prog X.w H s.heap a (.tup xs) from I.hok a _ ea);obtain⟨o,h1,h2,_⟩:=p;exact PySem.W.kia_one PySem.W.kitx_tuple I.kIn ⟨o,h1,h2⟩ e (fun z=>nomatch z) h
 | @dK a kvs ea=>
  cases(show u=Value.ref a from rx);obtain⟨_,_,vs,_,p⟩:=(show ObjOk X.prog X.w H s.heap a (.dK kvs) from I.hok a _ ea);obtain⟨o,es,ep,h1,h2,_⟩:=p;exact PySem.W.kia_one PySem.W.kitx_dict I.kIn ⟨o,h1,h2.1⟩ e (fun z=>nomatch z) h
 | @dT a kvs ea=>
  cases(show u=Value.ref a from rx);obtain⟨_,_,xs,_,o,es,ep,h1,h2,_⟩:=(show ObjOk X.prog X.w H s.heap a (.dT kvs) from I.hok a _ ea);exact PySem.W.kia_one PySem.W.kitx_dict I.kIn ⟨o,h1,h2.1⟩ e (fun z=>nomatch z) h
 | @ins a C dx fs ea cl ha hn htk hm=>
  cases(show u=Value.ref a from rx);obtain⟨mA,O,_⟩:=zrd I.hok ea;obtain⟨od,J,_⟩:=O.look;exact PySem.W.kia_one (PySem.W.kitx_own (cl.get _) cl.hd ha hn htk hm) I.kIn J e (fun z=>nomatch z) h
end
structure Room (k:Nat) (A:Around):Prop where
  hd:A.handled=none
  dp:A.depth+3*k+5<recursionLimit
  un:A.units+16*k+200<cLine
theorem Room.deeper{k:Nat}{A:Around}(r:Room (k+1) A) (env:Env):Room k (A.deeper env):=
 ⟨r.hd,by have:=r.dp;show A.depth+1+3*k+5<_;omega,by have:=r.un;show A.units+3+16*k+200<_;omega⟩
theorem Room.depth{k:Nat}{A:Around}(r:Room k A):A.depth<recursionLimit:=by have:=r.dp;omega
theorem Room.units{k:Nat}{A:Around}(r:Room k A):A.units+64<cLine:=by have:=r.un;omega
noncomputable def zwC:TA:=fun _ H Q=>Q [] H
noncomputable def zwh (ta:TE) (tr:TA):TA:=fun σ H Q=>ta σ H fun x H1=>tr σ H1 fun xs H2=>Q (x::xs) H2
section
variable {X:Cx}{e:Expr}{es:List Expr}{te:TE}{t:TA}{pos:Pos}
theorem pa_nil:PA X [] zwC:=fun _ _ _ _ H Q I h=>Calls.spliced_nil ⟨[],H,I, .nil,h⟩
theorem zbu (ha:PE X e te) (hr:PA X es t) (hs:starEach (e::es) X.env=(false,eval e X.env)::starEach es X.env:=by rfl):PA X (e::es) (zwh te t):=by
 intro pos pins s σ H Q I h;rw [hs];show wpAny _ _ (spliced ((false,eval e X.env)::backTo pos (starEach es X.env))) _ _ s;refine Calls.spliced_cons (thn (ha pins s σ H _ I h) fun u s1 ⟨x,H1,I1,r1,q1⟩=>?_);exact thn (hr pos pins s1 σ H1 _ I1 q1) fun us s2 ⟨xs,H2,I2,r2,q2⟩=>⟨x::xs,H2,I2, .cons r1 r2,q2⟩
noncomputable def zwX (t:TA):TE:=fun σ H Q=>t σ H fun xs H1=>xs.length≤sizeLine∧ ∀p,H1 p=none→Q (.ref p) (upd H1 p (.tup xs))
noncomputable def zwO (t:TA):TE:=fun σ H Q=>t σ H fun xs H1=>xs.length≤sizeLine∧ ∀p,H1 p=none→Q (.ref p) (upd H1 p (.lst xs))
theorem ztb{x1}(h:PA X es t):PE X (.Tuple es x1 pos) (zwX t):=by
 intro pins s σ H Q I hq;refine wpAny_Tuple_spliced (thn (h pos pins s σ H _ I hq) fun us s1 ⟨xs,H1,I1,r,z,q⟩=>⟨by rw [←r.length];exact z,?_⟩);have hf:H1 s1.heap.objs.size=none:=I1.hok.fresh (Nat.le_refl _);refine⟨.ref s1.heap.objs.size,upd H1 s1.heap.objs.size (.tup xs),I1.laid (t':=s1.toks) (fun b u e=>Heap.get?_push_of_some _ e) (Nat.le_refl _) ?_,rfl,q _ hf⟩;exact⟨z,us,r,⟨_,Heap.get?_push_size _ rfl,rfl,_,rfl⟩⟩
theorem ztN (h:PA X es t):PE X (.List es pos) (zwO t):=by
 intro pins s σ H Q I hq;refine wpAny_List_spliced (thn (h pos pins s σ H _ I hq) fun us s1 ⟨xs,H1,I1,r,z,q⟩=>⟨by rw [←r.length];exact z,?_⟩);have hf:H1 s1.heap.objs.size=none:=I1.hok.fresh (Nat.le_refl _);refine⟨.ref s1.heap.objs.size,upd H1 s1.heap.objs.size (.lst xs),I1.laid (t':=s1.toks) (fun b u e=>Heap.get?_push_of_some _ e) (Nat.le_refl _) ?_,rfl,q _ hf⟩;exact⟨z,us,0,r,Heap.get?_push_size _ rfl⟩
end
noncomputable abbrev Sp:=List V→Hp→VK→XK→Prop
noncomputable abbrev CXT:=List Env→Hp→Shared→XK→Value→Shared→Prop
structure Env0 (P:Program) (w:World) (K:PySem.W.Frag) (mg:Str→Option Value) (base:Heap) (A:Around) (outer:List Env) (s:Shared) (H:Hp):Prop where
  frames:A.frames=some outer
  mod:Mod K mg base
  bs:∀b o,base.get? b=some o→s.heap.get? b=some o∧H b=none
  bsz:base.objs.size≤s.heap.objs.size
  funs:s.heap.FunFrames base outer
  frf:∀b∈frs outer,H b=none
  hok:HOk P w H s.heap
  bare:AllBare s.gens
noncomputable def CE (outer:List Env) (P:Program) (w:World) (H:Hp) (s:Shared) (Q:VK) (u:Value) (s':Shared):Prop:=
 ∃v H',s'.os=s.os∧AllBare s'.gens∧Un (frs outer) [] H H' s.heap s'.heap∧HOk P w H' s'.heap∧RelV v u∧Q v H'
noncomputable def CR (CX:CXT) (outer:List Env) (P:Program) (w:World) (H:Hp) (s:Shared) (Q:VK) (E:XK) (r:Result) (s':Shared):Prop:=
 match r with
 | .ok (.ret u)=>CE outer P w H s Q u s'
 | .ok _=>False
 | .error e=>CX outer H s E e s'
structure FnOk (P:Program) (w:World) (K:PySem.W.Frag) (mg:Str→Option Value) (base:Heap) (CX:CXT) (k:Nat) (f:Addr) (fd:FuncData) (ps:List Str) (sp:Sp):Prop where
  len:∀vs H Q E,sp vs H Q E→vs.length=ps.length
  run:∀(A:Around) (outer:List Env) (s:Shared) (H:Hp) (args:Args) (us:List Value) (vs:List V) (Q:VK) (E:XK),Room k A→Env0 P w K mg base A outer s H→BindsTo s fd args (ps.zip us)→Vals vs us→sp vs H Q E→
    codeAny (model P w) A (.call (.ref f) args) (CR CX outer P w H s Q E) s
section
variable {X:Cx}{pins:List (Addr×Obj)}{σ:St}{H:Hp}{s:Shared}
theorem Inv.env0 (I:Inv X pins σ H s):Env0 X.prog X.w X.K X.mg X.base X.A X.stack s H:=
 ⟨I.ok.frames,I.ok.mod,I.bs,Nat.le_trans I.ok.bsz I.sz,I.stack,I.stkFree,I.hok,I.bare⟩
end
noncomputable def Binds (K:PySem.W.Frag) (fd:FuncData) (ps:List Str) (ds:List Value):Prop:=
 ∀(s:Shared) (us:List Value),K.In s.heap→(us++ds).length=ps.length→BindsTo s fd ⟨us,[]⟩ (ps.zip (us++ds))
theorem Binds.all{K:PySem.W.Frag}{fd:FuncData}{ps:List Str}(h:∀us:List Value,us.length=ps.length→bindArgs fd ⟨us,[]⟩=pure (ps.zip us)):Binds K fd ps []:=fun s us _ hl=>by
 rw [List.append_nil]at hl⊢;exact .of_eq (h us hl)
structure FnScope (N P:List Str) (sc:Scope):Prop where
  kind:sc.kind= .function
  co:sc.isCoroutine=false
  gen:sc.isGenerator=false
  nd:N.Nodup
  pre:N.take P.length=P
  par:∀x∈P,sc.names.lookup x=some .local∨sc.names.lookup x=some .cell
  nofree:∀y∈sc.names,y.2≠ .free
theorem zih{kindOf:Str→Option NameKind}{x:Str}:∀{binds:List (Str×Value)}{m:Str→Option Value},(∀v,(x,v)∉binds)→bindL kindOf binds m x=m x
 | [],_,_=>rfl
 | (n,v)::r,m,h=>by
  unfold bindL;rw [zih fun w hw=>h w (List.mem_cons_of_mem _ hw)];split
  ·have:x≠n:=by rintro rfl;exact h v List.mem_cons_self
   simp [this]
  ·rfl
theorem zik{kindOf:Str→Option NameKind}{x:Str}:∀{binds:List (Str×Value)}{m:Str→Option Value},(∀v,(x,v)∉binds)→bindC kindOf binds m x=m x
 | [],_,_=>rfl
 | (n,v)::r,m,h=>by
  unfold bindC;rw [zik fun w hw=>h w (List.mem_cons_of_mem _ hw)];split
  ·rfl
  ·have:x≠n:=by rintro rfl;exact h v List.mem_cons_self
   simp [this]
theorem zio{kindOf:Str→Option NameKind}{x:Str}{v:Value}:∀{P:List Str}{vs:List Value}{i:Nat}{m:Str→Option Value},P.Nodup→P[i]? =some x→vs[i]? =some v→kindOf x=some .local→
  bindL kindOf (P.zip vs) m x=some v
 | [],_,_,_,_,h,_,_=>by simp at h
 |_::_,[],_,_,_,_,h,_=>by simp at h
 |p::P,w::vs,0,m,nd,h1,h2,hk=>by
  simp at h1 h2;subst h1;subst h2;show bindL kindOf ((p,w)::P.zip vs) m p=_;unfold bindL;rw [zih fun v hv=>(List.nodup_cons.mp nd).1 (List.of_mem_zip hv).1,if_pos hk];simp
 |p::P,w::vs,i+1,m,nd,h1,h2,hk=>by
  show bindL kindOf ((p,w)::P.zip vs) m x=_;unfold bindL;exact zio (i:=i) (List.nodup_cons.mp nd).2 (by simpa using h1) (by simpa using h2) hk
theorem zhU{kindOf:Str→Option NameKind}{x:Str}{v:Value}:∀{P:List Str}{vs:List Value}{i:Nat}{m:Str→Option Value},P.Nodup→P[i]? =some x→vs[i]? =some v→kindOf x≠some .local→
  bindC kindOf (P.zip vs) m x=some v
 | [],_,_,_,_,h,_,_=>by simp at h
 |_::_,[],_,_,_,_,h,_=>by simp at h
 |p::P,w::vs,0,m,nd,h1,h2,hk=>by
  simp at h1 h2;subst h1;subst h2;show bindC kindOf ((p,w)::P.zip vs) m p=_;unfold bindC;rw [zik fun v hv=>(List.nodup_cons.mp nd).1 (List.of_mem_zip hv).1,if_neg hk];simp
 |p::P,w::vs,i+1,m,nd,h1,h2,hk=>by
  show bindC kindOf ((p,w)::P.zip vs) m x=_;unfold bindC;exact zhU (i:=i) (List.nodup_cons.mp nd).2 (by simpa using h1) (by simpa using h2) hk
noncomputable def zhg (N:List Str) (vs:List V):St:=vs.map some++List.replicate (N.length - vs.length) none
noncomputable def zrm (CX:CXT) (P:Program) (w:World) (K:PySem.W.Frag) (mg:Str→Option Value) (base:Heap) (N:List Str) (qual:Str) (scope:Scope) (f:Addr) (cd:Value) (A:Around) (outer:List Env) (s:Shared) (H:Hp) (E:XK):Cx where
  prog:=P
  w:=w
  K:=K
  mg:=mg
  base:=base
  A:=A.deeper (envOfC qual scope s.heap.objs.size f cd)
  N:=N
  s₀:=s
  H₀:=H
  env:=envOfC qual scope s.heap.objs.size f cd
  outer:=outer
  stack:=envOfC qual scope s.heap.objs.size f cd::outer
  ex:=[]
  calm:=true
  fn:=fun _=>true
  pn:=[]
  xe:=fun e s'=>wpAny (model P w) (A.deeper (envOfC qual scope s.heap.objs.size f cd)) (leaving (envOfC qual scope s.heap.objs.size f cd) e) (fun _ s''=>CX outer H s E e s'') (fun e' s''=>CX outer H s E e' s'') s'
theorem zjV{sc:Scope}{n:Nat}{x:Str}(h:sc.names.lookup x=some .cell):∃c,(cellsFrom n sc.names []).lookup x=some c:=by
 have q:=PySem.W.cellsFrom_some sc.names n [] (.inl h);exact Option.isSome_iff_exists.mp q
theorem znn{CX:CXT}{P:Program}{w:World}{K:PySem.W.Frag}{mg:Str→Option Value}{base:Heap}{N ps:List Str}{qual:Str}{scope:Scope}{f:Addr}{cd:Value}{A:Around}{outer:List Env}{s s1:Shared}{H:Hp}{E:XK}{us:List Value}{vs:List V}
  (S:FnScope N ps scope) (hd:A.handled=none) (e0:Env0 P w K mg base A outer s H) (hl:vs.length=ps.length) (r:Vals vs us)
  (x:InCallC s s.heap.objs.size (bindL (envOfC qual scope s.heap.objs.size f cd).kindOf (ps.zip us) fun _=>none) (cellsFrom (s.heap.objs.size+1) scope.names []) (bindC (envOfC qual scope s.heap.objs.size f cd).kindOf (ps.zip us) fun _=>none) s1) :
  Inv (zrm CX P w K mg base N qual scope f cd A outer s H E) [] (zhg N vs) H s1:=by
 have hpl:ps.length≤N.length:=by have:=congrArg List.length S.pre;rw [List.length_take]at this;omega
 obtain⟨h1,tk,rfl,hk⟩:=x.done;have noA:∀b:Addr,b∉(zrm CX P w K mg base N qual scope f cd A outer s H E).ex:=fun b z=>absurd (show b∈([]:List Addr) from z) (by simp);refine⟨⟨e0.mod,S.kind,rfl,rfl,Nat.le_refl _,fun y z c h1 h2=>?_,fun y hy=>?_,fun y c _ h=>?_,fun _=>hd,Around.frames_deeper e0.frames, .inr ⟨rfl,rfl⟩,fun b z=>absurd z (noA b),e0.bs,e0.bsz,fun b _ _=>noA b,fun b z=>absurd z (noA b),e0.funs,e0.frf⟩,
  rfl,e0.bare,Un.kept hk,⟨_,x.toInCall.ns,fun i y v h1 h2 h3=>?_⟩,fun y c h=>⟨_,x.cell y c h⟩,e0.hok.fresh (Nat.le_refl _),fun y c h=>?_,fun p hp=>absurd (show p∈([]:List (Addr×Obj)) from hp) (by simp),e0.hok.kept hk,?_⟩
 ·exact name_of_addr x.apart (PySem.mem_of_lookup h1) (PySem.mem_of_lookup h2)
 ·have hy:scope.names.lookup y=some .cell∨scope.names.lookup y=some .free:=hy;rcases hy with hy |hy
  ·exact zjV hy
  ·exact absurd rfl (S.nofree _ (PySem.mem_of_lookup hy))
 ·exact Nat.le_of_lt (x.above y c (PySem.mem_of_lookup h))
 ·have hi:i<vs.length:=by
   unfold zhg at h2;by_cases hi:i<vs.length
   ·exact hi
   ·rw [List.getElem?_append_right (by simpa using hi)]at h2;rw [List.getElem?_replicate]at h2;split at h2<;>cases h2
  have ha:vs[i]? =some v:=by
   unfold zhg at h2;rw [List.getElem?_append_left (by simpa using hi),List.getElem?_map]at h2;cases e:vs[i]? with
   |none=>rw [e]at h2;cases h2
   |some a=>rw [e]at h2;cases h2;rfl
  obtain⟨u,hu,rv⟩:=r.get ha;have hp:ps[i]? =some y:=by
   rw [←S.pre,List.getElem?_take_of_lt (by omega)];exact h1
  have ndP:ps.Nodup:=by rw [←S.pre];exact S.nd.sublist (List.take_sublist _ _)
  refine⟨u,rv,?_⟩;rcases S.par y (List.mem_of_getElem? hp) with k |k
  ·exact .inl ⟨k,zio ndP hp hu k⟩
  ·obtain⟨c,e⟩:=zjV (n:=s.heap.objs.size+1) k;refine .inr ⟨.inl k,c,e,?_⟩;have q:=x.cell y c e;rw [zhU ndP hp hu (by show scope.names.lookup y≠_;rw [k];decide)]at q;exact q
 ·exact e0.hok.fresh (Nat.le_of_lt (x.above y c (PySem.mem_of_lookup h)))
 ·unfold zhg;show _=N.length;rw [List.length_append,List.length_map,List.length_replicate];omega
theorem zvD{CX:CXT}{P:Program}{w:World}{K:PySem.W.Frag}{mg:Str→Option Value}{base:Heap}{k:Nat}{f:Addr}{name qual:Str}{params:Arguments}{body:List Stmt}{scope:Scope}{dV kV doc pm cdv ct oc:Value}{an od:Option Addr}
  {osl:Array (Option Value)}{N ps:List Str}{sp:Sp}(lk:K.lookup f=some ⟨oc,od, .func (PySem.W.fnOf name qual params body scope dV kV doc pm an cdv ct),osl⟩) (hcd:PySem.W.codeIn K cdv qual=true) (S:FnScope N ps scope)
  (len:∀vs H Q E,sp vs H Q E→vs.length=ps.length)
  (hbody:∀(A:Around) (outer:List Env) (s:Shared) (H:Hp) (vs:List V) (Q:VK) (E:XK),Room k (A.deeper (envOfC qual scope s.heap.objs.size f cdv))→sp vs H Q E→
   ∃t,PSs (zrm CX P w K mg base N qual scope f cdv A outer s H E) body t∧t { nx:=fun _ H'=>Q .non H',rt:=Q } (zhg N vs) H) :
  FnOk P w K mg base CX (k+1) f (PySem.W.fnOf name qual params body scope dV kV doc pm an cdv ct) ps sp:=by
 refine⟨len,fun A outer s H args us vs Q E hr e0 hb r hsp=>?_⟩;have hl:=len _ _ _ _ hsp;have KX:K.In s.heap:=e0.mod.kin.keeps fun b o e=>(e0.bs b o e).1;have lim:s.heap.NoLimit:=e0.mod.nolimit.keeps fun b o e=>(e0.bs b o e).1;have hkind:∀y∈ps.zip us,scope.names.lookup y.1=some .local∨(scope.names.lookup y.1=some .cell∧((cellsFrom (s.heap.objs.size+1) scope.names []).lookup y.1).isSome=true):=fun⟨n,v⟩ hy=>by
  rcases S.par n (List.of_mem_zip hy).1 with q |q
  ·exact .inl q
  ·exact .inr ⟨q,PySem.W.cellsFrom_some _ _ _ (.inl q)⟩
 refine codeAny_call_function hr.depth (KX _ _ lk) rfl S.co S.gen rfl (PySem.W.codeRec_of KX hcd) (hb _ _ _ _ ?_);refine wpAny_newFunctionEnv_cells S.kind hkind fun env he s1 x=>?_;subst he;refine⟨lim.keeps x.toInCall.keep,codeAny_func ?_⟩;obtain⟨t,ht,hq⟩:=hbody A outer s H vs Q E (hr.deeper _) hsp;have I:Inv (zrm CX P w K mg base N qual scope f cdv A outer s H E) [] (zhg N vs) H s1:=znn S hr.hd e0 hl r x;refine wpAny_mono (ht [] s1 (zhg N vs) H _ I hq) (fun fl s' hs=>?_) fun e s' hs=>hs;have fin:∀{σ':St}{H':Hp}{v:V}{u:Value},Inv (zrm CX P w K mg base N qual scope f cdv A outer s H E) [] σ' H' s'→RelV v u→Q v H'→CE outer P w H s Q u s':=
  fun {σ' H' v u} J rv q=>⟨v,H',J.os,J.bare,J.base,J.hok,rv,q⟩
 cases fl with
 |ret u=>
  obtain⟨v,σ',H',J,rv,q⟩:=hs;exact fin J rv q
 |next=>
  obtain⟨σ',H',J,q⟩:=hs;exact fin (v:=V.non) (u:=Value.none) J rfl q
 |brk=>
  obtain⟨_,_,_,q⟩:=hs;exact False.elim q
 |cont=>
  obtain⟨_,_,_,q⟩:=hs;exact False.elim q
section
variable {X:Cx}{x:Str}{p pos:Pos}{e:Expr}{es:List Expr}{t:TA}{id T:String}{r:List V→Hp→VK→Prop}
noncomputable def tCB (r:List V→Hp→VK→Prop) (t:TA):TE:=fun σ H Q=>t σ H fun vs H1=>r vs H1 Q
theorem zex (hc:CallR X (.builtin id) r) (hg:Gl X x) (hm:X.mg x=none) (hv:bootBuiltins x=some (.builtin id)) (ha:PA X (e::es) t) (hn:x≠ "__name__" :=by decide) (hdb:(x == ("__debug__" :Str))=false:=by decide)
  (he:starEach (e::es) X.env=(false,eval e X.env)::starEach es X.env:=by rfl) (hpl:(backTo pos (starEach es X.env)).any (·.1)=false:=by rfl):PE X (.Call (.Name x p) (e::es) [] pos) (tCB r t):=by
 intro pins s σ H Q I h;refine wpAny_Call_Name_kw (zdJ I hg hm hv ?_ hn hdb);exact PyProof.Rows.callWith_builtin1 (thn (ha pos pins s σ H _ I h) fun us s1 ⟨vs,H1,I1,r1,q1⟩=>hc pins s1 σ H1 vs us Q I1 r1 q1) he hpl
theorem zfy (hc:CallR X (.type T) r) (hg:Gl X x) (hm:X.mg x=none) (hv:bootBuiltins x=some (.type T)) (ha:PA X (e::es) t) (hn:x≠ "__name__" :=by decide) (hdb:(x == ("__debug__" :Str))=false:=by decide)
  (he:starEach (e::es) X.env=(false,eval e X.env)::starEach es X.env:=by rfl) (hpl:(backTo pos (starEach es X.env)).any (·.1)=false:=by rfl):PE X (.Call (.Name x p) (e::es) [] pos) (tCB r t):=by
 intro pins s σ H Q I h;refine wpAny_Call_Name_kw (zdJ I hg hm hv ?_ hn hdb);exact PyProof.Rows.callWith_type1 (thn (ha pos pins s σ H _ I h) fun us s1 ⟨vs,H1,I1,r1,q1⟩=>hc pins s1 σ H1 vs us Q I1 r1 q1) he hpl
end
end L2
namespace HT
open PySem PyProof.Rows
section
variable {prog:Program}{w:World}{A:Around}{E:Value→Shared→Prop}{s:Shared}
theorem cat_tup{t b:Addr}{vs ws:List Value}{Q:Value→Shared→Prop}(ht:IsTup s.heap t vs.toArray) (hb:IsTup s.heap b ws.toArray) (hv:vs≠ [])
  (h1:ws=[]→Q (.ref t) s) (h2:ws≠ []→Q (.ref s.heap.objs.size) { s with heap:=s.heap.push { cls:= .type "tuple",data:= .seq (vs++ws).toArray } })
  (hsz:vs.length+ws.length≤sizeLine):wpAny (model prog w) A (binaryOp .Add (.ref t) (.ref b)) Q E s:=by
 obtain⟨⟨cls,dd,data,sl⟩,ho,hc,n,hd⟩:=id ht;obtain⟨⟨cls2,dd2,data2,sl2⟩,ho2,hc2,n2,hd2⟩:=id hb;simp only at hc hd hc2 hd2;subst hc hd hc2 hd2;have e:vs.toArray++ws.toArray=(vs++ws).toArray:=by simp
 by_cases hw:ws=[]
 ·exact concat_meets ⟨_,ho,rfl⟩ ⟨_,ho2,rfl⟩ noFill_tuple_add seq_tuple_add PySem.F.slot_tuple_add PySem.F.entry_tuple_add (PySem.F.args_tuple_add_2 _ _)
   (tuple_addW1 t b vs.toArray ws.toArray n n2 dd dd2 sl sl2 (by simpa using hv) (by simp [hw])) ⟨ho,ho2,h1 hw⟩
 ·refine concat_meets ⟨_,ho,rfl⟩ ⟨_,ho2,rfl⟩ noFill_tuple_add seq_tuple_add PySem.F.slot_tuple_add PySem.F.entry_tuple_add (PySem.F.args_tuple_add_2 _ _)
   (tuple_addW2 t b vs.toArray ws.toArray n n2 dd dd2 sl sl2 (by simpa using hv) (by simpa using hw) (by rw [List.size_toArray,List.size_toArray];exact hsz)) ⟨ho,ho2,?_⟩
  rw [e];exact h2 hw
noncomputable def sIx (n d:Nat):Option Int→Nat
 |none=>d
 |some v=>if v<0 then(v+(n:Int)).toNat else min v.toNat n
theorem sIx_none (n d:Nat):sIx n d none=d:=rfl
theorem sIx_nat (n d k:Nat):sIx n d (some (k:Int))=min k n:=by
 show(if(k:Int)<0 then((k:Int)+(n:Int)).toNat else min (k:Int).toNat n)=min k n;rw [if_neg (by omega),Int.toNat_natCast]
theorem sIx_le (n d:Nat) (hd:d≤n) (o:Option Int):sIx n d o≤n:=by
 cases o with
 |none=>exact hd
 |some v=>
  show(if v<0 then(v+(n:Int)).toNat else min v.toNat n)≤n;by_cases hv:v<0
  ·rw [if_pos hv];omega
  ·rw [if_neg hv];exact Nat.min_le_right _ _
theorem zmW (v:Int) (n d:Nat):(if v<0 then max (v+(n:Int)) 0 else min v (n:Int))=((sIx n d (some v):Nat):Int):=by
 show(if v<0 then max (v+(n:Int)) 0 else min v (n:Int))=(((if v<0 then(v+(n:Int)).toNat else min v.toNat n):Nat):Int);by_cases hv:v<0
 ·simp only[if_pos hv];omega
 ·simp only[if_neg hv];omega
theorem zkW (lo hi:Option Int) (n:Nat):Builtin.Slice.sliceAdjust lo hi 1 (n:Int)=(((sIx n 0 lo:Nat):Int),((sIx n n hi:Nat):Int)):=by
 have h1:¬((1:Int)<0):=by omega
 unfold Builtin.Slice.sliceAdjust;simp only[h1,if_false];refine Prod.ext ?_ ?_
 ·cases lo with
  |none=>rfl
  |some v=>exact zmW v n 0
 ·cases hi with
  |none=>rfl
  |some v=>exact zmW v n n
theorem zkG (i j:Nat):Builtin.Slice.slicePlaces (i:Int) (j:Int) 1=j - i:=by
 unfold Builtin.Slice.slicePlaces;have h1:(1:Int) > 0:=by omega
 simp only[h1,if_true,Int.ediv_one];split<;>omega
theorem zga{v:Value}{o:Option Int}{Q:Option Int→Shared→Prop}(p:IsPart v o) (h:Q o s):wpAny (model prog w) A (Builtin.Slice.slicePartIndex v) Q E s:=by
 cases p with
 |none=>exact slicePart_none h
 |int i t=>exact slicePart_int h
theorem sliceApplied_gen{sl:Addr}{vl vu:Value}{lo hi:Option Int}{n:Nat}{Q:Int×Int×Nat→Shared→Prop}(hs:s.heap.IsSliceOf sl vl vu .none) (pl:IsPart vl lo) (pu:IsPart vu hi)
  (h:Q (((sIx n 0 lo:Nat):Int),1,sIx n n hi - sIx n 0 lo) s):wpAny (model prog w) A (Builtin.Slice.sliceApplied (.ref sl) (pure (n:Int))) Q E s:=by
 obtain⟨os,hos,hcs,hds⟩:=id hs;unfold Builtin.Slice.sliceApplied Builtin.Slice.sliceFields;refine wpAny_bind (wpAny_bind (wpAny_field hos hds (x:=vl) rfl (wpAny_bind (wpAny_field hos hds (x:=vu) rfl (wpAny_bind (wpAny_field hos hds (x:= .none) rfl (wpAny_pure ?_)))))));refine wpAny_bind (slicePart_none ?_);show wpAny _ _ (if((1:Int) == 0)=true then _ else _) _ _ s;rw [if_neg (by decide)];refine wpAny_bind (zga pl (wpAny_bind (zga pu (wpAny_bind (wpAny_pure ?_)))));show wpAny _ _ (match Builtin.Slice.sliceAdjust lo hi 1 (n:Int) with | (lo,hi)=>pure (lo,(1:Int),Builtin.Slice.slicePlaces lo hi 1)) _ _ s;rw [zkW lo hi n];show wpAny _ _ (pure (((sIx n 0 lo:Nat):Int),(1:Int),Builtin.Slice.slicePlaces ((sIx n 0 lo:Nat):Int) ((sIx n n hi:Nat):Int) 1)) _ _ s;rw [zkG];exact wpAny_pure h
theorem zot (xs:Array Value) (i k:Nat):((List.range k).filterMap fun(m:Nat)=>xs[((i:Int)+(m:Int)*1).toNat]?).toArray=((xs.toList.drop i).take k).toArray:=by
 have e:(fun(m:Nat)=>xs[((i:Int)+(m:Int)*1).toNat]?)=fun m=>xs[i+m]? :=by
  funext m;have:((i:Int)+(m:Int)*1).toNat=i+m:=by omega
  rw [this]
 rw [e];have:=pick_run xs i k;rw [List.filterMap_map]at this;have e2:((fun x=>xs[x]?)∘fun x=>i+x)=fun m=>xs[i+m]? :=rfl;rw [e2]at this;rw [this]
theorem getItem_tuple_cut{t sl:Addr}{items:Array Value}{vl vu:Value}{lo hi:Option Int}{Q:Value→Shared→Prop}(ht:IsTup s.heap t items) (hs:s.heap.IsSliceOf sl vl vu .none) (pl:IsPart vl lo) (pu:IsPart vu hi)
  (hw:¬(sIx items.size 0 lo=0∧sIx items.size items.size hi=items.size))
  (h:Q (.ref s.heap.objs.size) { s with heap:=s.heap.push { cls:= .type "tuple",data:= .seq ((items.toList.drop (sIx items.size 0 lo)).take (sIx items.size items.size hi - sIx items.size 0 lo)).toArray } })
  (hsz:items.size≤sizeLine):wpAny (model prog w) A (getItem (.ref t) (.ref sl)) Q E s:=by
 have htake:sizeOk (.seq ((items.toList.drop (sIx items.size 0 lo)).take (sIx items.size items.size hi - sIx items.size 0 lo)).toArray):=by
  show((items.toList.drop (sIx items.size 0 lo)).take (sIx items.size items.size hi - sIx items.size 0 lo)).toArray.size≤sizeLine;rw [List.size_toArray,List.length_take,List.length_drop,Array.length_toList];omega
 have hj:sIx items.size items.size hi≤items.size:=sIx_le _ _ (Nat.le_refl _) hi;obtain⟨os,hos,hcs,hds⟩:=id hs;have hTs:s.TypeIs (.ref sl) "slice" :=⟨os,hos,hcs⟩;unfold getItem
 try with_reducible refine wpAny_holding ?_
 first |refine wpAny_bind (wpAny_pure ?_) |skip
 refine wpAny_bind (wpAny_sequenceKey ht.typeIs (by decide) ?_);refine wpAny_bind (wpAny_callSpecial?_slot (name:=Str.ofString "__getitem__") ht.typeIs PyProof.Rows.slot_tuple_getitem
  (wpAny_call_entry PyProof.Rows.slot_tuple_getitem ht.typeIs entry_tuple_getitem ?_ (args_tuple_getitem _ _)))
 show wpAny _ _ (Builtin.Tuple.tupleItemsOf (.ref t) >>= _) _ _ s;refine wpAny_bind (tupleItemsOf_ ht ?_);refine wpAny_bind (wpAny_typeOf hTs ?_);rw [if_pos (by decide)];refine wpAny_bind (sliceApplied_gen hs pl pu ?_);have hno:¬((((sIx items.size 0 lo:Nat):Int) == 0&&(1:Int) == 1&&(sIx items.size items.size hi - sIx items.size 0 lo) == items.size)=true):=by
  intro q;rw [Bool.and_eq_true,Bool.and_eq_true]at q;have q1:((sIx items.size 0 lo:Nat):Int)=0:=eq_of_beq q.1.1;have q2:sIx items.size items.size hi - sIx items.size 0 lo=items.size:=eq_of_beq q.2;exact hw ⟨by omega,by omega⟩
 show wpAny _ _ (if(((sIx items.size 0 lo:Nat):Int) == 0&&(1:Int) == 1&&(sIx items.size items.size hi - sIx items.size 0 lo) == items.size)=true then _ else _) _ _ s;rw [if_neg hno,zot]
 first
  |exact wpAny_bind (m:=Builtin.Tuple.tupleExact _) (wpAny_newObj_type (wpAny_pure ⟨_,rfl,wpAny_pure h⟩) htake)
  |exact wpAny_bind (m:=Builtin.Tuple.tupleExact _) (wpAny_newObj_type (wpAny_bind (wpAny_pure (wpAny_pure ⟨_,rfl,wpAny_pure h⟩))) htake)
  |exact wpAny_bind (wpAny_bind (m:=Builtin.Tuple.tupleExact _) (wpAny_newObj_type (wpAny_pure (wpAny_pure ⟨_,rfl,wpAny_pure h⟩)) htake))
  |exact wpAny_bind (wpAny_bind (m:=Builtin.Tuple.tupleExact _) (wpAny_newObj_type (wpAny_pure ⟨_,rfl,wpAny_pure h⟩) htake))
end
end HT
namespace L2
open PySem PySem.Spec PyProof.Rows
noncomputable abbrev TO:=St→Hp→(Option Int→Hp→Prop)→Prop
noncomputable def PO (X:Cx) (e:Option Expr) (t:TO):Prop:=
 ∀(pins:List (Addr×Obj)) (s:Shared) (σ:St) (H:Hp) (Q:Option Int→Hp→Prop),Inv X pins σ H s→t σ H Q→
  wpAny (model X.prog X.w) X.A (evalPart e X.env) (fun u s'=>∃o H',Inv X pins σ H' s'∧IsPart u o∧Q o H') X.xe s
noncomputable def zri:TO:=fun _ H Q=>Q none H
noncomputable def zvb (t:TE):TO:=fun σ H Q=>t σ H fun x H1=>∃i,x= .int i∧Q (some i) H1
section
variable {X:Cx}{e:Expr}{te:TE}{lo hi:Option Expr}{tl th:TO}{pos p2:Pos}
theorem po_none:PO X none zri:=by
 intro pins s σ H Q I h;rw [evalPart_none];exact wpAny_pure ⟨none,H,I, .none,h⟩
theorem zqq (h:PE X e te):PO X (some e) (zvb te):=by
 intro pins s σ H Q I hw;rw [evalPart_some];refine thn (h pins s σ H _ I hw) fun u s1 ⟨x,H1,I1,r1,q1⟩=>?_;obtain⟨i,rfl,q⟩:=q1;obtain⟨t,rfl⟩:=r1;exact⟨some i,H1,I1, .int i t,q⟩
noncomputable def SlR (X:Cx) (r:V→Option Int→Option Int→Hp→VK→Prop):Prop:=
 ∀(pins:List (Addr×Obj)) (s:Shared) (σ:St) (H:Hp) (x:V) (v vl vu:Value) (lo hi:Option Int) (sl:Addr) (Q:VK),Inv X pins σ H s→RelV x v→s.heap.IsSliceOf sl vl vu .none→IsPart vl lo→IsPart vu hi→r x lo hi H Q→
  ∃T id,typeLookup (.type T) "__getitem__" =pure (some (.builtin id))∧s.TypeIs v T∧wpAny (model X.prog X.w) X.A (getItem v (.ref sl)) (EP X pins σ Q) X.xe s
theorem SlR.or{r r':V→Option Int→Option Int→Hp→VK→Prop}(h:SlR X r) (h':SlR X r'):SlR X (fun x lo hi H Q=>r x lo hi H Q∨r' x lo hi H Q):=by
 intro pins s σ H x v vl vu lo hi sl Q I rx hs pl pu q;rcases q with q |q
 ·exact h pins s σ H x v vl vu lo hi sl Q I rx hs pl pu q
 ·exact h' pins s σ H x v vl vu lo hi sl Q I rx hs pl pu q
noncomputable def tSl (r:V→Option Int→Option Int→Hp→VK→Prop) (te:TE) (tl th:TO):TE:=fun σ H Q=>te σ H fun x H1=>tl σ H1 fun l H2=>th σ H2 fun u H3=>r x l u H3 Q
theorem zjJ{r:V→Option Int→Option Int→Hp→VK→Prop}(hr:SlR X r) (he:PE X e te) (hl:PO X lo tl) (hu:PO X hi th):PE X (.Subscript e (.Slice lo hi none p2) pos) (tSl r te tl th):=by
 intro pins s σ H Q I h;refine Subscript_ (thn (he pins s σ H _ I h) fun v s1 ⟨x,H1,I1,r1,q1⟩=>?_);refine wpAny_Slice (thn (hl pins s1 σ H1 _ I1 q1) fun vl s2 ⟨l,H2,I2,pl,q2⟩=>thn (hu pins s2 σ H2 _ I2 q2) fun vu s3 ⟨u,H3,I3,pu,q3⟩=>?_);rw [evalPart_none];refine wpAny_pure ?_;have I4:Inv X pins σ H3 { s3 with heap:=s3.heap.push { cls:= .type "slice",data:= .fields #[vl,vu, .none] } }:=I3.kept (t':=s3.toks) fun b ob q=>Heap.get?_push_of_some _ q;obtain⟨T,id,hT,ht,hg⟩:=hr pins { s3 with heap:=s3.heap.push { cls:= .type "slice",data:= .fields #[vl,vu, .none] } } σ H3 x v vl vu l u s3.heap.objs.size Q I4 r1 (Heap.IsSliceOf.new ..) pl pu q3;show wpAny (model X.prog X.w) X.A (subscriptTail e (.Slice lo hi none p2) v (.ref s3.heap.objs.size)) (EP X pins σ Q) X.xe { s3 with heap:=s3.heap.push { cls:= .type "slice",data:= .fields #[vl,vu, .none] } };exact tail_any (ops:=[.ref s3.heap.objs.size,v]) ht hT hg (by with_unfolding_all rfl)
noncomputable def znb (xs:List V) (lo hi:Option Int):List V:=(xs.drop (HT.sIx xs.length 0 lo)).take (HT.sIx xs.length xs.length hi - HT.sIx xs.length 0 lo)
theorem zfA (xs:List V) (lo hi:Option Int):(znb xs lo hi).length≤xs.length:=by
 unfold znb;rw [List.length_take,List.length_drop];omega
noncomputable def zwY (K:PySem.W.Frag):V→Option Int→Option Int→Hp→VK→Prop:=fun x lo hi H Q=>∃a xs,x= .ref a∧SqT K H a xs∧
 ¬(HT.sIx xs.length 0 lo=0∧HT.sIx xs.length xs.length hi=xs.length)∧ ∀p,H p=none→Q (.ref p) (upd H p (.tup (znb xs lo hi)))
theorem zuz:SlR X (zwY X.K):=by
 intro pins s σ H x v vl vu lo hi sl Q I rx hs pl pu h;obtain⟨a,xs,rfl,hx,hw,q⟩:=h;cases rx;obtain⟨its,r,ht,hz⟩:=I.tuple hx;have hlen:its.toArray.size=xs.length:=by rw [List.size_toArray];exact r.length.symm
 refine⟨"tuple",_,PyProof.Rows.slot_tuple_getitem.lookup,ht.typeIs,?_⟩;refine HT.getItem_tuple_cut ht hs pl pu (by rw [hlen];exact hw) ?_ (by rw [hlen];exact hz);rw [hlen];refine⟨.ref s.heap.objs.size,_,I.laid (t':=s.toks) (o:= .tup (znb xs lo hi)) (fun b ob q=>Heap.get?_push_of_some _ q) (Nat.le_refl _) ?_,rfl,q _ (I.hok.fresh (Nat.le_refl _))⟩;exact⟨Nat.le_trans (zfA xs lo hi) hz,_,(r.drop (HT.sIx xs.length 0 lo)).take (HT.sIx xs.length xs.length hi - HT.sIx xs.length 0 lo),IsTup.new _ _⟩
noncomputable def zrI (K:PySem.W.Frag):R2:=fun x y H Q=>∃a b xs ys,x= .ref a∧y= .ref b∧SqT K H a xs∧SqT K H b ys∧xs≠ []∧xs.length+ys.length≤sizeLine∧
 (ys=[]→Q (.ref a) H)∧(ys≠ []→ ∀p,H p=none→Q (.ref p) (upd H p (.tup (xs++ys))))
theorem Vals.nil_iff{xs:List V}{us:List Value}(r:Vals xs us):us=[]↔xs=[]:=by
 cases r with
 |nil=>simp
 |cons _ _=>simp
theorem op_catT:OpR X (binaryOp .Add) (zrI X.K):=by
 intro pins s σ H x y v u Q I rx ry h;obtain⟨a,b,xs,ys,rfl,rfl,ha,hb,hx,hz,q1,q2⟩:=h;cases rx;cases ry;obtain⟨its,r1,p1,_⟩:=I.tuple ha;obtain⟨its2,r2,p2,_⟩:=I.tuple hb;refine HT.cat_tup p1 p2 (fun z=>hx (r1.nil_iff.mp z)) (fun z=>⟨.ref a,H,I,rfl,q1 (r2.nil_iff.mp z)⟩) (fun z=>?_) (by rw [←r1.length,←r2.length];exact hz);refine⟨.ref s.heap.objs.size,_,I.laid (t':=s.toks) (o:= .tup (xs++ys)) (fun b ob q=>Heap.get?_push_of_some _ q) (Nat.le_refl _) ?_,rfl,q2 (fun w=>z (r2.nil_iff.mpr w)) _ (I.hok.fresh (Nat.le_refl _))⟩;exact⟨by rw [List.length_append];exact hz,_,r1.append r2,IsTup.new _ _⟩
end
noncomputable def ixN (n:Nat) (i:Int):Option Nat:=if 0≤i then(if i<n then some i.toNat else none) else if -(n:Int)≤i then some (i+n).toNat else none
noncomputable def atI {α:Type}(xs:List α) (i:Int):Option α:=(ixN xs.length i).bind fun j=>xs[j]?
theorem zmS{n:Nat}{i:Int}{j:Nat}(h:ixN n i=some j):seqIndex? i n=some j∧j<n∧ -(n:Int)≤i∧i<n:=by
 unfold ixN at h;by_cases h0:0≤i
 ·rw [if_pos h0]at h;by_cases h1:i<n
  ·rw [if_pos h1]at h;have e:i.toNat=j:=Option.some.inj h;exact⟨by rw [seqIndex_of h0 h1,e],by omega,by omega,h1⟩
  ·rw [if_neg h1]at h;cases h
 ·rw [if_neg h0]at h;by_cases h1: -(n:Int)≤i
  ·rw [if_pos h1]at h;have e:(i+n).toNat=j:=Option.some.inj h;exact⟨by rw [seqIndex_neg (by omega) h1,e],by omega,h1,by omega⟩
  ·rw [if_neg h1]at h;cases h
theorem zji{α:Type}{xs:List α}{i:Int}{v:α}(h:atI xs i=some v):∃j,seqIndex? i xs.length=some j∧xs[j]? =some v∧j<xs.length∧ -(xs.length:Int)≤i∧i<xs.length:=by
 unfold atI at h;cases e:ixN xs.length i with
 |none=>rw [e]at h;cases h
 |some j=>
  rw [e]at h;obtain⟨h1,h2,h3,h4⟩:=zmS e;exact⟨j,h1,h,h2,h3,h4⟩
theorem ziS{α:Type}{xs:List α}{j:Nat}{v:α}(h:xs[j]? =some v):atI xs (j:Int)=some v:=by
 have hj:j<xs.length:=(List.getElem?_eq_some_iff.mp h).1;have e:ixN xs.length (j:Int)=some j:=by
  unfold ixN;rw [if_pos (by omega),if_pos (by omega)];simp
 unfold atI;rw [e];exact h
noncomputable def zjv (b:Expr):Prop:=∀o i,subscripted b false o i=operate [o,i] (getItem o i)
noncomputable def IxR (X:Cx) (r:R2):Prop:=
 ∀(value slice:Expr) (pins:List (Addr×Obj)) (s:Shared) (σ:St) (H:Hp) (x y:V) (v u:Value) (Q:VK),Inv X pins σ H s→RelV x v→RelV y u→r x y H Q→
  subscripted slice false v u=operate [v,u] (getItem v u)→wpAny (model X.prog X.w) X.A (subscriptTail value slice v u) (EP X pins σ Q) X.xe s
noncomputable def MtR (X:Cx) (id:String) (r:V→List V→Hp→VK→Prop):Prop:=
 ∀(pins:List (Addr×Obj)) (s:Shared) (σ:St) (H:Hp) (x:V) (xs:List V) (v:Value) (us:List Value) (Q:VK),Inv X pins σ H s→RelV x v→Vals xs us→r x xs H Q→
  wpAny (model X.prog X.w) X.A (call (.builtin id) (v::us)) (EP X pins σ Q) X.xe s
section
variable {X:Cx}{a b:Expr}{ta tb:TE}{pos:Pos}
theorem IxR.or{r r':R2}(h:IxR X r) (h':IxR X r'):IxR X (fun x y H Q=>r x y H Q∨r' x y H Q):=by
 intro value slice pins s σ H x y v u Q I rx ry q hs;rcases q with q |q
 ·exact h value slice pins s σ H x y v u Q I rx ry q hs
 ·exact h' value slice pins s σ H x y v u Q I rx ry q hs
theorem MtR.or{id:String}{r r':V→List V→Hp→VK→Prop}(h:MtR X id r) (h':MtR X id r'):MtR X id (fun x xs H Q=>r x xs H Q∨r' x xs H Q):=by
 intro pins s σ H x xs v us Q I rx rs q;rcases q with q |q
 ·exact h pins s σ H x xs v us Q I rx rs q
 ·exact h' pins s σ H x xs v us Q I rx rs q
theorem zsR{r:R2}(hr:IxR X r) (ha:PE X a ta) (hb:PE X b tb) (hs:zjv b):PE X (.Subscript a b pos) (tOp r ta tb):=by
 intro pins s σ H Q I h;exact Subscript_ (zvo ha hb I h fun v u s2 x y H2 I2 rx ry q=>hr a b pins s2 σ H2 x y v u Q I2 rx ry q (hs _ _))
noncomputable def zws (K:PySem.W.Frag):R2:=fun x y H Q=>∃p xs i v,x= .ref p∧y= .int i∧SqL K H p xs∧atI xs i=some v∧Q v H
noncomputable def zwt (K:PySem.W.Frag):R2:=fun x y H Q=>∃p xs i v,x= .ref p∧y= .int i∧SqT K H p xs∧atI xs i=some v∧Q v H
noncomputable def zwr:R2:=fun x y H Q=>∃z i c,x= .str z∧y= .int i∧z.length≤sizeLine∧atI z.cps.toList i=some c∧Q (.str ⟨#[c]⟩) H
theorem ix_list:IxR X (zws X.K):=by
 intro value slice pins s σ H x y v u Q I rx ry h hs;obtain⟨p,xs,i,z,rfl,rfl,hq,he,q⟩:=h;cases rx;obtain⟨t,rfl⟩:=ry;obtain⟨its,r,pl,hz⟩:=I.list hq;obtain⟨j,h1,h2,h3,h4,h5⟩:=zji he;obtain⟨w,ew,rw'⟩:=r.get h2;have hl:=r.length;have hn:=zfJ;have fin:EP X pins σ Q w s:=⟨z,H,I,rw',q⟩;by_cases h0:0≤i
 ·have hj:i.toNat=j:=by
   rw [seqIndex_of h0 h5]at h1;exact Option.some.inj h1
  exact item_listR pl.isList h0 (by omega) (by rw [hj];simpa using ew) fin hs
 ·have hj:(i+(its.toArray.size:Int)).toNat=j:=by
   rw [seqIndex_neg (by omega) h4]at h1;rw [List.size_toArray,←hl];exact Option.some.inj h1
  exact subscriptTail_builtinR (x:=w) pl.isList.typeIs slot_list_getitem.lookup
   (wpAny_getItem_list_neg (Q:=fun r s'=>r=w∧EP X pins σ Q r s') pl.isList (by omega) (by rw [List.size_toArray]<;>omega) (by omega) (by rw [hj];simpa using ew) ⟨rfl,fin⟩) hs
theorem ix_tup:IxR X (zwt X.K):=by
 intro value slice pins s σ H x y v u Q I rx ry h hs;obtain⟨p,xs,i,z,rfl,rfl,hq,he,q⟩:=h;cases rx;obtain⟨t,rfl⟩:=ry;obtain⟨its,r,pl,hz⟩:=I.tuple hq;obtain⟨j,h1,h2,h3,h4,h5⟩:=zji he;obtain⟨w,ew,rw'⟩:=r.get h2;have hl:=r.length;have hn:=zfJ;have fin:EP X pins σ Q w s:=⟨z,H,I,rw',q⟩;exact subscriptTail_builtinR (x:=w) pl.typeIs slot_tuple_getitem.lookup
  (getItem_tuple (j:=j) (Q:=fun r s'=>r=w∧EP X pins σ Q r s') pl (by omega) (by omega) (by rw [List.size_toArray,←hl];exact h1) (by simpa using ew) ⟨rfl,fin⟩) hs
theorem zsk:IxR X zwr:=by
 intro value slice pins s σ H x y v u Q I rx ry h hs;obtain⟨z,i,c,rfl,rfl,hz,he,q⟩:=h;obtain⟨t,rfl⟩:=rx;obtain⟨t',rfl⟩:=ry;obtain⟨j,h1,h2,h3,h4,h5⟩:=zji he;have hl:z.cps.toList.length=z.length:=by simp [Str.length]
 rw [hl]at h1 h4 h5;have hn:=zfJ;exact tail_any (typeIs_str s z t) slot_str_getitem.lookup (getItem_str (c:=c) (by
  have e1:decide (i< -(2 ^ 63:Int))=false:=decide_eq_false (by omega);have e2:decide (i≥2 ^ 63)=false:=decide_eq_false (by omega);rw [e1,e2,Bool.or_false]) (by rw [h1];simpa using h2) ⟨.str ⟨#[c]⟩,H,I.tok _,⟨_,rfl⟩,q⟩) hs
noncomputable def rIx (K:PySem.W.Frag):R2:=fun x y H Q=>zws K x y H Q∨zwt K x y H Q∨zwr x y H Q
theorem zpw:IxR X (rIx X.K):=ix_list.or (ix_tup.or zsk)
theorem zkS (its:List Value) (n j:Nat) (u:Value):Obj.mapSeq (·.setIfInBounds j u) { cls:= .type "list",data:= .seq its.toArray n }={ cls:= .type "list",data:= .seq (its.set j u).toArray n }:=by
 simp [Obj.mapSeq]
theorem Inv.lst{pins:List (Addr×Obj)}{σ:St}{H:Hp}{s:Shared}{p:Addr}{xs:List V}(I:Inv X pins σ H s) (h:H p=some (.lst xs)) :
  ∃(its:List Value) (n:Nat),Vals xs its∧s.heap.get? p=some { cls:= .type "list",data:= .seq its.toArray n }∧xs.length≤sizeLine:=by
 obtain⟨z,its,n,r,e⟩:=I.hok p _ h;exact⟨its,n,r,e,z⟩
theorem Inv.lstUpd{pins:List (Addr×Obj)}{σ:St}{H:Hp}{s:Shared}{p:Addr}{xs ys:List V}{its its':List Value}{n n':Nat}{f:Obj→Obj}(I:Inv X pins σ H s) (h:H p=some (.lst xs))
  (ho:s.heap.get? p=some { cls:= .type "list",data:= .seq its.toArray n }) (hf:f { cls:= .type "list",data:= .seq its.toArray n }={ cls:= .type "list",data:= .seq its'.toArray n' }) (r:Vals ys its') (hz:ys.length≤sizeLine) (t:Nat) :
  Inv X pins σ (upd H p (.lst ys)) { s with heap:=s.heap.update p f,toks:=t }:=by
 have e:(s.heap.update p f).get? p=some { cls:= .type "list",data:= .seq its'.toArray n' }:=by
  rw [Heap.get?_update_self f ho (by rw [hf]<;>rfl),hf]
 refine I.write (x:=p) (e:=p) (by rw [h];trivial) (.inl rfl) (fun b u hb q=>(Heap.get?_update_other _ _ (Ne.symm hb)).trans q) ⟨_,e⟩ ?_;exact⟨hz,its',n',r,e⟩
noncomputable def zvJ:V→V→V→Hp→(Hp→Prop)→Prop:=fun o i v H Q=>∃p xs k j,o= .ref p∧i= .int k∧H p=some (.lst xs)∧ixN xs.length k=some j∧Q (upd H p (.lst (xs.set j v)))
theorem zpm:zwq X zvJ:=by
 intro pins s σ H o i v ov iv u Q I ro ri rv h;obtain⟨p,xs,k,j,rfl,rfl,hp,hj,q⟩:=h;cases ro;obtain⟨t,rfl⟩:=ri;obtain⟨its,n,r,ho,hz⟩:=I.lst hp;obtain⟨h1,h2,h3,h4⟩:=zmS hj;have hl:=r.length;have hn:=zfJ;have I':Inv X pins σ (upd H p (.lst (xs.set j v))) { s with heap:=s.heap.update p (Obj.mapSeq (·.setIfInBounds j u)) }:=
  I.lstUpd hp ho (zkS its n j u) (r.set rv j) (by rw [List.length_set];exact hz) s.toks
 by_cases h0:0≤k
 ·have hk:k.toNat=j:=by
   rw [seqIndex_of h0 h4]at h1;exact Option.some.inj h1
  exact PySem.W.ki_setAt ho h0 (by omega) (by rw [List.size_toArray,←hl];exact h4) (by rw [hk];exact⟨_,I',q⟩)
 ·have hk:(k+(its.toArray.size:Int)).toNat=j:=by
   rw [seqIndex_neg (by omega) h3]at h1;rw [List.size_toArray,←hl];exact Option.some.inj h1
  exact PySem.W.ki_setBack ho (by omega) (by rw [List.size_toArray,←hl];exact h3) (by omega) (by rw [hk];exact⟨_,I',q⟩)
theorem zhO (lo hi:Option Int) (n:Nat):(sliceBounds lo hi none n).1=((HT.sIx n 0 lo:Nat):Int)∧(sliceBounds lo hi none n).2.1=((HT.sIx n n hi:Nat):Int)∧(sliceBounds lo hi none n).2.2=1:=by
 refine⟨?_,?_,rfl⟩
 ·cases lo with
  |none=>simp [sliceBounds,HT.sIx]
  |some i=>
   simp only[sliceBounds,HT.sIx,Option.getD_none,show(1:Int) > 0 by decide,if_true]
   by_cases h:i<0
   ·simp only[h,if_true]<;>omega
   ·simp only[h,if_false]<;>omega
 ·cases hi with
  |none=>simp [sliceBounds,HT.sIx]
  |some i=>
   simp only[sliceBounds,HT.sIx,Option.getD_none,show(1:Int) > 0 by decide,if_true]
   by_cases h:i<0
   ·simp only[h,if_true]<;>omega
   ·simp only[h,if_false]<;>omega
theorem zgR (its:List Value) (lo hi:Option Int):slicePick its.toArray lo hi none=((its.drop (HT.sIx its.length 0 lo)).take (HT.sIx its.length its.length hi - HT.sIx its.length 0 lo)).toArray:=by
 obtain⟨h1,h2,h3⟩:=zhO lo hi its.toArray.size;unfold slicePick;rw [h1,h2,h3];simp only[sliceRange_one,pick_run,List.size_toArray]<;>rfl
noncomputable def zxf (K:PySem.W.Frag):V→Option Int→Option Int→Hp→VK→Prop:=fun x lo hi H Q=>∃a xs,x= .ref a∧SqL K H a xs∧ ∀p,H p=none→Q (.ref p) (upd H p (.lst (znb xs lo hi)))
theorem zlx:SlR X (zxf X.K):=by
 intro pins s σ H x v vl vu lo hi sl Q I rx hs pl pu h;obtain⟨a,xs,rfl,hx,q⟩:=h;cases rx;obtain⟨its,r,ht,hz⟩:=I.list hx;have hlen:=r.length;refine⟨"list",_,slot_list_getitem.lookup,ht.isList.typeIs,?_⟩;refine wpAny_getItem_list_slice ht.isList hs pl pu .none (by simp) ?_ (by rw [List.size_toArray]<;>omega);rw [zgR,←hlen];refine⟨.ref s.heap.objs.size,_,I.laid (t':=s.toks) (o:= .lst (znb xs lo hi)) (fun b ob q=>Heap.get?_push_of_some _ q) (Nat.le_refl _) ?_,rfl,q _ (I.hok.fresh (Nat.le_refl _))⟩;exact⟨Nat.le_trans (zfA xs lo hi) hz,_,0,(r.drop (HT.sIx xs.length 0 lo)).take (HT.sIx xs.length xs.length hi - HT.sIx xs.length 0 lo),Heap.get?_push_size _ rfl⟩
theorem call_len_seq:CallR X (.builtin "len") (fun xs H Q=>∃p ys,xs=[.ref p]∧(SqL X.K H p ys∨SqT X.K H p ys)∧Q (.int ys.length) H):=by
 intro pins s σ H xs us Q I r h;obtain⟨p,ys,rfl,hq,q⟩:=h;obtain⟨u,rfl,rx⟩:=zgG r;cases rx;have hn:=zfJ;rcases hq with hq |hq
 ·obtain⟨its,r',pl,hz⟩:=I.list hq;have hlen:=r'.length;exact Calls.call_len_list pl.isList (by simp only[List.size_toArray]<;>omega) ⟨.int ys.length,H,I.tok _,⟨s.toks+1,by rw [List.size_toArray,hlen]⟩,q⟩
 ·obtain⟨its,r',pl,hz⟩:=I.tuple hq;have hlen:=r'.length;exact len_tuple pl (by simp only[List.size_toArray]<;>omega) ⟨.int ys.length,H,I.tok _,⟨s.toks+1,by rw [List.size_toArray,hlen]⟩,q⟩
theorem zii:CallR X (.builtin "len") (fun xs H Q=>∃z,xs=[.str z]∧z.length≤sizeLine∧Q (.int z.length) H):=by
 intro pins s σ H xs us Q I r h;obtain⟨z,rfl,hz,q⟩:=h;obtain⟨u,rfl,t,rfl⟩:=zgG r;have hn:=zfJ;exact len_str (by omega) ⟨.int z.length,H,I.tok _,⟨_,rfl⟩,q⟩
theorem CallR.or{f:Value}{r r':List V→Hp→VK→Prop}(h:CallR X f r) (h':CallR X f r'):CallR X f (fun xs H Q=>r xs H Q∨r' xs H Q):=by
 intro pins s σ H xs us Q I rs q;rcases q with q |q
 ·exact h pins s σ H xs us Q I rs q
 ·exact h' pins s σ H xs us Q I rs q
theorem zhv:CallR X (.type "list") (fun xs H Q=>∃p ys,xs=[.ref p]∧(SqL X.K H p ys∨SqT X.K H p ys)∧ ∀l,H l=none→Q (.ref l) (upd H l (.lst ys))):=by
 intro pins s σ H xs us Q I r h;obtain⟨p,ys,rfl,hq,q⟩:=h;obtain⟨u,rfl,rx⟩:=zgG r;cases rx;have fin:∀(its:List Value),Vals ys its→ys.length≤sizeLine→ ∀(h':Heap) (c':Nat),(∀b o',s.heap.get? b=some o'→h'.get? b=some o')→
   h'.get? s.heap.objs.size=some { cls:= .type "list",dict:=none,data:= .seq its.toArray c',slots:= #[] }→EP X pins σ Q (.ref s.heap.objs.size) { s with heap:=h' }:=fun its r' hz h' c' kp e=>
  ⟨.ref s.heap.objs.size,_,I.laid (t':=s.toks) kp (Nat.le_refl _) (show ObjOk X.prog X.w _ h' _ (.lst ys) from⟨hz,its,c',r',e⟩),rfl,q _ (I.hok.fresh (Nat.le_refl _))⟩
 rcases hq with hq |hq
 ·obtain⟨its,r',pl,hz⟩:=I.list hq;have hlen:=r'.length;obtain⟨o,ho,hc,n,hd⟩:=pl.isList;exact call_list_seq p (.inl rfl) ho hc hd (fun h' c' kp e=>fin its r' hz h' c' kp e) (by simp only[List.size_toArray]<;>omega)
 ·obtain⟨its,r',pl,hz⟩:=I.tuple hq;have hlen:=r'.length;obtain⟨o,ho,hc,n,hd⟩:=pl;exact call_list_seq p (.inr rfl) ho hc hd (fun h' c' kp e=>fin its r' hz h' c' kp e) (by simp only[List.size_toArray]<;>omega)
theorem zeu:CallR X (.type "tuple") (fun xs H Q=>∃p ys,xs=[.ref p]∧((SqL X.K H p ys∧ ∀l,H l=none→Q (.ref l) (upd H l (.tup ys)))∨(SqT X.K H p ys∧Q (.ref p) H))):=by
 intro pins s σ H xs us Q I r h;obtain⟨p,ys,rfl,h⟩:=h;obtain⟨u,rfl,rx⟩:=zgG r;cases rx;rcases h with⟨hq,q⟩ |⟨hq,q⟩
 ·obtain⟨its,r',pl,hz⟩:=I.list hq;have hlen:=r'.length;refine call_tuple_list pl.isList (fun h' kp=>?_) (by simp only[List.size_toArray]<;>omega);have I1:Inv X pins σ H { s with heap:=h' }:=I.kept (t':=s.toks) kp;have I2:Inv X pins σ (upd H h'.objs.size (.tup ys)) { s with heap:=h'.push { cls:= .type "tuple",data:= .seq its.toArray } }:=
   I1.laid (t':=s.toks) (fun b o e=>Heap.get?_push_of_some _ e) (Nat.le_refl _) (show ObjOk X.prog X.w _ _ _ (.tup ys) from⟨hz,its,r',IsTup.new _ _⟩)
  exact⟨.ref h'.objs.size,_,I2,rfl,q _ (I1.hok.fresh (Nat.le_refl _))⟩
 ·obtain⟨its,r',pl,hz⟩:=I.tuple hq;exact call_tuple_same pl ⟨.ref p,H,I,rfl,q⟩
noncomputable def tyV (K:PySem.W.Frag) (T:String) (x:V) (H:Hp):Prop:=match x with
 | .str _=>T= "str"
 | .int _=>T= "int"
 | .ref p=>(T= "list" ∧ ∃xs,SqL K H p xs)∨(T= "tuple" ∧ ∃o,K.lookup p=some o∧o.cls= .type "tuple" ∧o.dict=none)∨
   (T= "dict" ∧((∃kvs,H p=some (.dK kvs))∨ ∃kvs,H p=some (.dT kvs)))∨(T= "set" ∧ ∃S n,H p=some (.set S n))
 |_=>False
theorem zpA{pins:List (Addr×Obj)}{σ:St}{H:Hp}{s:Shared}{T:String}{x:V}{v:Value}(I:Inv X pins σ H s) (r:RelV x v) (ty:tyV X.K T x H) :
  s.TypeIs v T∧ ∀a,v= .ref a→ ∃ob,s.heap.get? a=some ob∧ob.dict=none:=by
 cases x with
 |str z=>
  obtain⟨t,rfl⟩:=r;cases(show T= "str" from ty);exact⟨typeIs_str s z t,fun _ e=>nomatch e⟩
 |int i=>
  obtain⟨t,rfl⟩:=r;cases(show T= "int" from ty);exact⟨typeIs_int s i t,fun _ e=>nomatch e⟩
 |ref p=>
  cases r;rcases ty with⟨rfl,xs,hq⟩ |⟨rfl,o,hk,hc,hd⟩ |⟨rfl,hk⟩ |⟨rfl,S,n,hk⟩
  ·obtain⟨its,_,pl,_⟩:=I.list hq;refine⟨pl.isList.typeIs,fun a e=>?_⟩;cases e;obtain⟨o,n,e,c,hd,_⟩:=pl;exact⟨o,e,hd⟩
  ·refine⟨⟨o,I.kIn p o hk,hc⟩,fun a e=>?_⟩;cases e;exact⟨o,I.kIn _ o hk,hd⟩
  ·have z:∃o,s.heap.get? p=some o∧o.ExactDict:=by
    rcases hk with⟨kvs,hk⟩ |⟨kvs,hk⟩
    ·obtain⟨_,_,_,_,o,_,_,e,ex,_⟩:=I.hok p _ hk;exact⟨o,e,ex⟩
    ·obtain⟨_,_,_,_,o,_,_,e,ex,_⟩:=I.hok p _ hk;exact⟨o,e,ex⟩
   obtain⟨o,e,ex⟩:=z;refine⟨⟨o,e,ex.1⟩,fun a e2=>?_⟩;cases e2;exact⟨o,e,ex.2.1⟩
  ·obtain⟨o,_,_,_,e,ex,_⟩:=I.hok p _ hk;refine⟨⟨o,e,ex.1⟩,fun a e2=>?_⟩;cases e2;exact⟨o,e,ex.2.1⟩
 |_=>exact False.elim ty
noncomputable def zxh (K:PySem.W.Frag) (T:String) (r:V→List V→Hp→VK→Prop) (to:TE):TE:=fun σ H Q=>to σ H fun x H1=>tyV K T x H1∧r x [] H1 Q
noncomputable def tBM (K:PySem.W.Frag) (T:String) (r:V→List V→Hp→VK→Prop) (to:TE) (t:TA):TE:=fun σ H Q=>to σ H fun x H1=>tyV K T x H1∧t σ H1 fun xs H2=>r x xs H2 Q
variable {o e:Expr}{es:List Expr}{to:TE}{t:TA}{name:Str}{apos cpos:Pos}{T id:String}{r:V→List V→Hp→VK→Prop}
theorem zug (pa:PlainAttrs T) (slot:Slot T name id) (hty:typeOf (.builtin id)=pure (.type "method_descriptor")) (hm:MtR X id r) (ho:PE X o to)
  (hbase:attributeBase o name X.env (eval o X.env)=eval o X.env:=by rfl) (hline:(apos.endLine == cpos.line)=true:=by rfl):PE X (.Call (.Attribute o name apos) [] [] cpos) (zxh X.K T r to):=by
 intro pins s σ H Q I h;refine wpAny_Call_method0_late hbase hline (thn (ho pins s σ H _ I h) fun v s1 ⟨x,H1,I1,r1,ty,q1⟩=>?_);obtain⟨h1,h2⟩:=zpA I1 r1 ty;exact⟨T,id,pa,slot,hty,h1,h2,Calls.callWith_builtin rfl (PySem.evalArgs_none (hm pins s1 σ H1 x [] v [] Q I1 r1 .nil q1))⟩
theorem zus (pa:PlainAttrs T) (slot:Slot T name id) (hty:typeOf (.builtin id)=pure (.type "method_descriptor")) (hm:MtR X id r) (ho:PE X o to) (ha:PA X (e::es) t)
  (hbase:attributeBase o name X.env (eval o X.env)=eval o X.env:=by rfl)
  (hfew:((backTo cpos (starEach (e::es) X.env)).all (fun x=> !x.1)&&(backToKw cpos (keywordEach [] X.env)).all (fun x=>x.1.isSome)
   &&decide ((e::es).length+([]:List Keyword).length+(if([]:List Keyword).isEmpty then 0 else 1)<30))=true:=by rfl)
  (hline:(apos.endLine == cpos.line)=true:=by rfl) (hs:starEach (e::es) X.env=(false,eval e X.env)::starEach es X.env:=by rfl) (hplain:(backTo cpos (starEach es X.env)).any (·.1)=false:=by rfl) :
  PE X (.Call (.Attribute o name apos) (e::es) [] cpos) (tBM X.K T r to t):=by
 intro pins s σ H Q I h;refine wpAny_Call_method_late hbase hfew hline rfl (thn (ho pins s σ H _ I h) fun v s1 ⟨x,H1,I1,r1,ty,q1⟩=>?_);obtain⟨h1,h2⟩:=zpA I1 r1 ty;refine⟨T,id,pa,slot,hty,h1,h2,?_⟩;have hA:=ha cpos pins s1 σ H1 _ I1 q1;rw [hs]at hA⊢;refine Calls.callWith_builtin (by show(false || (backTo cpos (starEach es X.env)).any (·.1))=false;rw [hplain]<;>rfl) (Calls.evalArgs_plain ?_)
 exact thn hA fun us s2 ⟨vs,H2,I2,r2,q2⟩=>hm pins s2 σ H2 x vs v us Q I2 r1 r2 q2
end
noncomputable def MtM (X:Cx) (id:String) (r:V→List V→Hp→VK→Prop):Prop:=
 ∀(pins:List (Addr×Obj)) (s:Shared) (σ:St) (H:Hp) (x:V) (xs:List V) (v:Value) (us:List Value) (Q:VK),Inv X pins σ H s→RelV x v→Vals xs us→r x xs H Q→
  wpAny (model X.prog X.w) X.A (call (.builtin id) (v::us)) (EP X pins σ Q) X.xe s
theorem Vals.one:∀{x:V}{us:List Value},Vals [x] us→ ∃u,us=[u]∧RelV x u
 |_,_, .cons r .nil=>⟨_,rfl,r⟩
theorem Vals.zero:∀{us:List Value},Vals [] us→us=[]
 |_, .nil=>rfl
theorem Vals.dropLast{xs:List V}{us:List Value}(h:Vals xs us):Vals xs.dropLast us.dropLast:=by
 induction h with
 |nil=>exact .nil
 |cons r t ih=>
  cases t with
  |nil=>exact .nil
  |cons q t'=>exact .cons r ih
theorem Vals.rep{xs:List V}{us:List Value}(h:Vals xs us):∀k:Nat,Vals (List.replicate k xs).flatten (List.replicate k us).flatten
 |0=> .nil
 |k+1=>by
  rw [List.replicate_succ,List.replicate_succ,List.flatten_cons,List.flatten_cons];exact Vals.append h (Vals.rep h k)
theorem zkR{α:Type}(l:List α):l.eraseIdx (l.length - 1)=l.dropLast:=by
 induction l with
 |nil=>rfl
 |cons a r ih=>
  cases r with
  |nil=>rfl
  |cons b r=>
   have e:(a::b::r).length - 1=((b::r).length - 1)+1:=by
    have h1:(a::b::r).length=r.length+2:=rfl;have h2:(b::r).length=r.length+1:=rfl;omega
   rw [e,List.eraseIdx_cons_succ,ih]
   all_goals rfl
theorem zfv (its:List Value):∀(k:Nat) (acc:List Value),
  List.foldl (fun x1 x2=>x1++x2) acc.toArray (List.replicate k its.toArray)=(acc++(List.replicate k its).flatten).toArray
 |0,acc=>by simp
 |k+1,acc=>by
  have e:acc.toArray++its.toArray=(acc++its).toArray:=by simp
  have e2:(acc++its)++(List.replicate k its).flatten=acc++(List.replicate (k+1) its).flatten:=by
   rw [List.replicate_succ,List.flatten_cons,List.append_assoc]
  rw [←e2,←zfv its k (acc++its),←e,List.replicate_succ,List.foldl_cons]
section
variable {X:Cx}{pins:List (Addr×Obj)}{σ:St}{H:Hp}{s:Shared}{l:Addr}{xs ys:List V}
theorem Inv.lset{its its':List Value}{n:Nat}{f:Array Value→Array Value}{t':Nat}(I:Inv X pins σ H s) (hH:H l=some (.lst xs))
  (e:s.heap.get? l=some { cls:= .type "list",data:= .seq its.toArray n }) (hf:f its.toArray=its'.toArray) (hv:Vals ys its') (hz:ys.length≤sizeLine) :
  Inv X pins σ (upd H l (.lst ys)) { s with heap:=s.heap.update l (Obj.mapSeq f),toks:=t' }:=by
 have q:=PySem.IsL.update e f;rw [hf]at q;refine I.write (x:=l) (e:=l) (by rw [hH];exact trivial) (.inl rfl) (fun b' u hb hu=>(Heap.get?_update_other s.heap (Obj.mapSeq f) (Ne.symm hb)).trans hu) ⟨_,q⟩ ?_;exact⟨hz,its',_,hv,q⟩
theorem Inv.lnew{its:List Value}{t':Nat}(I:Inv X pins σ H s) (hv:Vals ys its) (hz:ys.length≤sizeLine) :
  Inv X pins σ (upd H s.heap.objs.size (.lst ys)) { s with heap:=s.heap.push { cls:= .type "list",data:= .seq its.toArray },toks:=t' }:=
 I.laid (fun _ _ q=>Heap.get?_push_of_some _ q) (Nat.le_refl _) ⟨hz,its,0,hv,Heap.get?_push_size _ rfl⟩
theorem Inv.fresh (I:Inv X pins σ H s):H s.heap.objs.size=none:=I.hok.fresh (Nat.le_refl _)
theorem Inv.lstM (I:Inv X pins σ H s) (hH:H l=some (.lst xs)):xs.length≤sizeLine∧ ∃(its:List Value) (n:Nat),Vals xs its∧xs.length=its.length∧s.heap.get? l=some { cls:= .type "list",data:= .seq its.toArray n }:=by
 obtain⟨z,its,n,r,e⟩:=I.hok l _ hH;exact⟨z,its,n,r,r.length,e⟩
theorem zgM{n:Nat}(h:n≤sizeLine):Builtin.List.listTooLong n=false:=by
 unfold Builtin.List.listTooLong;exact decide_eq_false (by omega)
end
section
variable {X:Cx}
noncomputable def zmk:V→List V→Hp→VK→Prop:=fun x vs H Q=>∃l xs y,x= .ref l∧vs=[y]∧H l=some (.lst xs)∧xs.length<sizeLine∧Q .non (upd H l (.lst (xs++[y])))
theorem zht:MtM X "list.append" zmk:=by
 intro pins s σ H x vs v us Q I rx rv h;obtain⟨l,xs,y,rfl,rfl,hH,hz,q⟩:=h;cases rx;obtain⟨u,rfl,ru⟩:=rv.one;obtain⟨z,its,n,r,hl,e⟩:=I.lstM hH;refine call_meets F.slot_list_append ⟨_,e,rfl⟩ F.entry_list_append (F.args_list_append_2 _ _) (PySem.list_append l its.toArray n u (by rw [List.size_toArray];omega)) ⟨e,?_⟩;refine⟨.non,_,I.lset (its':=its++[u]) hH e (by simp) (r.append (.cons ru .nil)) ?_,rfl,q⟩;rw [List.length_append,List.length_singleton];omega
noncomputable def zma:V→List V→Hp→VK→Prop:=fun x vs H Q=>∃l b xs zs,x= .ref l∧vs=[.ref b]∧H l=some (.lst xs)∧H b=some (.lst zs)∧xs.length+zs.length≤sizeLine∧Q .non (upd H l (.lst (xs++zs)))
theorem zlO:MtM X "list.extend" zma:=by
 intro pins s σ H x vs v us Q I rx rv h;obtain⟨l,b,xs,zs,rfl,rfl,hH,hB,hz,q⟩:=h;cases rx;obtain⟨u,rfl,ru⟩:=rv.one;cases ru;obtain⟨z,its,n,r,hl,e⟩:=I.lstM hH;obtain⟨z2,its2,n2,r2,hl2,e2⟩:=I.lstM hB;have hsz:its.toArray.size+its2.toArray.size≤sizeLine:=by rw [List.size_toArray,List.size_toArray];omega
 have hlong:¬(!its.toArray.isEmpty&&Builtin.List.listTooLong (its.toArray.size+its2.toArray.size))=true:=by
  rw [zgM hsz,Bool.and_false];exact Bool.false_ne_true
 refine call_meets F.slot_list_extend ⟨_,e,rfl⟩ F.entry_list_extend (F.args_list_extend_2 _ _)
  (AutoSeq1.list_extend_list_list_0 l its.toArray n b its2.toArray n2 hlong (by rw [List.size_toArray];omega) (by omega)) ⟨e,e2,?_⟩
 refine⟨.non,_,I.lset (its':=its++its2) hH e (by simp) (r.append r2) ?_,rfl,q⟩;rw [List.length_append];omega
noncomputable def zwu:V→List V→Hp→VK→Prop:=fun x vs H Q=>∃l xs y,x= .ref l∧vs=[]∧H l=some (.lst xs)∧xs[xs.length - 1]? =some y∧Q y (upd H l (.lst xs.dropLast))
theorem zsA:MtM X "list.pop" zwu:=by
 intro pins s σ H x vs v us Q I rx rv h;obtain⟨l,xs,y,rfl,rfl,hH,hy,q⟩:=h;cases rx;have hus:=rv.zero;subst hus;obtain⟨z,its,n,r,hl,e⟩:=I.lstM hH;obtain⟨u,hu,ru⟩:=r.get hy;have hy':its.toArray[its.toArray.size - 1]? =some u:=by
  show its.toArray[its.length - 1]? =some u;rw [←Array.getElem?_toList,←hl];exact hu
 refine call_meets F.slot_list_pop ⟨_,e,rfl⟩ F.entry_list_pop (F.args_list_pop_1 _) (MeetsSeq.list_pop_last l its.toArray n u hy' (by rw [List.size_toArray];omega)) ⟨e,?_⟩;refine⟨y,_,I.lset (its':=its.dropLast) hH e ?_ r.dropLast ?_,ru,q⟩
 ·show its.toArray.eraseIdxIfInBounds (its.toArray.size - 1)=its.dropLast.toArray;rw [List.size_toArray,List.eraseIdxIfInBounds_toArray,zkR]
 ·rw [List.length_dropLast];omega
noncomputable def zvS:R2:=fun x y H Q=>∃l b xs zs,x= .ref l∧y= .ref b∧H l=some (.lst xs)∧H b=some (.lst zs)∧xs.length+zs.length≤sizeLine∧ ∀p,H p=none→Q (.ref p) (upd H p (.lst (xs++zs)))
theorem zlo:OpR X (binaryOp .Add) zvS:=by
 intro pins s σ H x y v u Q I rx ry h;obtain⟨l,b,xs,zs,rfl,rfl,hH,hB,hz,q⟩:=h;cases rx;cases ry;obtain⟨z,its,n,r,hl,e⟩:=I.lstM hH;obtain⟨z2,its2,n2,r2,hl2,e2⟩:=I.lstM hB;refine PySem.P.add_list e e2 ?_ (by rw [List.size_toArray,List.size_toArray];omega);have ea:its.toArray++its2.toArray=(its++its2).toArray:=by simp
 rw [ea];exact⟨.ref _,_,I.lnew (t':=s.toks) (r.append r2) (by rw [List.length_append];omega),rfl,q _ I.fresh⟩
noncomputable def zwJ:R2:=fun x y H Q=>∃l k xs,x= .ref l∧y= .int k∧H l=some (.lst xs)∧ -(2 ^ 63)≤k∧k<2 ^ 63∧xs.length*k.toNat≤sizeLine∧
 ∀p,H p=none→Q (.ref p) (upd H p (.lst (List.replicate k.toNat xs).flatten))
theorem zmr{α:Type}(xs:List α) (k:Nat):(List.replicate k xs).flatten.length=k*xs.length:=by
 induction k with
 |zero=>simp
 |succ k ih=>rw [List.replicate_succ,List.flatten_cons,List.length_append,ih,Nat.succ_mul,Nat.add_comm]
theorem zut:OpR X (binaryOp .Mult) zwJ:=by
 intro pins s σ H x y v u Q I rx ry h;obtain⟨l,k,xs,rfl,rfl,hH,h1,h2,hz,q⟩:=h;cases rx;obtain⟨t,rfl⟩:=ry;obtain⟨z,its,n,r,hl,e⟩:=I.lstM hH;have hlen:its.toArray.size*k.toNat≤sizeLine:=by rw [List.size_toArray,←hl];exact hz
 have hcap:¬its.toArray.size*k.toNat > (2 ^ 63 - 1) / 8:=by
  have:(sizeLine:Nat)≤(2 ^ 63 - 1) / 8:=by decide
  omega
 have hfit:¬(!Builtin.List.listFitsIndex k)=true:=by
  rw [fitsIndex_both h1 h2];exact Bool.false_ne_true
 have hlong:¬Builtin.List.listTooLong (its.toArray.size*k.toNat)=true:=by
  rw [zgM hlen];exact Bool.false_ne_true
 have hnew:List.foldl (fun x1 x2=>x1++x2) #[] (List.replicate (if its.toArray.isEmpty=true then 0 else k.toNat) its.toArray)=(List.replicate k.toNat its).flatten.toArray:=by
  have f0:∀m:Nat,List.foldl (fun x1 x2=>x1++x2) #[] (List.replicate m its.toArray)=(List.replicate m its).flatten.toArray:=fun m=>by
   have:=zfv its m [];rw [List.nil_append]at this;exact this
  rw [f0];cases its with
  |nil=>simp
  |cons a r'=>rw [if_neg (by simp)]
 refine wpAny_binaryOp_repeat_ref (T:= "list") (U:= "int") (by decide) ⟨_,e,rfl⟩ (fun s'=>typeIs_int s' k t) noFill_list_mul F.fills_int_mul F.slot_int_rmul repeat_list F.slot_int_index.lookup
  (call_meets F.slot_int_rmul (typeIs_int s k t) F.entry_int_rmul (F.args_int_rmul_2 _ _) (int___rmul___int_list k t l its.toArray n)
   ⟨e,rfl,⟨_,e,rfl⟩,call_meets F.slot_list_mul ⟨_,e,rfl⟩ F.entry_list_mul (F.args_list_mul_2 _ _) (AutoListH.list___mul___list_int_3 l its.toArray n k t hfit hcap hlong) ⟨e,?_⟩⟩)
 rw [hnew];exact⟨.ref _,_,I.lnew (t':=s.toks) (r.rep k.toNat) (by rw [zmr,Nat.mul_comm];exact hz),rfl,q _ I.fresh⟩
end
end L2
namespace Att
open PySem PySem.W PySem.Calls PyProof.Rows
theorem zfR{P:Params}{h:Heap}:∀(ns:List Int) (vs:List Value),WellAll P h vs (ns.map WData.int)→IntsAre vs ns:=by
 intro ns
 induction ns with
 |nil=>
  intro vs w;rw [List.map_nil]at w;cases w;exact .nil
 |cons n ns ih=>
  intro vs w;rw [List.map_cons]at w;cases w with
  |cons a b=>
   cases a;exact .cons _ _ (ih _ b)
theorem zlW{l:OpenLaw}{n:Nat}(hn:l.most=some n) {P:Params}{h:Heap}{args:List WData}{vals:List Value}
  (hpre:l.row.toRowW.claim.pre args=true) (hwl:WellAll P h vals args) :
  ∃a vs ns,vals=[Value.ref a]∧args=[WData.list (ns.map WData.int)]∧h.get? a=some { cls:= .type "list",data:= .seq vs.toArray }∧IntsAre vs ns∧ns.length≤n:=by
 have hsh:WShape.hasAll [] args [.list .int]=true:=(pre_splitW hpre).1;have hc:l.pre.holds [] { args:=args }=true:=(pre_splitW hpre).2;obtain⟨d,r,rfl,h1,h2⟩:=hasAllW_cons hsh;obtain rfl:=hasAllW_nil h2;obtain⟨xs,rfl,h3⟩:=hasW_list h1;obtain⟨ns,rfl⟩:=items_int h3;have hlen:ns.length≤n:=by
  unfold OpenLaw.pre at hc;have h4:(WTm.not (.lt (.lit (.int (n:Int))) (.len (.arg 0)))).holds [] { args:=[.list (ns.map .int)] }=true:=by
   have h4:=(holds_andW hc).1;rw [hn]at h4;exact h4
  have h5:=condW_of h4 (w_not (w_lt w_lit (w_len_list (w_arg rfl))));rw [List.length_map]at h5;refine Nat.le_of_not_lt fun q=>?_;have q':(n:Int)<((ns.length:Nat):Int):=by omega
  first
   | (rw [decide_eq_true q']at h5;exact absurd h5 (by decide))
   | (simp at h5;omega)
 cases hwl with
 |cons w1 w2=>
  cases w2;cases w1 with
  |list ho hall=>exact⟨_,_,ns,rfl,rfl,ho,zfR ns _ hall,hlen⟩
theorem znL (l:OpenLaw) (args:List WData):l.row.toRowW.claim.post args (.bool true) args=true:=
 postW_of (r:=l.row.toRowW) (X:=(true == true))
  (show WShape.has [] (.bool true) .bool=true by first |rfl |decide |simp [WShape.has,WShape.arms,WShape.armsAll])
  (show(WTm.eq .res (.lit (.bool true))).value [] { args:=args,res:=some (.bool true),after:=args }=some (.bool (true == true)) from w_eq_bool (w_res rfl) w_lit) rfl
theorem attach_call{l:OpenLaw}{n:Nat}{q:Program}{loose:List Str}{XP:(Str→Option Value)→Heap→Prop}{YP:World→Heap→Prop}{d:DefRec}
  (hn:l.most=some n) (hdf:d.params.defaults=[])
  (call:∀(w:World) (s₀ s₁:Shared) (mg mb:Str→Option Value) (fa:Addr) (o:Obj) (pm cd doc:Value) (a:Addr) (vs:List Value) (ns:List Int),
   Ground q loose [] XP w s₀ mg mb s₁.heap→YP w s₁.heap→
   s₁.heap.get? fa=some o→o.data= .func (docDef d.name d.params d.body d.scope pm cd doc)→s₁.heap.CodeRec cd d.name→mg d.name=some (.ref fa)→
   s₁.heap.get? a=some { cls:= .type "list",data:= .seq vs.toArray }→IntsAre vs ns→ns.length≤n→s₁.gens= #[]→
   codeAny (model l.prog w) callerA (.call (.ref fa) ⟨[.ref a],[]⟩) (fun r s'=>r= .ok (.ret (.bool true))∧OldK s₁.heap s'.heap∧s'.os=s₁.os∧AllBare s'.gens) s₁) :
  WalkO q loose XP YP l.row.toRowW d [] (fun f vs=>PySem.call f vs):=by
 intro w s₀ s₁ mg mb G Y fa o pm cd doc dV kV ho hd hcd hD hmg hg args vals as hpre hlay hrd hwl hlo;obtain rfl:dV= .none:=Dflts.none hD hdf;obtain rfl:kV= .none:=Dflts.noKw hD;obtain⟨a,vs,ns,rfl,rfl,hobj,hints,hlen⟩:=zlW hn hpre hwl;refine enter_call (codeAny_mono (call w s₀ s₁ mg mb fa o pm cd doc a vs ns G Y ho (fd_plain hd) hcd hmg hobj hints hlen hg) fun r s' hq=>?_);obtain⟨rfl,h2,h3,h4⟩:=hq;exact⟨.inl ⟨.bool true, .bool true,[],rfl,fun _=>rfl, .bool true,znL l _,fun _=>⟨List.Pairwise.nil,fun _ hm=>(nomatch hm)⟩⟩,h2,h3,h4⟩
end Att
namespace L2
open PySem PySem.Spec PyProof.Rows
theorem ziu:∀{vs:List Value}{ns:List Int},IntsAre vs ns→Vals (ns.map V.int) vs
 |_,_, .nil=> .nil
 |_,_, .cons n t h=> .cons ⟨t,rfl⟩ (ziu h)
noncomputable def zuF (H:Hp):Prop:=∀b,H b=none∨ ∃o xs,H b=some (.frz o (.lst xs))
theorem zof{P:Program}{w:World}{K:PySem.W.Frag}{mg mb:Str→Option Value}{CX:CXT}{k:Nat}{fa a:Addr}{fd:FuncData}{x:Str}{sp:Sp}{s₁:Shared}{vs:List Value}{ns:List Int}
  (KX:K.In s₁.heap) (hns:s₁.heap.Ns mainGlobals mg) (hb:s₁.heap.Ns builtinsNs mb) (hbb:∀x:Str,x≠ "__name__" →mb x=bootBuiltins x) (hlim:s₁.heap.NoLimit) (hg:s₁.gens= #[])
  (ha:s₁.heap.get? a=some { cls:= .type "list",data:= .seq vs.toArray }) (hi:IntsAre vs ns) (hl:ns.length≤sizeLine) (hr:Room k callerA)
  (F:∀base:Heap,K.In base→base.Ns mainGlobals mg→FnOk P w K mg base CX k fa fd [x] sp) (hbind:∀(s:Shared) (u:Value),BindsTo s fd ⟨[u],[]⟩ [(x,u)])
  (hsp:∀H:Hp,zuF H→SqL K H a (ns.map V.int)→sp [.ref a] H (fun v _=>v= .bl true) fun _ _ _=>False)
  (hCX:∀H e s',CX [] H s₁ (fun _ _ _=>False) e s'→False) :
  codeAny (model P w) callerA (.call (.ref fa) ⟨[.ref a],[]⟩) (fun r s'=>r= .ok (.ret (.bool true))∧OldK s₁.heap s'.heap∧s'.os=s₁.os∧AllBare s'.gens) s₁:=by
 have rv:=ziu hi;have lenV:=hi.length;have core:∀H:Hp,zuF H→SqL K H a (ns.map V.int)→HOk P w H s₁.heap→(∀b,H b≠none→b=a)→(H a≠none→K.lookup a=none)→
   codeAny (model P w) callerA (.call (.ref fa) ⟨[.ref a],[]⟩) (fun r s'=>r= .ok (.ret (.bool true))∧OldK s₁.heap s'.heap∧s'.os=s₁.os∧AllBare s'.gens) s₁:=by
  intro H hO hS hok hA hK;have base_of:∀{b:Addr}{o:Obj},s₁.heap.get? b=some o→H b=none→(zoY s₁.heap H).get? b=some o:=fun e n=>zpq e n;have noA:∀{b:Addr}{o:Obj}{es:Array DictEntry}{ep:Nat},s₁.heap.get? b=some o→o.data= .dict es ep→H b=none:=fun {b o es ep} e d=>by
   cases q:H b with
   |none=>rfl
   |some u=>
    have e':b=a:=hA b (by rw [q];simp);subst e';rw [ha]at e;cases e;have d':Data.seq vs.toArray _=Data.dict es ep:=d;cases d'
  have nsK:∀{b:Addr}{m:Str→Option Value},s₁.heap.Ns b m→(zoY s₁.heap H).Ns b m:=fun {b m} ⟨o,es,ep,e,d,r⟩=>⟨o,es,ep,base_of e (noA e d),d,r⟩;have hKb:K.In (zoY s₁.heap H):=fun b o e=>base_of (KX b o e) (by
   cases q:H b with
   |none=>rfl
   |some u=>
    have e':b=a:=hA b (by rw [q];simp);subst e';rw [hK (by rw [q];simp)]at e;cases e)
  have hM:Mod K mg (zoY s₁.heap H):=⟨hKb,nsK hns,⟨mb,nsK hb,hbb⟩,let ⟨mc,h1,h2⟩:=hlim;⟨mc,nsK h1,h2⟩⟩;have e0:Env0 P w K mg (zoY s₁.heap H) callerA [] s₁ H:=⟨rfl,hM,fun b o e=>zrf e,Nat.le_of_eq (zmP _ _),trivial,fun b hb=>absurd (show b∈([]:List Addr) from hb) (by simp),hok, .of_eq hg⟩;refine codeAny_mono ((F _ hKb (nsK hns)).run callerA [] s₁ H ⟨[.ref a],[]⟩ [.ref a] [.ref a] _ _ hr e0 (hbind s₁ (.ref a)) (.cons rfl .nil) (hsp H hO hS)) fun r s' h=>?_;cases r with
  |error e=>exact(hCX H e s' h).elim
  |ok fl=>
   cases fl with
   |next=>exact False.elim h
   |brk=>exact False.elim h
   |cont=>exact False.elim h
   |ret u=>
    obtain⟨v,H',os,bare,un,hok',r',q⟩:=h;have q':v= .bl true:=q;subst q';obtain rfl:u=Value.bool true:=r';refine⟨rfl,OldK.of_keep fun b o e=>?_,os,bare⟩;cases q:H b with
    |none=>exact un.keep b o e q (by intro z;exact absurd (show b∈([]:List Addr) from z) (by simp)) (by simp)
    |some u=>
     rcases hO b with z |⟨ob,xs,z⟩
     ·rw [q]at z;cases z
     ·have z2:=un.frzs b ob _ z;obtain⟨e1,_⟩:=hok b _ z;obtain⟨e2,_⟩:=hok' b _ z2;rw [e]at e1;cases e1;exact e2
 cases hk:K.lookup a with
 |some o=>
  have e:=KX a o hk;rw [ha]at e;cases e;refine core (fun _=>none) (fun _=> .inl rfl) (.inr ⟨_,vs.toArray,_,hk,rfl,rfl,rfl,by rw [List.size_toArray,lenV];exact hl,by simpa using rv⟩) (fun b u z=>by have z':(none:Option HO)=some u:=z;cases z') (fun b z=>absurd rfl z) fun z=>absurd rfl z
 |none=>
  refine core (fun b=>if b=a then some (.frz { cls:= .type "list",data:= .seq vs.toArray } (.lst (ns.map V.int))) else none) (fun b=>?_) (.inl (.inr ⟨{ cls:= .type "list",data:= .seq vs.toArray },if_pos rfl⟩)) (fun b u z=>?_) (fun b z=>?_) fun _=>hk
  ·by_cases hb:b=a
   ·exact .inr ⟨_,_,if_pos hb⟩
   ·exact .inl (if_neg hb)
  ·by_cases hb:b=a
   ·have z':=(if_pos hb).symm.trans z;cases z';subst hb;exact⟨ha,by rw [List.length_map];exact hl,vs,_,rv,ha⟩
   ·have z':=(if_neg hb).symm.trans z;cases z'
  ·by_cases hb:b=a
   ·exact hb
   ·exact absurd (if_neg hb) z
theorem zrM{l:PySem.W.OpenLaw}{n k:Nat}{q:Program}{loose:List Str}{XP:(Str→Option Value)→Heap→Prop}{YP:World→Heap→Prop}{d:DefRec}{K:Params→PySem.W.Frag}{CX:World→CXT}{sp:World→Sp}{x:Str}
  (hn:l.most=some n) (hn2:n≤sizeLine) (hdf:d.params.defaults=[]) (hr:Room k callerA)
  (hY:∀(w:World) (h:Heap),YP w h→(K w.params).In h)
  (F:∀(w:World) (mg:Str→Option Value) (fa:Addr) (h:Heap),(K w.params).In h→h.Ns mainGlobals mg→mg d.name=some (.ref fa)→
   ∃fd:FuncData,(∀(s:Shared) (u:Value),BindsTo s fd ⟨[u],[]⟩ [(x,u)])∧
    ∀base:Heap,(K w.params).In base→base.Ns mainGlobals mg→FnOk l.prog w (K w.params) mg base (CX w) k fa fd [x] (sp w))
  (hsp:∀(w:World) (H:Hp) (a:Addr) (ns:List Int),ns.length≤n→zuF H→SqL (K w.params) H a (ns.map V.int)→sp w [.ref a] H (fun v _=>v= .bl true) fun _ _ _=>False)
  (hCX:∀(w:World) (H:Hp) (s:Shared) (e:Value) (s':Shared),CX w [] H s (fun _ _ _=>False) e s'→False) :
  PySem.W.WalkO q loose XP YP l.row.toRowW d [] (fun f vs=>PySem.call f vs):=by
 refine Att.attach_call hn hdf fun w s₀ s₁ mg mb fa o pm cd doc a vs ns G Y ho hd hcd hmg hobj hints hlen hg=>?_;have KX:=hY w _ Y;obtain⟨fd,hb,hF⟩:=F w mg fa _ KX G.T.g hmg;exact zof KX G.T.g G.T.b G.T.builtins G.T.nolimit hg hobj hints (Nat.le_trans hlen hn2) hr hF hb (fun H hO hS=>hsp w H a ns hlen hO hS) fun H e s'=>hCX w H s₁ e s'
noncomputable def zfO (s:Stmt):Arguments:=match s with
 | .FunctionDef _ a _ _ _ _ _ _ _ _=>a
 |_=>{ posonlyargs:=[],args:=[],vararg:=none,kwonlyargs:=[],kw_defaults:=[],kwarg:=none,defaults:=[] }
noncomputable def zeP (s:Stmt):List Stmt:=match s with
 | .FunctionDef _ _ b _ _ _ _ _ _ _=>b
 |_=>[]
noncomputable def zan (s:Stmt):Scope:=match s with
 | .FunctionDef _ _ _ _ _ _ sc _ _ _=>sc
 |_=>{ kind:= .function,names:=[],isGenerator:=false,isCoroutine:=false }
structure Fun (K:PySem.W.Frag) (x qual:Str) (st:Stmt) (f:Addr) (fd:FuncData):Prop where
  ex:∃(oc:Value) (od:Option Addr) (kV doc pm:Value) (an:Option Addr) (cdv ct:Value) (osl:Array (Option Value)),
    fd=PySem.W.fnOf x qual (zfO st) (zeP st) (zan st) .none kV doc pm an cdv ct∧K.lookup f=some ⟨oc,od, .func fd,osl⟩∧PySem.W.codeIn K cdv qual=true
  kp:PySem.W.keepIn K (.ref f)=true
section
variable {K:PySem.W.Frag}
theorem Fun.binds{x qual:Str}{st:Stmt}{f:Addr}{fd:FuncData}{ps:List Str}(F:Fun K x qual st f fd)
  (h:∀(kV doc pm:Value) (an:Option Addr) (cdv ct:Value) (us:List Value),us.length=ps.length→bindArgs (PySem.W.fnOf x qual (zfO st) (zeP st) (zan st) .none kV doc pm an cdv ct) ⟨us,[]⟩=pure (ps.zip us)):Binds K fd ps []:=by
 obtain⟨oc,od,kV,doc,pm,an,cdv,ct,osl,rfl,lk,hcd⟩:=F.ex;exact .all (h kV doc pm an cdv ct)
theorem zsN{x qual:Str}{st:Stmt}{f:Addr}{oc:Value}{od an:Option Addr}{osl:Array (Option Value)}{kV doc pm cdv ct:Value}(l:K.lookup f=some ⟨oc,od, .func (PySem.W.fnOf x qual (zfO st) (zeP st) (zan st) .none kV doc pm an cdv ct),osl⟩)
  (c:PySem.W.codeIn K cdv qual=true) (k:PySem.W.keepIn K (.ref f)=true):Fun K x qual st f (PySem.W.fnOf x qual (zfO st) (zeP st) (zan st) .none kV doc pm an cdv ct):=⟨⟨oc,od,kV,doc,pm,an,cdv,ct,osl,rfl,l,c⟩,k⟩
end
theorem zwG{A B:Prop}(h:B):if false=true then A else B:=by
 rw [if_neg Bool.false_ne_true];exact h
theorem zwZ{A B:Prop}(h:A):if true=true then A else B:=by
 rw [if_pos rfl];exact h
noncomputable def Same (H H':Hp):Prop:=∀b o,H b=some o→H' b=some o
theorem Same.trans{H H1 H2:Hp}(a:Same H H1) (b:Same H1 H2):Same H H2:=fun c o h=>b c o (a c o h)
section
variable {κ:Type} [DecidableEq κ]
noncomputable def zkw (kvs:List (κ×V)) (k:κ):Option V:=(kvs.find? fun kv=>decide (kv.1=k)).map (·.2)
noncomputable def zjL (kvs:List (κ×V)) (k:κ) (v:V):List (κ×V):=
 if(kvs.any fun kv=>decide (kv.1=k))=true then kvs.map (fun kv=>if kv.1=k then(kv.1,v) else kv) else kvs++[(k,v)]
theorem zfo{p:κ×V}{r:List (κ×V)}{k:κ}(e:p.1=k):zkw (p::r) k=some p.2:=by simp [zkw,List.find?_cons,e]
theorem zfr{p:κ×V}{r:List (κ×V)}{k:κ}(e:¬p.1=k):zkw (p::r) k=zkw r k:=by simp [zkw,List.find?_cons,e]
theorem zjE (k:κ):∀kvs:List (κ×V),(kvs.any fun kv=>decide (kv.1=k))=(zkw kvs k).isSome
 | []=>rfl
 |p::r=>by
  rw [List.any_cons];by_cases e:p.1=k
  ·simp only[zfo e,decide_eq_true e,Bool.true_or,Option.isSome_some]
  ·rw [zfr e,decide_eq_false e,Bool.false_or];exact zjE k r
theorem zfC (kvs:List (κ×V)) (k:κ) (v:V):(zjL kvs k v).length≤kvs.length+1:=by
 unfold zjL;split
 ·rw [List.length_map];omega
 ·rw [List.length_append,List.length_cons,List.length_nil];omega
theorem RelO.isSome_eq{o:Option V}{u:Option Value}(r:RelO o u):o.isSome=u.isSome:=by
 cases o with
 |none=>cases u with
  |none=>rfl
  |some _=>exact(show False from r).elim
 |some _=>cases u with
  |none=>exact(show False from r).elim
  |some _=>rfl
theorem RelO.getD{o:Option V}{u:Option Value}{d:V}{d':Value}(r:RelO o u) (rd:RelV d d'):RelV (o.getD d) (u.getD d'):=by
 cases o with
 |none=>cases u with
  |none=>exact rd
  |some _=>exact(show False from r).elim
 |some _=>cases u with
  |none=>exact(show False from r).elim
  |some _=>exact r
theorem KV.val{kvs:List (κ×V)}{vs:List (κ×Value)}(r:KV kvs vs) (k:κ):RelO (zkw kvs k) (valueAt vs k):=by
 unfold KV at r
 induction r with
 |nil=>exact True.intro
 | @cons p q ps qs h t ih=>
  obtain⟨h1,h2⟩:=h;by_cases e:p.1=k
  ·have e':q.1=k:=h1.symm.trans e;have b:valueAt (q::qs) k=some q.2:=by simp [valueAt,List.find?_cons,e']
   rw [zfo e,b];exact h2
  ·have e':¬q.1=k:=fun z=>e (h1.trans z);have b:valueAt (q::qs) k=valueAt qs k:=by simp [valueAt,List.find?_cons,e']
   rw [zfr e,b];exact ih
theorem KV.any{kvs:List (κ×V)}{vs:List (κ×Value)}(r:KV kvs vs) (k:κ):(kvs.any fun kv=>decide (kv.1=k))=vs.any fun kv=>decide (kv.1=k):=by
 unfold KV at r
 induction r with
 |nil=>rfl
 |cons h t ih=>rw [List.any_cons,List.any_cons,ih,h.1]
theorem KV.repl{kvs:List (κ×V)}{vs:List (κ×Value)}(r:KV kvs vs) (k:κ) {y:V}{u:Value}(ry:RelV y u) :
  KV (kvs.map fun kv=>if kv.1=k then(kv.1,y) else kv) (vs.map fun kv=>if kv.1=k then(kv.1,u) else kv):=by
 unfold KV at r⊢
 induction r with
 |nil=>exact .nil
 | @cons p q ps qs h t ih=>
  rw [List.map_cons,List.map_cons];refine .cons ?_ ih;obtain⟨h1,h2⟩:=h;by_cases e:p.1=k
  ·rw [if_pos e,if_pos (h1.symm.trans e)];exact⟨h1,ry⟩
  ·rw [if_neg e,if_neg (fun z=>e (h1.trans z))];exact⟨h1,h2⟩
theorem KV.put{kvs:List (κ×V)}{vs:List (κ×Value)}(r:KV kvs vs) (k:κ) {y:V}{u:Value}(ry:RelV y u):KV (zjL kvs k y) (stored vs k u):=by
 unfold zjL stored;rw [r.any k];by_cases e:(vs.any fun kv=>decide (kv.1=k))=true
 ·rw [if_pos e,if_pos e];exact r.repl k ry
 ·rw [if_neg e,if_neg e];exact Paired.snoc r ⟨rfl,ry⟩
theorem KV.length{kvs:List (κ×V)}{vs:List (κ×Value)}(r:KV kvs vs):kvs.length=vs.length:=Paired.length r
end
theorem zoi{P:Program}{w:World}{k:Key}{u:Value}(r:RelV (kV k) u):(zbM P w).is k u=true:=by
 cases k with
 |inl i=>obtain⟨t,e⟩:=(show ∃t,u=Value.int i t from r);subst e;exact ziL P w i t
 |inr x=>obtain⟨t,e⟩:=(show ∃t,u=Value.str x t from r);subst e;exact ziX P w x t
theorem ziw{P:Program}{w:World}:∀{ks:List Key}{us:List Value},Vals (ks.map kV) us→ItemsAre (zbM P w) ks us
 | [],_,r=>by rw [List.map_nil]at r;cases r;exact .nil
 |k::ks,_,r=>by
  rw [List.map_cons]at r;cases r with
  |cons h t=>exact .cons (zoi h) (ziw t)
noncomputable abbrev KT (H:Hp):List (List Key×V)→List (List Key×Addr×Value)→Prop:=Paired fun p q=>p.1=q.1∧H q.2.1=some (.tup (p.1.map kV))∧RelV p.2 q.2.2
theorem KT.val{H:Hp}{kvs:List (List Key×V)}{xs:List (List Key×Addr×Value)}(r:KT H kvs xs) (k:List Key):RelO (zkw kvs k) ((atKey xs k).map (·.2)):=by
 induction r with
 |nil=>exact True.intro
 | @cons p q ps qs h t ih=>
  obtain⟨h1,_,h2⟩:=h;by_cases e:p.1=k
  ·have e':q.1=k:=h1.symm.trans e;have b:atKey (q::qs) k=some q.2:=by simp [atKey,List.find?_cons,e']
   rw [zfo e,b];exact h2
  ·have e':¬q.1=k:=fun z=>e (h1.trans z);have b:atKey (q::qs) k=atKey qs k:=by simp [atKey,List.find?_cons,e']
   rw [zfr e,b];exact ih
theorem KT.repl{H:Hp}{kvs:List (List Key×V)}{xs:List (List Key×Addr×Value)}(r:KT H kvs xs) (k:List Key) {y:V}{u:Value}(ry:RelV y u) :
  KT H (kvs.map fun kv=>if kv.1=k then(kv.1,y) else kv) (xs.map (putAt k u)):=by
 induction r with
 |nil=>exact .nil
 | @cons p q ps qs h t ih=>
  rw [List.map_cons,List.map_cons];refine .cons ?_ ih;obtain⟨h1,h2,h3⟩:=h;unfold putAt;by_cases e:p.1=k
  ·rw [if_pos e,if_pos (h1.symm.trans e)];exact⟨h1,h2,ry⟩
  ·rw [if_neg e,if_neg (fun z=>e (h1.trans z))];exact⟨h1,h2,h3⟩
theorem KT.put{H:Hp}{kvs:List (List Key×V)}{xs:List (List Key×Addr×Value)}(r:KT H kvs xs) (k:List Key) {b:Addr}{y:V}{u:Value}(hb:H b=some (.tup (k.map kV))) (ry:RelV y u) :
  KT H (zjL kvs k y) (storedH xs k b u):=by
 have e:(kvs.any fun kv=>decide (kv.1=k))=(atKey xs k).isSome:=by
  rw [zjE,(r.val k).isSome_eq,Option.isSome_map]
 unfold zjL storedH;rw [e];by_cases q:(atKey xs k).isSome=true
 ·rw [if_pos q,if_pos q];exact r.repl k ry
 ·rw [if_neg q,if_neg q];exact Paired.snoc r ⟨rfl,hb,ry⟩
theorem KT.keeps{H H':Hp}{kvs:List (List Key×V)}{xs:List (List Key×Addr×Value)}(r:KT H kvs xs) (ht:∀b ys,H b=some (.tup ys)→H' b=some (.tup ys)):KT H' kvs xs:=
 Paired.mapP r fun _ _ z=>⟨z.1,ht _ _ z.2.1,z.2.2⟩
section
variable {P:Program}{w:World}{H:Hp}{h:Heap}{a:Addr}
theorem ztA{u:HO}(ok:HOk P w H h) (e:Rd H a u):ObjOk P w H h a u:=e.ok ok
theorem zoe{kvs:List (Key×V)}(ok:HOk P w H h) (e:Rd H a (.dK kvs)):kvs.length≤sizeLine∧(a == sysModules)=false∧ ∃vs,KV kvs vs∧h.DictOf (zbM P w) a vs:=
 show ObjOk P w H h a (.dK kvs) from ztA ok e
theorem zuM{kvs:List (Key×V)}(ok:HOk P w H h) (e:H a=some (.dK kvs)):kvs.length≤sizeLine∧(a == sysModules)=false∧ ∃vs,KV kvs vs∧h.DictOf (zbM P w) a vs:=zoe ok (.inl e)
theorem zjY{ks:List Key}(ok:HOk P w H h) (e:H a=some (.tup (ks.map kV))):(tupleKind (zbM P w)).is h ks a:=by
 obtain⟨_,its,r,o,h1,h2,n,h3⟩:=(show ObjOk P w H h a (.tup (ks.map kV)) from ok a _ e);exact⟨o,its.toArray,n,h1,h2,h3,by simpa using ziw r⟩
theorem zoE{kvs:List (List Key×V)}(ok:HOk P w H h) (e:Rd H a (.dT kvs)):kvs.length≤sizeLine∧(a == sysModules)=false∧
  ∃xs,KT H kvs xs∧h.DictOfH (tupleKind (zbM P w)) a xs:=by
 obtain⟨z,y,xs,r,o,es,ep,h1,h2,h3,h4,h5⟩:=(show ObjOk P w H h a (.dT kvs) from ztA ok e);refine⟨z,y,xs,r,o,es,ep,h1,h2,h3,h4,fun x hx=>?_,h5⟩;have all:∀{l:List (List Key×V)}{m:List (List Key×Addr×Value)},KT H l m→ ∀x∈m,(tupleKind (zbM P w)).is h x.1 x.2.1:=by
  intro l m q
  induction q with
  |nil=>intro x hx;exact nomatch hx
  | @cons p q ps qs hq t ih=>
   intro x hx;rcases List.mem_cons.mp hx with e |hx
   ·subst e;exact zjY ok (by rw [←hq.1];exact hq.2.1)
   ·exact ih x hx
 exact all r x hx
theorem zuK{kvs:List (List Key×V)}(ok:HOk P w H h) (e:H a=some (.dT kvs)):kvs.length≤sizeLine∧(a == sysModules)=false∧
  ∃xs,KT H kvs xs∧h.DictOfH (tupleKind (zbM P w)) a xs:=zoE ok (.inl e)
end
noncomputable def DGet (H:Hp) (a:Addr) (y:V) (r:Option V):Prop:=
 (∃kvs k,Rd H a (.dK kvs)∧y=kV k∧r=zkw kvs k)∨ ∃kvs k b,Rd H a (.dT kvs)∧y= .ref b∧H b=some (.tup (k.map kV))∧r=zkw kvs k
noncomputable def DPut (H:Hp) (a:Addr) (y v:V) (H':Hp):Prop:=
 (∃kvs k,H a=some (.dK kvs)∧y=kV k∧kvs.length<sizeLine∧H'=upd H a (.dK (zjL kvs k v)))∨
 ∃kvs k b,H a=some (.dT kvs)∧y= .ref b∧H b=some (.tup (k.map kV))∧kvs.length<sizeLine∧H'=upd H a (.dT (zjL kvs k v))
theorem DGet.t{H:Hp}{a b:Addr}{kvs:List (List Key×V)}{k:List Key}(e:H a=some (.dT kvs)) (eb:H b=some (.tup (k.map kV))):DGet H a (.ref b) (zkw kvs k):= .inr ⟨kvs,k,b, .inl e,rfl,eb,rfl⟩
theorem DPut.t{H:Hp}{a b:Addr}{kvs:List (List Key×V)}{k:List Key}{v:V}(e:H a=some (.dT kvs)) (eb:H b=some (.tup (k.map kV))) (hl:kvs.length<sizeLine) :
  DPut H a (.ref b) v (upd H a (.dT (zjL kvs k v))):= .inr ⟨kvs,k,b,e,rfl,eb,hl,rfl⟩
section
variable {X:Cx}{pins:List (Addr×Obj)}{σ:St}{H:Hp}{s:Shared}{a:Addr}{y v:V}{u r:Value}{o:Option V}{A:Around}{E:Value→Shared→Prop}
theorem Inv.big (I:Inv X pins σ H s):sysModules<s.heap.objs.size:=by
 have h:mainGlobals<s.heap.objs.size:=(I.mod.glob.keeps I.bk).lt;exact Nat.lt_trans (by decide) h
theorem zmc{Q:Value→Shared→Prop}(hu:A.units+1<cLine) (I:Inv X pins σ H s) (g:DGet H a y (some v)) (ry:RelV y u) (h:∀w' s',Inv X pins σ H s'→RelV v w'→Q w' s') :
  wpAny (model X.prog X.w) A (getItem (.ref a) u) Q E s:=by
 rcases g with⟨kvs,k,e,ey,l⟩ |⟨kvs,k,b,e,ey,eb,l⟩
 ·subst ey;obtain⟨z,hd,vs,rel,dd⟩:=zoe I.hok e;obtain⟨w',hw,rw'⟩:=RelO.some_of (v:=v) (o:=valueAt vs k) (by rw [l];exact rel.val k);exact wpAny_getItem_of (zoi ry) dd.mapOf hw (h w' _ (I.tok _) rw')
 ·subst ey;cases(show u=Value.ref b from ry);obtain⟨z,hd,xs,rel,dd⟩:=zoE I.hok e;obtain⟨w',hw,rw'⟩:=RelO.some_of (v:=v) (o:=(atKey xs k).map (·.2)) (by rw [l];exact rel.val k);obtain⟨p,hp,hp2⟩:=Option.map_eq_some_iff.mp hw;refine wpAny_getItem_heap (tupleKind_room_in1 hu) (zjY I.hok eb) dd hp ?_;rw [hp2];exact h w' _ (I.tok _) rw'
theorem zxc{Q:Value→Shared→Prop}(hu:A.units+1<cLine) (I:Inv X pins σ H s) (g:DGet H a y o) (ry:RelV y u) (h:∀s',Inv X pins σ H s'→Q (.bool o.isSome) s') :
  wpAny (model X.prog X.w) A (compareOp .In u (.ref a)) Q E s:=by
 rcases g with⟨kvs,k,e,ey,l⟩ |⟨kvs,k,b,e,ey,eb,l⟩
 ·subst ey;obtain⟨z,hd,vs,rel,dd⟩:=zoe I.hok e;refine wpAny_in_of (zoi ry) hd dd.mapOf ?_;rw [←(rel.val k).isSome_eq,←l];exact h _ (I.tok _)
 ·subst ey;cases(show u=Value.ref b from ry);obtain⟨z,hd,xs,rel,dd⟩:=zoE I.hok e;refine wpAny_in_heap (tupleKind_room_in1 hu) (zjY I.hok eb) hd dd ?_;have q:=(rel.val k).isSome_eq;rw [Option.isSome_map]at q;rw [←q,←l];exact h _ (I.tok _)
theorem zmD{h':Heap}{t':Nat}{ob:HO}(I:Inv X pins σ H s) (mu:Mut (H a)) (hs:Heap.SameBut a s.heap h') (he:∃q,h'.get? a=some q) (new:ObjOk X.prog X.w (upd H a ob) h' a ob) :
  Inv X pins σ (upd H a ob) { s with heap:=h',toks:=t' }:=
 I.write (x:=a) (e:=a) mu (.inl rfl) (fun b q hb z=>(hs.2 b hb).trans z) he new
theorem zsJ{P:Program}{w:World}{H':Hp}{h':Heap}{kvs:List (Key×V)}{vs:List (Key×Value)}(z:kvs.length≤sizeLine) (hd:(a == sysModules)=false) (rel:KV kvs vs) (dd:h'.DictOf (zbM P w) a vs) :
  ObjOk P w H' h' a (.dK kvs):=⟨z,hd,vs,rel,dd⟩
theorem zmq{H':Hp}{Q:Unit→Shared→Prop}(hu:A.units+1<cLine) (I:Inv X pins σ H s) (g:DPut H a y v H') (ry:RelV y u) (rv:RelV v r) (h:∀s',Inv X pins σ H' s'→Q () s') :
  wpAny (model X.prog X.w) A (setItem (.ref a) u r) Q E s:=by
 rcases g with⟨kvs,k,e,ey,l,eH⟩ |⟨kvs,k,b,e,ey,eb,l,eH⟩
 ·subst ey eH;obtain⟨z,hd,vs,rel,dd⟩:=zuM I.hok e;have hz:vs.length≤sizeLine:=by rw [←rel.length];exact z
  have hl:(zjL kvs k v).length≤sizeLine:=by have:=zfC kvs k v;omega
  refine wpAny_setItem_pairs (hsz:=hz) (zoi ry) dd fun h' dd' hs=>h _ ?_;have he:∃q,h'.get? a=some q:=let ⟨q,_,_,hq,_⟩:=dd';⟨q,hq⟩;exact zmD I (by rw [e];exact True.intro) hs he (zsJ hl hd (rel.put k rv) dd')
 ·subst ey eH;cases(show u=Value.ref b from ry);obtain⟨z,hd,xs,rel,dd⟩:=zuK I.hok e;have hz:xs.length≤sizeLine:=by rw [←Paired.length rel];exact z
  have hl:(zjL kvs k v).length≤sizeLine:=by have:=zfC kvs k v;omega
  refine wpAny_setItem_heap (hsz:=hz) (tupleKind_room_in1 hu) (zjY I.hok eb) dd fun h' dd' hs=>h _ ?_;obtain⟨q,es,ep,hq,h2,h3,h4,_,h5⟩:=dd';refine zmD I (by rw [e];exact True.intro) hs ⟨q,hq⟩ ⟨hl,hd,_,(rel.put k eb rv).keeps fun c ys ec=>?_,q,es,ep,hq,h2,h3,h4,h5⟩;rw [zau (zmB ec e (fun z=>nomatch z))];exact ec
end
noncomputable def zvg (i:Expr):Prop:=∀ov iv,subscripted i false ov iv=operate [ov,iv] (getItem ov iv)
theorem zqs{prog:Program}{w:World}{A:Around}{E:Value→Shared→Prop}{s:Shared}{env:Env}{value slice:Expr}{pos:Pos}{T id:String}{Q:Value→Shared→Prop}
  (hl:typeLookup (.type T) "__getitem__" =pure (some (.builtin id))) (hs:zvg slice)
  (h:wpAny (model prog w) A (eval value env) (fun o s₁=>wpAny (model prog w) A (eval slice env) (fun i s₂=>s₂.TypeIs o T∧wpAny (model prog w) A (getItem o i) Q E s₂) E s₁) E s) :
  wpAny (model prog w) A (eval (.Subscript value slice pos) env) Q E s:=by
 refine Subscript_ (wpAny_mono h (fun o s₁ h₁=>wpAny_mono h₁ (fun i s₂ h₂=>?_) fun _ _ x=>x) fun _ _ x=>x);obtain⟨hT,h₂⟩:=h₂;unfold subscriptTail;refine wpAny_bind ?_;rw [getitemInPython_of_ne hT.not_modules];refine wpAny_bind (wpAny_specialOf hT hl ?_);have fin:wpAny (model prog w) A (subscripted slice false o i) (fun r s₃=>wpAny (model prog w) A (letTemporaryGo value o r >>= fun _=>pure r) Q E s₃) E s₂:=by
  rw [hs o i];exact wpAny_operating (wpAny_mono h₂ (fun r s₃ h₃=>wpAny_bind (wpAny_letTemporaryGo (wpAny_pure h₃))) fun _ _ x=>x)
 first
  |exact wpAny_pure (wpAny_bind fin)
  |exact wpAny_bind (wpAny_pure (wpAny_bind fin))
  |exact wpAny_bind fin
theorem ziP{X:Cx}{pins:List (Addr×Obj)}{σ:St}{H:Hp}{s:Shared}{a:Addr}{y:V}{o:Option V}(I:Inv X pins σ H s) (g:DGet H a y o):s.TypeIs (.ref a) "dict" :=by
 rcases g with⟨kvs,k,e,_,_⟩ |⟨kvs,k,b,e,_,_,_⟩
 ·obtain⟨_,_,vs,_,dd⟩:=zoe I.hok e;exact dd.typeIs
 ·obtain⟨_,_,xs,_,dd⟩:=zoE I.hok e;exact dd.typeIs
noncomputable def zuY (td ty:TE):TE:=fun σ H Q=>td σ H fun x H1=>ty σ H1 fun y H2=>∃a v,x= .ref a∧DGet H2 a y (some v)∧Q v H2
noncomputable def zwa (td ty tv:TE):TS:=fun D σ H=>tv σ H fun v H1=>td σ H1 fun x H2=>ty σ H2 fun y H3=>∃a H4,x= .ref a∧DPut H3 a y v H4∧D.nx σ H4
section
variable {X:Cx}{o i value:Expr}{pos pos':Pos}{td ty tv:TE}
theorem zrt (hu:X.A.units+1<cLine) (ho:PE X o td) (hi:PE X i ty) (hs:zvg i):PE X (.Subscript o i pos) (zuY td ty):=by
 intro pins s σ H Q I h;refine zqs PySem.F.slot_dict_getitem.lookup hs (thn (ho pins s σ H _ I h) fun u s1 ⟨x,H1,I1,rx,q1⟩=>thn (hi pins s1 σ H1 _ I1 q1) fun iv s2 ⟨y,H2,I2,ry,a,v,ex,g,q2⟩=>?_);subst ex;obtain rfl:u=Value.ref a:=rx;exact⟨ziP I2 g,zmc hu I2 g ry fun w' s3 I3 rw'=>⟨v,H2,I3,rw',q2⟩⟩
theorem zqO (hu:X.A.units+1<cLine) (ho:PE X o td) (hi:PE X i ty) (hv:PE X value tv) (hs:swapsWith value (some (.Subscript o i pos')) pos.line X.env=pure false) :
  PS X (.Assign [.Subscript o i pos'] value pos) (zwa td ty tv):=by
 intro pins s σ H D I h;refine wpAny_Assign_Subscript (thn (hv pins s σ H _ I h) fun r s1 ⟨v,H1,I1,rv,q1⟩=>thn (ho pins s1 σ H1 _ I1 q1) fun u s2 ⟨x,H2,I2,rx,q2⟩=>thn (hi pins s2 σ H2 _ I2 q2) fun iv s3 ⟨y,H3,I3,ry,a,H4,ex,g,q3⟩=>?_) hs;subst ex;obtain rfl:u=Value.ref a:=rx;exact zmq hu I3 g ry rv fun s4 I4=>⟨σ,H4,I4,q3⟩
end
theorem znT{P:Program}{w:World}{H:Hp}(h:Heap) (hb:sysModules<h.objs.size):ObjOk P w H (h.push { cls:= .type "dict",data:= .dict #[] }) h.objs.size (.dT []):=
 ⟨Nat.zero_le _,beq_eq_false_iff_ne.mpr (Ne.symm (Nat.ne_of_lt hb)),[], .nil,_, #[],0,Heap.get?_push_size _ rfl,⟨rfl,rfl,rfl⟩,rfl,rfl,List.nodup_nil⟩
noncomputable def zsj:TE:=fun _ H Q=>∀p,H p=none→Q (.ref p) (upd H p (.dT []))
section
variable {X:Cx}{pos:Pos}
theorem pe_dnewT:PE X (.Dict [] [] pos) zsj:=fun pins s σ H Q I h=>
 wpAny_Dict_empty ⟨.ref s.heap.objs.size,_,I.laid (a:=s.heap.objs.size) (o:= .dT []) (t':=s.toks) (fun _ _ q=>Heap.get?_push_of_some _ q) (Nat.le_refl _) (znT s.heap I.big),rfl,h _ (I.hok.fresh (Nat.le_refl _))⟩
end
end L2
namespace Att
open PySem PySem.W PySem.Calls PyProof.Rows
end Att
namespace L2
open PySem PySem.Spec PyProof.Rows
section
variable {prog:Program}{w:World}{A:Around}{R:Result→Shared→Prop}{s:Shared}
theorem zhk{elt target iter:Expr}{ifs:List Expr}{scope:Scope}{pos:Pos}{it acc:Value}{env:Env}(I:Nat→Shared→Prop)
  (turn:∀n s,I n s→wpAny (model prog w) A (pyNext it) (fun r s₁=>match r with
   |none=>R (.ok .next) s₁
   |some v=>wpAny (model prog w) A (letOwnedTupleGo target it v) (fun _ s₀=>wpAny (model prog w) A (assign target env v) (fun _ s₂=>
     wpAny (model prog w) A (forIn ifs true fun c r=>if r=true then do let ok ←isTrue c env (eval c env);pure (ForInStep.yield ok) else pure (ForInStep.yield r)) (fun ok s₃=>
      if ok=true then wpAny (model prog w) A (eval elt env) (fun x s₄=>
       wpAny (model prog w) A (call (.builtin "list.append") [acc,x]) (fun _ s₅=>∃m,m<n∧I m s₅) (fun _ _=>False) s₄) (fun _ _=>False) s₃
      else ∃m,m<n∧I m s₃) (fun _ _=>False) s₂) (fun _ _=>False) s₀) (fun _ _=>False) s₁) (fun _ _=>False) s)
  (n:Nat) (h:I n s) :
  codeAny (model prog w) A (.compLoop (.ListComp elt [⟨target,iter,ifs,0⟩] scope pos) 0 it acc env) R s:=by
 refine codeAny_loop rfl I (fun n s hI=>?_) n h;show wpAny _ A ((compTurn (.ListComp elt [⟨target,iter,ifs,0⟩] scope pos) 0 it acc env).onRaise (fun x=>do noteFrame x env;theTreesLotGoes x)) _ _ s;refine wpAny_noted ?_;rw [compTurn_list];refine wpAny_bind (wpAny_standAt (wpAny_bind (wpAny_mono (turn n s hI) (fun r s₁ h₁=>?_) fun _ _ h'=>h'.elim)));cases r with
 |none=>exact wpAny_pure h₁
 |some v=>
  refine wpAny_bind (wpAny_mono h₁ (fun _ s₀ h₀=>?_) fun _ _ h'=>h'.elim);refine wpAny_bind (wpAny_mono h₀ (fun _ s₂ h₂=>wpAny_bind (wpAny_mono h₂ (fun ok s₃ h₃=>?_) fun _ _ h'=>h'.elim)) fun _ _ h'=>h'.elim);cases ok with
  |false=>exact wpAny_pure ⟨rfl,h₃⟩
  |true=>
   exact wpAny_bind (wpAny_bind (wpAny_mono h₃ (fun x s₄ h₄=>wpAny_bind (wpAny_mono h₄ (fun _ s₅ h₅=>wpAny_pure (wpAny_pure ⟨rfl,h₅⟩)) fun _ _ h'=>h'.elim)) fun _ _ h'=>h'.elim))
end
noncomputable def zfS (cells:List (Str×Addr)):List (Str×NameKind)→List (Str×Addr)→List (Str×Addr)
 | [],acc=>acc
 | (n,k)::r,acc=>if(k == NameKind.free)=true then zfS cells r ((n,(cells.lookup n).getD 0)::acc) else zfS cells r acc
theorem zkP{scope:Scope}{env:Env}(h:∀y∈scope.names,y.2= .free→ ∃c,env.cells.lookup y.1=some c) :
  closureFor scope env=pure (zfS env.cells scope.names []):=by
 have go:∀(l:List (Str×NameKind)) (acc:List (Str×Addr)),(∀y∈l,y.2= .free→ ∃c,env.cells.lookup y.1=some c)→
   (forIn l acc fun(x:Str×NameKind) (cs:List (Str×Addr))=>(if(x.2 == NameKind.free)=true then(do let a ←cellOf env x.1;pure (ForInStep.yield ((x.1,a)::cs))) else pure (ForInStep.yield cs):Sem (ForInStep (List (Str×Addr)))))=(pure (zfS env.cells l acc):Sem (List (Str×Addr))):=by
  intro l
  induction l with
  |nil=>intro acc _;rfl
  |cons x l ih=>
   intro acc hl;obtain⟨n,k⟩:=x;have hr:=fun y hy=>hl y (List.mem_cons_of_mem _ hy);rw [List.forIn_cons];by_cases hk:k= .free
   ·subst hk;obtain⟨c,hc⟩:=hl (n, .free) List.mem_cons_self rfl;have hc':env.cells.lookup n=some c:=hc;have e:cellOf env n=pure c:=by unfold cellOf;rw [hc']
    have e2:zfS env.cells ((n,NameKind.free)::l) acc=zfS env.cells l ((n,c)::acc):=by
     show(if(NameKind.free == NameKind.free)=true then zfS env.cells l ((n,(env.cells.lookup n).getD 0)::acc) else zfS env.cells l acc)=_;rw [if_pos (by rfl),hc'];rfl
    dsimp only;rw [if_pos (by rfl),e,pure_bind,pure_bind,e2];exact ih _ hr
   ·have hb:¬(k == NameKind.free)=true:=by simpa using hk
    have e2:zfS env.cells ((n,k)::l) acc=zfS env.cells l acc:=by
     show(if(k == NameKind.free)=true then zfS env.cells l ((n,(env.cells.lookup n).getD 0)::acc) else zfS env.cells l acc)=_;rw [if_neg hb]
    dsimp only;rw [if_neg hb,pure_bind,e2];exact ih _ hr
 have q:=go scope.names [] h;unfold closureFor
 first
  |exact(bind_pure _).trans q
  | (simp only[bind_pure];exact q)
  | (simp only[pure_bind,bind_assoc,bind_pure];exact q)
theorem zgS{cells:List (Str×Addr)}{x:Str}{c:Addr}:∀(l:List (Str×NameKind)) (acc:List (Str×Addr)),(∀y∈l,y.2= .free→ ∃c,cells.lookup y.1=some c)→
  (zfS cells l acc).lookup x=some c→acc.lookup x=some c∨cells.lookup x=some c
 | [],acc,_,h=> .inl h
 | (n,k)::r,acc,hl,h=>by
  have hr:=fun y hy=>hl y (List.mem_cons_of_mem (n,k) hy);by_cases hk:k= .free
  ·subst hk;have h':(zfS cells r ((n,(cells.lookup n).getD 0)::acc)).lookup x=some c:=h;rcases zgS r _ hr h' with q |q
   ·rw [List.lookup_cons]at q;cases e:x == n with
    |true=>
     rw [e]at q;obtain⟨d,hd⟩:=hl (n, .free) List.mem_cons_self rfl;have hd':cells.lookup n=some d:=hd;have e1:x=n:=eq_of_beq e;rw [hd']at q;have q':d=c:=Option.some.inj q;exact .inr (by rw [e1,hd',q'])
    |false=>
     rw [e]at q;exact .inl q
   ·exact .inr q
  ·have hb:¬(k == NameKind.free)=true:=by simpa using hk
   have h':(if(k == NameKind.free)=true then zfS cells r ((n,(cells.lookup n).getD 0)::acc) else zfS cells r acc).lookup x=some c:=h;rw [if_neg hb]at h';exact zgS r acc hr h'
theorem zfq{cells:List (Str×Addr)}{x:Str}:∀(l:List (Str×NameKind)) (acc:List (Str×Addr)),((x,NameKind.free)∈l∨ ∃c,acc.lookup x=some c)→ ∃c,(zfS cells l acc).lookup x=some c
 | [],acc,h=>by
  rcases h with h |h
  ·cases h
  ·exact h
 | (n,k)::r,acc,h=>by
  by_cases hk:k= .free
  ·subst hk;refine zfq r ((n,(cells.lookup n).getD 0)::acc) ?_;cases e:x == n with
   |true=>exact .inr ⟨_,by rw [List.lookup_cons,e]⟩
   |false=>
    rcases h with h |⟨c,h⟩
    ·rcases List.mem_cons.mp h with q |q
     ·have:x=n:=congrArg Prod.fst q;rw [this]at e;simp at e
     ·exact .inl q
    ·exact .inr ⟨c,by rw [List.lookup_cons,e];exact h⟩
  ·have hb:¬(k == NameKind.free)=true:=by simpa using hk
   show ∃c,(if(k == NameKind.free)=true then zfS cells r ((n,(cells.lookup n).getD 0)::acc) else zfS cells r acc).lookup x=some c;rw [if_neg hb];refine zfq r acc ?_;rcases h with h |h
   ·rcases List.mem_cons.mp h with q |q
    ·exact absurd (congrArg Prod.snd q).symm hk
    ·exact .inl q
   ·exact .inr h
theorem zcA{env:Env}{x:Str}{k:NameKind}:∀{names:List (Str×NameKind)},(∀y∈names,y.2≠ .cell)→
  (names.map fun(n,k)=>if(k == NameKind.free&&env.scope.kind == .function&&env.kindOf n == some .cell) then(n,NameKind.cell) else(n,k)).lookup x=some k→(k= .cell∨k= .free)→(x,NameKind.free)∈names
 | [],_,h,_=>by simp at h
 | (n,j)::r,hc,h,hk=>by
  have h':List.lookup x ((if(j == NameKind.free&&env.scope.kind == .function&&env.kindOf n == some .cell)=true then(n,NameKind.cell) else(n,j)) ::
   (r.map fun(n,k)=>if(k == NameKind.free&&env.scope.kind == .function&&env.kindOf n == some .cell) then(n,NameKind.cell) else(n,k)))=some k:=h
  have hr:=fun y hy=>hc y (List.mem_cons_of_mem (n,j) hy);have hj:j≠ .cell:=hc (n,j) List.mem_cons_self;cases e:x == n with
  |true=>
   have e1:x=n:=eq_of_beq e;subst e1;by_cases c:(j == NameKind.free&&env.scope.kind == .function&&env.kindOf x == some .cell)=true
   ·have c1:(j == NameKind.free)=true:=by
     cases q:(j == NameKind.free) with
     |true=>rfl
     |false=>rw [q]at c;simp at c
    have c2:j= .free:=by simpa using c1
    rw [c2];exact List.mem_cons_self
   ·rw [if_neg c]at h';simp only[List.lookup_cons,beq_self_eq_true]at h';have h2:j=k:=Option.some.inj h';rcases hk with z |z
    ·exact absurd (h2.trans z) hj
    ·rw [h2,z];exact List.mem_cons_self
  |false=>
   by_cases c:(j == NameKind.free&&env.scope.kind == .function&&env.kindOf n == some .cell)=true
   ·rw [if_pos c]at h';simp only[List.lookup_cons,e]at h';exact List.mem_cons_of_mem _ (zcA hr h' hk)
   ·rw [if_neg c]at h';simp only[List.lookup_cons,e]at h';exact List.mem_cons_of_mem _ (zcA hr h' hk)
theorem zdq{env:Env}{x:Str}:∀{names:List (Str×NameKind)},names.lookup x=some .free→
  (names.map fun(n,k)=>if(k == NameKind.free&&env.scope.kind == .function&&env.kindOf n == some .cell) then(n,NameKind.cell) else(n,k)).lookup x=some .cell∨
  (names.map fun(n,k)=>if(k == NameKind.free&&env.scope.kind == .function&&env.kindOf n == some .cell) then(n,NameKind.cell) else(n,k)).lookup x=some .free
 | [],h=>by simp at h
 | (n,j)::r,h=>by
  show List.lookup x ((if(j == NameKind.free&&env.scope.kind == .function&&env.kindOf n == some .cell)=true then(n,NameKind.cell) else(n,j)) ::
   (r.map fun(n,k)=>if(k == NameKind.free&&env.scope.kind == .function&&env.kindOf n == some .cell) then(n,NameKind.cell) else(n,k)))=_∨
   List.lookup x ((if(j == NameKind.free&&env.scope.kind == .function&&env.kindOf n == some .cell)=true then(n,NameKind.cell) else(n,j)) ::
   (r.map fun(n,k)=>if(k == NameKind.free&&env.scope.kind == .function&&env.kindOf n == some .cell) then(n,NameKind.cell) else(n,k)))=_
  cases e:x == n with
  |true=>
   simp only[List.lookup_cons,e]at h;have h2:j= .free:=Option.some.inj h;subst h2;by_cases c:(NameKind.free == NameKind.free&&env.scope.kind == .function&&env.kindOf n == some .cell)=true
   ·rw [if_pos c];simp only[List.lookup_cons,e];exact .inl trivial
   ·rw [if_neg c];simp only[List.lookup_cons,e];exact .inr trivial
  |false=>
   simp only[List.lookup_cons,e]at h;by_cases c:(j == NameKind.free&&env.scope.kind == .function&&env.kindOf n == some .cell)=true
   ·rw [if_pos c];simp only[List.lookup_cons,e];exact zdq h
   ·rw [if_neg c];simp only[List.lookup_cons,e];exact zdq h
noncomputable def zbn (X:Cx) (scope:Scope) (N:List Str) (s:Shared) (H:Hp) (fp:List Addr) (pins:List (Addr×Obj)):Cx:=
 { X with N:=N,s₀:=s,H₀:=H,env:=compEnvC scope (zfS X.env.cells scope.names []) s.heap.objs.size X.env,outer:=X.stack,stack:=X.stack,ex:=fp,fn:=fun _=>false,pn:=X.pn++pins,xe:=fun _ _=>False }
structure CompSc (X:Cx) (scope:Scope) (N:List Str) (k:Nat) (fr:List Nat):Prop where
  kind:scope.kind= .function
  nd:N.Nodup
  len:N.length=k+fr.length
  cell:(scope.names.all fun y=>y.2 != NameKind.cell)=true
  loc:(scope.names.all fun y=>y.2 != NameKind.local || scope.names.lookup y.1 == some NameKind.local)=true
  free:(scope.names.all fun y=>y.2 != NameKind.free || X.env.kindOf y.1 == some NameKind.cell || X.env.kindOf y.1 == some NameKind.free)=true
  frs:((N.drop k).all fun x=>scope.names.lookup x == some NameKind.free)=true
  pl:N.drop k=fr.map fun j=>X.N.getD j Str.empty
  plen:(fr.all fun j=>decide (j<X.N.length))=true
noncomputable def zfN (σ:St) (fr:List Nat):St:=fr.map fun j=>(σ[j]?).join
noncomputable def zkk (σ:St) (k:Nat) (fr:List Nat):St:=List.replicate k none++zfN σ fr
section
variable {X:Cx}{scope:Scope}{N:List Str}{k:Nat}{fr:List Nat}
theorem CompSc.cell' (S:CompSc X scope N k fr):∀y∈scope.names,y.2≠ .cell:=fun y hy=>by
 have q:=List.all_eq_true.mp S.cell y hy;simpa using q
theorem CompSc.loc' (S:CompSc X scope N k fr):∀y∈scope.names,y.2= .local→scope.names.lookup y.1=some .local:=fun y hy e=>by
 have q:=List.all_eq_true.mp S.loc y hy;rw [e]at q;simpa using q
theorem CompSc.kinds (S:CompSc X scope N k fr):∀y∈scope.names,y.2= .free→X.env.kindOf y.1=some .cell∨X.env.kindOf y.1=some .free:=fun y hy e=>by
 have q:=List.all_eq_true.mp S.free y hy;rw [e]at q;simpa using q
theorem CompSc.hasCell (S:CompSc X scope N k fr) (ok:X.Ok):∀y∈scope.names,y.2= .free→ ∃c,X.env.cells.lookup y.1=some c:=fun y hy e=>ok.has y.1 (S.kinds y hy e)
theorem CompSc.sub (S:CompSc X scope N k fr) (ok:X.Ok) {x:Str}{c:Addr}(h:(zfS X.env.cells scope.names []).lookup x=some c):X.env.cells.lookup x=some c:=by
 rcases zgS scope.names [] (S.hasCell ok) h with q |q
 ·simp at q
 ·exact q
end
section
variable {X:Cx}{pins:List (Addr×Obj)}{σ:St}{H:Hp}{s:Shared}{scope:Scope}{N:List Str}{k:Nat}{fr:List Nat}{fp:List Addr}
theorem zrp (I:Inv X pins σ H s) (S:CompSc X scope N k fr) (hfp:∀b∈fp,zhi X pins H b) (hob:∀b∈fp,∃o,s.heap.get? b=some o):(zbn X scope N s H fp pins).Ok where
  mod:=I.ok.mod
  kind:=S.kind
  glob:=I.ok.glob
  blt:=I.ok.blt
  above:=Nat.le_refl _
  inj:=fun x y c h1 h2=>I.ok.inj x y c (S.sub I.ok h1) (S.sub I.ok h2)
  has:=fun x hx=>zfq scope.names [] (.inl (by
    rcases hx with hx |hx
    · exact zcA S.cell' hx (.inl rfl)
    · exact zcA S.cell' hx (.inr rfl)))
  cab:=fun x c h _=>absurd h (by show ¬(false=true);decide)
  hd:=I.ok.hd
  frames:=I.ok.frames
  stk:= .inl rfl
  exf:=fun b hb=>⟨by
    obtain⟨o,e⟩:=hob b hb;exact Nat.ne_of_lt (Heap.lt_size e),fun x c h=>(hfp b hb).2.2.2.2.1 x c (S.sub I.ok h)⟩
  bs:=I.bs
  bsz:=Nat.le_trans I.ok.bsz I.sz
  noex:=fun b o e hb=>by
    rcases(hfp b hb).2.2.2.1 with z |z
    · exact I.ok.noex b o e z
    · exact absurd (Nat.lt_of_lt_of_le (Heap.lt_size (I.ok.bs b o e).1) z) (Nat.lt_irrefl _)
  exfs:=fun b hb z=>by
    rcases List.mem_cons.mp (I.stkSub b z) with q |q
    · exact(hfp b hb).2.1 q
    · exact(hfp b hb).2.2.1 q
  funs:=I.stack
  frf:=I.stkFree
theorem zrw (I:Inv X pins σ H s) (S:CompSc X scope N k fr) {H':Hp}{b:Addr}(hb:b∈fp) (hf:zhi X pins H b) (hob:∃o,s.heap.get? b=some o) (hn:H' b=none):zhi (zbn X scope N s H fp pins) [] H' b:=by
 refine⟨hn,?_,fun z=>?_, .inl hb,fun x c h=>hf.2.2.2.2.1 x c (S.sub I.ok h),fun p hp=>?_⟩
 ·obtain⟨o,e⟩:=hob;exact Nat.ne_of_lt (Heap.lt_size e)
 ·rcases List.mem_cons.mp (I.stkSub b z) with q |q
  ·exact hf.2.1 q
  ·exact hf.2.2.1 q
 ·rcases List.mem_append.mp hp with z |z
  ·exact hf.2.2.2.2.2 p z
  ·cases z
theorem zkC{j:Nat}{v:V}(h:(zfN σ fr)[j]? =some (some v)):∃i,fr[j]? =some i∧σ[i]? =some (some v):=by
 unfold zfN at h;rw [List.getElem?_map]at h;cases e:fr[j]? with
 |none=>rw [e]at h;cases h
 |some i=>
  rw [e]at h;have h':(σ[i]?).join=some v:=Option.some.inj h;refine⟨i,rfl,?_⟩;cases q:σ[i]? with
  |none=>rw [q]at h';cases h'
  |some o=>
   rw [q]at h';have h2:o=some v:=h';rw [h2]
theorem zoF (I:Inv X pins σ H s) (S:CompSc X scope N k fr) (hfp:∀b∈fp,zhi X pins H b) (hob:∀b∈fp,∃o,s.heap.get? b=some o) {h1:Heap}{tk:Nat}{m:Str→Option Value}
    (hns:h1.Ns s.heap.objs.size m) (hk:∀b o,s.heap.get? b=some o→h1.get? b=some o):Inv (zbn X scope N s H fp pins) [] (zkk σ k fr) H { s with heap:=h1,toks:=tk } where
  ok:=zrp I S hfp hob
  os:=rfl
  bare:=I.bare
  base:=Un.kept hk
  loc:=⟨m,hns,fun i x v e1 e2 e3=>by
    have e2':(List.replicate k (none:Option V)++zfN σ fr)[i]? =some (some v):=e2;have hi:k≤i:=by
      refine Nat.le_of_not_lt fun z=>?_;rw [List.getElem?_append_left (by simpa using z),List.getElem?_replicate]at e2';split at e2'<;>cases e2'
    rw [List.getElem?_append_right (by simpa using hi),List.length_replicate]at e2';obtain⟨j,f1,f2⟩:=zkC e2';have e1':N[i]? =some x:=e1;have d1:(N.drop k)[i - k]? =some x:=by
      rw [List.getElem?_drop];have:k+(i - k)=i:=by omega
      rw [this];exact e1'
    have d2:=d1;rw [S.pl,List.getElem?_map,f1]at d2;have d3:X.N.getD j Str.empty=x:=Option.some.inj d2;have jl:j<X.N.length:=of_decide_eq_true (List.all_eq_true.mp S.plen j (List.mem_of_getElem? f1));have d4:X.N[j]? =some x:=by
      rw [List.getD_eq_getElem?_getD,List.getElem?_eq_getElem jl]at d3;rw [List.getElem?_eq_getElem jl];exact congrArg some d3
    have fk:scope.names.lookup x=some .free:=by
      have q:=List.all_eq_true.mp S.frs x (List.mem_of_getElem? d1);simpa using q
    have hmem:(x,NameKind.free)∈scope.names:=PySem.mem_of_lookup fk;have kd:=S.kinds _ hmem rfl;have vis:Vis X.env.scope x:=by
      rcases kd with z |z
      · exact .inr (.inl z)
      · exact .inr (.inr z)
    obtain⟨m0,_,hl⟩:=I.loc;obtain⟨u,ru,lk⟩:=hl j x v d4 f2 vis;refine⟨u,ru, .inr ⟨zdq fk,?_⟩⟩;have kd':X.env.kindOf x=some .cell∨X.env.kindOf x=some .free:=kd;rcases lk with⟨z,_⟩ |⟨_,c,hc,hcell⟩
    · rcases kd' with q |q<;>(rw [z]at q;cases q)
    · obtain⟨c',hc'⟩:=zfq (cells:=X.env.cells) scope.names [] (.inl hmem);have e:=S.sub I.ok hc';rw [hc]at e;cases e;exact⟨c,hc',hcell.keeps hk⟩⟩
  cell:=fun x c h=>by
    obtain⟨v,z⟩:=I.cell x c (S.sub I.ok h);exact⟨v,z.keeps hk⟩
  free:=I.hok.fresh (Nat.le_refl _)
  freeC:=fun x c h=>I.freeC x c (S.sub I.ok h)
  pin:=fun p hp=>by
    have hp':p∈X.pn++pins:=by
      rcases List.mem_append.mp hp with z |z
      · exact z
      · cases z
    obtain⟨e,n,ne,nf,d⟩:=I.pin p hp';refine⟨hk _ _ e,n,Nat.ne_of_lt (Heap.lt_size e),fun z=>?_,d⟩;rcases List.mem_cons.mp (I.stkSub p.1 z) with q |q
    · exact ne q
    · exact nf q
  hok:=I.hok.kept hk
  len:=by
    show(List.replicate k (none:Option V)++zfN σ fr).length=N.length;rw [List.length_append,List.length_replicate,S.len];unfold zfN;rw [List.length_map]
theorem zhT{σ':St}{H':Hp}{s':Shared}{h':Heap}(I:Inv X pins σ H s) (hfp:∀b∈fp,zhi X pins H b) (J:Inv (zbn X scope N s H fp pins) [] σ' H' s') (sb:Heap.SameBut s.heap.objs.size s'.heap h'):Inv X pins σ H' { s' with heap:=h' }:=by
 have neC:∀b o,s.heap.get? b=some o→b≠s.heap.objs.size:=fun b o e=>Nat.ne_of_lt (Heap.lt_size e);have frC:H' s.heap.objs.size=none:=J.free;refine Inv.call' (s':={ s' with heap:=h' }) (ch:=fp) I J.os ⟨fun b o e n hf hx=>?_,fun b o e n hf hx=>?_,fun b o e n hx=>J.base.free b o e n hx,fun b o e hx=>?_,J.base.tups,J.base.frzs,J.base.tbls⟩ (fun b o e=>?_) J.bare fun b hb=>⟨(hfp b hb).2.2.2.1,(hfp b hb).2.1,(hfp b hb).2.2.2.2.1,(hfp b hb).2.2.2.2.2⟩
 ·exact(sb.2 b (neC b o e)).trans (J.base.keep b o e n hf hx)
 ·obtain⟨sl,q⟩:=J.base.slot b o e n hf hx;exact⟨sl,(sb.2 b (neC b o e)).trans q⟩
 ·obtain⟨o',q⟩:=J.base.there b o e hx;exact⟨o',(sb.2 b (neC b o e)).trans q⟩
 ·refine(J.hok b o e).stay (fun c v hc q=>(sb.2 c ?_).trans q) (fun _ q=>q) fun _ _ q=>q;rintro rfl;rcases hc with rfl |hc
  ·rw [frC]at e;cases e
  ·rw [frC]at hc;cases hc
end
noncomputable def PTs (X:Cx) (ifs:List Expr) (t:TT):Prop:=
 ∀(pins:List (Addr×Obj)) (s:Shared) (σ:St) (H:Hp) (Q:Bool→Hp→Prop),Inv X pins σ H s→t σ H Q→
  wpAny (model X.prog X.w) X.A (forIn ifs true fun c r=>if r=true then do let ok ←isTrue c X.env (eval c X.env);pure (ForInStep.yield ok) else pure (ForInStep.yield r)) (TP X pins σ Q) X.xe s
noncomputable def zww:TT:=fun _ H Q=>Q true H
theorem zqH{X:Cx}:PTs X [] zww:=fun _ _ _ H _ I h=>wpAny_tests_nil ⟨H,I,h⟩
theorem zrc{X:Cx}{c:Expr}{t:TT}(h:PT X c t):PTs X [c] t:=fun pins s σ H Q I q=>wpAny_tests_one (h pins s σ H Q I q)
noncomputable def zvO (X:Cx) (scope:Scope) (N:List Str) (tg:Expr) (ifs:List Expr) (elt:Expr) (l:Addr) (x:V) (σ:St) (H:Hp) (M:St→Hp→Prop):Prop:=
 ∀(s₀:Shared) (H₀:Hp) (fp:List Addr) (pn:List (Addr×Obj)),∃(g:TG) (tt:TT) (te:TE),PG (zbn X scope N s₀ H₀ fp pn) tg g∧PTs (zbn X scope N s₀ H₀ fp pn) ifs tt∧PE (zbn X scope N s₀ H₀ fp pn) elt te∧
  g x σ H fun σ2 H2=>tt σ2 H2 fun b H3=>if b=true then te σ2 H3 fun y H4=>∃ys,H4 l=some (.lst ys)∧ys.length<sizeLine∧M σ2 (upd H4 l (.lst (ys++[y]))) else M σ2 H3
noncomputable def zrl (X:Cx) (scope:Scope) (N:List Str) (k:Nat) (fr:List Nat) (tg:Expr) (ifs:List Expr) (elt:Expr) (σ:St) (Q:VK) (J:It) (H1:Hp):Prop:=∀l,H1 l=none→
 ∃W:Nat→Nat→St→Hp→Prop,(∃m,W 0 m (zkk σ k fr) (upd H1 l (.lst [])))∧ ∀i m σ' H',W i m σ' H'→
  (J.stop i H'∧Q (.ref l) H')∨(J.go i H'∧ ∃M:St→Hp→Prop,(∀σ'' H'',M σ'' H''→ ∃m',m'<m∧W (i+1) m' σ'' H'')∧ ∀x H2,J.yld i H' x H2→zvO X scope N tg ifs elt l x σ' H2 M)
noncomputable def znW (X:Cx) (scope:Scope) (N:List Str) (k:Nat) (fr:List Nat) (tg:Expr) (ifs:List Expr) (elt:Expr) (wi:TI):TE:=fun σ H Q=>wi σ H fun J H1=>zrl X scope N k fr tg ifs elt σ Q J H1
theorem zhG{X:Cx}{use:Option (Value→Sem Unit)}{Qf:Value→Shared→Prop}{pins:List (Addr×Obj)}{s:Shared}{σ:St}{H:Hp}{Q:VK}{scope:Scope}{N:List Str}{k:Nat}{fr:List Nat}{tg iter elt:Expr}{ifs:List Expr}{wi:TI}{pos:Pos}(hx:X.xe=fun _ _=>False) (hc:X.calm=true) (S:CompSc X scope N k fr) (hi:PI X tg iter wi) (I:Inv X pins σ H s)
  (fin:∀{s3 s6:Shared}{H3 H5:Hp}{fp:List Addr}{σ5:St}{l:Addr}{a:Flow},Inv X pins σ H3 s3→(∀b∈fp,zhi X pins H3 b)→Inv (zbn X scope N s3 H3 fp pins) [] σ5 H5 s6→Q (.ref l) H5→compPost (model X.prog X.w) X.A X.xe use Qf (.ref l) s3.heap.objs.size (.ok a) s6)
  (h:znW X scope N k fr tg ifs elt wi σ H Q)
  (hs:∀x,foldedSetIterable iter X.env x=pure x:=by intro _;rfl):wpAny (model X.prog X.w) X.A (comprehension (.ListComp elt [⟨tg,iter,ifs,0⟩] scope pos) scope X.env (firstIterPos [⟨tg,iter,ifs,0⟩] pos) (newList []) (firstAsync [⟨tg,iter,ifs,0⟩]) (firstIter [⟨tg,iter,ifs,0⟩] X.env) use) Qf X.xe s:=by
 refine wpAny_comprehension_free (use:=use) rfl hs (zkP (S.hasCell I.ok)) S.kind S.loc' (thn (hi pins s σ H _ I h) fun v s1 h1=>thn h1 fun itv s2 h2=>?_);obtain⟨it,fp,tn,J,H2,e,I2,T,st2,f2,h2⟩:=h2;subst e;have fr2:H2 s2.heap.objs.size=none:=I2.hok.fresh (Nat.le_refl _);obtain⟨W,⟨m0,w0⟩,turn⟩:=h2 s2.heap.objs.size fr2;refine wpAny_newList ?_ (by show 0≤sizeLine;exact Nat.zero_le _);have I3:Inv X pins σ (upd H2 s2.heap.objs.size (.lst [])) { s2 with heap:=s2.heap.push { cls:= .type "list",data:= .seq ([]:List Value).toArray } }:=I2.lnew (t':=s2.toks) (ys:=[]) .nil (Nat.zero_le _);have old:∀b o,s2.heap.get? b=some o→(s2.heap.push { cls:= .type "list",data:= .seq ([]:List Value).toArray }).get? b=some o:=fun b o e=>Heap.get?_push_of_some _ e;have fpo2:∀b∈fp,∃o,s2.heap.get? b=some o:=fun b hb=>by
  obtain⟨o,e,_⟩:=T.obj _ _ st2 b hb;exact⟨o,e⟩
 have fpo:∀b∈fp,∃o,(s2.heap.push { cls:= .type "list",data:= .seq ([]:List Value).toArray }).get? b=some o:=fun b hb=>by
  obtain⟨o,e⟩:=fpo2 b hb;exact⟨o,old b o e⟩
 have f3:∀b∈fp,zhi X pins (upd H2 s2.heap.objs.size (.lst [])) b:=fun b hb=>by
  obtain⟨o,e⟩:=fpo2 b hb;refine⟨?_,(f2 b hb).2⟩;rw [zau (Nat.ne_of_lt (Heap.lt_size e))];exact(f2 b hb).1
 generalize hs3:({ s2 with heap:=s2.heap.push { cls:= .type "list",data:= .seq ([]:List Value).toArray } }:Shared)=s3 at I3⊢;have st3:tn 0 s3.heap:=by
  rw [←hs3];exact T.keep _ _ _ st2 fun b _ o e=>old b o e
 have fpo3:∀b∈fp,∃o,s3.heap.get? b=some o:=by rw [←hs3];exact fpo
 clear fpo old hs3;refine wpAny_newFunctionEnv S.cell' (by intro y hy;simp at hy) (fun h1 hns1 hsb1=>?_) S.kind;have hk1:∀b o,s3.heap.get? b=some o→h1.get? b=some o:=fun b o e=>hsb1.extBut b o (Nat.ne_of_lt (Heap.lt_size e)) (Heap.get?_push_of_some _ e);have I4:=zoF (tk:=s3.toks+([]:List (Str×Value)).length) I3 S f3 fpo3 hns1 hk1;have st4:tn 0 h1:=T.keep _ _ _ st3 fun b _ o e=>hk1 b o e;have stat:∀{H':Hp},(∀b∈fp,H' b=none)→ ∀b∈fp,zhi (zbn X scope N s3 (upd H2 s2.heap.objs.size (.lst [])) fp pins) [] H' b:=fun hn b hb=>zrw I3 S hb (f3 b hb) (fpo3 b hb) (hn b hb);have loop:∀s4:Shared,s4={ s3 with heap:=h1,toks:=s3.toks+([]:List (Str×Value)).length }→
   codeAny (model X.prog X.w) X.A (.compLoop (.ListComp elt [⟨tg,iter,ifs,0⟩] scope pos) 0 (.ref it) (.ref s2.heap.objs.size) (compEnvC scope (zfS X.env.cells scope.names []) s3.heap.objs.size X.env))
    (compPost (model X.prog X.w) X.A X.xe use Qf (.ref s2.heap.objs.size) s3.heap.objs.size) s4:=by
  rintro s4 rfl;refine zhk (fun n s'=>∃i σ' H',Inv (zbn X scope N s3 (upd H2 s2.heap.objs.size (.lst [])) fp pins) [] σ' H' s'∧tn i s'.heap∧(∀b∈fp,H' b=none)∧W i n σ' H') ?_ m0 ⟨0,_,_,I4,st4,fun b hb=>(f3 b hb).1,w0⟩;rintro n s5 ⟨i,σ5,H5,I5,st5,fr5,w5⟩;rcases turn i n σ5 H5 w5 with⟨stop,qn⟩ |⟨go,M,hM,step⟩
  ·refine thn (T.done (zbn X scope N s3 (upd H2 s2.heap.objs.size (.lst [])) fp pins) rfl rfl rfl hc i [] s5 σ5 H5 _ I5 (stat fr5) st5 stop) fun r s6 ⟨hr,I6⟩=>?_;subst hr;exact fin I3 f3 I6 qn
  ·refine thn (T.item (zbn X scope N s3 (upd H2 s2.heap.objs.size (.lst [])) fp pins) rfl rfl rfl hc i [] s5 σ5 H5 _ I5 (stat fr5) st5 go) fun r s6 ⟨u,hr,h6⟩=>?_;subst hr;refine thn h6 fun _ s7 ⟨x,H7,I7,r7,y7,st7,fr7⟩=>?_;have I7':=I7.pinned (stat fr7) (T.obj _ _ st7);obtain⟨g,tt,te,hg,ht,he,q⟩:=step x H7 y7 s3 (upd H2 s2.heap.objs.size (.lst [])) fp pins;have again:∀{s8:Shared}{σ8:St}{H8:Hp},Inv (zbn X scope N s3 (upd H2 s2.heap.objs.size (.lst [])) fp pins) ([]++ziC fp s7.heap) σ8 H8 s8→M σ8 H8→
     ∃m,m<n∧ ∃i σ' H',Inv (zbn X scope N s3 (upd H2 s2.heap.objs.size (.lst [])) fp pins) [] σ' H' s8∧tn i s8.heap∧(∀b∈fp,H' b=none)∧W i m σ' H':=fun {s8 σ8 H8} I8 n8=>by
    obtain⟨m',hm,w8⟩:=hM σ8 H8 n8;refine⟨m',hm,i+1,σ8,H8,I8.unpinned,T.keep _ _ _ st7 fun b hb o e=>(I8.pin (b,o) (List.mem_append_right _ (List.mem_append_right _ (zdT hb e)))).1,fun b hb=>?_,w8⟩;obtain⟨o,e,d⟩:=T.obj _ _ st7 b hb;exact(I8.pin (b,o) (List.mem_append_right _ (List.mem_append_right _ (zdT hb e)))).2.1
   refine thn (hg _ s7 σ5 H7 x u _ I7' r7 q) fun _ s8 ⟨σ8,H8,I8,q8⟩=>?_;refine thn (ht _ s8 σ8 H8 _ I8 q8) fun b s9 ⟨H9,I9,q9⟩=>?_;cases b with
   |false=>exact again I9 q9
   |true=>
    refine thn (he _ s9 σ8 H9 _ I9 q9) fun y s10 ⟨yv,H10,I10,r10,ys,hl,hz,qM⟩=>?_;exact thn (zht _ s10 σ8 H10 (.ref s2.heap.objs.size) [yv] (.ref s2.heap.objs.size) [y] (fun _ H'=>M σ8 H') I10 rfl (.cons r10 .nil) ⟨_,ys,yv,rfl,rfl,hl,hz,qM⟩) fun _ s11 ⟨_,H11,I11,_,q11⟩=>again I11 q11
 exact codeAny_compStart_list (loop _ rfl) (T.self _ 0 _ _ _ st4 (loop _ rfl))
theorem zrG{X:Cx}{scope:Scope}{N:List Str}{k:Nat}{fr:List Nat}{tg iter elt:Expr}{ifs:List Expr}{wi:TI}{pos:Pos}(hx:X.xe=fun _ _=>False) (hc:X.calm=true) (S:CompSc X scope N k fr) (hi:PI X tg iter wi)
  (hs:∀x,foldedSetIterable iter X.env x=pure x:=by intro _;rfl):PE X (.ListComp elt [⟨tg,iter,ifs,0⟩] scope pos) (znW X scope N k fr tg ifs elt wi):=by
 intro pins s σ H Q I h;rw [eval_ListComp];refine zhG hx hc S hi I (fun {s3 s6 H3 H5 fp σ5 l a} I3 f3 I6 qn=>?_) h hs;obtain⟨m6,ns6,_⟩:=I6.loc;exact⟨m6,ns6,fun h' sb=>⟨.ref l,H5,zhT I3 f3 I6 sb,rfl,qn⟩⟩
theorem zql{X:Cx}{scope:Scope}{N:List Str}{k:Nat}{fr:List Nat}{tg iter elt:Expr}{ifs:List Expr}{wi:TI}{pos spos pos':Pos}{i:Nat}{x:Str}(hx:X.xe=fun _ _=>False) (hc:X.calm=true) (S:CompSc X scope N k fr) (hi:PI X tg iter wi)
  (hN:X.N.Nodup) (hxi:X.N[i]? =some x) (hxl:Loc X.env.scope x) (hw:swapsWith (.ListComp elt [⟨tg,iter,ifs,0⟩] scope pos) (some (.Name x pos')) spos.line X.env=pure true) (hf:X.fn x=true∨X.env.scope.names.lookup x=some .local)
  (hs:∀x,foldedSetIterable iter X.env x=pure x:=by intro _;rfl):PS X (.Assign [.Name x pos'] (.ListComp elt [⟨tg,iter,ifs,0⟩] scope pos) spos) (zuS (znW X scope N k fr tg ifs elt wi) (zrC i)):=by
 intro pins s σ H D I h;rw [exec_Assign_Name_used x pos' _ spos hw];refine wpAny_bind (wpAny_standAt (wpAny_bind ?_));rw [arm_evalThenUse_ListComp];refine wpAny_bind ?_;refine zhG (Qf:=fun _ s'=>wpAny (model X.prog X.w) X.A (pure ()) (fun _ s2=>wpAny (model X.prog X.w) X.A (pure Flow.next) (SP X pins D) X.xe s2) X.xe s') hx hc S hi I (fun {s3 s6 H3 H5 fp σ5 l a} I3 f3 I6 qn=>?_) h hs;have IX:Inv X pins σ H5 s6:=zhT (h':=s6.heap) I3 f3 I6 ⟨rfl,fun _ _=>rfl⟩;obtain⟨m6,ns6,_⟩:=I6.loc;have ns6:s6.heap.Ns s3.heap.objs.size m6:=ns6;have frC:H5 s3.heap.objs.size=none:=I6.free;have fC:zhi X pins H5 s3.heap.objs.size:=I3.fpOk (Nat.le_refl _) frC;refine wpAny_assign_Name (zig IX hN hxi hxl (v:= .ref l) rfl (fun s7 I7 ⟨b,sb,hb⟩=>?_) hf);have hbC:s3.heap.objs.size≠b:=by
  rcases hb with rfl |hb
  ·exact fC.2.1
  ·exact Ne.symm (fC.2.2.2.2.1 _ _ hb)
 refine⟨m6,ns6.sameBut sb hbC,fun h' sb2=>wpAny_pure (wpAny_pure ⟨_,H5,?_,qn⟩)⟩;refine Inv.call' (s':={ s7 with heap:=h' }) (ch:=[s3.heap.objs.size]) I7 rfl ⟨fun c o e n hfs hex=>?_,fun c o e n hfs hex=>?_,fun c o e n _=>n,fun c o e hex=>?_,fun _ _ q=>q,fun _ _ _ q=>q,fun _ ps q=>⟨#[],by simpa using q⟩⟩ (fun c o e=>?_) I7.bare fun c hcm=>?_
 ·exact(sb2.2 c (fun z=>hex (by simp [z]))).trans e
 ·exact⟨o.slots,(sb2.2 c (fun z=>hex (by simp [z]))).trans e⟩
 ·exact⟨o,(sb2.2 c (fun z=>hex (by simp [z]))).trans e⟩
 ·refine(I7.hok c o e).stay (fun d v hd q=>(sb2.2 d ?_).trans q) (fun _ q=>q) fun _ _ q=>q;rintro rfl;rcases hd with rfl |hd
  ·rw [frC]at e;cases e
  ·rw [frC]at hd;cases hd
 ·rw [List.mem_singleton.mp hcm];exact⟨fC.2.2.2.1,fC.2.1,fC.2.2.2.2.1,fC.2.2.2.2.2⟩
noncomputable def Its (x:Str):It:=⟨fun i _=>i<x.cps.size,fun i H v H'=>H'=H∧ ∃c,x.cps[i]? =some c∧v= .str ⟨#[c]⟩,fun i _=>i=x.cps.size⟩
theorem zjT{P:Program}{w:World}{K:PySem.W.Frag}{tg:Expr}(it:Addr) (x:Str) (t:Tok) (ty:String)
    (hn: ["enumerate", "zip", "dict_itemiterator", "dict_reverseitemiterator", "odict_iterator", "itertools.zip_longest", "itertools.pairwise"].contains ty=false)
    (hW:∀A':Around,A'.handled=none→Walks P w A' it [it] [it] x.cps.size (SignAt x) (fun i h=>h.IsStrIter it ty x t i))
    (hself:∀(A:Around) (i:Nat) (s:Shared) (Q:Value→Shared→Prop) (E:Value→Shared→Prop),s.heap.IsStrIter it ty x t i→Q (.ref it) s→wpAny (model P w) A (pyIter (.ref it)) Q E s) :
    Turn P w K tg (Its x) [it] it (fun i h=>h.IsStrIter it ty x t i) where
  mem:=by simp
  obj:=fun i h st b hb=>by
    have e:b=it:=by simpa using hb
    subst e;obtain⟨o,e,c,d⟩:=st;exact⟨o,e,fun v z=>by rw [d]at z;cases z⟩
  keep:=fun i h h' st k=>by
    obtain⟨o,e,r⟩:=st;exact⟨o,k it (by simp) o e,r⟩
  item:=by
    intro X hP hw hK hc i pins s σ H E I hf st hg;subst hP hw hK;obtain⟨f0,f1,f2,f3,f4,f5⟩:=hf it (by simp);refine(hW X.A (I.ok.hd hc)).item i s _ _ hg st fun v h' tk hv st' kk=>?_;obtain⟨c,u,hc',rfl⟩:=hv;have I1:Inv X pins σ H { s with heap:=h',toks:=tk }:=I.turned (fun b o hb e=>kk b o (by simpa using hb) e) f0 f1 f3 f4 f5;obtain⟨o,e,c',d⟩:=id st';exact⟨_,rfl,zlM (s:={ s with heap:=h',toks:=tk }) e c' d hn ⟨.str ⟨#[c]⟩,H,I1,⟨u,rfl⟩,⟨rfl,c,hc',rfl⟩,st',fun b hb=>(hf b hb).1⟩⟩
  done:=by
    intro X hP hw hK hc i pins s σ H E I hf st hg;subst hP hw hK;obtain⟨f0,f1,f2,f3,f4,f5⟩:=hf it (by simp);have hi:i=x.cps.size:=hg;subst hi;exact(hW X.A (I.ok.hd hc)).done s _ _ st fun h' tk kk=>⟨rfl,I.turned (fun b o hb e=>kk b o (by simpa using hb) e) f0 f1 f3 f4 f5⟩
  self:=hself
noncomputable def TupsOn (H H':Hp):Prop:=∀b xs,H b=some (.tup xs)→H' b=some (.tup xs)
theorem TupsOn.trans{H H1 H2:Hp}(a:TupsOn H H1) (b:TupsOn H1 H2):TupsOn H H2:=fun c xs h=>b c xs (a c xs h)
section
variable {X:Cx}
theorem zhs:OpR X (compareOp .LtE) (fun x y H Q=>∃i j,x= .str i∧y= .str j∧Q (.bl (!decide (j.cps.toList<i.cps.toList))) H):=by
 intro pins s σ H x y v u Q I rx ry h;obtain⟨i,j,rfl,rfl,q⟩:=h;obtain⟨t,rfl⟩:=rx;obtain⟨t',rfl⟩:=ry;exact PySem.P.le_str (zjB I q rfl)
theorem zjI (a b:Nat):(([a]:List Nat)< [b])↔a<b:=by
 rw [List.cons_lt_cons_iff];constructor
 ·rintro(h |⟨_,h⟩)
  ·exact h
  ·exact absurd h (List.lt_irrefl _)
 ·exact .inl
noncomputable def rSlS:V→Option Int→Option Int→Hp→VK→Prop:=fun x lo hi H Q=>∃z,x= .str z∧z.length≤sizeLine∧Q (.str (Txt.slice z lo hi)) H
theorem sl_str:SlR X rSlS:=by
 intro pins s σ H x v vl vu lo hi sl Q I rx hs pl pu h;obtain⟨z,rfl,hz,q⟩:=h;obtain⟨t,rfl⟩:=rx;refine⟨"str",_,F.slot_str_getitem.lookup,typeIs_str _ _ _,?_⟩;obtain⟨o,ho,hc,hd⟩:=hs;have fin:∀t' k,EP X pins σ Q (.str (Txt.slice z lo hi) t') { s with toks:=k }:=fun t' k=>⟨.str _,H,I.tok _,⟨t',rfl⟩,q⟩;have le:=Nat.le_trans (Txt.slice_le z lo hi) hz;cases pl with
 |none=>
  cases pu with
  |none=>exact wpAny_getItem_str_slice (l:=none) (u:=none) (st:=none) ⟨o,ho,hc,hd⟩ rfl (post_val_or_str ⟨le,fin⟩)
  |int j u=>exact wpAny_getItem_str_slice (l:=none) (u:=some (j,u)) (st:=none) ⟨o,ho,hc,hd⟩ rfl (post_val_or_str ⟨le,fin⟩)
 |int i w=>
  cases pu with
  |none=>exact wpAny_getItem_str_slice (l:=some (i,w)) (u:=none) (st:=none) ⟨o,ho,hc,hd⟩ rfl (post_val_or_str ⟨le,fin⟩)
  |int j u=>exact wpAny_getItem_str_slice (l:=some (i,w)) (u:=some (j,u)) (st:=none) ⟨o,ho,hc,hd⟩ rfl (post_val_or_str ⟨le,fin⟩)
noncomputable def zsX (xs:List Nat) (lo hi:Option Int):List Nat:=(xs.drop (HT.sIx xs.length 0 lo)).take (HT.sIx xs.length xs.length hi - HT.sIx xs.length 0 lo)
theorem zpy (lo hi:Option Int) (n:Nat):Builtin.Str.strSliceIndices lo hi 1 n=sliceRange ((HT.sIx n 0 lo:Nat):Int) ((HT.sIx n n hi:Nat):Int) 1:=by
 have one:(1:Int) > 0:=by decide
 have a:∀(v:Option Int) (d:Nat),(match v with |none=>(d:Int) |some i=>(if(1:Int) > 0 then max 0 (min (if i<0 then i+(n:Int) else i) (n:Int)) else max (-1) (min (if i<0 then i+(n:Int) else i) ((n:Int) - 1))))=((HT.sIx n d v:Nat):Int):=by
  intro v d;cases v with
  |none=>rfl
  |some i=>
   simp only[HT.sIx,one,if_true];by_cases h:i<0
   ·simp only[h,if_true];omega
   ·simp only[h,if_false];omega
 have l:=a lo 0;have u:=a hi n;unfold Builtin.Str.strSliceIndices;simp only[one,if_true]at l u⊢
 first
  |rw [l,u]
  | (cases lo<;>cases hi<;>simp_all)
theorem ziE (z:Str) (lo hi:Option Int):(Txt.slice z lo hi).cps.toList=zsX z.cps.toList lo hi:=by
 have hn:z.length=z.cps.toList.length:=by simp [Str.length]
 have hp:(Builtin.Str.strSliceIndices lo hi 1 z.length).filterMap (z.cps[·]?)=zsX z.cps.toList lo hi:=by
  rw [zpy,sliceRange_one,pick_run,hn];rfl
 unfold Txt.slice;split
 ·rename_i h;have h1:(Builtin.Str.strSliceIndices lo hi 1 z.length).length=z.length:=by simpa using h
  rw [zpy,sliceRange_one,List.length_map,List.length_range]at h1;have le1:=HT.sIx_le z.length z.length (Nat.le_refl _) hi;unfold zsX;rw [←hn];have e0:HT.sIx z.length 0 lo=0∨z.length=0:=by omega
  have hz:z.cps.toList.length=z.length:=hn.symm;rcases e0 with e0 |e0
  ·rw [e0,List.drop_zero,List.take_of_length_le (by omega)]
  ·have:z.cps.toList=[]:=List.eq_nil_of_length_eq_zero (by omega);rw [this];simp
 ·show(List.filterMap _ _).toArray.toList=_;rw [hp]
theorem zpe (hc:X.calm=true):CallR X (.builtin "all") (fun xs H Q=>∃(p:Addr) (bs:List Bool),xs=[.ref p]∧SqL X.K H p (bs.map V.bl)∧Q (.bl (bs.all id)) H):=by
 intro pins s σ H xs us Q I r h;obtain⟨p,bs,rfl,hq,q⟩:=h;obtain⟨u,rfl,rx⟩:=zgG r;cases rx;obtain⟨its,r',pl,hz⟩:=I.list hq;have hlen:bs.length=its.length:=by have:=r'.length;rw [List.length_map]at this;exact this
 have hp:p<s.heap.objs.size:=by obtain⟨o,n,e,_⟩:=pl;exact Heap.lt_size e
 have hd:X.A.in1.handled=none:=I.ok.hd hc;have get:∀(i:Nat) (v:Value),its.toArray[i]? =some v→v= .bool (bs.getD i false):=fun i v e=>by
  have e':its[i]? =some v:=by simpa using e
  have hi:i<bs.length:=by rw [hlen];exact(List.getElem?_eq_some_iff.mp e').1
  obtain⟨u,hu,ru⟩:=r'.get (i:=i) (x:= .bl (bs.getD i false)) (by rw [List.getElem?_map,List.getElem?_eq_getElem hi,List.getD_eq_getElem?_getD,List.getElem?_eq_getElem hi];rfl);rw [e']at hu;cases hu;exact ru
 refine call_all_walk (wpAny_pyIter_list pl.isList ?_);refine⟨s.heap.objs.size,_,_,_,_,_,fun i=>bs.getD i false,rfl,Walks.list hd _ p (Nat.ne_of_lt hp) its.toArray,⟨⟨_,Heap.get?_push_size _ rfl,rfl,rfl⟩,pl.isList.push _⟩,fun i v s' Q' E' hP hQ=>?_,fun h' tk hk=>?_⟩
 ·rw [get i v hP];exact wpAny_truthy_bool hQ
 ·have e:(List.range its.toArray.size).all (fun i=>bs.getD i false)=bs.all id:=by
   rw [List.size_toArray,←hlen];have:bs=(List.range bs.length).map fun i=>bs.getD i false:=by
    apply List.ext_getElem?;intro i;rw [List.getElem?_map];by_cases hi:i<bs.length
    ·rw [List.getElem?_range hi,List.getElem?_eq_getElem hi];show some bs[i]=some (bs.getD i false);rw [List.getD_eq_getElem?_getD,List.getElem?_eq_getElem hi];rfl
    ·rw [List.getElem?_eq_none (by omega),List.getElem?_eq_none (by simpa using hi)];rfl
   conv=>rhs;rw [this]
   rw [List.all_map];rfl
  have I1:Inv X pins σ H { s with heap:=h',toks:=tk }:=I.kept fun b o e=>hk b o (fun z=>by
   have z':b=s.heap.objs.size:=by simpa using z
   rw [z']at e;exact absurd (Heap.lt_size e) (Nat.lt_irrefl _)) (Heap.get?_push_of_some _ e)
  exact⟨.bl _,H,I1,by rw [e];exact rfl,q⟩
theorem zoh:CallR X (.builtin "isinstance") (fun xs H Q=>∃x t c b,xs=[x, .ty c]∧TyOf X.K H x t∧PySem.W.kitOne X.K t (.type c)=some b∧Q (.bl b) H):=by
 intro pins s σ H xs us Q I r h;obtain⟨x,t,c,b,rfl,ty,e,q⟩:=h;obtain⟨u,v,rfl,rx,ry⟩:=zqp r;cases(show v=Value.type c from ry);exact zna I rx ty e fun tk=>⟨.bl b,H,I.tok _,rfl,q⟩
end
section
variable {X:Cx}
theorem zen (l:Addr) (items:Array Value) (n:Nat) (b:Addr) (items2:Array Value) (n2:Nat) (dd:Option Addr) (sl:Array (Option Value)) (hs0:¬(!items.isEmpty&&Builtin.List.listTooLong (items.size+items2.size))=true) (hs1:items.size≤sizeLine) (hs2:items.size+items2.size≤sizeLine+1) :
  Meets (Builtin.«list.extend» ⟨[.ref l, .ref b],[]⟩) (fun _ R s=>s.heap.get? l=some { cls:= .type "list",dict:=none,data:= .seq items n,slots:= #[] }∧s.heap.get? b=some { cls:= .type "tuple",dict:=dd,data:= .seq items2 n2,slots:=sl }∧R (.ok (.ret Value.none)) { s with heap:=s.heap.update l (Obj.mapSeq fun x=>x++items2),toks:=s.toks }):=
 .of_wp fun prog w A R s h=>by
  obtain⟨hp,g,d,tk,os⟩:=s;obtain⟨hl,hb,h⟩:=h;have f1:=AutoSeq1.idx_int;have f2:=AutoSeq1.sub_tuple_tuple;have f3:=AutoSeq1.sub_list_list;have f4:=AutoSeq1.sub_tuple_list;have f5:=AutoSeq1.sub_list_tuple;have hz':(items++items2).size≤sizeLine+1:=by rw [Array.size_append];exact hs2
  wp_walk using(wpAny_updateSeq hl rfl (hz:=hs1) (_hz':=hz')),AutoSeq1.wpAny_loadPart' hl,AutoSeq1.wpAny_loadPart' hb;exact⟨_,rfl,h⟩
noncomputable def zko (K:PySem.W.Frag):V→List V→Hp→VK→Prop:=fun x vs H Q=>∃l b xs zs,x= .ref l∧vs=[.ref b]∧H l=some (.lst xs)∧SqT K H b zs∧xs.length+zs.length≤sizeLine∧Q .non (upd H l (.lst (xs++zs)))
theorem zla:MtM X "list.extend" (zko X.K):=by
 intro pins s σ H x vs v us Q I rx rv h;obtain⟨l,b,xs,zs,rfl,rfl,hH,hB,hz,q⟩:=h;cases rx;obtain⟨u,rfl,ru⟩:=rv.one;cases ru;obtain⟨z,its,n,r,hl,e⟩:=I.lstM hH;obtain⟨its2,r2,ht,hz2⟩:=I.tuple hB;obtain⟨⟨cls,dd,data,sl⟩,e2,hc,n2,hd⟩:=ht;simp only at hc hd;subst hc hd;have hl2:=r2.length;have hsz:its.toArray.size+its2.toArray.size≤sizeLine:=by rw [List.size_toArray,List.size_toArray];omega
 have hlong:¬(!its.toArray.isEmpty&&Builtin.List.listTooLong (its.toArray.size+its2.toArray.size))=true:=by
  rw [zgM hsz,Bool.and_false];exact Bool.false_ne_true
 refine call_meets F.slot_list_extend ⟨_,e,rfl⟩ F.entry_list_extend (F.args_list_extend_2 _ _)
  (zen l its.toArray n b its2.toArray n2 dd sl hlong (by rw [List.size_toArray];omega) (by omega)) ⟨e,e2,?_⟩
 refine⟨.non,_,I.lset (its':=its++its2) hH e (by simp) (r.append r2) ?_,rfl,q⟩;rw [List.length_append];omega
noncomputable def zst (K:PySem.W.Frag):V→List V→Hp→VK→Prop:=fun x vs H Q=>∃(z:Str) (b:Addr) (ys:List Str),x= .str z∧vs=[.ref b]∧SqL K H b (ys.map V.str)∧(ys.map (·.length)).sum+ys.length*z.length≤16777216∧Q (.str (Str.join z ys)) H
theorem zqR{ys:List Str}:∀{us:List Value},Vals (ys.map V.str) us→StrsAre us ys:=by
 induction ys with
 |nil=>
  intro us r;cases r;exact .nil
 |cons y ys ih=>
  intro us r;cases r with
  |cons a b=>
   obtain⟨t,rfl⟩:=a;exact .cons y t (ih b)
theorem zrh:MtM X "str.join" (zst X.K):=by
 intro pins s σ H x vs v us Q I rx rv h;obtain⟨z,b,ys,rfl,rfl,hB,hz,q⟩:=h;obtain⟨t,rfl⟩:=rx;obtain⟨u,rfl,ru⟩:=rv.one;cases ru;obtain⟨its,r,pl,_⟩:=I.list hB;refine join_list pl.isList (by simpa using zqR r) hz fun t' k=>⟨.str (Str.join z ys),H,I.tok _,⟨t',?_⟩,q⟩;show Value.str (Builtin.Str.glued z ys) t'=_;rw [StrLaws.glued_eq_join]
noncomputable def zpK:V→List V→Hp→VK→Prop:=fun x vs H Q=>∃(z y:Str) (i:Nat) (rest:List Nat),x= .str z∧vs=[.str y]∧Builtin.Str.occurrences z y 0 z.length 1=i::rest∧Q (.int i) H
theorem zod:MtM X "str.index" zpK:=by
 intro pins s σ H x vs v us Q I rx rv h;obtain⟨z,y,i,rest,rfl,rfl,ho,q⟩:=h;obtain⟨t,rfl⟩:=rx;obtain⟨u,rfl,ru⟩:=rv.one;obtain⟨t2,rfl⟩:=ru;exact SC.index ho ⟨.int i,H,I.tok _,⟨_,rfl⟩,q⟩
end
theorem zfb:fillsNumberSlot (.type "tuple") "mul" =pure false:=
 PySem.fillsNumberSlot_seq (id:= "tuple.__mul__") (r:=some (.builtin "tuple.__rmul__")) F.slot_tuple_mul.lookup (by decide +kernel) F.slot_tuple_rmul.lookup (by decide +kernel)
theorem zhq:seqRepeat? (.type "tuple")=pure (some (.builtin "tuple.__mul__")):=by
 unfold seqRepeat?;rw [PySem.seqSlot_of (T:= "tuple") (name:= "__mul__") (id:= "tuple.__mul__") F.slot_tuple_mul.lookup (by decide +kernel),PySem.seqSlot_of (T:= "tuple") (name:= "__rmul__") (id:= "tuple.__rmul__") F.slot_tuple_rmul.lookup (by decide +kernel)];rfl
theorem zkz (a:Int) (t:Tok) (l:Addr) (items:Array Value) (n:Nat) (dd:Option Addr) (sl:Array (Option Value)) :
  Meets (Builtin.«int.__rmul__» ⟨[.int a t, .ref l],[]⟩) (fun _ R s=>s.heap.get? l=some { cls:= .type "tuple",dict:=dd,data:= .seq items n,slots:=sl }∧R (.ok (.ret Value.notImplemented)) s):=
 .of_wp fun prog w A R s h=>by obtain⟨hp,g,d,tk,os⟩:=s;obtain⟨hl,h⟩:=h;wp_walk;exact⟨_,rfl,h⟩
theorem zgV (l:Addr) (items:Array Value) (n:Nat) (dd:Option Addr) (sl:Array (Option Value)) (u:Tok) :
  Meets (Builtin.«tuple.__mul__» ⟨[.ref l, .int 1 u],[]⟩) (fun _ R s=>s.heap.get? l=some { cls:= .type "tuple",dict:=dd,data:= .seq items n,slots:=sl }∧R (.ok (.ret (.ref l))) s):=
 .of_wp fun prog w A R s h=>by
  obtain⟨hp,g,d,tk,os⟩:=s;obtain⟨hl,h⟩:=h;have f1:=AutoSeq1.idx_int;have f2:=AutoSeq1.sub_tuple_tuple
  wp_walk using AutoSeq1.wpAny_loadPart' hl
  exact⟨_,rfl,h⟩
theorem zgT (l:Addr) (items:Array Value) (n:Nat) (dd:Option Addr) (sl:Array (Option Value)) (x:Int) (u:Tok) (h0:x≤0) (h1: -(2 ^ 63)≤x) (hne:items.isEmpty=false) :
  Meets (Builtin.«tuple.__mul__» ⟨[.ref l, .int x u],[]⟩) (fun _ R s=>s.heap.get? l=some { cls:= .type "tuple",dict:=dd,data:= .seq items n,slots:=sl }∧R (.ok (.ret (.ref s.heap.objs.size))) { s with heap:=s.heap.push { cls:= .type "tuple",data:= .seq #[] } }):=
 .of_wp fun prog w A R s h=>by
  obtain⟨hp,g,d,tk,os⟩:=s;obtain⟨hl,h⟩:=h;have f1:=AutoSeq1.idx_int;have f2:=AutoSeq1.sub_tuple_tuple;have c1:(decide (x< -2 ^ 63) || decide (x≥2 ^ 63))=false:=by
   rw [decide_eq_false (by omega),decide_eq_false (by omega)];rfl
  have c2:(items.isEmpty || x == 1)=false:=by
   rw [hne,beq_false_of_ne (by omega)];rfl
  have c3:(decide (x≤0) || items.isEmpty)=true:=by rw [decide_eq_true h0];rfl
  wp_walk using AutoSeq1.wpAny_loadPart' hl
  refine wpAny_ite_split (fun z=>absurd z (Bool.eq_false_iff.mp c1)) fun _=>?_
  wp_walk using AutoSeq1.wpAny_loadPart' hl
  refine wpAny_ite_split (fun z=>absurd z (Bool.eq_false_iff.mp c2)) fun _=>?_;refine wpAny_ite_split (fun _=>?_) (fun z=>absurd c3 z)
  wp_walk using AutoSeq1.wpAny_loadPart' hl
  exact⟨_,rfl,h⟩
theorem zfU (l:Addr) (items:Array Value) (n:Nat) (dd:Option Addr) (sl:Array (Option Value)) (x:Int) (u:Tok) (h0:2≤x) (h1:x<2 ^ 63) (hne:items.isEmpty=false) (hz:items.size*x.toNat≤sizeLine) :
  Meets (Builtin.«tuple.__mul__» ⟨[.ref l, .int x u],[]⟩) (fun _ R s=>s.heap.get? l=some { cls:= .type "tuple",dict:=dd,data:= .seq items n,slots:=sl }∧R (.ok (.ret (.ref s.heap.objs.size))) { s with heap:=s.heap.push { cls:= .type "tuple",data:= .seq (List.foldl (fun x1 x2=>x1++x2) #[] (List.replicate x.toNat items)) } }):=
 .of_wp fun prog w A R s h=>by
  obtain⟨hp,g,d,tk,os⟩:=s;obtain⟨hl,h⟩:=h;have f1:=AutoSeq1.idx_int;have f2:=AutoSeq1.sub_tuple_tuple;have hx:((x.toNat:Nat):Int)=x:=by omega
  have hzi:(items.size:Int)*x≤16777216:=by
   have:((items.size*x.toNat:Nat):Int)≤(sizeLine:Nat):=by exact_mod_cast hz
   rw [Int.natCast_mul,hx]at this;exact this
  have c1:(decide (x< -2 ^ 63) || decide (x≥2 ^ 63))=false:=by
   rw [decide_eq_false (by omega),decide_eq_false (by omega)];rfl
  have c2:(items.isEmpty || x == 1)=false:=by
   rw [hne,beq_false_of_ne (by omega)];rfl
  have c3:(decide (x≤0) || items.isEmpty)=false:=by rw [hne,decide_eq_false (by omega)];rfl
  have c4:¬(items.size:Int)*x > (2 ^ 63 - 1) / 8:=by omega
  have c5:Builtin.Tuple.tupleTooMany ((items.size:Int)*x)=false:=decide_eq_false (by
   have:((sizeLine:Nat):Int)=16777216:=by decide
   omega)
  have hsz:(List.foldl (fun x1 x2=>x1++x2) #[] (List.replicate x.toNat items)).size≤sizeLine:=by
   rw [AutoSeq1.size_joined];simp;rw [Nat.mul_comm];exact hz
  wp_walk using AutoSeq1.wpAny_loadPart' hl
  refine wpAny_ite_split (fun z=>absurd z (Bool.eq_false_iff.mp c1)) fun _=>?_
  wp_walk using AutoSeq1.wpAny_loadPart' hl
  refine wpAny_ite_split (fun z=>absurd z (Bool.eq_false_iff.mp c2)) fun _=>?_;refine wpAny_ite_split (fun z=>absurd z (Bool.eq_false_iff.mp c3)) fun _=>?_;refine wpAny_ite_split (fun z=>absurd z c4) fun _=>?_;refine wpAny_ite_split (fun z=>absurd z (Bool.eq_false_iff.mp c5)) fun _=>?_
  wp_walk using AutoSeq1.wpAny_loadPart' hl
  exact⟨_,rfl,h⟩
section
variable {X:Cx}
noncomputable def zue (K:PySem.W.Frag):R2:=fun x y H Q=>∃a k xs,x= .ref a∧y= .int k∧SqT K H a xs∧xs≠ []∧ -(2 ^ 63)≤k∧k<2 ^ 63∧xs.length*k.toNat≤sizeLine∧
 (k=1→Q (.ref a) H)∧(k≠1→ ∀p,H p=none→Q (.ref p) (upd H p (.tup (List.replicate k.toNat xs).flatten)))
theorem zqC:OpR X (binaryOp .Mult) (zue X.K):=by
 intro pins s σ H x y v u Q I rx ry h;obtain⟨a,k,xs,rfl,rfl,ha,hne,h1,h2,hz,q1,q2⟩:=h;cases rx;obtain⟨t,rfl⟩:=ry;obtain⟨its,r,ht,hz0⟩:=I.tuple ha;have hlen:=r.length;have ty:=ht.typeIs;obtain⟨⟨cls,dd,data,sl⟩,e,hc,n,hd⟩:=ht;simp only at hc hd;subst hc hd;have hemp:its.toArray.isEmpty=false:=by
  cases its with
  |nil=>
   have:xs=[]:=List.eq_nil_of_length_eq_zero (by rw [hlen];rfl);exact absurd this hne
  |cons b bs=>rfl
 have fin:∀{its':List Value}{ys:List V},Vals ys its'→ys.length≤sizeLine→(∀p,H p=none→Q (.ref p) (upd H p (.tup ys)))→EP X pins σ Q (.ref s.heap.objs.size) { s with heap:=s.heap.push { cls:= .type "tuple",data:= .seq its'.toArray } }:=fun {its' ys} rv hl q=>
  ⟨.ref s.heap.objs.size,_,I.laid (t':=s.toks) (o:= .tup ys) (fun b ob q=>Heap.get?_push_of_some _ q) (Nat.le_refl _) ⟨hl,_,rv,IsTup.new _ _⟩,rfl,q _ (I.hok.fresh (Nat.le_refl _))⟩
 refine wpAny_binaryOp_repeat_ref (T:= "tuple") (U:= "int") (by decide) ty (fun s'=>typeIs_int s' k t) zfb F.fills_int_mul F.slot_int_rmul zhq F.slot_int_index.lookup
  (call_meets F.slot_int_rmul (typeIs_int s k t) F.entry_int_rmul (F.args_int_rmul_2 _ _) (zkz k t a its.toArray n dd sl) ⟨e,rfl,ty,?_⟩)
 by_cases hk:k=1
 ·subst hk;exact call_meets F.slot_tuple_mul ty F.entry_tuple_mul (F.args_tuple_mul_2 _ _) (zgV a its.toArray n dd sl t) ⟨e, .ref a,H,I,rfl,q1 rfl⟩
 ·by_cases h0:k≤0
  ·refine call_meets F.slot_tuple_mul ty F.entry_tuple_mul (F.args_tuple_mul_2 _ _) (zgT a its.toArray n dd sl k t h0 h1 hemp) ⟨e,?_⟩;have z:k.toNat=0:=by omega
   have q2':=q2 hk;rw [z]at q2';exact fin (its':=[]) (ys:=[]) .nil (Nat.zero_le _) q2'
  ·refine call_meets F.slot_tuple_mul ty F.entry_tuple_mul (F.args_tuple_mul_2 _ _) (zfU a its.toArray n dd sl k t (by omega) h2 hemp (by rw [List.size_toArray,←hlen];exact hz)) ⟨e,?_⟩;have hf:=zfv its k.toNat [];rw [List.nil_append]at hf;have hf':List.foldl (fun x1 x2=>x1++x2) #[] (List.replicate k.toNat its.toArray)=(List.replicate k.toNat its).flatten.toArray:=hf;rw [hf'];exact fin (r.rep k.toNat) (by rw [zmr,Nat.mul_comm];exact hz) (q2 hk)
end
inductive W where
  |non |bl (b:Bool) |int (i:Int) |str (x:Str) |tup (ws:List W) |ref (a:Addr) |scr (ns:List Int)
inductive Ob where
  |lst (ws:List W)
  |dct (kvs:List (List Int×W))
  |ins (C:Addr) (fs:List (Str×W))
noncomputable abbrev Sto:=Addr→Option Ob
noncomputable def put (S:Sto) (a:Addr) (o:Ob):Sto:=fun b=>if b=a then some o else S b
noncomputable def FzL (K:PySem.W.Frag) (H:Hp) (a:Addr) (xs:List V):Prop:=
 (∃o,H a=some (.frz o (.lst xs)))∨
  ∃(o:Obj) (its:Array Value) (n:Nat),K.lookup a=some o∧o.cls= .type "list" ∧o.dict=none∧o.data= .seq its n∧its.size≤sizeLine∧Vals xs its.toList
mutual
inductive Rep (K:PySem.W.Frag) (H:Hp):W→V→Prop
 |non:Rep K H .non .non
 |bl (b:Bool):Rep K H (.bl b) (.bl b)
 |int (i:Int):Rep K H (.int i) (.int i)
 |str (x:Str):Rep K H (.str x) (.str x)
 |ref (a:Addr):Rep K H (.ref a) (.ref a)
 |scr {a:Addr}{ns:List Int}:FzL K H a (ns.map V.int)→Rep K H (.scr ns) (.ref a)
 |tup {a:Addr}{vs:List V}{ws:List W}:H a=some (.tup vs)→Reps K H ws vs→Rep K H (.tup ws) (.ref a)
inductive Reps (K:PySem.W.Frag) (H:Hp):List W→List V→Prop
 |nil:Reps K H [] []
 |cons {w:W}{v:V}{ws:List W}{vs:List V}:Rep K H w v→Reps K H ws vs→Reps K H (w::ws) (v::vs)
end
structure Ext (H:Hp) (S:Sto) (H':Hp) (S':Sto):Prop where
  tup:∀b xs,H b=some (.tup xs)→H' b=some (.tup xs)
  frz:∀b o u,H b=some (.frz o u)→H' b=some (.frz o u)
  fr:∀b xs,H b=some (.lst xs)→S b=none→H' b=some (.lst xs)∧S' b=none
  all:∀b o,H b=some o→ ∃o',H' b=some o'
noncomputable def Sub (S S':Sto):Prop:=∀a o,S a=some o→S' a=some o
section
variable {K:PySem.W.Frag}{H H' H1 H2:Hp}{S S' S1 S2:Sto}
theorem zag{a:Addr}{o:Ob}:put S a o a=some o:=by unfold put;rw [if_pos rfl]
theorem zaI{a b:Addr}{o:Ob}(h:b≠a):put S a o b=S b:=by unfold put;rw [if_neg h]
theorem zcc{a:Addr}{o o':Ob}:put (put S a o) a o'=put S a o':=by funext b;unfold put;split<;>rfl
theorem Ext.refl:Ext H S H S:=⟨fun _ _ h=>h,fun _ _ _ h=>h,fun _ _ h g=>⟨h,g⟩,fun _ o h=>⟨o,h⟩⟩
theorem Ext.trans (a:Ext H S H1 S1) (b:Ext H1 S1 H2 S2):Ext H S H2 S2:=⟨fun c xs h=>b.tup c xs (a.tup c xs h),fun c o u h=>b.frz c o u (a.frz c o u h),
 fun c o h g=>by
  obtain⟨h1,g1⟩:=a.fr c o h g;exact b.fr c o h1 g1,fun c o h=>by
  obtain⟨o1,h1⟩:=a.all c o h;exact b.all c o1 h1⟩
theorem Ext.new{p:Addr}{o:HO}(h:H p=none):Ext H S (upd H p o) S:=
  ⟨fun b xs e=>by rw [zau (zaq e h)];exact e,fun b ob u e=>by rw [zau (zaq e h)];exact e,
   fun b ob e g=>⟨by rw [zau (zaq e h)];exact e,g⟩,fun b ob e=>⟨ob,by rw [zau (zaq e h)];exact e⟩⟩
theorem Ext.newS{p:Addr}{o:HO}{ob:Ob}(h:H p=none):Ext H S (upd H p o) (put S p ob):=
  ⟨fun b xs e=>by rw [zau (zaq e h)];exact e,fun b ob u e=>by rw [zau (zaq e h)];exact e,
   fun b ob e g=>⟨by rw [zau (zaq e h)];exact e,by rw [zaI (zaq e h)];exact g⟩,fun b ob e=>⟨ob,by rw [zau (zaq e h)];exact e⟩⟩
theorem Ext.mut{p:Addr}{o u:HO}{ob ob0:Ob}(h:H p=some u) (hs:S p=some ob0) (ht:∀xs,u≠ .tup xs) (hf:∀ob q,u≠ .frz ob q):Ext H S (upd H p o) (put S p ob):=
  ⟨fun b xs e=>by rw [zau (zmB e h fun z=>ht xs z.symm)];exact e,fun b ob q e=>by rw [zau (zmB e h fun z=>hf ob q z.symm)];exact e,
   fun b ob e g=>by
     have hb:b≠p:=by rintro rfl;rw [hs]at g;cases g
     exact⟨by rw [zau hb];exact e,by rw [zaI hb];exact g⟩,fun b ob e=>by
     by_cases hb:b=p
     · subst hb;exact⟨o,zat⟩
     · exact⟨ob,by rw [zau hb];exact e⟩⟩
theorem Ext.lst{p:Addr}{o:HO}{ob ob0:Ob}{xs:List V}(h:H p=some (.lst xs)) (hs:S p=some ob0):Ext H S (upd H p o) (put S p ob):= .mut h hs (fun _ z=>nomatch z) fun _ _ z=>nomatch z
theorem Ext.drop (h:Sub S' S):Ext H S H S':=⟨fun _ _ h=>h,fun _ _ _ h=>h,fun b o e g=>⟨e,by
 cases q:S' b with
 |none=>rfl
 |some z=>rw [h b z q]at g;cases g⟩,fun _ o h=>⟨o,h⟩⟩
theorem Ext.free (e:Ext H S H' S') {p:Addr}(h:H' p=none):H p=none:=by
 cases q:H p with
 |none=>rfl
 |some o=>obtain⟨o',z⟩:=e.all p o q;rw [h]at z;cases z
theorem Ext.fz{a:Addr}{xs:List V}(e:Ext H S H' S') (h:FzL K H a xs):FzL K H' a xs:=by
 rcases h with⟨o,h⟩ |h
 ·exact .inl ⟨o,e.frz _ _ _ h⟩
 ·exact .inr h
theorem FzL.sq{a:Addr}{xs:List V}(h:FzL K H a xs):SqL K H a xs:=by
 rcases h with⟨o,h⟩ |h
 ·exact .inl (.inr ⟨o,h⟩)
 ·exact .inr h
mutual
theorem Rep.ext (e:Ext H S H' S') {w:W}{v:V}:Rep K H w v→Rep K H' w v
 | .non=> .non
 | .bl b=> .bl b
 | .int i=> .int i
 | .str x=> .str x
 | .ref a=> .ref a
 | .scr h=> .scr (e.fz h)
 | .tup h hs=> .tup (e.tup _ _ h) (Reps.ext e hs)
theorem Reps.ext (e:Ext H S H' S') {ws:List W}{vs:List V}:Reps K H ws vs→Reps K H' ws vs
 | .nil=> .nil
 | .cons h hs=> .cons (Rep.ext e h) (Reps.ext e hs)
end
theorem Reps.length:∀{ws:List W}{vs:List V},Reps K H ws vs→ws.length=vs.length
 |_,_, .nil=>rfl
 |_,_, .cons _ hs=>congrArg (· +1) (Reps.length hs)
theorem Reps.get:∀{ws:List W}{vs:List V}{i:Nat}{w:W},Reps K H ws vs→ws[i]? =some w→ ∃v,vs[i]? =some v∧Rep K H w v
 |_,_,_,_, .nil,e=>by simp at e
 |_,_,0,_, .cons h _,e=>by simp at e;subst e;exact⟨_,rfl,h⟩
 |_,_,i+1,w, .cons _ hs,e=>by
  obtain⟨v,h1,h2⟩:=Reps.get (i:=i) (w:=w) hs (by simpa using e);exact⟨v,by simpa using h1,h2⟩
theorem Reps.append:∀{ws us:List W}{vs xs:List V},Reps K H ws vs→Reps K H us xs→Reps K H (ws++us) (vs++xs)
 |_,_,_,_, .nil,h=>h
 |_,_,_,_, .cons r t,h=> .cons r (Reps.append t h)
theorem Reps.take:∀{ws:List W}{vs:List V}(n:Nat),Reps K H ws vs→Reps K H (ws.take n) (vs.take n)
 |_,_,0,_=> .nil
 |_,_,_+1, .nil=> .nil
 |_,_,n+1, .cons r t=> .cons r (Reps.take n t)
theorem Reps.drop:∀{ws:List W}{vs:List V}(n:Nat),Reps K H ws vs→Reps K H (ws.drop n) (vs.drop n)
 |_,_,0,r=>r
 |_,_,_+1, .nil=> .nil
 |_,_,n+1, .cons _ t=>Reps.drop n t
theorem Reps.one{w:W}{v:V}(h:Rep K H w v):Reps K H [w] [v]:= .cons h .nil
theorem Reps.ofInts:∀(ns:List Int),Reps K H (ns.map W.int) (ns.map V.int)
 | []=> .nil
 |n::ns=> .cons (.int n) (Reps.ofInts ns)
theorem Reps.dropLast:∀{ws:List W}{vs:List V},Reps K H ws vs→Reps K H ws.dropLast vs.dropLast
 |_,_, .nil=> .nil
 |_,_, .cons _ .nil=> .nil
 |_,_, .cons h (.cons h1 hs)=> .cons h (Reps.dropLast (.cons h1 hs))
theorem Reps.set{w:W}{v:V}(h:Rep K H w v):∀{ws:List W}{vs:List V}(i:Nat),Reps K H ws vs→Reps K H (ws.set i w) (vs.set i v)
 |_,_,_, .nil=> .nil
 |_,_,0, .cons _ t=> .cons h t
 |_,_,i+1, .cons q t=> .cons q (Reps.set h i t)
end
noncomputable def RepO (K:PySem.W.Frag) (H:Hp) (a:Addr):Ob→Prop
 | .lst ws=>∃vs,H a=some (.lst vs)∧Reps K H ws vs
 | .dct kvs=>∃ps:List (List Key×V),H a=some (.dT ps)∧Paired (fun q p=>p.1=q.1.map Sum.inl∧Rep K H q.2 p.2) kvs ps
 | .ins C fs=>False
noncomputable def RepS (K:PySem.W.Frag) (H:Hp) (S:Sto):Prop:=∀a o,S a=some o→RepO K H a o
section
variable {K:PySem.W.Frag}{H H':Hp}{S S' S0 S0':Sto}{a b p:Addr}{o:Ob}
theorem Sub.refl:Sub S S:=fun _ _ h=>h
theorem Sub.trans{S1 S2 S3:Sto}(h:Sub S1 S2) (g:Sub S2 S3):Sub S1 S3:=fun a o e=>g a o (h a o e)
theorem RepS.sub (h:RepS K H S') (q:Sub S S'):RepS K H S:=fun a o e=>h a o (q a o e)
theorem RepO.some (h:RepO K H a o):∃u,H a=some u:=by
 cases o with
 |lst ws=>obtain⟨vs,e,_⟩:=h;exact⟨_,e⟩
 |dct kvs=>obtain⟨vs,e,_⟩:=h;exact⟨_,e⟩
 |ins C fs=>exact h.elim
theorem RepS.free (h:RepS K H S) (e:H p=none):S p=none:=by
 cases q:S p with
 |none=>rfl
 |some o=>obtain⟨u,z⟩:=(h p o q).some;rw [e]at z;cases z
theorem RepO.keep (e:Ext H S0 H' S0') (k:∀u,H a=Option.some u→H' a=Option.some u) (h:RepO K H a o):RepO K H' a o:=by
 cases o with
 |lst ws=>obtain⟨vs,e1,r⟩:=h;exact⟨vs,k _ e1,r.ext e⟩
 |dct kvs=>obtain⟨vs,e1,r⟩:=h;exact⟨vs,k _ e1,Paired.mapP r fun _ _ z=>⟨z.1,z.2.ext e⟩⟩
 |ins C fs=>exact h.elim
theorem RepS.new{u:HO}(h:RepS K H S) (e:H p=none):RepS K (upd H p u) S:=fun a o q=>
 (h a o q).keep (.new (S:=S) e) fun v z=>by rw [zau (zaq z e)];exact z
theorem RepS.put_lst{ws:List W}{vs:List V}(h:RepS K H S) (e:H p=none) (r:Reps K (upd H p (.lst vs)) ws vs):RepS K (upd H p (.lst vs)) (put S p (.lst ws)):=fun a o q=>by
 by_cases ha:a=p
 ·subst ha;rw [zag]at q;cases q;exact⟨vs,zat,r⟩
 ·rw [zaI ha]at q;exact h.new e a o q
theorem RepS.set_lst{ws0 ws:List W}{vs:List V}(h:RepS K H S) (e:S a=some (.lst ws0)) (r:Reps K H ws vs):Ext H S (upd H a (.lst vs)) (put S a (.lst ws))∧RepS K (upd H a (.lst vs)) (put S a (.lst ws)):=by
 obtain⟨vs0,e0,_⟩:=h a _ e;have x:Ext H S (upd H a (.lst vs)) (put S a (.lst ws)):= .lst e0 e;refine⟨x,fun b o q=>?_⟩;by_cases hb:b=a
 ·subst hb;rw [zag]at q;cases q;exact⟨vs,zat,r.ext x⟩
 ·rw [zaI hb]at q;exact(h b o q).keep x fun u z=>by rw [zau hb];exact z
end
noncomputable abbrev WSt:=List (Option W)
noncomputable abbrev WK:=W→Sto→Prop
noncomputable abbrev WX:=Str→WSt→Sto→Prop
noncomputable abbrev WE:=WX→WSt→Sto→WK→Prop
noncomputable abbrev WT:=WX→WSt→Sto→(Bool→Sto→Prop)→Prop
noncomputable abbrev WA:=WX→WSt→Sto→(List W→Sto→Prop)→Prop
structure WEnds where
  nx:WSt→Sto→Prop
  rt:WK
  bk:WSt→Sto→Prop:=fun _ _=>False
  ct:WSt→Sto→Prop:=fun _ _=>False
noncomputable abbrev WS:=WX→WEnds→WSt→Sto→Prop
noncomputable abbrev WG:=W→WSt→Sto→(WSt→Sto→Prop)→Prop
noncomputable abbrev WSp:=List W→Sto→WK→(Str→Sto→Prop)→Prop
noncomputable abbrev WI:=WX→WSt→Sto→(List W→(Sto→Prop)→Sto→Prop)→Prop
noncomputable abbrev WL:=WX→WSt→Sto→(List W→Sto→Prop)→Prop
noncomputable def RpO (K:PySem.W.Frag) (H:Hp):Option W→Option V→Prop
 |none,_=>True
 |some w,some v=>Rep K H w v
 |some _,none=>False
noncomputable def RpSt (K:PySem.W.Frag) (H:Hp) (σW:WSt) (σ:St):Prop:=Paired (RpO K H) σW σ
section
variable {K:PySem.W.Frag}{H H':Hp}{S S':Sto}
theorem RpO.ext (e:Ext H S H' S'):∀{w:Option W}{v:Option V},RpO K H w v→RpO K H' w v
 |none,_,_=>trivial
 |some _,some _,h=>Rep.ext e h
 |some _,none,h=>h.elim
theorem RpSt.ext (e:Ext H S H' S') {σW:WSt}{σ:St}(h:RpSt K H σW σ):RpSt K H' σW σ:=Paired.mapP h fun _ _ r=>RpO.ext e r
theorem RpSt.get:∀{σW:WSt}{σ:St}{i:Nat}{w:W},RpSt K H σW σ→σW[i]? =some (some w)→ ∃v,σ[i]? =some (some v)∧Rep K H w v
 |_,_,_,_, .nil,e=>by simp at e
 |_,_,0,_, .cons (b:=b) h _,e=>by
  simp at e;subst e;cases b with
  |none=>exact(show False from h).elim
  |some v=>exact⟨v,rfl,h⟩
 |_,_,i+1,w, .cons _ hs,e=>by
  obtain⟨v,h1,h2⟩:=RpSt.get (i:=i) (w:=w) hs (by simpa using e);exact⟨v,by simpa using h1,h2⟩
theorem RpSt.set{w:W}{v:V}(h:Rep K H w v):∀{σW:WSt}{σ:St}(i:Nat),RpSt K H σW σ→RpSt K H (σW.set i (some w)) (σ.set i (some v))
 |_,_,_, .nil=> .nil
 |_,_,0, .cons _ t=> .cons h t
 |_,_,i+1, .cons q t=> .cons q (RpSt.set h i t)
end
noncomputable def Wish (K:PySem.W.Frag) (H:Hp) (S:Sto) (QW:WK) (Q:VK):Prop:=∀w S' v H',Ext H S H' S'→Rep K H' w v→RepS K H' S'→QW w S'→Q v H'
noncomputable def zuC (K:PySem.W.Frag) (t:WSt→Sto→WK→Prop):TE:=fun σ H Q=>∃σW S QW,RpSt K H σW σ∧RepS K H S∧t σW S QW∧Wish K H S QW Q
noncomputable def zqK (K:PySem.W.Frag) (t:WSt→Sto→(Bool→Sto→Prop)→Prop):TT:=fun σ H Q=>∃σW S QW,RpSt K H σW σ∧RepS K H S∧t σW S QW∧ ∀b S' H',Ext H S H' S'→RepS K H' S'→QW b S'→Q b H'
noncomputable def zvT (K:PySem.W.Frag) (t:WSt→Sto→(List W→Sto→Prop)→Prop):TA:=fun σ H Q=>∃σW S QW,RpSt K H σW σ∧RepS K H S∧t σW S QW∧ ∀ws S' vs H',Ext H S H' S'→Reps K H' ws vs→RepS K H' S'→QW ws S'→Q vs H'
noncomputable def Goes (K:PySem.W.Frag) (H:Hp) (S:Sto) (P:WSt→Sto→Prop) (Q:St→Hp→Prop):Prop:=∀σW S' σ H',Ext H S H' S'→RpSt K H' σW σ→RepS K H' S'→P σW S'→Q σ H'
structure Meets (K:PySem.W.Frag) (H:Hp) (S:Sto) (DW:WEnds) (D:Ends):Prop where
  nx:Goes K H S DW.nx D.nx
  rt:Wish K H S DW.rt D.rt
  bk:Goes K H S DW.bk D.bk
  ct:Goes K H S DW.ct D.ct
noncomputable def ztY (K:PySem.W.Frag) (t:WEnds→WSt→Sto→Prop):TS:=fun D σ H=>∃σW S DW,RpSt K H σW σ∧RepS K H S∧t DW σW S∧Meets K H S DW D
noncomputable def zvj (K:PySem.W.Frag) (t:WG):TG:=fun v σ H Q=>∃w σW S P,Rep K H w v∧RpSt K H σW σ∧RepS K H S∧t w σW S P∧Goes K H S P Q
noncomputable def ItW (K:PySem.W.Frag) (J:It) (ws:List W) (G:Sto→Prop) (H0:Hp) (S0:Sto):Prop:=∀i S H,Ext H0 S0 H S→RepS K H S→G S→
 (∀w,ws[i]? =some w→J.go i H∧ ∀x H',J.yld i H x H'→Ext H S H' S∧RepS K H' S∧Rep K H' w x)∧(i=ws.length→J.stop i H)
noncomputable def ztc (K:PySem.W.Frag) (t:WSt→Sto→(List W→(Sto→Prop)→Sto→Prop)→Prop):TI:=fun σ H R=>∃σW S QW,RpSt K H σW σ∧RepS K H S∧t σW S QW∧
 ∀ws G S' J H',Ext H S H' S'→RepS K H' S'→G S'→ItW K J ws G H' S'→QW ws G S'→R J H'
noncomputable def zuk (K:PySem.W.Frag) (t:WSt→Sto→(List W→Sto→Prop)→Prop):TE:=fun σ H Q=>∃σW S QW,RpSt K H σW σ∧RepS K H S∧t σW S QW∧
 ∀ws S' vs a H',Ext H S H' S'→H a=none→H' a=some (.lst vs)→S' a=none→Reps K H' ws vs→RepS K H' S'→QW ws S'→Q (.ref a) H'
noncomputable def zcd (K:PySem.W.Frag) (sp:WSp):Sp:=fun vs H Q E=>∃ws S QW EW,Reps K H ws vs∧RepS K H S∧sp ws S QW EW∧Wish K H S QW Q∧
 ∀cl C S' H',PySem.W.nsIn K mainGlobals cl=some (some (.ref C))→RepS K H' S'→EW cl S'→E (.ref C) none H'
noncomputable def Fly (g h:Heap) (H:Hp) (a C:Addr):Prop:=g.get? a=none∧H a=none∧ ∃oe vs T oT ts,h.get? a=some oe∧oe.cls= .ref C∧oe.data= .fields vs∧vs[1]? =some (.ref T)∧
 g.get? T=none∧H T=none∧T≠a∧h.get? T=some oT∧oT.data= .fields ts∧ts[3]? =some .none
noncomputable def CX1 (P:Program) (w:World):CXT:=fun outer H s E e s'=>∃a C H',e= .ref a∧s'.os=s.os∧AllBare s'.gens∧Un (frs outer) [] H H' s.heap s'.heap∧HOk P w H' s'.heap∧Fly s.heap s'.heap H' a C∧E (.ref C) none H'
structure Hook (X:Cx) (E:WX):Prop where
  own:PassesOwn (model X.prog X.w) X.A X.env X.xe
  far:∀(pins:List (Addr×Obj)) (σ:St) (H:Hp) (s:Shared) (σW:WSt) (cl:Str) (C a:Addr) (H':Hp) (S':Sto) (s':Shared),Inv X pins σ H s→RpSt X.K H σW σ→PySem.W.nsIn X.K mainGlobals cl=some (some (.ref C))→
    s'.os=s.os→AllBare s'.gens→Un (frs X.stack) [] H H' s.heap s'.heap→HOk X.prog X.w H' s'.heap→Fly s.heap s'.heap H' a C→RepS X.K H' S'→E cl σW S'→X.xe (.ref a) s'
  near:∀(pins:List (Addr×Obj)) (σ:St) (H:Hp) (s:Shared) (σW:WSt) (cl:Str) (C a:Addr) (S:Sto) (h':Heap) (args:List Value),Inv X pins σ H s→RpSt X.K H σW σ→PySem.W.nsIn X.K mainGlobals cl=some (some (.ref C))→
    Heap.MadeExcOf s.heap h' a (.ref C) args→RepS X.K H S→E cl σW S→X.xe (.ref a) { s with heap:=h' }
noncomputable def JE (X:Cx) (e:Expr) (t:WE):Prop:=∀E,Hook X E→PE X e (zuC X.K (t E))
noncomputable def JT (X:Cx) (e:Expr) (t:WT):Prop:=∀E,Hook X E→PT X e (zqK X.K (t E))
noncomputable def JW (X:Cx) (e:Expr) (t:WT):Prop:=∀E,Hook X E→PW X e (zqK X.K (t E))
noncomputable def JA (X:Cx) (es:List Expr) (t:WA):Prop:=∀E,Hook X E→PA X es (zvT X.K (t E))
noncomputable def JS (X:Cx) (st:Stmt) (t:WS):Prop:=∀E,Hook X E→PS X st (ztY X.K (t E))
noncomputable def JSs (X:Cx) (st:List Stmt) (t:WS):Prop:=∀E,Hook X E→PSs X st (ztY X.K (t E))
noncomputable def JG (X:Cx) (tg:Expr) (t:WG):Prop:=∀E,Hook X E→PG X tg (zvj X.K t)
noncomputable def JI (X:Cx) (tg iter:Expr) (t:WI):Prop:=∀E,Hook X E→PI X tg iter (ztc X.K (t E))
noncomputable def JL (X:Cx) (e:Expr) (t:WL):Prop:=∀E,Hook X E→PE X e (zuk X.K (t E))
theorem PE.mono{X:Cx}{e:Expr}{t t':TE}(h:PE X e t) (q:∀σ H Q,t' σ H Q→t σ H Q):PE X e t':=fun pins s σ H Q I z=>h pins s σ H Q I (q σ H Q z)
theorem PT.mono{X:Cx}{e:Expr}{t t':TT}(h:PT X e t) (q:∀σ H Q,t' σ H Q→t σ H Q):PT X e t':=fun pins s σ H Q I z=>h pins s σ H Q I (q σ H Q z)
theorem PW.mono{X:Cx}{e:Expr}{t t':TT}(h:PW X e t) (q:∀σ H Q,t' σ H Q→t σ H Q):PW X e t':=fun wh pins s σ H Q I z=>h wh pins s σ H Q I (q σ H Q z)
theorem PA.mono{X:Cx}{e:List Expr}{t t':TA}(h:PA X e t) (q:∀σ H Q,t' σ H Q→t σ H Q):PA X e t':=fun pos pins s σ H Q I z=>h pos pins s σ H Q I (q σ H Q z)
theorem PS.mono{X:Cx}{e:Stmt}{t t':TS}(h:PS X e t) (q:∀D σ H,t' D σ H→t D σ H):PS X e t':=fun pins s σ H D I z=>h pins s σ H D I (q D σ H z)
theorem PSs.mono{X:Cx}{e:List Stmt}{t t':TS}(h:PSs X e t) (q:∀D σ H,t' D σ H→t D σ H):PSs X e t':=fun pins s σ H D I z=>h pins s σ H D I (q D σ H z)
theorem PG.mono{X:Cx}{e:Expr}{t t':TG}(h:PG X e t) (q:∀v σ H Q,t' v σ H Q→t v σ H Q):PG X e t':=fun pins s σ H v u Q I r z=>h pins s σ H v u Q I r (q v σ H Q z)
theorem PI.mono{X:Cx}{tg e:Expr}{t t':TI}(h:PI X tg e t) (q:∀σ H R,t' σ H R→t σ H R):PI X tg e t':=fun pins s σ H R I z=>h pins s σ H R I (q σ H R z)
noncomputable def zaf (i:Nat):WE:=fun _ σ S Q=>match σ[i]? with
 |some (some w)=>Q w S
 |_=>False
noncomputable def wC (w:W):WE:=fun _ _ S Q=>Q w S
section
variable {X:Cx}
theorem jv (i:Nat) {x:Str}{pos:Pos}(hN:X.N[i]? =some x:=by rfl) (hv:Vis X.env.scope x:=by first |exact Or.inl rfl |exact Or.inr (Or.inl rfl) |exact Or.inr (Or.inr rfl)) (hd:(x == ("__debug__" :Str))=false:=by decide)
  (hcd:(x == ("__classdict__" :Str))=false:=by decide):JE X (.Name x pos) (zaf i):=fun E hE=>(zmf hN hv hd hcd).mono fun σ H Q ⟨σW,S,QW,hσ,hS,ht,hQ⟩=>by
 unfold zaf at ht;split at ht
 ·rename_i w e;obtain⟨v,e',r⟩:=hσ.get e;exact⟨v,e',hQ w S v H .refl r hS ht⟩
 ·exact ht.elim
theorem zlP{e:Expr}{v:V}{w:W}(h:PE X e (tC v)) (r:∀K H,Rep K H w v):JE X e (wC w):=fun E hE=>h.mono fun σ H Q ⟨σW,S,QW,hσ,hS,ht,hQ⟩=>hQ w S v H .refl (r _ _) hS ht
theorem zae{i j pos}:JE X (.Constant (.int i) j pos) (wC (.int i)):=zlP ztE fun _ _=> .int i
theorem zdW{b j pos}:JE X (.Constant (.bool b) j pos) (wC (.bl b)):=zlP zvf fun _ _=> .bl b
theorem zim{j pos}:JE X (.Constant .none j pos) (wC .non):=zlP zum fun _ _=> .non
theorem zaX{x j pos}:JE X (.Constant (.str x) j pos) (wC (.str x)):=zlP ztC fun _ _=> .str x
theorem zdB{x:Str}{i:Int}{u:Tok}{pos:Pos}(hg:Gl X x) (hm:X.mg x=some (.int i u)) (hd:(x == ("__debug__" :Str))=false:=by decide):JE X (.Name x pos) (wC (.int i)):=zlP (v:= .int i) (zlK hg hm ⟨u,rfl⟩ hd) fun _ _=> .int i
end
noncomputable abbrev W2:=W→W→Sto→WK→Prop
noncomputable def wOp (r:W2) (a b:WE):WE:=fun E σ S Q=>a E σ S fun x S1=>b E σ S1 fun y S2=>r x y S2 Q
noncomputable def OpW (K:PySem.W.Frag) (r:R2) (wr:W2):Prop:=∀H x y wx wy S (Q:VK) (QW:WK),Rep K H wx x→Rep K H wy y→RepS K H S→wr wx wy S QW→Wish K H S QW Q→r x y H Q
theorem Wish.from{K:PySem.W.Frag}{H H':Hp}{S S':Sto}{QW:WK}{Q:VK}(h:Wish K H S QW Q) (e:Ext H S H' S'):Wish K H' S' QW Q:=fun w S v H'' e' r hS q=>h w S v H'' (e.trans e') r hS q
theorem Goes.from{K:PySem.W.Frag}{H H':Hp}{S S':Sto}{P:WSt→Sto→Prop}{Q:St→Hp→Prop}(h:Goes K H S P Q) (e:Ext H S H' S'):Goes K H' S' P Q:=fun σW S σ H'' e' r hS q=>h σW S σ H'' (e.trans e') r hS q
theorem Meets.from{K:PySem.W.Frag}{H H':Hp}{S S':Sto}{DW:WEnds}{D:Ends}(h:Meets K H S DW D) (e:Ext H S H' S'):Meets K H' S' DW D:=⟨h.nx.from e,h.rt.from e,h.bk.from e,h.ct.from e⟩
section
variable {X:Cx}{a b:Expr}{pos:Pos}
theorem zeA{K:PySem.W.Frag}{ta tb:WSt→Sto→WK→Prop}{wr:W→W→Sto→WK→Prop}{σ:St}{H:Hp}{Q:VK}{R:V→V→Hp→Prop}
  (h:zuC K (fun σ S Q=>ta σ S fun x S1=>tb σ S1 fun y S2=>wr x y S2 Q) σ H Q)
  (hR:∀H2 x y wx wy S (QW:WK),Rep K H2 wx x→Rep K H2 wy y→RepS K H2 S→wr wx wy S QW→Wish K H2 S QW Q→R x y H2) :
  zuC K ta σ H fun x H1=>zuC K tb σ H1 fun y H2=>R x y H2:=by
 obtain⟨σW,S,QW,hσ,hS,ht,hQ⟩:=h;refine⟨σW,S,_,hσ,hS,ht,fun w1 S1 v1 H1 e1 r1 hS1 h1=>?_⟩;refine⟨σW,S1,_,hσ.ext e1,hS1,h1,fun w2 S2 v2 H2 e2 r2 hS2 h2=>?_⟩;exact hR H2 v1 v2 w1 w2 S2 QW (r1.ext e2) r2 hS2 h2 (hQ.from (e1.trans e2))
theorem zjb{op:Operator}{r:R2}{wr:W2}{ta tb:WE}(ho:OpR X (binaryOp op) r) (hw:OpW X.K r wr) (ha:JE X a ta) (hb:JE X b tb):JE X (.BinOp a op b pos) (wOp wr ta tb):=fun E hE=>
 (zom ho (ha E hE) (hb E hE)).mono fun σ H Q h=>zeA h fun H2 x y wx wy S QW rx ry hS q hQ=>hw H2 x y wx wy S Q QW rx ry hS q hQ
theorem zjK{op:CmpOp}{r:R2}{wr:W2}{ta tb:WE}(ho:OpR X (compareOp op) r) (hw:OpW X.K r wr) (ha:JE X a ta) (hb:JE X b tb) (hm:behindInMarks op b=false):JE X (.Compare a [op] [b] pos) (wOp wr ta tb):=fun E hE=>
 (zqw ho (ha E hE) (hb E hE) hm).mono fun σ H Q h=>zeA h fun H2 x y wx wy S QW rx ry hS q hQ=>hw H2 x y wx wy S Q QW rx ry hS q hQ
end
theorem ObjOk.ex{P:Program}{w:World}{H:Hp}{h:Heap}{a:Addr}{o:HO}(x:ObjOk P w H h a o):∃u,h.get? a=some u:=by
 cases o with
 |lst xs=>obtain⟨_,_,_,_,e⟩:=x;exact⟨_,e⟩
 |tup xs=>obtain⟨_,_,_,o,e,_⟩:=x;exact⟨_,e⟩
 |dK kvs=>obtain⟨_,_,_,_,o,_,_,e,_⟩:=x;exact⟨_,e⟩
 |dT kvs=>obtain⟨_,_,_,_,o,_,_,e,_⟩:=x;exact⟨_,e⟩
 |set S n=>obtain⟨o,_,_,_,e,_⟩:=x;exact⟨_,e⟩
 |ins C dx fs=>obtain⟨_,_,_,e,_⟩:=x;exact⟨_,e⟩
 |own y=>exact x
 |xd fs=>obtain⟨_,⟨_,_,_,e,_⟩,_⟩:=x;exact⟨_,e⟩
 |rng lo hi=>obtain⟨_,_,_,e⟩:=x;exact⟨_,e⟩
 |frz ob u=>obtain⟨e,_⟩:=x;exact⟨_,e⟩
 |tbl ps=>exact⟨_,show h.get? a=some _ from x⟩
 |met f y=>exact⟨_,show h.get? a=some _ from x⟩
 |ext φ=>exact x.2.1
noncomputable def unt (H:Hp) (S:Sto):Hp:=fun b=>match H b with
 |some (.lst xs)=>match S b with
  |none=>none
  |some _=>some (.lst xs)
 |o=>o
noncomputable def rtk (H:Hp) (S:Sto) (H':Hp):Hp:=fun b=>match unt H S b with
 |none=>match H b with
  |some o=>some o
  |none=>H' b
 |some _=>match H' b with
  |some o=>some o
  |none=>some (.ext fun h=>∃o,h.get? b=some o)
section
variable {w:World}{K:PySem.W.Frag}{H:Hp}{S:Sto}{h:Heap}{b:Addr}{o:HO}
theorem zkt (e:unt H S b=some o):H b=some o:=by
 unfold unt at e;split at e
 ·rename_i xs q;split at e
  ·cases e
  ·rw [q];exact e
 ·exact e
theorem zeq (e:H b=none):unt H S b=none:=by unfold unt;rw [e]
theorem zjP (e:H b=some o) (n:∀xs,o≠ .lst xs):unt H S b=some o:=by
 unfold unt;rw [e];cases o<;>first |rfl |exact absurd rfl (n _)
theorem zqe{u:Ob}(e:H b=some o) (hs:S b=some u):unt H S b=some o:=by
 unfold unt;rw [e];cases o<;>first |rfl | (dsimp only;rw [hs])
theorem zns{xs:List V}(e:H b=some (.lst xs)) (hs:S b=none):unt H S b=none:=by
 unfold unt;rw [e];dsimp only;rw [hs]
theorem zur (e:unt H S b=none) (q:H b=some o):(∃xs,o= .lst xs)∧S b=none:=by
 unfold unt at e;rw [q]at e;cases o<;>first |cases e |skip;rename_i xs;dsimp only at e;split at e
 ·exact⟨⟨xs,rfl⟩, ‹_›⟩
 ·cases e
mutual
theorem Rep.mv{H1:Hp}(t:∀b xs,H b=some (.tup xs)→H1 b=some (.tup xs)) (f:∀b o u,H b=some (.frz o u)→H1 b=some (.frz o u)) {w:W}{v:V}:Rep K H w v→Rep K H1 w v
 | .non=> .non
 | .bl b=> .bl b
 | .int i=> .int i
 | .str x=> .str x
 | .ref a=> .ref a
 | .scr h=> .scr (by
  rcases h with⟨o,h⟩ |h
  ·exact .inl ⟨o,f _ _ _ h⟩
  ·exact .inr h)
 | .tup h hs=> .tup (t _ _ h) (Reps.mv t f hs)
theorem Reps.mv{H1:Hp}(t:∀b xs,H b=some (.tup xs)→H1 b=some (.tup xs)) (f:∀b o u,H b=some (.frz o u)→H1 b=some (.frz o u)) {ws:List W}{vs:List V}:Reps K H ws vs→Reps K H1 ws vs
 | .nil=> .nil
 | .cons h hs=> .cons (Rep.mv t f h) (Reps.mv t f hs)
end
theorem zfK:∀b xs,H b=some (.tup xs)→unt H S b=some (.tup xs):=fun b xs e=>zjP e fun _ z=>nomatch z
theorem zgN:∀b o u,H b=some (.frz o u)→unt H S b=some (.frz o u):=fun b o u e=>zjP e fun _ z=>nomatch z
theorem RepS.unt (r:RepS K H S):RepS K (unt H S) S:=fun a o e=>by
 have q:=r a o e;cases o with
 |lst ws=>obtain⟨vs,z,rs⟩:=q;exact⟨vs,zqe z e,Reps.mv zfK zgN rs⟩
 |dct kvs=>obtain⟨ps,z,rs⟩:=q;exact⟨ps,zqe z e,Paired.mapP rs fun _ _ z=>⟨z.1,Rep.mv zfK zgN z.2⟩⟩
 |ins C fs=>exact q.elim
theorem HOk.unt (x:HOk P w H h):HOk P w (unt H S) h:=fun a o e=>
 (x a o (zkt e)).stay (fun _ _ _ q=>q) (fun b q=>zjP q fun _ z=>nomatch z) fun b xs q=>zfK b xs q
theorem zeb (ok:HOk P w H h) (un:Un fs [] (unt H S) H' h h') (e:H' b=some o):rtk H S H' b=some o:=by
 unfold rtk;split
 ·rename_i q;split
  ·rename_i u z;obtain⟨ob,eo⟩:=(ok b u z).ex;rw [un.free b ob eo q (by simp)]at e;cases e
  ·exact e
 ·rw [e]
theorem zkd (un:Un fs [] (unt H S) H' h h') (ok:HOk P w H h):Un fs [] H (rtk H S H') h h' where
  keep:=fun b o e n hb hx=>un.keep b o e (zeq n) hb hx
  slot:=fun b o e n hb hx=>un.slot b o e (zeq n) hb hx
  free:=fun b o e n hx=>by
    unfold rtk;rw [zeq n,n];exact un.free b o e (zeq n) hx
  there:=un.there
  tups:=fun b xs e=>zeb ok un (un.tups b xs (zfK b xs e))
  frzs:=fun b o u e=>zeb ok un (un.frzs b o u (zgN b o u e))
  tbls:=fun b ps e=>by
    obtain⟨m,z⟩:=un.tbls b ps (zjP e fun _ z=>nomatch z);exact⟨m,zeb ok un z⟩
theorem zqd (un:Un fs [] (unt H S) H' h h') (ok:HOk P w H h) (ok':HOk P w H' h') (hf:∀b∈fs,H b=none):HOk P w (rtk H S H') h':=fun b o e=>by
 have back:∀{o},H' b=some o→ObjOk P w (rtk H S H') h' b o:=fun {o} q=>(ok' b o q).stay (fun _ _ _ z=>z) (fun c z=>zeb ok un z) fun c xs z=>zeb ok un z;unfold rtk at e;split at e
 ·rename_i q;split at e
  ·rename_i u z;cases e;obtain⟨⟨xs,rfl⟩,_⟩:=zur q z;obtain⟨l,its,n,r,g⟩:=ok b _ z;exact⟨l,its,n,r,un.keep b _ g q (fun hb=>by rw [hf b hb]at z;cases z) (by simp)⟩
  ·exact back e
 ·rename_i u q;split at e
  ·rename_i u' z;cases e;exact back z
  ·rename_i z;cases e;obtain⟨ob,eo⟩:=(ok b u (zkt q)).ex;obtain⟨ob',eo'⟩:=un.there b ob eo (by simp);exact⟨⟨ob',eo'⟩,⟨ob',eo'⟩,fun h1 h2 ⟨o,z⟩ k=>⟨o,k o z⟩⟩
theorem zrO (e:H b=some o):∃o',rtk H S H' b=some o':=by
 unfold rtk;split
 ·rw [e];exact⟨_,rfl⟩
 ·split
  ·exact⟨_,rfl⟩
  ·exact⟨_,rfl⟩
theorem zmu (un:Un fs [] (unt H S) H' h h') (ok:HOk P w H h) (r:RepS K H' S'):Ext H S (rtk H S H') S' where
  tup:=fun b xs e=>(zkd un ok).tups b xs e
  frz:=fun b o u e=>(zkd un ok).frzs b o u e
  fr:=fun b xs e hs=>by
    refine⟨?_,?_⟩
    · unfold rtk;rw [zns e hs,e]
    · cases q:S' b with
      |none=>rfl
      |some u=>
        obtain⟨v,z⟩:=(r b u q).some;obtain⟨ob,eo⟩:=(ok b _ e).ex;rw [un.free b ob eo (zns e hs) (by simp)]at z;cases z
  all:=fun b o e=>zrO e
theorem zpS (un:Un fs [] (unt H S) H' h h') (ok:HOk P w H h):Ext H' S' (rtk H S H') S' where
  tup:=fun b xs e=>zeb ok un e
  frz:=fun b o u e=>zeb ok un e
  fr:=fun b xs e hs=>⟨zeb ok un e,hs⟩
  all:=fun b o e=>⟨o,zeb ok un e⟩
theorem ztB (un:Un fs [] (unt H S) H' h h') (ok:HOk P w H h) (r:RepS K H' S'):RepS K (rtk H S H') S':=fun a o e=>(r a o e).keep (zpS (S':=S') un ok) fun u z=>zeb ok un z
end
theorem zsh{X:Cx}{k:Nat}{f:Addr}{fd:FuncData}{ps:List Str}{c:WSp}{E:WX}{pins:List (Addr×Obj)}{σ:St}{σW:WSt}{H:Hp}{S:Sto}{s:Shared}{Q:VK}{QW:WK}{us:List Value}{vs:List V}{ws:List W}
  (F:FnOk X.prog X.w X.K X.mg X.base (CX1 X.prog X.w) k f fd ps (zcd X.K c)) (hr:Room k X.A) (hb:Binds X.K fd ps []) (I:Inv X pins σ H s) (r:Vals vs us) (rs:Reps X.K H ws vs) (hσ:RpSt X.K H σW σ) (hS:RepS X.K H S)
  (h:c ws S QW fun cl S'=>E cl σW S') (hQ:Wish X.K H S QW Q)
  (hx:∀(cl:Str) (C a:Addr) (H':Hp) (S':Sto) (s':Shared),PySem.W.nsIn X.K mainGlobals cl=some (some (.ref C))→s'.os=s.os→AllBare s'.gens→Un (frs X.stack) [] H H' s.heap s'.heap→HOk X.prog X.w H' s'.heap→Fly s.heap s'.heap H' a C→Ext H S H' S'→RepS X.K H' S'→E cl σW S'→X.xe (.ref a) s'):wpAny (model X.prog X.w) X.A (call (.ref f) us) (EP X pins σ Q) X.xe s:=by
 have e0:=I.env0;have sp:zcd X.K c vs (unt H S) (fun v H'=>∃w S',Rep X.K H' w v∧RepS X.K H' S'∧QW w S') (fun cv _ H'=>∃cl C S',cv= .ref C∧PySem.W.nsIn X.K mainGlobals cl=some (some (.ref C))∧RepS X.K H' S'∧E cl σW S'):=
  ⟨ws,S,QW,_,Reps.mv zfK zgN rs,hS.unt,h,fun w S' v H' _ r1 r2 q=>⟨w,S',r1,r2,q⟩,fun cl C S' H' hn hS' q=>⟨cl,C,S',rfl,hn,hS',q⟩⟩
 have e1:Env0 X.prog X.w X.K X.mg X.base X.A X.stack s (unt H S):=⟨e0.frames,e0.mod,fun b o e=>⟨(e0.bs b o e).1,zeq (e0.bs b o e).2⟩,e0.bsz,e0.funs,fun b hb=>zeq (e0.frf b hb),e0.hok.unt,e0.bare⟩;have hl:us.length=ps.length:=by rw [←r.length];exact F.len _ _ _ _ sp
 have hb':=hb s us I.kIn (by rw [List.append_nil];exact hl);rw [List.append_nil]at hb';refine wpAny_call (codeAny_mono (F.run X.A X.stack s (unt H S) ⟨us,[]⟩ us vs _ _ hr e1 hb' r sp) fun rr s' hq=>?_);cases rr with
 |error e=>
  obtain⟨a,C,H',rfl,os,bare,un,ok',fly,cl,C',S',ec,hn,hS',q⟩:=hq;cases ec;refine hx cl C a (rtk H S H') S' s' hn os bare (zkd un I.hok) (zqd un I.hok ok' e0.frf) ?_ (zmu un I.hok hS') (ztB un I.hok hS') q;obtain⟨g1,g2,oe,vs',T,oT,ts,a1,a2,a3,a4,a5,a6,a7⟩:=fly;have free:∀{b:Addr},s.heap.get? b=none→H' b=none→rtk H S H' b=none:=fun {b} q1 q2=>by
   have hn:H b=none:=by
    cases z:H b with
    |none=>rfl
    |some u=>obtain⟨ob,eo⟩:=(I.hok b u z).ex;rw [q1]at eo;cases eo
   unfold rtk;rw [zeq hn,hn];exact q2
  exact⟨g1,free g1 g2,oe,vs',T,oT,ts,a1,a2,a3,a4,a5,free a5 a6,a7⟩
 |ok fl=>
  cases fl with
  |ret u=>
   obtain⟨v,H',os,bare,un,ok',rv,w,S',r1,r2,q⟩:=hq;exact⟨v,rtk H S H',I.call' os (zkd un I.hok) (zqd un I.hok ok' e0.frf) bare (fun _ z=>nomatch z),rv,hQ w S' v _ (zmu un I.hok r2) (r1.ext (zpS (S':=S') un I.hok)) (ztB un I.hok r2) q⟩
  |next=>exact False.elim hq
  |brk=>exact False.elim hq
  |cont=>exact False.elim hq
theorem zwn{X:Cx}{k:Nat}{f:Addr}{fd:FuncData}{ps:List Str}{c:WSp}{E:WX}{pins:List (Addr×Obj)}{σ:St}{σW:WSt}{H:Hp}{S:Sto}{s:Shared}{Q:VK}{QW:WK}{us:List Value}{vs:List V}{ws:List W}
  (F:FnOk X.prog X.w X.K X.mg X.base (CX1 X.prog X.w) k f fd ps (zcd X.K c)) (hr:Room k X.A) (hb:Binds X.K fd ps []) (hE:Hook X E) (I:Inv X pins σ H s) (r:Vals vs us) (rs:Reps X.K H ws vs) (hσ:RpSt X.K H σW σ) (hS:RepS X.K H S)
  (h:c ws S QW fun cl S'=>E cl σW S') (hQ:Wish X.K H S QW Q):wpAny (model X.prog X.w) X.A (call (.ref f) us) (EP X pins σ Q) X.xe s:=
 zsh (E:=E) F hr hb I r rs hσ hS h hQ fun cl C a H' S' s' hn os bare un ok fly _ hS' q=>hE.far pins σ H s σW cl C a H' S' s' I hσ hn os bare un ok fly hS' q
theorem zli{X:Cx}{pins:List (Addr×Obj)}{σ:St}{H':Hp}{s':Shared}{a C:Addr}{hid:List Addr}{h':Heap}(I:Inv X pins σ H' s') (hst:X.stack=X.env::X.outer) (hf:X.env.frame=some X.env.locals) (hex:X.ex=[])
  (h0:∀b∈hid,X.s₀.heap.get? b=none∧H' b=none) (ha:a∈hid) (L:Heap.Left (PySem.W.hideAll s'.heap (hid++frs X.stack)) X.stack a (.ref C) s'.heap h') :
  Un X.fs [] X.H₀ H' X.s₀.heap h'∧HOk X.prog X.w H' h'∧Fly X.s₀.heap h' H' a C:=by
 obtain⟨st,ff,tr,sl⟩:=L;have keepB:∀b o,s'.heap.get? b=some o→b∉hid→b∉frs X.stack→h'.get? b=some o:=fun b o e h1 h2=>st b o (PySem.W.hideAll_get _ e fun z=>(List.mem_append.mp z).elim h1 h2);have nh:∀b o,X.s₀.heap.get? b=some o→b∉hid:=fun b o e hb=>by rw [(h0 b hb).1]at e;cases e
 have slotB:∀b o,b∈frs X.stack→s'.heap.get? b=some o→ ∃sl,h'.get? b=some { o with slots:=sl }:=fun b o hb e=>by
  obtain⟨_,o',eo',nf⟩:=I.stack.mem hb;rw [e]at eo';cases eo';exact sl b o e nf
 have nx:∀b:Addr,b∉X.ex:=fun b=>by rw [hex];simp
 have fsS:∀b∈X.fs,b∈frs X.stack:=fun b hb=>by
  rw [hst];unfold frs;rw [List.filterMap_cons,hf];exact List.mem_cons_of_mem _ hb
 refine⟨⟨fun b o e n hb _=>?_,fun b o e n hb _=>?_,fun b o e n _=>I.base.free b o e n (nx b),fun b o e _=>?_,I.base.tups,I.base.frzs,I.base.tbls⟩,fun b o e=>?_,(h0 a ha).1,(h0 a ha).2,?_⟩
 ·refine keepB b o (I.base.keep b o e n hb (nx b)) (nh b o e) fun z=>?_;rcases List.mem_cons.mp (I.stkSub b z) with q |q
  ·exact absurd (Nat.lt_of_lt_of_le (Heap.lt_size e) I.ok.above) (by rw [q];exact Nat.lt_irrefl _)
  ·exact hb q
 ·obtain⟨sl1,e1⟩:=I.base.slot b o e n hb (nx b);obtain⟨sl2,e2⟩:=slotB b _ (fsS b hb) e1;exact⟨sl2,e2⟩
 ·obtain⟨o',e1⟩:=I.base.there b o e (nx b);by_cases hb:b∈frs X.stack
  ·obtain⟨sl2,e2⟩:=slotB b _ hb e1;exact⟨_,e2⟩
  ·exact⟨o',keepB b o' e1 (nh b o e) hb⟩
 ·refine(I.hok b o e).stay (fun c u hc q=>?_) (fun _ q=>q) fun _ _ q=>q;have tk:∃v,H' c=some v:=by
   rcases hc with z |z
   ·exact⟨o,by rw [z];exact e⟩
   ·exact⟨_,z⟩
  obtain⟨v,tk⟩:=tk;exact keepB c u q (fun z=>by rw [(h0 c z).2]at tk;cases tk) fun z=>by rw [I.stkFree c z]at tk;cases tk
 ·obtain⟨oe,vs,T,oT,ts,e1,e2,e3,e4,e5,e6,e7,e8,e9⟩:=tr;have nf:T∉frs X.stack:=fun hb=>by
   obtain⟨_,o,eo,nf⟩:=ff.mem hb;rw [e7]at eo;cases eo;exact nf ts e8
  have both:X.s₀.heap.get? T=none∧H' T=none:=by
   by_cases hT:T∈hid
   ·exact h0 T hT
   ·have z:s'.heap.get? T=none:=by
     cases q:s'.heap.get? T with
     |none=>rfl
     |some o=>
      rw [PySem.W.hideAll_get _ q fun z=>(List.mem_append.mp z).elim hT nf]at e5;cases e5
    constructor
    ·cases q:X.s₀.heap.get? T with
     |none=>rfl
     |some o=>obtain⟨o',q'⟩:=I.base.there T o q (nx T);rw [z]at q';cases q'
    ·cases q:H' T with
     |none=>rfl
     |some u=>obtain⟨o',q'⟩:=(I.hok T u q).ex;rw [z]at q';cases q'
  exact⟨oe,vs,T,oT,ts,e1,e2,e3,e4,both.1,both.2,e6,e7,e8,e9⟩
theorem zgP{h base:Heap}{l:List Env}{hid:List Addr}(hl:h.FunFrames base l):h.FunFrames (PySem.W.hideAll h (hid++frs l)) l:=
 PySem.W.funFrames_hide hl fun env he a ha=>List.mem_append_right _ (List.mem_filterMap.mpr ⟨env,he,ha⟩)
theorem zpi{P:Program}{w:World}{K:PySem.W.Frag}{mg:Str→Option Value}{base:Heap}{N:List Str}{qual:Str}{scope:Scope}{f:Addr}{cdv:Value}{A:Around}{outer:List Env}{s:Shared}{H:Hp}{E:XK}{EW:Str→Sto→Prop}
    (hEW:∀cl C S' H',PySem.W.nsIn K mainGlobals cl=some (some (.ref C))→RepS K H' S'→EW cl S'→E (.ref C) none H'):Hook (zrm (CX1 P w) P w K mg base N qual scope f cdv A outer s H E) (fun c _ S'=>EW c S') where
  own:=PassesOwn.leaving
  far:=fun pins σ H1 s1 σW cl C a H' S' s' I hσ hn os bare un ok fly hS q=>by
    have I':=I.call' os un ok bare (fun _ z=>nomatch z);obtain⟨g1,g2,oe,vs,T,oT,ts,e1,e2,e3,e4,g3,g4,e5,e6,e7,e8⟩:=fly;have s0:∀{b:Addr},s1.heap.get? b=none→s.heap.get? b=none:=fun {b} z=>by
      cases q:s.heap.get? b with
      |none=>rfl
      |some o=>obtain⟨o',q'⟩:=I.base.there b o q (by exact fun z=>nomatch z);rw [z]at q';cases q'
    refine wpAny_leaving_next (base:=PySem.W.hideAll s'.heap ([a,T]++frs (envOfC qual scope s.heap.objs.size f cdv::outer))) I'.ok.frames (zgP I'.stack) rfl ⟨oe,vs,T,oT,ts,e1,e2,e3,e4,PySem.W.hideAll_none _ (by simp),e5,e6,e7,e8⟩ (fun b o z=>PySem.W.of_hideAll _ z) (PySem.W.hideAll_none _ (by simp)) fun h' L=>?_;obtain⟨u1,u2,u3⟩:=zli (hid:=[a,T]) I' rfl rfl rfl (fun b hb=>by
      rcases List.mem_cons.mp hb with rfl |hb
      · exact⟨s0 g1,g2⟩
      · rw [List.mem_singleton.mp hb];exact⟨s0 g3,g4⟩) (by simp) L
    exact⟨a,C,H',rfl,I'.os,I'.bare,u1,u2,u3,hEW cl C S' H' hn hS q⟩
  near:=fun pins σ H1 s1 σW cl C a S h' args I hσ hn me hS q=>by
    have I':=I.kept (t':=s1.toks) me.keeps;obtain⟨t,e1,_,_⟩:=me.there;have s0:s.heap.get? a=none:=by
      cases q:s.heap.get? a with
      |none=>rfl
      |some o=>obtain⟨o',q'⟩:=I.base.there a o q (by exact fun z=>nomatch z);rw [me.new]at q';cases q'
    have h1:H1 a=none:=by
      cases q:H1 a with
      |none=>rfl
      |some u=>obtain⟨o',q'⟩:=(I.hok a u q).ex;rw [me.new]at q';cases q'
    refine wpAny_leaving_first (base:=PySem.W.hideAll h' ([a]++frs (envOfC qual scope s.heap.objs.size f cdv::outer))) (s:={ s1 with heap:=h' }) I'.ok.frames (zgP I'.stack) rfl e1 (fun b o z=>PySem.W.of_hideAll _ z) (PySem.W.hideAll_none _ (by simp)) rfl rfl fun h'' L=>?_;obtain⟨u1,u2,u3⟩:=zli (hid:=[a]) I' rfl rfl rfl (fun b hb=>by rw [List.mem_singleton.mp hb];exact⟨s0,h1⟩) (by simp) L
    exact⟨a,C,H1,rfl,I'.os,I'.bare,u1,u2,u3,hEW cl C S H1 hn hS q⟩
noncomputable def zbN (S:Sto) (a:Addr) (Q:List W→Prop):Prop:=match S a with
 |some (.lst ws)=>Q ws
 |_=>False
theorem zaj{S:Sto}{a:Addr}{Q:List W→Prop}{ws:List W}(h:S a=some (.lst ws)):zbN S a Q=Q ws:=by unfold zbN;rw [h]
theorem zaS{S:Sto}{a:Addr}{Q:List W→Prop}(h:zbN S a Q):∃ws,S a=some (.lst ws)∧Q ws:=by
 unfold zbN at h;split at h
 ·exact⟨_, ‹_›,h⟩
 ·exact h.elim
noncomputable def znQ:W→Sto→(Bool→Sto→Prop)→Prop
 | .non,S,Q=>Q false S
 | .bl b,S,Q=>Q b S
 | .int i,S,Q=>Q (i != 0) S
 | .str x,S,Q=>x.length≤sizeLine∧Q ((x.length:Int) != 0) S
 | .tup ws,S,Q=>Q (!ws.isEmpty) S
 | .ref a,S,Q=>zbN S a fun ws=>Q (!ws.isEmpty) S
 | .scr ns,S,Q=>Q (!ns.isEmpty) S
noncomputable def zdM (t:WE):WT:=fun E σ S Q=>t E σ S fun w S'=>znQ w S' Q
noncomputable def wTb (t:WE):WT:=fun E σ S Q=>t E σ S fun w S'=>match w with
 | .bl b=>Q b S'
 |_=>False
noncomputable def zkO (t u:WT):WT:=fun E σ S Q=>t E σ S fun c S1=>if c=true then u E σ S1 Q else Q false S1
noncomputable def wOr (t u:WT):WT:=fun E σ S Q=>t E σ S fun c S1=>if c=true then Q true S1 else u E σ S1 Q
noncomputable def zjN (t:WT):WT:=fun E σ S Q=>t E σ S fun c S1=>Q (!c) S1
noncomputable def zfg (t u:WE):WE:=fun E σ S Q=>t E σ S fun w S1=>match w with
 | .bl true=>u E σ S1 Q
 | .bl false=>Q (.bl false) S1
 |_=>False
noncomputable def zuE (t u:WE):WE:=fun E σ S Q=>t E σ S fun w S1=>match w with
 | .bl false=>u E σ S1 Q
 | .bl true=>Q (.bl true) S1
 |_=>False
noncomputable def zlY (t:WE):WE:=fun E σ S Q=>t E σ S fun w S1=>match w with
 | .bl b=>Q (.bl !b) S1
 |_=>False
noncomputable def zce (c:WT) (t u:WS):WS:=fun E D σ S=>c E σ S fun b S1=>if b=true then t E D σ S1 else u E D σ S1
noncomputable def zaN:WS:=fun _ D σ S=>D.nx σ S
noncomputable def zay (t u:WS):WS:=fun E D σ S=>t E { D with nx:=u E D } σ S
noncomputable def zbm (e:WE):WS:=fun E D σ S=>e E σ S D.rt
noncomputable def zes (e:WE):WS:=fun E D σ S=>e E σ S fun _ S1=>D.nx σ S1
noncomputable def wGN (i:Nat):WG:=fun w σ S Q=>Q (σ.set i (some w)) S
noncomputable def wAsg (e:WE) (g:WG):WS:=fun E D σ S=>e E σ S fun w S1=>g w σ S1 D.nx
noncomputable abbrev WGs:=List W→WSt→Sto→(WSt→Sto→Prop)→Prop
noncomputable def zcb:WGs:=fun ws σ S Q=>match ws with
 | []=>Q σ S
 |_=>False
noncomputable def zav (g:WG) (u:WGs):WGs:=fun ws σ S Q=>match ws with
 | []=>False
 |w::r=>g w σ S fun σ' S'=>u r σ' S' Q
noncomputable def wGT (u:WGs):WG:=fun w σ S Q=>match w with
 | .tup ws=>u ws σ S Q
 |_=>False
section
variable {X:Cx}{a b c e:Expr}{pos:Pos}{ta tb:WE}{tc tA tB':WT}{st:Stmt}{rest:List Stmt}{t u:WS}
theorem zqv{K:PySem.W.Frag}{H:Hp}{w:W}{v:V}{S:Sto}{QW:Bool→Sto→Prop}(r:Rep K H w v) (hS:RepS K H S) (h:znQ w S QW):∃k,zuV K v H k∧QW k S:=by
 cases r with
 |non=>exact⟨false,rfl,h⟩
 |bl b=>exact⟨b,rfl,h⟩
 |int i=>exact⟨_,rfl,h⟩
 |str x=>exact⟨_,⟨h.1,rfl⟩,h.2⟩
 |ref a=>
  obtain⟨ws,e,h⟩:=zaS h;obtain⟨vs,e1,r1⟩:=hS a _ e;refine⟨_, .inl ⟨vs, .of e1,rfl⟩,?_⟩;have q:vs.isEmpty=ws.isEmpty:=by cases r1<;>rfl
  rw [q];exact h
 | @scr a ns f=>
  refine⟨_, .inl ⟨_,f.sq,rfl⟩,?_⟩;have q:(ns.map V.int).isEmpty=ns.isEmpty:=by cases ns<;>rfl
  rw [q];exact h
 | @tup a vs ws f hs=>
  refine⟨_, .inr (.inl ⟨vs, .of f,rfl⟩),?_⟩;have q:vs.isEmpty=ws.isEmpty:=by cases hs<;>rfl
  rw [q];exact h
theorem zaO (ha:JE X a ta) (he:∀whole,isTrue a X.env whole=(do let v ←whole;standAt a.pos;holding [v] (truthy v)):=by intro _;rfl):JT X a (zdM ta):=fun E hE=>
 (zoc (ha E hE) he).mono fun σ H Q ⟨σW,S,QW,hσ,hS,ht,hQ⟩=>⟨σW,S,_,hσ,hS,ht,fun w S1 v H1 e1 r1 hS1 h1=>by
  obtain⟨k,hk,q⟩:=zqv r1 hS1 h1;exact⟨k,hk,hQ k S1 H1 e1 hS1 q⟩⟩
theorem zez{op:CmpOp}{r:R2}{wr:W2}(ho:OpR X (compareOp op) r) (hw:OpW X.K r wr) (ha:JE X a ta) (hb:JE X b tb) (hm:behindInMarks op b=false):JT X (.Compare a [op] [b] pos) (wTb (wOp wr ta tb)):=fun E hE=>
 (zqF ho (ha E hE) (hb E hE) hm).mono fun σ H Q ⟨σW,S,QW,hσ,hS,ht,hQ⟩=>by
  refine zeA (Q:=fun v H1=>∃k,v= .bl k∧Q k H1) ⟨σW,S,fun w S'=>match w with
   | .bl b=>QW b S'
   |_=>False,hσ,hS,ht,fun w S1 v H1 e1 r1 hS1 h1=>?_⟩ fun H2 x y wx wy S QW rx ry hS q hQ=>hw H2 x y wx wy S _ QW rx ry hS q hQ
  cases r1 with
  |bl k=>exact⟨k,rfl,hQ k S1 H1 e1 hS1 h1⟩
  |_=>exact h1.elim
theorem zdj (ha:JT X a tA):JT X (.UnaryOp .Not a pos) (zjN tA):=fun E hE=>
 (zsl (ha E hE)).mono fun σ H Q ⟨σW,S,QW,hσ,hS,ht,hQ⟩=>⟨σW,S,_,hσ,hS,ht,fun b S1 H1 e1 hS1 h1=>hQ _ S1 H1 e1 hS1 h1⟩
theorem JW.jt (h:JW X a tA):JT X a tA:=fun E hE=>(h E hE).pt
theorem zdC (ha:JT X a tA):JW X (.BoolOp .And [a] pos) tA:=fun E hE=>zrL (ha E hE)
theorem zdp (ha:JT X a tA):JW X (.BoolOp .Or [a] pos) tA:=fun E hE=>zub (ha E hE)
theorem zdA{rest:List Expr}(ha:JT X a tA) (hb:JW X (.BoolOp .And (b::rest) pos) tB'):JW X (.BoolOp .And (a::b::rest) pos) (zkO tA tB'):=fun E hE=>
 (zud (ha E hE) (hb E hE)).mono fun σ H Q ⟨σW,S,QW,hσ,hS,ht,hQ⟩=>⟨σW,S,_,hσ,hS,ht,fun b S1 H1 e1 hS1 h1=>by
  cases b with
  |true=>exact⟨σW,S1,_,hσ.ext e1,hS1,h1,fun b S2 H2 e2 hS2 h2=>hQ b S2 H2 (e1.trans e2) hS2 h2⟩
  |false=>exact hQ _ S1 H1 e1 hS1 h1⟩
theorem zeE{rest:List Expr}(ha:JT X a tA) (hb:JW X (.BoolOp .Or (b::rest) pos) tB'):JW X (.BoolOp .Or (a::b::rest) pos) (wOr tA tB'):=fun E hE=>
 (zuZ (ha E hE) (hb E hE)).mono fun σ H Q ⟨σW,S,QW,hσ,hS,ht,hQ⟩=>⟨σW,S,_,hσ,hS,ht,fun b S1 H1 e1 hS1 h1=>by
  cases b with
  |false=>exact⟨σW,S1,_,hσ.ext e1,hS1,h1,fun b S2 H2 e2 hS2 h2=>hQ b S2 H2 (e1.trans e2) hS2 h2⟩
  |true=>exact hQ _ S1 H1 e1 hS1 h1⟩
theorem zew{op}(h:JE X a ta):JE X (.BoolOp op [a] pos) ta:=fun E hE=>zsH (h E hE)
theorem zdZ{rest:List Expr}(ha:JE X a ta) (hb:JE X (.BoolOp .And (b::rest) pos) tb):JE X (.BoolOp .And (a::b::rest) pos) (zfg ta tb):=fun E hE=>
 (ztQ (ha E hE) (hb E hE)).mono fun σ H Q ⟨σW,S,QW,hσ,hS,ht,hQ⟩=>⟨σW,S,_,hσ,hS,ht,fun w S1 v H1 e1 r1 hS1 h1=>by
  cases r1 with
  |bl k=>
   refine⟨k,rfl,?_⟩;cases k with
   |true=>exact⟨σW,S1,_,hσ.ext e1,hS1,h1,hQ.from e1⟩
   |false=>exact hQ _ S1 _ H1 e1 (.bl false) hS1 h1
  |_=>exact h1.elim⟩
theorem ztZ{rest:List Expr}(ha:JE X a ta) (hb:JE X (.BoolOp .Or (b::rest) pos) tb):JE X (.BoolOp .Or (a::b::rest) pos) (zuE ta tb):=fun E hE=>
 (zvk (ha E hE) (hb E hE)).mono fun σ H Q ⟨σW,S,QW,hσ,hS,ht,hQ⟩=>⟨σW,S,_,hσ,hS,ht,fun w S1 v H1 e1 r1 hS1 h1=>by
  cases r1 with
  |bl k=>
   refine⟨k,rfl,?_⟩;cases k with
   |false=>exact⟨σW,S1,_,hσ.ext e1,hS1,h1,hQ.from e1⟩
   |true=>exact hQ _ S1 _ H1 e1 (.bl true) hS1 h1
  |_=>exact h1.elim⟩
theorem zls (ha:JE X a ta):JE X (.UnaryOp .Not a pos) (zlY ta):=fun E hE=>
 (ztj (ha E hE)).mono fun σ H Q ⟨σW,S,QW,hσ,hS,ht,hQ⟩=>⟨σW,S,_,hσ,hS,ht,fun w S1 v H1 e1 r1 hS1 h1=>by
  cases r1 with
  |bl k=>exact⟨k,rfl,hQ _ S1 _ H1 e1 (.bl _) hS1 h1⟩
  |_=>exact h1.elim⟩
theorem zaw:JSs X [] zaN:=fun E hE=>pss_nil.mono fun D σ H ⟨σW,S,DW,hσ,hS,ht,hD⟩=>hD.nx σW S σ H .refl hσ hS ht
theorem zad (h1:JS X st t) (h2:JSs X rest u):JSs X (st::rest) (zay t u):=fun E hE=>
 (zps (h1 E hE) (h2 E hE)).mono fun D σ H ⟨σW,S,DW,hσ,hS,ht,hD⟩=>
  ⟨σW,S,{ DW with nx:=u E DW },hσ,hS,ht,⟨fun σW' S' σ' H' e r hS' q=>⟨σW',S',DW,r,hS',q,hD.from e⟩,hD.rt,hD.bk,hD.ct⟩⟩
theorem zah (h1:JS X st t):JSs X [st] t:=fun E hE=>zlR (h1 E hE)
theorem zbT (he:JE X e ta) (hs:swapsWith e none pos.line X.env=pure false:=by rfl):JS X (.Expr e pos) (zes ta):=fun E hE=>
 (zqM (he E hE) hs).mono fun D σ H ⟨σW,S,DW,hσ,hS,ht,hD⟩=>⟨σW,S,_,hσ,hS,ht,fun w S1 v H1 e1 r1 hS1 h1=>hD.nx σW S1 σ H1 e1 (hσ.ext e1) hS1 h1⟩
theorem zao (he:JE X e ta):JS X (.Return (some e) pos) (zbm ta):=fun E hE=>
 (ztf (he E hE)).mono fun D σ H ⟨σW,S,DW,hσ,hS,ht,hD⟩=>⟨σW,S,_,hσ,hS,ht,hD.rt⟩
theorem zaR{a b:List Stmt}(hc:JT X c tc) (ha:JSs X a t) (hb:JSs X b u):JS X (.If c a b pos) (zce tc t u):=fun E hE=>
 (zvI (hc E hE) (ha E hE) (hb E hE)).mono fun D σ H ⟨σW,S,DW,hσ,hS,ht,hD⟩=>⟨σW,S,_,hσ,hS,ht,fun k S1 H1 e1 hS1 h1=>by
  cases k with
  |true=>exact⟨σW,S1,DW,hσ.ext e1,hS1,h1,hD.from e1⟩
  |false=>exact⟨σW,S1,DW,hσ.ext e1,hS1,h1,hD.from e1⟩⟩
theorem zam{i:Nat}{x:Str}(hN:X.N.Nodup) (hi:X.N[i]? =some x) (hx:Loc X.env.scope x) (hf:X.fn x=true∨X.env.scope.names.lookup x=some .local:=by first |exact .inl rfl |exact .inr rfl |assumption):JG X (.Name x pos) (wGN i):=fun E hE=>
 (zqm hN hi hx hf).mono fun v σ H Q ⟨w,σW,S,P,r,hσ,hS,ht,hP⟩=>hP _ S _ H .refl (hσ.set r i) hS ht
noncomputable def JGs (X:Cx) (tgs:List Expr) (t:WGs):Prop:=∀E,Hook X E→PGs X tgs (fun vs σ H Q=>∃ws σW S P,Reps X.K H ws vs∧RpSt X.K H σW σ∧RepS X.K H S∧t ws σW S P∧Goes X.K H S P Q)
theorem zbC:JGs X [] zcb:=fun E hE pins s σ H vs us Q I r h=>by
 obtain⟨ws,σW,S,P,rs,hσ,hS,ht,hP⟩:=h;unfold zcb at ht;split at ht
 ·cases rs;exact zqG pins s σ H [] us Q I r ⟨rfl,hP σW S σ H .refl hσ hS ht⟩
 ·exact ht.elim
theorem zar{es:List Expr}{g:WG}{gs:WGs}(h1:JG X e g) (h2:JGs X es gs)
  (hs:(assignEach (e::es) X.env).map (·.2)=assign e X.env::(assignEach es X.env).map (·.2):=by rfl):JGs X (e::es) (zav g gs):=fun E hE pins s σ H vs us Q I r h=>by
 obtain⟨ws,σW,S,P,rs,hσ,hS,ht,hP⟩:=h;unfold zav at ht;split at ht
 ·exact ht.elim
 ·cases rs with
  |cons r1 r2=>
   refine zpo (h1 E hE) (h2 E hE) hs pins s σ H _ us Q I r ⟨_,_,rfl,⟨_,σW,S,_,r1,hσ,hS,ht,fun σW' S' σ' H' e' rr hS' q=>?_⟩⟩;exact⟨_,σW',S',P,r2.ext e',rr,hS',q,hP.from e'⟩
theorem zcp{es:List Expr}{k n:Nat}{gs:WGs}(h:JGs X es gs) (hlen:∀ws σ S P,gs ws σ S P→ws.length=n)
  (hn:(assignEach es X.env).length=n:=by rfl) (hst:(assignEach es X.env).findIdx? (·.1)=none:=by rfl) (hcl:X.calm=true:=by rfl):JG X (.Tuple es k pos) (wGT gs):=fun E hE=>
 (zsQ hcl (h E hE) hn hst).mono fun v σ H Q ⟨w,σW,S,P,r,hσ,hS,ht,hP⟩=>by
  cases r with
  |tup f hs=>exact⟨_,_,rfl, .of f,by rw [←hs.length];exact hlen _ _ _ _ ht,⟨_,σW,S,P,hs,hσ,hS,ht,hP⟩⟩
  |_=>exact ht.elim
theorem zfH{tg:Expr}{g:WG}(he:JE X e ta) (hg:JG X tg g) (hs:swapsWithSole [tg] e pos.line X.env=pure false:=by rfl) (hw:swappedStores [tg] e X.env=pure none:=by rfl)
  (h1:(assignEach [tg] X.env).map (·.2)=[assign tg X.env]:=by rfl):JS X (.Assign [tg] e pos) (wAsg ta g):=fun E hE=>
 (zse (he E hE) (hg E hE) hs hw h1).mono fun D σ H ⟨σW,S,DW,hσ,hS,ht,hD⟩=>⟨σW,S,_,hσ,hS,ht,fun w S1 v H1 e1 r1 hS1 h1=>⟨w,σW,S1,_,r1,hσ.ext e1,hS1,h1,hD.nx.from e1⟩⟩
theorem zap{i:Nat}{x:Str}{pos':Pos}(hN:X.N.Nodup) (hi:X.N[i]? =some x) (hx:Loc X.env.scope x) (he:JE X e ta) (hs:swapsWith e (some (.Name x pos')) pos.line X.env=pure false:=by rfl)
  (hf:X.fn x=true∨X.env.scope.names.lookup x=some .local:=by first |exact .inl rfl |exact .inr rfl |assumption):JS X (.Assign [.Name x pos'] e pos) (wAsg ta (wGN i)):=fun E hE=>
 (zpO hN hi hx (he E hE) hs hf).mono fun D σ H ⟨σW,S,DW,hσ,hS,ht,hD⟩=>⟨σW,S,_,hσ,hS,ht,fun w S1 v H1 e1 r1 hS1 h1=>hD.nx _ S1 _ H1 e1 ((hσ.ext e1).set r1 i) hS1 h1⟩
end
noncomputable def waNil:WA:=fun _ _ S Q=>Q [] S
noncomputable def zab (t:WE) (u:WA):WA:=fun E σ S Q=>t E σ S fun w S1=>u E σ S1 fun ws S2=>Q (w::ws) S2
noncomputable def zcH (t:WA):WE:=fun E σ S Q=>t E σ S fun ws S1=>ws.length≤sizeLine∧Q (.tup ws) S1
noncomputable def zeJ (t:WA):WL:=fun E σ S Q=>t E σ S fun ws S1=>ws.length≤sizeLine∧Q ws S1
noncomputable def zdb (t:WL):WE:=fun E σ S Q=>t E σ S fun ws S1=>∀a,S1 a=none→Q (.ref a) (put S1 a (.lst ws))
section
variable {X:Cx}{e:Expr}{es:List Expr}{te:WE}{ta:WA}{tl:WL}{pos:Pos}
theorem zac:JA X [] waNil:=fun E hE=>pa_nil.mono fun σ H Q ⟨σW,S,QW,hσ,hS,ht,hQ⟩=>hQ [] S [] H .refl .nil hS ht
theorem zaa (ha:JE X e te) (hr:JA X es ta) (hs:starEach (e::es) X.env=(false,eval e X.env)::starEach es X.env:=by rfl):JA X (e::es) (zab te ta):=fun E hE=>
 (zbu (ha E hE) (hr E hE) hs).mono fun σ H Q ⟨σW,S,QW,hσ,hS,ht,hQ⟩=>⟨σW,S,_,hσ,hS,ht,fun w S1 v H1 e1 r1 hS1 h1=>⟨σW,S1,_,hσ.ext e1,hS1,h1,fun ws S2 vs H2 e2 r2 hS2 h2=>
  hQ (w::ws) S2 (v::vs) H2 (e1.trans e2) (.cons (r1.ext e2) r2) hS2 h2⟩⟩
theorem zaE{x1}(h:JA X es ta):JE X (.Tuple es x1 pos) (zcH ta):=fun E hE=>
 (ztb (h E hE)).mono fun σ H Q ⟨σW,S,QW,hσ,hS,ht,hQ⟩=>⟨σW,S,_,hσ,hS,ht,fun ws S1 vs H1 e1 r1 hS1 h1=>by
  refine⟨by rw [←r1.length];exact h1.1,fun p hp=>hQ (.tup ws) S1 _ _ (e1.trans (.new hp)) (.tup zat (r1.ext (.new (S:=S1) hp))) (hS1.new hp) h1.2⟩⟩
theorem zba (h:JA X es ta):JL X (.List es pos) (zeJ ta):=fun E hE=>
 (ztN (h E hE)).mono fun σ H Q ⟨σW,S,QW,hσ,hS,ht,hQ⟩=>⟨σW,S,_,hσ,hS,ht,fun ws S1 vs H1 e1 r1 hS1 h1=>by
  refine⟨by rw [←r1.length];exact h1.1,fun p hp=>hQ ws S1 vs p _ (e1.trans (.new hp)) (e1.free hp) zat (hS1.free hp) (r1.ext (.new (S:=S1) hp)) (hS1.new hp) h1.2⟩⟩
theorem zaF (h:JL X e tl):JE X e (zdb tl):=fun E hE=>
 (h E hE).mono fun σ H Q ⟨σW,S,QW,hσ,hS,ht,hQ⟩=>⟨σW,S,_,hσ,hS,ht,fun ws S1 vs a H1 e1 fa ea na r1 hS1 h1=>by
  refine hQ (.ref a) (put S1 a (.lst ws)) (.ref a) H1 ⟨e1.tup,e1.frz,fun b o q g=>by
   have hb:b≠a:=by rintro rfl;rw [fa]at q;cases q
   rw [zaI hb];exact e1.fr b o q g,e1.all⟩ (.ref a) (fun b o q=>?_) (h1 a na)
  by_cases hb:b=a
  ·subst hb;rw [zag]at q;cases q;exact⟨vs,ea,r1⟩
  ·rw [zaI hb]at q;exact hS1 b o q⟩
end
noncomputable def zax (c:WSp) (t:WA):WE:=fun E σ S Q=>t E σ S fun ws S1=>c ws S1 Q fun cl S2=>E cl σ S2
noncomputable def zcR (n k:Nat) (body:WS):WSp:=fun ws S Q E=>ws.length=k∧body (fun c _ S'=>E c S') { nx:=fun _ S'=>∃S'',Sub S'' S'∧Q .non S'',rt:=fun w S'=>∃S'',Sub S'' S'∧Q w S'' } (ws.map some++List.replicate (n - k) none) S
section
variable {X:Cx}{k:Nat}{f:Addr}{fd:FuncData}{ps:List Str}{c:WSp}{x:Str}{p pos:Pos}{e:Expr}{es:List Expr}{t:WA}
theorem zai (F:FnOk X.prog X.w X.K X.mg X.base (CX1 X.prog X.w) k f fd ps (zcd X.K c)) (hr:Room k X.A) (hg:Gl X x) (hm:X.mg x=some (.ref f)) (hk:PySem.W.keepIn X.K (.ref f)=true) (hb:Binds X.K fd ps [])
  (ha:JA X (e::es) t) (hdb:(x == ("__debug__" :Str))=false:=by decide) (he:starEach (e::es) X.env=(false,eval e X.env)::starEach es X.env:=by rfl) (hpl:(backTo pos (starEach es X.env)).any (·.1)=false:=by rfl) :
  JE X (.Call (.Name x p) (e::es) [] pos) (zax c t):=fun E hE pins s σ H Q I h=>by
 obtain⟨σW,S,QW,hσ,hS,ht,hQ⟩:=h;refine wpAny_Call_Name_kw (zfP I hg hm ?_ hdb);refine PySem.W.callWith_K (h₀:=X.base) I.ok.mod.kin hk (thn (ha E hE pos pins s σ H (fun vs H1=>∃ws S1,Reps X.K H1 ws vs∧RpSt X.K H1 σW σ∧RepS X.K H1 S1∧c ws S1 QW (fun cl S'=>E cl σW S')∧Wish X.K H1 S1 QW Q) I
  ⟨σW,S,_,hσ,hS,ht,fun ws S1 vs H1 e1 r1 hS1 h1=>⟨ws,S1,r1,hσ.ext e1,hS1,h1,hQ.from e1⟩⟩) fun us s1 ⟨vs,H1,I1,r,ws,S1,r1,hσ1,hS1,h1,hQ1⟩=>⟨I1.kIn,?_⟩) he hpl
 exact zwn F hr hb hE I1 r r1 hσ1 hS1 h1 hQ1
theorem zmi{K:PySem.W.Frag}{H:Hp}{N:List Str}{ws:List W}{vs:List V}(h:Reps K H ws vs):RpSt K H (ws.map some++List.replicate (N.length - ws.length) none) (zhg N vs):=by
 have go:∀{ws:List W}{vs:List V}(m:Nat),Reps K H ws vs→RpSt K H (ws.map some++List.replicate m none) (vs.map some++List.replicate m none):=by
  intro ws
  induction ws with
  |nil=>
   intro vs m h;cases h
   induction m with
   |zero=>exact .nil
   |succ m ih=>exact .cons trivial ih
  |cons w ws ih=>
   intro vs m h;cases h with
   |cons r rs=>exact .cons r (ih m rs)
 unfold zhg;rw [←h.length];exact go _ h
theorem zbf{P:Program}{w:World}{K:PySem.W.Frag}{mg:Str→Option Value}{base:Heap}{x qual:Str}{st:Stmt}{f:Addr}{fd:FuncData}{N ps:List Str}{r n k:Nat}{body:WS}(F:Fun K x qual st f fd) (S:FnScope N ps (zan st)) (hn:N.length=n) (hk:ps.length=k)
  (hbody:∀(cdv:Value) (A:Around) (outer:List Env) (s:Shared) (H:Hp) (E:XK),Room r (A.deeper (envOfC qual (zan st) s.heap.objs.size f cdv))→
   JSs (zrm (CX1 P w) P w K mg base N qual (zan st) f cdv A outer s H E) (zeP st) body):FnOk P w K mg base (CX1 P w) (r+1) f fd ps (zcd K (zcR n k body)):=by
 obtain⟨oc,od,kV,doc,pm,an,cdv,ct,osl,rfl,lk,hcd⟩:=F.ex;refine zvD lk hcd S (fun vs H Q E h=>?_) fun A outer s H vs Q E hr h=>?_
 ·obtain⟨ws,S,QW,EW,rs,_,h,_⟩:=h;rw [←rs.length,h.1,hk]
 ·obtain⟨ws,S',QW,EW,rs,hS,h,hQ,hEW⟩:=h;refine⟨_,hbody cdv A outer s H E hr (fun c _ S'=>EW c S') (zpi hEW),?_⟩;refine⟨_,S',{ nx:=fun _ S'=>∃S'',Sub S'' S'∧QW .non S'',rt:=fun w S'=>∃S'',Sub S'' S'∧QW w S'' },zmi (N:=N) rs,hS,by rw [hn,h.1];exact h.2,⟨fun σW S1 σ H1 e1 rr hS1 q=>?_,fun w S1 v H1 e1 rr hS1 q=>?_,fun _ _ _ _ _ _ _ q=>q,fun _ _ _ _ _ _ _ q=>q⟩⟩
  ·obtain⟨S2,sb,q⟩:=q;exact hQ .non S2 .non H1 (e1.trans (.drop sb)) .non (hS1.sub sb) q
  ·obtain⟨S2,sb,q⟩:=q;exact hQ w S2 v H1 (e1.trans (.drop sb)) rr (hS1.sub sb) q
end
noncomputable def zbG (C:Int→Int→Prop) (g:Int→Int→W):W2
 | .int i, .int j,S,Q=>C i j∧Q (g i j) S
 |_,_,_,_=>False
noncomputable def zdU (g:Int→Int→W):W2
 | .int i, .int j,S,Q=>Q (g i j) S
 |_,_,_,_=>False
theorem zgH{K:PySem.W.Frag}{C:Int→Int→Prop}{g:Int→Int→Int}:OpW K (rI C fun i j=> .int (g i j)) (zbG C fun i j=> .int (g i j)):=fun H x y wx wy S Q QW rx ry hS h hQ=>by
 cases rx<;>cases ry<;>first |exact⟨_,_,rfl,rfl,h.1,hQ _ S _ H .refl (.int _) hS h.2⟩ |exact h.elim
theorem zpr{K:PySem.W.Frag}{g:Int→Int→Int}:OpW K (rI0 fun i j=> .int (g i j)) (zdU fun i j=> .int (g i j)):=fun H x y wx wy S Q QW rx ry hS h hQ=>by
 cases rx<;>cases ry<;>first |exact⟨_,_,rfl,rfl,hQ _ S _ H .refl (.int _) hS h⟩ |exact h.elim
theorem zev{K:PySem.W.Frag}{g:Int→Int→Bool}:OpW K (rI0 fun i j=> .bl (g i j)) (zdU fun i j=> .bl (g i j)):=fun H x y wx wy S Q QW rx ry hS h hQ=>by
 cases rx<;>cases ry<;>first |exact⟨_,_,rfl,rfl,hQ _ S _ H .refl (.bl _) hS h⟩ |exact h.elim
noncomputable def zcT:W2
 | .int i, .int j,S,Q=>Q (.int (i+j)) S
 | .str x, .str y,S,Q=>x.length+y.length≤sizeLine∧Q (.str (x++y)) S
 | .tup xs, .tup ys,S,Q=>xs.length+ys.length≤sizeLine∧Q (.tup (xs++ys)) S
 | .ref a, .ref b,S,Q=>zbN S a fun xs=>zbN S b fun ys=>xs.length+ys.length≤sizeLine∧ ∀p,S p=none→Q (.ref p) (put S p (.lst (xs++ys)))
 |_,_,_,_=>False
section
variable {X:Cx}
theorem Reps.nil_r{K:PySem.W.Frag}{H:Hp}{ws:List W}(h:Reps K H ws []):ws=[]:=by cases h;rfl
theorem op_catT0:OpR X (binaryOp .Add) (fun x y H Q=>∃a b ys,x= .ref a∧y= .ref b∧SqT X.K H a []∧SqT X.K H b ys∧Q (.ref b) H):=by
 intro pins s σ H x y v u Q I rx ry h;obtain⟨a,b,ys,rfl,rfl,ha,hb,q⟩:=h;cases rx;cases ry;obtain⟨its,r1,p1,_⟩:=I.tuple ha;obtain⟨its2,r2,p2,_⟩:=I.tuple hb;cases r1;obtain⟨⟨cls,dd,data,sl⟩,ho,hc,n,hd⟩:=id p1;obtain⟨⟨cls2,dd2,data2,sl2⟩,ho2,hc2,n2,hd2⟩:=id p2;simp only at hc hd hc2 hd2;subst hc hd hc2 hd2;exact concat_meets ⟨_,ho,rfl⟩ ⟨_,ho2,rfl⟩ noFill_tuple_add seq_tuple_add PySem.F.slot_tuple_add PySem.F.entry_tuple_add (PySem.F.args_tuple_add_2 _ _)
   (tuple_addW0 a b _ _ n n2 dd dd2 sl sl2 (by simp)) ⟨ho,ho2,⟨.ref b,H,I,rfl,q⟩⟩
theorem zlJ:OpR X (binaryOp .Add) (fun x y H Q=>(rI0 fun i j=> .int (i+j)) x y H Q∨(∃i j,x= .str i∧y= .str j∧i.length+j.length≤sizeLine∧Q (.str (i++j)) H)∨
  (∃a b ys,x= .ref a∧y= .ref b∧SqT X.K H a []∧SqT X.K H b ys∧Q (.ref b) H)∨zrI X.K x y H Q∨zvS x y H Q):=op_add.or (op_add_str.or (op_catT0.or (op_catT.or zlo)))
theorem zre{K:PySem.W.Frag}:OpW K (fun x y H Q=>(rI0 fun i j=> .int (i+j)) x y H Q∨(∃i j,x= .str i∧y= .str j∧i.length+j.length≤sizeLine∧Q (.str (i++j)) H)∨
  (∃a b ys,x= .ref a∧y= .ref b∧SqT K H a []∧SqT K H b ys∧Q (.ref b) H)∨zrI K x y H Q∨zvS x y H Q) zcT:=fun H x y wx wy S Q QW rx ry hS h hQ=>by
 cases rx with
 |int i=>
  cases ry with
  |int j=>exact .inl ⟨i,j,rfl,rfl,hQ _ S _ H .refl (.int _) hS h⟩
  |_=>exact h.elim
 |str i=>
  cases ry with
  |str j=>exact .inr (.inl ⟨i,j,rfl,rfl,h.1,hQ _ S _ H .refl (.str _) hS h.2⟩)
  |_=>exact h.elim
 | @tup a vs ws f hs=>
  cases ry with
  | @tup b us zs g ks=>
   cases hs with
   |nil=>exact .inr (.inr (.inl ⟨a,b,us,rfl,rfl, .of f, .of g,hQ (.tup zs) S _ H .refl (.tup g ks) hS h.2⟩))
   |cons h1 h2=>
    refine .inr (.inr (.inr (.inl ⟨a,b,_,us,rfl,rfl, .of f, .of g,by simp,?_,fun e=>?_,fun e p hp=>?_⟩)))
    ·rw [←(Reps.cons h1 h2).length,←ks.length];exact h.1
    ·subst e;have e':=ks.nil_r;subst e';have q:=h.2;rw [List.append_nil]at q;exact hQ _ S _ H .refl (.tup f (.cons h1 h2)) hS q
    ·exact hQ _ S _ _ (.new hp) (.tup zat (((Reps.cons h1 h2).append ks).ext (.new (S:=S) hp))) (hS.new hp) h.2
  |_=>exact h.elim
 |ref a=>
  cases ry with
  |ref b=>
   obtain⟨xs,ea,h⟩:=zaS h;obtain⟨ys,eb,h⟩:=zaS h;obtain⟨vs,e1,r1⟩:=hS a _ ea;obtain⟨us,e2,r2⟩:=hS b _ eb;refine .inr (.inr (.inr (.inr ⟨a,b,vs,us,rfl,rfl,e1,e2,by rw [←r1.length,←r2.length];exact h.1,fun p hp=>?_⟩)))
   exact hQ _ _ _ _ (.newS hp) (.ref p) (hS.put_lst hp ((r1.append r2).ext (.new (S:=S) hp))) (h.2 p (hS.free hp))
  |_=>exact h.elim
 |_=>exact h.elim
variable {a b:Expr}{pos:Pos}{ta tb:WE}
theorem zaP (ha:JE X a ta) (hb:JE X b tb):JE X (.BinOp a .Add b pos) (wOp zcT ta tb):=zjb zlJ zre ha hb
theorem zet (ha:JE X a ta) (hb:JE X b tb):JE X (.BinOp a .Sub b pos) (wOp (zdU fun i j=> .int (i - j)) ta tb):=zjb ztK zpr ha hb
theorem zgg (ha:JE X a ta) (hb:JE X b tb):JE X (.BinOp a .Mult b pos) (wOp (zbG CMul fun i j=> .int (i*j)) ta tb):=zjb zsW zgH ha hb
theorem zbU (ha:JE X a ta) (hb:JE X b tb):JE X (.BinOp a .FloorDiv b pos) (wOp (zbG ziG fun i j=> .int (i / j)) ta tb):=zjb zrn zgH ha hb
theorem zaM (ha:JE X a ta) (hb:JE X b tb):JE X (.BinOp a .Mod b pos) (wOp (zbG (fun _ j=>0<j) fun i j=> .int (i % j)) ta tb):=zjb zsn zgH ha hb
theorem znE (ha:JE X a ta) (hb:JE X b tb):JE X (.BinOp a .Pow b pos) (wOp (zbG zsY fun i j=> .int (i ^ j.toNat)) ta tb):=zjb ztF zgH ha hb
noncomputable def zpP (t:WE):WE:=fun E σ S Q=>t E σ S fun w S1=>match w with
 | .int i=>Q (.int (-i)) S1
 |_=>False
theorem zgc (ha:JE X a ta):JE X (.UnaryOp .USub a pos) (zpP ta):=fun E hE=>
 (zvv zuw (ha E hE)).mono fun σ H Q ⟨σW,S,QW,hσ,hS,ht,hQ⟩=>⟨σW,S,_,hσ,hS,ht,fun w S1 v H1 e1 r1 hS1 h1=>by
  cases r1 with
  |int i=>exact⟨i,rfl,hQ _ S1 _ H1 e1 (.int _) hS1 h1⟩
  |_=>exact h1.elim⟩
noncomputable def zvM (t u:WE):WL:=fun E σ S Q=>t E σ S fun x S1=>u E σ S1 fun y S2=>match x,y with
 | .ref a, .ref b=>zbN S2 a fun xs=>zbN S2 b fun ys=>xs.length+ys.length≤sizeLine∧Q (xs++ys) S2
 |_,_=>False
end
noncomputable def zcJ (f:W→W→Option Bool):List W→List W→Option Bool
 | [],[]=>some true
 | [],_=>some false
 |_,[]=>some false
 |x::xs,y::ys=>match f x y,zcJ f xs ys with
  |some a,some b=>some (a&&b)
  |_,_=>none
noncomputable def eqF (S:Sto):Nat→W→W→Option Bool
 |0,_,_=>none
 |n+1,w,u=>match w,u with
  | .non, .non=>some true
  | .bl a, .bl b=>some (a == b)
  | .int a, .int b=>some (a == b)
  | .str a, .str b=>some (a == b)
  | .tup _, .int _=>some false
  | .int _, .tup _=>some false
  | .tup xs, .tup ys=>zcJ (eqF S n) xs ys
  | .ref a, .ref b=>match S a with
   |some (.lst xs)=>match S b with
    |some (.lst ys)=>zcJ (eqF S n) xs ys
    |_=>none
   |_=>none
  |_,_=>none
theorem zkp{f:W→W→Option Bool}:∀{xs ys:List W}{b:Bool},zcJ f xs ys=some b→
  (∀j,j<xs.length→j<ys.length→ ∃c,f (xs.getD j .non) (ys.getD j .non)=some c)∧
  ((List.range (min xs.length ys.length)).all (fun j=>(f (xs.getD j .non) (ys.getD j .non)).getD true)&&xs.length == ys.length)=b
 | [],[],b,h=>by
  have:true=b:=Option.some.inj h;subst this;exact⟨fun j h=>absurd h (by simp),by simp⟩
 | [],y::ys,b,h=>by
  have:false=b:=Option.some.inj h;subst this;exact⟨fun j h=>absurd h (by simp),by simp⟩
 |x::xs,[],b,h=>by
  have:false=b:=Option.some.inj h;subst this;exact⟨fun j _ h=>absurd h (by simp),by simp⟩
 |x::xs,y::ys,b,h=>by
  unfold zcJ at h;split at h
  ·rename_i c d e1 e2;have hb:(c&&d)=b:=Option.some.inj h;obtain⟨h1,h2⟩:=zkp e2;refine⟨fun j j1 j2=>?_,?_⟩
   ·cases j with
    |zero=>exact⟨c,by simpa using e1⟩
    |succ j=>simpa using h1 j (by simpa using j1) (by simpa using j2)
   ·have hm:min (xs.length+1) (ys.length+1)=min xs.length ys.length+1:=by omega
    have hl:(xs.length+1 == ys.length+1)=(xs.length == ys.length):=by simp
    rw [List.length_cons,List.length_cons,hm,List.range_succ_eq_map,List.all_cons,List.all_map,hl];have q:((fun j=>(f ((x::xs).getD j .non) ((y::ys).getD j .non)).getD true)∘Nat.succ)=fun j=>(f (xs.getD j .non) (ys.getD j .non)).getD true:=by
     funext j;simp
    rw [q,Bool.and_assoc,h2];have q0:(f ((x::xs).getD 0 .non) ((y::ys).getD 0 .non)).getD true=c:=by simp [e1]
    rw [q0,hb]
  ·cases h
section
variable {X:Cx}{pins:List (Addr×Obj)}{σ:St}{H:Hp}{s:Shared}{S:Sto}
theorem zgX (I:Inv X pins σ H s):∀(n:Nat) {wx wy:W}{v:V}{b:Bool},Rep X.K H wx v→Rep X.K H wy v→RepS X.K H S→eqF S n wx wy=some b→b=true
 |0,_,_,_,_,_,_,_,h=>by cases h
 |n+1,wx,wy,v,b,rx,ry,hS,h=>by
  have list:∀{ws us:List W}{vs:List V}{b:Bool},Reps X.K H ws vs→Reps X.K H us vs→zcJ (eqF S n) ws us=some b→b=true:=by
   intro ws
   induction ws with
   |nil=>
    intro us vs b r1 r2 e;cases r1;cases r2;exact(Option.some.inj e).symm
   |cons w ws ih=>
    intro us vs b r1 r2 e;cases r1 with
    |cons a1 a2=>
     cases r2 with
     |cons c1 c2=>
      unfold zcJ at e;split at e
      ·rename_i c d e1 e2;have q1:=zgX I n a1 c1 hS e1;have q2:=ih a2 c2 e2;have:=Option.some.inj e;rw [q1,q2]at this;exact this.symm
      ·cases e
  cases rx with
  |non=>cases ry;exact(Option.some.inj h).symm
  |bl k=>cases ry;have:=Option.some.inj h;simpa using this.symm
  |int k=>cases ry;have:=Option.some.inj h;simpa using this.symm
  |str k=>cases ry;have:=Option.some.inj h;simpa using this.symm
  |ref a=>
   cases ry with
   |ref _=>
    have h':(match S a with
     |some (.lst xs)=>match S a with
      |some (.lst ys)=>zcJ (eqF S n) xs ys
      |_=>none
     |_=>none)=some b:=h
    cases e:S a with
    |none=>rw [e]at h';cases h'
    |some o=>
     rw [e]at h';cases o with
     |lst ws=>
      obtain⟨vs,_,r⟩:=hS a _ e;exact list r r h'
     |dct _=>cases h'
     |ins _ _=>cases h'
   |scr _=>cases h
   |tup _ _=>cases h
  |scr f=>cases ry<;>cases h
  |tup f hs=>
   cases ry with
   |ref _=>cases h
   |scr _=>cases h
   |tup g ks=>
    have e:=I.tuple_inj (.of f) (.of g);subst e;exact list hs ks h
theorem ziz{A:Around}:A.in1.units=A.units+1:=rfl
theorem zke (I:Inv X pins σ H s) (hS:RepS X.K H S):∀(n:Nat) {A:Around}{wx wy:W}{x y:V}{u v:Value}{b:Bool},A.units+n<cLine→Rep X.K H wx x→Rep X.K H wy y→RelV x u→RelV y v→eqF S n wx wy=some b→
  SeqAt.EqAt A s u v b∧SeqAt.RcAt A s u v b∧SeqAt.RcNeAt A s u v (!b)
 |0,_,_,_,_,_,_,_,_,_,_,_,_,_,h=>by cases h
 |n+1,A,wx,wy,x,y,u,v,b,hu,rx,ry,ru,rv,h=>by
  have hu0:A.units<cLine:=by omega
  have items:∀{ws zs:List W}{xs ys:List V}{us vs:List Value}{b:Bool},Reps X.K H ws xs→Reps X.K H zs ys→Vals xs us→Vals ys vs→zcJ (eqF S n) ws zs=some b→
    (∀j (h1:j<us.toArray.size) (h2:j<vs.toArray.size),SeqAt.EqAt A.in1 s us.toArray[j] vs.toArray[j] ((eqF S n (ws.getD j .non) (zs.getD j .non)).getD true))∧
    ((List.range (min us.toArray.size vs.toArray.size)).all (fun j=>(eqF S n (ws.getD j .non) (zs.getD j .non)).getD true)&&us.toArray.size == vs.toArray.size)=b:=by
   intro ws zs xs ys us vs b r1 r2 q1 q2 e;obtain⟨h1,h2⟩:=zkp e;have l1:=r1.length;have l2:=r2.length;have l3:=q1.length;have l4:=q2.length;refine⟨fun j j1 j2=>?_,?_⟩
   ·rw [List.size_toArray]at j1 j2;obtain⟨c,hc⟩:=h1 j (by omega) (by omega);have jw:j<ws.length:=by omega
    have jz:j<zs.length:=by omega
    obtain⟨x',ex,rx'⟩:=r1.get (List.getElem?_eq_getElem jw);obtain⟨y',ey,ry'⟩:=r2.get (List.getElem?_eq_getElem jz);obtain⟨u',eu,ru'⟩:=q1.get ex;obtain⟨v',ev,rv'⟩:=q2.get ey;have e1:us.toArray[j]=u':=by
     obtain⟨_,e⟩:=List.getElem?_eq_some_iff.mp eu;simpa using e
    have e2:vs.toArray[j]=v':=by
     obtain⟨_,e⟩:=List.getElem?_eq_some_iff.mp ev;simpa using e
    have g1:ws.getD j .non=ws[j]:=by rw [List.getD_eq_getElem?_getD,List.getElem?_eq_getElem jw];rfl
    have g2:zs.getD j .non=zs[j]:=by rw [List.getD_eq_getElem?_getD,List.getElem?_eq_getElem jz];rfl
    rw [e1,e2,hc];rw [g1,g2]at hc;exact(zke I hS n (by rw [ziz];omega) rx' ry' ru' rv' hc).1
   ·rw [List.size_toArray,List.size_toArray,←l3,←l4,←l1,←l2];exact h2
  cases rx with
  |non=>
   cases(show u=Value.none from ru);cases ry with
   |non=>cases(show v=Value.none from rv);cases h;exact⟨.same _, .none_none, .none_none⟩
   |_=>cases h
  |bl k=>
   cases(show u=Value.bool k from ru);cases ry with
   |bl j=>cases(show v=Value.bool j from rv);cases h;exact⟨.bool_bool _ _, .bool_bool _ _, .bool_bool _ _⟩
   |_=>cases h
  |int k=>
   obtain⟨t0,rfl⟩:=ru;cases ry with
   |int j=>obtain⟨t,rfl⟩:=rv;cases h;exact⟨.int_int _ _ _ _, .int_int _ _ _ _, .int_int _ _ _ _⟩
   |tup f hs=>cases(show v=Value.ref _ from rv);cases h;obtain⟨its,_,p,_⟩:=I.tuple (.of f);exact⟨.int_tuple _ _ p hu0, .int_tuple _ _ p hu0, .int_tuple _ _ p hu0⟩
   |_=>cases h
  |str k=>
   obtain⟨t0,rfl⟩:=ru;cases ry with
   |str j=>obtain⟨t,rfl⟩:=rv;cases h;exact⟨.str_str _ _ _ _, .str_str _ _ _ _, .str_str _ _ _ _⟩
   |_=>cases h
  | @tup a xs ws f hs=>
   cases(show u=Value.ref a from ru);obtain⟨its,q1,p,_⟩:=I.tuple (.of f);cases ry with
   |int j=>obtain⟨t,rfl⟩:=rv;cases h;exact⟨.tuple_int _ _ p hu0, .tuple_int _ _ p hu0, .tuple_int _ _ p hu0⟩
   | @tup c ys zs g ks=>
    cases(show v=Value.ref c from rv);obtain⟨its2,q2,p2,_⟩:=I.tuple (.of g);obtain⟨h1,h2⟩:=items hs ks q1 q2 h;have rc:SeqAt.RcAt A s (.ref a) (.ref c) b:=by
     have:=SeqAt.RcAt.tuples p p2 hu0 h1;rw [h2]at this;exact this
    have rn:SeqAt.RcNeAt A s (.ref a) (.ref c) (!b):=by
     have:=SeqAt.RcNeAt.tuples p p2 hu0 h1;rw [h2]at this;exact this
    refine⟨?_,rc,rn⟩;by_cases e:a=c
    ·subst e;have:=zgX I (n+1) (.tup f hs) (.tup g ks) hS h;rw [this];exact .same _
    ·exact .of_refs e rc
   |_=>cases h
  |ref a=>
   cases(show u=Value.ref a from ru);cases ry with
   |ref c=>
    cases(show v=Value.ref c from rv);have h':(match S a with
     |some (.lst xs)=>match S c with
      |some (.lst ys)=>zcJ (eqF S n) xs ys
      |_=>none
     |_=>none)=some b:=h
    cases e:S a with
    |none=>rw [e]at h';cases h'
    |some o=>
     rw [e]at h';cases o with
     |dct _=>cases h'
     |ins _ _=>cases h'
     |lst ws=>
      cases e2:S c with
      |none=>rw [e2]at h';cases h'
      |some o2=>
       rw [e2]at h';cases o2 with
       |dct _=>cases h'
       |ins _ _=>cases h'
       |lst zs=>
        obtain⟨xs,f,hs⟩:=hS a _ e;obtain⟨ys,g,ks⟩:=hS c _ e2;obtain⟨its,q1,p,_⟩:=I.list (.of f);obtain⟨its2,q2,p2,_⟩:=I.list (.of g);obtain⟨h1,h2⟩:=items hs ks q1 q2 h';have both:SeqAt.RcAt A s (.ref a) (.ref c) b∧SeqAt.RcNeAt A s (.ref a) (.ref c) (!b):=by
         by_cases hz:its.toArray.size=its2.toArray.size
         ·have t1:=SeqAt.RcAt.lists p.isList p2.isList hz hu0 h1;have t2:=SeqAt.RcNeAt.lists p.isList p2.isList hz hu0 h1;rw [←hz,Nat.min_self,beq_self_eq_true,Bool.and_true]at h2;rw [h2]at t1 t2;exact⟨t1,t2⟩
         ·have hz':(its.toArray.size != its2.toArray.size)=true:=by simpa using hz
          have hz2:(its.toArray.size == its2.toArray.size)=false:=by simpa using hz
          rw [hz2,Bool.and_false]at h2;subst h2;exact⟨.lists_lengths p.isList p2.isList hz' hu0, .lists_lengths p.isList p2.isList hz' hu0⟩
        refine⟨?_,both.1,both.2⟩;by_cases ee:a=c
        ·subst ee;have:=zgX I (n+1) (.ref a) (.ref a) hS h;rw [this];exact .same _
        ·exact .of_refs ee both.1
   |_=>cases h
  |scr f=>cases ry<;>cases h
end
noncomputable def oEq (neg:Bool):W2:=fun x y S Q=>match eqF S 60 x y with
 |some b=>Q (.bl (if neg then !b else b)) S
 |none=>False
noncomputable def zvl (K:PySem.W.Frag) (neg:Bool):R2:=fun x y H Q=>∃wx wy S b,Rep K H wx x∧Rep K H wy y∧RepS K H S∧eqF S 60 wx wy=some b∧Q (.bl (if neg then !b else b)) H
section
variable {X:Cx}
theorem zpx (hu:X.A.units+60<cLine):OpR X (compareOp .Eq) (zvl X.K false):=by
 intro pins s σ H x y v u Q I rx ry h;obtain⟨wx,wy,S,b,r1,r2,hS,e,q⟩:=h;exact(zke I hS 60 hu r1 r2 rx ry e).2.1 _ _ _ _ ⟨.bl b,H,I,rfl,q⟩
theorem ztv (hu:X.A.units+60<cLine):OpR X (compareOp .NotEq) (zvl X.K true):=by
 intro pins s σ H x y v u Q I rx ry h;obtain⟨wx,wy,S,b,r1,r2,hS,e,q⟩:=h;exact(zke I hS 60 hu r1 r2 rx ry e).2.2 _ _ _ _ ⟨.bl (!b),H,I,rfl,q⟩
theorem znC{K:PySem.W.Frag}{neg:Bool}:OpW K (zvl K neg) (oEq neg):=fun H x y wx wy S Q QW rx ry hS h hQ=>by
 unfold oEq at h;split at h
 ·rename_i b e;exact⟨wx,wy,S,b,rx,ry,hS,e,hQ _ S _ H .refl (.bl _) hS h⟩
 ·exact h.elim
variable {a b c:Expr}{pos:Pos}{ta tb:WE}
theorem zff{k:Nat}(hr:Room k X.A) (ha:JE X a ta) (hb:JE X b tb):JE X (.Compare a [.Eq] [b] pos) (wOp (oEq false) ta tb):=zjK (zpx (by have:=hr.units;omega)) znC ha hb (nomark b)
theorem zel{k:Nat}(hr:Room k X.A) (ha:JE X a ta) (hb:JE X b tb):JT X (.Compare a [.Eq] [b] pos) (wTb (wOp (oEq false) ta tb)):=zez (zpx (by have:=hr.units;omega)) znC ha hb (nomark b)
theorem zhw{k:Nat}(hr:Room k X.A) (ha:JE X a ta) (hb:JE X b tb):JT X (.Compare a [.NotEq] [b] pos) (wTb (wOp (oEq true) ta tb)):=zez (ztv (by have:=hr.units;omega)) znC ha hb (nomark b)
noncomputable abbrev oLt:W2:=zdU fun i j=> .bl (decide (i<j))
noncomputable abbrev oGt:W2:=zdU fun i j=> .bl (decide (j<i))
noncomputable abbrev oGe:W2:=zdU fun i j=> .bl (decide (j≤i))
noncomputable def oLe:W2
 | .int i, .int j,S,Q=>Q (.bl (decide (i≤j))) S
 | .str i, .str j,S,Q=>Q (.bl (!decide (j.cps.toList<i.cps.toList))) S
 |_,_,_,_=>False
theorem zpE{K:PySem.W.Frag}:OpW K (fun x y H Q=>rI0 (fun i j=> .bl (decide (i≤j))) x y H Q∨(∃i j,x= .str i∧y= .str j∧Q (.bl (!decide (j.cps.toList<i.cps.toList))) H)) oLe:=fun H x y wx wy S Q QW rx ry hS h hQ=>by
 cases rx with
 |int i=>
  cases ry with
  |int j=>exact .inl ⟨i,j,rfl,rfl,hQ _ S _ H .refl (.bl _) hS h⟩
  |_=>exact h.elim
 |str i=>
  cases ry with
  |str j=>exact .inr ⟨i,j,rfl,rfl,hQ _ S _ H .refl (.bl _) hS h⟩
  |_=>exact h.elim
 |_=>exact h.elim
theorem zwe (ha:JE X a ta) (hb:JE X b tb):JE X (.Compare a [.Lt] [b] pos) (wOp oLt ta tb):=zjK zun zev ha hb (nomark b)
theorem zkA (ha:JE X a ta) (hb:JE X b tb):JT X (.Compare a [.Lt] [b] pos) (wTb (wOp oLt ta tb)):=zez zun zev ha hb (nomark b)
theorem zvZ (ha:JE X a ta) (hb:JE X b tb):JE X (.Compare a [.Gt] [b] pos) (wOp oGt ta tb):=zjK ztX zev ha hb (nomark b)
theorem zfB (ha:JE X a ta) (hb:JE X b tb):JT X (.Compare a [.Gt] [b] pos) (wTb (wOp oGt ta tb)):=zez ztX zev ha hb (nomark b)
theorem zvR (ha:JE X a ta) (hb:JE X b tb):JT X (.Compare a [.GtE] [b] pos) (wTb (wOp oGe ta tb)):=zez zvF zev ha hb (nomark b)
noncomputable def zgo (r r':W2) (a b c:WE):WE:=fun E σ S Q=>a E σ S fun x S1=>b E σ S1 fun y S2=>r x y S2 fun z S3=>match z with
 | .bl true=>c E σ S3 fun u S4=>r' y u S4 Q
 | .bl false=>Q (.bl false) S3
 |_=>False
noncomputable def oIs (neg:Bool):W2
 | .non, .non,S,Q=>Q (.bl (!neg)) S
 | .bl a, .bl b,S,Q=>Q (.bl (if neg then a != b else a == b)) S
 | .bl _, .non,S,Q=>Q (.bl neg) S
 | .int _, .non,S,Q=>Q (.bl neg) S
 | .str _, .non,S,Q=>Q (.bl neg) S
 | .tup _, .non,S,Q=>Q (.bl neg) S
 | .ref _, .non,S,Q=>Q (.bl neg) S
 |_,_,_,_=>False
theorem zlU:OpR X (compareOp .IsNot) (fun x y H Q=>(y= .non∧Q (.bl (!decide (x= .non))) H)∨ ∃a b,x= .bl a∧y= .bl b∧Q (.bl (a != b)) H):=op_notN.or (by
 intro pins s σ H x y v u Q I rx ry h;obtain⟨a,b,rfl,rfl,q⟩:=h;cases rx;cases ry;exact isnot_bool ⟨.bl _,H,I,rfl,q⟩)
theorem zlQ{K:PySem.W.Frag}:OpW K (fun x y H Q=>(y= .non∧Q (.bl (!decide (x= .non))) H)∨ ∃a b,x= .bl a∧y= .bl b∧Q (.bl (a != b)) H) (oIs true):=fun H x y wx wy S Q QW rx ry hS h hQ=>by
 cases ry with
 |non=>cases rx<;>first |exact .inl ⟨rfl,by simpa using hQ _ S _ H .refl (.bl _) hS h⟩ |exact h.elim
 |bl b=>
  cases rx with
  |bl a=>exact .inr ⟨a,b,rfl,rfl,hQ _ S _ H .refl (.bl _) hS h⟩
  |_=>exact h.elim
 |_=>cases rx<;>exact h.elim
theorem zkr (ha:JE X a ta) (hb:JE X b tb):JT X (.Compare a [.IsNot] [b] pos) (wTb (wOp (oIs true) ta tb)):=zez zlU zlQ ha hb (nomark b)
end
noncomputable def inF (S:Sto) (x:W):List W→Option Bool
 | []=>some false
 |w::ws=>match eqF S 59 w x with
  |some a=>match inF S x ws with
   |some b=>some (a || b)
   |none=>none
  |none=>none
section
variable {X:Cx}{pins:List (Addr×Obj)}{σ:St}{H:Hp}{s:Shared}{S:Sto}
theorem zjc (I:Inv X pins σ H s) (hS:RepS X.K H S):∀(n:Nat) {w w' u:W}{v:V}{b b':Bool},Rep X.K H w v→Rep X.K H w' v→eqF S n w u=some b→eqF S n w' u=some b'→b=b'
 |0,_,_,_,_,_,_,_,_,h,_=>by cases h
 |n+1,w,w',u,v,b,b',r,r',h,h'=>by
  have list:∀{us ws zs:List W}{vs:List V}{b b':Bool},Reps X.K H ws vs→Reps X.K H zs vs→zcJ (eqF S n) ws us=some b→zcJ (eqF S n) zs us=some b'→b=b':=by
   intro us
   induction us with
   |nil=>
    intro ws zs vs b b' r1 r2 e1 e2;cases r1 with
    |nil=>cases r2;rw [e1]at e2;exact Option.some.inj e2
    |cons _ _=>cases r2 with
     |cons _ _=>have:=Option.some.inj e1;have:=Option.some.inj e2;subst_vars;rfl
   |cons u us ih=>
    intro ws zs vs b b' r1 r2 e1 e2;cases r1 with
    |nil=>cases r2;rw [e1]at e2;exact Option.some.inj e2
    |cons a1 a2=>
     cases r2 with
     |cons c1 c2=>
      unfold zcJ at e1 e2;split at e1
      ·rename_i p q f1 f2;split at e2
       ·rename_i p' q' g1 g2;have h1:=zjc I hS n a1 c1 f1 g1;have h2:=ih a2 c2 f2 g2;rw [←Option.some.inj e1,←Option.some.inj e2,h1,h2]
       ·cases e2
      ·cases e1
  have nolist:∀{a:Addr}{vs:List V}{ws:List W},H a=some (.tup vs)→S a=some (.lst ws)→False:=fun f e=>by
   obtain⟨_,g,_⟩:=hS _ _ e;rw [f]at g;cases g
  cases r with
  |non=>cases r';rw [h]at h';exact Option.some.inj h'
  |bl k=>cases r';rw [h]at h';exact Option.some.inj h'
  |int k=>cases r';rw [h]at h';exact Option.some.inj h'
  |str k=>cases r';rw [h]at h';exact Option.some.inj h'
  |scr f=>cases u<;>cases h
  | @tup a vs ws f hs=>
   cases r' with
   | @tup _ us zs g ks=>
    rw [f]at g;cases g;cases u with
    |tup us=>exact list hs ks h h'
    |int _=>have:=Option.some.inj h;have:=Option.some.inj h';subst_vars;rfl
    |_=>cases h
   |scr _=>cases u<;>cases h'
   |ref _=>
    exfalso;cases u with
    |ref c=>
     have h2:(match S a with
      |some (.lst xs)=>match S c with
       |some (.lst ys)=>zcJ (eqF S n) xs ys
       |_=>none
      |_=>none)=some b':=h'
     split at h2
     ·exact nolist f ‹_›
     ·cases h2
    |_=>cases h'
  |ref a=>
   cases r' with
   |ref _=>rw [h]at h';exact Option.some.inj h'
   |scr _=>cases u<;>cases h'
   |tup f hs=>
    exfalso;cases u with
    |ref c=>
     have h2:(match S a with
      |some (.lst xs)=>match S c with
       |some (.lst ys)=>zcJ (eqF S n) xs ys
       |_=>none
      |_=>none)=some b:=h
     split at h2
     ·exact nolist f ‹_›
     ·cases h2
    |_=>cases h
open Classical in
theorem zky (I:Inv X pins σ H s) (hS:RepS X.K H S) {A:Around}{ws:List W}{vs:List V}{us:List Value}{wx:W}{x:V}{u:Value}{b:Bool}(hu:A.units+60<cLine) (r:Reps X.K H ws vs) (rv:Vals vs us) (rx:Rep X.K H wx x) (ru:RelV x u) (h:inF S wx ws=some b) :
  ∃e:Value→Bool,(∀y,y∈us.toArray→SeqAt.EqAt A.in1 s y u (e y))∧us.toArray.any e=b:=by
 refine⟨fun y=>decide (∃w v,Rep X.K H w v∧RelV v y∧eqF S 59 w wx=some true),?_,?_⟩
 ·have go:∀{ws:List W}{vs:List V}{us:List Value}{b:Bool},Reps X.K H ws vs→Vals vs us→inF S wx ws=some b→ ∀y∈us,SeqAt.EqAt A.in1 s y u (decide (∃w v,Rep X.K H w v∧RelV v y∧eqF S 59 w wx=some true)):=by
   intro ws
   induction ws with
   |nil=>intro vs us b r rv h y hy;cases r;cases rv;cases hy
   |cons w ws ih=>
    intro vs us b r rv h y hy;cases r with
    |cons r1 r2=>
     cases rv with
     |cons q1 q2=>
      unfold inF at h;split at h
      ·rename_i c e1;split at h
       ·rename_i d e2;rcases List.mem_cons.mp hy with rfl |hy
        ·have ok:=(zke I hS 59 (A:=A.in1) (by rw [ziz];omega) r1 rx q1 ru e1).1;have ec:c=decide (∃w v,Rep X.K H w v∧RelV v y∧eqF S 59 w wx=some true):=by
          cases c with
          |true=>exact(decide_eq_true ⟨w,_,r1,q1,e1⟩).symm
          |false=>
           symm;refine decide_eq_false fun⟨w',v',r',q',e'⟩=>?_;have:=RelV.inj q' q1;subst this;exact absurd (zjc I hS 59 r1 r' e1 e') (by simp)
         rw [←ec];exact ok
        ·exact ih r2 q2 e2 y hy
       ·cases h
      ·cases h
  intro y hy;exact go r rv h y (by simpa using hy)
 ·have go:∀{ws:List W}{vs:List V}{us:List Value}{b:Bool},Reps X.K H ws vs→Vals vs us→inF S wx ws=some b→us.any (fun y=>decide (∃w v,Rep X.K H w v∧RelV v y∧eqF S 59 w wx=some true))=b:=by
   intro ws
   induction ws with
   |nil=>intro vs us b r rv h;cases r;cases rv;exact Option.some.inj h
   |cons w ws ih=>
    intro vs us b r rv h;cases r with
    |cons r1 r2=>
     cases rv with
     | @cons _ _ _ _ q1 q2=>
      rename_i y _;unfold inF at h;split at h
      ·rename_i c e1;split at h
       ·rename_i d e2;have ec:decide (∃w v,Rep X.K H w v∧RelV v y∧eqF S 59 w wx=some true)=c:=by
          cases c with
          |true=>exact decide_eq_true ⟨w,_,r1,q1,e1⟩
          |false=>
           refine decide_eq_false fun⟨w',v',r',q',e'⟩=>?_;have:=RelV.inj q' q1;subst this;exact absurd (zjc I hS 59 r1 r' e1 e') (by simp)
        rw [List.any_cons,ih r2 q2 e2,ec];exact Option.some.inj h
       ·cases h
      ·cases h
  have:=go r rv h;simpa using this
end
noncomputable def oIn (neg:Bool):W2:=fun x y S Q=>match y with
 | .str j=>match x with
  | .str i=>Q (.bl (if neg then !(!(Builtin.Str.occurrences j i 0 j.length 1).isEmpty) else !(Builtin.Str.occurrences j i 0 j.length 1).isEmpty)) S
  |_=>False
 | .tup ws=>match inF S x ws with
  |some b=>Q (.bl (if neg then !b else b)) S
  |none=>False
 | .ref a=>zbN S a fun ws=>match inF S x ws with
  |some b=>Q (.bl (if neg then !b else b)) S
  |none=>False
 |_=>False
noncomputable def zvu (K:PySem.W.Frag) (neg:Bool):R2:=fun x y H Q=>∃wx ws vs S p b,y= .ref p∧(SqL K H p vs∨SqT K H p vs)∧Reps K H ws vs∧Rep K H wx x∧RepS K H S∧inF S wx ws=some b∧Q (.bl (if neg then !b else b)) H
section
variable {X:Cx}{a b:Expr}{pos:Pos}{ta tb:WE}
theorem zpC (hu:X.A.units+60<cLine):OpR X (compareOp .In) (zvu X.K false):=by
 intro pins s σ H x y v u Q I rx ry h;obtain⟨wx,ws,vs,S,p,b,rfl,hq,rs,r,hS,e,q⟩:=h;cases ry;rcases hq with hq |hq
 ·obtain⟨its,rv,p,_⟩:=I.list hq;obtain⟨f,h1,h2⟩:=zky I hS hu rs rv r rx e;exact SeqAt.in_listAt f p.isList h1 (by rw [h2];exact⟨.bl b,H,I,rfl,q⟩)
 ·obtain⟨its,rv,p,_⟩:=I.tuple hq;obtain⟨f,h1,h2⟩:=zky I hS hu rs rv r rx e;exact SeqAt.in_tupleAt f p h1 (by rw [h2];exact⟨.bl b,H,I,rfl,q⟩)
theorem zmm (hu:X.A.units+60<cLine):OpR X (compareOp .NotIn) (zvu X.K true):=by
 intro pins s σ H x y v u Q I rx ry h;obtain⟨wx,ws,vs,S,p,b,rfl,hq,rs,r,hS,e,q⟩:=h;cases ry;rcases hq with hq |hq
 ·obtain⟨its,rv,p,_⟩:=I.list hq;obtain⟨f,h1,h2⟩:=zky I hS hu rs rv r rx e;exact SeqAt.notIn_listAt f p.isList h1 (by rw [h2];exact⟨.bl (!b),H,I,rfl,q⟩)
 ·obtain⟨its,rv,p,_⟩:=I.tuple hq;obtain⟨f,h1,h2⟩:=zky I hS hu rs rv r rx e;exact SeqAt.notIn_tupleAt f p h1 (by rw [h2];exact⟨.bl (!b),H,I,rfl,q⟩)
theorem zeK{K:PySem.W.Frag}{neg:Bool}{H:Hp}{x y:V}{wx wy:W}{S:Sto}{Q:VK}{QW:WK}(rx:Rep K H wx x) (ry:Rep K H wy y) (hS:RepS K H S) (h:oIn neg wx wy S QW) (hQ:Wish K H S QW Q) :
  (∃i j,x= .str i∧y= .str j∧Q (.bl (if neg then !(!(Builtin.Str.occurrences j i 0 j.length 1).isEmpty) else !(Builtin.Str.occurrences j i 0 j.length 1).isEmpty)) H)∨zvu K neg x y H Q:=by
 cases ry with
 |str j=>
  cases rx with
  |str i=>exact .inl ⟨i,j,rfl,rfl,hQ _ S _ H .refl (.bl _) hS h⟩
  |_=>exact h.elim
 |tup f hs=>
  refine .inr ?_;unfold oIn at h;dsimp only at h;split at h
  ·exact⟨wx,_,_,S,_,_,rfl, .inr (.of f),hs,rx,hS, ‹_›,hQ _ S _ H .refl (.bl _) hS h⟩
  ·exact h.elim
 |ref a=>
  refine .inr ?_;obtain⟨ws,e,h⟩:=zaS h;obtain⟨vs,f,hs⟩:=hS a _ e;split at h
  ·exact⟨wx,_,_,S,_,_,rfl, .inl (.of f),hs,rx,hS, ‹_›,hQ _ S _ H .refl (.bl _) hS h⟩
  ·exact h.elim
 |_=>exact h.elim
theorem zrA{k:Nat}(hr:Room k X.A) (ha:JE X a ta) (hb:JE X b tb) (hm:behindInMarks .In b=false:=by with_unfolding_all rfl):JE X (.Compare a [.In] [b] pos) (wOp (oIn false) ta tb):=
 zjK (op_in_str.or (zpC (by have:=hr.units;omega))) (fun H x y wx wy S Q QW rx ry hS h hQ=>zeK rx ry hS h hQ) ha hb hm
theorem zve{k:Nat}(hr:Room k X.A) (ha:JE X a ta) (hb:JE X b tb) (hm:behindInMarks .In b=false:=by with_unfolding_all rfl):JT X (.Compare a [.In] [b] pos) (wTb (wOp (oIn false) ta tb)):=
 zez (op_in_str.or (zpC (by have:=hr.units;omega))) (fun H x y wx wy S Q QW rx ry hS h hQ=>zeK rx ry hS h hQ) ha hb hm
theorem zpk{k:Nat}(hr:Room k X.A) (ha:JE X a ta) (hb:JE X b tb) (hm:behindInMarks .NotIn b=false:=by with_unfolding_all rfl):JT X (.Compare a [.NotIn] [b] pos) (wTb (wOp (oIn true) ta tb)):=
 zez (op_notin_str.or (zmm (by have:=hr.units;omega))) (fun H x y wx wy S Q QW rx ry hS h hQ=>zeK rx ry hS h hQ) ha hb hm
end
noncomputable def oIx:W2:=fun x y S Q=>match y with
 | .int i=>match x with
  | .tup ws=>match atI ws i with
   |some w=>Q w S
   |none=>False
  | .ref a=>zbN S a fun ws=>match atI ws i with
   |some w=>Q w S
   |none=>False
  | .scr ns=>match atI ns i with
   |some n=>Q (.int n) S
   |none=>False
  | .str x=>x.length≤sizeLine∧match atI x.cps.toList i with
   |some c=>Q (.str ⟨#[c]⟩) S
   |none=>False
  |_=>False
 |_=>False
theorem ziQ{K:PySem.W.Frag}{H:Hp}{ws:List W}{vs:List V}{i:Int}{w:W}(r:Reps K H ws vs) (e:atI ws i=some w):∃v,atI vs i=some v∧Rep K H w v:=by
 unfold atI at e⊢;rw [←r.length];cases q:ixN ws.length i with
 |none=>rw [q]at e;cases e
 |some j=>rw [q]at e;exact r.get e
theorem zrz{α β:Type}{f:α→β}{xs:List α}{i:Int}{x:α}(e:atI xs i=some x):atI (xs.map f) i=some (f x):=by
 unfold atI at e⊢;rw [List.length_map];cases q:ixN xs.length i with
 |none=>rw [q]at e;cases e
 |some j=>
  rw [q]at e;show(xs.map f)[j]? =_;rw [List.getElem?_map,show xs[j]? =some x from e];rfl
theorem zsc{K:PySem.W.Frag}:OpW K (rIx K) oIx:=fun H x y wx wy S Q QW rx ry hS h hQ=>by
 cases ry with
 |int i=>
  cases rx with
  |tup f hs=>
   unfold oIx at h;dsimp only at h;split at h
   ·obtain⟨v,ev,r⟩:=ziQ hs ‹_›;exact .inr (.inl ⟨_,_,i,v,rfl,rfl, .of f,ev,hQ _ S _ H .refl r hS h⟩)
   ·exact h.elim
  |ref a=>
   obtain⟨ws,e,h⟩:=zaS h;obtain⟨vs,f,hs⟩:=hS a _ e;split at h
   ·obtain⟨v,ev,r⟩:=ziQ hs ‹_›;exact .inl ⟨_,_,i,v,rfl,rfl, .of f,ev,hQ _ S _ H .refl r hS h⟩
   ·exact h.elim
  |scr f=>
   unfold oIx at h;dsimp only at h;split at h
   ·exact .inl ⟨_,_,i,_,rfl,rfl,f.sq,zrz ‹_›,hQ _ S _ H .refl (.int _) hS h⟩
   ·exact h.elim
  |str z=>
   unfold oIx at h;dsimp only at h;obtain⟨hz,h⟩:=h;split at h
   ·exact .inr (.inr ⟨z,i,_,rfl,rfl,hz, ‹_›,hQ _ S _ H .refl (.str _) hS h⟩)
   ·exact h.elim
  |_=>exact h.elim
 |_=>exact h.elim
section
variable {X:Cx}{a b e:Expr}{pos p2:Pos}{ta tb te:WE}{lo hi:Option Expr}
theorem zaD (ha:JE X a ta) (hb:JE X b tb) (hs:zjv b:=by intro _ _;rfl):JE X (.Subscript a b pos) (wOp oIx ta tb):=fun E hE=>
 (zsR zpw (ha E hE) (hb E hE) hs).mono fun σ H Q h=>zeA h fun H2 x y wx wy S QW rx ry hS q hQ=>zsc H2 x y wx wy S Q QW rx ry hS q hQ
noncomputable abbrev WO:=WX→WSt→Sto→(Option Int→Sto→Prop)→Prop
noncomputable def zwi (K:PySem.W.Frag) (t:WSt→Sto→(Option Int→Sto→Prop)→Prop):TO:=fun σ H Q=>∃σW S QW,RpSt K H σW σ∧RepS K H S∧t σW S QW∧ ∀b S' H',Ext H S H' S'→RepS K H' S'→QW b S'→Q b H'
noncomputable def JO (X:Cx) (e:Option Expr) (t:WO):Prop:=∀E,Hook X E→PO X e (zwi X.K (t E))
noncomputable def woN:WO:=fun _ _ S Q=>Q none S
noncomputable def woS (t:WE):WO:=fun E σ S Q=>t E σ S fun w S1=>match w with
 | .int i=>Q (some i) S1
 |_=>False
theorem PO.mono{X:Cx}{e:Option Expr}{t t':TO}(h:PO X e t) (q:∀σ H Q,t' σ H Q→t σ H Q):PO X e t':=fun pins s σ H Q I z=>h pins s σ H Q I (q σ H Q z)
theorem zbd:JO X none woN:=fun E hE=>po_none.mono fun σ H Q ⟨σW,S,QW,hσ,hS,ht,hQ⟩=>hQ none S H .refl hS ht
theorem zbc (h:JE X e te):JO X (some e) (woS te):=fun E hE=>(zqq (h E hE)).mono fun σ H Q ⟨σW,S,QW,hσ,hS,ht,hQ⟩=>⟨σW,S,_,hσ,hS,ht,fun w S1 v H1 e1 r1 hS1 h1=>by
 cases r1 with
 |int i=>exact⟨i,rfl,hQ _ S1 H1 e1 hS1 h1⟩
 |_=>exact h1.elim⟩
noncomputable def zdR {α:Type}(xs:List α) (lo hi:Option Int):List α:=(xs.drop (HT.sIx xs.length 0 lo)).take (HT.sIx xs.length xs.length hi - HT.sIx xs.length 0 lo)
theorem zgK{K:PySem.W.Frag}{H:Hp}{ws:List W}{vs:List V}{lo hi:Option Int}(r:Reps K H ws vs):Reps K H (zdR ws lo hi) (znb vs lo hi):=by
 unfold zdR znb;rw [r.length];exact(r.drop _).take _
theorem zjQ{α β:Type}{f:α→β}{xs:List α}{lo hi:Option Int}:zdR (xs.map f) lo hi=(zdR xs lo hi).map f:=by
 unfold zdR;rw [List.length_map,List.map_take,List.map_drop]
theorem zej{prog:Program}{w:World}{A:Around}{E:Value→Shared→Prop}{s:Shared}{t sl:Addr}{items:Array Value}{vl vu:Value}{lo hi:Option Int}{Q:Value→Shared→Prop}(ht:IsTup s.heap t items) (hs:s.heap.IsSliceOf sl vl vu .none) (pl:IsPart vl lo) (pu:IsPart vu hi)
  (hw:HT.sIx items.size 0 lo=0∧HT.sIx items.size items.size hi=items.size) (h:Q (.ref t) s):wpAny (model prog w) A (getItem (.ref t) (.ref sl)) Q E s:=by
 obtain⟨os,hos,hcs,hds⟩:=id hs;have hTs:s.TypeIs (.ref sl) "slice" :=⟨os,hos,hcs⟩;unfold getItem
 try with_reducible refine wpAny_holding ?_
 first |refine wpAny_bind (wpAny_pure ?_) |skip
 refine wpAny_bind (wpAny_sequenceKey ht.typeIs (by decide) ?_);refine wpAny_bind (wpAny_callSpecial?_slot (name:=Str.ofString "__getitem__") ht.typeIs PyProof.Rows.slot_tuple_getitem
  (wpAny_call_entry PyProof.Rows.slot_tuple_getitem ht.typeIs entry_tuple_getitem ?_ (args_tuple_getitem _ _)))
 show wpAny _ _ (Builtin.Tuple.tupleItemsOf (.ref t) >>= _) _ _ s;refine wpAny_bind (tupleItemsOf_ ht ?_);refine wpAny_bind (wpAny_typeOf hTs ?_);rw [if_pos (by decide)];refine wpAny_bind (HT.sliceApplied_gen hs pl pu ?_);show wpAny _ _ (if(((HT.sIx items.size 0 lo:Nat):Int) == 0&&(1:Int) == 1&&(HT.sIx items.size items.size hi - HT.sIx items.size 0 lo) == items.size)=true then _ else _) _ _ s;rw [hw.1,hw.2,if_pos (by simp)];unfold Builtin.Tuple.tupleIsExact;refine wpAny_bind (wpAny_bind (wpAny_typeOf ht.typeIs (wpAny_pure ?_)));rw [if_pos (by decide)];exact wpAny_bind (wpAny_rule (wpAny_pure ⟨_,rfl,wpAny_pure h⟩))
theorem sl_tupW:SlR X (fun x lo hi H Q=>∃a xs,x= .ref a∧SqT X.K H a xs∧((HT.sIx xs.length 0 lo=0∧HT.sIx xs.length xs.length hi=xs.length)∧Q (.ref a) H∨ ¬(HT.sIx xs.length 0 lo=0∧HT.sIx xs.length xs.length hi=xs.length)∧ ∀p,H p=none→Q (.ref p) (upd H p (.tup (znb xs lo hi))))):=by
 intro pins s σ H x v vl vu lo hi sl Q I rx hs pl pu h;obtain⟨a,xs,rfl,hx,⟨hw,q⟩ |⟨hw,q⟩⟩:=h
 ·cases rx;obtain⟨its,r,ht,hz⟩:=I.tuple hx;have hlen:its.toArray.size=xs.length:=by rw [List.size_toArray];exact r.length.symm
  refine⟨"tuple",_,PyProof.Rows.slot_tuple_getitem.lookup,ht.typeIs,?_⟩;exact zej ht hs pl pu (by rw [hlen];exact hw) ⟨.ref a,H,I,rfl,q⟩
 ·exact zuz pins s σ H _ v vl vu lo hi sl Q I rx hs pl pu ⟨a,xs,rfl,hx,hw,q⟩
noncomputable def oSl:W→Option Int→Option Int→Sto→WK→Prop
 | .tup ws,lo,hi,S,Q=>Q (.tup (zdR ws lo hi)) S
 | .str z,lo,hi,S,Q=>z.length≤sizeLine∧Q (.str (Txt.slice z lo hi)) S
 | .ref a,lo,hi,S,Q=>zbN S a fun ws=>∀p,S p=none→Q (.ref p) (put S p (.lst (zdR ws lo hi)))
 | .scr ns,lo,hi,S,Q=>∀p,S p=none→Q (.ref p) (put S p (.lst ((zdR ns lo hi).map W.int)))
 |_,_,_,_,_=>False
noncomputable def wSl (t:WE) (l h:WO):WE:=fun E σ S Q=>t E σ S fun x S1=>l E σ S1 fun lo S2=>h E σ S2 fun hi S3=>oSl x lo hi S3 Q
theorem zkB{α:Type}{xs:List α}{lo hi:Option Int}(h:HT.sIx xs.length 0 lo=0∧HT.sIx xs.length xs.length hi=xs.length):zdR xs lo hi=xs:=by
 unfold zdR;rw [h.1,h.2,List.drop_zero,Nat.sub_zero,List.take_length]
theorem zdV{tl th:WO}(he:JE X e te) (hl:JO X lo tl) (hh:JO X hi th):JE X (.Subscript e (.Slice lo hi none p2) pos) (wSl te tl th):=fun E hE=>
 (zjJ (sl_tupW.or (sl_str.or zlx)) (he E hE) (hl E hE) (hh E hE)).mono fun σ H Q ⟨σW,S,QW,hσ,hS,ht,hQ⟩=>
  ⟨σW,S,_,hσ,hS,ht,fun w S1 v H1 e1 r1 hS1 h1=>⟨σW,S1,_,hσ.ext e1,hS1,h1,fun lo S2 H2 e2 hS2 h2=>⟨σW,S2,_,(hσ.ext e1).ext e2,hS2,h2,fun hi S3 H3 e3 hS3 h3=>by
   have hQ':=hQ.from (e1.trans (e2.trans e3));have r3:=(r1.ext e2).ext e3;cases r3 with
   | @tup a vs ws f hs=>
    refine .inl ⟨a,vs,rfl, .of f,?_⟩;by_cases hw:HT.sIx vs.length 0 lo=0∧HT.sIx vs.length vs.length hi=vs.length
    ·refine .inl ⟨hw,hQ' (.tup ws) S3 _ H3 .refl (.tup f hs) hS3 ?_⟩;have:=zkB (xs:=ws) (lo:=lo) (hi:=hi) (by rw [hs.length];exact hw);have h3':QW (.tup (zdR ws lo hi)) S3:=h3;rw [this]at h3';exact h3'
    ·exact .inr ⟨hw,fun p hp=>hQ' _ S3 _ _ (.new hp) (.tup zat ((zgK hs).ext (.new (S:=S3) hp))) (hS3.new hp) h3⟩
   |str z=>exact .inr (.inl ⟨z,rfl,h3.1,hQ' _ S3 _ H3 .refl (.str _) hS3 h3.2⟩)
   |ref a=>
    obtain⟨ws,ea,h⟩:=zaS h3;obtain⟨vs,f,hs⟩:=hS3 a _ ea;exact .inr (.inr ⟨a,vs,rfl, .of f,fun p hp=>hQ' _ _ _ _ (.newS hp) (.ref p) (hS3.put_lst hp ((zgK hs).ext (.new (S:=S3) hp))) (h p (hS3.free hp))⟩)
   | @scr a ns f=>
    refine .inr (.inr ⟨a,_,rfl,f.sq,fun p hp=>hQ' _ _ _ _ (.newS hp) (.ref p) (hS3.put_lst hp ?_) (h3 p (hS3.free hp))⟩);have q:znb (ns.map V.int) lo hi=(zdR ns lo hi).map V.int:=zjQ;rw [q];exact Reps.ofInts _
   |_=>exact h3.elim⟩⟩⟩
noncomputable def zuB (t:WE) (l h:WO):WL:=fun E σ S Q=>t E σ S fun x S1=>l E σ S1 fun lo S2=>h E σ S2 fun hi S3=>match x with
 | .ref a=>zbN S3 a fun ws=>Q (zdR ws lo hi) S3
 | .scr ns=>Q ((zdR ns lo hi).map W.int) S3
 |_=>False
theorem zro{tl th:WO}(he:JE X e te) (hl:JO X lo tl) (hh:JO X hi th):JL X (.Subscript e (.Slice lo hi none p2) pos) (zuB te tl th):=fun E hE=>
 (zjJ zlx (he E hE) (hl E hE) (hh E hE)).mono fun σ H Q ⟨σW,S,QW,hσ,hS,ht,hQ⟩=>
  ⟨σW,S,_,hσ,hS,ht,fun w S1 v H1 e1 r1 hS1 h1=>⟨σW,S1,_,hσ.ext e1,hS1,h1,fun lo S2 H2 e2 hS2 h2=>⟨σW,S2,_,(hσ.ext e1).ext e2,hS2,h2,fun hi S3 H3 e3 hS3 h3=>by
   have e':=e1.trans (e2.trans e3);have r3:=(r1.ext e2).ext e3;cases r3 with
   |ref a=>
    obtain⟨ws,ea,h⟩:=zaS h3;obtain⟨vs,f,hs⟩:=hS3 a _ ea;exact⟨a,vs,rfl, .of f,fun p hp=>hQ _ S3 _ p _ (e'.trans (.new hp)) (e'.free hp) zat (hS3.free hp) ((zgK hs).ext (.new (S:=S3) hp)) (hS3.new hp) h⟩
   | @scr a ns f=>
    refine⟨a,_,rfl,f.sq,fun p hp=>hQ _ S3 _ p _ (e'.trans (.new hp)) (e'.free hp) zat (hS3.free hp) ?_ (hS3.new hp) h3⟩;have q:znb (ns.map V.int) lo hi=(zdR ns lo hi).map V.int:=zjQ;rw [q];exact Reps.ofInts _
   |_=>exact h3.elim⟩⟩⟩
end
noncomputable abbrev WF:=List W→Sto→WK→Prop
noncomputable def wB (f:WF) (t:WA):WE:=fun E σ S Q=>t E σ S fun ws S1=>f ws S1 Q
noncomputable def zhS (K:PySem.W.Frag) (r:List V→Hp→VK→Prop) (f:WF):Prop:=∀H vs ws S (Q:VK) (QW:WK),Reps K H ws vs→RepS K H S→f ws S QW→Wish K H S QW Q→r vs H Q
noncomputable def wBL (f:WF) (t:WL):WE:=fun E σ S Q=>t E σ S fun ws S1=>f ws S1 Q
noncomputable def zow (K:PySem.W.Frag) (r:List V→Hp→VK→Prop) (f:WF):Prop:=∀H a vs ws S (Q:VK) (QW:WK),H a=some (.lst vs)→S a=none→Reps K H ws vs→RepS K H S→f ws S QW→Wish K H S QW Q→r [.ref a] H Q
section
variable {X:Cx}{x:Str}{p pos:Pos}{e:Expr}{es:List Expr}{t:WA}{tl:WL}{id T:String}{r:List V→Hp→VK→Prop}{f:WF}
theorem zpX (hc:CallR X (.builtin id) r) (hw:zhS X.K r f) (hg:Gl X x) (hm:X.mg x=none) (hv:bootBuiltins x=some (.builtin id)) (ha:JA X (e::es) t) (hn:x≠ "__name__" :=by decide) (hdb:(x == ("__debug__" :Str))=false:=by decide)
  (he:starEach (e::es) X.env=(false,eval e X.env)::starEach es X.env:=by rfl) (hpl:(backTo pos (starEach es X.env)).any (·.1)=false:=by rfl):JE X (.Call (.Name x p) (e::es) [] pos) (wB f t):=fun E hE=>
 (zex hc hg hm hv (ha E hE) hn hdb he hpl).mono fun σ H Q ⟨σW,S,QW,hσ,hS,ht,hQ⟩=>⟨σW,S,_,hσ,hS,ht,fun ws S1 vs H1 e1 r1 hS1 h1=>hw H1 vs ws S1 Q QW r1 hS1 h1 (hQ.from e1)⟩
theorem zty (hc:CallR X (.type T) r) (hw:zhS X.K r f) (hg:Gl X x) (hm:X.mg x=none) (hv:bootBuiltins x=some (.type T)) (ha:JA X (e::es) t) (hn:x≠ "__name__" :=by decide) (hdb:(x == ("__debug__" :Str))=false:=by decide)
  (he:starEach (e::es) X.env=(false,eval e X.env)::starEach es X.env:=by rfl) (hpl:(backTo pos (starEach es X.env)).any (·.1)=false:=by rfl):JE X (.Call (.Name x p) (e::es) [] pos) (wB f t):=fun E hE=>
 (zfy hc hg hm hv (ha E hE) hn hdb he hpl).mono fun σ H Q ⟨σW,S,QW,hσ,hS,ht,hQ⟩=>⟨σW,S,_,hσ,hS,ht,fun ws S1 vs H1 e1 r1 hS1 h1=>hw H1 vs ws S1 Q QW r1 hS1 h1 (hQ.from e1)⟩
theorem zqr (hc:CallR X (.builtin id) r) (hw:zow X.K r f) (hg:Gl X x) (hm:X.mg x=none) (hv:bootBuiltins x=some (.builtin id)) (ha:JL X e tl) (hn:x≠ "__name__" :=by decide) (hdb:(x == ("__debug__" :Str))=false:=by decide)
  (he:starEach [e] X.env=(false,eval e X.env)::starEach [] X.env:=by rfl) (hpl:(backTo pos (starEach [] X.env)).any (·.1)=false:=by rfl):JE X (.Call (.Name x p) [e] [] pos) (wBL f tl):=fun E hE=>
 (zex hc hg hm hv (zbu (ha E hE) pa_nil he) hn hdb he hpl).mono fun σ H Q ⟨σW,S,QW,hσ,hS,ht,hQ⟩=>⟨σW,S,_,hσ,hS,ht,fun ws S1 vs a H1 e1 fa ea na r1 hS1 h1=>hw H1 a vs ws S1 Q QW ea na r1 hS1 h1 (hQ.from e1)⟩
theorem zsp (hc:CallR X (.type T) r) (hw:zow X.K r f) (hg:Gl X x) (hm:X.mg x=none) (hv:bootBuiltins x=some (.type T)) (ha:JL X e tl) (hn:x≠ "__name__" :=by decide) (hdb:(x == ("__debug__" :Str))=false:=by decide)
  (he:starEach [e] X.env=(false,eval e X.env)::starEach [] X.env:=by rfl) (hpl:(backTo pos (starEach [] X.env)).any (·.1)=false:=by rfl):JE X (.Call (.Name x p) [e] [] pos) (wBL f tl):=fun E hE=>
 (zfy hc hg hm hv (zbu (ha E hE) pa_nil he) hn hdb he hpl).mono fun σ H Q ⟨σW,S,QW,hσ,hS,ht,hQ⟩=>⟨σW,S,_,hσ,hS,ht,fun ws S1 vs a H1 e1 fa ea na r1 hS1 h1=>hw H1 a vs ws S1 Q QW ea na r1 hS1 h1 (hQ.from e1)⟩
noncomputable def zco:WF:=fun ws S Q=>match ws with
 | [.tup us]=>Q (.int us.length) S
 | [.ref a]=>zbN S a fun us=>Q (.int us.length) S
 | [.scr ns]=>Q (.int ns.length) S
 | [.str z]=>z.length≤sizeLine∧Q (.int z.length) S
 |_=>False
theorem zlF{K:PySem.W.Frag}:zhS K (fun xs H Q=>(∃p ys,xs=[.ref p]∧(SqL K H p ys∨SqT K H p ys)∧Q (.int ys.length) H)∨ ∃z,xs=[.str z]∧z.length≤sizeLine∧Q (.int z.length) H) zco:=fun H vs ws S Q QW r hS h hQ=>by
 cases r with
 |nil=>exact h.elim
 |cons r1 r2=>
  cases r2 with
  |cons _ _=>cases r1<;>exact h.elim
  |nil=>
   cases r1 with
   |tup f hs=>exact .inl ⟨_,_,rfl, .inr (.of f),by rw [←hs.length];exact hQ _ S _ H .refl (.int _) hS h⟩
   |ref a=>
    obtain⟨us,e,h⟩:=zaS h;obtain⟨vs,f,hs⟩:=hS a _ e;exact .inl ⟨_,_,rfl, .inl (.of f),by rw [←hs.length];exact hQ _ S _ H .refl (.int _) hS h⟩
   |scr f=>exact .inl ⟨_,_,rfl, .inl f.sq,by rw [List.length_map];exact hQ _ S _ H .refl (.int _) hS h⟩
   |str z=>exact .inr ⟨z,rfl,h.1,hQ _ S _ H .refl (.int _) hS h.2⟩
   |_=>exact h.elim
theorem zaC (hg:Gl X "len") (hm:X.mg "len" =none) (ha:JA X (e::es) t) 
  (he:starEach (e::es) X.env=(false,eval e X.env)::starEach es X.env:=by rfl) (hpl:(backTo pos (starEach es X.env)).any (·.1)=false:=by rfl):JE X (.Call (.Name "len" p) (e::es) [] pos) (wB zco t):=
 zpX (call_len_seq.or zii) zlF hg hm PySem.boot_len ha (by decide) (by decide) he hpl
noncomputable def zhy:WF:=fun ws S Q=>match ws with
 | [.tup us]=>Q (.tup us) S
 | [.ref a]=>zbN S a fun us=>Q (.tup us) S
 |_=>False
theorem zje{K:PySem.W.Frag}:zhS K (fun xs H Q=>∃p ys,xs=[.ref p]∧((SqL K H p ys∧ ∀l,H l=none→Q (.ref l) (upd H l (.tup ys)))∨(SqT K H p ys∧Q (.ref p) H))) zhy:=fun H vs ws S Q QW r hS h hQ=>by
 cases r with
 |nil=>exact h.elim
 |cons r1 r2=>
  cases r2 with
  |cons _ _=>cases r1<;>exact h.elim
  |nil=>
   cases r1 with
   |tup f hs=>exact⟨_,_,rfl, .inr ⟨.of f,hQ _ S _ H .refl (.tup f hs) hS h⟩⟩
   |ref a=>
    obtain⟨us,e,h⟩:=zaS h;obtain⟨vs,f,hs⟩:=hS a _ e;exact⟨_,_,rfl, .inl ⟨.of f,fun l hl=>hQ _ S _ _ (.new hl) (.tup zat (hs.ext (.new (S:=S) hl))) (hS.new hl) h⟩⟩
   |_=>exact h.elim
noncomputable def zfx:WF:=fun ws S Q=>Q (.tup ws) S
theorem ziJ{K:PySem.W.Frag}:zow K (fun xs H Q=>∃p ys,xs=[.ref p]∧((SqL K H p ys∧ ∀l,H l=none→Q (.ref l) (upd H l (.tup ys)))∨(SqT K H p ys∧Q (.ref p) H))) zfx:=fun H a vs ws S Q QW ea na r hS h hQ=>
 ⟨a,vs,rfl, .inl ⟨.of ea,fun l hl=>hQ _ S _ _ (.new hl) (.tup zat (r.ext (.new (S:=S) hl))) (hS.new hl) h⟩⟩
noncomputable def zgD (t:WE):WL:=fun E σ S Q=>t E σ S fun w S1=>match w with
 | .tup ws=>Q ws S1
 | .ref a=>zbN S1 a fun ws=>Q ws S1
 | .scr ns=>Q (ns.map W.int) S1
 |_=>False
theorem zmL{te:WE}(hg:Gl X "list") (hm:X.mg "list" =none) (ha:JE X e te)
  (he:starEach [e] X.env=(false,eval e X.env)::starEach [] X.env:=by rfl) (hpl:(backTo pos (starEach [] X.env)).any (·.1)=false:=by rfl):JL X (.Call (.Name "list" p) [e] [] pos) (zgD te):=fun E hE=>
 (zfy zhv hg hm PyProof.Rows.boot_list (zbu (ha E hE) pa_nil he) (by decide) (by decide) he hpl).mono fun σ H Q ⟨σW,S,QW,hσ,hS,ht,hQ⟩=>⟨σW,S,_,hσ,hS,ht,fun w S1 v H1 e1 r1 hS1 h1=>by
  cases r1 with
  |tup f hs=>exact⟨_,_,rfl, .inr (.of f),fun l hl=>hQ _ S1 _ l _ (e1.trans (.new hl)) (e1.free hl) zat (hS1.free hl) (hs.ext (.new (S:=S1) hl)) (hS1.new hl) h1⟩
  |ref a=>
   obtain⟨ws,ea,h⟩:=zaS h1;obtain⟨vs,f,hs⟩:=hS1 a _ ea;exact⟨_,_,rfl, .inl (.of f),fun l hl=>hQ _ S1 _ l _ (e1.trans (.new hl)) (e1.free hl) zat (hS1.free hl) (hs.ext (.new (S:=S1) hl)) (hS1.new hl) h⟩
  |scr f=>exact⟨_,_,rfl, .inl f.sq,fun l hl=>hQ _ S1 _ l _ (e1.trans (.new hl)) (e1.free hl) zat (hS1.free hl) (Reps.ofInts _) (hS1.new hl) h1⟩
  |_=>exact h1.elim⟩
noncomputable def zfe:List W→Option (List Bool)
 | []=>some []
 | .bl b::ws=>(zfe ws).map (b:: ·)
 |_=>none
theorem zlq{K:PySem.W.Frag}{H:Hp}:∀{ws:List W}{vs:List V}{bs:List Bool},Reps K H ws vs→zfe ws=some bs→vs=bs.map V.bl
 | [],_,_, .nil,e=>by have:=Option.some.inj e;subst this;rfl
 |w::ws,_,_, .cons r rs,e=>by
  cases r with
  |bl b=>
   have e':(zfe ws).map (b:: ·)=some _:=e;cases q:zfe ws with
   |none=>rw [q]at e';cases e'
   |some cs=>
    rw [q]at e';have:=Option.some.inj e';subst this;rw [List.map_cons,zlq rs q]
  |_=>cases e
noncomputable def zfu:WF:=fun ws S Q=>match zfe ws with
 |some bs=>Q (.bl (bs.all _root_.id)) S
 |none=>False
theorem zlT{K:PySem.W.Frag}:zow K (fun xs H Q=>∃(p:Addr) (bs:List Bool),xs=[.ref p]∧SqL K H p (bs.map V.bl)∧Q (.bl (bs.all _root_.id)) H) zfu:=fun H a vs ws S Q QW ea na r hS h hQ=>by
 unfold zfu at h;split at h
 ·rename_i bs e;have:=zlq r e;subst this;exact⟨a,bs,rfl, .of ea,hQ _ S _ H .refl (.bl _) hS h⟩
 ·exact h.elim
noncomputable def tyW:W→Sto→(String→Prop)→Prop
 | .non,_,Q=>Q "NoneType"
 | .bl _,_,Q=>Q "bool"
 | .int _,_,Q=>Q "int"
 | .str _,_,Q=>Q "str"
 | .tup _,_,Q=>Q "tuple"
 | .ref a,S,Q=>zbN S a fun _=>Q "list"
 | .scr _,_,_=>False
noncomputable def zbH (A B:String):Bool:=A == B || (A == "bool" &&B == "int")
noncomputable def zeQ (T:String) (t:WE):WE:=fun E σ S Q=>t E σ S fun w S1=>tyW w S1 fun A=>Q (.bl (zbH A T)) S1
theorem zbg{a:Expr}{ta:WE}{p2:Pos}{T:Str}{T':String}(hg:Gl X "isinstance") (hm:X.mg "isinstance" =none) (hgT:Gl X T) (hmT:X.mg T=none) (hv:bootBuiltins T=some (.type T')) (ha:JE X a ta) (hn:T≠ "__name__") (hd:(T == ("__debug__" :Str))=false)
  (hk:∀A∈ ["NoneType", "bool", "int", "str", "tuple", "list"],PySem.W.kitOne X.K (.type A) (.type T')=some (zbH A T'))
  (he:starEach [a, .Name T p2] X.env=(false,eval a X.env)::starEach [.Name T p2] X.env:=by rfl) (he2:starEach [.Name T p2] X.env=(false,eval (.Name T p2) X.env)::starEach [] X.env:=by rfl) (hpl:(backTo pos (starEach [.Name T p2] X.env)).any (·.1)=false:=by rfl) :
  JE X (.Call (.Name "isinstance" p) [a, .Name T p2] [] pos) (zeQ T' ta):=fun E hE=>
 (zex zoh hg hm PyProof.Rows.boot_isinstance (zbu (ha E hE) (zbu (znB (v:= .ty T') hgT hmT hv rfl hn hd) pa_nil he2) he) (by decide) (by decide) he hpl).mono fun σ H Q ⟨σW,S,QW,hσ,hS,ht,hQ⟩=>⟨σW,S,_,hσ,hS,ht,fun w S1 v H1 e1 r1 hS1 h1=>by
  have fin:∀{t:Value}(A:String),t= .type A→A∈ ["NoneType", "bool", "int", "str", "tuple", "list"]→TyOf X.K H1 v t→QW (.bl (zbH A T')) S1→ ∃x t c b,[v,V.ty T']=[x, .ty c]∧TyOf X.K H1 x t∧PySem.W.kitOne X.K t (.type c)=some b∧Q (.bl b) H1:=fun A e hA ty q=>by
   subst e;exact⟨v,_,T',_,rfl,ty,hk A hA,hQ _ S1 _ H1 e1 (.bl _) hS1 q⟩
  cases r1 with
  |non=>exact fin _ rfl (by simp) .non h1
  |bl b=>exact fin _ rfl (by simp) (.bl b) h1
  |int i=>exact fin _ rfl (by simp) (.int i) h1
  |str z=>exact fin _ rfl (by simp) (.str z) h1
  |tup f hs=>exact fin _ rfl (by simp) (.tup f) h1
  |ref a=>
   obtain⟨ws,ea,h⟩:=zaS h1;obtain⟨vs,f,hs⟩:=hS1 a _ ea;exact fin _ rfl (by simp) (.lst f) h
  |scr f=>exact h1.elim⟩
end
noncomputable abbrev WMf:=W→List W→Sto→WK→Prop
noncomputable def rvL:W→Sto→Prop
 | .ref a,S=>zbN S a fun _=>True
 |_,_=>False
noncomputable def rvS:W→Sto→Prop
 | .str _,_=>True
 |_,_=>False
noncomputable def wM (rv:W→Sto→Prop) (f:WMf) (to:WE) (t:WA):WE:=fun E σ S Q=>to E σ S fun w S1=>rv w S1∧t E σ S1 fun ws S2=>f w ws S2 Q
noncomputable def wML (rv:W→Sto→Prop) (f:WMf) (to:WE) (t:WL):WE:=fun E σ S Q=>to E σ S fun w S1=>rv w S1∧t E σ S1 fun ws S2=>f w ws S2 Q
noncomputable def MtW (K:PySem.W.Frag) (r:V→List V→Hp→VK→Prop) (f:WMf):Prop:=∀H x w vs ws S (Q:VK) (QW:WK),Rep K H w x→Reps K H ws vs→RepS K H S→f w ws S QW→Wish K H S QW Q→r x vs H Q
noncomputable def MtL (K:PySem.W.Frag) (r:V→List V→Hp→VK→Prop) (f:WMf):Prop:=∀H x w a vs ws S (Q:VK) (QW:WK),Rep K H w x→H a=some (.lst vs)→S a=none→Reps K H ws vs→RepS K H S→f w ws S QW→Wish K H S QW Q→r x [.ref a] H Q
noncomputable def ztV (K:PySem.W.Frag) (T:String) (rv:W→Sto→Prop):Prop:=∀H w v S,Rep K H w v→RepS K H S→rv w S→tyV K T v H
theorem zmR{K:PySem.W.Frag}:ztV K "list" rvL:=fun H w v S r hS h=>by
 cases r with
 |ref a=>
  obtain⟨ws,e,_⟩:=zaS h;obtain⟨vs,f,_⟩:=hS a _ e;exact .inl ⟨rfl,vs, .of f⟩
 |_=>exact h.elim
theorem zpT{K:PySem.W.Frag}:ztV K "str" rvS:=fun H w v S r hS h=>by
 cases r with
 |str x=>exact rfl
 |_=>exact h.elim
section
variable {X:Cx}{o e:Expr}{es:List Expr}{to:WE}{t:WA}{tl:WL}{name:Str}{apos cpos:Pos}{id T:String}{r:V→List V→Hp→VK→Prop}{f:WMf}{rv:W→Sto→Prop}
theorem zwd (pa:PlainAttrs T) (slot:Slot T name id) (hty:typeOf (.builtin id)=pure (.type "method_descriptor")) (hrv:ztV X.K T rv) (hm:MtR X id r) (hw:MtW X.K r f) (ho:JE X o to) (ha:JA X (e::es) t)
  (hbase:attributeBase o name X.env (eval o X.env)=eval o X.env:=by rfl)
  (hfew:((backTo cpos (starEach (e::es) X.env)).all (fun x=> !x.1)&&(backToKw cpos (keywordEach [] X.env)).all (fun x=>x.1.isSome)
   &&decide ((e::es).length+([]:List Keyword).length+(if([]:List Keyword).isEmpty then 0 else 1)<30))=true:=by rfl)
  (hline:(apos.endLine == cpos.line)=true:=by rfl) (hs:starEach (e::es) X.env=(false,eval e X.env)::starEach es X.env:=by rfl) (hplain:(backTo cpos (starEach es X.env)).any (·.1)=false:=by rfl) :
  JE X (.Call (.Attribute o name apos) (e::es) [] cpos) (wM rv f to t):=fun E hE=>
 (zus pa slot hty hm (ho E hE) (ha E hE) hbase hfew hline hs hplain).mono fun σ H Q ⟨σW,S,QW,hσ,hS,ht,hQ⟩=>⟨σW,S,_,hσ,hS,ht,fun w S1 v H1 e1 r1 hS1 h1=>
  ⟨hrv H1 w v S1 r1 hS1 h1.1,σW,S1,_,hσ.ext e1,hS1,h1.2,fun ws S2 vs H2 e2 r2 hS2 h2=>hw H2 v w vs ws S2 Q QW (r1.ext e2) r2 hS2 h2 (hQ.from (e1.trans e2))⟩⟩
theorem zvB (pa:PlainAttrs T) (slot:Slot T name id) (hty:typeOf (.builtin id)=pure (.type "method_descriptor")) (hrv:ztV X.K T rv) (hm:MtR X id r) (hw:MtL X.K r f) (ho:JE X o to) (ha:JL X e tl)
  (hbase:attributeBase o name X.env (eval o X.env)=eval o X.env:=by rfl)
  (hfew:((backTo cpos (starEach [e] X.env)).all (fun x=> !x.1)&&(backToKw cpos (keywordEach [] X.env)).all (fun x=>x.1.isSome)
   &&decide ([e].length+([]:List Keyword).length+(if([]:List Keyword).isEmpty then 0 else 1)<30))=true:=by rfl)
  (hline:(apos.endLine == cpos.line)=true:=by rfl) (hs:starEach [e] X.env=(false,eval e X.env)::starEach [] X.env:=by rfl) (hplain:(backTo cpos (starEach [] X.env)).any (·.1)=false:=by rfl) :
  JE X (.Call (.Attribute o name apos) [e] [] cpos) (wML rv f to tl):=fun E hE=>
 (zus pa slot hty hm (ho E hE) (zbu (ha E hE) pa_nil hs) hbase hfew hline hs hplain).mono fun σ H Q ⟨σW,S,QW,hσ,hS,ht,hQ⟩=>⟨σW,S,_,hσ,hS,ht,fun w S1 v H1 e1 r1 hS1 h1=>
  ⟨hrv H1 w v S1 r1 hS1 h1.1,σW,S1,_,hσ.ext e1,hS1,h1.2,fun ws S2 vs a H2 e2 fa ea na r2 hS2 h2=>hw H2 v w a vs ws S2 Q QW (r1.ext e2) ea na r2 hS2 h2 (hQ.from (e1.trans e2))⟩⟩
theorem zuX (pa:PlainAttrs T) (slot:Slot T name id) (hty:typeOf (.builtin id)=pure (.type "method_descriptor")) (hrv:ztV X.K T rv) (hm:MtR X id r) (hw:MtW X.K r f) (ho:JE X o to)
  (hbase:attributeBase o name X.env (eval o X.env)=eval o X.env:=by rfl) (hline:(apos.endLine == cpos.line)=true:=by rfl):JE X (.Call (.Attribute o name apos) [] [] cpos) (wM rv f to waNil):=fun E hE=>
 (zug pa slot hty hm (ho E hE) hbase hline).mono fun σ H Q ⟨σW,S,QW,hσ,hS,ht,hQ⟩=>⟨σW,S,_,hσ,hS,ht,fun w S1 v H1 e1 r1 hS1 h1=>
  ⟨hrv H1 w v S1 r1 hS1 h1.1,hw H1 v w [] [] S1 Q QW r1 .nil hS1 h1.2 (hQ.from e1)⟩⟩
noncomputable def zbR:WMf:=fun w ws S Q=>match w with
 | .ref a=>zbN S a fun xs=>match ws with
  | [y]=>xs.length<sizeLine∧Q .non (put S a (.lst (xs++[y])))
  |_=>False
 |_=>False
theorem zkJ{K:PySem.W.Frag}:MtW K zmk zbR:=fun H x w vs ws S Q QW r rs hS h hQ=>by
 cases r with
 |ref a=>
  obtain⟨xs,ea,h⟩:=zaS h;obtain⟨us,f,hs⟩:=hS a _ ea;cases rs with
  |nil=>exact h.elim
  |cons r1 r2=>
   cases r2 with
   |cons _ _=>exact h.elim
   |nil=>
    obtain⟨e,hS'⟩:=hS.set_lst ea (hs.append (.one r1));exact⟨a,us,_,rfl,rfl,f,by rw [←hs.length];exact h.1,hQ _ _ _ _ e .non hS' h.2⟩
 |_=>exact h.elim
theorem zbA (ho:JE X o to) (ha:JA X (e::es) t)
  (hbase:attributeBase o "append" X.env (eval o X.env)=eval o X.env:=by rfl)
  (hfew:((backTo cpos (starEach (e::es) X.env)).all (fun x=> !x.1)&&(backToKw cpos (keywordEach [] X.env)).all (fun x=>x.1.isSome)
   &&decide ((e::es).length+([]:List Keyword).length+(if([]:List Keyword).isEmpty then 0 else 1)<30))=true:=by rfl)
  (hline:(apos.endLine == cpos.line)=true:=by rfl) (hs:starEach (e::es) X.env=(false,eval e X.env)::starEach es X.env:=by rfl) (hplain:(backTo cpos (starEach es X.env)).any (·.1)=false:=by rfl) :
  JE X (.Call (.Attribute o "append" apos) (e::es) [] cpos) (wM rvL zbR to t):=zwd PySem.F.plainAttrs_list PySem.F.slot_list_append PySem.F.type_list_append zmR zht zkJ ho ha hbase hfew hline hs hplain
noncomputable def ztD:WMf:=fun w ws S Q=>match w with
 | .ref a=>zbN S a fun xs=>match ws with
  | []=>match xs[xs.length - 1]? with
   |some y=>Q y (put S a (.lst xs.dropLast))
   |none=>False
  |_=>False
 |_=>False
theorem zqP{K:PySem.W.Frag}:MtW K zwu ztD:=fun H x w vs ws S Q QW r rs hS h hQ=>by
 cases r with
 |ref a=>
  obtain⟨xs,ea,h⟩:=zaS h;obtain⟨us,f,hs⟩:=hS a _ ea;cases rs with
  |cons _ _=>exact h.elim
  |nil=>
   dsimp only at h;split at h
   ·rename_i y ey;obtain⟨v,ev,rv⟩:=hs.get ey;obtain⟨e,hS'⟩:=hS.set_lst ea hs.dropLast;exact⟨a,us,v,rfl,rfl,f,by rw [←hs.length];exact ev,hQ _ _ _ _ e (rv.ext e) hS' h⟩
   ·exact h.elim
 |_=>exact h.elim
theorem zpB (ho:JE X o to) (hbase:attributeBase o "pop" X.env (eval o X.env)=eval o X.env:=by rfl) (hline:(apos.endLine == cpos.line)=true:=by rfl):JE X (.Call (.Attribute o "pop" apos) [] [] cpos) (wM rvL ztD to waNil):=
 zuX PySem.F.plainAttrs_list PySem.F.slot_list_pop PySem.F.type_list_pop zmR zsA zqP ho hbase hline
noncomputable def zfQ:WMf:=fun w ws S Q=>match w with
 | .ref a=>zbN S a fun xs=>match ws with
  | [.tup ys]=>xs.length+ys.length≤sizeLine∧Q .non (put S a (.lst (xs++ys)))
  | [.ref b]=>zbN S b fun ys=>xs.length+ys.length≤sizeLine∧Q .non (put S a (.lst (xs++ys)))
  |_=>False
 |_=>False
theorem zkK{K:PySem.W.Frag}:MtW K (fun x vs H Q=>zma x vs H Q∨zko K x vs H Q) zfQ:=fun H x w vs ws S Q QW r rs hS h hQ=>by
 cases r with
 |ref a=>
  obtain⟨xs,ea,h⟩:=zaS h;obtain⟨us,f,hs⟩:=hS a _ ea;cases rs with
  |nil=>exact h.elim
  |cons r1 r2=>
   cases r2 with
   |cons _ _=>cases r1<;>exact h.elim
   |nil=>
    cases r1 with
    |tup g ks=>
     obtain⟨e,hS'⟩:=hS.set_lst ea (hs.append ks);exact .inr ⟨a,_,us,_,rfl,rfl,f, .of g,by rw [←hs.length,←ks.length];exact h.1,hQ _ _ _ _ e .non hS' h.2⟩
    |ref b=>
     obtain⟨ys,eb,h⟩:=zaS h;obtain⟨zs,g,ks⟩:=hS b _ eb;obtain⟨e,hS'⟩:=hS.set_lst ea (hs.append ks);exact .inl ⟨a,b,us,zs,rfl,rfl,f,g,by rw [←hs.length,←ks.length];exact h.1,hQ _ _ _ _ e .non hS' h.2⟩
    |_=>exact h.elim
 |_=>exact h.elim
theorem zmn (ho:JE X o to) (ha:JA X (e::es) t)
  (hbase:attributeBase o "extend" X.env (eval o X.env)=eval o X.env:=by rfl)
  (hfew:((backTo cpos (starEach (e::es) X.env)).all (fun x=> !x.1)&&(backToKw cpos (keywordEach [] X.env)).all (fun x=>x.1.isSome)
   &&decide ((e::es).length+([]:List Keyword).length+(if([]:List Keyword).isEmpty then 0 else 1)<30))=true:=by rfl)
  (hline:(apos.endLine == cpos.line)=true:=by rfl) (hs:starEach (e::es) X.env=(false,eval e X.env)::starEach es X.env:=by rfl) (hplain:(backTo cpos (starEach es X.env)).any (·.1)=false:=by rfl) :
  JE X (.Call (.Attribute o "extend" apos) (e::es) [] cpos) (wM rvL zfQ to t):=zwd PySem.F.plainAttrs_list PySem.F.slot_list_extend PySem.F.type_list_extend zmR (MtR.or zlO zla) zkK ho ha hbase hfew hline hs hplain
noncomputable def zoy:WMf:=fun w ws S Q=>match w with
 | .ref a=>zbN S a fun xs=>xs.length+ws.length≤sizeLine∧Q .non (put S a (.lst (xs++ws)))
 |_=>False
noncomputable def zdm:List W→Option (List Str)
 | []=>some []
 | .str b::ws=>(zdm ws).map (b:: ·)
 |_=>none
theorem zhf{K:PySem.W.Frag}{H:Hp}:∀{ws:List W}{vs:List V}{bs:List Str},Reps K H ws vs→zdm ws=some bs→vs=bs.map V.str
 | [],_,_, .nil,e=>by have:=Option.some.inj e;subst this;rfl
 |w::ws,_,_, .cons r rs,e=>by
  cases r with
  |str b=>
   have e':(zdm ws).map (b:: ·)=some _:=e;cases q:zdm ws with
   |none=>rw [q]at e';cases e'
   |some cs=>
    rw [q]at e';have:=Option.some.inj e';subst this;rw [List.map_cons,zhf rs q]
  |_=>cases e
noncomputable def zgw:WMf:=fun w ws S Q=>match w with
 | .str z=>match zdm ws with
  |some ys=>(ys.map (·.length)).sum+ys.length*z.length≤16777216∧Q (.str (Str.join z ys)) S
  |none=>False
 |_=>False
theorem zoG{K:PySem.W.Frag}:MtL K (zst K) zgw:=fun H x w a vs ws S Q QW r ea na rs hS h hQ=>by
 cases r with
 |str z=>
  unfold zgw at h;dsimp only at h;split at h
  ·rename_i ys e;have:=zhf rs e;subst this;exact⟨z,a,ys,rfl,rfl, .of ea,h.1,hQ _ S _ H .refl (.str _) hS h.2⟩
  ·exact h.elim
 |_=>exact h.elim
theorem zjM (ho:JE X o to) (ha:JL X e tl)
  (hbase:attributeBase o "join" X.env (eval o X.env)=eval o X.env:=by rfl)
  (hfew:((backTo cpos (starEach [e] X.env)).all (fun x=> !x.1)&&(backToKw cpos (keywordEach [] X.env)).all (fun x=>x.1.isSome)
   &&decide ([e].length+([]:List Keyword).length+(if([]:List Keyword).isEmpty then 0 else 1)<30))=true:=by rfl)
  (hline:(apos.endLine == cpos.line)=true:=by rfl) (hs:starEach [e] X.env=(false,eval e X.env)::starEach [] X.env:=by rfl) (hplain:(backTo cpos (starEach [] X.env)).any (·.1)=false:=by rfl) :
  JE X (.Call (.Attribute o "join" apos) [e] [] cpos) (wML rvS zgw to tl):=zvB PySem.F.plainAttrs_str PySem.F.slot_str_join PySem.F.type_str_join zpT zrh zoG ho ha hbase hfew hline hs hplain
noncomputable def zia:WMf:=fun w ws S Q=>match w with
 | .str z=>match ws with
  | [.str y]=>match Builtin.Str.occurrences z y 0 z.length 1 with
   |i::_=>Q (.int i) S
   | []=>False
  |_=>False
 |_=>False
theorem znf{K:PySem.W.Frag}:MtW K zpK zia:=fun H x w vs ws S Q QW r rs hS h hQ=>by
 cases r with
 |str z=>
  cases rs with
  |nil=>exact h.elim
  |cons r1 r2=>
   cases r2 with
   |cons _ _=>cases r1<;>exact h.elim
   |nil=>
    cases r1 with
    |str y=>
     unfold zia at h;dsimp only at h;split at h
     ·exact⟨z,y,_,_,rfl,rfl, ‹_›,hQ _ S _ H .refl (.int _) hS h⟩
     ·exact h.elim
    |_=>exact h.elim
 |_=>exact h.elim
theorem zoS (ho:JE X o to) (ha:JA X (e::es) t)
  (hbase:attributeBase o "index" X.env (eval o X.env)=eval o X.env:=by rfl)
  (hfew:((backTo cpos (starEach (e::es) X.env)).all (fun x=> !x.1)&&(backToKw cpos (keywordEach [] X.env)).all (fun x=>x.1.isSome)
   &&decide ((e::es).length+([]:List Keyword).length+(if([]:List Keyword).isEmpty then 0 else 1)<30))=true:=by rfl)
  (hline:(apos.endLine == cpos.line)=true:=by rfl) (hs:starEach (e::es) X.env=(false,eval e X.env)::starEach es X.env:=by rfl) (hplain:(backTo cpos (starEach es X.env)).any (·.1)=false:=by rfl) :
  JE X (.Call (.Attribute o "index" apos) (e::es) [] cpos) (wM rvS zia to t):=zwd PySem.F.plainAttrs_str PySem.F.slot_str_index PySem.F.type_str_index zpT zod znf ho ha hbase hfew hline hs hplain
end
noncomputable def zuD (i:Nat) (g:Int→Int→Int) (e:WE):WS:=fun E D σ S=>match σ[i]? with
 |some (some (.int a))=>e E σ S fun w S1=>match w with
  | .int b=>D.nx (σ.set i (some (.int (g a b)))) S1
  |_=>False
 |_=>False
section
variable {X:Cx}{e:Expr}{te:WE}{pos pos':Pos}
theorem zuq{i:Nat}{x:Str}(hN:X.N.Nodup) (hi:X.N[i]? =some x) (hx:Loc X.env.scope x) (he:JE X e te) (hf:X.fn x=true∨X.env.scope.names.lookup x=some .local:=by first |exact .inl rfl |exact .inr rfl |assumption) :
  JS X (.AugAssign (.Name x pos') .Add e pos) (zuD i (fun a b=>a+b) te):=fun E hE=>
 (zsZ hN hi hx (he E hE) zsT hf).mono fun D σ H ⟨σW,S,DW,hσ,hS,ht,hD⟩=>by
  unfold zuD at ht;split at ht
  ·rename_i a ea;obtain⟨v,ev,rv⟩:=hσ.get ea;cases rv;refine⟨_,ev,σW,S,_,hσ,hS,ht,fun w S1 v H1 e1 r1 hS1 h1=>?_⟩;cases r1 with
   |int b=>exact⟨a,b,rfl,rfl,hD.nx _ S1 _ H1 e1 ((hσ.ext e1).set (.int _) i) hS1 h1⟩
   |_=>exact h1.elim
  ·exact ht.elim
end
noncomputable def zkj (c:WT) (b:WS):WS:=fun E D σ S=>∃I:Nat→WSt→Sto→Prop,(∃m,I m σ S)∧ ∀m σ S,I m σ S→c E σ S fun k S1=>if k=true then
 b E { D with nx:=fun σ' S'=>∃m' S'',m'<m∧Sub S'' S'∧I m' σ' S'',ct:=fun σ' S'=>∃m' S'',m'<m∧Sub S'' S'∧I m' σ' S'',bk:=D.nx } σ S1 else D.nx σ S1
section
variable {X:Cx}{c:Expr}{body:List Stmt}{tc:WT}{tb:WS}{pos:Pos}
theorem zha (hc:JT X c tc) (hb:JSs X body tb):JS X (.While c body [] pos) (zkj tc tb):=fun E hE=>
 (znV hE.own (hc E hE) (hb E hE)).mono fun D σ H ⟨σW,S,DW,hσ,hS,⟨J,⟨n,ht⟩,step⟩,hD⟩=>by
  refine⟨fun m σ1 H1=>∃σW1 S1,Ext H S H1 S1∧RpSt X.K H1 σW1 σ1∧RepS X.K H1 S1∧J m σW1 S1,⟨n,σW,S, .refl,hσ,hS,ht⟩,?_⟩;rintro m σ1 H1 ⟨σW1,S1,e1,hσ1,hS1,h1⟩;refine⟨σW1,S1,_,hσ1,hS1,step m σW1 S1 h1,fun k S2 H2 e2 hS2 h2=>?_⟩;cases k with
  |false=>exact hD.nx σW1 S2 σ1 H2 (e1.trans e2) (hσ1.ext e2) hS2 h2
  |true=>
   rw [if_pos rfl]at h2⊢;refine⟨fun σ' H'=>∃m',m'<m∧ ∃σW1 S1,Ext H S H' S1∧RpSt X.K H' σW1 σ'∧RepS X.K H' S1∧J m' σW1 S1,fun σ' H' n'=>n',σW1,S2,_,hσ1.ext e2,hS2,h2,?_⟩;have e12:=e1.trans e2;have go:Goes X.K H2 S2 (fun σ' S'=>∃m' S'',m'<m∧Sub S'' S'∧J m' σ' S'') (fun σ' H'=>∃m',m'<m∧ ∃σW1 S1,Ext H S H' S1∧RpSt X.K H' σW1 σ'∧RepS X.K H' S1∧J m' σW1 S1):=fun σW3 S3 σ3 H3 e3 hσ3 hS3 ⟨m',S4,hm,sb,q⟩=>
    ⟨m',hm,σW3,S4,(e12.trans e3).trans (.drop sb),hσ3,hS3.sub sb,q⟩
   exact⟨go,hD.rt.from e12,hD.nx.from e12,go⟩
end
noncomputable def forL (g:WG) (b:WS) (E:WX) (D:WEnds) (G:Sto→Prop):List W→WSt→Sto→Prop
 | [],σ,S=>D.nx σ S
 |w::ws,σ,S=>g w σ S fun σ1 S1=>b E { D with nx:=fun σ' S'=>∃S'',Sub S'' S'∧G S''∧forL g b E D G ws σ' S'',ct:=fun σ' S'=>∃S'',Sub S'' S'∧G S''∧forL g b E D G ws σ' S'',bk:=D.nx } σ1 S1
noncomputable def zgl (q:WI) (g:WG) (b:WS):WS:=fun E D σ S=>q E σ S fun ws G S1=>forL g b E D G ws σ S1
section
variable {X:Cx}{tg iter:Expr}{body:List Stmt}{q:WI}{g:WG}{tb:WS}{pos:Pos}
theorem zbO (hi:JI X tg iter q) (hg:JG X tg g) (hb:JSs X body tb) (hcl:X.calm=true:=by rfl)
  (hs:∀x,foldedSetIterable iter X.env x=pure x:=by intro _;rfl):JS X (.For tg iter body [] pos) (zgl q g tb):=fun E hE=>
 (zul hE.own hcl (hi E hE) (hg E hE) (hb E hE) hs).mono fun D σ H ⟨σW,S,DW,hσ,hS,ht,hD⟩=>by
  refine⟨σW,S,_,hσ,hS,ht,fun ws G S1 J H1 e1 hS1 hG1 hJ h1=>?_⟩;refine⟨fun i m σ2 H2=>∃σW2 S2,Ext H1 S1 H2 S2∧RpSt X.K H2 σW2 σ2∧RepS X.K H2 S2∧G S2∧m=ws.length - i∧i≤ws.length∧forL g tb E DW G (ws.drop i) σW2 S2,
   ⟨ws.length,σW,S1, .refl,hσ.ext e1,hS1,hG1,rfl,Nat.zero_le _,h1⟩,?_⟩
  rintro i m σ2 H2 ⟨σW2,S2,e2,hσ2,hS2,hG2,rfl,hi2,h2⟩;obtain⟨ji,js⟩:=hJ i S2 H2 e2 hS2 hG2;by_cases hlt:i<ws.length
  ·obtain⟨jgo,jy⟩:=ji ws[i] (List.getElem?_eq_getElem hlt);refine .inr ⟨jgo,fun σ' H'=>∃σW2 S2,Ext H1 S1 H' S2∧RpSt X.K H' σW2 σ'∧RepS X.K H' S2∧G S2∧ws.length - (i+1)=ws.length - (i+1)∧i+1≤ws.length∧forL g tb E DW G (ws.drop (i+1)) σW2 S2,fun σ' H' z=>⟨_,by omega,z⟩,fun x H3 y3=>?_⟩
   obtain⟨e3,hS3,r3⟩:=jy x H3 y3;rw [List.drop_eq_getElem_cons hlt]at h2;refine⟨_,σW2,S2,_,r3,hσ2.ext e3,hS3,h2,fun σW4 S4 σ4 H4 e4 hσ4 hS4 h4=>?_⟩;have e14:Ext H1 S1 H4 S4:=(e2.trans e3).trans e4;refine⟨σW4,S4,_,hσ4,hS4,h4,?_⟩;have go:Goes X.K H4 S4 (fun σ' S'=>∃S'',Sub S'' S'∧G S''∧forL g tb E DW G (ws.drop (i+1)) σ' S'') (fun σ' H'=>∃σW2 S2,Ext H1 S1 H' S2∧RpSt X.K H' σW2 σ'∧RepS X.K H' S2∧G S2∧ws.length - (i+1)=ws.length - (i+1)∧i+1≤ws.length∧forL g tb E DW G (ws.drop (i+1)) σW2 S2):=
    fun σW5 S5 σ5 H5 e5 hσ5 hS5 ⟨S6,sb,hG6,q⟩=>⟨σW5,S6,(e14.trans e5).trans (.drop sb),hσ5,hS5.sub sb,hG6,rfl,hlt,q⟩
   exact⟨go,hD.rt.from (e1.trans e14),hD.nx.from (e1.trans e14),go⟩
  ·have hl:i=ws.length:=by omega
   rw [List.drop_of_length_le (Nat.le_of_eq hl.symm)]at h2;exact .inl ⟨js hl,hD.nx σW2 S2 σ2 H2 (e1.trans e2) hσ2 hS2 h2⟩
end
section
variable {X:Cx}{tg:Expr}
noncomputable def zwz (K:PySem.W.Frag) (tl:TE):TI:=fun σ H R=>tl σ H fun x H1=>(∃a,x= .ref a∧(∃xs,SqL K H1 a xs)∧R (Itl K a) H1)∨(∃a,x= .ref a∧(∃xs,SqT K H1 a xs)∧R (Itt K a) H1)∨ ∃z,x= .str z∧R (Its z) H1
theorem ztn{l:Expr}{tl:TE}(hl:PE X l tl):PI X tg l (zwz X.K tl):=by
 intro pins s σ H R I h;refine thn (hl pins s σ H _ I h) fun v s1 ⟨x,H1,I1,r1,q1⟩=>?_;have fp:∀b∈ [s1.heap.objs.size],zhi X pins H1 b:=fun b hb=>by
  have e:b=s1.heap.objs.size:=by simpa using hb
  subst e;exact I1.fpOk (Nat.le_refl _) (I1.hok.fresh (Nat.le_refl _))
 rcases q1 with⟨a,e,⟨xs,hq⟩,q⟩ |⟨a,e,⟨xs,hq⟩,q⟩ |⟨z,e,q⟩
 ·subst e;cases r1;obtain⟨its,rv,p,hz⟩:=I1.list hq;refine wpAny_pyIter_list p.isList ?_;exact⟨s1.heap.objs.size,[s1.heap.objs.size],_,_,H1,rfl,I1.kept (t':=s1.toks) fun b o e=>Heap.get?_push_of_some _ e,zmx a _,⟨_,Heap.get?_push_size _ rfl,rfl,rfl⟩,fp,q⟩
 ·subst e;cases r1;obtain⟨its,rv,p,hz⟩:=I1.tuple hq;refine wpAny_pyIter_tuple (show s1.heap.IsTuple a its.toArray from p) ?_;exact⟨s1.heap.objs.size,[s1.heap.objs.size],_,_,H1,rfl,I1.kept (t':=s1.toks) fun b o e=>Heap.get?_push_of_some _ e,zkX a _,⟨_,Heap.get?_push_size _ rfl,rfl,rfl⟩,fp,q⟩
 ·subst e;obtain⟨t,rfl⟩:=r1;cases ha:z.cps.all (· <128)
  ·refine wpAny_pyIter_wide ha ?_;exact⟨s1.heap.objs.size,[s1.heap.objs.size],_,_,H1,rfl,I1.kept (t':=s1.toks) fun b o e=>Heap.get?_push_of_some _ e,
    zjT _ z t "str_iterator" (by decide) (fun A' hA=>Walks.strWide hA _ z t) (fun _ _ _ _ _ st h=>wpAny_pyIter_striter_wide st h),⟨_,Heap.get?_push_size _ rfl,rfl,rfl⟩,fp,q⟩
  ·refine wpAny_pyIter_ascii ha ?_;exact⟨s1.heap.objs.size,[s1.heap.objs.size],_,_,H1,rfl,I1.kept (t':=s1.toks) fun b o e=>Heap.get?_push_of_some _ e,
    zjT _ z t "str_ascii_iterator" (by decide) (fun A' hA=>Walks.strAscii hA _ z t) (fun _ _ _ _ _ st h=>wpAny_pyIter_striter_ascii st h),⟨_,Heap.get?_push_size _ rfl,rfl,rfl⟩,fp,q⟩
noncomputable def zft (z:Str):List W:=z.cps.toList.map fun c=> .str ⟨#[c]⟩
noncomputable def wIv (t:WE):WI:=fun E σ S Q=>t E σ S fun w S1=>match w with
 | .tup ws=>Q ws (fun _=>True) S1
 | .ref a=>zbN S1 a fun ws=>Q ws (fun S'=>S' a=some (.lst ws)) S1
 | .scr ns=>Q (ns.map W.int) (fun _=>True) S1
 | .str z=>Q (zft z) (fun _=>True) S1
 |_=>False
theorem zmH{K:PySem.W.Frag}{a:Addr}{ws:List W}{G:Sto→Prop}{H0:Hp}{S0:Sto}(h:∀S H,Ext H0 S0 H S→RepS K H S→G S→ ∃vs,SqL K H a vs∧Reps K H ws vs):ItW K (Itl K a) ws G H0 S0:=fun i S H e hS hG=>by
 obtain⟨vs,hq,r⟩:=h S H e hS hG;refine⟨fun w ew=>?_,fun hl=>⟨vs,hq,by rw [←r.length,hl];exact Nat.le_refl _⟩⟩
 obtain⟨v,ev,rv⟩:=r.get ew;refine⟨⟨vs,v,hq,ev⟩,fun x H' ⟨e1,e2⟩=>?_⟩;subst e1;have e3:=e2 vs hq;rw [ev]at e3;cases e3;exact⟨.refl,hS,rv⟩
theorem zsm{K:PySem.W.Frag}{a:Addr}{ws:List W}{vs:List V}{H0:Hp}{S0:Sto}(f:H0 a=some (.tup vs)) (r:Reps K H0 ws vs):ItW K (Itt K a) ws (fun _=>True) H0 S0:=fun i S H e hS hG=>by
 have f':=e.tup _ _ f;have r':=r.ext e;refine⟨fun w ew=>?_,fun hl=>⟨vs, .of f',by rw [←r'.length,hl];exact Nat.le_refl _⟩⟩
 obtain⟨v,ev,rv⟩:=r'.get ew;refine⟨⟨vs,v, .of f',ev⟩,fun x H' ⟨e1,e2⟩=>?_⟩;subst e1;have e3:=e2 vs (.of f');rw [ev]at e3;cases e3;exact⟨.refl,hS,rv⟩
theorem zsG{K:PySem.W.Frag}{z:Str}{H0:Hp}{S0:Sto}:ItW K (Its z) (zft z) (fun _=>True) H0 S0:=fun i S H e hS hG=>by
 unfold zft;refine⟨fun w ew=>?_,fun hl=>?_⟩
 ·rw [List.getElem?_map]at ew;cases ec:z.cps.toList[i]? with
  |none=>rw [ec]at ew;cases ew
  |some c=>
   rw [ec]at ew;have ew':=Option.some.inj ew;subst ew';have hi:i<z.cps.size:=by
    have:=(List.getElem?_eq_some_iff.mp ec).1;simpa using this
   refine⟨hi,fun x H' ⟨e1,c',e2,e3⟩=>?_⟩;subst e1 e3;have:c'=c:=by
    have q:z.cps.toList[i]? =some c':=by rw [←e2];simp
    rw [ec]at q;exact(Option.some.inj q).symm
   subst this;exact⟨.refl,hS, .str _⟩
 ·show i=z.cps.size;simpa using hl
theorem zbz{l:Expr}{tl:WE}(hl:JE X l tl):JI X tg l (wIv tl):=fun E hE=>
 (ztn (hl E hE)).mono fun σ H R ⟨σW,S,QW,hσ,hS,ht,hR⟩=>⟨σW,S,_,hσ,hS,ht,fun w S1 v H1 e1 r1 hS1 h1=>by
  cases r1 with
  |tup f hs=>exact .inr (.inl ⟨_,rfl,⟨_, .of f⟩,hR _ _ S1 _ H1 e1 hS1 trivial (zsm f hs) h1⟩)
  |ref a=>
   obtain⟨ws,ea,h⟩:=zaS h1;obtain⟨vs,f,hs⟩:=hS1 a _ ea;refine .inl ⟨_,rfl,⟨_, .of f⟩,hR _ _ S1 _ H1 e1 hS1 ea (zmH fun S2 H2 e2 hS2 g2=>?_) h⟩;obtain⟨vs2,f2,hs2⟩:=hS2 a _ g2;exact⟨vs2, .of f2,hs2⟩
  |scr f=>exact .inl ⟨_,rfl,⟨_,f.sq⟩,hR _ _ S1 _ H1 e1 hS1 trivial (zmH fun S2 H2 e2 hS2 g2=>⟨_,(e2.fz f).sq,Reps.ofInts _⟩) h1⟩
  |str z=>exact .inr (.inr ⟨z,rfl,hR _ _ S1 _ H1 e1 hS1 trivial zsG h1⟩)
  |_=>exact h1.elim⟩
noncomputable def zeF (lo:Int) (n:Nat):List W:=(List.range n).map fun(i:Nat)=> .int (lo+(i:Int))
theorem zsK{K:PySem.W.Frag}{lo:Int}{n:Nat}{H0:Hp}{S0:Sto}:ItW K (Itr lo n) (zeF lo n) (fun _=>True) H0 S0:=fun i S H e hS hG=>by
 unfold zeF;refine⟨fun w ew=>?_,fun hl=>by
  have:i=n:=by simpa using hl
  exact Nat.le_of_eq this.symm⟩
 rw [List.getElem?_map]at ew;by_cases hi:i<n
 ·rw [List.getElem?_range hi]at ew;have ew':=Option.some.inj ew;subst ew';refine⟨hi,fun x H' ⟨e1,e2⟩=>?_⟩;subst e1 e2;exact⟨.refl,hS, .int _⟩
 ·rw [List.getElem?_eq_none (by simpa using hi)]at ew;cases ew
noncomputable def zle (t:WA):WI:=fun E σ S Q=>t E σ S fun ws S1=>match ws with
 | [.int j]=>(-(2 ^ 62)≤j∧j<2 ^ 62)∧Q (zeF 0 j.toNat) (fun _=>True) S1
 |_=>False
theorem zbX{a:Expr}{ta:WA}{p pos:Pos}(hg:Gl X "range") (hm:X.mg "range" =none) (ha:JA X [a] ta) (hs:starEach [a] X.env=[(false,eval a X.env)]:=by rfl):JI X tg (.Call (.Name "range" p) [a] [] pos) (zle ta):=fun E hE=>
 (zmK hg hm (ha E hE) hs).mono fun σ H R ⟨σW,S,QW,hσ,hS,ht,hR⟩=>⟨σW,S,_,hσ,hS,ht,fun ws S1 vs H1 e1 r1 hS1 h1=>by
  cases r1 with
  |nil=>exact h1.elim
  |cons r2 r3=>
   cases r3 with
   |cons _ _=>cases r2<;>exact h1.elim
   |nil=>
    cases r2 with
    |int j=>exact⟨j,rfl,h1.1.1,h1.1.2,hR _ _ S1 _ H1 e1 hS1 trivial zsK h1.2⟩
    |_=>exact h1.elim⟩
end
noncomputable def zfd:WT:=fun _ _ S Q=>Q true S
noncomputable def JTs (X:Cx) (ifs:List Expr) (t:WT):Prop:=∀E,Hook X E→PTs X ifs (zqK X.K (t E))
theorem zbv{X:Cx}:JTs X [] zfd:=fun E hE pins s σ H Q I ⟨σW,S,QW,hσ,hS,ht,hQ⟩=>zqH pins s σ H Q I (hQ true S H .refl hS ht)
theorem zjo{X:Cx}{c:Expr}{t:WT}(h:JT X c t):JTs X [c] t:=fun E hE=>zrc (h E hE)
noncomputable def zck (g:WG) (c:WT) (e:WE) (E:WX) (G:Sto→Prop) (Q:List W→Sto→Prop):List W→List W→WSt→Sto→Prop
 | [],acc,_,S=>Q acc S
 |w::ws,acc,σ,S=>g w σ S fun σ1 S1=>c E σ1 S1 fun b S2=>if b=true then e E σ1 S2 fun y S3=>acc.length<sizeLine∧ ∃S4,Sub S4 S3∧G S4∧zck g c e E G Q ws (acc++[y]) σ1 S4
   else ∃S4,Sub S4 S2∧G S4∧zck g c e E G Q ws acc σ1 S4
noncomputable abbrev noE:WX:=fun _ _ _=>False
theorem ziV{X:Cx}(h:X.xe=fun _ _=>False):Hook X noE:=⟨by rw [h];exact PassesOwn.never,fun _ _ _ _ _ _ _ _ _ _ _ _ _ _ _ _ _ _ _ _ z=>z.elim,fun _ _ _ _ _ _ _ _ _ _ _ _ _ _ _ _ z=>z.elim⟩
theorem PS.nox{X:Cx}{st:Stmt}{t:TS}(h:PS X.nox st t):PS X st t:=fun pins s σ H D I hw=>
 wpAny_mono (h pins s σ H D (I.wish _) hw) (fun _ _ q=>q.unwish) fun _ _ z=>False.elim z
noncomputable def zcj (k:Nat) (fr:List Nat) (q:WI) (g:WG) (c:WT) (e:WE):WL:=fun _ σ S Q=>q noE σ S fun ws G S1=>zck g c e noE G Q ws [] (List.replicate k none++fr.map fun j=>(σ[j]?).join) S1
theorem zkE{K:PySem.W.Frag}{H:Hp}{σW:WSt}{σ:St}{k:Nat}{fr:List Nat}(h:RpSt K H σW σ):RpSt K H (List.replicate k none++fr.map fun j=>(σW[j]?).join) (zkk σ k fr):=by
 have one:∀j:Nat,RpO K H (σW[j]?).join (σ[j]?).join:=fun j=>by
  cases e:σW[j]? with
  |none=>exact trivial
  |some w=>
   cases w with
   |none=>exact trivial
   |some w=>
    obtain⟨v,ev,r⟩:=h.get e;rw [ev];exact r
 have go:∀fr:List Nat,RpSt K H (fr.map fun j=>(σW[j]?).join) (zfN σ fr):=by
  intro fr
  induction fr with
  |nil=>exact .nil
  |cons j fr ih=>exact .cons (one j) ih
 unfold zkk
 induction k with
 |zero=>exact go fr
 |succ k ih=>exact .cons trivial ih
section
variable {X:Cx}{scope:Scope}{N:List Str}{k:Nat}{fr:List Nat}{tg iter elt:Expr}{ifs:List Expr}{pos:Pos}{q:WI}{g:WG}{c:WT}{e:WE}
theorem Ext.loose{H H':Hp}(a:∀b xs,H b=some (.tup xs)→H' b=some (.tup xs)) (b:∀c o u,H c=some (.frz o u)→H' c=some (.frz o u)) (d:∀b o,H b=some o→ ∃o',H' b=some o'):Ext H (fun _=>some (.lst [])) H' (fun _=>some (.lst [])):=
 ⟨a,b,(fun _ _ _ g=>nomatch g),d⟩
theorem Ext.over{H H':Hp}{S S':Sto}{l:Addr}{o:HO}(e:Ext H S H' S') (h:H l=none):Ext H S (upd H' l o) S':=
 ⟨fun b xs q=>by rw [zau (zaq q h)];exact e.tup b xs q,fun b ob u q=>by rw [zau (zaq q h)];exact e.frz b ob u q,fun b ob q z=>by rw [zau (zaq q h)];exact e.fr b ob q z,fun b ob q=>by rw [zau (zaq q h)];exact e.all b ob q⟩
theorem zis (hg:∀s₀ H₀ fp pn,JG (zbn X scope N s₀ H₀ fp pn) tg g) (hc:∀s₀ H₀ fp pn,JTs (zbn X scope N s₀ H₀ fp pn) ifs c) (he:∀s₀ H₀ fp pn,JE (zbn X scope N s₀ H₀ fp pn) elt e)
  {E:WX}(σ:St) (H:Hp) (Q:VK):zuk X.K (zcj k fr q g c e E) σ H Q→znW X scope N k fr tg ifs elt (ztc X.K (q noE)) σ H Q:=fun⟨σW,S0,QW,hσ,hS,ht,hQ⟩=>by
  refine⟨σW,S0,_,hσ,hS,ht,fun ws G S1 J H1 e1 hS1 hG1 hJ h1 l hl=>?_⟩;have upl:∀{H':Hp}{vs us:List V}{S':Sto},H' l=some (.lst vs)→S' l=none→RepS X.K H' S'→Ext H' (fun _=>some (.lst [])) (upd H' l (.lst us)) (fun _=>some (.lst []))∧RepS X.K (upd H' l (.lst us)) S':=fun {H' vs us S'} f n hS'=>by
   have x:Ext H' (fun _=>some (.lst [])) (upd H' l (.lst us)) (fun _=>some (.lst [])):= .loose (fun b xs q=>by rw [zau (zmB q f fun z=>nomatch z)];exact q) (fun b o u q=>by rw [zau (zmB q f fun z=>nomatch z)];exact q) fun b o q=>by
    by_cases hb:b=l
    ·subst hb;exact⟨_,zat⟩
    ·exact⟨o,by rw [zau hb];exact q⟩
   refine⟨x,fun a o q=>(hS' a o q).keep x fun u z=>?_⟩;have ha:a≠l:=by rintro rfl;rw [n]at q;cases q
   rw [zau ha];exact z
  refine⟨fun i m σ' H'=>∃σW' S' acc vs,Ext H1 S1 H' S'∧H' l=some (.lst vs)∧S' l=none∧Reps X.K H' acc vs∧RpSt X.K H' σW' σ'∧RepS X.K H' S'∧G S'∧m=ws.length - i∧i≤ws.length∧zck g c e noE G QW (ws.drop i) acc σW' S',
   ⟨ws.length,_,S1,[],[], .new hl,zat,hS1.free hl, .nil,zkE (hσ.ext (e1.trans (.new (S:=S1) hl))),hS1.new hl,hG1,rfl,Nat.zero_le _,h1⟩,?_⟩
  rintro i m σ' H' ⟨σW',S',acc,vs,e2,f2,n2,ra,hσ2,hS2,hG2,rfl,hi2,h2⟩;obtain⟨ji,js⟩:=hJ i S' H' e2 hS2 hG2;by_cases hlt:i<ws.length
  ·obtain⟨jgo,jy⟩:=ji ws[i] (List.getElem?_eq_getElem hlt);refine .inr ⟨jgo,fun σ'' H''=>∃σW' S' acc vs,Ext H1 S1 H'' S'∧H'' l=some (.lst vs)∧S' l=none∧Reps X.K H'' acc vs∧RpSt X.K H'' σW' σ''∧RepS X.K H'' S'∧G S'∧ws.length - (i+1)=ws.length - (i+1)∧i+1≤ws.length∧zck g c e noE G QW (ws.drop (i+1)) acc σW' S',
    fun σ'' H'' z=>⟨_,by omega,z⟩,fun x H3 y3=>?_⟩
   obtain⟨e3,hS3,r3⟩:=jy x H3 y3;rw [List.drop_eq_getElem_cons hlt]at h2;intro s₀ H₀ fp pn;have hk:Hook (zbn X scope N s₀ H₀ fp pn) noE:=ziV rfl;refine⟨_,_,_,hg s₀ H₀ fp pn noE hk,hc s₀ H₀ fp pn noE hk,he s₀ H₀ fp pn noE hk,?_⟩;refine⟨_,σW',S',_,r3,hσ2.ext e3,hS3,h2,fun σW4 S4 σ4 H4 e4 hσ4 hS4 h4=>?_⟩;refine⟨σW4,S4,_,hσ4,hS4,h4,fun b S5 H5 e5 hS5 h5=>?_⟩;have e15:Ext H' S' H5 S5:=(e3.trans e4).trans e5;have hσ5:=hσ4.ext e5;obtain⟨f5,n5⟩:=e15.fr l _ f2 n2;cases b with
   |false=>
    have h5:∃S4,Sub S4 S5∧G S4∧zck g c e noE G QW (ws.drop (i+1)) acc σW4 S4:=h5;refine zwG ?_;obtain⟨S6,sb,hG6,h6⟩:=h5;have e16:=e15.trans (.drop sb);exact⟨σW4,S6,acc,vs,e2.trans e16,f5,(e16.fr l _ f2 n2).2,ra.ext e15,hσ5,hS5.sub sb,hG6,rfl,hlt,h6⟩
   |true=>
    rw [if_pos rfl]at h5;refine zwZ ?_;refine⟨σW4,S5,_,hσ5,hS5,h5,fun y S6 v H6 e6 r6 hS6 h6=>?_⟩;have e17:=e15.trans e6;obtain⟨f6,n6⟩:=e17.fr l _ f2 n2;obtain⟨hz,S7,sb,hG7,h7⟩:=h6;obtain⟨x6,hS6'⟩:=upl (us:=vs++[v]) f6 n6 hS6;have ra6:Reps X.K H6 (acc++[y]) (vs++[v]):=(ra.ext e17).append (.one r6);refine⟨vs,f6,by rw [←ra.length];exact hz,σW4,S7,acc++[y],vs++[v],?_,zat,((e17.trans (.drop sb)).fr l _ f2 n2).2,ra6.ext x6,(hσ5.ext e6).ext x6,hS6'.sub sb,hG7,rfl,hlt,h7⟩
    exact(e2.trans (e17.trans (.drop sb))).over hl
  ·have hll:i=ws.length:=by omega
   rw [List.drop_of_length_le (Nat.le_of_eq hll.symm)]at h2;exact .inl ⟨js hll,hQ acc S' vs l H' (e1.trans e2) (e1.free hl) f2 n2 ra hS2 h2⟩
theorem zbs (S:CompSc X.nox scope N k fr) (hi:JI X.nox tg iter q) (hg:∀s₀ H₀ fp pn,JG (zbn X.nox scope N s₀ H₀ fp pn) tg g) (hc:∀s₀ H₀ fp pn,JTs (zbn X.nox scope N s₀ H₀ fp pn) ifs c) (he:∀s₀ H₀ fp pn,JE (zbn X.nox scope N s₀ H₀ fp pn) elt e)
  (hs:∀x,foldedSetIterable iter X.env x=pure x:=by intro _;rfl) (hcl:X.calm=true:=by rfl):JL X (.ListComp elt [⟨tg,iter,ifs,0⟩] scope pos) (zcj k fr q g c e):=fun E hE=>
 (PE.nox (zrG rfl hcl S (hi noE (ziV rfl)) hs)).mono (zis (X:=X.nox) hg hc he)
theorem zms{i:Nat}{x:Str}{pos' spos:Pos}(hN:X.N.Nodup) (hxi:X.N[i]? =some x) (hxl:Loc X.env.scope x) (S:CompSc X.nox scope N k fr) (hi:JI X.nox tg iter q) (hg:∀s₀ H₀ fp pn,JG (zbn X.nox scope N s₀ H₀ fp pn) tg g) (hc:∀s₀ H₀ fp pn,JTs (zbn X.nox scope N s₀ H₀ fp pn) ifs c) (he:∀s₀ H₀ fp pn,JE (zbn X.nox scope N s₀ H₀ fp pn) elt e)
  (hw:swapsWith (.ListComp elt [⟨tg,iter,ifs,0⟩] scope pos) (some (.Name x pos')) spos.line X.env=pure true:=by rfl) (hf:X.fn x=true∨X.env.scope.names.lookup x=some .local:=by first |exact .inl rfl |exact .inr rfl |assumption)
  (hs:∀x,foldedSetIterable iter X.env x=pure x:=by intro _;rfl) (hcl:X.calm=true:=by rfl):JS X (.Assign [.Name x pos'] (.ListComp elt [⟨tg,iter,ifs,0⟩] scope pos) spos) (wAsg (zdb (zcj k fr q g c e)) (wGN i)):=fun E hE=>
 (PS.nox (zql (X:=X.nox) rfl hcl S (hi noE (ziV rfl)) hN hxi hxl hw hf hs)).mono fun D σ H ⟨σW,S0,DW,hσ,hS,ht,hD⟩=>
  zis (X:=X.nox) (E:=E) hg hc he σ H _ ⟨σW,S0,_,hσ,hS,ht,fun ws S1 vs a H1 e1 fa ea na r1 hS1 h1=>by
   have ex:Ext H S0 H1 (put S1 a (.lst ws)):=⟨e1.tup,e1.frz,fun b o q g=>by
    have hb:b≠a:=by rintro rfl;rw [fa]at q;cases q
    rw [zaI hb];exact e1.fr b o q g,e1.all⟩
   refine hD.nx _ (put S1 a (.lst ws)) _ H1 ex ((hσ.ext ex).set (.ref a) i) (fun b o q=>?_) (h1 a na);by_cases hb:b=a
   ·subst hb;rw [zag]at q;cases q;exact⟨vs,ea,r1⟩
   ·rw [zaI hb]at q;exact hS1 b o q⟩
end
noncomputable def SeqIt (k:Bool) (h:Heap) (it a:Addr) (i:Nat):Prop:=if k=true then h.IsListIter it a i else h.IsTupleIter it a i
noncomputable def SeqIs (k:Bool) (h:Heap) (a:Addr) (its:Array Value):Prop:=if k=true then h.IsList a its else h.IsTuple a its
section
variable {k:Bool}{h h':Heap}{it a:Addr}{i:Nat}{its:Array Value}
theorem SeqIt.at (x:SeqIt k h it a i) (e:∀o,h.get? it=some o→h'.get? it=some o):SeqIt k h' it a i:=by
 cases k with
 |true=>exact Heap.IsListIter.at (show h.IsListIter it a i from x) e
 |false=>exact Heap.IsTupleIter.at (show h.IsTupleIter it a i from x) e
theorem SeqIs.at (x:SeqIs k h a its) (e:∀o,h.get? a=some o→h'.get? a=some o):SeqIs k h' a its:=by
 cases k with
 |true=>exact Heap.IsList.at (show h.IsList a its from x) e
 |false=>obtain⟨o,ho,r⟩:=(show h.IsTuple a its from x);exact⟨o,e o ho,r⟩
theorem SeqIt.ob (x:SeqIt k h it a i):∃o vs,h.get? it=some o∧o.data= .fields vs:=by
 cases k with
 |true=>obtain⟨o,ho,_,hd⟩:=(show h.IsListIter it a i from x);exact⟨o,_,ho,hd⟩
 |false=>obtain⟨o,ho,_,hd⟩:=(show h.IsTupleIter it a i from x);exact⟨o,_,ho,hd⟩
end
section
variable {prog:Program}{w:World}{A:Around}{E:Value→Shared→Prop}{s:Shared}
theorem zfs{it t:Addr}{i:Nat}{its:Array Value}{x:Value}{Q:Value→Shared→Prop}(hit:s.heap.IsTupleIter it t i) (ht:s.heap.IsTuple t its) (hx:its[i]? =some x)
  (hQ:∀g,g.IsTupleIter it t (i+1)→Heap.SameBut it s.heap g→Q x { s with heap:=g }):wpAny (model prog w) A (Builtin.SmallTypes.nextOf (.ref it)) Q E s:=by
 obtain⟨o,ho,hc,hd⟩:=id hit;obtain⟨ot,hot,_,nt,hdt⟩:=ht;unfold Builtin.SmallTypes.nextOf;refine wpAny_bind (wpAny_callSpecial?_slot (name:=Str.ofString "__next__") hit.typeIs PySem.F.slot_tuple_iterator_next (wpAny_call_entry PySem.F.slot_tuple_iterator_next hit.typeIs PySem.F.entry_tuple_iterator_next ?_ (PySem.F.args_tuple_iterator_next_1 _)));show wpAny _ _ (field (.ref it) 0 >>= _) _ _ s;refine wpAny_bind (wpAny_field ho hd (x:= .ref t) rfl ?_);show wpAny _ _ (if(Value.ref t == Value.none)=true then _ else _) _ _ s;rw [if_neg (show ¬((Value.ref t == Value.none)=true) from Bool.false_ne_true)];show wpAny _ _ (field (.ref it) 1 >>= _) _ _ s;refine wpAny_bind (wpAny_field ho hd (x:= .int i 0) rfl ?_);show wpAny _ _ (seqItems? (.ref t) >>= _) _ _ s;refine wpAny_bind (wpAny_seqItems hot hdt ?_);simp only[Int.toNat_natCast,hx];refine wpAny_bind (wpAny_setField ho hd (by simp) (wpAny_pure ⟨x,rfl,wpAny_pure (hQ _ ?_ (Heap.SameBut.update ..))⟩));exact⟨_,Heap.get?_update_self _ ho (Obj.isFreed_of_fields (Obj.data_mapFields hd _)),(Obj.cls_mapFields ..).trans hc,by rw [Obj.data_mapFields hd];simp [rawInt]⟩
theorem zfV{it t:Addr}{i:Nat}{its:Array Value}{Q:Value→Shared→Prop}(hh:A.handled=none) (hit:s.heap.IsTupleIter it t i) (ht:s.heap.IsTuple t its) (hx:its[i]? =none)
  (hE:∀g e,Heap.ExtBut it s.heap g→(∃o,g.get? e=some o∧o.cls= .type "StopIteration")→E (.ref e) { s with heap:=g }):wpAny (model prog w) A (Builtin.SmallTypes.nextOf (.ref it)) Q E s:=by
 obtain⟨o,ho,hc,hd⟩:=id hit;obtain⟨ot,hot,_,nt,hdt⟩:=ht;unfold Builtin.SmallTypes.nextOf;refine wpAny_bind (wpAny_callSpecial?_slot (name:=Str.ofString "__next__") hit.typeIs PySem.F.slot_tuple_iterator_next (wpAny_call_entry PySem.F.slot_tuple_iterator_next hit.typeIs PySem.F.entry_tuple_iterator_next ?_ (PySem.F.args_tuple_iterator_next_1 _)));show wpAny _ _ (field (.ref it) 0 >>= _) _ _ s;refine wpAny_bind (wpAny_field ho hd (x:= .ref t) rfl ?_);show wpAny _ _ (if(Value.ref t == Value.none)=true then _ else _) _ _ s;rw [if_neg (show ¬((Value.ref t == Value.none)=true) from Bool.false_ne_true)];show wpAny _ _ (field (.ref it) 1 >>= _) _ _ s;refine wpAny_bind (wpAny_field ho hd (x:= .int i 0) rfl ?_);show wpAny _ _ (seqItems? (.ref t) >>= _) _ _ s;refine wpAny_bind (wpAny_seqItems hot hdt ?_);simp only[Int.toNat_natCast,hx];refine wpAny_bind (wpAny_rule (wpAny_bind (wpAny_setField ho hd (by simp) ?_)));show wpAny _ _ (newExc (.type "StopIteration") [] >>= _) _ _ _;refine wpAny_bind ?_;simp only[newExc,newTuple];refine wpAny_bind (wpAny_newObj_type ?_ (by size_fits));refine wpAny_bind (m:=firstArgMember _ _) (wpAny_of_eq (a:=Value.none) (by first |rfl | (simp only[firstArgMember];rfl)) ?_);refine wpAny_newObj_type ?_ (by size_fits);simp only[raiseNew];refine wpAny_bind (wpAny_handled ?_)
 first |rw [show A.in1.handled=none from hh] |rw [hh]
 refine wpAny_bind (wpAny_pure (wpAny_throw ?_));exact hE _ _ (((Heap.SameBut.update ..).extBut.push _).push _) ⟨_,Heap.get?_push_size _ rfl,rfl⟩
theorem zeC{k:Bool}{it t:Addr}{i:Nat}{its:Array Value}{x:Value}{Q:Value→Shared→Prop}(hit:SeqIt k s.heap it t i) (ht:SeqIs k s.heap t its) (hx:its[i]? =some x)
  (hQ:∀g,SeqIt k g it t (i+1)→Heap.SameBut it s.heap g→Q x { s with heap:=g }):wpAny (model prog w) A (Builtin.SmallTypes.nextOf (.ref it)) Q E s:=by
 cases k with
 |true=>exact wpAny_nextOf_list_item hit ht hx hQ
 |false=>exact zfs hit ht hx hQ
theorem zgx{k:Bool}{it t:Addr}{i:Nat}{its:Array Value}{Q:Value→Shared→Prop}(hh:A.handled=none) (hit:SeqIt k s.heap it t i) (ht:SeqIs k s.heap t its) (hx:its[i]? =none)
  (hE:∀g e,Heap.ExtBut it s.heap g→(∃o,g.get? e=some o∧o.cls= .type "StopIteration")→E (.ref e) { s with heap:=g }):wpAny (model prog w) A (Builtin.SmallTypes.nextOf (.ref it)) Q E s:=by
 cases k with
 |true=>exact wpAny_nextOf_list_end hh hit ht hx hE
 |false=>exact zfV hh hit ht hx hE
theorem zlu{k:Bool}{e it l:Addr}{i:Nat}{its:Array Value}{x old:Value}{Q:Option Value→Shared→Prop}
  (he:IsEnum s.heap e it i old) (hit:SeqIt k s.heap it l i) (hl:SeqIs k s.heap l its) (hx:its[i]? =some x) (hne:e≠it)
  (hQ:∀g,IsEnumOut g e it ((i:Int)+1) x s.heap.objs.size→SeqIt k g it l (i+1)→g.get? s.heap.objs.size=some { cls:= .type "tuple",data:= .seq #[.int i s.toks,x] }→g.objs.size=s.heap.objs.size+1→
   (∀b o,b≠e→b≠it→s.heap.get? b=some o→g.get? b=some o)→Q (some (.ref s.heap.objs.size)) { s with heap:=g,toks:=s.toks+1 }):wpAny (model prog w) A (pyNext (.ref e)) Q E s:=by
 have hT:s.TypeIs (.ref e) "enumerate" :=⟨_,he,rfl⟩;unfold pyNext;refine wpAny_bind (wpAny_attempt (wpAny_callSpecial?_slot (name:=Str.ofString "__next__") hT PySem.F.slot_enumerate_next (wpAny_call_entry PySem.F.slot_enumerate_next hT PySem.F.entry_enumerate_next ?_ (PySem.F.args_enumerate_next_1 _))));obtain⟨hp,g,d,tk,os⟩:=s;show wpAny _ _ (field (.ref e) 2 >>= _) _ _ _;refine wpAny_bind (wpAny_field he rfl (x:= .ref it) rfl ?_);refine wpAny_bind (zeC hit hl hx fun g1 hit1 hs1=>?_);replace hs1:Heap.SameBut it hp g1:=hs1;have he1:IsEnum g1 e it i old:=(hs1.2 e hne).trans he;show wpAny _ _ (field (.ref e) 3 >>= _) _ _ ⟨g1,g,d,tk,os⟩;refine wpAny_bind (wpAny_field he1 rfl (x:=rawInt i) rfl ?_);show wpAny _ _ (field (.ref e) 4 >>= _) _ _ ⟨g1,g,d,tk,os⟩;refine wpAny_bind (wpAny_field he1 rfl (x:= .none) rfl ?_);show wpAny _ _ (mkInt i >>= _) _ _ ⟨g1,g,d,tk,os⟩;refine wpAny_bind (wpAny_mkInt ?_);show wpAny _ _ (setField (.ref e) 3 (rawInt ((i:Int)+1)) >>= _) _ _ ⟨g1,g,d,tk+1,os⟩;refine wpAny_bind (wpAny_setField_rec he1 (by simp) fun g2 he2 hs2=>?_);replace hs2:Heap.SameBut e g1 g2:=hs2;replace he2:IsEnum g2 e it ((i:Int)+1) old:=he2;show wpAny _ _ (setField (.ref e) 4 .none >>= _) _ _ ⟨g2,g,d,tk+1,os⟩;refine wpAny_bind (wpAny_setField_rec he2 (by simp) fun g3 he3 hs3=>?_);replace hs3:Heap.SameBut e g2 g3:=hs3;replace he3:IsEnum g3 e it ((i:Int)+1) old:=he3;show wpAny _ _ (newTuple [.int i tk,x] >>= _) _ _ ⟨g3,g,d,tk+1,os⟩;refine wpAny_bind (wpAny_newTuple ?_);have he4:IsEnum (g3.push { cls:= .type "tuple",data:= .seq #[.int i tk,x] }) e it ((i:Int)+1) old:=Heap.get?_push_of_some _ he3;generalize hg4:g3.push { cls:= .type "tuple",data:= .seq #[.int i tk,x] }=g4 at he4;have hsz:g3.objs.size=hp.objs.size:=by rw [hs3.1,hs2.1,hs1.1]
 have hel:e<hp.objs.size:=Heap.lt_size he;have ht4:g4.get? hp.objs.size=some { cls:= .type "tuple",data:= .seq #[.int i tk,x] }:=by rw [←hg4,←hsz];exact Heap.get?_push_size _ rfl
 have hz4:g4.objs.size=hp.objs.size+1:=by rw [←hg4,Heap.size_push,hsz]
 have hk4:∀b o,b≠e→b≠it→hp.get? b=some o→g4.get? b=some o:=fun b o hbe hbi hb=>by rw [←hg4];exact Heap.get?_push_of_some _ (hs3.extBut b o hbe (hs2.extBut b o hbe (hs1.extBut b o hbi hb)))
 have hit4:SeqIt k g4 it l (i+1):=by rw [←hg4];exact hit1.at fun o ho=>Heap.get?_push_of_some _ (hs3.extBut it o (Ne.symm hne) (hs2.extBut it o (Ne.symm hne) ho))
 show wpAny _ _ (Builtin.SmallTypes.ownedTupleIsFree (.ref e) >>= _) _ _ ⟨g4,g,d,tk+1,os⟩;rw [hsz];clear hg4 he3 hs3 he2 hs2 he1 hs1 hit1 hsz g3 g2 g1;refine wpAny_bind ?_;unfold Builtin.SmallTypes.ownedTupleIsFree;refine wpAny_bind (wpAny_field he4 rfl (x:= .none) rfl (wpAny_pure ?_));simp only[if_true];refine wpAny_bind (wpAny_rule ?_);refine wpAny_bind (wpAny_field he4 rfl (x:=old) rfl ?_);refine wpAny_bind (wpAny_setField_rec he4 (by simp) fun g5 he5 hs5=>?_);replace hs5:Heap.SameBut e g4 g5:=hs5;replace he5:IsEnum g5 e it ((i:Int)+1) x:=he5;show wpAny _ _ (Builtin.SmallTypes.ownedTupleHandOut (.ref e) (.ref hp.objs.size) >>= _) _ _ ⟨g5,g,d,tk+1,os⟩;refine wpAny_bind ?_;unfold Builtin.SmallTypes.ownedTupleHandOut;refine wpAny_bind (wpAny_setField_rec he5 (by simp) fun g6 he6 hs6=>?_);replace hs6:Heap.SameBut e g5 g6:=hs6;replace he6:IsEnumOut g6 e it ((i:Int)+1) x hp.objs.size:=he6;refine wpAny_setField_rec he6 (by simp) fun g7 he7 hs7=>?_;replace hs7:Heap.SameBut e g6 g7:=hs7;replace he7:IsEnumOut g7 e it ((i:Int)+1) x hp.objs.size:=he7;refine wpAny_bind (wpAny_letGo (wpAny_pure ⟨_,rfl,wpAny_pure (hQ g7 he7 ?_ ?_ ?_ ?_)⟩))
 ·exact hit4.at fun o ho=>hs7.extBut it o (Ne.symm hne) (hs6.extBut it o (Ne.symm hne) (hs5.extBut it o (Ne.symm hne) ho))
 ·exact hs7.extBut _ _ (Nat.ne_of_gt hel) (hs6.extBut _ _ (Nat.ne_of_gt hel) (hs5.extBut _ _ (Nat.ne_of_gt hel) ht4))
 ·rw [hs7.1,hs6.1,hs5.1,hz4]
 ·exact fun b o hbe hbi hb=>hs7.extBut b o hbe (hs6.extBut b o hbe (hs5.extBut b o hbe (hk4 b o hbe hbi hb)))
theorem zoz{k:Bool}{e it l:Addr}{i:Nat}{its:Array Value}{old:Value}{Q:Option Value→Shared→Prop}(hh:A.handled=none)
  (he:IsEnum s.heap e it i old) (hit:SeqIt k s.heap it l i) (hl:SeqIs k s.heap l its) (hx:its[i]? =none) (hQ:∀g,Heap.ExtBut it s.heap g→Q none { s with heap:=g }):wpAny (model prog w) A (pyNext (.ref e)) Q E s:=by
 have hT:s.TypeIs (.ref e) "enumerate" :=⟨_,he,rfl⟩;unfold pyNext;refine wpAny_bind (wpAny_attempt (wpAny_callSpecial?_slot (name:=Str.ofString "__next__") hT PySem.F.slot_enumerate_next (wpAny_call_entry PySem.F.slot_enumerate_next hT PySem.F.entry_enumerate_next ?_ (PySem.F.args_enumerate_next_1 _))));show wpAny _ _ (field (.ref e) 2 >>= _) _ _ _;refine wpAny_bind (wpAny_field he rfl (x:= .ref it) rfl ?_);refine wpAny_bind (zgx hh hit hl hx fun g x he' hx'=>?_);obtain⟨o,ho,hc⟩:=hx';refine wpAny_bind (wpAny_isInstance (T:= "StopIteration") (b:=true) ⟨o,ho,hc⟩ isSubtype_stop ?_);exact wpAny_pure (hQ _ he')
end
noncomputable def zdz (k:Bool) (a:Addr):Obj:={ cls:= .type (if k=true then "list_iterator" else "tuple_iterator"),data:= .fields #[.ref a, .int 0 0] }
theorem zgy{k:Bool}{h:Heap}{it a:Addr}(e:h.get? it=some (zdz k a)):SeqIt k h it a 0:=by
 cases k with
 |true=>exact⟨_,e,rfl,rfl⟩
 |false=>exact⟨_,e,rfl,rfl⟩
theorem zeM{k:Bool}{a:Addr}:(zdz k a).isFreed=false:=by cases k<;>rfl
section
variable {prog:Program}{w:World}{A:Around}{E:Value→Shared→Prop}{s:Shared}
theorem zgz{k:Bool}{a:Addr}{its:Array Value}{Q:Value→Shared→Prop}(ha:SeqIs k s.heap a its) (hQ:Q (.ref s.heap.objs.size) { s with heap:=s.heap.push (zdz k a) }):wpAny (model prog w) A (pyIter (.ref a)) Q E s:=by
 cases k with
 |true=>exact wpAny_pyIter_list ha hQ
 |false=>exact wpAny_pyIter_tuple ha hQ
end
theorem SeqIs.push{k:Bool}{h:Heap}{a:Addr}{its:Array Value}(x:SeqIs k h a its) (o:Obj):SeqIs k (h.push o) a its:=x.at fun _ e=>Heap.get?_push_of_some _ e
theorem zkI{k:Bool}(l:Addr) (its:Array Value) :
  PySem.Meets (Builtin.«enumerate.__new__» ⟨[.type "enumerate", .ref l],[]⟩) (fun _ R s=>SeqIs k s.heap l its∧
   R (.ok (.ret (.ref (s.heap.push (zdz k l)).objs.size))) { s with heap:=(s.heap.push (zdz k l)).push { cls:= .type "enumerate",data:= .fields #[.none, .bool false, .ref s.heap.objs.size,rawInt 0, .none, .none] } }):=
 .of_wp fun prog w A R s h=>by
  obtain⟨hp,g,d,tk,os⟩:=s;obtain⟨hl,h⟩:=h;have hsub:=sub_enumerate;have hL:SeqIs k (Shared.heap ⟨hp,g,d,tk,os⟩) l its:=hl;have fin:∀{A:Around}{E:Value→Shared→Prop}{Q:Value→Shared→Prop},Q (.ref hp.objs.size) ⟨hp.push (zdz k l),g,d,tk,os⟩→wpAny (model prog w) A (pyIter (.ref l)) Q E ⟨hp,g,d,tk,os⟩:=fun q=>zgz hL q
  wp_walk
  refine wpAny_stack_any fun st=>wpAny_pure ?_;split
  ·rename_i c _ _ _ _ _;cases(c == Value.type "enumerate")
   ·wp_walk using fin
    exact⟨_,rfl,h⟩
   ·wp_walk using fin
    exact⟨_,rfl,h⟩
  ·wp_walk using fin
   exact⟨_,rfl,h⟩
section
variable {prog:Program}{w:World}{A:Around}{E:Value→Shared→Prop}{s:Shared}
theorem znA{k:Bool}{l:Addr}{its:Array Value}{Q:Value→Shared→Prop}(hL:SeqIs k s.heap l its)
  (h:∀g,IsEnum g (s.heap.objs.size+1) s.heap.objs.size 0 .none→SeqIt k g s.heap.objs.size l 0→g.objs.size=s.heap.objs.size+2→(∀b o,s.heap.get? b=some o→g.get? b=some o)→Q (.ref (s.heap.objs.size+1)) { s with heap:=g }) :
  wpAny (model prog w) A (call (.type "enumerate") [.ref l]) Q E s:=by
 refine callType_new PySem.F.called_enumerate (by decide) (PySem.F.typeCall_enumerate_1 _) (PySem.F.newCall_enumerate_1 _) (fun obj=>PySem.F.args_object_init_2 obj _) PySem.F.entry_enumerate_new (zkI (k:=k) l its) ⟨hL,?_⟩;have hz:(s.heap.push (zdz k l)).objs.size=s.heap.objs.size+1:=Heap.size_push ..;show _∧_;rw [hz];have he:IsEnum ((s.heap.push (zdz k l)).push { cls:= .type "enumerate",data:= .fields #[.none, .bool false, .ref s.heap.objs.size,rawInt 0, .none, .none] }) (s.heap.objs.size+1) s.heap.objs.size 0 .none:=by
  have:=Heap.get?_push_size (s.heap.push (zdz k l)) (o:={ cls:= .type "enumerate",data:= .fields #[.none, .bool false, .ref s.heap.objs.size,rawInt 0, .none, .none] }) rfl;rw [hz]at this;exact this
 exact⟨⟨_,he,rfl⟩,h _ he (zgy (Heap.get?_push_of_some _ (Heap.get?_push_size _ zeM))) (by rw [Heap.size_push,hz]) fun b o x=>Heap.get?_push_of_some _ (Heap.get?_push_of_some _ x)⟩
end
section
variable {X:Cx}{pins:List (Addr×Obj)}{σ:St}{H:Hp}{s:Shared}{g:Heap}{fp:List Addr}
theorem Inv.turnNew{p:Addr}{o:HO}{t':Nat}(I:Inv X pins σ H s) (hp:s.heap.objs.size≤p) (k:∀b u,b∉fp→s.heap.get? b=some u→g.get? b=some u) (hf:∀b∈fp,zhi X pins H b) (new:ObjOk X.prog X.w (upd H p o) g p o) :
  Inv X pins σ (upd H p o) { s with heap:=g,toks:=t' }:=by
 have hn:=I.hok.fresh hp;have lt:∀{b u},s.heap.get? b=some u→b≠p:=fun e=>Nat.ne_of_lt (Nat.lt_of_lt_of_le (Heap.lt_size e) hp);have nfp:∀{b u},H b=some u→b∉fp:=fun e z=>by rw [(hf _ z).1]at e;cases e
 refine I.call (g':=s.gens) (d':=s.drawn) (ch:=fp) ⟨fun b u e _ _ hx=>k b u hx e,fun b u e _ _ hx=>⟨u.slots,k b u hx e⟩,fun b u e n _=>by rw [zau (lt e)];exact n,fun b u e hx=>⟨u,k b u hx e⟩,
  fun b xs e=>by rw [zau (zaq e hn)];exact e,fun b u xs e=>by rw [zau (zaq e hn)];exact e,fun b ps e=>⟨#[],by rw [zau (zaq e hn),e];simp⟩⟩ (fun b u e=>?_) I.bare fun b hb=>⟨(hf b hb).2.2.2.1,(hf b hb).2.1,(hf b hb).2.2.2.2.1,(hf b hb).2.2.2.2.2⟩
 by_cases hb:b=p
 ·subst hb;rw [zat]at e;cases e;exact new
 ·rw [zau hb]at e;refine(I.hok b u e).stay (fun c v hc q=>k c v ?_ q) (fun c q=>by rw [zau (zaq q hn)];exact q) fun c xs q=>by rw [zau (zaq q hn)];exact q
  rcases hc with rfl |hc
  ·exact nfp e
  ·exact nfp hc
theorem Inv.turnedL{t':Nat}(I:Inv X pins σ H s) (k:∀b u,b∉fp→s.heap.get? b=some u→g.get? b=some u) (hf:∀b∈fp,zhi X pins H b):Inv X pins σ H { s with heap:=g,toks:=t' }:=by
 have nfp:∀{b u},H b=some u→b∉fp:=fun e z=>by rw [(hf _ z).1]at e;cases e
 refine I.call (g':=s.gens) (d':=s.drawn) (ch:=fp) ⟨fun b u e _ _ hx=>k b u hx e,fun b u e _ _ hx=>⟨u.slots,k b u hx e⟩,fun b u e n _=>n,fun b u e hx=>⟨u,k b u hx e⟩,
  fun b xs e=>e,fun b u xs e=>e,fun b ps e=>⟨#[],by rw [e];simp⟩⟩ (fun b u e=>?_) I.bare fun b hb=>⟨(hf b hb).2.2.2.1,(hf b hb).2.1,(hf b hb).2.2.2.2.1,(hf b hb).2.2.2.2.2⟩
 refine(I.hok b u e).stay (fun c v hc q=>k c v ?_ q) (fun c q=>q) fun c xs q=>q;rcases hc with rfl |hc
 ·exact nfp e
 ·exact nfp hc
noncomputable def SqK (k:Bool) (K:PySem.W.Frag) (H:Hp) (a:Addr) (xs:List V):Prop:=if k=true then SqL K H a xs else SqT K H a xs
theorem Inv.seq{k:Bool}{a:Addr}{xs:List V}(I:Inv X pins σ H s) (h:SqK k X.K H a xs):∃its:List Value,Vals xs its∧SeqIs k s.heap a its.toArray∧xs.length≤sizeLine:=by
 cases k with
 |true=>obtain⟨its,r,p,z⟩:=I.list h;exact⟨its,r,p.isList,z⟩
 |false=>obtain⟨its,r,p,z⟩:=I.tuple h;exact⟨its,r,p,z⟩
theorem Inv.seq_inj{k:Bool}{a:Addr}{xs ys:List V}(I:Inv X pins σ H s) (h:SqK k X.K H a xs) (h':SqK k X.K H a ys):xs=ys:=by
 cases k with
 |true=>exact I.list_inj h h'
 |false=>exact I.tuple_inj h h'
end
noncomputable def Ite (k:Bool) (K:PySem.W.Frag) (a:Addr):It:=
 ⟨fun i H=>∃xs x,SqK k K H a xs∧xs[i]? =some x,fun i H v H'=>∃p x,H p=none∧v= .ref p∧H'=upd H p (.tup [.int i,x])∧ ∀xs,SqK k K H a xs→xs[i]? =some x,fun i H=>∃xs,SqK k K H a xs∧xs.length≤i⟩
theorem znz{P:Program}{w:World}{K:PySem.W.Frag}{es:List Expr}{x1:Nat}{pos:Pos}(k:Bool) (a e it:Addr) (hne:e≠it):Turn P w K (.Tuple es x1 pos) (Ite k K a) [e,it] e (fun i h=>(∃old,IsEnum h e it (i:Nat) old)∧SeqIt k h it a i) where
  mem:=by simp
  obj:=fun i h ⟨⟨old,he⟩,hit⟩ b hb=>by
    rcases List.mem_cons.mp hb with rfl |hb
    · exact⟨_,he,fun v z=>by cases z⟩
    · have q:b=it:=by simpa using hb
      subst q;obtain⟨o,vs,e,d⟩:=hit.ob;exact⟨o,e,fun v z=>by rw [d]at z;cases z⟩
  keep:=fun i h h' ⟨⟨old,he⟩,hit⟩ kk=>⟨⟨old,kk e (by simp) _ he⟩,hit.at fun o q=>kk it (by simp) o q⟩
  item:=by
    intro X hP hw hK hc i pins s σ H E I hf st hg;subst hP hw hK;obtain⟨xs,x,hq,hx⟩:=hg;obtain⟨⟨old,he⟩,hit⟩:=st;obtain⟨its,rv,p,hz⟩:=I.seq hq;obtain⟨u,hu,ru⟩:=rv.get hx;refine zlu he hit p (x:=u) (by simpa using hu) hne fun g ho hit' ht hz' kk=>⟨_,rfl,?_⟩;refine wpAny_letOwnedTupleGo_enum ho fun g2 he2 hs2=>?_;have hlt:s.heap.objs.size≠e:=Nat.ne_of_gt (Heap.lt_size he);have kk2:∀b o,b∉ [e,it]→s.heap.get? b=some o→g2.get? b=some o:=fun b o hb q=>by
      have h1:b≠e:=fun z=>hb (by simp [z]);have h2:b≠it:=fun z=>hb (by simp [z]);exact(hs2.2 b h1).trans (kk b o h1 h2 q)
    have hn:=I.hok.fresh (Nat.le_refl s.heap.objs.size);have ht2:g2.get? s.heap.objs.size=some { cls:= .type "tuple",data:= .seq #[.int i s.toks,u] }:=(hs2.2 _ hlt).trans ht;refine⟨.ref s.heap.objs.size,upd H s.heap.objs.size (.tup [.int i,x]),I.turnNew (fp:=[e,it]) (t':=s.toks+1) (Nat.le_refl _) kk2 hf ⟨by show 2≤sizeLine;rw [sizeLine_eq];decide,[.int i s.toks,u], .cons ⟨_,rfl⟩ (.cons ru .nil),⟨_,ht2,rfl,_,rfl⟩⟩,rfl,
      ⟨_,x,hn,rfl,rfl,fun ys hy=>by rw [I.seq_inj hy hq];exact hx⟩,⟨⟨u,by simpa using he2⟩,hit'.at fun o q=>(hs2.2 it (Ne.symm hne)).trans q⟩,fun b hb=>?_⟩
    have hb':=(hf b hb).1;have:b≠s.heap.objs.size:=by
      rcases List.mem_cons.mp hb with rfl |hb
      · exact Ne.symm hlt
      · have q:b=it:=by simpa using hb
        subst q;obtain⟨o,vs,e,d⟩:=hit.ob;exact Nat.ne_of_lt (Heap.lt_size e)
    rw [zau this];exact hb'
  done:=by
    intro X hP hw hK hc i pins s σ H E I hf st hg;subst hP hw hK;obtain⟨xs,hq,hx⟩:=hg;obtain⟨⟨old,he⟩,hit⟩:=st;obtain⟨its,rv,p,hz⟩:=I.seq hq;have hl:=rv.length;exact zoz (I.ok.hd hc) he hit p (by simp;omega) fun g eb=>⟨rfl,I.turnedL (fp:=[e,it]) (t':=s.toks) (fun b o hb q=>eb b o (fun z=>hb (by simp [z])) q) hf⟩
  self:=fun A i s Q E ⟨⟨old,he⟩,hit⟩ h=>wpAny_pyIter_enum he h
section
variable {X:Cx}{es:List Expr}{x1:Nat}{tpos:Pos}
noncomputable def zvx (K:PySem.W.Frag) (ta:TA):TI:=fun σ H R=>ta σ H fun vs H1=>∃k a xs,vs=[.ref a]∧SqK k K H1 a xs∧R (Ite k K a) H1
theorem zqB{a:Expr}{ta:TA}{p pos:Pos}(hg:Gl X "enumerate") (hm:X.mg "enumerate" =none) (ha:PA X [a] ta) (hs:starEach [a] X.env=[(false,eval a X.env)]:=by rfl):PI X (.Tuple es x1 tpos) (.Call (.Name "enumerate" p) [a] [] pos) (zvx X.K ta):=by
 intro pins s σ H R I h;refine Call_ (zdJ I hg hm boot_enumerate (PyProof.Rows.callWith_type1 (thn (ha pos pins s σ H _ I h) fun us s1 ⟨vs,H1,I1,r1,q1⟩=>?_) hs rfl));obtain⟨k,a,xs,e,hq,q⟩:=q1;subst e;cases r1 with
 |cons r rr=>
  cases rr;cases(show _=Value.ref a from r);obtain⟨its,rv,pl,hz⟩:=I1.seq hq;refine znA pl fun g he hit hz' kk=>wpAny_pyIter_enum he ?_;have I2:Inv X pins σ H1 { s1 with heap:=g }:=I1.kept (t':=s1.toks) kk;refine⟨s1.heap.objs.size+1,[s1.heap.objs.size+1,s1.heap.objs.size],_,_,H1,rfl,I2,znz k a _ _ (Nat.succ_ne_self _),⟨⟨.none,he⟩,hit⟩,fun b hb=>?_,q⟩;have hb':s1.heap.objs.size≤b:=by
   rcases List.mem_cons.mp hb with rfl |hb
   ·exact Nat.le_succ _
   ·have q:b=s1.heap.objs.size:=by simpa using hb
    exact Nat.le_of_eq q.symm
  exact I1.fpOk hb' (I1.hok.fresh hb')
noncomputable def nums:Nat→List W→List W
 |_,[]=>[]
 |n,w::ws=> .tup [.int n,w]::nums (n+1) ws
theorem zhd:∀{ws:List W}{n i:Nat}{u:W},(nums n ws)[i]? =some u→ ∃w,ws[i]? =some w∧u= .tup [.int ((n+i:Nat):Int),w]
 | [],_,_,_,h=>by simp [nums]at h
 |w::ws,n,0,u,h=>by
  simp [nums]at h;exact⟨w,rfl,by rw [←h];rfl⟩
 |w::ws,n,i+1,u,h=>by
  obtain⟨w',e,q⟩:=zhd (ws:=ws) (n:=n+1) (i:=i) (u:=u) (by simpa [nums]using h);refine⟨w',by simpa using e,?_⟩
  rw [q,show n+1+i=n+(i+1) by omega]
theorem zfp:∀{ws:List W}{n:Nat},(nums n ws).length=ws.length
 | [],_=>rfl
 |w::ws,n=>by simp [nums,zfp (ws:=ws)]
theorem zrb{K:PySem.W.Frag}{k:Bool}{a:Addr}{ws:List W}{G:Sto→Prop}{H0:Hp}{S0:Sto}(h:∀S H,Ext H0 S0 H S→RepS K H S→G S→ ∃vs,SqK k K H a vs∧Reps K H ws vs):ItW K (Ite k K a) (nums 0 ws) G H0 S0:=fun i S H e hS hG=>by
 obtain⟨vs,hq,r⟩:=h S H e hS hG;refine⟨fun u eu=>?_,fun hl=>⟨vs,hq,by rw [←r.length,hl,zfp];exact Nat.le_refl _⟩⟩
 obtain⟨w,ew,rfl⟩:=zhd eu;obtain⟨v,ev,rv⟩:=r.get ew;refine⟨⟨vs,v,hq,ev⟩,fun x H' ⟨p,y,hp,e1,e2,e3⟩=>?_⟩;subst e1 e2;have e4:=e3 vs hq;rw [ev]at e4;cases e4;rw [Nat.zero_add];exact⟨.new hp,hS.new hp, .tup zat (.cons (.int _) (.cons (rv.ext (.new (S:=S) hp)) .nil))⟩
noncomputable def znR:W→Sto→(List W→(Sto→Prop)→Prop)→Prop
 | .tup ws,_,Q=>Q ws fun _=>True
 | .ref a,S,Q=>zbN S a fun ws=>Q ws fun S'=>S' a=some (.lst ws)
 | .scr ns,_,Q=>Q (ns.map W.int) fun _=>True
 |_,_,_=>False
theorem zrk{K:PySem.W.Frag}{H:Hp}{S:Sto}{w:W}{v:V}{Q:List W→(Sto→Prop)→Prop}(r:Rep K H w v) (hS:RepS K H S) (h:znR w S Q) :
  ∃k a ws G,v= .ref a∧G S∧(∀S' H',Ext H S H' S'→RepS K H' S'→G S'→ ∃vs,SqK k K H' a vs∧Reps K H' ws vs)∧Q ws G:=by
 cases r with
 |tup f hs=>exact⟨false,_,_,_,rfl,trivial,fun S' H' e hS' _=>⟨_, .of (e.tup _ _ f),hs.ext e⟩,h⟩
 |ref a=>
  obtain⟨ws,ea,h⟩:=zaS h;exact⟨true,_,ws,_,rfl,ea,fun S' H' e hS' g=>by
   obtain⟨vs,f,hs⟩:=hS' a _ g;exact⟨vs, .of f,hs⟩,h⟩
 |scr f=>exact⟨true,_,_,_,rfl,trivial,fun S' H' e hS' _=>⟨_,(e.fz f).sq,Reps.ofInts _⟩,h⟩
 |_=>exact h.elim
noncomputable def znH (t:WE):WI:=fun E σ S Q=>t E σ S fun w S1=>znR w S1 fun ws G=>Q (nums 0 ws) G S1
theorem zjh{a:Expr}{ta:WE}{p pos:Pos}(hg:Gl X "enumerate") (hm:X.mg "enumerate" =none) (ha:JE X a ta) (hs:starEach [a] X.env=[(false,eval a X.env)]:=by rfl) (hs2:starEach [a] X.env=(false,eval a X.env)::starEach [] X.env:=by rfl):JI X (.Tuple es x1 tpos) (.Call (.Name "enumerate" p) [a] [] pos) (znH ta):=fun E hE=>
 (zqB hg hm (zbu (ha E hE) pa_nil hs2) hs).mono fun σ H R ⟨σW,S,QW,hσ,hS,ht,hR⟩=>⟨σW,S,_,hσ,hS,ht,fun w S1 v H1 e1 r1 hS1 h1=>by
  obtain⟨k,a,ws,G,rfl,hG,hq,h⟩:=zrk r1 hS1 h1;obtain⟨vs,hv,_⟩:=hq S1 H1 .refl hS1 hG;exact⟨k,a,vs,rfl,hv,hR _ _ S1 _ H1 e1 hS1 hG (zrb hq) h⟩⟩
end
section
variable {prog:Program}{w:World}{A:Around}{E:Value→Shared→Prop}{s:Shared}
theorem zoV{k1 k2:Bool}{z TI TO i1 i2 l1 l2:Addr}{n1 n2:Nat}{xs ys:Array Value}{x y a b:Value}{Q:Option Value→Shared→Prop}(D:ZipApart z TI TO i1 i2 l1 l2)
  (hz:IsZip s.heap z TI TO .none) (hTI:IsPair s.heap TI (.ref i1) (.ref i2)) (hTO:IsPair s.heap TO a b) (h1:SeqIt k1 s.heap i1 l1 n1) (h2:SeqIt k2 s.heap i2 l2 n2) (hl1:SeqIs k1 s.heap l1 xs) (hl2:SeqIs k2 s.heap l2 ys) (hx:xs[n1]? =some x) (hy:ys[n2]? =some y)
  (hQ:∀g,IsZip g z TI TO (rawInt s.heap.objs.size)→IsPair g TO x y→SeqIt k1 g i1 l1 (n1+1)→SeqIt k2 g i2 l2 (n2+1)→IsPair g s.heap.objs.size x y→g.objs.size=s.heap.objs.size+1→
   (∀c o,c≠z→c≠TO→c≠i1→c≠i2→s.heap.get? c=some o→g.get? c=some o)→Q (some (.ref s.heap.objs.size)) { s with heap:=g }):wpAny (model prog w) A (pyNext (.ref z)) Q E s:=by
 have hT:s.TypeIs (.ref z) "zip" :=⟨_,hz,rfl⟩;unfold pyNext;refine wpAny_bind (wpAny_attempt (wpAny_callSpecial?_slot (name:=Str.ofString "__next__") hT PySem.F.slot_zip_next (wpAny_call_entry PySem.F.slot_zip_next hT PySem.F.entry_zip_next ?_ (PySem.F.args_zip_next_1 _))));show wpAny _ _ (field (.ref z) 2 >>= _) _ _ _;refine wpAny_bind (wpAny_field hz rfl (x:= .bool false) rfl ?_);show wpAny _ _ (field (.ref z) 3 >>= _) _ _ _;refine wpAny_bind (wpAny_field hz rfl (x:= .ref TI) rfl ?_);refine wpAny_bind (wpAny_seqItems hTI rfl ?_);show wpAny _ _ (Builtin.SmallTypes.ownedTupleIsFree (.ref z) >>= _) _ _ _;refine wpAny_bind ?_;unfold Builtin.SmallTypes.ownedTupleIsFree;refine wpAny_bind (wpAny_field hz rfl (x:= .none) rfl (wpAny_pure ?_));simp only[if_true];refine wpAny_bind (wpAny_rule ?_);refine wpAny_bind (wpAny_field hz rfl (x:= .ref TO) rfl ?_);refine wpAny_bind (wpAny_setField_rec hz (by simp) fun g1 hz1 hs1=>?_);replace hz1:IsZip g1 z TI TO .ellipsis:=hz1;refine wpAny_bind ?_;simp only[List.zipIdx_cons,List.zipIdx_nil,List.forIn_cons,List.forIn_nil];refine wpAny_bind (wpAny_bind (wpAny_onRaise ?_));show wpAny _ _ (Builtin.SmallTypes.nextOf (.ref i1) >>= _) _ _ _;refine wpAny_bind (zeC (h1.at fun o e=>hs1.extBut _ o D.i1z e) (hl1.at fun o e=>hs1.extBut _ o D.l1z e) hx fun g2 h12 hs2=>wpAny_pure ?_);have hTO2:IsPair g2 TO a b:=hs2.extBut _ _ D.TOi1 (hs1.extBut _ _ D.TOz hTO);refine wpAny_bind (wpAny_seqItems hTO2 rfl ?_);refine wpAny_bind (wpAny_updateSeq_pair hTO2 fun g3 hTO3 hs3=>?_);replace hTO3:IsPair g3 TO x b:=hTO3;refine wpAny_bind (wpAny_letGo (wpAny_pure ?_));refine wpAny_bind (wpAny_bind (wpAny_onRaise ?_));show wpAny _ _ (Builtin.SmallTypes.nextOf (.ref i2) >>= _) _ _ _;refine wpAny_bind (zeC (h2.at fun o e=>hs3.extBut _ o D.TOi2.symm (hs2.extBut _ o D.i12.symm (hs1.extBut _ o D.i2z e))) (hl2.at fun o e=>hs3.extBut _ o D.l2TO (hs2.extBut _ o D.l2i1 (hs1.extBut _ o D.l2z e))) hy fun g4 h24 hs4=>wpAny_pure ?_);have hTO4:IsPair g4 TO x b:=hs4.extBut _ _ D.TOi2 hTO3;refine wpAny_bind (wpAny_seqItems hTO4 rfl ?_);refine wpAny_bind (wpAny_updateSeq_pair hTO4 fun g5 hTO5 hs5=>?_);replace hTO5:IsPair g5 TO x y:=hTO5;refine wpAny_bind (wpAny_letGo (wpAny_pure (wpAny_pure ?_)));refine wpAny_bind (wpAny_seqItems hTO5 rfl ?_);refine wpAny_bind (wpAny_newTuple ?_);have hsz:g5.objs.size=s.heap.objs.size:=by rw [hs5.1,hs4.1,hs3.1,hs2.1,hs1.1]
 have hz5:IsZip g5 z TI TO .ellipsis:=hs5.extBut _ _ D.TOz.symm (hs4.extBut _ _ D.i2z.symm (hs3.extBut _ _ D.TOz.symm (hs2.extBut _ _ D.i1z.symm hz1)));have hk5:∀c o,c≠z→c≠TO→c≠i1→c≠i2→s.heap.get? c=some o→g5.get? c=some o:=fun c o c1 c2 c3 c4 e=>hs5.extBut _ _ c2 (hs4.extBut _ _ c4 (hs3.extBut _ _ c2 (hs2.extBut _ _ c3 (hs1.extBut _ _ c1 e))));have h15:SeqIt k1 g5 i1 l1 (n1+1):=h12.at fun o e=>hs5.extBut _ o D.TOi1.symm (hs4.extBut _ o D.i12 (hs3.extBut _ o D.TOi1.symm e));have h25:SeqIt k2 g5 i2 l2 (n2+1):=h24.at fun o e=>hs5.extBut _ o D.TOi2.symm e;have hzlt:z<g5.objs.size:=Heap.lt_size hz5;show wpAny _ _ (Builtin.SmallTypes.ownedTupleHandOut (.ref z) (.ref g5.objs.size) >>= _) _ _ _;refine wpAny_bind ?_;unfold Builtin.SmallTypes.ownedTupleHandOut;have hz6:IsZip (g5.push { cls:= .type "tuple",data:= .seq #[x,y] }) z TI TO .ellipsis:=Heap.get?_push_of_some _ hz5;refine wpAny_bind (wpAny_setField_rec hz6 (by simp) fun g7 hz7 hs7=>?_);replace hz7:IsZip g7 z TI TO (rawInt g5.objs.size):=hz7;refine wpAny_setField_rec hz7 (by simp) fun g8 hz8 hs8=>?_;replace hz8:IsZip g8 z TI TO (rawInt g5.objs.size):=hz8;have up:∀c o,c≠z→g5.get? c=some o→g8.get? c=some o:=fun c o c1 e=>hs8.extBut _ _ c1 (hs7.extBut _ _ c1 (Heap.get?_push_of_some _ e));have hT8:IsPair g8 g5.objs.size x y:=hs8.extBut _ _ (Nat.ne_of_gt hzlt) (hs7.extBut _ _ (Nat.ne_of_gt hzlt) (Heap.get?_push_size _ rfl));have hzz:g8.objs.size=g5.objs.size+1:=by rw [hs8.1,hs7.1,Heap.size_push]
 rw [hsz]at hz8 hT8 hzz;refine wpAny_pure ⟨_,rfl,wpAny_pure ?_⟩;show Q (some (.ref g5.objs.size)) _;rw [hsz];exact hQ g8 hz8 (up _ _ D.TOz hTO5) (h15.at fun o e=>up _ o D.i1z e) (h25.at fun o e=>up _ o D.i2z e) hT8 hzz fun c o c1 c2 c3 c4 e=>up c o c1 (hk5 c o c1 c2 c3 c4 e)
theorem zqi{k1 k2:Bool}{z TI TO i1 i2 l1 l2:Addr}{n1 n2:Nat}{xs ys:Array Value}{a b:Value}{Q:Option Value→Shared→Prop}(hh:A.handled=none) (D:ZipApart z TI TO i1 i2 l1 l2)
  (hz:IsZip s.heap z TI TO .none) (hTI:IsPair s.heap TI (.ref i1) (.ref i2)) (hTO:IsPair s.heap TO a b) (h1:SeqIt k1 s.heap i1 l1 n1) (h2:SeqIt k2 s.heap i2 l2 n2) (hl1:SeqIs k1 s.heap l1 xs) (hl2:SeqIs k2 s.heap l2 ys) (hend:xs[n1]? =none∨ys[n2]? =none)
  (hQ:∀g,(∀c o,c≠z→c≠TO→c≠i1→c≠i2→s.heap.get? c=some o→g.get? c=some o)→Q none { s with heap:=g }):wpAny (model prog w) A (pyNext (.ref z)) Q E s:=by
 have hT:s.TypeIs (.ref z) "zip" :=⟨_,hz,rfl⟩;have fin:∀(g:Heap) (e:Addr),(∀c o,c≠z→c≠TO→c≠i1→c≠i2→s.heap.get? c=some o→g.get? c=some o)→(∃o,g.get? e=some o∧o.cls= .type "StopIteration")→
   wpAny (model prog w) A (do if(←isInstance (.ref e) (.type "StopIteration")) then pure none else throw (.ref e)) Q E { s with heap:=g }:=fun g e hk ⟨o,ho,hc⟩=>
  wpAny_bind (wpAny_isInstance (T:= "StopIteration") (b:=true) ⟨o,ho,hc⟩ isSubtype_stop (wpAny_pure (hQ _ hk)))
 unfold pyNext;refine wpAny_bind (wpAny_attempt (wpAny_callSpecial?_slot (name:=Str.ofString "__next__") hT PySem.F.slot_zip_next (wpAny_call_entry PySem.F.slot_zip_next hT PySem.F.entry_zip_next ?_ (PySem.F.args_zip_next_1 _))));show wpAny _ _ (field (.ref z) 2 >>= _) _ _ _;refine wpAny_bind (wpAny_field hz rfl (x:= .bool false) rfl ?_);show wpAny _ _ (field (.ref z) 3 >>= _) _ _ _;refine wpAny_bind (wpAny_field hz rfl (x:= .ref TI) rfl ?_);refine wpAny_bind (wpAny_seqItems hTI rfl ?_);show wpAny _ _ (Builtin.SmallTypes.ownedTupleIsFree (.ref z) >>= _) _ _ _;refine wpAny_bind ?_;unfold Builtin.SmallTypes.ownedTupleIsFree;refine wpAny_bind (wpAny_field hz rfl (x:= .none) rfl (wpAny_pure ?_));simp only[if_true];refine wpAny_bind (wpAny_rule ?_);refine wpAny_bind (wpAny_field hz rfl (x:= .ref TO) rfl ?_);refine wpAny_bind (wpAny_setField_rec hz (by simp) fun g1 hz1 hs1=>?_);replace hz1:IsZip g1 z TI TO .ellipsis:=hz1;refine wpAny_bind ?_;simp only[List.zipIdx_cons,List.zipIdx_nil,List.forIn_cons,List.forIn_nil];refine wpAny_bind (wpAny_bind (wpAny_onRaise ?_));show wpAny _ _ (Builtin.SmallTypes.nextOf (.ref i1) >>= _) _ _ _;cases hx:xs[n1]? with
 |none=>
  refine wpAny_bind (zgx hh (h1.at fun o e=>hs1.extBut _ o D.i1z e) (hl1.at fun o e=>hs1.extBut _ o D.l1z e) hx fun g2 e hs2 he=>?_);obtain⟨oe,hoe,hce⟩:=he;have hz2:IsZip g2 z TI TO .ellipsis:=hs2 _ _ D.i1z.symm hz1;have hez:e≠z:=fun x=>by subst x;rw [hz2]at hoe;cases hoe;simp at hce
  refine wpAny_setField_rec hz2 (by simp) fun g3 _ hs3=>fin g3 e (fun c o c1 _ c3 _ x=>hs3.extBut _ _ c1 (hs2 _ _ c3 (hs1.extBut _ _ c1 x))) ⟨oe,hs3.extBut _ _ hez hoe,hce⟩
 |some x=>
  have hy:ys[n2]? =none:=by rcases hend with h |h;rw [hx]at h;cases h;exact h
  refine wpAny_bind (zeC (h1.at fun o e=>hs1.extBut _ o D.i1z e) (hl1.at fun o e=>hs1.extBut _ o D.l1z e) hx fun g2 h12 hs2=>wpAny_pure ?_);have hTO2:IsPair g2 TO a b:=hs2.extBut _ _ D.TOi1 (hs1.extBut _ _ D.TOz hTO);refine wpAny_bind (wpAny_seqItems hTO2 rfl ?_);refine wpAny_bind (wpAny_updateSeq_pair hTO2 fun g3 hTO3 hs3=>?_);refine wpAny_bind (wpAny_letGo (wpAny_pure ?_));refine wpAny_bind (wpAny_bind (wpAny_onRaise ?_));show wpAny _ _ (Builtin.SmallTypes.nextOf (.ref i2) >>= _) _ _ _;refine wpAny_bind (zgx hh (h2.at fun o e=>hs3.extBut _ o D.TOi2.symm (hs2.extBut _ o D.i12.symm (hs1.extBut _ o D.i2z e))) (hl2.at fun o e=>hs3.extBut _ o D.l2TO (hs2.extBut _ o D.l2i1 (hs1.extBut _ o D.l2z e))) hy fun g4 e hs4 he=>?_);obtain⟨oe,hoe,hce⟩:=he;have hz4:IsZip g4 z TI TO .ellipsis:=hs4 _ _ D.i2z.symm (hs3.extBut _ _ D.TOz.symm (hs2.extBut _ _ D.i1z.symm hz1));have hez:e≠z:=fun x=>by subst x;rw [hz4]at hoe;cases hoe;simp at hce
  refine wpAny_setField_rec hz4 (by simp) fun g5 _ hs5=>fin g5 e (fun c o c1 c2 c3 c4 x=>hs5.extBut _ _ c1 (hs4 _ _ c4 (hs3.extBut _ _ c2 (hs2.extBut _ _ c3 (hs1.extBut _ _ c1 x))))) ⟨oe,hs5.extBut _ _ hez hoe,hce⟩
end
noncomputable abbrev zH1 (k1:Bool) (h:Heap) (l1:Addr):Heap:=h.push (zdz k1 l1)
noncomputable abbrev zH2 (k1 k2:Bool) (h:Heap) (l1 l2:Addr):Heap:=(zH1 k1 h l1).push (zdz k2 l2)
noncomputable abbrev zH3 (k1 k2:Bool) (h:Heap) (l1 l2:Addr):Heap:=(zH2 k1 k2 h l1 l2).push { cls:= .type "tuple",data:= .seq #[.ref h.objs.size, .ref (zH1 k1 h l1).objs.size] }
noncomputable abbrev zH4 (k1 k2:Bool) (h:Heap) (l1 l2:Addr):Heap:=(zH3 k1 k2 h l1 l2).push { cls:= .type "tuple",data:= .seq #[.none, .none] }
noncomputable abbrev zH5 (k1 k2:Bool) (h:Heap) (l1 l2:Addr):Heap:=(zH4 k1 k2 h l1 l2).push { cls:= .type "zip",data:= .fields #[.none, .bool false, .bool false, .ref (zH2 k1 k2 h l1 l2).objs.size, .ref (zH3 k1 k2 h l1 l2).objs.size] }
theorem zlb{k1 k2:Bool}(l1 l2:Addr) (xs ys:Array Value) :
  PySem.Meets (Builtin.«zip.__new__» ⟨[.type "zip", .ref l1, .ref l2],[]⟩) (fun _ R s=>SeqIs k1 s.heap l1 xs∧SeqIs k2 s.heap l2 ys∧R (.ok (.ret (.ref (zH4 k1 k2 s.heap l1 l2).objs.size))) { s with heap:=zH5 k1 k2 s.heap l1 l2 }):=
 .of_wp fun prog w A R s h=>by
  obtain⟨hp,g,d,tk,os⟩:=s;obtain⟨hl1,hl2,h⟩:=h;have hsub:=sub_zip;have f1:∀{A:Around}{E:Value→Shared→Prop}{Q:Value→Shared→Prop},Q (.ref hp.objs.size) ⟨hp.push (zdz k1 l1),g,d,tk,os⟩→wpAny (model prog w) A (pyIter (.ref l1)) Q E ⟨hp,g,d,tk,os⟩:=fun q=>zgz (s:=⟨hp,g,d,tk,os⟩) hl1 q;have f2:∀{A:Around}{E:Value→Shared→Prop}{Q:Value→Shared→Prop},Q (.ref (hp.push (zdz k1 l1)).objs.size) ⟨(hp.push (zdz k1 l1)).push (zdz k2 l2),g,d,tk,os⟩→wpAny (model prog w) A (pyIter (.ref l2)) Q E ⟨hp.push (zdz k1 l1),g,d,tk,os⟩:=fun q=>zgz (s:=⟨hp.push (zdz k1 l1),g,d,tk,os⟩) (hl2.push _) q
  wp_walk using f1,f2
  exact⟨_,rfl,h⟩
section
variable {prog:Program}{w:World}{A:Around}{E:Value→Shared→Prop}{s:Shared}
theorem znX{k1 k2:Bool}{l1 l2:Addr}{xs ys:Array Value}{Q:Value→Shared→Prop}(hl1:SeqIs k1 s.heap l1 xs) (hl2:SeqIs k2 s.heap l2 ys)
  (h:∀g,IsZip g (s.heap.objs.size+4) (s.heap.objs.size+2) (s.heap.objs.size+3) .none→IsPair g (s.heap.objs.size+2) (.ref s.heap.objs.size) (.ref (s.heap.objs.size+1))→
   IsPair g (s.heap.objs.size+3) .none .none→SeqIt k1 g s.heap.objs.size l1 0→SeqIt k2 g (s.heap.objs.size+1) l2 0→g.objs.size=s.heap.objs.size+5→
   (∀c o,s.heap.get? c=some o→g.get? c=some o)→Q (.ref (s.heap.objs.size+4)) { s with heap:=g }):wpAny (model prog w) A (call (.type "zip") [.ref l1, .ref l2]) Q E s:=by
 refine callType_new PySem.F.called_zip (by decide) (PySem.F.typeCall_zip_2 _ _) (PySem.F.newCall_zip_2 _ _) (fun obj=>PySem.F.args_object_init_3 obj _ _) PySem.F.entry_zip_new (zlb (k1:=k1) (k2:=k2) l1 l2 xs ys) ⟨hl1,hl2,?_⟩;have z1:(zH1 k1 s.heap l1).objs.size=s.heap.objs.size+1:=Heap.size_push ..;have z2:(zH2 k1 k2 s.heap l1 l2).objs.size=s.heap.objs.size+2:=by rw [Heap.size_push,z1]
 have z3:(zH3 k1 k2 s.heap l1 l2).objs.size=s.heap.objs.size+3:=by rw [Heap.size_push,z2]
 have z4:(zH4 k1 k2 s.heap l1 l2).objs.size=s.heap.objs.size+4:=by rw [Heap.size_push,z3]
 have z5:(zH5 k1 k2 s.heap l1 l2).objs.size=s.heap.objs.size+5:=by rw [Heap.size_push,z4]
 have g5:(zH5 k1 k2 s.heap l1 l2).get? (zH4 k1 k2 s.heap l1 l2).objs.size=some _:=Heap.get?_push_size _ rfl;have g4:(zH5 k1 k2 s.heap l1 l2).get? (zH3 k1 k2 s.heap l1 l2).objs.size=some _:=Heap.get?_push_of_some _ (Heap.get?_push_size _ rfl);have g3:(zH5 k1 k2 s.heap l1 l2).get? (zH2 k1 k2 s.heap l1 l2).objs.size=some _:=Heap.get?_push_of_some _ (Heap.get?_push_of_some _ (Heap.get?_push_size _ rfl));have g2:(zH5 k1 k2 s.heap l1 l2).get? (zH1 k1 s.heap l1).objs.size=some _:=Heap.get?_push_of_some _ (Heap.get?_push_of_some _ (Heap.get?_push_of_some _ (Heap.get?_push_size _ zeM)));have g1:(zH5 k1 k2 s.heap l1 l2).get? s.heap.objs.size=some _:=Heap.get?_push_of_some _ (Heap.get?_push_of_some _ (Heap.get?_push_of_some _ (Heap.get?_push_of_some _ (Heap.get?_push_size _ zeM))));show _∧_;rw [z2,z3,z4]at g5;rw [z1,z2]at g3;rw [z3]at g4;rw [z1]at g2;rw [z4];exact⟨⟨_,g5,rfl⟩,h _ g5 g3 g4 (zgy g1) (zgy g2) z5 fun c o x=>Heap.get?_push_of_some _ (Heap.get?_push_of_some _ (Heap.get?_push_of_some _ (Heap.get?_push_of_some _ (Heap.get?_push_of_some _ x))))⟩
end
noncomputable def SqZ (k:Bool) (K:PySem.W.Frag) (H:Hp) (a:Addr) (xs:List V):Prop:=if k=true then SqL K H a xs else H a=some (.tup xs)
theorem SqZ.sq{k:Bool}{K:PySem.W.Frag}{H:Hp}{a:Addr}{xs:List V}(h:SqZ k K H a xs):SqK k K H a xs:=by
 cases k with
 |true=>exact h
 |false=>exact .of h
theorem SeqIs.ob{k:Bool}{h:Heap}{a:Addr}{its:Array Value}(x:SeqIs k h a its):∃o n,h.get? a=some o∧o.data= .seq its n∧(k=true→o.cls= .type "list"):=by
 cases k with
 |true=>obtain⟨o,ho,hc,n,hd⟩:=(show h.IsList a its from x);exact⟨o,n,ho,hd,fun _=>hc⟩
 |false=>obtain⟨o,ho,hc,n,hd⟩:=(show h.IsTuple a its from x);exact⟨o,n,ho,hd,fun z=>by cases z⟩
theorem SeqIs.ne_fields{k:Bool}{h:Heap}{a b:Addr}{its:Array Value}{o:Obj}{vs:Array Value}(x:SeqIs k h a its) (e:h.get? b=some o) (d:o.data= .fields vs):a≠b:=fun z=>by
 subst z;obtain⟨o',n,ho,hd,_⟩:=x.ob;rw [ho]at e;cases e;rw [hd]at d;cases d
noncomputable def Itz (k1 k2:Bool) (K:PySem.W.Frag) (a b:Addr):It:=
  ⟨fun i H=>∃xs ys x y,SqZ k1 K H a xs∧SqZ k2 K H b ys∧xs[i]? =some x∧ys[i]? =some y,
   fun i H v H'=>∃p x y,H p=none∧v= .ref p∧H'=upd H p (.tup [x,y])∧(∀xs,SqZ k1 K H a xs→xs[i]? =some x)∧ ∀ys,SqZ k2 K H b ys→ys[i]? =some y,
   fun i H=>∃xs ys,SqZ k1 K H a xs∧SqZ k2 K H b ys∧(xs.length≤i∨ys.length≤i)⟩
structure ZipFar (z TI TO i1 i2:Addr):Prop where
  TIz:TI≠z
  TOz:TO≠z
  i1z:i1≠z
  i2z:i2≠z
  TITO:TI≠TO
  TIi1:TI≠i1
  TIi2:TI≠i2
  TOi1:TO≠i1
  TOi2:TO≠i2
  i12:i1≠i2
noncomputable def ztl (k1 k2:Bool) (z TI TO i1 i2 a b:Addr) (i:Nat) (h:Heap):Prop:=IsZip h z TI TO .none∧IsPair h TI (.ref i1) (.ref i2)∧(∃u v,IsPair h TO u v)∧SeqIt k1 h i1 a i∧SeqIt k2 h i2 b i
section
variable {X:Cx}{pins:List (Addr×Obj)}{σ:St}{H:Hp}{s:Shared}
theorem zhV{k1 k2:Bool}{z TI TO i1 i2 a b:Addr}{i:Nat}{xs ys:List V}(I:Inv X pins σ H s) (hTO:H TO=none) (D:ZipFar z TI TO i1 i2) (st:ztl k1 k2 z TI TO i1 i2 a b i s.heap) (ha:SqZ k1 X.K H a xs) (hb:SqZ k2 X.K H b ys):ZipApart z TI TO i1 i2 a b:=by
 obtain⟨hz,hTI,⟨u,v,hTOo⟩,h1,h2⟩:=st;obtain⟨o1,v1,e1,d1⟩:=h1.ob;obtain⟨o2,v2,e2,d2⟩:=h2.ob;obtain⟨its,_,pa,_⟩:=I.seq ha.sq;obtain⟨its2,_,pb,_⟩:=I.seq hb.sq;have nTO:∀{k:Bool}{c:Addr}{zs:List V}{its:Array Value},SqZ k X.K H c zs→SeqIs k s.heap c its→c≠TO:=fun {k c zs its} hc pc e=>by
  subst e;cases k with
  |false=>rw [show H c=some (.tup zs) from hc]at hTO;cases hTO
  |true=>
   obtain⟨o,n,ho,_,hcl⟩:=pc.ob;rw [hTOo]at ho;cases ho;have:=hcl rfl;simp at this
 exact⟨D.TIz,D.TOz,D.i1z,D.i2z,D.TITO,D.TIi1,D.TIi2,D.TOi1,D.TOi2,D.i12,pa.ne_fields hz rfl,nTO ha pa,pa.ne_fields e1 d1,pa.ne_fields e2 d2,pb.ne_fields hz rfl,nTO hb pb,pb.ne_fields e1 d1,pb.ne_fields e2 d2⟩
end
theorem zoN{P:Program}{w:World}{K:PySem.W.Frag}{es:List Expr}{x1:Nat}{pos:Pos}(k1 k2:Bool) (a b z TI TO i1 i2:Addr) (D:ZipFar z TI TO i1 i2):Turn P w K (.Tuple es x1 pos) (Itz k1 k2 K a b) [z,TI,TO,i1,i2] z (ztl k1 k2 z TI TO i1 i2 a b) where
  mem:=by simp
  obj:=fun i h ⟨hz,hTI,⟨u,v,hTO⟩,h1,h2⟩ c hc=>by
    obtain⟨o1,v1,e1,d1⟩:=h1.ob;obtain⟨o2,v2,e2,d2⟩:=h2.ob;simp only[List.mem_cons,List.not_mem_nil,or_false]at hc;rcases hc with rfl |rfl |rfl |rfl |rfl
    · exact⟨_,hz,fun v z=>by cases z⟩
    · exact⟨_,hTI,fun v z=>by cases z⟩
    · exact⟨_,hTO,fun v z=>by cases z⟩
    · exact⟨_,e1,fun v z=>by rw [d1]at z;cases z⟩
    · exact⟨_,e2,fun v z=>by rw [d2]at z;cases z⟩
  keep:=fun i h h' ⟨hz,hTI,⟨u,v,hTO⟩,h1,h2⟩ kk=>⟨kk z (by simp) _ hz,kk TI (by simp) _ hTI,⟨u,v,kk TO (by simp) _ hTO⟩,h1.at fun o q=>kk i1 (by simp) o q,h2.at fun o q=>kk i2 (by simp) o q⟩
  item:=by
    intro X hP hw hK hc i pins s σ H E I hf st hg;subst hP hw hK;obtain⟨xs,ys,x,y,ha,hb,hx,hy⟩:=hg;have Z:=zhV I (hf TO (by simp)).1 D st ha hb;obtain⟨hz,hTI,⟨c0,d0,hTO⟩,h1,h2⟩:=st;obtain⟨its,rv,pa,_⟩:=I.seq ha.sq;obtain⟨its2,rv2,pb,_⟩:=I.seq hb.sq;obtain⟨u,hu,ru⟩:=rv.get hx;obtain⟨u2,hu2,ru2⟩:=rv2.get hy;refine zoV Z hz hTI hTO h1 h2 pa pb (x:=u) (y:=u2) (by simpa using hu) (by simpa using hu2) fun g hz1 hTO1 h11 h21 hp hz' kk=>⟨_,rfl,?_⟩;refine wpAny_letOwnedTupleGo_zip hz1 fun g2 hz2 hs2=>?_;have hs2':∀c o,c≠z→g.get? c=some o→g2.get? c=some o:=fun c o hc e=>(hs2.2 c hc).trans e;have kk2:∀c o,c∉ [z,TI,TO,i1,i2]→s.heap.get? c=some o→g2.get? c=some o:=fun c o hc q=>by
      simp only[List.mem_cons,List.not_mem_nil,or_false,not_or]at hc;exact hs2' c o hc.1 (kk c o hc.1 hc.2.2.1 hc.2.2.2.1 hc.2.2.2.2 q)
    have hn:=I.hok.fresh (Nat.le_refl s.heap.objs.size);have hpz:s.heap.objs.size≠z:=Nat.ne_of_gt (Heap.lt_size hz);have ht2:g2.get? s.heap.objs.size=some { cls:= .type "tuple",data:= .seq #[u,u2] }:=hs2' _ _ hpz hp;refine⟨.ref s.heap.objs.size,upd H s.heap.objs.size (.tup [x,y]),I.turnNew (fp:=[z,TI,TO,i1,i2]) (t':=s.toks) (Nat.le_refl _) kk2 hf ⟨by show 2≤sizeLine;rw [sizeLine_eq];decide,[u,u2], .cons ru (.cons ru2 .nil),⟨_,ht2,rfl,_,rfl⟩⟩,rfl,
      ⟨_,x,y,hn,rfl,rfl,fun zs hy=>by rw [I.seq_inj hy.sq ha.sq];exact hx,fun zs hy'=>by rw [I.seq_inj hy'.sq hb.sq];exact hy⟩,
      ⟨hz2,hs2' _ _ D.TIz (kk _ _ D.TIz D.TITO D.TIi1 D.TIi2 hTI),⟨u,u2,hs2' _ _ D.TOz hTO1⟩,h11.at fun o q=>hs2' _ o D.i1z q,h21.at fun o q=>hs2' _ o D.i2z q⟩,fun c hc=>?_⟩
    have hlt:∃o,s.heap.get? c=some o:=by
      obtain⟨o1,v1,e1,d1⟩:=h1.ob;obtain⟨o2,v2,e2,d2⟩:=h2.ob;simp only[List.mem_cons,List.not_mem_nil,or_false]at hc;rcases hc with rfl |rfl |rfl |rfl |rfl
      · exact⟨_,hz⟩
      · exact⟨_,hTI⟩
      · exact⟨_,hTO⟩
      · exact⟨_,e1⟩
      · exact⟨_,e2⟩
    obtain⟨o,ho⟩:=hlt;rw [zau (Nat.ne_of_lt (Heap.lt_size ho))];exact(hf c hc).1
  done:=by
    intro X hP hw hK hc i pins s σ H E I hf st hg;subst hP hw hK;obtain⟨xs,ys,ha,hb,hx⟩:=hg;have Z:=zhV I (hf TO (by simp)).1 D st ha hb;obtain⟨hz,hTI,⟨c0,d0,hTO⟩,h1,h2⟩:=st;obtain⟨its,rv,pa,_⟩:=I.seq ha.sq;obtain⟨its2,rv2,pb,_⟩:=I.seq hb.sq;have hl:=rv.length;have hl2:=rv2.length;refine zqi (I.ok.hd hc) Z hz hTI hTO h1 h2 pa pb ?_ fun g eb=>⟨rfl,I.turnedL (fp:=[z,TI,TO,i1,i2]) (t':=s.toks) (fun c o hc q=>?_) hf⟩
    · rcases hx with hx |hx
      · exact .inl (by simp;omega)
      · exact .inr (by simp;omega)
    · simp only[List.mem_cons,List.not_mem_nil,or_false,not_or]at hc;exact eb c o hc.1 hc.2.2.1 hc.2.2.2.1 hc.2.2.2.2 q
  self:=fun A i s Q E st h=>wpAny_pyIter_zip st.1 h
section
variable {X:Cx}{es:List Expr}{x1:Nat}{tpos:Pos}
noncomputable def zwK (K:PySem.W.Frag) (ta:TA):TI:=fun σ H R=>ta σ H fun vs H1=>∃k1 k2 a b xs ys,vs=[.ref a, .ref b]∧SqZ k1 K H1 a xs∧SqZ k2 K H1 b ys∧R (Itz k1 k2 K a b) H1
theorem zup{a b:Expr}{ta:TA}{p pos:Pos}(hg:Gl X "zip") (hm:X.mg "zip" =none) (ha:PA X [a,b] ta) (hs:starEach [a,b] X.env=[(false,eval a X.env),(false,eval b X.env)]:=by rfl) (hs2:starEach [b] X.env=[(false,eval b X.env)]:=by rfl):PI X (.Tuple es x1 tpos) (.Call (.Name "zip" p) [a,b] [] pos) (zwK X.K ta):=by
 intro pins s σ H R I h;refine Call_ (zdJ I hg hm boot_zip (PyProof.Rows.callWith_type1 (thn (ha pos pins s σ H _ I h) fun us s1 ⟨vs,H1,I1,r1,q1⟩=>?_) (by rw [hs,hs2]) (by rw [hs2];rfl)));obtain⟨k1,k2,a,b,xs,ys,e,hq1,hq2,q⟩:=q1;subst e;cases r1 with
 |cons r rr=>
  cases rr with
  |cons r' rr=>
   cases rr;cases(show _=Value.ref a from r);cases(show _=Value.ref b from r');obtain⟨its,rv,pl,_⟩:=I1.seq hq1.sq;obtain⟨its2,rv2,pl2,_⟩:=I1.seq hq2.sq;refine znX pl pl2 fun g hz hTI hTO h1 h2 hz' kk=>wpAny_pyIter_zip hz ?_;have I2:Inv X pins σ H1 { s1 with heap:=g }:=I1.kept (t':=s1.toks) kk;have ne:∀(n i j:Nat),i≠j→n+i≠n+j:=fun n i j h e=>h (Nat.add_left_cancel e);have D:ZipFar (s1.heap.objs.size+4) (s1.heap.objs.size+2) (s1.heap.objs.size+3) s1.heap.objs.size (s1.heap.objs.size+1):=
    ⟨ne _ 2 4 (by decide),ne _ 3 4 (by decide),ne _ 0 4 (by decide),ne _ 1 4 (by decide),ne _ 2 3 (by decide),ne _ 2 0 (by decide),ne _ 2 1 (by decide),ne _ 3 0 (by decide),ne _ 3 1 (by decide),ne _ 0 1 (by decide)⟩
   refine⟨_,_,_,_,H1,rfl,I2,zoN k1 k2 a b _ _ _ _ _ D,⟨hz,hTI,⟨_,_,hTO⟩,h1,h2⟩,fun c hc=>?_,q⟩;have hb':s1.heap.objs.size≤c:=by
    simp only[List.mem_cons,List.not_mem_nil,or_false]at hc;rcases hc with rfl |rfl |rfl |rfl |rfl
    ·exact Nat.le_add_right _ _
    ·exact Nat.le_add_right _ _
    ·exact Nat.le_add_right _ _
    ·exact Nat.le_refl _
    ·exact Nat.le_add_right _ _
   exact I1.fpOk hb' (I1.hok.fresh hb')
noncomputable def zcM:List W→List W→List W
 |x::xs,y::ys=> .tup [x,y]::zcM xs ys
 |_,_=>[]
theorem zhX:∀{xs ys:List W}{i:Nat}{u:W},(zcM xs ys)[i]? =some u→ ∃x y,xs[i]? =some x∧ys[i]? =some y∧u= .tup [x,y]
 | [],_,_,_,h=>by simp [zcM]at h
 |_::_,[],_,_,h=>by simp [zcM]at h
 |x::xs,y::ys,0,u,h=>by
  simp [zcM]at h;exact⟨x,y,rfl,rfl,h.symm⟩
 |x::xs,y::ys,i+1,u,h=>by simpa using zhX (xs:=xs) (ys:=ys) (i:=i) (u:=u) (by simpa [zcM]using h)
theorem zhD:∀{xs ys:List W},(zcM xs ys).length=min xs.length ys.length
 | [],_=>by simp [zcM]
 |_::_,[]=>by simp [zcM]
 |x::xs,y::ys=>by simp [zcM,zhD (xs:=xs) (ys:=ys)]
theorem zuh{K:PySem.W.Frag}{k1 k2:Bool}{a b:Addr}{ws us:List W}{G:Sto→Prop}{H0:Hp}{S0:Sto}(h:∀S H,Ext H0 S0 H S→RepS K H S→G S→(∃vs,SqZ k1 K H a vs∧Reps K H ws vs)∧ ∃vs,SqZ k2 K H b vs∧Reps K H us vs):ItW K (Itz k1 k2 K a b) (zcM ws us) G H0 S0:=fun i S H e hS hG=>by
 obtain⟨⟨xs,hq,r⟩,⟨ys,hq2,r2⟩⟩:=h S H e hS hG;refine⟨fun u eu=>?_,fun hl=>⟨xs,ys,hq,hq2,?_⟩⟩
 ·obtain⟨x,y,ex,ey,rfl⟩:=zhX eu;obtain⟨v,ev,rv⟩:=r.get ex;obtain⟨v2,ev2,rv2⟩:=r2.get ey;refine⟨⟨xs,ys,v,v2,hq,hq2,ev,ev2⟩,fun x H' ⟨p,y1,y2,hp,e1,e2,e3,e4⟩=>?_⟩;subst e1 e2;have f1:=e3 xs hq;have f2:=e4 ys hq2;rw [ev]at f1;cases f1;rw [ev2]at f2;cases f2;exact⟨.new hp,hS.new hp, .tup zat (.cons (rv.ext (.new (S:=S) hp)) (.cons (rv2.ext (.new (S:=S) hp)) .nil))⟩
 ·rw [zhD]at hl;rw [←r.length,←r2.length];omega
theorem zkx{K:PySem.W.Frag}{H:Hp}{S:Sto}{w:W}{v:V}{Q:List W→(Sto→Prop)→Prop}(r:Rep K H w v) (hS:RepS K H S) (h:znR w S Q) :
  ∃k a ws G,v= .ref a∧G S∧(∀S' H',Ext H S H' S'→RepS K H' S'→G S'→ ∃vs,SqZ k K H' a vs∧Reps K H' ws vs)∧Q ws G:=by
 cases r with
 |tup f hs=>exact⟨false,_,_,_,rfl,trivial,fun S' H' e hS' _=>⟨_,e.tup _ _ f,hs.ext e⟩,h⟩
 |ref a=>
  obtain⟨ws,ea,h⟩:=zaS h;exact⟨true,_,ws,_,rfl,ea,fun S' H' e hS' g=>by
   obtain⟨vs,f,hs⟩:=hS' a _ g;exact⟨vs, .of f,hs⟩,h⟩
 |scr f=>exact⟨true,_,_,_,rfl,trivial,fun S' H' e hS' _=>⟨_,(e.fz f).sq,Reps.ofInts _⟩,h⟩
 |_=>exact h.elim
noncomputable def zuH (t u:WE):WI:=fun E σ S Q=>t E σ S fun x S1=>u E σ S1 fun y S2=>znR x S2 fun xs G=>znR y S2 fun ys G'=>Q (zcM xs ys) (fun S'=>G S'∧G' S') S2
theorem zpR{a b:Expr}{ta tb:WE}{p pos:Pos}(hg:Gl X "zip") (hm:X.mg "zip" =none) (ha:JE X a ta) (hb:JE X b tb) (hs:starEach [a,b] X.env=[(false,eval a X.env),(false,eval b X.env)]:=by rfl) (hs2:starEach [b] X.env=[(false,eval b X.env)]:=by rfl)
  (h3:starEach [a,b] X.env=(false,eval a X.env)::starEach [b] X.env:=by rfl) (h4:starEach [b] X.env=(false,eval b X.env)::starEach [] X.env:=by rfl):JI X (.Tuple es x1 tpos) (.Call (.Name "zip" p) [a,b] [] pos) (zuH ta tb):=fun E hE=>
 (zup hg hm (zbu (ha E hE) (zbu (hb E hE) pa_nil h4) h3) hs hs2).mono fun σ H R ⟨σW,S,QW,hσ,hS,ht,hR⟩=>⟨σW,S,_,hσ,hS,ht,fun x S1 v H1 e1 r1 hS1 h1=>⟨σW,S1,_,hσ.ext e1,hS1,h1,fun y S2 v2 H2 e2 r2 hS2 h2=>by
  obtain⟨k1,a,ws,G,rfl,hG,hq,h⟩:=zkx (r1.ext e2) hS2 h2;obtain⟨k2,b,us,G',rfl,hG',hq',h⟩:=zkx r2 hS2 h;obtain⟨vs,hv,_⟩:=hq S2 H2 .refl hS2 hG;obtain⟨vs',hv',_⟩:=hq' S2 H2 .refl hS2 hG';exact⟨k1,k2,a,b,vs,vs',rfl,hv,hv',hR _ _ S2 _ H2 (e1.trans e2) hS2 ⟨hG,hG'⟩ (zuh fun S' H' e hS' g=>⟨hq S' H' e hS' g.1,hq' S' H' e hS' g.2⟩) h⟩⟩⟩
end
noncomputable def Itd (hi:Int) (n:Nat):It:=⟨fun i _=>i<n,fun i H x H'=>H'=H∧x= .int (hi - i),fun i _=>n≤i⟩
theorem zlA{P:Program}{w:World}{K:PySem.W.Frag}{tg:Expr}(it:Addr) (hi:Int) (n:Nat):Turn P w K tg (Itd hi n) [it] it (fun i h=>IsRangeIter h it (hi+(i:Nat)*(-1)) ((n:Int) - (i:Nat)) (-1)) where
  mem:=by simp
  obj:=fun i h st b hb=>by
    have e:b=it:=by simpa using hb
    subst e;exact⟨_,st,fun v z=>by
      have z':Data.fields _=Data.cell v:=z;cases z'⟩
  keep:=fun i h h' st k=>k it (by simp) _ st
  item:=by
    intro X hP hw hK hc i pins s σ H E I hf st hg;subst hP hw hK;obtain⟨f0,f1,f2,f3,f4,f5⟩:=hf it (by simp);have W:=Walks.range (prog:=X.prog) (w:=X.w) (I.ok.hd hc) it hi (-1) n;refine W.item i s _ _ hg st fun v h' tk hv st' kk=>?_;obtain⟨t,rfl⟩:=hv;have I1:Inv X pins σ H { s with heap:=h',toks:=tk }:=I.turned (fun b o hb e=>kk b o (by simpa using hb) e) f0 f1 f3 f4 f5;refine⟨_,rfl,zlM (s:={ s with heap:=h',toks:=tk }) (n:= "range_iterator") st' rfl rfl (by decide) ⟨.int (hi - i),H,I1,⟨t,?_⟩,⟨rfl,rfl⟩,st',fun b hb=>(hf b hb).1⟩⟩;congr 1;omega
  done:=by
    intro X hP hw hK hc i pins s σ H E I hf st hg;subst hP hw hK;obtain⟨f0,f1,f2,f3,f4,f5⟩:=hf it (by simp);exact wpAny_pyNext_range_end (I.ok.hd hc) st (by have:n≤i:=hg;omega) fun h' eb=>⟨rfl,I.turned (t':=s.toks) (fun b o hb e=>eb b o hb e) f0 f1 f3 f4 f5⟩
  self:=fun _ _ _ _ _ st h=>wpAny_pyIter_rangeiter st h
theorem zee (a b:Int):Builtin.Range.rangeSize a b (-1)=if b<a then a - b else 0:=by
 unfold Builtin.Range.rangeSize;simp only[show ¬((-1:Int) > 0) by decide,if_false,show(-(-1:Int))=1 by decide,Int.ediv_one]
 split<;>omega
theorem zkF{a b:Int}(ha: -(2 ^ 62)≤a) (ha':a<2 ^ 62) (hb: -(2 ^ 62)≤b) (hb':b<2 ^ 62):Builtin.Range.small a b (-1)=true:=by
 unfold Builtin.Range.small;rw [zee];simp only[Builtin.Range.rangeFitsLong,Bool.and_eq_true,Bool.or_eq_true,decide_eq_true_eq,beq_iff_eq,show ¬((-1:Int) > 0) by decide,if_false]
 split<;>omega
section
variable {X:Cx}{tg:Expr}
theorem zqo{pins:List (Addr×Obj)}{σ:St}{H:Hp}{s:Shared}{R:It→Hp→Prop}{E:Value→Shared→Prop}{hi lo:Int}{t u v:Tok}{tk:Nat}(I:Inv X pins σ H s) (h1: -(2 ^ 62)≤hi) (h2:hi<2 ^ 62) (h3: -(2 ^ 62)≤lo) (h4:lo<2 ^ 62)
  (q:R (Itd hi (hi - lo).toNat) H):wpAny (model X.prog X.w) X.A (pyIter (.ref s.heap.objs.size)) (PIE X pins σ tg R) E { s with heap:=s.heap.push { cls:= .type "range",data:= .fields #[.int hi t, .int lo u, .int (-1) v] },toks:=tk }:=by
 refine wpAny_pyIter_range (IsRange.new ..) (zkF h1 h2 h3 h4) ?_;have I1:Inv X pins σ H { s with heap:=s.heap.push { cls:= .type "range",data:= .fields #[.int hi t, .int lo u, .int (-1) v] },toks:=tk }:=I.kept fun b o e=>Heap.get?_push_of_some _ e;refine⟨(s.heap.push { cls:= .type "range",data:= .fields #[.int hi t, .int lo u, .int (-1) v] }).objs.size,[(s.heap.push { cls:= .type "range",data:= .fields #[.int hi t, .int lo u, .int (-1) v] }).objs.size],_,_,H,rfl,
  I1.kept (t':=tk) fun b o e=>Heap.get?_push_of_some _ e,zlA _ hi (hi - lo).toNat,?_,fun b hb=>?_,q⟩
 ·have e1:hi+((0:Nat):Int)*(-1)=hi:=by simp
  have e2:(((hi - lo).toNat:Nat):Int) - ((0:Nat):Int)=Builtin.Range.rangeSize hi lo (-1):=by rw [zee];split<;>omega
  show IsRangeIter _ _ (hi+((0:Nat):Int)*(-1)) ((((hi - lo).toNat:Nat):Int) - ((0:Nat):Int)) (-1);rw [e1,e2];exact Heap.get?_push_size _ rfl
 ·have e:b=(s.heap.push { cls:= .type "range",data:= .fields #[.int hi t, .int lo u, .int (-1) v] }).objs.size:=by simpa using hb
  subst e;exact I1.fpOk (Nat.le_refl _) (I1.hok.fresh (Nat.le_refl _))
noncomputable def zvi (ta:TA):TI:=fun σ H R=>ta σ H fun vs H1=>∃i j:Int,vs=[.int i, .int j, .int (-1)]∧(-(2 ^ 62)≤i∧i<2 ^ 62∧ -(2 ^ 62)≤j∧j<2 ^ 62)∧R (Itd i (i - j).toNat) H1
theorem zrQ{a b c:Expr}{ta:TA}{p pos:Pos}(hg:Gl X "range") (hm:X.mg "range" =none) (ha:PA X [a,b,c] ta) (hs:starEach [a,b,c] X.env=[(false,eval a X.env),(false,eval b X.env),(false,eval c X.env)]:=by rfl) (hs2:starEach [b,c] X.env=[(false,eval b X.env),(false,eval c X.env)]:=by rfl) :
  PI X tg (.Call (.Name "range" p) [a,b,c] [] pos) (zvi ta):=by
 intro pins s σ H R I h;refine Call_ (zdJ I hg hm boot_range (PyProof.Rows.callWith_type1 (thn (ha pos pins s σ H _ I h) fun us s1 ⟨vs,H1,I1,r1,q1⟩=>?_) (by rw [hs,hs2]) (by rw [hs2];rfl)));obtain⟨i,j,e,⟨q1,q2,q3,q4⟩,q⟩:=q1;subst e;cases r1 with
 |cons r rr=>
  cases rr with
  |cons r' rr=>
   cases rr with
   |cons r'' rr=>
    cases rr;obtain⟨t,rfl⟩:=r;obtain⟨t',rfl⟩:=r';obtain⟨t'',rfl⟩:=r'';exact call_range_3 (by decide) (zqo I1 q1 q2 q3 q4 q) (.inl (PyProof.noPylong_small (by decide)))
noncomputable def zeY (hi:Int) (n:Nat):List W:=(List.range n).map fun(i:Nat)=> .int (hi - (i:Int))
theorem zrH{K:PySem.W.Frag}{hi:Int}{n:Nat}{H0:Hp}{S0:Sto}:ItW K (Itd hi n) (zeY hi n) (fun _=>True) H0 S0:=fun i S H e hS hG=>by
 unfold zeY;refine⟨fun w ew=>?_,fun hl=>by
  have:i=n:=by simpa using hl
  exact Nat.le_of_eq this.symm⟩
 rw [List.getElem?_map]at ew;by_cases hh:i<n
 ·rw [List.getElem?_range hh]at ew;have ew':=Option.some.inj ew;subst ew';refine⟨hh,fun x H' ⟨e1,e2⟩=>?_⟩;subst e1 e2;exact⟨.refl,hS, .int _⟩
 ·rw [List.getElem?_eq_none (by simpa using hh)]at ew;cases ew
noncomputable def zrT (t:WA):WI:=fun E σ S Q=>t E σ S fun ws S1=>match ws with
 | [.int i, .int j, .int c]=>c= -1∧(-(2 ^ 62)≤i∧i<2 ^ 62∧ -(2 ^ 62)≤j∧j<2 ^ 62)∧Q (zeY i (i - j).toNat) (fun _=>True) S1
 |_=>False
theorem zrr{a b c:Expr}{ta:WA}{p pos:Pos}(hg:Gl X "range") (hm:X.mg "range" =none) (ha:JA X [a,b,c] ta) (hs:starEach [a,b,c] X.env=[(false,eval a X.env),(false,eval b X.env),(false,eval c X.env)]:=by rfl) (hs2:starEach [b,c] X.env=[(false,eval b X.env),(false,eval c X.env)]:=by rfl):JI X tg (.Call (.Name "range" p) [a,b,c] [] pos) (zrT ta):=fun E hE=>
 (zrQ hg hm (ha E hE) hs hs2).mono fun σ H R ⟨σW,S,QW,hσ,hS,ht,hR⟩=>⟨σW,S,_,hσ,hS,ht,fun ws S1 vs H1 e1 r1 hS1 h1=>by
  split at h1
  ·rename_i i j c;cases r1 with
   |cons x1 x2=>cases x2 with
    |cons x2 x3=>cases x3 with
     |cons x3 x4=>
      cases x4;cases x1;cases x2;cases x3;obtain⟨rfl,hb,h⟩:=h1;exact⟨i,j,rfl,hb,hR _ _ S1 _ H1 e1 hS1 trivial zrH h⟩
  ·exact h1.elim⟩
end
section
variable {X:Cx}{a b c:Expr}{pos:Pos}{ta tb tc:WE}
theorem zpd{op op':CmpOp}{r r':R2}{wr wr':W2}(ho:OpR X (compareOp op) r) (hw:OpW X.K r wr) (ho':OpR X (compareOp op') r') (hw':OpW X.K r' wr') (ha:JE X a ta) (hb:JE X b tb) (hc:JE X c tc)
  (hm:lastMarks [op,op'] [b,c]=false:=by with_unfolding_all rfl):JE X (.Compare a [op,op'] [b,c] pos) (zgo wr wr' ta tb tc):=fun E hE=>
 (zoO ho ho' (ha E hE) (hb E hE) (hc E hE) hm).mono fun σ H Q ⟨σW,S,QW,hσ,hS,ht,hQ⟩=>by
  refine⟨σW,S,_,hσ,hS,ht,fun x S1 v1 H1 e1 r1 hS1 h1=>⟨σW,S1,_,hσ.ext e1,hS1,h1,fun y S2 v2 H2 e2 r2 hS2 h2=>?_⟩⟩;refine hw H2 v1 v2 x y S2 _ _ (r1.ext e2) r2 hS2 h2 fun z S3 v3 H3 e3 r3 hS3 h3=>?_;cases r3 with
  |bl k=>
   refine⟨k,rfl,?_⟩;cases k with
   |true=>
    refine⟨σW,S3,_,((hσ.ext e1).ext e2).ext e3,hS3,h3,fun u S4 v4 H4 e4 r4 hS4 h4=>?_⟩;exact hw' H4 v2 v4 y u S4 Q QW ((r2.ext e3).ext e4) r4 hS4 h4 (hQ.from (((e1.trans e2).trans e3).trans e4))
   |false=>exact hQ _ S3 _ H3 ((e1.trans e2).trans e3) (.bl false) hS3 h3
  |_=>exact h3.elim
theorem ziU (ha:JE X a ta) (hb:JE X b tb) (hc:JE X c tc) (hm:lastMarks [.LtE, .LtE] [b,c]=false:=by with_unfolding_all rfl):JE X (.Compare a [.LtE, .LtE] [b,c] pos) (zgo oLe oLe ta tb tc):=zpd (op_le.or zhs) zpE (op_le.or zhs) zpE ha hb hc hm
end
section
variable {X:Cx}{e:Expr}{es:List Expr}{t:WA}{p pos:Pos}
noncomputable def zrZ:WF:=fun ws S Q=>match ws with
 | [.int i]=>Q (.int i) S
 | [.bl b]=>Q (.int (if b then 1 else 0)) S
 |_=>False
theorem zlS{K:PySem.W.Frag}:zhS K (fun xs H Q=>(∃i,xs=[.int i]∧Q (.int i) H)∨ ∃k,xs=[.bl k]∧Q (.int (if k then 1 else 0)) H) zrZ:=fun H vs ws S Q QW r hS h hQ=>by
 cases r with
 |nil=>exact h.elim
 |cons r1 r2=>
  cases r2 with
  |cons _ _=>cases r1<;>exact h.elim
  |nil=>
   cases r1 with
   |int i=>exact .inl ⟨i,rfl,hQ _ S _ H .refl (.int _) hS h⟩
   |bl b=>exact .inr ⟨b,rfl,hQ _ S _ H .refl (.int _) hS h⟩
   |_=>exact h.elim
theorem zmQ (hg:Gl X "int") (hm:X.mg "int" =none) (ha:JA X (e::es) t)
  (he:starEach (e::es) X.env=(false,eval e X.env)::starEach es X.env:=by rfl) (hpl:(backTo pos (starEach es X.env)).any (·.1)=false:=by rfl):JE X (.Call (.Name "int" p) (e::es) [] pos) (wB zrZ t):=
 zty znF zlS hg hm PyProof.Rows.boot_int ha (by decide) (by decide) he hpl
noncomputable def zmN:WF:=fun ws S Q=>match ws with
 | [.int i, .int j]=>Q (.int (if j > i then j else i)) S
 |_=>False
noncomputable def znN:WF:=fun ws S Q=>match ws with
 | [.int i, .int j]=>Q (.int (if j<i then j else i)) S
 |_=>False
theorem zkD{K:PySem.W.Frag}:zhS K (fun xs H Q=>∃i j,xs=[.int i, .int j]∧Q (.int (if j > i then j else i)) H) zmN:=fun H vs ws S Q QW r hS h hQ=>by
 unfold zmN at h;split at h
 ·cases r with
  |cons r1 r2=>cases r2 with
   |cons r2 r3=>cases r3;cases r1;cases r2;exact⟨_,_,rfl,hQ _ S _ H .refl (.int _) hS h⟩
 ·exact h.elim
theorem zkN{K:PySem.W.Frag}:zhS K (fun xs H Q=>∃i j,xs=[.int i, .int j]∧Q (.int (if j<i then j else i)) H) znN:=fun H vs ws S Q QW r hS h hQ=>by
 unfold znN at h;split at h
 ·cases r with
  |cons r1 r2=>cases r2 with
   |cons r2 r3=>cases r3;cases r1;cases r2;exact⟨_,_,rfl,hQ _ S _ H .refl (.int _) hS h⟩
 ·exact h.elim
theorem zhE{id:String}{r:List V→Hp→VK→Prop}{f:WF}{x:Str}(hc:X.calm=true→CallR X (.builtin id) r) (hw:zhS X.K r f) (hg:Gl X x) (hm:X.mg x=none) (hv:bootBuiltins x=some (.builtin id)) (ha:JA X (e::es) t) (hn:x≠ "__name__" :=by decide) (hdb:(x == ("__debug__" :Str))=false:=by decide)
  (he:starEach (e::es) X.env=(false,eval e X.env)::starEach es X.env:=by rfl) (hpl:(backTo pos (starEach es X.env)).any (·.1)=false:=by rfl) (hcl:X.calm=true:=by rfl):JE X (.Call (.Name x p) (e::es) [] pos) (wB f t):=fun E hE=>zpX (hc hcl) hw hg hm hv ha hn hdb he hpl E hE
theorem zrD (hg:Gl X "max") (hm:X.mg "max" =none) (ha:JA X (e::es) t)
  (he:starEach (e::es) X.env=(false,eval e X.env)::starEach es X.env:=by rfl) (hpl:(backTo pos (starEach es X.env)).any (·.1)=false:=by rfl) (hcl:X.calm=true:=by rfl):JE X (.Call (.Name "max" p) (e::es) [] pos) (wB zmN t):=zhE znJ zkD hg hm PyProof.Rows.boot_max ha (by decide) (by decide) he hpl hcl
theorem zqX (hg:Gl X "min") (hm:X.mg "min" =none) (ha:JA X (e::es) t)
  (he:starEach (e::es) X.env=(false,eval e X.env)::starEach es X.env:=by rfl) (hpl:(backTo pos (starEach es X.env)).any (·.1)=false:=by rfl) (hcl:X.calm=true:=by rfl):JE X (.Call (.Name "min" p) (e::es) [] pos) (wB znN t):=zhE zmY zkN hg hm PyProof.Rows.boot_min ha (by decide) (by decide) he hpl hcl
theorem zem{tl:WL}(hg:Gl X "all") (hm:X.mg "all" =none) (ha:JL X e tl)
  (he:starEach [e] X.env=(false,eval e X.env)::starEach [] X.env:=by rfl) (hpl:(backTo pos (starEach [] X.env)).any (·.1)=false:=by rfl) (hcl:X.calm=true:=by rfl):JE X (.Call (.Name "all" p) [e] [] pos) (wBL zfu tl):=fun E hE=>zqr (zpe hcl) zlT hg hm PyProof.Rows.boot_all ha (by decide) (by decide) he hpl E hE
theorem zin{tl:WL}(hg:Gl X "tuple") (hm:X.mg "tuple" =none) (ha:JL X e tl)
  (he:starEach [e] X.env=(false,eval e X.env)::starEach [] X.env:=by rfl) (hpl:(backTo pos (starEach [] X.env)).any (·.1)=false:=by rfl):JE X (.Call (.Name "tuple" p) [e] [] pos) (wBL zfx tl):=zsp zeu ziJ hg hm PyProof.Rows.boot_tuple ha (by decide) (by decide) he hpl
theorem zpl (hg:Gl X "tuple") (hm:X.mg "tuple" =none) (ha:JA X (e::es) t)
  (he:starEach (e::es) X.env=(false,eval e X.env)::starEach es X.env:=by rfl) (hpl:(backTo pos (starEach es X.env)).any (·.1)=false:=by rfl):JE X (.Call (.Name "tuple" p) (e::es) [] pos) (wB zhy t):=zty zeu zje hg hm PyProof.Rows.boot_tuple ha (by decide) (by decide) he hpl
end
theorem zfa{K:PySem.W.Frag}:∀T∈ ["int", "bool", "str", "tuple", "list"],∀A∈ ["NoneType", "bool", "int", "str", "tuple", "list"],PySem.W.kitOne K (.type A) (.type T)=some (zbH A T):=by
 intro T hT A hA;simp only[List.mem_cons,List.not_mem_nil,or_false]at hT hA;rcases hT with rfl |rfl |rfl |rfl |rfl<;>rcases hA with rfl |rfl |rfl |rfl |rfl |rfl<;>rfl
theorem gl0:∀(ws:List W) (σ:WSt) (S:Sto) (P:WSt→Sto→Prop),zcb ws σ S P→ws.length=0:=fun ws σ S P h=>by
 cases ws with
 |nil=>rfl
 |cons _ _=>exact h.elim
theorem glS{i n:Nat}{u:WGs}(h:∀(ws:List W) (σ:WSt) (S:Sto) (P:WSt→Sto→Prop),u ws σ S P→ws.length=n):∀(ws:List W) (σ:WSt) (S:Sto) (P:WSt→Sto→Prop),zav (wGN i) u ws σ S P→ws.length=n+1:=fun ws σ S P q=>by
 cases ws with
 |nil=>exact q.elim
 |cons w ws=>exact congrArg (· +1) (h _ _ _ _ q)
noncomputable def zaZ:WSp:=fun _ _ _ _=>False
theorem zuo{P:Program}{w:World}{K:PySem.W.Frag}{mg:Str→Option Value}{base:Heap}{f:Addr}{fd:FuncData}{ps:List Str}{k:Nat}:FnOk P w K mg base (CX1 P w) k f fd ps (zcd K zaZ):=
 ⟨fun vs H Q E ⟨_,_,_,_,_,_,h,_⟩=>h.elim,fun A outer s H args us vs Q E _ _ _ _ ⟨_,_,_,_,_,_,h,_⟩=>h.elim⟩
section
variable {X:Cx}{a b:Expr}{pos:Pos}{ta tb:WE}{la lb:WL}
noncomputable def ztJ (t:WL) (u:WE):WE:=fun E σ S Q=>t E σ S fun ws S1=>u E σ S1 fun y S2=>match y with
 | .int i=>match atI ws i with
  |some w=>Q w S2
  |none=>False
 |_=>False
theorem zmV (ha:JL X a la) (hb:JE X b tb) (hs:zjv b:=by intro _ _;rfl):JE X (.Subscript a b pos) (ztJ la tb):=fun E hE=>
 (zsR zpw (ha E hE) (hb E hE) hs).mono fun σ H Q ⟨σW,S,QW,hσ,hS,ht,hQ⟩=>⟨σW,S,_,hσ,hS,ht,fun ws S1 vs p H1 e1 fp ep np r1 hS1 h1=>⟨σW,S1,_,hσ.ext e1,hS1,h1,fun y S2 v2 H2 e2 r2 hS2 h2=>by
  cases r2 with
  |int i=>
   dsimp only at h2;split at h2
   ·obtain⟨v,ev,r⟩:=ziQ (r1.ext e2) ‹_›;exact .inl ⟨p,vs,i,v,rfl,rfl, .of (e2.fr p _ ep np).1,ev,hQ _ S2 _ H2 (e1.trans e2) r hS2 h2⟩
   ·exact h2.elim
  |_=>exact h2.elim⟩⟩
noncomputable def zju (t:WE) (u:WL):WL:=fun E σ S Q=>t E σ S fun x S1=>u E σ S1 fun ys S2=>match x with
 | .ref a=>zbN S2 a fun xs=>xs.length+ys.length≤sizeLine∧Q (xs++ys) S2
 |_=>False
noncomputable def zmz (t u:WL):WL:=fun E σ S Q=>t E σ S fun xs S1=>u E σ S1 fun ys S2=>xs.length+ys.length≤sizeLine∧Q (xs++ys) S2
theorem zfI (ha:JE X a ta) (hb:JL X b lb):JL X (.BinOp a .Add b pos) (zju ta lb):=fun E hE=>
 (zom zlo (ha E hE) (hb E hE)).mono fun σ H Q ⟨σW,S,QW,hσ,hS,ht,hQ⟩=>⟨σW,S,_,hσ,hS,ht,fun w1 S1 v1 H1 e1 r1 hS1 h1=>⟨σW,S1,_,hσ.ext e1,hS1,h1,fun ys S2 us q H2 e2 fq eq nq r2 hS2 h2=>by
  cases r1 with
  |ref p=>
   obtain⟨xs,ea,h⟩:=zaS h2;obtain⟨vs,f1,q1⟩:=hS2 p _ ea;exact⟨p,q,vs,us,rfl,rfl,f1,eq,by rw [←q1.length,←r2.length];exact h.1,fun p hp=>hQ _ S2 _ p _ ((e1.trans e2).trans (.new hp)) ((e1.trans e2).free hp) zat (hS2.free hp) ((q1.append r2).ext (.new (S:=S2) hp)) (hS2.new hp) h.2⟩
  |_=>exact h2.elim⟩⟩
theorem zjg (ha:JL X a la) (hb:JL X b lb):JL X (.BinOp a .Add b pos) (zmz la lb):=fun E hE=>
 (zom zlo (ha E hE) (hb E hE)).mono fun σ H Q ⟨σW,S,QW,hσ,hS,ht,hQ⟩=>⟨σW,S,_,hσ,hS,ht,fun xs S1 vs p H1 e1 fp ep np r1 hS1 h1=>⟨σW,S1,_,hσ.ext e1,hS1,h1,fun ys S2 us q H2 e2 fq eq nq r2 hS2 h2=>
  ⟨p,q,vs,us,rfl,rfl,(e2.fr p _ ep np).1,eq,by rw [←r1.length,←r2.length];exact h2.1,fun z hz=>hQ _ S2 _ z _ ((e1.trans e2).trans (.new hz)) ((e1.trans e2).free hz) zat (hS2.free hz) (((r1.ext e2).append r2).ext (.new (S:=S2) hz)) (hS2.new hz) h2.2⟩⟩⟩
noncomputable def zrW (t:WL) (u:WE):WL:=fun E σ S Q=>t E σ S fun xs S1=>u E σ S1 fun y S2=>match y with
 | .int k=>(-(2 ^ 63)≤k∧k<2 ^ 63∧xs.length*k.toNat≤sizeLine)∧Q (List.replicate k.toNat xs).flatten S2
 |_=>False
theorem Reps.rep{K:PySem.W.Frag}{H:Hp}{ws:List W}{vs:List V}(h:Reps K H ws vs):∀k:Nat,Reps K H (List.replicate k ws).flatten (List.replicate k vs).flatten
 |0=> .nil
 |k+1=>by
  rw [List.replicate_succ,List.replicate_succ,List.flatten_cons,List.flatten_cons];exact h.append (Reps.rep h k)
theorem zss (ha:JL X a la) (hb:JE X b tb):JL X (.BinOp a .Mult b pos) (zrW la tb):=fun E hE=>
 (zom zut (ha E hE) (hb E hE)).mono fun σ H Q ⟨σW,S,QW,hσ,hS,ht,hQ⟩=>⟨σW,S,_,hσ,hS,ht,fun xs S1 vs p H1 e1 fp ep np r1 hS1 h1=>⟨σW,S1,_,hσ.ext e1,hS1,h1,fun y S2 v2 H2 e2 r2 hS2 h2=>by
  cases r2 with
  |int k=>
   obtain⟨⟨k1,k2,k3⟩,h⟩:=h2;exact⟨p,k,vs,rfl,rfl,(e2.fr p _ ep np).1,k1,k2,by rw [←r1.length];exact k3,fun z hz=>hQ _ S2 _ z _ ((e1.trans e2).trans (.new hz)) ((e1.trans e2).free hz) zat (hS2.free hz) (((r1.ext e2).rep k.toNat).ext (.new (S:=S2) hz)) (hS2.new hz) h⟩
  |_=>exact h2.elim⟩⟩
end
theorem zoU{K:PySem.W.Frag}{H:Hp}{a:Addr}{ns:List Int}{c:WSp}{E:XK}(hO:zuF H) (hS:SqL K H a (ns.map V.int)) (h:c [.scr ns] (fun _=>none) (fun w _=>w= .bl true) (fun _ _=>False)):zcd K c [.ref a] H (fun v _=>v= .bl true) E:=by
 have fz:FzL K H a (ns.map V.int):=by
  rcases hS with(hS |⟨o,hS⟩) |hS
  ·rcases hO a with z |⟨o,xs,z⟩
   ·rw [hS]at z;cases z
   ·rw [hS]at z;cases z
  ·exact .inl ⟨o,hS⟩
  ·exact .inr hS
 refine⟨[.scr ns],fun _=>none,_,fun _ _=>False, .one (.scr fz),(fun a o e=>by cases e),h,fun w S v H' e r hS' q=>?_,fun _ _ _ _ _ _ z=>z.elim⟩
 subst q;cases r;rfl
section
variable {X:Cx}{a b e:Expr}{p pos p2 pos2:Pos}
noncomputable def znK:W2
 | .tup xs, .int k,S,Q=>(xs≠ []∧ -(2 ^ 63)≤k∧k<2 ^ 63∧xs.length*k.toNat≤sizeLine)∧Q (.tup (List.replicate k.toNat xs).flatten) S
 |_,_,_,_=>False
theorem zoR{K:PySem.W.Frag}:OpW K (zue K) znK:=fun H x y wx wy S Q QW rx ry hS h hQ=>by
 cases rx with
 | @tup a vs ws f hs=>
  cases ry with
  |int k=>
   obtain⟨⟨h0,h1,h2,h3⟩,h⟩:=h;have hl:=hs.length;refine⟨a,k,vs,rfl,rfl, .of f,?_,h1,h2,by rw [←hl];exact h3,fun hk=>?_,fun hk p hp=>?_⟩
   ·rintro rfl;cases hs;exact h0 rfl
   ·subst hk;have:(List.replicate (Int.toNat 1) ws).flatten=ws:=by simp
    rw [this]at h;exact hQ _ S _ H .refl (.tup f hs) hS h
   ·exact hQ _ S _ _ (.new hp) (.tup zat ((hs.rep k.toNat).ext (.new (S:=S) hp))) (hS.new hp) h
  |_=>exact h.elim
 |_=>cases ry<;>exact h.elim
theorem znp{ta tb:WE}(ha:JE X a ta) (hb:JE X b tb):JE X (.BinOp a .Mult b pos) (wOp znK ta tb):=zjb zqC zoR ha hb
noncomputable def zcQ (t:WE):WL:=fun E σ S Q=>t E σ S fun w S1=>match w with
 | .int j=>(-(2 ^ 62)≤j∧j≤16777216)∧Q (zeF 0 j.toNat) S1
 |_=>False
theorem zge:∀(n k:Nat) (us:List Value),us.length=n→(∀(j:Nat) (v:Value),us[j]? =some v→ ∃t,v= .int ((k+j:Nat):Int) t)→Vals ((List.range' k n).map fun(i:Nat)=>V.int i) us
 |0,k,us,hl,h=>by
  have:us=[]:=List.eq_nil_of_length_eq_zero hl;subst this;exact .nil
 |n+1,k,u::us,hl,h=>by
  rw [List.range'_succ,List.map_cons];refine .cons ?_ (zge n (k+1) us (by simpa using hl) fun j v e=>?_)
  ·obtain⟨t,e⟩:=h 0 u rfl;exact⟨t,by simpa using e⟩
  ·obtain⟨t,e⟩:=h (j+1) v (by simpa using e);exact⟨t,by rw [e];congr 2;omega⟩
noncomputable def zld (ta:TE):TE:=fun σ H Q=>ta σ H fun v H1=>∃j:Int,v= .int j∧ -(2 ^ 62)≤j∧j≤16777216∧ ∀l,H1 l=none→Q (.ref l) (upd H1 l (.lst ((List.range' 0 j.toNat).map fun(i:Nat)=>V.int i)))
theorem zhC{ta:TE}(hc:X.calm=true) (hg:Gl X "list") (hm:X.mg "list" =none) (hg2:Gl X "range") (hm2:X.mg "range" =none) (ha:PE X a ta)
  (he:starEach [.Call (.Name "range" p2) [a] [] pos2] X.env=[(false,eval (.Call (.Name "range" p2) [a] [] pos2) X.env)]:=by rfl) (hs:starEach [a] X.env=[(false,eval a X.env)]:=by rfl):PE X (.Call (.Name "list" p) [.Call (.Name "range" p2) [a] [] pos2] [] pos) (zld ta):=by
 intro pins s σ H Q I h;refine wpAny_Call_Name_kw (zdJ I hg hm PyProof.Rows.boot_list (PyProof.Rows.callWith_type1 ?_ he rfl));rw [he];show wpAny _ _ (spliced ((false,eval _ X.env)::backTo pos [])) _ _ s;refine Calls.spliced_cons ?_;refine wpAny_Call_Name_kw (zdJ I hg2 hm2 boot_range (PyProof.Rows.callWith_type1 (thn (zbu ha pa_nil hs pos2 pins s σ H (fun vs H1=>match vs with
  | [v]=>∃j:Int,v= .int j∧ -(2 ^ 62)≤j∧j≤16777216∧ ∀l,H1 l=none→Q (.ref l) (upd H1 l (.lst ((List.range' 0 j.toNat).map fun(i:Nat)=>V.int i)))
  |_=>False) I h) fun us s1 ⟨vs,H1,I1,r1,q1⟩=>?_) hs rfl))
 match vs,q1 with
 | [v],q1=>
  obtain⟨j,rfl,h1,h2,q⟩:=q1;obtain⟨u,rfl,rx⟩:=zgG r1;obtain⟨t,rfl⟩:=rx;refine call_range_1 (Calls.spliced_nil ?_);have I2:Inv X pins σ H1 { s1 with heap:=s1.heap.push { cls:= .type "range",data:= .fields #[.int 0 s1.toks, .int j t, .int 1 (s1.toks+1)] },toks:=s1.toks+1+1 }:=I1.kept fun b o e=>Heap.get?_push_of_some _ e;refine call_list_range (n:=j.toNat) (I1.ok.hd hc) (IsRange.new ..) (small_one (by decide) (by decide) h1 (by omega)) ?_ (by omega) fun h' tk acc c' kp e it=>?_
  ·rw [rangeSize_one];split<;>omega
  ·have rv:=zge j.toNat 0 acc.toList (by simpa using it.1) fun i v ev=>by
    obtain⟨t,e⟩:=it.2 i v (by simpa using ev);exact⟨t,by rw [e];congr 1;omega⟩
   refine⟨.ref _,_,I2.laid (t':=tk) (o:= .lst ((List.range' 0 j.toNat).map fun(i:Nat)=>V.int i)) kp (Nat.le_refl _) ⟨?_,acc.toList,c',rv,by simpa using e⟩,rfl,q _ (I2.hok.fresh (Nat.le_refl _))⟩
   rw [List.length_map,List.length_range'];show _≤16777216;omega
theorem zhW{K:PySem.W.Frag}{H:Hp}:∀(k n:Nat),Reps K H (zeF (k:Int) n) ((List.range' k n).map fun(i:Nat)=>V.int i)
 |k,0=> .nil
 |k,n+1=>by
  have e:zeF (k:Int) (n+1)= .int k::zeF ((k+1:Nat):Int) n:=by
   unfold zeF;rw [List.range_succ_eq_map,List.map_cons,List.map_map];congr 1
   ·simp;intro i _;omega
  rw [e,List.range'_succ,List.map_cons];exact .cons (.int _) (zhW (k+1) n)
theorem zdF{te:WE}(hg:Gl X "list") (hm:X.mg "list" =none) (hg2:Gl X "range") (hm2:X.mg "range" =none) (ha:JE X a te)
  (he:starEach [.Call (.Name "range" p2) [a] [] pos2] X.env=[(false,eval (.Call (.Name "range" p2) [a] [] pos2) X.env)]:=by rfl) (hs:starEach [a] X.env=[(false,eval a X.env)]:=by rfl) (hcl:X.calm=true:=by rfl):JL X (.Call (.Name "list" p) [.Call (.Name "range" p2) [a] [] pos2] [] pos) (zcQ te):=fun E hE=>
 (zhC hcl hg hm hg2 hm2 (ha E hE) he hs).mono fun σ H Q ⟨σW,S,QW,hσ,hS,ht,hQ⟩=>⟨σW,S,_,hσ,hS,ht,fun w S1 v H1 e1 r1 hS1 h1=>by
  cases r1 with
  |int j=>exact⟨j,rfl,h1.1.1,h1.1.2,fun l hl=>hQ _ S1 _ l _ (e1.trans (.new hl)) (e1.free hl) zat (hS1.free hl) (zhW 0 j.toNat) (hS1.new hl) h1.2⟩
  |_=>exact h1.elim⟩
end
noncomputable def zgr (kvs:List (List Int×W)) (k:List Int):Option W:=(kvs.find? fun kv=>decide (kv.1=k)).map (·.2)
noncomputable def zov (kvs:List (List Int×W)) (k:List Int) (v:W):List (List Int×W):=
 if(kvs.any fun kv=>decide (kv.1=k))=true then kvs.map (fun kv=>if kv.1=k then(kv.1,v) else kv) else kvs++[(k,v)]
noncomputable def zeH:List W→Option (List Int)
 | []=>some []
 | .int i::ws=>(zeH ws).map (i:: ·)
 |_=>none
noncomputable def znP:W→Option (List Int)
 | .tup ws=>zeH ws
 |_=>none
noncomputable def zlX (S:Sto) (a:Addr) (P:List (List Int×W)→Prop):Prop:=match S a with
 |some (.dct kvs)=>P kvs
 |_=>False
theorem ziZ{S:Sto}{a:Addr}{P:List (List Int×W)→Prop}(h:zlX S a P):∃kvs,S a=some (.dct kvs)∧P kvs:=by
 unfold zlX at h;split at h
 ·exact⟨_, ‹_›,h⟩
 ·exact h.elim
theorem zfM{S:Sto}{a:Addr}{kvs:List (List Int×W)}{P:List (List Int×W)→Prop}(e:S a=some (.dct kvs)):zlX S a P=P kvs:=by unfold zlX;rw [e]
section
variable {K:PySem.W.Frag}{H:Hp}
noncomputable abbrev RepD (K:PySem.W.Frag) (H:Hp):List (List Int×W)→List (List Key×V)→Prop:=Paired fun q p=>p.1=q.1.map Sum.inl∧Rep K H q.2 p.2
theorem zgL:∀{a b:List Int},a.map (Sum.inl:Int→Key)=b.map Sum.inl→a=b
 | [],[],_=>rfl
 | [],_::_,h=>by simp at h
 |_::_,[],h=>by simp at h
 |x::xs,y::ys,h=>by
  simp only[List.map_cons,List.cons.injEq,Sum.inl.injEq]at h;rw [h.1,zgL h.2]
theorem RepD.val{kvs:List (List Int×W)}{ps:List (List Key×V)}(r:RepD K H kvs ps) (k:List Int):(∀w,zgr kvs k=some w→ ∃v,zkw ps (k.map Sum.inl)=some v∧Rep K H w v)∧(zgr kvs k=none→zkw ps (k.map Sum.inl)=none):=by
 induction r with
 |nil=>exact⟨fun w h=>by simp [zgr]at h,fun _=>rfl⟩
 | @cons q p kvs ps h t ih=>
  by_cases hk:q.1=k
  ·have e:p.1=k.map Sum.inl:=by rw [h.1,hk]
   rw [zfo e];have ew:zgr (q::kvs) k=some q.2:=by simp [zgr,List.find?_cons,hk]
   rw [ew];exact⟨fun w z=>by cases z;exact⟨_,rfl,h.2⟩,fun z=>by cases z⟩
  ·have e:¬p.1=k.map Sum.inl:=by rw [h.1];exact fun z=>hk (zgL z)
   rw [zfr e];have ew:zgr (q::kvs) k=zgr kvs k:=by simp [zgr,List.find?_cons,hk]
   rw [ew];exact ih
theorem RepD.any{kvs:List (List Int×W)}{ps:List (List Key×V)}(r:RepD K H kvs ps) (k:List Int):(ps.any fun kv=>decide (kv.1=k.map Sum.inl))=kvs.any fun kv=>decide (kv.1=k):=by
 induction r with
 |nil=>rfl
 | @cons q p kvs ps h t ih=>
  rw [List.any_cons,List.any_cons,ih];congr 1;apply decide_eq_decide.mpr;rw [h.1];exact⟨zgL,fun z=>by rw [z]⟩
theorem RepD.put{kvs:List (List Int×W)}{ps:List (List Key×V)}(r:RepD K H kvs ps) (k:List Int) {w:W}{v:V}(rw':Rep K H w v):RepD K H (zov kvs k w) (zjL ps (k.map Sum.inl) v):=by
 unfold zov zjL;rw [r.any k];split
 ·rename_i hany;clear hany
  induction r with
  |nil=>exact .nil
  | @cons q p kvs ps h t ih=>
   rw [List.map_cons,List.map_cons];refine .cons ?_ ih;by_cases hk:q.1=k
   ·rw [if_pos hk,if_pos (by rw [h.1,hk])];exact⟨h.1,rw'⟩
   ·rw [if_neg hk,if_neg (by rw [h.1];exact fun z=>hk (zgL z))];exact h
 ·rename_i hany;clear hany
  induction r with
  |nil=>exact .cons ⟨rfl,rw'⟩ .nil
  |cons h t ih=>exact .cons h ih
theorem RepD.length{kvs:List (List Int×W)}{ps:List (List Key×V)}(r:RepD K H kvs ps):kvs.length=ps.length:=Paired.length r
theorem zgi:∀{ws:List W}{vs:List V}{k:List Int},Reps K H ws vs→zeH ws=some k→vs=(k.map (Sum.inl:Int→Key)).map kV
 | [],_,_, .nil,e=>by cases e;rfl
 |w::ws,_,k, .cons r rs,e=>by
  cases r with
  |int i=>
   cases q:zeH ws with
   |none=>simp [zeH,q]at e
   |some ks=>
    simp only[zeH,q,Option.map_some,Option.some.injEq]at e;subst e;rw [zgi rs q];rfl
  |_=>simp [zeH]at e
theorem zki{w:W}{v:V}{k:List Int}(r:Rep K H w v) (e:znP w=some k):∃b,v= .ref b∧H b=some (.tup ((k.map (Sum.inl:Int→Key)).map kV)):=by
 cases r with
 |tup f hs=>exact⟨_,rfl,by rw [f,zgi hs e]⟩
 |_=>simp [znP]at e
theorem zmI{S:Sto}{a:Addr}{kvs:List (List Int×W)}{y:V}{wy:W}{k:List Int}(hS:RepS K H S) (e:S a=some (.dct kvs)) (ry:Rep K H wy y) (ek:znP wy=some k):∃o,DGet H a y o∧(zgr kvs k=none→o=none)∧ ∀w,zgr kvs k=some w→ ∃v,o=some v∧Rep K H w v:=by
 obtain⟨ps,e1,r⟩:=hS a _ e;obtain⟨b,rfl,eb⟩:=zki ry ek;have rv:=RepD.val r k;exact⟨zkw ps (k.map Sum.inl), .t e1 eb,rv.2,rv.1⟩
end
noncomputable def zrv:WE:=fun _ _ S Q=>∀a,S a=none→Q (.ref a) (put S a (.dct []))
noncomputable def zte (neg:Bool):W2:=fun y x S Q=>match x with
 | .ref a=>match znP y with
  |some k=>zlX S a fun kvs=>Q (.bl (if neg then !(zgr kvs k).isSome else(zgr kvs k).isSome)) S
  |none=>False
 |_=>False
noncomputable def zkZ:W2:=fun x y S Q=>match x with
 | .ref a=>match znP y with
  |some k=>zlX S a fun kvs=>match zgr kvs k with
   |some w=>Q w S
   |none=>False
  |none=>False
 |_=>False
noncomputable def zrV (td ty tv:WE):WS:=fun E D σ S=>tv E σ S fun v S1=>td E σ S1 fun x S2=>ty E σ S2 fun y S3=>match x with
 | .ref a=>match znP y with
  |some k=>zlX S3 a fun kvs=>kvs.length<sizeLine∧D.nx σ (put S3 a (.dct (zov kvs k v)))
  |none=>False
 |_=>False
section
variable {X:Cx}{a b o i value:Expr}{pos pos':Pos}{ta tb td ty tv:WE}
theorem zqA:JE X (.Dict [] [] pos) zrv:=fun E hE=>
 pe_dnewT.mono fun σ H Q ⟨σW,S,QW,hσ,hS,ht,hQ⟩ p hp=>by
  refine hQ (.ref p) (put S p (.dct [])) (.ref p) _ (.newS hp) (.ref p) (fun b o q=>?_) (ht p (hS.free hp));by_cases hb:b=p
  ·subst hb;rw [zag]at q;cases q;exact⟨[],zat, .nil⟩
  ·rw [zaI hb]at q;exact hS.new hp b o q
noncomputable def zwo (neg:Bool):R2:=fun y x H Q=>∃a o,x= .ref a∧DGet H a y o∧Q (.bl (if neg then !o.isSome else o.isSome)) H
theorem ztz (hu:X.A.units+1<cLine):OpR X (compareOp .In) (zwo false):=by
 intro pins s σ H x y v u Q I rx ry h;obtain⟨a,o,rfl,g,q⟩:=h;cases ry;exact zxc hu I g rx fun s3 I3=>⟨.bl o.isSome,H,I3,rfl,q⟩
theorem zrP{K:PySem.W.Frag}{neg:Bool}:OpW K (zwo neg) (zte neg):=fun H x y wx wy S Q QW rx ry hS h hQ=>by
 unfold zte at h;split at h
 ·split at h
  ·rename_i k ek;obtain⟨kvs,ea,h⟩:=ziZ h;cases ry;obtain⟨o,g,g0,g1⟩:=zmI hS ea rx ek;have eo:o.isSome=(zgr kvs k).isSome:=by
    cases q:zgr kvs k with
    |none=>rw [g0 q];rfl
    |some w=>obtain⟨v,ev,_⟩:=g1 w q;rw [ev];rfl
   exact⟨_,o,rfl,g,by rw [eo];exact hQ _ S _ H .refl (.bl _) hS h⟩
  ·exact h.elim
 ·exact h.elim
theorem zsy{k:Nat}(hr:Room k X.A) (ha:JE X a ta) (hb:JE X b tb) (hm:behindInMarks .In b=false:=by with_unfolding_all rfl):JT X (.Compare a [.In] [b] pos) (wTb (wOp (zte false) ta tb)):=
 zez (ztz (by have:=hr.units;omega)) zrP ha hb hm
theorem zjr{k:Nat}(hr:Room k X.A) (ha:JE X a ta) (hb:JE X b tb) (hs:zvg b:=by intro _ _;rfl):JE X (.Subscript a b pos) (wOp zkZ ta tb):=fun E hE=>
 (zrt (by have:=hr.units;omega) (ha E hE) (hb E hE) hs).mono fun σ H Q h=>zeA h fun H2 x y wx wy S QW rx ry hS q hQ=>by
  unfold zkZ at q;split at q
  ·split at q
   ·rename_i k ek;obtain⟨kvs,ea,q⟩:=ziZ q;cases rx;obtain⟨o,g,g0,g1⟩:=zmI hS ea ry ek;split at q
    ·rename_i w ew;obtain⟨v,rfl,rv⟩:=g1 w ew;exact⟨_,v,rfl,g,hQ w S v H2 .refl rv hS q⟩
    ·exact q.elim
   ·exact q.elim
  ·exact q.elim
theorem zqh{k:Nat}(hr:Room k X.A) (ho:JE X o td) (hi:JE X i ty) (hv:JE X value tv) (hs:swapsWith value (some (.Subscript o i pos')) pos.line X.env=pure false:=by rfl):JS X (.Assign [.Subscript o i pos'] value pos) (zrV td ty tv):=fun E hE=>
 (zqO (by have:=hr.units;omega) (ho E hE) (hi E hE) (hv E hE) hs).mono fun D σ H ⟨σW,S,DW,hσ,hS,ht,hD⟩=>
  ⟨σW,S,_,hσ,hS,ht,fun w S1 v H1 e1 r1 hS1 h1=>⟨σW,S1,_,hσ.ext e1,hS1,h1,fun wx S2 x H2 e2 r2 hS2 h2=>⟨σW,S2,_,(hσ.ext e1).ext e2,hS2,h2,fun wy S3 y H3 e3 r3 hS3 h3=>by
   split at h3
   ·split at h3
    ·rename_i a _ k ek;obtain⟨kvs,ea,hl,h3⟩:=ziZ h3;cases r2;obtain⟨ps,e4,r4⟩:=hS3 a _ ea;obtain⟨b,rfl,eb⟩:=zki r3 ek;have r1':Rep X.K H3 w v:=(r1.ext e2).ext e3;have x4:Ext H3 S3 (upd H3 a (.dT (zjL ps (k.map Sum.inl) v))) (put S3 a (.dct (zov kvs k w))):= .mut e4 ea (fun _ z=>nomatch z) fun _ _ z=>nomatch z;refine⟨a,_,rfl, .t e4 eb (by rw [←RepD.length r4];exact hl),?_⟩;refine hD.nx _ (put S3 a (.dct (zov kvs k w))) _ _ (((e1.trans e2).trans e3).trans x4) ((((hσ.ext e1).ext e2).ext e3).ext x4) (fun c ob q=>?_) h3;by_cases hc:c=a
     ·subst hc;rw [zag]at q;cases q;exact⟨_,zat,Paired.mapP (RepD.put r4 k r1') fun _ _ z=>⟨z.1,z.2.ext x4⟩⟩
     ·rw [zaI hc]at q;exact(hS3 c ob q).keep x4 fun u z=>by rw [zau hc];exact z
    ·exact h3.elim
   ·exact h3.elim⟩⟩⟩
end
section
noncomputable def zsE:WMf:=fun w ws S Q=>match w,ws with
 | .str z,[]=>z.length≤5592405∧Q (.str (Txt.upper z)) S
 |_,_=>False
end
end L2
end
section
namespace L2
open PySem PySem.Spec PyProof.Rows PySem.W PySem.Calls Builtin Builtin.ObjectAttr Builtin.Getset_descriptor
structure XcOk (K:Frag) (C:Addr):Prop where
  ga:findIn K (.ref C) "__getattribute__" =some (some (.builtin "BaseException.__getattribute__"))
  gt:findIn K (.ref C) "__getattr__" =some none
  cl:findIn K (.ref C) "__class__" =some (some (.builtin "object.__class__"))
  ob:mroIn K C (.type "object")=some true
  be:mroIn K C (.type "BaseException")=some true
section
variable {prog:Program}{w:World}{A:Around}{E:Value→Shared→Prop}{h:Heap}{g:Array GenState}{d:Drawn}{t:Nat}{os:OsState}{a C:Addr}{o:Obj}{K:Frag}
theorem zrN{M:Model}(hx:h.get? a=some o) (hc:o.cls= .ref C):Looks M h (typeOf (.ref a)) (.ref C):=hc▸(Looks.ld hx).andThen .now
theorem zsB{R:Result→Shared→Prop}(O:XcOk K C) (X:K.In h) (hx:h.get? a=some o) (hc:o.cls= .ref C) (hq:R (.ok (.ret (.ref C))) ⟨h,g,d,t,os⟩) :
  codeAny (model prog w) A (.call (.builtin "getset_descriptor.__get__") ⟨[.builtin "object.__class__", .ref a, .ref C],[]⟩) R ⟨h,g,d,t,os⟩:=by
 have L0:=zrN (M:=model prog w) hx hc;have L1:=looks_mroIn (M:=model prog w) X O.ob;refine codeAny_call_builtin KF.slot_gs.plain KF.entry_gs (KF.slot_gs.check _ _ _ _ _ _ _ _ KF.type_class (KF.args_gs _ _ _) ?_);unfold Builtin.«getset_descriptor.__get__» descrGet;rw [dga_obj];refine wpAny_bind (wpAny_pure ?_);unfold descrGetter descrCheckInstance descrNameAndClass isInstance;simp only[KF.owner_class]
 repeat lk
 refine⟨Code.quiet_builtin _ (by decide +kernel),codeAny_builtin KF.entry_class ?_⟩;unfold Builtin.«object.__class__» shownTypeOf
 repeat lk
 exact hq
theorem zoJ{tk:Tok}{Q:Fin→Shared→Prop}(O:XcOk K C) (X:K.In h) (hx:h.get? a=some o) (hc:o.cls= .ref C) (hq:Q (.done (.ret (.ref C))) ⟨h,g,d,t,os⟩) :
  wpAny (model prog w) A (Builtin.«object.__getattribute__» ⟨[.ref a, .str "__class__" tk],[]⟩) Q E ⟨h,g,d,t,os⟩:=by
 have hT5:(⟨h,g,d,t,os⟩:Shared).TypeIs (.builtin "object.__class__") "getset_descriptor" :=F.typeOf_object_class;have f5:=F.typeOf_object_class;have f6:=F.slot_gs_get.lookup;have f7:=F.slot_gs_set.lookup;have L1:=looks_findIn (M:=model prog w) X O.cl
 repeat (any_goals (first |assumption | (with_reducible refine wpAny_loadPart_at hx ?_;rw [hc]) |with_reducible refine L1.at ?_ |wp_step))
 refine zsB O X hx hc ?_
 repeat (any_goals (first |assumption |wp_step))
theorem zpf{M:Model}{nameV:Value}{Q:Unit→Shared→Prop}(O:XcOk K C) (X:K.In h) (hx:h.get? a=some o) (hc:o.cls= .ref C) (hq:Q () ⟨h,g,d,t,os⟩):wpAny M A (checkBuiltinCall "BaseException.__getattribute__" ⟨[.ref a,nameV],[]⟩) Q E ⟨h,g,d,t,os⟩:=by
 have hk:builtinKind "BaseException.__getattribute__" =some .slot:=by decide +kernel
 have hsplit:splitId "BaseException.__getattribute__" =some ("BaseException", "__getattribute__"):=by decide +kernel
 have L1:=looks_mroIn (M:=M) X O.be;have ha:=F.args_bexc_ga (.ref a) nameV;simp only[checkBuiltinCall,hk,hsplit];refine wpAny_bind ?_;unfold isInstance
 repeat (first | (with_reducible refine wpAny_loadPart_at hx ?_;rw [hc]) |with_reducible refine L1.at ?_ |wp_step)
 exact hq
theorem zqg{tk:Tok}{R:Result→Shared→Prop}(O:XcOk K C) (X:K.In h) (hx:h.get? a=some o) (hc:o.cls= .ref C) (hq:R (.ok (.ret (.ref C))) ⟨h,g,d,t,os⟩) :
  codeAny (model prog w) A (.call (.builtin "BaseException.__getattribute__") ⟨[.ref a, .str "__class__" tk],[]⟩) R ⟨h,g,d,t,os⟩:=
 codeAny_call_builtin F.excAttr_ValueError.ga.plain F.entry_bexc_ga (zpf O X hx hc (zoJ O X hx hc hq))
theorem zwf{tk:Tok}{fill expr:Bool}{Q:Value→Shared→Prop}(O:XcOk K C) (X:K.In h) (hx:h.get? a=some o) (hc:o.cls= .ref C) (hq:Q (.ref C) ⟨h,g,d,t,os⟩) :
  wpAny (model prog w) A (getAttrBy (.ref a) (.str "__class__" tk) fill expr) Q E ⟨h,g,d,t,os⟩:=by
 have f3:=F.excAttr_ValueError.ga.bind (.ref a);have hx0:(expr&&onTheHeap (Value.builtin "BaseException.__getattribute__"))=false:=by cases expr<;>rfl
 have hx2:(Value.builtin "BaseException.__getattribute__" == Value.builtin "object.__getattribute__")=false:=by decide +kernel
 have hx1:(onTheHeap (Value.ref C)&&Value.builtin "BaseException.__getattribute__" == Value.builtin "object.__getattribute__")=false:=by rw [hx2];rfl
 have L1:=looks_findIn (M:=model prog w) X O.ga;have L2:=looks_findIn (M:=model prog w) X O.gt
 repeat (any_goals (first |assumption | (with_reducible refine wpAny_loadPart_at hx ?_;rw [hc]) |with_reducible refine L1.at ?_ |with_reducible refine L2.at ?_ |wp_step))
 refine zqg O X hx hc ?_
 repeat (any_goals (first |assumption |wp_step))
theorem zqY{Q:Option Value→Shared→Prop}(O:XcOk K C) (X:K.In h) (hx:h.get? a=some o) (hc:o.cls= .ref C) (hq:Q (some (.ref C)) ⟨h,g,d,t+1,os⟩):wpAny (model prog w) A (getAttr? (.ref a) "__class__") Q E ⟨h,g,d,t,os⟩:=by
 unfold getAttr? getAttrBy?
 repeat (any_goals (first |assumption |with_reducible apply zwf O X hx hc |wp_step))
theorem zoo (O:XcOk K C):KitX K (.ref a) (.ref C) (fun h=>∃o,h.get? a=some o∧o.cls= .ref C) where
  ty:=fun _ _ _ ⟨o,hx,hc⟩=>zrN hx hc
  it:=fun _ _ X _=>by
    obtain⟨cd,hcD,_⟩:=Option.bind_eq_some_iff.mp O.ob;unfold clsIn at hcD;split at hcD
    · rename_i c' d' cd' sl' ho;intro A' Q' E' s' k q;unfold isType loadHead;exact wpAny_bind (wpAny_loadPart (k _ _ (X _ _ ho)) (wpAny_pure q))
    · cases hcD
  ne:=fun h tp dd its n sl X htp=>by
    obtain⟨cd,hcD,_⟩:=Option.bind_eq_some_iff.mp O.ob;refine Bool.eq_false_iff.mpr fun q=>?_;have e:C=tp:=Value.ref.inj (beq_iff_eq.mp q);subst e;unfold clsIn at hcD;split at hcD
    · rename_i c' d' cd' sl' ho;have z:=(X _ _ ho).symm.trans htp;cases z
    · cases hcD
  ca:=fun {_ _ _ _ _ s} X ⟨o,hx,hc⟩ k=>by
    obtain⟨h,g,d,t,os⟩:=s;exact zqY O X hx hc k
end
noncomputable abbrev bmV:List Value:=[.type "ValueError", .type "Exception", .type "BaseException", .type "object"]
structure XcIn (K:PySem.W.Frag) (x:Str) (C:Addr):Prop where
  nm:PySem.W.nsIn K mainGlobals x=some (some (.ref C))
  ex:PySem.W.excIn K C bmV "ValueError.__new__" =true
  xc:XcOk K C
theorem XcIn.own{K:PySem.W.Frag}{x:Str}{C:Addr}{h:Heap}{mg:Str→Option Value}(O:XcIn K x C) (X:K.In h) (G:h.Ns mainGlobals mg):OwnCls x C bmV "ValueError.__new__" mg h:=by
 have q:=O.ex;refine⟨PySem.W.mg_of X G O.nm,?_⟩;unfold PySem.W.excIn at q;split at q
 ·rename_i dd cd sl ho;split at q
  ·rename_i C' bm k0 k1 k2 k3 n k5 hm hs;simp only[Bool.and_eq_true,beq_iff_eq,Bool.not_eq_true']at q;obtain⟨⟨⟨⟨⟨rfl,hnn⟩,hdel⟩,ht⟩,hok⟩,hni⟩:=q;obtain⟨nm,bs,mro,ns,qn,hd,sn,sub,ab,col,del⟩:=cd;dsimp only at hm hdel hok hni;subst hm hdel;have hsl:sl= #[k0,k1,k2,k3,some (.builtin n),k5]:=by
    obtain⟨l⟩:=sl;simp only at hs;rw [hs]
   subst hsl;subst hnn;exact⟨bm,ns,nm,qn,bs,hd,sn,sub,ab,col,dd,k0,k1,k2,k3,k5,_,X _ _ ho, .of_isNs (PySem.W.isNs_of_in X hok),PySem.W.nsMap_none_of_in X hok hni,PySem.W.tail_of_in X ht⟩
  ·cases q
 ·cases q
noncomputable def zfL (x:Str) (t:WA):WS:=fun E _ σ S=>t E σ S fun ws S1=>ws.length≤sizeLine∧E x σ S1
theorem zeG{X:Cx}{x:Str}{C:Addr}{e:Expr}{es:List Expr}{t:WA}{np cpos pos:Pos}(O:XcIn X.K x C) (hg:Gl X x) (hm:X.mg x=some (.ref C)) (ha:JA X (e::es) t) (hcl:X.calm=true:=by rfl) (hdb:(x == ("__debug__" :Str))=false:=by decide)
  (he:starEach (e::es) X.env=(false,eval e X.env)::starEach es X.env:=by rfl) (hpl:(backTo cpos (starEach es X.env)).any (·.1)=false:=by rfl) :
  JS X (.Raise (some (.Call (.Name x np) (e::es) [] cpos)) none pos) (zfL x t):=fun E hE pins s σ H D I z=>by
 obtain⟨σW,S,DW,hσ,hS,ht,hD⟩:=z;have OC:=(O.own I.mod.kin I.mod.glob).keeps I.bk;obtain⟨tl,N,nm,q,bs,hdct,sn,sub,ab,col,dd,k0,k1,k2,k3,k5,mN,hC,hN,hni,T⟩:=(O.own I.mod.kin I.mod.glob).obj;refine wpAny_Raise_call_subT (C:=C) (nm:=nm) (q:=q) (N:=N) (bs:=bs) (bm:=tl) (hdct:=hdct) (sn:=sn) (sub:=sub) (ab:=ab) (col:=col) (dd:=dd) (k0:=k0) (k1:=k1) (k2:=k2) (k3:=k3) (k5:=k5)
  F.excBase_ValueError (mN:=mN) (T.hasType F.excBase_ValueError.hasBase) (I.ok.hd hcl) (by rw [he];show(false || (backTo cpos (starEach es X.env)).any (·.1))=false;rw [hpl];rfl) hni (zfP I hg hm ⟨rfl,?_⟩ hdb)
 have go:=ha E hE cpos pins s σ H (fun vs H1=>∃ws S1,Reps X.K H1 ws vs∧RpSt X.K H1 σW σ∧RepS X.K H1 S1∧ws.length≤sizeLine∧E x σW S1) I ⟨σW,S,_,hσ,hS,ht,fun ws S1 vs H1 e1 r1 hS1 h1=>⟨ws,S1,r1,hσ.ext e1,hS1,h1.1,h1.2⟩⟩;rw [he]at go⊢;refine Calls.evalArgs_plain (wpAny_mono go (fun us s2 ⟨vs,H1,I1,r,ws,S1,r1,hσ1,hS1,hl,h1⟩=>?_) fun _ _ y=>y);refine⟨rfl,by rw [←r.length,←r1.length];exact hl,I1.bk _ _ hC,hN.keeps I1.bk,T.keeps I1.bk,fun h' a me=>?_⟩
 exact hE.near pins σ H1 s2 σW x C a S1 h' us I1 hσ1 O.nm me hS1 h1
noncomputable abbrev noX:WX:=fun _ _ _=>False
theorem zpn{X:Cx}(h:PassesOwn (model X.prog X.w) X.A X.env X.xe):Hook X noX:=⟨h,fun _ _ _ _ _ _ _ _ _ _ _ _ _ _ _ _ _ _ _ _ z=>z.elim,fun _ _ _ _ _ _ _ _ _ _ _ _ _ _ _ _ z=>z.elim⟩
noncomputable abbrev Cx.at (X:Cx) (pn:List (Addr×Obj)) (E:Value→Shared→Prop):Cx:={ X with pn:=pn,xe:=E }
section
variable {X:Cx}{pins pins':List (Addr×Obj)}{σ:St}{H:Hp}{s:Shared}{E:Value→Shared→Prop}
theorem Cx.Ok.at (ok:X.Ok) (pn:List (Addr×Obj)) (E:Value→Shared→Prop):(X.at pn E).Ok:=
 ⟨ok.mod,ok.kind,ok.glob,ok.blt,ok.above,ok.inj,ok.has,ok.cab,ok.hd,ok.frames,ok.stk,ok.exf,ok.bs,ok.bsz,ok.noex,ok.exfs,ok.funs,ok.frf⟩
theorem Cx.Ok.unat{pn:List (Addr×Obj)}(ok:(X.at pn E).Ok):X.Ok:=
 ⟨ok.mod,ok.kind,ok.glob,ok.blt,ok.above,ok.inj,ok.has,ok.cab,ok.hd,ok.frames,ok.stk,ok.exf,ok.bs,ok.bsz,ok.noex,ok.exfs,ok.funs,ok.frf⟩
theorem Inv.at (I:Inv X pins σ H s) (E:Value→Shared→Prop):Inv (X.at (X.pn++pins) E) [] σ H s:=⟨I.ok.at _ E,I.os,I.bare,I.base,I.loc,I.cell,I.free,I.freeC,fun p hp=>I.pin p (by simpa using hp),I.hok,I.len⟩
theorem Inv.unat (I:Inv (X.at (X.pn++pins) E) pins' σ H s):Inv X pins σ H s:=⟨I.ok.unat,I.os,I.bare,I.base,I.loc,I.cell,I.free,I.freeC,fun p hp=>I.pin p (List.mem_append_left _ hp),I.hok,I.len⟩
theorem SP.unat{D:Ends}{f:Flow}{s':Shared}(h:SP (X.at (X.pn++pins) E) [] D f s'):SP X pins D f s':=by
 cases f with
 |next=>obtain⟨σ',H',I,q⟩:=h;exact⟨σ',H',I.unat,q⟩
 |brk=>obtain⟨σ',H',I,q⟩:=h;exact⟨σ',H',I.unat,q⟩
 |cont=>obtain⟨σ',H',I,q⟩:=h;exact⟨σ',H',I.unat,q⟩
 |ret u=>obtain⟨v,σ',H',I,r,q⟩:=h;exact⟨v,σ',H',I.unat,r,q⟩
end
noncomputable def zsP (X:Cx) (pins:List (Addr×Obj)) (σ:St) (σW:WSt) (H:Hp) (S:Sto) (E:WX) (e:Value) (s':Shared):Prop:=∃(cl:Str) (C a:Addr) (H1:Hp) (s1:Shared) (H':Hp) (S':Sto),e= .ref a∧PySem.W.nsIn X.K mainGlobals cl=some (some (.ref C))∧Inv X pins σ H1 s1∧
 s'.os=s1.os∧AllBare s'.gens∧Un (frs X.stack) [] H1 H' s1.heap s'.heap∧HOk X.prog X.w H' s'.heap∧Fly s1.heap s'.heap H' a C∧Ext H S H' S'∧RepS X.K H' S'∧E cl σW S'
noncomputable def zvd (X:Cx) (E:WX) (t:WE):TE:=fun σ H Q=>∃σW S QW,RpSt X.K H σW σ∧RepS X.K H S∧t E σW S QW∧Wish X.K H S QW Q∧ ∀pins e s',zsP X pins σ σW H S E e s'→X.xe e s'
noncomputable def zpL (X:Cx) (E:WX) (t:WS):TS:=fun D σ H=>∃σW S DW,RpSt X.K H σW σ∧RepS X.K H S∧t E DW σW S∧Meets X.K H S DW D∧ ∀pins e s',zsP X pins σ σW H S E e s'→X.xe e s'
noncomputable def JXE (X:Cx) (e:Expr) (t:WE):Prop:=∀E,PassesOwn (model X.prog X.w) X.A X.env X.xe→PE X e (zvd X E t)
noncomputable def JXS (X:Cx) (st:Stmt) (t:WS):Prop:=∀E,PassesOwn (model X.prog X.w) X.A X.env X.xe→PS X st (zpL X E t)
noncomputable def JXs (X:Cx) (st:List Stmt) (t:WS):Prop:=∀E,PassesOwn (model X.prog X.w) X.A X.env X.xe→PSs X st (zpL X E t)
noncomputable def znO (c:WSp) (t:WA):WE:=fun E σ S Q=>t noX σ S fun ws S1=>c ws S1 Q fun cl S2=>E cl σ S2
section
variable {X:Cx}{k:Nat}{f:Addr}{fd:FuncData}{ps:List Str}{c:WSp}{x:Str}{p pos:Pos}{e:Expr}{es:List Expr}{t:WA}{te:WE}{st:Stmt}{a:List Stmt}{ta:WS}
theorem zrg (F:FnOk X.prog X.w X.K X.mg X.base (CX1 X.prog X.w) k f fd ps (zcd X.K c)) (hr:Room k X.A) (hg:Gl X x) (hm:X.mg x=some (.ref f)) (hk:PySem.W.keepIn X.K (.ref f)=true) (hb:Binds X.K fd ps [])
  (ha:JA X (e::es) t) (hdb:(x == ("__debug__" :Str))=false:=by decide) (he:starEach (e::es) X.env=(false,eval e X.env)::starEach es X.env:=by rfl) (hpl:(backTo pos (starEach es X.env)).any (·.1)=false:=by rfl) :
  JXE X (.Call (.Name x p) (e::es) [] pos) (znO c t):=fun E hp pins s σ H Q I h=>by
 obtain⟨σW,S,QW,hσ,hS,ht,hQ,hF⟩:=h;refine wpAny_Call_Name_kw (zfP I hg hm ?_ hdb);refine PySem.W.callWith_K (h₀:=X.base) I.ok.mod.kin hk (thn (ha noX (zpn hp) pos pins s σ H (fun vs H1=>∃ws S1,Reps X.K H1 ws vs∧RpSt X.K H1 σW σ∧RepS X.K H1 S1∧c ws S1 QW (fun cl S'=>E cl σW S')∧Wish X.K H1 S1 QW Q∧Ext H S H1 S1) I
  ⟨σW,S,_,hσ,hS,ht,fun ws S1 vs H1 e1 r1 hS1 h1=>⟨ws,S1,r1,hσ.ext e1,hS1,h1,hQ.from e1,e1⟩⟩) fun us s1 ⟨vs,H1,I1,r,ws,S1,r1,hσ1,hS1,h1,hQ1,e1⟩=>⟨I1.kIn,?_⟩) he hpl
 exact zsh (E:=E) F hr hb I1 r r1 hσ1 hS1 h1 hQ1 fun cl C a H' S' s' hn os bare un ok fly ex hS' q=>hF pins _ s' ⟨cl,C,a,H1,s1,H',S',rfl,hn,I1,os,bare,un,ok,fly,e1.trans ex,hS',q⟩
theorem ztH{i:Nat}{pos':Pos}(hN:X.N.Nodup) (hi:X.N[i]? =some x) (hx:Loc X.env.scope x) (he:JXE X e te) (hs:swapsWith e (some (.Name x pos')) pos.line X.env=pure false:=by rfl)
  (hf:X.fn x=true∨X.env.scope.names.lookup x=some .local:=by first |exact .inl rfl |exact .inr rfl |assumption):JXS X (.Assign [.Name x pos'] e pos) (wAsg te (wGN i)):=fun E hp=>
 (zpO hN hi hx (he E hp) hs hf).mono fun D σ H ⟨σW,S,DW,hσ,hS,ht,hD,hF⟩=>⟨σW,S,_,hσ,hS,ht,fun w S1 v H1 e1 r1 hS1 h1=>hD.nx _ S1 _ H1 e1 ((hσ.ext e1).set r1 i) hS1 h1,hF⟩
theorem zsw (h:JXS X st ta):JXs X [st] ta:=fun E hp=>zlR (h E hp)
end
theorem ztw{P:Program}{w:World}{base g h h3:Heap}{l:List Env}{H1 H':Hp}{a C:Addr}{hid:List Addr}(un:Un (frs l) [] H1 H' g h) (ok:HOk P w H' h) (ff0:h.FunFrames base l) (fr:∀b∈frs l,H' b=none)
  (h0:∀b∈hid,g.get? b=none∧H' b=none) (ha:a∈hid) (L:Heap.Left (PySem.W.hideAll h (hid++frs l)) l a (.ref C) h h3):Un (frs l) [] H1 H' g h3∧HOk P w H' h3∧Fly g h3 H' a C:=by
 obtain⟨st,ff,tr,sl⟩:=L;have keepB:∀b o,h.get? b=some o→b∉hid→b∉frs l→h3.get? b=some o:=fun b o e h1 h2=>st b o (PySem.W.hideAll_get _ e fun z=>(List.mem_append.mp z).elim h1 h2);have nh:∀b o,g.get? b=some o→b∉hid:=fun b o e hb=>by rw [(h0 b hb).1]at e;cases e
 have slotB:∀b o,b∈frs l→h.get? b=some o→ ∃sl,h3.get? b=some { o with slots:=sl }:=fun b o hb e=>by
  obtain⟨_,o',eo',nf⟩:=ff0.mem hb;rw [e]at eo';cases eo';exact sl b o e nf
 have nx:∀b:Addr,b∉([]:List Addr):=fun b=>by simp
 refine⟨⟨fun b o e n hb _=>keepB b o (un.keep b o e n hb (nx b)) (nh b o e) hb,fun b o e n hb _=>?_,fun b o e n _=>un.free b o e n (nx b),fun b o e _=>?_,un.tups,un.frzs,un.tbls⟩,fun b o e=>?_,(h0 a ha).1,(h0 a ha).2,?_⟩
 ·obtain⟨sl1,e1⟩:=un.slot b o e n hb (nx b);obtain⟨sl2,e2⟩:=slotB b _ hb e1;exact⟨sl2,e2⟩
 ·obtain⟨o',e1⟩:=un.there b o e (nx b);by_cases hb:b∈frs l
  ·obtain⟨sl2,e2⟩:=slotB b _ hb e1;exact⟨_,e2⟩
  ·exact⟨o',keepB b o' e1 (nh b o e) hb⟩
 ·refine(ok b o e).stay (fun c u hc q=>?_) (fun _ q=>q) fun _ _ q=>q;have tk:∃v,H' c=some v:=by
   rcases hc with z |z
   ·exact⟨o,by rw [z];exact e⟩
   ·exact⟨_,z⟩
  obtain⟨v,tk⟩:=tk;exact keepB c u q (fun z=>by rw [(h0 c z).2]at tk;cases tk) fun z=>by rw [fr c z]at tk;cases tk
 ·obtain⟨oe,vs,T,oT,ts,e1,e2,e3,e4,e5,e6,e7,e8,e9⟩:=tr;have nf:T∉frs l:=fun hb=>by
   obtain⟨_,o,eo,nf⟩:=ff.mem hb;rw [e7]at eo;cases eo;exact nf ts e8
  have both:g.get? T=none∧H' T=none:=by
   by_cases hT:T∈hid
   ·exact h0 T hT
   ·have z:h.get? T=none:=by
     cases q:h.get? T with
     |none=>rfl
     |some o=>
      rw [PySem.W.hideAll_get _ q fun z=>(List.mem_append.mp z).elim hT nf]at e5;cases e5
    constructor
    ·cases q:g.get? T with
     |none=>rfl
     |some o=>obtain⟨o',q'⟩:=un.there T o q (nx T);rw [z]at q';cases q'
    ·cases q:H' T with
     |none=>rfl
     |some u=>obtain⟨o',q'⟩:=(ok T u q).ex;rw [z]at q';cases q'
  exact⟨oe,vs,T,oT,ts,e1,e2,e3,e4,both.1,both.2,e6,e7,e8,e9⟩
theorem Heap.TracedW.tr{h base:Heap}{e:Addr}{cls a0:Value}(x:Heap.TracedW h base e cls a0):Heap.Traced h base e cls:=by
 obtain⟨oe,vs,T,oT,ts,he,⟨hcls,h0⟩,r⟩:=x;exact⟨oe,vs,T,oT,ts,he,hcls,r⟩
section
variable {X:Cx}{pins:List (Addr×Obj)}{σ:St}{H1 H':Hp}{s1 s':Shared}{a C:Addr}{M:Model}{A:Around}{E:Value→Shared→Prop}{R:Shared→Prop}
theorem znM (I1:Inv X pins σ H1 s1) (hst:X.stack=X.env::X.outer) (hf:X.env.frame=some X.env.locals) (os:s'.os=s1.os) (bare:AllBare s'.gens) (un:Un (frs X.stack) [] H1 H' s1.heap s'.heap) (ok:HOk X.prog X.w H' s'.heap) (fly:Fly s1.heap s'.heap H' a C) (hA:A.frames=some X.stack)
  (k:∀h3,Inv X pins σ H' { s' with heap:=h3 }→Un (frs X.stack) [] H1 H' s1.heap h3→HOk X.prog X.w H' h3→Fly s1.heap h3 H' a C→R { s' with heap:=h3 }) :
  wpAny M A (noteFrame (.ref a) X.env) (fun _ s₂=>wpAny M A (setFlight (.ref a) none) (fun _ s₃=>R s₃) E s₂) E s':=by
 have I2:Inv X pins σ H' s':=I1.call' os un ok bare (fun _ z=>nomatch z);have ff:=I2.stack;have fr:=I2.stkFree;obtain⟨g1,g2,oe,vs,T,oT,ts,e1,e2,e3,e4,g3,g4,e5,e6,e7,e8⟩:=fly;have sz:1<vs.size:=(Array.getElem?_eq_some_iff.mp e4).1;have hid:∀b∈ [a,T],s1.heap.get? b=none∧H' b=none:=fun b hb=>by
  rcases List.mem_cons.mp hb with rfl |hb
  ·exact⟨g1,g2⟩
  ·rw [List.mem_singleton.mp hb];exact⟨g3,g4⟩
 have st:∀h3,Heap.Left (PySem.W.hideAll s'.heap ([a,T]++frs X.stack)) X.stack a (.ref C) s'.heap h3→R { s' with heap:=h3 }:=fun h3 L=>by
  obtain⟨u1,u2,u3⟩:=ztw un ok ff fr hid (by simp) L;exact k h3 (I1.call' (s':={ s' with heap:=h3 }) os u1 u2 bare (fun _ z=>nomatch z)) u1 u2 u3
 rw [hst]at hA ff st;refine wpAny_noteFrame_onW (base:=PySem.W.hideAll s'.heap ([a,T]++frs (X.env::X.outer))) (cls:= .ref C) (a0:=vs[0]) hA (zgP ff) hf ⟨oe,vs,T,oT,ts,e1,⟨e2,Array.getElem?_eq_getElem _⟩,e3,e4,PySem.W.hideAll_none _ (by simp),e5,e6,e7,e8⟩ (fun b o z=>PySem.W.of_hideAll _ z) (PySem.W.hideAll_none _ (by simp)) fun h2 N=>?_;obtain⟨n1,n2,n3,n4⟩:=N;refine wpAny_setFlight_noneW (s:={ s' with heap:=h2 }) n1 n2 n3 fun h3 k1 k2 k3 k4=>?_;exact st h3 ⟨k1,k2,Heap.TracedW.tr k3,fun b o e nf=>by
  obtain⟨sl,z⟩:=n4 b o e nf;exact⟨sl,k4 b _ z nf⟩⟩
theorem zwy (I1:Inv X pins σ H1 s1) (os:s'.os=s1.os) (bare:AllBare s'.gens) (un:Un (frs X.stack) [] H1 H' s1.heap s'.heap) (ok:HOk X.prog X.w H' s'.heap) (fly:Fly s1.heap s'.heap H' a C)
  (k:∀h3,Inv X pins σ H' { s' with heap:=h3 }→Fly s1.heap h3 H' a C→R { s' with heap:=h3 }):wpAny M A (setFlight (.ref a) none) (fun _ s₃=>R s₃) E s':=by
 have I2:Inv X pins σ H' s':=I1.call' os un ok bare (fun _ z=>nomatch z);have ff:=I2.stack;have fr:=I2.stkFree;obtain⟨g1,g2,oe,vs,T,oT,ts,e1,e2,e3,e4,g3,g4,e5,e6,e7,e8⟩:=fly;have sz:1<vs.size:=(Array.getElem?_eq_some_iff.mp e4).1;have hid:∀b∈ [a,T],s1.heap.get? b=none∧H' b=none:=fun b hb=>by
  rcases List.mem_cons.mp hb with rfl |hb
  ·exact⟨g1,g2⟩
  ·rw [List.mem_singleton.mp hb];exact⟨g3,g4⟩
 refine wpAny_setFlight_noneW (base:=PySem.W.hideAll s'.heap ([a,T]++frs X.stack)) (l:=X.stack) (cls:= .ref C) (a0:=vs[0]) (fl:= .none) (fun b o z=>PySem.W.of_hideAll _ z) (zgP ff) ⟨oe,vs,T,oT,ts,e1,⟨e2,Array.getElem?_eq_getElem _⟩,e3,e4,PySem.W.hideAll_none _ (by simp),e5,e6,e7,e8⟩ fun h3 k1 k2 k3 k4=>?_;obtain⟨u1,u2,u3⟩:=ztw un ok ff fr hid (by simp) ⟨k1,k2,Heap.TracedW.tr k3,fun b o e nf=>⟨o.slots,k4 b o e nf⟩⟩;exact k h3 (I1.call' (s':={ s' with heap:=h3 }) os u1 u2 bare (fun _ z=>nomatch z)) u3
end
noncomputable abbrev Cx.hot (X:Cx) (a:Addr) (pn:List (Addr×Obj)):Cx:={ X with A:=X.A.mark (some (.ref a)),calm:=false,pn:=pn,xe:=fun _ _=>False }
section
variable {X:Cx}{pins pins':List (Addr×Obj)}{σ:St}{H:Hp}{s:Shared}{a:Addr}{oa:Obj}
theorem Cx.Ok.hot (ok:X.Ok) (a:Addr) (pn:List (Addr×Obj)):(X.hot a pn).Ok:=
 ⟨ok.mod,ok.kind,ok.glob,ok.blt,ok.above,ok.inj,ok.has,ok.cab,(fun z=>nomatch z),ok.frames,ok.stk,ok.exf,ok.bs,ok.bsz,ok.noex,ok.exfs,ok.funs,ok.frf⟩
theorem Inv.hot{vs:Array Value}(I:Inv X pins σ H s) (e:s.heap.get? a=some oa) (n:H a=none) (d:oa.data= .fields vs):Inv (X.hot a (X.pn++pins++[(a,oa)])) [] σ H s:=
 ⟨I.ok.hot a _,I.os,I.bare,I.base,I.loc,I.cell,I.free,I.freeC,(fun p hp=>by
  rw [List.append_nil]at hp;rcases List.mem_append.mp hp with hp |hp
  ·exact I.pin p hp
  ·rw [List.mem_singleton.mp hp];refine⟨e,n,fun z=>?_,fun z=>?_,fun v z=>?_⟩
   ·obtain⟨m,⟨o,es,ep,ho,hd,_⟩,_⟩:=I.loc;have e':s.heap.get? X.env.locals=some oa:=by rw [←show a=X.env.locals from z];exact e
    rw [ho]at e';cases e';rw [hd]at d;cases d
   ·obtain⟨_,o,ho,nf⟩:=I.funs.mem z;have e':s.heap.get? a=some o:=ho;rw [e]at e';cases e';exact nf vs d
   ·have z':oa.data= .cell v:=z;rw [d]at z';cases z'),I.hok,I.len⟩
theorem Inv.unhot (I0:X.Ok) (I:Inv (X.hot a (X.pn++pins++[(a,oa)])) pins' σ H s):Inv X pins σ H s:=
 ⟨I0,I.os,I.bare,I.base,I.loc,I.cell,I.free,I.freeC,fun p hp=>I.pin p (List.mem_append_left _ (List.mem_append_left _ hp)),I.hok,I.len⟩
theorem zuI{M:Model}{A:Around}{E:Value→Shared→Prop}{i:Nat}{n:Str}{pos:Pos}{Q:Unit→Shared→Prop}(I:Inv X pins σ H s) (hN:X.N.Nodup) (hi:X.N[i]? =some n) (hl:X.env.scope.names.lookup n=some .local)
  (h:∀s',Inv X pins (σ.set i none) H s'→Q () s'):wpAny M A (do bindName X.env n .none;unbindBehindTheSuite X.env n pos) Q E s:=by
 obtain⟨m,hn,hlk⟩:=id I.loc;have hcls:(X.env.scope.kind == .class || (X.env.scope.kind == .module&&X.env.locals != X.env.globals))=false:=by rw [I.ok.kind];rfl
 have hiσ:i<σ.length:=by rw [I.len];exact(List.getElem?_eq_some_iff.mp hi).1
 have cne:=I.cne;refine wpAny_nameGoes_keeps (show X.env.kindOf n=some .local from hl) hn hcls fun h' v hn' hs=>?_;obtain⟨oL,_,_,hoL,_⟩:=id hn;have lt:∀b o,X.s₀.heap.get? b=some o→b≠X.env.locals:=fun b o e=>Nat.ne_of_lt (Nat.lt_of_lt_of_le (Heap.lt_size e) I.ok.above);refine h _ ⟨I.ok,I.os,I.bare,⟨fun b o e n hb hx=>?_,fun b o e n hb hx=>?_,I.base.free,fun b o e hx=>?_,I.base.tups,I.base.frzs,I.base.tbls⟩,⟨_,hn',fun j y v' e1 e2 e3=>?_⟩,fun y c e=>?_,I.free,I.freeC,fun p hp=>?_,fun b ob e=>?_,by simpa using I.len⟩
 ·exact(hs.2 b (lt b o e)).trans (I.base.keep b o e n hb hx)
 ·obtain⟨sl,e1⟩:=I.base.slot b o e n hb hx;exact⟨sl,(hs.2 b (lt b o e)).trans e1⟩
 ·obtain⟨o',e1⟩:=I.base.there b o e hx;exact⟨o',(hs.2 b (lt b o e)).trans e1⟩
 ·by_cases hj:j=i
  ·subst hj;rw [List.getElem?_set_self hiσ]at e2;cases e2
  ·rw [List.getElem?_set_ne (Ne.symm hj)]at e2;obtain⟨u',r',q⟩:=hlk j y v' e1 e2 e3;refine⟨u',r',?_⟩;rcases q with⟨k,e⟩ |⟨k,c,e,z⟩
   ·refine .inl ⟨k,?_⟩;have:y≠n:=fun e=>hj (zgF hN e1 (e▸hi));simp [this,e]
   ·exact .inr ⟨k,c,e,z.sameBut hs (cne y c e)⟩
 ·obtain⟨w',z⟩:=I.cell y c e;exact⟨w',z.sameBut hs (cne y c e)⟩
 ·obtain⟨e,n,ne,nf,d⟩:=I.pin p hp;exact⟨(hs.2 p.1 ne).trans e,n,ne,nf,d⟩
 ·refine(I.hok b ob e).stay (fun c w' hc q=>(hs.2 c ?_).trans q) (fun _ q=>q) fun _ _ q=>q;rintro rfl;rcases hc with z |hc
  ·rw [←z,I.free]at e;cases e
  ·rw [I.free]at hc;cases hc
end
theorem RpSt.setN{K:PySem.W.Frag}{H:Hp}:∀{σW:WSt}{σ:St}(i:Nat),RpSt K H σW σ→RpSt K H (σW.set i none) (σ.set i none)
 |_,_,_, .nil=> .nil
 |_,_,0, .cons _ t=> .cons trivial t
 |_,_,i+1, .cons q t=> .cons q (RpSt.setN i t)
noncomputable def zlB (i:Nat) (al:List Str) (t:WS) (u:Str→Addr→WS):WS:=fun _ D σ S=>t (fun cl σ' S'=>cl∈al∧ ∀a,u cl a noX { nx:=fun σ'' S''=>D.nx (σ''.set i none) S'',rt:=D.rt,bk:=fun σ'' S''=>D.bk (σ''.set i none) S'',ct:=fun σ'' S''=>D.ct (σ''.set i none) S'' } (σ'.set i (some (.ref a))) S') D σ S
section
variable {X:Cx}{b:List Stmt}{x n:Str}{CT:Addr}{b₀:Stmt}{suite:List Stmt}{np hpos pos:Pos}{i:Nat}{t:WS}{u:Str→Addr→WS}{v:WS}{al:List Str}
theorem zvP{X:Cx}(h:X.xe=fun _ _=>False):Hook X noX:=zpn (by rw [h];exact PassesOwn.never)
theorem zpv (hb:∀pn xe,JXs (X.at pn xe) b t)
  (hal:∀cl∈al,∃C,XcIn X.K cl C∧PySem.W.exmOne X.K (.ref C) (.ref CT)=some true∧ ∀(a:Addr) (oa:Obj) (pn:List (Addr×Obj)),(a,oa)∈pn→oa.cls= .ref C→JSs (X.hot a pn) (b₀::suite) (u cl a))
  (hg:Gl X x) (hm:X.mg x=some (.ref CT)) (hN:X.N.Nodup) (hi:X.N[i]? =some n) (hl:X.env.scope.names.lookup n=some .local) (hst:X.stack=X.env::X.outer:=by rfl) (hf:X.env.frame=some X.env.locals:=by rfl) (hdb:(x == ("__debug__" :Str))=false:=by decide) :
  JS X (.Try b [.ExceptHandler (some (.Name x np)) (some n) (b₀::suite) hpos] [] [] pos) (zlB i al t u):=fun E hE pins s σ H D I z=>by
 obtain⟨σW,S,DW,hσ,hS,ht,hD⟩:=z;refine wpAny_Try_except ?_;refine wpAny_mono (hb (X.pn++pins) (fun e s₁=>wpAny (model X.prog X.w) X.A (noteFrame e X.env) (fun _ s₂=>wpAny (model X.prog X.w) X.A (setFlight e none) (fun _ s₃=>wpAny (model X.prog X.w) X.A (handleBy e X.env [.ExceptHandler (some (.Name x np)) (some n) (b₀::suite) hpos]) (SP X pins D) X.xe s₃) X.xe s₂) X.xe s₁)
  _ PassesOwn.looking [] s σ H D (I.at _) ⟨σW,S,DW,hσ,hS,ht,hD,fun pins' e s' F=>?_⟩) (fun f s1 q=>?_) fun e s1 q=>q
 ·obtain⟨cl,C,a,H1,s1,H',S',rfl,hn,I1,os,bare,un,ok,fly,ex,hS',hcl,hu⟩:=F;obtain⟨C',O,hx,hs⟩:=hal cl hcl;have hn':PySem.W.nsIn X.K mainGlobals cl=some (some (.ref C)):=hn;have eC:C'=C:=by
   have:=O.nm;rw [hn']at this;exact(Value.ref.inj (Option.some.inj (Option.some.inj this))).symm
  subst eC;refine znM (X:=X) (pins:=pins) I1.unat hst hf os bare un ok fly I.ok.frames fun h3 I3 u3 ok3 fly3=>?_;obtain⟨g1,g2,oe,vs,_,_,_,e1,e2,e3,_⟩:=id fly3;refine wpAny_handleBy_cons (codeAny_handlers_test ?_) (by intro q;cases q);refine zfP (X:=X.hot a (X.pn++pins++[(a,oe)])) (I3.hot e1 g2 e3) hg hm ?_ hdb;refine(PySem.W.exm_one I3.kIn (zrN e1 e2) hx).here ?_;refine codeAny_handlers_suite_as ?_;refine zwy (X:=X) (pins:=pins) (s':={ s' with heap:=h3 }) I1.unat os bare u3 ok3 fly3 fun h4 I4 fly4=>?_;obtain⟨g1',g2',oe4,vs4,_,_,_,e1',e2',e3',_⟩:=id fly4;refine zfk (X:=X.hot a (X.pn++pins++[(a,oe4)])) (I4.hot e1' g2' e3') hN hi (.inl hl) (v:= .ref a) rfl (fun s5 I5=>?_) (.inr hl);have me:Meets X.K H' S' { nx:=fun σ'' S''=>DW.nx (σ''.set i none) S'',rt:=DW.rt,bk:=fun σ'' S''=>DW.bk (σ''.set i none) S'',ct:=fun σ'' S''=>DW.ct (σ''.set i none) S'' } { nx:=fun σ H=>D.nx (σ.set i none) H,rt:=D.rt,bk:=fun σ H=>D.bk (σ.set i none) H,ct:=fun σ H=>D.ct (σ.set i none) H }:=by
   have hD':=hD.from ex;exact⟨fun σW3 S3 σ3 H3 e3 r3 hS3 q=>hD'.nx _ S3 _ H3 e3 (r3.setN i) hS3 q,hD'.rt,fun σW3 S3 σ3 H3 e3 r3 hS3 q=>hD'.bk _ S3 _ H3 e3 (r3.setN i) hS3 q,fun σW3 S3 σ3 H3 e3 r3 hS3 q=>hD'.ct _ S3 _ H3 e3 (r3.setN i) hS3 q⟩
  refine wpAny_mono (hs a oe4 (X.pn++pins++[(a,oe4)]) (by simp) e2' noX (zvP rfl) [] s5 (σ.set i (some (.ref a))) H' _ I5 ⟨_,S',_,(hσ.ext ex).set (.ref a) i,hS',hu a,me⟩) (fun f s6 q=>?_) fun _ _ z=>z.elim;cases f with
  |next=>obtain⟨σ',H'',I6,q⟩:=q;exact zuI (I6.unhot I.ok) hN hi hl fun s7 I7=>⟨_,H'',I7,q⟩
  |brk=>obtain⟨σ',H'',I6,q⟩:=q;exact zuI (I6.unhot I.ok) hN hi hl fun s7 I7=>⟨_,H'',I7,q⟩
  |cont=>obtain⟨σ',H'',I6,q⟩:=q;exact zuI (I6.unhot I.ok) hN hi hl fun s7 I7=>⟨_,H'',I7,q⟩
  |ret w=>obtain⟨v,σ',H'',I6,r,q⟩:=q;exact zuI (I6.unhot I.ok) hN hi hl fun s7 I7=>⟨v,_,H'',I7,r,q⟩
 ·cases f with
  |next=>exact wpAny_execs_nil q.unat
  |ret v=>exact q.unat
  |brk=>exact q.unat
  |cont=>exact q.unat
end
section
variable {X:Cx}{a C:Addr}{oa:Obj}
theorem zkn (hp:(a,oa)∈X.pn) (hc:oa.cls= .ref C) (O:XcOk X.K C):CallR X (.builtin "isinstance") (fun xs H Q=>∃c b,((∃D,xs=[.ref a, .ref D]∧c=Value.ref D)∨(∃T,xs=[.ref a, .ty T]∧c=Value.type T))∧PySem.W.kitOne X.K (.ref C) c=some b∧Q (.bl b) H):=by
 intro pins s σ H xs us Q I r h;obtain⟨c,b,hx,e,q⟩:=h;have at':=(I.pin (a,oa) (List.mem_append_left _ hp)).1;have eu:us=[.ref a,c]:=by
  rcases hx with⟨D,rfl,rfl⟩ |⟨T,rfl,rfl⟩
  ·cases r with
   |cons r1 r2=>cases r2 with
    |cons r2 r3=>cases r3;cases r1;cases r2;rfl
  ·cases r with
   |cons r1 r2=>cases r2 with
    |cons r2 r3=>cases r3;cases r1;cases r2;rfl
 subst eu;exact PySem.W.kia_one (zoo O) I.kIn ⟨oa,at',hc⟩ e (by intro z;cases z) fun tk=>⟨.bl b,H,I.tok tk,rfl,q⟩
end
noncomputable def zsa (i:Nat) (a:Addr) (b:Bool):WE:=fun _ σ S Q=>σ[i]? =some (some (.ref a))∧Q (.bl b) S
section
variable {X:Cx}{a C D:Addr}{oa:Obj}{i:Nat}{n x:Str}{b:Bool}{p p1 p2 pos:Pos}{T':String}
theorem zmG{K:PySem.W.Frag}{H:Hp}{v:V}(h:Rep K H (.ref a) v):v= .ref a:=by cases h;rfl
theorem zjR (hp:(a,oa)∈X.pn) (hc:oa.cls= .ref C) (O:XcOk X.K C) (hb:PySem.W.kitOne X.K (.ref C) (.ref D)=some b) (hg:Gl X "isinstance") (hm:X.mg "isinstance" =none) (hN:X.N[i]? =some n) (hv:Vis X.env.scope n) (hgD:Gl X x) (hmD:X.mg x=some (.ref D))
  (hd:(n == ("__debug__" :Str))=false:=by decide) (hcd:(n == ("__classdict__" :Str))=false:=by decide) (hdD:(x == ("__debug__" :Str))=false:=by decide)
  (he:starEach (.Name n p1::[.Name x p2]) X.env=(false,eval (.Name n p1) X.env)::starEach [.Name x p2] X.env:=by rfl) (hpl:(backTo pos (starEach [.Name x p2] X.env)).any (·.1)=false:=by rfl) (he2:starEach (.Name x p2::[]) X.env=(false,eval (.Name x p2) X.env)::starEach [] X.env:=by rfl) :
  JE X (.Call (.Name "isinstance" p) [.Name n p1, .Name x p2] [] pos) (zsa i a b):=fun E hE=>
 (zex (zkn hp hc O) hg hm PyProof.Rows.boot_isinstance (zbu (zmf hN hv hd hcd) (zbu (zlK (v:= .ref D) hgD hmD rfl hdD) pa_nil he2) he) (by decide) (by decide) he hpl).mono fun σ H Q ⟨σW,S,QW,hσ,hS,⟨hi,h⟩,hQ⟩=>by
  obtain⟨v,e',r⟩:=hσ.get hi;have:=zmG r;subst this;exact⟨_,e', .ref D,b, .inl ⟨D,rfl,rfl⟩,hb,hQ (.bl b) S (.bl b) H .refl (.bl b) hS h⟩
theorem zlt (hp:(a,oa)∈X.pn) (hc:oa.cls= .ref C) (O:XcOk X.K C) (hb:PySem.W.kitOne X.K (.ref C) (.type T')=some b) (hg:Gl X "isinstance") (hm:X.mg "isinstance" =none) (hN:X.N[i]? =some n) (hv:Vis X.env.scope n) (hgD:Gl X x) (hmD:X.mg x=none) (hvD:bootBuiltins x=some (.type T'))
  (hd:(n == ("__debug__" :Str))=false:=by decide) (hcd:(n == ("__classdict__" :Str))=false:=by decide) (hnD:x≠ "__name__" :=by decide) (hdD:(x == ("__debug__" :Str))=false:=by decide)
  (he:starEach (.Name n p1::[.Name x p2]) X.env=(false,eval (.Name n p1) X.env)::starEach [.Name x p2] X.env:=by rfl) (hpl:(backTo pos (starEach [.Name x p2] X.env)).any (·.1)=false:=by rfl) (he2:starEach (.Name x p2::[]) X.env=(false,eval (.Name x p2) X.env)::starEach [] X.env:=by rfl) :
  JE X (.Call (.Name "isinstance" p) [.Name n p1, .Name x p2] [] pos) (zsa i a b):=fun E hE=>
 (zex (zkn hp hc O) hg hm PyProof.Rows.boot_isinstance (zbu (zmf hN hv hd hcd) (zbu (znB (v:= .ty T') hgD hmD hvD rfl hnD hdD) pa_nil he2) he) (by decide) (by decide) he hpl).mono fun σ H Q ⟨σW,S,QW,hσ,hS,⟨hi,h⟩,hQ⟩=>by
  obtain⟨v,e',r⟩:=hσ.get hi;have:=zmG r;subst this;exact⟨_,e', .type T',b, .inr ⟨T',rfl,rfl⟩,hb,hQ (.bl b) S (.bl b) H .refl (.bl b) hS h⟩
end
noncomputable def ziH (cl D:Str):Bool:=cl == D || (D == "TurnError" || D == "ValueError")
theorem aln{P:Str→Prop}:∀cl∈([]:List Str),P cl:=fun _ h=>nomatch h
theorem alc{P:Str→Prop}{c:Str}{l:List Str}(h:P c) (t:∀cl∈l,P cl):∀cl∈c::l,P cl:=fun cl m=>by
 rcases List.mem_cons.mp m with rfl |m
 ·exact h
 ·exact t cl m
noncomputable def ddS (σ:List Str) (v:Str):List Str:=if σ.any (· == v) then σ else σ++[v]
noncomputable def fmS (xs:List Str):List Str:=xs.foldl ddS []
theorem zjZ (xs:List Str) (v:Str):fmS (xs++[v])=ddS (fmS xs) v:=by unfold fmS;rw [List.foldl_append];rfl
theorem zqE (σ:List Str) (v k:Str):(ddS σ v).any (· == k)=(σ.any (· == k) || decide (k=v)):=by
 unfold ddS;by_cases h:σ.any (· == v)=true
 ·rw [if_pos h];by_cases e:k=v
  ·subst e;rw [h];simp
  ·simp [e]
 ·rw [if_neg h,List.any_append];by_cases e:k=v
  ·subst e;simp
  ·have hb:(v == k)=false:=by simpa [beq_iff_eq]using(fun h':v=k=>e h'.symm)
   simp [hb,e]
theorem zlZ (σ:List Str) (v:Str):(ddS σ v).length=if σ.any (· == v) then σ.length else σ.length+1:=by
 unfold ddS;split<;>simp
theorem zhb:∀(xs σ:List Str),(xs.foldl ddS σ).length≤σ.length+xs.length∧((xs.foldl ddS σ).length=σ.length+xs.length↔xs.Nodup∧ ∀x∈xs,x∉σ)
 | [],σ=>by simp
 |x::xs,σ=>by
  obtain⟨i1,i2⟩:=zhb xs (ddS σ x);have hl:=zlZ σ x;rw [List.foldl_cons,List.length_cons];by_cases h:σ.any (· == x)=true
  ·rw [if_pos h]at hl;refine⟨by omega,⟨fun e=>by omega,fun⟨_,q⟩=>?_⟩⟩
   have:x∈σ:=by
    obtain⟨y,hy,e⟩:=List.any_eq_true.mp h;rw [beq_iff_eq]at e;exact e▸hy
   exact absurd this (q x List.mem_cons_self)
  ·rw [if_neg h]at hl;have hx:x∉σ:=fun m=>h (List.any_eq_true.mpr ⟨x,m,beq_self_eq_true x⟩);have ed:ddS σ x=σ++[x]:=by unfold ddS;rw [if_neg h]
   refine⟨by omega,⟨fun e=>?_,fun⟨n,q⟩=>?_⟩⟩
   ·obtain⟨n1,n2⟩:=i2.mp (by omega);rw [ed]at n2;refine⟨List.nodup_cons.mpr ⟨fun m=>n2 x m (by simp),n1⟩,fun y hy=>?_⟩;rcases List.mem_cons.mp hy with rfl |hy
    ·exact hx
    ·exact fun m=>n2 y hy (by simp [m])
   ·obtain⟨n1,n2⟩:=List.nodup_cons.mp n;have:=i2.mpr ⟨n2,fun y hy m=>by
     rw [ed]at m;rcases List.mem_append.mp m with m |m
     ·exact q y (List.mem_cons_of_mem _ hy) m
     ·rw [List.mem_singleton]at m;subst m;exact n1 hy⟩
    omega
theorem znv (xs:List Str):(fmS xs).length≤xs.length:=by have:=(zhb xs []).1;simpa [fmS]using this
theorem ztg (xs:List Str):(fmS xs).length=xs.length↔xs.Nodup:=by have:=(zhb xs []).2;simpa [fmS]using this
section
variable {prog:Program}{w:World}{A:Around}{R:Result→Shared→Prop}{E:Value→Shared→Prop}{s:Shared}{I:Addr}
theorem zlC{l:Addr}{items:Array Value}{xs:List Str}(hh:A.in1.handled=none) (hne:l≠I) (Sa:Addr) (h1:Sa≠I) (h2:Sa≠l) (hx:∀(i:Nat) (v:Value),items[i]? =some v→ ∃x t,v= .str x t∧xs[i]? =some x) (hz:xs.length=items.size) (hb:items.size+1<scanBound) :
  ∀(k i:Nat) (s:Shared),items.size - i=k→i≤items.size→s.heap.IsListIter I l i→s.heap.IsList l items→
   s.heap.SetOf (strKind prog w) Sa (fun k'=>(fmS (xs.take i)).any (· == k')) (fmS (xs.take i)).length→
   (∀h' tk,(∀b o,b≠Sa→b≠I→s.heap.get? b=some o→h'.get? b=some o)→h'.SetOf (strKind prog w) Sa (fun k'=>(fmS xs).any (· == k')) (fmS xs).length→R (.ok (.ret .none)) { s with heap:=h',toks:=tk })→
   codeAny (model prog w) A (.builtin "set.update.loop" ⟨[.ref Sa, .ref I],[]⟩) R s:=by
 intro k
 induction k with
 |zero=>
  intro i s hk hi it hl hS hR;have hin:i=items.size:=by omega
  subst hin;refine codeAny_builtin PyProof.Rows.F.entry_set_update_loop ?_;rw [Around.under_plainId PyProof.Rows.F.plain_set_update_loop _];show wpAny _ A.in1 (pyNext (.ref I) >>= _) _ _ s;refine wpAny_bind (wpAny_pyNext_list_end hh it hl (by simp) fun h' hs'=>?_);show wpAny _ A.in1 (ret Value.none) _ _ _;refine wpAny_pure ?_;rw [List.take_of_length_le (by omega)]at hS;refine hR h' s.toks (fun b o _ hb e=>hs' b o hb e) ?_;obtain⟨o,es,ep,t,ho,rest⟩:=hS;exact⟨o,es,ep,t,hs' Sa _ h1 ho,rest⟩
 |succ k ih=>
  intro i s hk hi it hl hS hR;have hlt:i<items.size:=by omega
  refine codeAny_builtin PyProof.Rows.F.entry_set_update_loop ?_;rw [Around.under_plainId PyProof.Rows.F.plain_set_update_loop _];show wpAny _ A.in1 (pyNext (.ref I) >>= _) _ _ s;refine wpAny_bind (wpAny_pyNext_list_item it hl (x:=items[i]) (by simp [hlt]) fun h' hit' hs'=>?_);obtain⟨x,t,ev,ex⟩:=hx i items[i] (Array.getElem?_eq_getElem hlt);rw [ev];have hS':h'.SetOf (strKind prog w) Sa (fun k'=>(fmS (xs.take i)).any (· == k')) (fmS (xs.take i)).length:=by
   obtain⟨o,es,ep,t,ho,rest⟩:=hS;exact⟨o,es,ep,t,hs'.extBut Sa _ h1 ho,rest⟩
  show wpAny _ A.in1 (holding [Value.str x t] (setAdd Sa (.str x t)) >>= _) _ _ _;refine wpAny_bind (wpAny_holding ?_);unfold setAdd;refine wpAny_holding ?_;refine wpAny_bind ((strKind prog w).pyHash (k:=x) (strKind_is _ _ _ _) ?_);have hroom:(fmS (xs.take i)).length+1<scanBound:=by
   have:=znv (xs.take i);rw [List.length_take]at this;omega
  refine wpAny_setAddHashed_of (knd:=strKind prog w) (s:={ s with heap:=h',toks:=s.toks+1 }) (strKind_is _ _ _ _) rfl hS' hroom fun h2' hsb hS2=>?_;have et:xs.take (i+1)=xs.take i++[x]:=by rw [List.take_succ,ex];rfl
  have hSi:h2'.SetOf (strKind prog w) Sa (fun k'=>(fmS (xs.take (i+1))).any (· == k')) (fmS (xs.take (i+1))).length:=
   SetOf_congr hS2 (fun k'=>by rw [et,zjZ,zqE]) (by rw [et,zjZ,zlZ])
  have hl':h'.IsList l items:=hl.extBut hs'.extBut hne;refine wpAny_pure ⟨plainId_quiet PyProof.Rows.F.plain_set_update_loop _,ih (i+1) { s with heap:=h2',toks:=s.toks+1 } (by omega) hlt (hit'.at fun o e=>?_) (hl'.at fun o e=>?_) hSi fun h'' tk hk hS''=>?_⟩
  ·show h2'.get? I=some o;rw [hsb.2 I (Ne.symm h1)];exact e
  ·show h2'.get? l=some o;rw [hsb.2 l (Ne.symm h2)];exact e
  ·refine hR h'' tk (fun b o hb hI e=>hk b o hb hI ?_) hS'';show h2'.get? b=some o;rw [hsb.2 b hb];exact hs'.extBut b o hI e
theorem zgI{l:Addr}{items:Array Value}{xs:List Str}{Q:Value→Shared→Prop}
  (hh:A.handled=none) (hl:s.heap.IsList l items) (hx:∀(i:Nat) (v:Value),items[i]? =some v→ ∃x t,v= .str x t∧xs[i]? =some x) (hz:xs.length=items.size) (hb:items.size+1<scanBound)
  (h:∀(h':Heap) (tk:Nat),h'.SetOf (strKind prog w) s.heap.objs.size (fun k'=>(fmS xs).any (· == k')) (fmS xs).length→
   (∀b o,s.heap.get? b=some o→h'.get? b=some o)→Q (.ref s.heap.objs.size) { s with heap:=h',toks:=tk }) :
  wpAny (model prog w) A (call (.type "set") [.ref l]) Q E s:=by
 have hllt:l<s.heap.objs.size:=by obtain⟨o,e,_⟩:=hl;exact Heap.lt_size e
 obtain⟨c,tl,hmro⟩:=F.called_set.mro;have hmade:=F.called_set.made;have hsub:=F.called_set.sub;refine wpAny_call (codeAny_of_tree ?_);show wpAny _ _ (callAny (.type "set") _) _ _ _;refine wpAny_pure ⟨Code.quiet_builtin _ (by decide +kernel),codeAny_builtin F.entry_type_call ?_⟩;rw [Around.under_plain (weight_type_call_type "set" [.ref l] []) rfl];have h1:=F.called_set.notType;have h2:=F.called_set.canCreate;have hct:=F.typeCall_set_1 (.ref l)
 repeat (any_goals (first |assumption |wp_step))
 refine codeAny_mono (code_set_new_1 (.ref l) (E:=E) (Q₁:=fun obj s₁=>∃led:Bool,obj= .ref s.heap.objs.size∧s₁={ s with heap:=s.heap.push { cls:= .type "set",dict:=none,data:= .set #[] 0 (.fresh 0 0 led) } }) fun led=>⟨led,rfl,rfl⟩) fun r s₁ hr=>?_
 match r,hr with
 | .error e,hr=>exact hr
 | .ok (.ret obj),⟨led,e1,e2⟩=>
  subst e1;subst e2;have hS:(s.heap.push { cls:= .type "set",dict:=none,data:= .set #[] 0 (.fresh 0 0 led) }).get? s.heap.objs.size=some { cls:= .type "set",dict:=none,data:= .set #[] 0 (.fresh 0 0 led) }:=Heap.get?_push_size _ rfl;have hT:Shared.TypeIs { s with heap:=s.heap.push { cls:= .type "set",dict:=none,data:= .set #[] 0 (.fresh 0 0 led) } } (.ref s.heap.objs.size) "set" :=⟨_,hS,rfl⟩;have hli:=F.called_set.init.lookup;have hbi:=F.called_set.init.bind (.ref s.heap.objs.size)
  repeat (any_goals (first |assumption |wp_step))
  refine codeAny_mono (codeAny_call_builtin (R:=wants (fun r s₂=>r= .none∧Q (.ref s.heap.objs.size) s₂) E) F.called_set.init.plain F.entry_set_init (check_set_init_1 hT ?_)) fun r₂ s₂ hr₂=>?_
  ·obtain⟨ol,hol,hcl,nl,hdl⟩:=hl;obtain⟨ocls,odict,odata,oslots⟩:=ol;simp only at hcl hdl;subst hcl;subst hdl;have hol':(s.heap.push { cls:= .type "set",dict:=none,data:= .set #[] 0 (.fresh 0 0 led) }).get? l=some { cls:= .type "list",dict:=odict,data:= .seq items nl,slots:=oslots }:=Heap.get?_push_of_some _ hol;have hsls:=F.sub_list_set;have hslf:=F.sub_list_frozenset;have hne:(Value.type "list" == Value.type "dict")=false:=by decide
   have hl1:(s.heap.push { cls:= .type "set",dict:=none,data:= .set #[] 0 (.fresh 0 0 led) }).IsList l items:=⟨_,hol',rfl,nl,rfl⟩;unfold Builtin.«set.__init__» noKeywords Builtin.Frozenset.updateFrom;generalize hPI:pyIter=PI
   wp_walk
   subst hPI;refine wpAny_pyIter_list hl1 ?_;refine wpAny_bind (wpAny_runValue ?_);have hsz:=Heap.size_push s.heap { cls:= .type "set",dict:=none,data:= .set #[] 0 (.fresh 0 0 led) };have hh3:A.in1.in1.in1.handled=none:=by simp [hh]
   refine zlC (l:=l) (items:=items) (xs:=xs) hh3 (by rw [hsz];exact Nat.ne_of_lt (Nat.lt_succ_of_lt hllt)) s.heap.objs.size (by rw [hsz];exact Nat.ne_of_lt (Nat.lt_succ_self _)) (Nat.ne_of_gt hllt) hx hz hb items.size 0 _ (by omega) (Nat.zero_le _) ⟨_,Heap.get?_push_size _ rfl,rfl,rfl⟩ (hl1.push _) ?_ fun h' tk hk hS'=>?_
   ·have hget:((s.heap.push { cls:= .type "set",dict:=none,data:= .set #[] 0 (.fresh 0 0 led) }).push { cls:= .type "list_iterator",data:= .fields #[.ref l, .int 0 0] }).get? s.heap.objs.size
      =some { cls:= .type "set",dict:=none,data:= .set #[] 0 (.fresh 0 0 led) }:=Heap.get?_push_of_some _ hS
    exact SetOf_congr ((setObjOf_fresh (knd:=strKind prog w) led).setOf hget (by unfold scanBound;omega)) (fun _=>rfl) rfl
   ·show wpAny _ _ _ _ _ _;refine wpAny_pure ?_;show wpAny _ _ (ret Value.none) _ _ _;refine wpAny_pure ⟨rfl,h h' tk hS' fun b o e=>?_⟩;have hlt:=Heap.lt_size e;exact hk b o (Nat.ne_of_lt hlt) (by rw [hsz];exact Nat.ne_of_lt (Nat.lt_succ_of_lt hlt)) (Heap.get?_push_of_some _ (Heap.get?_push_of_some _ e))
  ·match r₂,hr₂ with
   | .error e,hr₂=>exact hr₂
   | .ok (.ret r),⟨e1,hq⟩=>
    subst e1
    repeat (any_goals (first |assumption |wp_step))
end
section
variable {X:Cx}{a:Expr}{p pos p2 pos2:Pos}
noncomputable def zrF (K:PySem.W.Frag) (ta:TE):TE:=fun σ H Q=>ta σ H fun v H1=>∃l xs,v= .ref l∧SqL K H1 l (xs.map V.str)∧xs.length≤100∧Q (.int (fmS xs).length) H1
theorem zmb{ta:TE}(hc:X.calm=true) (hg:Gl X "len") (hm:X.mg "len" =none) (hg2:Gl X "set") (hm2:X.mg "set" =none) (ha:PE X a ta)
  (he:starEach [.Call (.Name "set" p2) [a] [] pos2] X.env=[(false,eval (.Call (.Name "set" p2) [a] [] pos2) X.env)]:=by rfl) (hs:starEach [a] X.env=[(false,eval a X.env)]:=by rfl):PE X (.Call (.Name "len" p) [.Call (.Name "set" p2) [a] [] pos2] [] pos) (zrF X.K ta):=by
 intro pins s σ H Q I h;refine wpAny_Call_Name_kw (zdJ I hg hm PySem.boot_len (PyProof.Rows.callWith_builtin1 ?_ he rfl));rw [he];show wpAny _ _ (spliced ((false,eval _ X.env)::backTo pos [])) _ _ s;refine Calls.spliced_cons ?_;refine wpAny_Call_Name_kw (zdJ I hg2 hm2 boot_set (PyProof.Rows.callWith_type1 (thn (zbu ha pa_nil hs pos2 pins s σ H (fun vs H1=>match vs with
  | [v]=>∃l xs,v= .ref l∧SqL X.K H1 l (xs.map V.str)∧xs.length≤100∧Q (.int (fmS xs).length) H1
  |_=>False) I h) fun us s1 ⟨vs,H1,I1,r1,q1⟩=>?_) hs rfl))
 match vs,q1 with
 | [v],q1=>
  obtain⟨l,xs,rfl,hq,hx,q⟩:=q1;obtain⟨u,rfl,rx⟩:=zgG r1;cases rx;obtain⟨its,r',pl,hz⟩:=I1.list hq;have hlen:=r'.length;rw [List.length_map]at hlen;have hl:s1.heap.IsList l its.toArray:=pl.isList;refine zgI (xs:=xs) (I1.ok.hd hc) hl (fun i v e=>?_) (by rw [List.size_toArray];exact hlen) (by rw [List.size_toArray];unfold scanBound;omega) fun h' tk hS hk=>Calls.spliced_nil ?_
  ·have e':its[i]? =some v:=by simpa using e
   have hi:i<xs.length:=by rw [hlen];exact(List.getElem?_eq_some_iff.mp e').1
   obtain⟨u,hu,ru⟩:=r'.get (i:=i) (x:= .str xs[i]) (by rw [List.getElem?_map,List.getElem?_eq_getElem hi];rfl);rw [e']at hu;cases hu;obtain⟨t,rfl⟩:=ru;exact⟨_,t,rfl,List.getElem?_eq_getElem hi⟩
  ·obtain⟨o,es,ep,t,ho,hex,hd,_,_,hb,hf,hn⟩:=hS;have hle:=znv xs;refine call_len_set ho hex hd hf (by omega) ⟨.int _,H1,(I1.kept (t':=tk) hk).tok _,⟨_,by rw [hn]⟩,q⟩
theorem zfX:∀xs:List Str,zdm (xs.map W.str)=some xs
 | []=>rfl
 |x::xs=>by rw [List.map_cons,zdm,zfX xs];rfl
noncomputable def ziW (t:WE):WE:=fun E σ S Q=>t E σ S fun w S1=>match w with
 | .ref l=>zbN S1 l fun ws=>∃xs,zdm ws=some xs∧xs.length≤100∧Q (.int (fmS xs).length) S1
 |_=>False
theorem zmo{te:WE}(hg:Gl X "len") (hm:X.mg "len" =none) (hg2:Gl X "set") (hm2:X.mg "set" =none) (ha:JE X a te)
  (he:starEach [.Call (.Name "set" p2) [a] [] pos2] X.env=[(false,eval (.Call (.Name "set" p2) [a] [] pos2) X.env)]:=by rfl) (hs:starEach [a] X.env=[(false,eval a X.env)]:=by rfl) (hcl:X.calm=true:=by rfl):JE X (.Call (.Name "len" p) [.Call (.Name "set" p2) [a] [] pos2] [] pos) (ziW te):=fun E hE=>
 (zmb hcl hg hm hg2 hm2 (ha E hE) he hs).mono fun σ H Q ⟨σW,S,QW,hσ,hS,ht,hQ⟩=>⟨σW,S,_,hσ,hS,ht,fun w S1 v H1 e1 r1 hS1 h1=>by
  cases r1 with
  |ref a=>
   obtain⟨us,e,xs,ex,hl,h⟩:=zaS h1;obtain⟨vs,f,hs⟩:=hS1 a _ e;have:=zhf hs ex;subst this;exact⟨a,xs,rfl, .of f,hl,hQ _ S1 _ H1 e1 (.int _) hS1 h⟩
  |_=>exact h1.elim⟩
noncomputable def zpc (to ti:WE):WG:=fun w σ S P=>to noX σ S fun wo S1=>ti noX σ S1 fun wi S2=>match wo,wi with
 | .ref l, .int k=>zbN S2 l fun ws=>∃j,ixN ws.length k=some j∧P σ (put S2 l (.lst (ws.set j w)))
 |_,_=>False
theorem zpM{o i:Expr}{to ti:WE}(ho:JE X o to) (hi:JE X i ti)
    (ha:∀v,assign (.Subscript o i pos) X.env v=(do
      let ov ←holding [v] (eval o X.env)
      let iv ←holding [v,ov] (eval i X.env)
      standAt pos
      holding [v,ov,iv] (setItem ov iv v)
      release [v,ov,iv] []):=by intro _;rfl):JG X (.Subscript o i pos) (zpc to ti):=fun E hE=>
  (zsd (ho noX (zpn hE.own)) (hi noX (zpn hE.own)) zpm ha).mono fun v σ H Q ⟨w,σW,S,P,r,hσ,hS,ht,hP⟩=>
    ⟨σW,S,_,hσ,hS,ht,fun wo S1 vo H1 e1 r1 hS1 h1=>⟨σW,S1,_,hσ.ext e1,hS1,h1,fun wi S2 vi H2 e2 r2 hS2 h2=>by
      split at h2
      · rename_i l k;obtain⟨ws,el,j,ej,h⟩:=zaS h2;cases r1;cases r2;obtain⟨us,f,hs⟩:=hS2 l _ el;have r':=(r.ext e1).ext e2;obtain⟨x,hS'⟩:=hS2.set_lst el (hs.set r' j);exact⟨l,us,k,j,rfl,rfl,f,by rw [←hs.length];exact ej,hP _ _ _ _ ((e1.trans e2).trans x) (((hσ.ext e1).ext e2).ext x) hS' h⟩
      · exact h2.elim⟩⟩
end
section
variable {E:WX}{σ:WSt}{S:Sto}{Q:WK}
theorem _root_.pz{a b:Prop}(h:a→b) (g:b→a):a=b:=propext ⟨h,g⟩
theorem znh{t:WE}:(ziW t E σ S Q)=(t E σ S fun w S1=>match w with
 | .ref l=>zbN S1 l fun ws=>∃xs,zdm ws=some xs∧xs.length≤100∧Q (.int (fmS xs).length) S1
 |_=>False):=pz id id
theorem znc{to ti:WE}{w:W}{P:WSt→Sto→Prop}:(zpc to ti w σ S P)=(to noX σ S fun wo S1=>ti noX σ S1 fun wi S2=>match wo,wi with
 | .ref l, .int k=>zbN S2 l fun ws=>∃j,ixN ws.length k=some j∧P σ (put S2 l (.lst (ws.set j w)))
 |_,_=>False):=pz id id
end
inductive Tr where
  |bl (n:Int)
  |nd (s:Str) (ts:List Tr)
noncomputable def Tr.kids:Tr→List Tr
 | .bl _=>[]
 | .nd _ ts=>ts
mutual
noncomputable def Tr.weight:Tr→Nat
 | .bl _=>1
 | .nd _ ts=>1+wts ts
noncomputable def wts:List Tr→Nat
 | []=>0
 |t::ts=>t.weight+wts ts
end
mutual
noncomputable def Tr.depth:Tr→Nat
 | .bl _=>1
 | .nd _ ts=>1+dts ts
noncomputable def dts:List Tr→Nat
 | []=>0
 |t::ts=>max t.depth (dts ts)
end
theorem zdi:wts []=0:=by unfold wts;rfl
theorem zaJ (t:Tr) (ts:List Tr):wts (t::ts)=t.weight+wts ts:=by
 conv=>lhs;unfold wts
theorem zbt:∀(ts us:List Tr),wts (ts++us)=wts ts+wts us
 | [],us=>by
  show wts us=wts []+wts us;rw [zdi];omega
 |t::ts,us=>by
  show wts (t::(ts++us))=_;rw [zaJ,zaJ,zbt ts us];omega
theorem zqj:dts []=0:=by unfold dts;rfl
theorem znS (t:Tr) (ts:List Tr):dts (t::ts)=max t.depth (dts ts):=by
 conv=>lhs;unfold dts
theorem zch (t:Tr):t.weight=1+wts t.kids:=by
 cases t with
 |bl n=>
  show Tr.weight (.bl n)=1+wts [];unfold Tr.weight wts;rfl
 |nd s ts=>
  show Tr.weight (.nd s ts)=1+wts ts
  conv=>lhs;unfold Tr.weight
theorem zgb (t:Tr):t.depth=1+dts t.kids:=by
 cases t with
 |bl n=>
  show Tr.depth (.bl n)=1+dts [];unfold Tr.depth dts;rfl
 |nd s ts=>
  show Tr.depth (.nd s ts)=1+dts ts
  conv=>lhs;unfold Tr.depth
theorem zdN (t:Tr):1≤t.weight:=by rw [zch];omega
theorem zdt (t:Tr):1≤t.depth:=by rw [zgb];omega
theorem zcl:∀(ts:List Tr),ts.length≤wts ts
 | []=>Nat.zero_le _
 |t::ts=>by
  have:=zcl ts;have:=zdN t;rw [zaJ,List.length_cons];omega
theorem zeR{t:Tr}:∀{ts:List Tr},t∈ts→t.weight≤wts ts
 | [],h=>by cases h
 |u::ts,h=>by
  rw [zaJ];rcases List.mem_cons.mp h with e |h
  ·rw [e];omega
  ·have:=zeR h;omega
mutual
theorem zal:∀t:Tr,t.depth≤t.weight
 | .bl n=>by unfold Tr.depth Tr.weight;exact Nat.le_refl _
 | .nd s ts=>by
  have:=zgh ts;rw [zgb,zch];show 1+dts ts≤1+wts ts;omega
theorem zgh:∀ts:List Tr,dts ts≤wts ts
 | []=>by rw [zqj];exact Nat.zero_le _
 |t::ts=>by
  have:=zal t;have:=zgh ts;rw [znS,zaJ];omega
end
mutual
noncomputable def enc:Tr→W
 | .bl n=> .int n
 | .nd s ts=> .tup (.str s::zaH ts)
noncomputable def zaH:List Tr→List W
 | []=>[]
 |t::ts=>enc t::zaH ts
end
theorem zaA:∀ts:List Tr,zaH ts=ts.map enc
 | []=>by simp [zaH]
 |t::ts=>by simp [zaH,zaA ts]
theorem zas (ts:List Tr):(zaH ts).length=ts.length:=by rw [zaA,List.length_map]
noncomputable def zca (p:List Int):W:= .tup (p.map W.int)
theorem zjj:zbH "int" "int" =true:=by decide +kernel
theorem zhI:zbH "int" "bool" =false:=by decide +kernel
theorem ziO:zbH "int" "str" =false:=by decide +kernel
theorem zhc:zbH "int" "tuple" =false:=by decide +kernel
theorem zhj:zbH "int" "list" =false:=by decide +kernel
theorem zhA:zbH "bool" "int" =true:=by decide +kernel
theorem zgW:zbH "bool" "bool" =true:=by decide +kernel
theorem ziB:zbH "bool" "str" =false:=by decide +kernel
theorem zfW:zbH "bool" "tuple" =false:=by decide +kernel
theorem zgC:zbH "bool" "list" =false:=by decide +kernel
theorem zjx:zbH "str" "int" =false:=by decide +kernel
theorem zil:zbH "str" "bool" =false:=by decide +kernel
theorem ziI:zbH "str" "str" =true:=by decide +kernel
theorem zgA:zbH "str" "tuple" =false:=by decide +kernel
theorem zho:zbH "str" "list" =false:=by decide +kernel
theorem zgY:zbH "tuple" "int" =false:=by decide +kernel
theorem zfT:zbH "tuple" "bool" =false:=by decide +kernel
theorem zgB:zbH "tuple" "str" =false:=by decide +kernel
theorem sub_tuple_tuple:zbH "tuple" "tuple" =true:=by decide +kernel
theorem sub_tuple_list:zbH "tuple" "list" =false:=by decide +kernel
theorem zij:zbH "list" "int" =false:=by decide +kernel
theorem zgU:zbH "list" "bool" =false:=by decide +kernel
theorem zhJ:zbH "list" "str" =false:=by decide +kernel
theorem sub_list_tuple:zbH "list" "tuple" =false:=by decide +kernel
theorem sub_list_list:zbH "list" "list" =true:=by decide +kernel
section
variable {α:Type}{x:α}{xs:List α}
theorem zkg (n:Nat):zdR xs (some (n:Int)) none=xs.drop n:=by
 unfold zdR;rw [HT.sIx_nat,HT.sIx_none];by_cases h:n≤xs.length
 ·rw [Nat.min_eq_left h,List.take_of_length_le (by rw [List.length_drop];omega)]
 ·rw [Nat.min_eq_right (by omega),List.drop_of_length_le (Nat.le_refl _),List.drop_of_length_le (by omega),List.take_nil]
theorem zeB (n:Nat):zdR xs none (some (n:Int))=xs.take n:=by
 unfold zdR;rw [HT.sIx_nat,HT.sIx_none,List.drop_zero,Nat.sub_zero];by_cases h:n≤xs.length
 ·rw [Nat.min_eq_left h]
 ·rw [Nat.min_eq_right (by omega),List.take_length,List.take_of_length_le (by omega)]
theorem zlG:zdR (x::xs) (some 1) none=xs:=by rw [show(1:Int)=((1:Nat):Int) from rfl,zkg];rfl
theorem zme{n d k:Nat}(h:0<k):HT.sIx n d (some (-(k:Int)))=n - k:=by
 show(if(-(k:Int))<0 then(-(k:Int)+(n:Int)).toNat else min (-(k:Int)).toNat n)=n - k;rw [if_pos (by omega)];omega
theorem zfG (k:Nat) (h:0<k):zdR xs none (some (-(k:Int)))=xs.take (xs.length - k):=by
 unfold zdR;rw [zme h,HT.sIx_none,List.drop_zero,Nat.sub_zero]
theorem zlI (k:Nat) (h:0<k):zdR xs (some (-(k:Int))) none=xs.drop (xs.length - k):=by
 unfold zdR;rw [zme h,HT.sIx_none,List.take_of_length_le (by rw [List.length_drop];omega)]
theorem zbB{n:Nat}:atI xs (n:Int)=xs[n]? :=by
 unfold atI ixN;rw [if_pos (by omega)];by_cases h:n<xs.length
 ·rw [if_pos (by omega)];simp
 ·rw [if_neg (by omega)];simp;omega
theorem zjA:atI (x::xs) 0=some x:=zbB (n:=0)
theorem zmj{k:Nat}(h:0<k) (hk:k≤xs.length):atI xs (-(k:Int))=xs[xs.length - k]? :=by
 unfold atI ixN;rw [if_neg (by omega),if_pos (by omega)];simp;congr 1;omega
end
section
variable {S S':Sto}{a b:Addr}{o:Ob}{Q:List W→Prop}{ws:List W}
theorem zjD{u:Ob}(h:b≠a):put (put S a o) b u=put (put S b u) a o:=by
 funext c;unfold put;by_cases h1:c=b
 ·rw [if_pos h1,if_pos h1,if_neg (by rw [h1];exact h)]
 ·rw [if_neg h1,if_neg h1]
theorem zkv{u o':Ob}(h:b≠a):put (put (put S a o) b u) a o'=put (put S a o') b u:=by rw [zjD h,zcc,zjD h]
theorem zks:zbN (put S a (.lst ws)) a Q=Q ws:=zaj zag
theorem ziY (h:b≠a):zbN (put S a o) b Q=zbN S b Q:=by unfold zbN;rw [zaI h]
theorem zbl (h:put S a o b=none):S b=none∧b≠a:=by
 have hb:b≠a:=by rintro rfl;rw [zag]at h;cases h
 rw [zaI hb]at h;exact⟨h,hb⟩
theorem zhu{u:Ob}(h:S a=some u) (n:S b=none):a≠b:=by rintro rfl;rw [h]at n;cases n
theorem Sub.put (h:Sub S S') (n:S a=none):Sub S (L2.put S' a o):=fun b u e=>by rw [zaI (zhu e n)];exact h b u e
theorem Sub.put2{u:Ob}(h:Sub S S'):Sub (L2.put S a u) (L2.put S' a u):=fun b w e=>by
 by_cases hb:b=a
 ·subst hb;rw [zag]at e⊢;exact e
 ·rw [zaI hb]at e⊢;exact h b w e
end
theorem ztL (S:Sto) (a b:Int):eqF S 60 (.int a) (.int b)=some (a == b):=by have h:eqF S 60 (.int a) (.int b)=some (a == b):=rfl;exact h
theorem zth (S:Sto) (a b:Str):eqF S 60 (.str a) (.str b)=some (a == b):=by have h:eqF S 60 (.str a) (.str b)=some (a == b):=rfl;exact h
theorem zuJ (S:Sto) (a b:Bool):eqF S 60 (.bl a) (.bl b)=some (a == b):=by have h:eqF S 60 (.bl a) (.bl b)=some (a == b):=rfl;exact h
theorem zak{n:Nat}(h:n≤16777216):n≤sizeLine:=by rw [sizeLine_eq];exact h
theorem zbj{n:Nat}(h:n<16777216):n<sizeLine:=by rw [sizeLine_eq];exact h
section
variable {S:Sto}{Q:WK}{QB:Bool→Sto→Prop}{QS:List W→(Sto→Prop)→Prop}{QT:String→Prop}
theorem zhn{a:Addr}{o:Ob}(h:S a=some o):put S a o=S:=by
 funext b;unfold put;split
 ·rename_i e;rw [e,h]
 ·rfl
theorem zou{b:Bool}:znQ (.bl b) S QB=QB b S:=pz id id
theorem zmd{i:Int}:znQ (.int i) S QB=QB (i != 0) S:=pz id id
theorem znl{ws:List W}:znQ (.tup ws) S QB=QB (!ws.isEmpty) S:=pz id id
theorem zmw{a:Addr}:znQ (.ref a) S QB=zbN S a fun ws=>QB (!ws.isEmpty) S:=pz id id
theorem zlv:znQ .non S QB=QB false S:=pz id id
theorem zlm{ws:List W}:znR (.tup ws) S QS=QS ws fun _=>True:=pz id id
theorem zmE{a:Addr}:znR (.ref a) S QS=zbN S a fun ws=>QS ws fun S'=>S' a=some (.lst ws):=pz id id
theorem zrK{b:Bool}:tyW (.bl b) S QT=QT "bool" :=pz id id
theorem zoA{i:Int}:tyW (.int i) S QT=QT "int" :=pz id id
theorem zoM{i:Str}:tyW (.str i) S QT=QT "str" :=pz id id
theorem zon{i:List W}:tyW (.tup i) S QT=QT "tuple" :=pz id id
theorem zoZ:tyW .non S QT=QT "NoneType" :=pz id id
theorem zoa{a:Addr}:tyW (.ref a) S QT=zbN S a fun _=>QT "list" :=pz id id
theorem zlp{i j:Int}:zcT (.int i) (.int j) S Q=Q (.int (i+j)) S:=pz id id
theorem zmA{i j:Str}:zcT (.str i) (.str j) S Q=(i.length+j.length≤sizeLine∧Q (.str (i++j)) S):=pz id id
theorem ziv{i j:List W}:zcT (.tup i) (.tup j) S Q=(i.length+j.length≤sizeLine∧Q (.tup (i++j)) S):=pz id id
theorem zmF{a b:Addr}:zcT (.ref a) (.ref b) S Q=zbN S a fun xs=>zbN S b fun ys=>xs.length+ys.length≤sizeLine∧ ∀p,S p=none→Q (.ref p) (put S p (.lst (xs++ys))):=pz id id
theorem zvV{C:Int→Int→Prop}{g:Int→Int→W}{i j:Int}:zbG C g (.int i) (.int j) S Q=(C i j∧Q (g i j) S):=pz id id
theorem zux{g:Int→Int→W}{i j:Int}:zdU g (.int i) (.int j) S Q=Q (g i j) S:=pz id id
theorem zob{i j:Int}:oLe (.int i) (.int j) S Q=Q (.bl (decide (i≤j))) S:=pz id id
theorem zos{i j:Str}:oLe (.str i) (.str j) S Q=Q (.bl (!decide (j.cps.toList<i.cps.toList))) S:=pz id id
theorem znq{us:List W}:zco [.tup us] S Q=Q (.int us.length) S:=pz id id
theorem znj{a:Addr}:zco [.ref a] S Q=zbN S a fun us=>Q (.int us.length) S:=pz id id
theorem zlN{ns:List Int}:zco [.scr ns] S Q=Q (.int ns.length) S:=pz id id
theorem znx{z:Str}:zco [.str z] S Q=(z.length≤sizeLine∧Q (.int z.length) S):=pz id id
theorem znZ{ws:List W}{i:Int}:oIx (.tup ws) (.int i) S Q=match atI ws i with
 |some w=>Q w S
 |none=>False:=pz id id
theorem zoP{a:Addr}{i:Int}:oIx (.ref a) (.int i) S Q=zbN S a fun ws=>match atI ws i with
 |some w=>Q w S
 |none=>False:=pz id id
theorem zoX{ns:List Int}{i:Int}:oIx (.scr ns) (.int i) S Q=match atI ns i with
 |some n=>Q (.int n) S
 |none=>False:=pz id id
theorem zop{x:Str}{i:Int}:oIx (.str x) (.int i) S Q=(x.length≤sizeLine∧match atI x.cps.toList i with
 |some c=>Q (.str ⟨#[c]⟩) S
 |none=>False):=pz id id
theorem zoC{ws:List W}{lo hi:Option Int}:oSl (.tup ws) lo hi S Q=Q (.tup (zdR ws lo hi)) S:=pz id id
theorem zpa{z:Str}{lo hi:Option Int}:oSl (.str z) lo hi S Q=(z.length≤sizeLine∧Q (.str (Txt.slice z lo hi)) S):=pz id id
theorem zph{a:Addr}{lo hi:Option Int}:oSl (.ref a) lo hi S Q=zbN S a fun ws=>∀p,S p=none→Q (.ref p) (put S p (.lst (zdR ws lo hi))):=pz id id
theorem zoQ{ns:List Int}{lo hi:Option Int}:oSl (.scr ns) lo hi S Q= ∀p,S p=none→Q (.ref p) (put S p (.lst ((zdR ns lo hi).map W.int))):=pz id id
theorem zjm{us:List W}:zhy [.tup us] S Q=Q (.tup us) S:=pz id id
theorem zjy{a:Addr}:zhy [.ref a] S Q=zbN S a fun us=>Q (.tup us) S:=pz id id
theorem zoj{a:Addr}{y:W}:zbR (.ref a) [y] S Q=zbN S a fun xs=>xs.length<sizeLine∧Q .non (put S a (.lst (xs++[y]))):=pz id id
theorem zuW{a:Addr}:ztD (.ref a) [] S Q=zbN S a fun xs=>match xs[xs.length - 1]? with
 |some y=>Q y (put S a (.lst xs.dropLast))
 |none=>False:=pz id id
theorem zhQ{a:Addr}{ys:List W}:zfQ (.ref a) [.tup ys] S Q=zbN S a fun xs=>xs.length+ys.length≤sizeLine∧Q .non (put S a (.lst (xs++ys))):=pz id id
theorem zhp{a b:Addr}:zfQ (.ref a) [.ref b] S Q=zbN S a fun xs=>zbN S b fun ys=>xs.length+ys.length≤sizeLine∧Q .non (put S a (.lst (xs++ys))):=pz id id
theorem zmv{a:Addr}{ws:List W}:zoy (.ref a) ws S Q=zbN S a fun xs=>xs.length+ws.length≤sizeLine∧Q .non (put S a (.lst (xs++ws))):=pz id id
theorem zvH{a:Addr}:rvL (.ref a) S=zbN S a fun _=>True:=pz id id
theorem zuU{x:Str}:rvS (.str x) S=True:=pz id id
theorem zox{b:Bool}:zrZ [.bl b] S Q=Q (.int (if b then 1 else 0)) S:=pz id id
theorem zni{i:Int}:zrZ [.int i] S Q=Q (.int i) S:=pz id id
theorem zto{i j:Int}:zmN [.int i, .int j] S Q=Q (.int (if j > i then j else i)) S:=pz id id
theorem zsS{i j:Int}:znN [.int i, .int j] S Q=Q (.int (if j<i then j else i)) S:=pz id id
theorem ztP{z:Str}{ws:List W}:zgw (.str z) ws S Q=match zdm ws with
 |some ys=>(ys.map (·.length)).sum+ys.length*z.length≤16777216∧Q (.str (Str.join z ys)) S
 |none=>False:=pz id id
theorem zqz{z y:Str}:zia (.str z) [.str y] S Q=match Builtin.Str.occurrences z y 0 z.length 1 with
 |i::_=>Q (.int i) S
 | []=>False:=pz id id
theorem zpt{neg:Bool}:oIs neg .non .non S Q=Q (.bl (!neg)) S:=pz id id
theorem zqU{neg a b:Bool}:oIs neg (.bl a) (.bl b) S Q=Q (.bl (if neg then a != b else a == b)) S:=pz id id
theorem zrU{neg a:Bool}:oIs neg (.bl a) .non S Q=Q (.bl neg) S:=pz id id
theorem zqk{neg:Bool}{ws:List W}:oIs neg (.tup ws) .non S Q=Q (.bl neg) S:=pz id id
theorem zqu{neg:Bool}{a:Addr}:oIs neg (.ref a) .non S Q=Q (.bl neg) S:=pz id id
theorem zrS{neg:Bool}{a:Int}:oIs neg (.int a) .non S Q=Q (.bl neg) S:=pz id id
theorem znY{neg:Bool}{x:W}{ws:List W}:oIn neg x (.tup ws) S Q=match inF S x ws with
 |some b=>Q (.bl (if neg then !b else b)) S
 |none=>False:=pz id id
theorem zok{neg:Bool}{x:W}{a:Addr}:oIn neg x (.ref a) S Q=zbN S a fun ws=>match inF S x ws with
 |some b=>Q (.bl (if neg then !b else b)) S
 |none=>False:=pz id id
theorem zol{neg:Bool}{i j:Str}:oIn neg (.str i) (.str j) S Q=Q (.bl (if neg then !(!(Builtin.Str.occurrences j i 0 j.length 1).isEmpty) else !(Builtin.Str.occurrences j i 0 j.length 1).isEmpty)) S:=pz id id
end
theorem zgZ{g:WG}{b:WS}{E:WX}{D:WEnds}{G:Sto→Prop}(I:List W→WSt→Sto→Prop)
  (step:∀w ws σ S (N:WSt→Sto→Prop),I (w::ws) σ S→(∀σ' S' S'',Sub S'' S'→G S''→I ws σ' S''→N σ' S')→g w σ S fun σ1 S1=>b E { D with nx:=N,ct:=N,bk:=D.nx } σ1 S1)
  (done:∀σ S,I [] σ S→D.nx σ S):∀(ws:List W) (σ:WSt) (S:Sto),I ws σ S→forL g b E D G ws σ S
 | [],σ,S,h=>done σ S h
 |w::ws,σ,S,h=>step w ws σ S _ h fun σ' S' S'' sb hG hI=>⟨S'',sb,hG,zgZ I step done ws σ' S'' hI⟩
theorem zcI{g:WG}{e:WE}{E:WX}{G:Sto→Prop}{Q:List W→Sto→Prop}{S:Sto}(I:WSt→Prop) (P:W→W→Prop) (hG:G S) :
  ∀(ws acc:List W) (σ:WSt),I σ→acc.length+ws.length≤1000000→
  (∀w∈ws,∀σ (R:WSt→W→Sto→Prop),I σ→(∀σ1 y S3,I σ1→P w y→Sub S S3→R σ1 y S3)→g w σ S fun σ1 S1=>e E σ1 S1 fun y S3=>R σ1 y S3)→
  (∀ys,Paired P ws ys→Q (acc++ys) S)→zck g zfd e E G Q ws acc σ S
 | [],acc,σ,hI,hl,step,hQ=>by
  have:=hQ [] .nil;rw [List.append_nil]at this;exact this
 |w::ws,acc,σ,hI,hl,step,hQ=>by
  simp only[zck,zfd,if_true];refine step w List.mem_cons_self σ _ hI fun σ1 y S3 hI1 hP sb=>?_;simp only[List.length_cons]at hl;refine⟨zbj (by omega),S,sb,hG,zcI I P hG ws (acc++[y]) σ1 hI1 (by simp;omega) (fun w' hw=>step w' (List.mem_cons_of_mem _ hw)) fun ys hp=>?_⟩;rw [List.append_assoc];exact hQ (y::ys) (.cons hP hp)
section
variable {E:WX}{σ:WSt}{S:Sto}{Q:WK}{QB:Bool→Sto→Prop}{QA:List W→Sto→Prop}{QI:List W→(Sto→Prop)→Sto→Prop}{QO:Option Int→Sto→Prop}{P:WSt→Sto→Prop}{D:WEnds}{w x y:W}{ws:List W}{EX:Str→Sto→Prop}
theorem zuf{i:Nat}:(zaf i E σ S Q)=(match σ[i]? with
 |some (some w)=>Q w S
 |_=>False):=pz id id
theorem zwF{w:W}:(wC w E σ S Q)=(Q w S):=pz id id
theorem zvc{r:W2}{a b:WE}:(wOp r a b E σ S Q)=(a E σ S fun x S1=>b E σ S1 fun y S2=>r x y S2 Q):=pz id id
theorem zsi{t:WE}:(zdM t E σ S QB)=(t E σ S fun w S'=>znQ w S' QB):=pz id id
theorem zuR{t:WE}:(wTb t E σ S QB)=(t E σ S fun w S'=>match w with
 | .bl b=>QB b S'
 |_=>False):=pz id id
theorem zsx{t u:WT}:(zkO t u E σ S QB)=(t E σ S fun c S1=>if c=true then u E σ S1 QB else QB false S1):=pz id id
theorem zuN{t u:WT}:(wOr t u E σ S QB)=(t E σ S fun c S1=>if c=true then QB true S1 else u E σ S1 QB):=pz id id
theorem zsb{t:WT}:(zjN t E σ S QB)=(t E σ S fun c S1=>QB (!c) S1):=pz id id
theorem zqZ{t u:WE}:(zfg t u E σ S Q)=(t E σ S fun w S1=>match w with
 | .bl true=>u E σ S1 Q
 | .bl false=>Q (.bl false) S1
 |_=>False):=pz id id
theorem zta{t u:WE}:(zuE t u E σ S Q)=(t E σ S fun w S1=>match w with
 | .bl false=>u E σ S1 Q
 | .bl true=>Q (.bl true) S1
 |_=>False):=pz id id
theorem zqS{t:WE}:(zlY t E σ S Q)=(t E σ S fun w S1=>match w with
 | .bl b=>Q (.bl !b) S1
 |_=>False):=pz id id
theorem ztT{c:WT}{t u:WS}:(zce c t u E D σ S)=(c E σ S fun b S1=>if b=true then t E D σ S1 else u E D σ S1):=pz id id
theorem zrE:(zaN  E D σ S)=(D.nx σ S):=pz id id
theorem zuj{t u:WS}:(zay t u E D σ S)=(t E { D with nx:=u E D } σ S):=pz id id
theorem ztG{e:WE}:(zbm e E D σ S)=(e E σ S D.rt):=pz id id
theorem zqI{e:WE}:(zes e E D σ S)=(e E σ S fun _ S1=>D.nx σ S1):=pz id id
theorem zuT{i:Nat}:(wGN i w σ S P)=(P (σ.set i (some w)) S):=pz id id
theorem ztm{e:WE}{g:WG}:(wAsg e g E D σ S)=(e E σ S fun w S1=>g w σ S1 D.nx):=pz id id
theorem zrX:(zcb  ws σ S P)=(match ws with
 | []=>P σ S
 |_=>False):=pz id id
theorem zoI{g:WG}{u:WGs}:(zav g u ws σ S P)=(match ws with
 | []=>False
 |w::r=>g w σ S fun σ' S'=>u r σ' S' P):=pz id id
theorem zvp{u:WGs}:(wGT u w σ S P)=(match w with
 | .tup ws=>u ws σ S P
 |_=>False):=pz id id
theorem zrx:(waNil  E σ S QA)=(QA [] S):=pz id id
theorem zpb{t:WE}{u:WA}:(zab t u E σ S QA)=(t E σ S fun w S1=>u E σ S1 fun ws S2=>QA (w::ws) S2):=pz id id
theorem zsv{t:WA}:(zcH t E σ S Q)=(t E σ S fun ws S1=>ws.length≤sizeLine∧Q (.tup ws) S1):=pz id id
theorem zsu{t:WA}:(zeJ t E σ S QA)=(t E σ S fun ws S1=>ws.length≤sizeLine∧QA ws S1):=pz id id
theorem ztr{t:WL}:(zdb t E σ S Q)=(t E σ S fun ws S1=>∀a,S1 a=none→Q (.ref a) (put S1 a (.lst ws))):=pz id id
theorem zqn{c:WSp}{t:WA}:(zax c t E σ S Q)=(t E σ S fun ws S1=>c ws S1 Q fun cl S2=>E cl σ S2):=pz id id
theorem zpH{n k:Nat}{body:WS}:(zcR n k body ws S Q EX)=(ws.length=k∧body (fun c _ S'=>EX c S') { nx:=fun _ S'=>∃S'',Sub S'' S'∧Q .non S'',rt:=fun w S'=>∃S'',Sub S'' S'∧Q w S'' } (ws.map some++List.replicate (n - k) none) S):=pz id id
theorem zuy{t:WE}:(zpP t E σ S Q)=(t E σ S fun w S1=>match w with
 | .int i=>Q (.int (-i)) S1
 |_=>False):=pz id id
theorem zvC{t u:WE}:(zvM t u E σ S QA)=(t E σ S fun x S1=>u E σ S1 fun y S2=>match x,y with
 | .ref a, .ref b=>zbN S2 a fun xs=>zbN S2 b fun ys=>xs.length+ys.length≤sizeLine∧QA (xs++ys) S2
 |_,_=>False):=pz id id
theorem zuQ{neg:Bool}:(oEq neg x y S Q)=(match eqF S 60 x y with
 |some b=>Q (.bl (if neg then !b else b)) S
 |none=>False):=pz id id
theorem zor{r r':W2}{a b c:WE}:(zgo r r' a b c E σ S Q)=(a E σ S fun x S1=>b E σ S1 fun y S2=>r x y S2 fun z S3=>match z with
 | .bl true=>c E σ S3 fun u S4=>r' y u S4 Q
 | .bl false=>Q (.bl false) S3
 |_=>False):=pz id id
theorem zva:(woN  E σ S QO)=(QO none S):=pz id id
theorem zvn{t:WE}:(woS t E σ S QO)=(t E σ S fun w S1=>match w with
 | .int i=>QO (some i) S1
 |_=>False):=pz id id
theorem zvh{t:WE}{l h:WO}:(wSl t l h E σ S Q)=(t E σ S fun x S1=>l E σ S1 fun lo S2=>h E σ S2 fun hi S3=>oSl x lo hi S3 Q):=pz id id
theorem zwQ{f:WF}{t:WA}:(wB f t E σ S Q)=(t E σ S fun ws S1=>f ws S1 Q):=pz id id
theorem zvY{f:WF}{t:WL}:(wBL f t E σ S Q)=(t E σ S fun ws S1=>f ws S1 Q):=pz id id
theorem zlE:(zfx  ws S Q)=(Q (.tup ws) S):=pz id id
theorem zmJ{t:WE}:(zgD t E σ S QA)=(t E σ S fun w S1=>match w with
 | .tup ws=>QA ws S1
 | .ref a=>zbN S1 a fun ws=>QA ws S1
 | .scr ns=>QA (ns.map W.int) S1
 |_=>False):=pz id id
theorem zru:(zfu  ws S Q)=(match zfe ws with
 |some bs=>Q (.bl (bs.all _root_.id)) S
 |none=>False):=pz id id
theorem ztI{T:String}{t:WE}:(zeQ T t E σ S Q)=(t E σ S fun w S1=>tyW w S1 fun A=>Q (.bl (zbH A T)) S1):=pz id id
theorem zwT{rv:W→Sto→Prop}{f:WMf}{to:WE}{t:WA}:(wM rv f to t E σ S Q)=(to E σ S fun w S1=>rv w S1∧t E σ S1 fun ws S2=>f w ws S2 Q):=pz id id
theorem zvy{rv:W→Sto→Prop}{f:WMf}{to:WE}{t:WL}:(wML rv f to t E σ S Q)=(to E σ S fun w S1=>rv w S1∧t E σ S1 fun ws S2=>f w ws S2 Q):=pz id id
theorem zui{i:Nat}{g:Int→Int→Int}{e:WE}:(zuD i g e E D σ S)=(match σ[i]? with
 |some (some (.int a))=>e E σ S fun w S1=>match w with
  | .int b=>D.nx (σ.set i (some (.int (g a b)))) S1
  |_=>False
 |_=>False):=pz id id
theorem ztW{q:WI}{g:WG}{b:WS}:(zgl q g b E D σ S)=(q E σ S fun ws G S1=>forL g b E D G ws σ S1):=pz id id
theorem zvs{t:WE}:(wIv t E σ S QI)=(t E σ S fun w S1=>match w with
 | .tup ws=>QI ws (fun _=>True) S1
 | .ref a=>zbN S1 a fun ws=>QI ws (fun S'=>S' a=some (.lst ws)) S1
 | .scr ns=>QI (ns.map W.int) (fun _=>True) S1
 | .str z=>QI (zft z) (fun _=>True) S1
 |_=>False):=pz id id
theorem ztt{t:WA}:(zle t E σ S QI)=(t E σ S fun ws S1=>match ws with
 | [.int j]=>(-(2 ^ 62)≤j∧j<2 ^ 62)∧QI (zeF 0 j.toNat) (fun _=>True) S1
 |_=>False):=pz id id
theorem zsL:(zfd  E σ S QB)=(QB true S):=pz id id
theorem zra{k:Nat}{fr:List Nat}{q:WI}{g:WG}{c:WT}{e:WE}:(zcj k fr q g c e E σ S QA)=(q noE σ S fun ws G S1=>zck g c e noE G QA ws [] (List.replicate k none++fr.map fun j=>(σ[j]?).join) S1):=pz id id
theorem zrj{t:WE}:(znH t E σ S QI)=(t E σ S fun w S1=>znR w S1 fun ws G=>QI (nums 0 ws) G S1):=pz id id
theorem zsz{t u:WE}:(zuH t u E σ S QI)=(t E σ S fun x S1=>u E σ S1 fun y S2=>znR x S2 fun xs G=>znR y S2 fun ys G'=>QI (zcM xs ys) (fun S'=>G S'∧G' S') S2):=pz id id
theorem zqy{t:WA}:(zrT t E σ S QI)=(t E σ S fun ws S1=>match ws with
 | [.int i, .int j, .int c]=>c= -1∧(-(2 ^ 62)≤i∧i<2 ^ 62∧ -(2 ^ 62)≤j∧j<2 ^ 62)∧QI (zeY i (i - j).toNat) (fun _=>True) S1
 |_=>False):=pz id id
theorem zry{t:WE}{l h:WO}:(zuB t l h E σ S QA)=(t E σ S fun x S1=>l E σ S1 fun lo S2=>h E σ S2 fun hi S3=>match x with
 | .ref a=>zbN S3 a fun ws=>QA (zdR ws lo hi) S3
 | .scr ns=>QA ((zdR ns lo hi).map W.int) S3
 |_=>False):=pz id id
theorem zsF{t:WL}{u:WE}:(ztJ t u E σ S Q)=(t E σ S fun ws S1=>u E σ S1 fun y S2=>match y with
 | .int i=>match atI ws i with
  |some w=>Q w S2
  |none=>False
 |_=>False):=pz id id
theorem zqx{t:WE}{u:WL}:(zju t u E σ S QA)=(t E σ S fun x S1=>u E σ S1 fun ys S2=>match x with
 | .ref a=>zbN S2 a fun xs=>xs.length+ys.length≤sizeLine∧QA (xs++ys) S2
 |_=>False):=pz id id
theorem zqt{t u:WL}:(zmz t u E σ S QA)=(t E σ S fun xs S1=>u E σ S1 fun ys S2=>xs.length+ys.length≤sizeLine∧QA (xs++ys) S2):=pz id id
theorem zqV{t:WL}{u:WE}:(zrW t u E σ S QA)=(t E σ S fun xs S1=>u E σ S1 fun y S2=>match y with
 | .int k=>(-(2 ^ 63)≤k∧k<2 ^ 63∧xs.length*k.toNat≤sizeLine)∧QA (List.replicate k.toNat xs).flatten S2
 |_=>False):=pz id id
end
section
variable {E:WX}{σ:WSt}{S:Sto}{Q:WK}{QA:List W→Sto→Prop}
theorem ztM{xs:List W}{k:Int}:znK (.tup xs) (.int k) S Q=((xs≠ []∧ -(2 ^ 63)≤k∧k<2 ^ 63∧xs.length*k.toNat≤sizeLine)∧Q (.tup (List.replicate k.toNat xs).flatten) S):=pz id id
theorem zix{t:WE}:(zcQ t E σ S QA)=(t E σ S fun w S1=>match w with
 | .int j=>(-(2 ^ 62)≤j∧j≤16777216)∧QA (zeF 0 j.toNat) S1
 |_=>False):=pz id id
theorem zqD:(zrv E σ S Q)=(∀a,S a=none→Q (.ref a) (put S a (.dct []))):=pz id id
theorem zvN{neg:Bool}{y:W}{a:Addr}:zte neg y (.ref a) S Q=(match znP y with
 |some k=>zlX S a fun kvs=>Q (.bl (if neg then !(zgr kvs k).isSome else(zgr kvs k).isSome)) S
 |none=>False):=pz id id
theorem zsI{y:W}{a:Addr}:zkZ (.ref a) y S Q=(match znP y with
 |some k=>zlX S a fun kvs=>match zgr kvs k with
  |some w=>Q w S
  |none=>False
 |none=>False):=pz id id
theorem zqW{td ty tv:WE}{D:WEnds}:(zrV td ty tv E D σ S)=(tv E σ S fun v S1=>td E σ S1 fun x S2=>ty E σ S2 fun y S3=>match x with
 | .ref a=>match znP y with
  |some k=>zlX S3 a fun kvs=>kvs.length<sizeLine∧D.nx σ (put S3 a (.dct (zov kvs k v)))
  |none=>False
 |_=>False):=pz id id
theorem zrs{z:Str}:zsE (.str z) [] S Q=(z.length≤5592405∧Q (.str (Txt.upper z)) S):=pz id id
theorem zgv:∀p:List Int,zeH (p.map W.int)=some p
 | []=>rfl
 |i::p=>by rw [List.map_cons,zeH,zgv p];rfl
theorem zvE (p:List Int):znP (zca p)=some p:=zgv p
theorem zoW{a:Addr}{kvs:List (List Int×W)}{P:List (List Int×W)→Prop}:zlX (put S a (.dct kvs)) a P=P kvs:=zfM zag
end
end L2
end
section
def L2.wZ (d:String):Lean.MacroM (Lean.TSyntax `tactic):=do
  let a:Array Lean.Term:=(("L2.zuf L2.zwF L2.zvc L2.zsi L2.zuR L2.zsx L2.zuN L2.zsb L2.zqZ L2.zta L2.zqS L2.ztT L2.zrE L2.zuj L2.ztG L2.zqI L2.zuT L2.ztm L2.zrX L2.zoI L2.zvp L2.zrx L2.zpb L2.zsv L2.zsu L2.ztr L2.zqn L2.zpH L2.zuy L2.zuQ L2.zor L2.zva L2.zvn L2.zvh L2.zwQ L2.zvY L2.zlE L2.zmJ L2.zru L2.ztI L2.zwT L2.zvy L2.zui L2.ztW L2.zvs L2.ztt L2.zsL L2.zra L2.zrj L2.zsz L2.zqy L2.zry L2.zsF L2.zqx L2.zqt L2.zqV L2.zix znU ztR zoT L2.ztM L2.zqD L2.zvN L2.zsI L2.zqW L2.zrs L2.zvE L2.zoW L2.zks L2.zcc L2.ztL L2.zth L2.zuJ L2.zlG L2.zjA L2.zjj L2.zhI L2.ziO L2.zhc L2.zhj L2.zhA L2.zgW L2.ziB L2.zfW L2.zgC L2.zjx L2.zil L2.ziI L2.zgA L2.zho L2.zgY L2.zfT L2.zgB L2.sub_tuple_tuple L2.sub_tuple_list L2.zij L2.zgU L2.zhJ L2.sub_list_tuple L2.sub_list_list L2.zou L2.zmd L2.znl L2.zmw L2.zlv L2.zlm L2.zmE L2.zrK L2.zoA L2.zoM L2.zon L2.zoZ L2.zoa L2.zlp L2.zmA L2.ziv L2.zmF L2.zvV L2.zux L2.zob L2.zos L2.znq L2.znj L2.zlN L2.znx L2.znZ L2.zoP L2.zoX L2.zop L2.zoC L2.zpa L2.zph L2.zoQ L2.zjm L2.zjy L2.zoj L2.zuW L2.zhQ L2.zhp L2.zmv L2.zvH L2.zuU L2.zox L2.zni L2.zto L2.zsS L2.ztP L2.zqz L2.zpt L2.zqU L2.zrU L2.zqk L2.zqu L2.zrS L2.znY L2.zok L2.zol List.map_cons List.map_nil List.length_cons List.length_nil List.cons_append List.nil_append List.append_nil List.replicate List.getElem?_cons_zero List.getElem?_cons_succ List.getElem?_nil List.set_cons_zero List.set_cons_succ Nat.reduceAdd Nat.reduceSub true_and and_true if_true if_false Bool.false_eq_true reduceIte Bool.not_true Bool.not_false Option.join_some Option.join_none decide_eq_true_eq and_self".splitOn " ").filter (· != d)).toArray.map fun s=>Lean.mkIdent s.toName
  `(tactic| simp only [$[$a:term],*])
local macro_rules | `(tactic| walk_at "wp") => L2.wZ ""
section
namespace L2
open PySem PySem.Spec PyProof.Rows
section
variable {E:WX}{D:WEnds}{σ:WSt}{S:Sto}{Q:WK}
theorem znU{c:WSp}{t:WA}:(znO c t E σ S Q)=(t noX σ S fun ws S1=>c ws S1 Q fun cl S2=>E cl σ S2):=pz id id
theorem ztR{i:Nat}{a:Addr}{b:Bool}:(zsa i a b E σ S Q)=(σ[i]? =some (some (.ref a))∧Q (.bl b) S):=pz id id
theorem zfi{x:Str}{t:WA}:(zfL x t E D σ S)=(t E σ S fun ws S1=>ws.length≤sizeLine∧E x σ S1):=pz id id
theorem zoT{i:Nat}{al:List Str}{t:WS}{u:Str→Addr→WS}:(zlB i al t u E D σ S)=(t (fun cl σ' S'=>cl∈al∧ ∀a,u cl a noX { nx:=fun σ'' S''=>D.nx (σ''.set i none) S'',rt:=D.rt,bk:=fun σ'' S''=>D.bk (σ''.set i none) S'',ct:=fun σ'' S''=>D.ct (σ''.set i none) S'' } (σ'.set i (some (.ref a))) S') D σ S):=pz id id
end
noncomputable def zbQ:Nat→WSp
 |0=>zaZ
 |r+1=>zcR 1 1 (zay (zce (zdM (zeQ "int" (zaf 0))) (zbm (zcH waNil)) zaN)
  (zbm (wSl (zaf 0) (woS (wC (.int 1))) woN)))
noncomputable def zfZ (r:Nat) (self:WSp):WS:=(zay (zuD 1 (fun a b=>a+b) (wC (.int 1)))
  (zay (wAsg (wM rvL ztD (zaf 2) waNil) (wGN 3))
  (zes (wM rvL zfQ (zaf 2) (zab (zax (zbQ r) (zab (zaf 3) waNil)) waNil)))))
noncomputable def zdP:Nat→WSp
 |0=>zaZ
 |r+1=>zcR 4 1 (zay (wAsg (wC (.int 0)) (wGN 1))
  (zay (wAsg (zdb (zeJ (zab (zaf 0) waNil))) (wGN 2))
  (zay (zkj (zdM (zaf 2)) (zfZ r zaZ))
  (zbm (zaf 1)))))
noncomputable def zbS (r:Nat) (self:WSp):WS:=(zes (zax self (zab (zaf 4) (zab (wOp zcT (zaf 1) (zcH (zab (zaf 3) waNil))) (zab (zaf 2) waNil)))))
noncomputable def zaG:Nat→WSp
 |0=>zaZ
 |r+1=>zcR 5 3 (zay (zes (wM rvL zbR (zaf 2) (zab (zaf 1) waNil)))
  (zgl (znH (zax (zbQ r) (zab (zaf 0) waNil))) (wGT (zav (wGN 3) (zav (wGN 4) zcb))) (zbS r (zaG r))))
noncomputable def zdS:Nat→WSp
 |0=>zaZ
 |r+1=>zcR 2 1 (zay (wAsg (zdb (zeJ waNil)) (wGN 1))
  (zay (zes (zax (zaG r) (zab (zaf 0) (zab (zcH waNil) (zab (zaf 1) waNil)))))
  (zbm (zaf 1))))
noncomputable def zbr:Nat→WSp
 |0=>zaZ
 |r+1=>zcR 3 2 (zay (wAsg (zax (zbQ r) (zab (zaf 0) waNil)) (wGN 2))
  (zay (zce (wOr (wTb (wOp oLt (zaf 1) (wC (.int 0)))) (wTb (wOp oGe (zaf 1) (wB zco (zab (zaf 2) waNil))))) (zfL "NoPlace" (zab (wC (.str "there is no such place")) waNil)) zaN)
  (zbm (wOp oIx (zaf 2) (zaf 1)))))
noncomputable def zgQ (r:Nat) (self:WSp):WS:=(wAsg (zax (zbr r) (zab (zaf 2) (zab (zaf 3) waNil))) (wGN 2))
noncomputable def zfw:Nat→WSp
 |0=>zaZ
 |r+1=>zcR 4 2 (zay (wAsg (zaf 0) (wGN 2))
  (zay (zgl (wIv (zaf 1)) (wGN 3) (zgQ r zaZ))
  (zbm (zaf 2))))
noncomputable def zfc (r:Nat) (self:WSp):WE:=(zaf 0)
noncomputable def zbw:Nat→WSp
 |0=>zaZ
 |r+1=>zcR 1 1 (zbm (zdb (zcj 1 [0] (wIv (zax (zdS r) (zab (zaf 0) waNil))) (wGN 0) (zdM (zeQ "int" (zax (zfw r) (zab (zaf 1) (zab (zaf 0) waNil))))) (zfc r zaZ))))
noncomputable def zgq (r:Nat) (self:WSp):WE:=(zax (zfw r) (zab (zaf 1) (zab (zaf 0) waNil)))
noncomputable def zdQ:Nat→WSp
 |0=>zaZ
 |r+1=>zcR 1 1 (zbm (zdb (zcj 1 [0] (wIv (zax (zbw r) (zab (zaf 0) waNil))) (wGN 0) zfd (zgq r zaZ))))
noncomputable def zby:Nat→WSp
 |0=>zaZ
 |r+1=>zcR 2 2 (zbm (zfg (wOp (oEq false) (wOp oIx (zaf 0) (wC (.int 0))) (wOp oIx (zaf 1) (wC (.int 0)))) (wOp (oEq false) (wB zco (zab (zaf 0) waNil)) (wB zco (zab (zaf 1) waNil)))))
noncomputable def zfn (r:Nat) (self:WSp):WE:=(zax self (zab (zaf 0) (zab (zaf 1) waNil)))
noncomputable def zdI:Nat→WSp
 |0=>zaZ
 |r+1=>zcR 2 2 (zay (zce (wOr (zdM (zeQ "int" (zaf 0))) (zdM (zeQ "int" (zaf 1)))) (zbm (wC (.bl true))) zaN)
  (zbm (zfg (zax (zby r) (zab (zaf 0) (zab (zaf 1) waNil))) (wBL zfu (zcj 2 [] (zuH (wSl (zaf 0) (woS (wC (.int 1))) woN) (wSl (zaf 1) (woS (wC (.int 1))) woN)) (wGT (zav (wGN 0) (zav (wGN 1) zcb))) zfd (zfn r (zdI r)))))))
noncomputable def zbY (r:Nat) (self:WSp):WE:=(zgo oLe oLe (wC (.str "a")) (zaf 0) (wC (.str "z")))
noncomputable def zaQ:Nat→WSp
 |0=>zaZ
 |r+1=>zcR 1 1 (zbm (wBL zfu (zcj 1 [] (wIv (zaf 0)) (wGN 0) zfd (zbY r zaZ))))
noncomputable def zcO:Nat→WSp
 |0=>zaZ
 |r+1=>zcR 1 1 (zbm (zfg (zgo oLe oLe (wC (.int 1)) (wB zco (zab (zaf 0) waNil)) (wC (.int 8))) (zfg (zgo oLe oLe (wC (.str "A")) (wOp oIx (zaf 0) (wC (.int 0))) (wC (.str "Z"))) (zax (zaQ r) (zab (wSl (zaf 0) (woS (wC (.int 1))) woN) waNil)))))
noncomputable def zeh (r:Nat) (self:WSp):WE:=(wOp (oIn false) (zaf 0) (zaf 1))
noncomputable def zbZ:Nat→WSp
 |0=>zaZ
 |r+1=>zcR 4 1 (zay (wAsg (wOp oIx (zaf 0) (wC (.int 1))) (wGN 1))
  (zay (wAsg (wOp oIx (zaf 0) (wC (.int 2))) (wGN 2))
  (zay (zce (wOr (zjN (zdM (zax (zcO r) (zab (wOp oIx (zaf 0) (wC (.int 0))) waNil)))) (zdM (zeQ "int" (zaf 1)))) (zbm (wC (.bl false))) zaN)
  (zay (zce (wOr (wTb (wOp oGt (zax (zdP r) (zab (zaf 1) waNil)) (wC (.int 12)))) (wTb (wOp oGt (zax (zdP r) (zab (zaf 2) waNil)) (wC (.int 12))))) (zbm (wC (.bl false))) zaN)
  (zay (wAsg (zax (zdQ r) (zab (zaf 1) waNil)) (wGN 3))
  (zbm (zfg (wOp (oEq false) (zaf 3) (zdb (zcQ (wB zco (zab (zaf 3) waNil))))) (wBL zfu (zcj 1 [3] (wIv (zax (zdQ r) (zab (zaf 2) waNil))) (wGN 0) zfd (zeh r zaZ))))))))))
noncomputable def zeZ (r:Nat) (self:WSp):WS:=(zay (wAsg (zfg (wOp (oEq false) (zaf 3) (zcH waNil)) (wOp (oEq false) (zaf 5) (zaf 1))) (wGN 7))
  (zce (zkO (zjN (zdM (zeQ "int" (zaf 4)))) (zkO (zjN (zdM (zaf 7))) (zdM (zax (zdI r) (zab (zaf 4) (zab (wOp oIx (zaf 6) (wC (.int 1))) waNil)))))) (zbm (zcH (zab (zaf 1) (zab (zaf 5) (zab (zaf 3) waNil))))) zaN))
noncomputable def zeT (r:Nat) (self:WSp):WS:=(zay (wAsg (zax (zfw r) (zab (zaf 2) (zab (zaf 3) waNil))) (wGN 4))
  (zgl (znH (zaf 0)) (wGT (zav (wGN 5) (zav (wGN 6) zcb))) (zeZ r zaZ)))
noncomputable def zcL:Nat→WSp
 |0=>zaZ
 |r+1=>zcR 8 2 (zay (wAsg (wOp oIx (wOp oIx (zaf 0) (zaf 1)) (wC (.int 1))) (wGN 2))
  (zay (zgl (wIv (zax (zdS r) (zab (zaf 2) waNil))) (wGN 3) (zeT r zaZ))
  (zbm (wC .non))))
noncomputable def zir (r:Nat) (self:WSp):WS:=(zay (wAsg (zax (zcL r) (zab (zaf 0) (zab (zaf 1) waNil))) (wGN 2))
  (zce (wTb (wOp (oIs true) (zaf 2) (wC .non))) (zbm (zaf 2)) zaN))
noncomputable def zfz:Nat→WSp
 |0=>zaZ
 |r+1=>zcR 3 1 (zay (zgl (zle (zab (wB zco (zab (zaf 0) waNil)) waNil)) (wGN 1) (zir r zaZ))
  (zbm (wC .non)))
noncomputable def zer (r:Nat) (self:WSp):WS:=(zay (zce (zjN (zdM (zax (zbZ r) (zab (zaf 2) waNil)))) (zfL "NoTurning" (zab (wC (.str "one of them is no turning")) waNil)) zaN)
  (zay (zce (wTb (wOp (oIn false) (wOp oIx (zaf 2) (wC (.int 0))) (zaf 1))) (zfL "NoTurning" (zab (wC (.str "a title comes twice")) waNil)) zaN)
  (zes (wM rvL zbR (zaf 1) (zab (wOp oIx (zaf 2) (wC (.int 0))) waNil)))))
noncomputable def zdD:Nat→WSp
 |0=>zaZ
 |r+1=>zcR 3 1 (zay (zce (wTb (wOp oGt (wB zco (zab (zaf 0) waNil)) (wC (.int 8)))) (zfL "NoTurning" (zab (wC (.str "there are more turnings than a book holds")) waNil)) zaN)
  (zay (wAsg (zdb (zeJ waNil)) (wGN 1))
  (zay (zgl (wIv (zaf 0)) (wGN 2) (zer r zaZ))
  (zay (zce (wTb (wOp (oIs true) (zax (zfz r) (zab (zaf 0) waNil)) (wC .non))) (zfL "Clash" (zab (wC (.str "a turning clashes with one")) waNil)) zaN)
  (zbm (zdb (zgD (zaf 0))))))))
noncomputable def zaV:Nat→WSp
 |0=>zaZ
 |r+1=>zcR 4 2 (zay (zce (wTb (wOp (oEq false) (wB zco (zab (zaf 0) waNil)) (wC (.int 0)))) (zbm (wC (.int 0))) zaN)
  (zay (wAsg (wOp (zbG (fun _ j=>0<j) fun i j=> .int (i % j)) (wOp oIx (zaf 0) (wOp (zbG (fun _ j=>0<j) fun i j=> .int (i % j)) (zaf 1) (wB zco (zab (zaf 0) waNil)))) (wOp (zbG zsY fun i j=> .int (i ^ j.toNat)) (wC (.int 10)) (wC (.int 60)))) (wGN 2))
  (zay (zce (wTb (wOp oLt (zaf 1) (wB zco (zab (zaf 0) waNil)))) (zbm (zaf 2)) zaN)
  (zay (wAsg (wOp (zbG (fun _ j=>0<j) fun i j=> .int (i % j)) (wOp zcT (wOp zcT (zaf 2) (wOp (zbG CMul fun i j=> .int (i*j)) (wOp (zbG CMul fun i j=> .int (i*j)) (wC (.int 7919)) (zaf 1)) (zaf 1))) (wC (.int 1))) (wC (.int 2147483647))) (wGN 3))
  (zbm (wOp (zbG (fun _ j=>0<j) fun i j=> .int (i % j)) (wOp (zbG CMul fun i j=> .int (i*j)) (zaf 3) (zaf 3)) (wC (.int 2147483647))))))))
noncomputable def zdY (r:Nat) (self:WSp):WE:=(wOp oIx (zaf 1) (wOp (zbG (fun _ j=>0<j) fun i j=> .int (i % j)) (wOp zcT (wOp oIx (zaf 2) (zaf 0)) (wOp (zbG CMul fun i j=> .int (i*j)) (zaf 3) (wB zrZ (zab (wOp (oEq false) (zaf 0) (zaf 4)) waNil)))) (wC (.int 26))))
noncomputable def zea (r:Nat) (self:WSp):WS:=(zes (wM rvL zbR (zaf 10) (zab (wML rvS zgw (wC (.str "")) (zcj 1 [3,6,11,9] (zle (zab (zaf 8) waNil)) (wGN 0) zfd (zdY r zaZ))) waNil)))
noncomputable def zeg (r:Nat) (self:WSp):WE:=(wOp oIx (zaf 1) (zaf 0))
noncomputable def zec (r:Nat) (self:WSp):WE:=(wML rvS zgw (wC (.str "")) (zcj 1 [1] (wIv (wSl (zaf 2) woN (woS (wOp zcT (zaf 0) (wC (.int 1)))))) (wGN 0) zfd (zeg r zaZ)))
noncomputable def zcF (r:Nat) (self:WSp):WS:=(zay (zes (wM rvL zbR (zaf 6) (zab (wOp (zbG (fun _ j=>0<j) fun i j=> .int (i % j)) (zaf 5) (wC (.int 26))) waNil)))
  (wAsg (wOp (zbG ziG fun i j=> .int (i / j)) (zaf 5) (wC (.int 26))) (wGN 5)))
noncomputable def zbp:Nat→WSp
 |0=>zaZ
 |r+1=>zcR 12 3 (zay (wAsg (wC (.str "abcdefghijklmnopqrstuvwxyz")) (wGN 3))
  (zay (wAsg (zax (zaV r) (zab (zaf 0) (zab (zaf 1) waNil))) (wGN 4))
  (zay (wAsg (wOp (zbG (fun _ j=>0<j) fun i j=> .int (i % j)) (wOp (zbG CMul fun i j=> .int (i*j)) (zax (zaV r) (zab (zaf 0) (zab (wOp zcT (zaf 1) (wC (.int 1))) waNil))) (wC (.int 982451653))) (wOp (zbG zsY fun i j=> .int (i ^ j.toNat)) (wC (.int 26)) (wC (.int 8)))) (wGN 5))
  (zay (wAsg (zdb (zeJ waNil)) (wGN 6))
  (zay (zgl (zle (zab (wC (.int 8)) waNil)) (wGN 7) (zcF r zaZ))
  (zay (zce (wTb (wOp (oEq false) (wOp (zbG (fun _ j=>0<j) fun i j=> .int (i % j)) (zaf 4) (wC (.int 3))) (wC (.int 0)))) (zbm (zdb (zcj 1 [3,6] (zle (zab (zaf 2) waNil)) (wGN 0) zfd (zec r zaZ)))) zaN)
  (zay (wAsg (wOp zcT (wC (.int 1)) (wOp (zbG (fun _ j=>0<j) fun i j=> .int (i % j)) (wOp (zbG ziG fun i j=> .int (i / j)) (zaf 4) (wC (.int 3))) (wC (.int 8)))) (wGN 8))
  (zay (wAsg (wOp (zbG (fun _ j=>0<j) fun i j=> .int (i % j)) (wOp (zbG ziG fun i j=> .int (i / j)) (zaf 4) (wC (.int 24))) (zaf 8)) (wGN 9))
  (zay (wAsg (zdb (zeJ waNil)) (wGN 10))
  (zay (zgl (zle (zab (zaf 2) waNil)) (wGN 11) (zea r zaZ))
  (zbm (zaf 10))))))))))))
noncomputable def zdG (r:Nat) (self:WSp):WE:=(wOp zcT (wOp oIx (zaf 1) (wM rvS zia (zaf 2) (zab (wOp oIx (zaf 0) (wC (.int 0))) waNil))) (wSl (zaf 0) (woS (wC (.int 1))) woN))
noncomputable def zbI:Nat→WSp
 |0=>zaZ
 |r+1=>zcR 5 3 (zay (wAsg (wC (.str "abcdefghijklmnopqrstuvwxyz")) (wGN 3))
  (zay (wAsg (wC (.str "ABCDEFGHIJKLMNOPQRSTUVWXYZ")) (wGN 4))
  (zbm (zdb (zcj 1 [4,3] (wIv (zax (zbp r) (zab (zaf 0) (zab (zaf 1) (zab (zaf 2) waNil))))) (wGN 0) zfd (zdG r zaZ))))))
noncomputable def zbL:Nat→WSp
 |0=>zaZ
 |r+1=>zcR 6 4 (zay (wAsg (ztJ (zeJ (zab (wC (.int 0)) (zab (wC (.int 0)) (zab (wC (.int 1)) (zab (wC (.int 2)) (zab (wC (.int 3)) waNil)))))) (wOp (zbG (fun _ j=>0<j) fun i j=> .int (i % j)) (zaf 1) (wC (.int 5)))) (wGN 4))
  (zay (wAsg (wOp (zbG ziG fun i j=> .int (i / j)) (zaf 1) (wC (.int 5))) (wGN 5))
  (zay (zce (wOr (wTb (wOp (oEq false) (zaf 4) (wC (.int 0)))) (wTb (wOp oLt (wB zco (zab (zaf 0) waNil)) (zaf 4)))) (zbm (zdb (zju (zaf 0) (zeJ (zab (wOp oIx (zaf 3) (wOp (zbG (fun _ j=>0<j) fun i j=> .int (i % j)) (zaf 5) (wB zco (zab (zaf 3) waNil)))) waNil))))) zaN)
  (zbm (zdb (zmz (zuB (zaf 0) woN (woS (zpP (zaf 4)))) (zeJ (zab (wOp zcT (zcH (zab (wOp oIx (zaf 2) (wOp (zbG (fun _ j=>0<j) fun i j=> .int (i % j)) (zaf 5) (wB zco (zab (zaf 2) waNil)))) waNil)) (wBL zfx (zuB (zaf 0) (woS (zpP (zaf 4))) woN))) waNil))))))))
noncomputable def zef (r:Nat) (self:WSp):WS:=(wAsg (zdb (zmz (zuB (zaf 3) woN (woS (zpP (wC (.int 2))))) (zeJ (zab (zcH (zab (wOp oIx (zaf 1) (wC (.int 0))) (zab (wOp oIx (zaf 3) (zpP (wC (.int 2)))) (zab (wOp oIx (zaf 3) (zpP (wC (.int 1)))) waNil)))) waNil)))) (wGN 3))
noncomputable def zed (r:Nat) (self:WSp):WS:=(wAsg (zax (zbL r) (zab (zaf 3) (zab (wOp (zbG (fun _ j=>0<j) fun i j=> .int (i % j)) (zaf 4) (wOp (zbG zsY fun i j=> .int (i ^ j.toNat)) (wC (.int 10)) (wC (.int 60)))) (zab (zaf 1) (zab (zaf 2) waNil))))) (wGN 3))
noncomputable def zbF:Nat→WSp
 |0=>zaZ
 |r+1=>zcR 5 3 (zay (wAsg (zdb (zeJ waNil)) (wGN 3))
  (zay (zgl (wIv (zaf 0)) (wGN 4) (zed r zaZ))
  (zay (zce (wTb (wOp (oEq false) (wB zco (zab (zaf 3) waNil)) (wC (.int 0)))) (zbm (wOp oIx (zaf 2) (wC (.int 0)))) zaN)
  (zay (zkj (wTb (wOp oGt (wB zco (zab (zaf 3) waNil)) (wC (.int 1)))) (zef r zaZ))
  (zbm (wOp oIx (zaf 3) (wC (.int 0))))))))
noncomputable def zcE (r:Nat) (self:WSp):WE:=(zax self (zab (zaf 0) (zab (zaf 1) waNil)))
noncomputable def zaU:Nat→WSp
 |0=>zaZ
 |r+1=>zcR 2 2 (zay (zce (zdM (zeQ "str" (zaf 1))) (zbm (zfg (zeQ "str" (zaf 0)) (wOp (oEq false) (zaf 0) (zaf 1)))) zaN)
  (zay (zce (zdM (zeQ "int" (zaf 1))) (zbm (zfg (zeQ "int" (zaf 0)) (zfg (zlY (zeQ "bool" (zaf 0))) (wOp (oEq false) (zaf 0) (zaf 1))))) zaN)
  (zay (zce (zkO (zdM (zeQ "tuple" (zaf 1))) (zjN (zdM (zeQ "tuple" (zaf 0))))) (zbm (wC (.bl false))) zaN)
  (zay (zce (zkO (zdM (zeQ "list" (zaf 1))) (zjN (zdM (zeQ "list" (zaf 0))))) (zbm (wC (.bl false))) zaN)
  (zay (zce (wTb (wOp (oEq true) (wB zco (zab (zaf 0) waNil)) (wB zco (zab (zaf 1) waNil)))) (zbm (wC (.bl false))) zaN)
  (zbm (wBL zfu (zcj 2 [] (zuH (zaf 0) (zaf 1)) (wGT (zav (wGN 0) (zav (wGN 1) zcb))) zfd (zcE r (zaU r))))))))))
noncomputable def zbK (r:Nat) (self:WSp):WS:=(zes (wM rvL zbR (zaf 2) (zab (zcH (zab (wOp zcT (zaf 3) (zcH (zab (wOp (zdU fun i j=> .int (i - j)) (zaf 5) (wC (.int 1))) waNil))) (zab (wOp oIx (zaf 4) (zaf 5)) waNil))) waNil)))
noncomputable def zdu (r:Nat) (self:WSp):WS:=(zay (wAsg (wM rvL ztD (zaf 2) waNil) (wGT (zav (wGN 3) (zav (wGN 4) zcb))))
  (zay (zes (wM rvL zbR (zaf 1) (zab (zcH (zab (zaf 3) (zab (zaf 4) waNil))) waNil)))
  (zce (zjN (zdM (zeQ "int" (zaf 4)))) (zgl (zrT (zab (wOp (zdU fun i j=> .int (i - j)) (wB zco (zab (zaf 4) waNil)) (wC (.int 1))) (zab (wC (.int 0)) (zab (zpP (wC (.int 1))) waNil)))) (wGN 5) (zbK r zaZ)) zaN)))
noncomputable def zaB:Nat→WSp
 |0=>zaZ
 |r+1=>zcR 6 1 (zay (wAsg (zdb (zeJ waNil)) (wGN 1))
  (zay (wAsg (zdb (zeJ (zab (zcH (zab (zcH waNil) (zab (zaf 0) waNil))) waNil))) (wGN 2))
  (zay (zkj (wTb (wOp oGt (wB zco (zab (zaf 2) waNil)) (wC (.int 0)))) (zdu r zaZ))
  (zbm (zaf 1)))))
noncomputable def zbW (r:Nat) (self:WSp):WS:=(zay (wAsg (zax self (zab (zaf 3) (zab (zaf 1) waNil))) (wGT (zav (wGN 4) (zav (wGN 1) zcb))))
  (zes (wM rvL zbR (zaf 2) (zab (zaf 4) waNil))))
noncomputable def zaz:Nat→WSp
 |0=>zaZ
 |r+1=>zcR 5 2 (zay (zce (zdM (zeQ "int" (zaf 0))) (zbm (zcH (zab (zaf 1) (zab (wOp zcT (zaf 1) (wC (.int 1))) waNil)))) zaN)
  (zay (wAsg (zdb (zeJ waNil)) (wGN 2))
  (zay (zgl (wIv (wSl (zaf 0) (woS (wC (.int 1))) woN)) (wGN 3) (zbW r (zaz r)))
  (zbm (zcH (zab (wOp zcT (wSl (zaf 0) woN (woS (wC (.int 1)))) (wB zhy (zab (zaf 2) waNil))) (zab (zaf 1) waNil)))))))
noncomputable def zcn:Nat→WSp
 |0=>zaZ
 |r+1=>zcR 3 2 (zay (wAsg (zax (zbF r) (zab (zaf 0) (zab (zaf 1) (zab (zdb (zeJ (zab (zcH (zab (wOp oIx (zaf 1) (wC (.int 0))) waNil)) (zab (wC (.int 0)) (zab (zcH (zab (wOp oIx (zaf 1) (wC (.int 1))) waNil)) (zab (wC (.int 0)) waNil)))))) waNil)))) (wGN 2))
  (zay (zce (zdM (zeQ "int" (zaf 2))) (wAsg (zcH (zab (wOp oIx (zaf 1) (wC (.int 0))) (zab (wC (.int 0)) waNil))) (wGN 2)) zaN)
  (zbm (zax (zaz r) (zab (zaf 2) (zab (wC (.int 0)) waNil))))))
noncomputable def zdo (r:Nat) (self:WSp):WE:=(zax (zaV r) (zab (zaf 1) (zab (wOp zcT (wOp zcT (zaf 2) (wC (.int 5))) (zaf 0)) waNil)))
noncomputable def zdl (r:Nat) (self:WSp):WE:=(zax (zaV r) (zab (zaf 1) (zab (wOp zcT (zaf 2) (zaf 0)) waNil)))
noncomputable def zbx:Nat→WSp
 |0=>zaZ
 |r+1=>zcR 7 4 (zay (wAsg (zax (zcn r) (zab (zdb (zcj 1 [0,1] (zle (zab (wC (.int 5)) waNil)) (wGN 0) zfd (zdl r zaZ))) (zab (zaf 2) waNil))) (wGT (zav (wGN 4) (zav (wGN 5) zcb))))
  (zay (wAsg (zdb (zmz (zeJ (zab (zcH (zab (wOp oIx (zaf 2) (wC (.int 0))) waNil)) (zab (zcH (zab (wOp oIx (zaf 2) (wC (.int 1))) waNil)) waNil))) (zrW (zcQ (zaf 5)) (wC (.int 2))))) (wGN 6))
  (zbm (zcH (zab (zaf 3) (zab (zaf 4) (zab (zax (zbF r) (zab (zdb (zcj 1 [0,1] (zle (zab (wC (.int 4)) waNil)) (wGN 0) zfd (zdo r zaZ))) (zab (zaf 2) (zab (zaf 6) waNil)))) waNil)))))))
noncomputable def zdh (r:Nat) (self:WSp):WS:=(zce (zkO (wTb (wOp (zte false) (zaf 3) (zaf 2))) (zkO (zjN (zdM (zeQ "int" (zaf 4)))) (zjN (zdM (zeQ "int" (wOp zkZ (zaf 2) (zaf 3))))))) (zce (wOr (wTb (wOp (oEq true) (wOp oIx (zaf 4) (wC (.int 0))) (wOp oIx (wOp zkZ (zaf 2) (zaf 3)) (wC (.int 0))))) (wTb (wOp (oEq true) (wB zco (zab (zaf 4) waNil)) (wB zco (zab (wOp zkZ (zaf 2) (zaf 3)) waNil))))) (zbm (wC (.bl false))) zaN) zaN)
noncomputable def zdc (r:Nat) (self:WSp):WS:=(zrV (zaf 2) (zaf 3) (zaf 4))
noncomputable def zbV:Nat→WSp
 |0=>zaZ
 |r+1=>zcR 5 2 (zay (wAsg zrv (wGN 2))
  (zay (zgl (wIv (zax (zaB r) (zab (zaf 1) waNil))) (wGT (zav (wGN 3) (zav (wGN 4) zcb))) (zdc r zaZ))
  (zay (zgl (wIv (zax (zaB r) (zab (zaf 0) waNil))) (wGT (zav (wGN 3) (zav (wGN 4) zcb))) (zdh r zaZ))
  (zbm (wC (.bl true))))))
noncomputable def zct (r:Nat) (self:WSp):WS:=(zce (zkO (zjN (zdM (zeQ "int" (zaf 3)))) (zkO (wOr (wTb (wOp (oEq true) (zaf 4) (zaf 1))) (wTb (wOp (oEq true) (zaf 2) (zcH waNil)))) (zdM (zax (zbV r) (zab (zaf 3) (zab (wOp oIx (wOp oIx (zaf 0) (zaf 4)) (wC (.int 1))) waNil)))))) (zbm (wC (.bl true))) zaN)
noncomputable def zcC (r:Nat) (self:WSp):WS:=(zgl (zle (zab (wB zco (zab (zaf 0) waNil)) waNil)) (wGN 4) (zct r zaZ))
noncomputable def zcs (r:Nat) (self:WSp):WS:=(zgl (wIv (zax (zaB r) (zab (wOp oIx (wOp oIx (zaf 0) (zaf 1)) (wC (.int 1))) waNil))) (wGT (zav (wGN 2) (zav (wGN 3) zcb))) (zcC r zaZ))
noncomputable def zbh:Nat→WSp
 |0=>zaZ
 |r+1=>zcR 5 1 (zay (zgl (zle (zab (wB zco (zab (zaf 0) waNil)) waNil)) (wGN 1) (zcs r zaZ))
  (zbm (wC (.bl false))))
noncomputable def zcr (r:Nat) (self:WSp):WE:=(zax self (zab (zaf 0) (zab (zaf 1) waNil)))
noncomputable def zaK:Nat→WSp
 |0=>zaZ
 |r+1=>zcR 2 2 (zay (zce (zdM (zeQ "int" (zaf 0))) (zbm (zcH (zab (zaf 1) waNil))) zaN)
  (zbm (wOp zcT (wSl (zaf 0) woN (woS (wC (.int 1)))) (wBL zfx (zcj 1 [1] (wIv (wSl (zaf 0) (woS (wC (.int 1))) woN)) (wGN 0) zfd (zcr r (zaK r)))))))
noncomputable def zcg (r:Nat) (self:WSp):WS:=(zay (wAsg (zax (zbx r) (zab (zaf 0) (zab (wOp zcT (wC (.int 4)) (wOp (zbG CMul fun i j=> .int (i*j)) (wC (.int 9)) (wB znN (zab (zaf 6) (zab (wC (.int 5)) waNil))))) (zab (wSl (zaf 2) woN (woS (wC (.int 3)))) (zab (wOp oIx (zaf 3) (zaf 6)) waNil))))) (wGN 7))
  (zay (zce (wTb (wOp (oEq false) (wOp (zbG (fun _ j=>0<j) fun i j=> .int (i % j)) (wOp (zbG ziG fun i j=> .int (i / j)) (zaf 1) (wC (.int 6))) (wC (.int 2))) (wC (.int 1)))) (zay (wAsg (zcH (zab (wOp oIx (zaf 3) (zaf 6)) (zab (wOp zcT (zcH (zab (ztJ (zju (zaf 2) (zeJ (zab (wC (.str "zzzzzzzz")) waNil))) (zaf 6)) waNil)) (wOp znK (zcH (zab (wC (.int 0)) waNil)) (wB zrZ (zab (wOp (oEq false) (wOp (zbG (fun _ j=>0<j) fun i j=> .int (i % j)) (zaf 6) (wC (.int 2))) (wC (.int 0))) waNil)))) (zab (wOp oIx (zaf 7) (wC (.int 2))) waNil)))) (wGN 7))
  (wAsg (zcH (zab (wOp oIx (zaf 7) (wC (.int 0))) (zab (wOp oIx (zaf 7) (wC (.int 1))) (zab (zax (zaK r) (zab (wOp oIx (zaf 7) (wC (.int 2))) (zab (wOp oIx (zaf 2) (wC (.int 0))) waNil))) waNil)))) (wGN 7))) zaN)
  (zes (wM rvL zbR (zaf 5) (zab (zaf 7) waNil)))))
noncomputable def zcm:Nat→WSp
 |0=>zaZ
 |r+1=>zcR 8 2 (zay (wAsg (zax (zbp r) (zab (zaf 0) (zab (wC (.int 0)) (zab (wC (.int 8)) waNil)))) (wGN 2))
  (zay (wAsg (zdb (zju (zax (zbI r) (zab (zaf 0) (zab (wC (.int 2)) (zab (wC (.int 8)) waNil)))) (zeJ (zab (wC (.str "Zz")) waNil)))) (wGN 3))
  (zay (wAsg (wOp (zbG (fun _ j=>0<j) fun i j=> .int (i % j)) (zaf 1) (wC (.int 6))) (wGN 4))
  (zay (zce (wTb (wOp (oEq false) (wOp (zbG (fun _ j=>0<j) fun i j=> .int (i % j)) (wOp (zbG ziG fun i j=> .int (i / j)) (zaf 1) (wC (.int 6))) (wC (.int 8))) (wC (.int 3)))) (wAsg (wOp zcT (wC (.int 8)) (wOp (zbG (fun _ j=>0<j) fun i j=> .int (i % j)) (wOp (zbG ziG fun i j=> .int (i / j)) (zaf 1) (wC (.int 48))) (wC (.int 2)))) (wGN 4)) zaN)
  (zay (wAsg (zdb (zeJ waNil)) (wGN 5))
  (zay (zgl (zle (zab (zaf 4) waNil)) (wGN 6) (zcg r zaZ))
  (zbm (zaf 5))))))))
noncomputable def zbE:Nat→WSp
 |0=>zaZ
 |r+1=>zcR 4 3 (zay (zce (wTb (wOp (oEq false) (zaf 1) (zcH waNil))) (zbm (zaf 2)) zaN)
  (zay (wAsg (wOp zcT (wOp oIx (zaf 1) (wC (.int 0))) (wC (.int 1))) (wGN 3))
  (zbm (wOp zcT (wOp zcT (wSl (zaf 0) woN (woS (zaf 3))) (zcH (zab (zax (zbE r) (zab (wOp oIx (zaf 0) (zaf 3)) (zab (wSl (zaf 1) (woS (wC (.int 1))) woN) (zab (zaf 2) waNil)))) waNil))) (wSl (zaf 0) (woS (wOp zcT (zaf 3) (wC (.int 1)))) woN)))))
noncomputable def zcK (r:Nat) (self:WSp):WE:=(wOp (oIn false) (zaf 0) (wC (.str "abcdefghijklmnopqrstuvwxyz")))
noncomputable def zbo:Nat→WSp
 |0=>zaZ
 |r+1=>zcR 1 1 (zay (zce (wOr (wTb (wOp oLt (wB zco (zab (zaf 0) waNil)) (wC (.int 1)))) (wOr (wTb (wOp oGt (wB zco (zab (zaf 0) waNil)) (wC (.int 8)))) (wTb (wOp (oIn true) (wOp oIx (zaf 0) (wC (.int 0))) (wC (.str "ABCDEFGHIJKLMNOPQRSTUVWXYZ")))))) (zbm (wC (.bl false))) zaN)
  (zbm (wBL zfu (zcj 1 [] (wIv (wSl (zaf 0) (woS (wC (.int 1))) woN)) (wGN 0) zfd (zcK r zaZ)))))
noncomputable def zdk (r:Nat) (self:WSp):WE:=(zaf 1)
noncomputable def zaW:Nat→WSp
 |0=>zaZ
 |r+1=>zcR 1 1 (zbm (zdb (zcj 2 [] (wIv (zax (zaB r) (zab (zaf 0) waNil))) (wGT (zav (wGN 0) (zav (wGN 1) zcb))) (zdM (zeQ "int" (zaf 1))) (zdk r zaZ))))
noncomputable def zcP (r:Nat) (self:WSp):WE:=(wOp (oIn false) (zaf 0) (zaf 1))
noncomputable def zbq:Nat→WSp
 |0=>zaZ
 |r+1=>zcR 5 1 (zay (wAsg (zaf 0) (wGT (zav (wGN 1) (zav (wGN 2) (zav (wGN 3) zcb)))))
  (zay (wAsg (zax (zaW r) (zab (zaf 2) waNil)) (wGN 4))
  (zay (zce (wOr (zdM (zeQ "int" (zaf 2))) (wOr (wTb (wOp (oEq true) (zaf 4) (zdb (zcQ (wB zco (zab (zaf 4) waNil)))))) (zjN (zdM (zax (zbo r) (zab (zaf 1) waNil)))))) (zbm (wC (.bl false))) zaN)
  (zay (zce (wOr (wTb (wOp oGt (wB zco (zab (zax (zaB r) (zab (zaf 2) waNil)) waNil)) (wC (.int 12)))) (wTb (wOp oGt (wB zco (zab (zax (zaB r) (zab (zaf 3) waNil)) waNil)) (wC (.int 12))))) (zbm (wC (.bl false))) zaN)
  (zbm (wBL zfu (zcj 1 [4] (wIv (zax (zaW r) (zab (zaf 3) waNil))) (wGN 0) zfd (zcP r zaZ))))))))
noncomputable def zbi:Nat→WSp
 |0=>zaZ
 |r+1=>zcR 4 3 (zay (wAsg (wOp (zdU fun i j=> .int (i - j)) (wOp (zdU fun i j=> .int (i - j)) (zaf 1) (wB zco (zab (zax (zaB r) (zab (zaf 0) waNil)) waNil))) (wC (.int 1))) (wGN 3))
  (zay (zce (wTb (wOp oLt (zaf 3) (wC (.int 0)))) (zbm (zaf 0)) zaN)
  (zbm (wOp zcT (zcH (zab (zaf 2) (zab (zaf 0) waNil))) (wOp znK (zcH (zab (zcH (zab (zaf 2) waNil)) waNil)) (zaf 3))))))
noncomputable def zbk (r:Nat) (self:WSp):WS:=(zay (wAsg (ztJ (zeJ (zab (wOp (zdU fun i j=> .int (i - j)) (wOp (zdU fun i j=> .int (i - j)) (wB zco (zab (zaf 3) waNil)) (wC (.int 1))) (zaf 5)) (zab (wOp (zbG ziG fun i j=> .int (i / j)) (zaf 5) (wC (.int 2))) (zab (wOp zcT (zaf 5) (wC (.int 1))) (zab (zaf 5) waNil))))) (zaf 1)) (wGN 7))
  (wAsg (zax (zbE r) (zab (zaf 4) (zab (zaf 6) (zab (zaf 7) waNil)))) (wGN 4)))
noncomputable def zbP (r:Nat) (self:WSp):WE:=(zaf 0)
noncomputable def zaL:Nat→WSp
 |0=>zaZ
 |r+1=>zcR 8 3 (zay (wAsg (zdb (zcj 2 [] (wIv (zax (zaB r) (zab (zaf 0) waNil))) (wGT (zav (wGN 0) (zav (wGN 1) zcb))) (zdM (zeQ "int" (zaf 1))) (zbP r zaZ))) (wGN 3))
  (zay (wAsg (zaf 0) (wGN 4))
  (zay (zgl (znH (zaf 3)) (wGT (zav (wGN 5) (zav (wGN 6) zcb))) (zbk r zaZ))
  (zay (zce (zkO (wTb (wOp (oEq false) (zaf 1) (wC (.int 3)))) (wTb (wOp oGt (wB zco (zab (zaf 3) waNil)) (wC (.int 0))))) (wAsg (zax (zbE r) (zab (zaf 4) (zab (wOp oIx (zaf 3) (wOp (zbG (fun _ j=>0<j) fun i j=> .int (i % j)) (zaf 2) (wB zco (zab (zaf 3) waNil)))) (zab (zcH (zab (wC (.str "z")) waNil)) waNil)))) (wGN 4)) zaN)
  (zbm (zaf 4))))))
noncomputable def zaT:Nat→WSp
 |0=>zaZ
 |r+1=>zcR 10 3 (zay (wAsg (zaf 0) (wGT (zav (wGN 3) (zav (wGN 4) (zav (wGN 5) zcb)))))
  (zay (wAsg (wOp (zbG (fun _ j=>0<j) fun i j=> .int (i % j)) (zaf 1) (wC (.int 12))) (wGN 6))
  (zay (wAsg (wOp (zbG ziG fun i j=> .int (i / j)) (zaf 1) (wC (.int 12))) (wGN 7))
  (zay (zce (wTb (wOp (oEq false) (zaf 6) (wC (.int 0)))) (zay (wAsg (zdb (zeJ (zab (wC (.str "")) (zab (wC (.str "a")) (zab (wOp zcT (zaf 3) (wC (.str "A"))) (zab (wC (.str "Abcdefghi")) (zab (wC (.str "Abcdefgh")) (zab (wC (.str "A")) (zab (wC (.str "A1")) (zab (wOp oIx (zaf 2) (wC (.int 0))) (zab (wOp zcT (wSl (zaf 3) woN (woS (wC (.int 1)))) (wC (.str " "))) (zab (wC (.str "aA")) waNil)))))))))))) (wGN 8))
  (zbm (zcH (zab (wOp oIx (zaf 8) (wOp (zbG (fun _ j=>0<j) fun i j=> .int (i % j)) (zaf 7) (wC (.int 10)))) (zab (zaf 4) (zab (zaf 5) waNil)))))) zaN)
  (zay (zce (wTb (wOp (oEq false) (zaf 6) (wC (.int 1)))) (zbm (zcH (zab (zaf 3) (zab (wOp (zbG (fun _ j=>0<j) fun i j=> .int (i % j)) (zaf 7) (wC (.int 2))) (zab (zaf 5) waNil))))) zaN)
  (zay (zce (wTb (wOp oLt (zaf 6) (wC (.int 6)))) (zbm (zcH (zab (zaf 3) (zab (zax (zaL r) (zab (zaf 4) (zab (wOp (zdU fun i j=> .int (i - j)) (zaf 6) (wC (.int 2))) (zab (zaf 7) waNil)))) (zab (zaf 5) waNil))))) zaN)
  (zay (zce (wTb (wOp (oEq false) (zaf 6) (wC (.int 6)))) (zay (wAsg (wB zmN (zab (wC (.int 0)) (zab (wOp zcT (wOp (zdU fun i j=> .int (i - j)) (wB zco (zab (zax (zaW r) (zab (zaf 4) waNil)) waNil)) (wOp (zbG (fun _ j=>0<j) fun i j=> .int (i % j)) (zaf 7) (wC (.int 2)))) (wOp (zbG (fun _ j=>0<j) fun i j=> .int (i % j)) (zaf 7) (wC (.int 3)))) waNil))) (wGN 9))
  (zbm (zcH (zab (zaf 3) (zab (zaf 4) (zab (zcH (zab (wOp oIx (zaf 2) (wC (.int 0))) (zab (zaf 5) (zab (zaf 9) waNil)))) waNil)))))) zaN)
  (zay (zce (wTb (wOp (oEq false) (zaf 6) (wC (.int 7)))) (zbm (zcH (zab (zaf 3) (zab (zax (zbi r) (zab (zaf 4) (zab (wOp zcT (wC (.int 11)) (wOp (zbG (fun _ j=>0<j) fun i j=> .int (i % j)) (zaf 7) (wC (.int 3)))) (zab (wOp oIx (zaf 2) (wC (.int 1))) waNil)))) (zab (zaf 5) waNil))))) zaN)
  (zay (zce (wTb (wOp (oEq false) (zaf 6) (wC (.int 8)))) (zbm (zcH (zab (zaf 3) (zab (zaf 4) (zab (zax (zbi r) (zab (zaf 5) (zab (wOp zcT (wC (.int 11)) (wOp (zbG (fun _ j=>0<j) fun i j=> .int (i % j)) (zaf 7) (wC (.int 3)))) (zab (wOp oIx (zaf 2) (wC (.int 1))) waNil)))) waNil))))) zaN)
  (zbm (zaf 0)))))))))))
noncomputable def zcq (r:Nat):WS:=(zbm (zfg (wOp (oEq false) (zaf 10) (zdb (zju (zaf 2) (zeJ (zab (wC (.int 1)) waNil))))) (wOp (oEq false) (zaf 8) (zdb (zju (zaf 2) (zeJ (zab (wC (.int 0)) waNil)))))))
noncomputable def zcu (r:Nat) (T:WS):WS:=(zay (zes (wM rvL zbR (zaf 10) (zab (wC (.int 1)) waNil))) T)
noncomputable def zcz (r:Nat) (T:WS):WS:=(zay (zes (wM rvL zbR (zaf 8) (zab (wC (.int 0)) waNil))) T)
noncomputable def zcx (r:Nat) (T:WS):WS:=(zay (zce (wOr (wTb (wOp (oEq true) (zaf 9) (zdb (zeJ waNil)))) (zjN (zdM (zax (zaU r) (zab (zaf 10) (zab (zaf 2) waNil)))))) (zbm (wC (.bl false))) zaN) T)
noncomputable def zcy (r:Nat) (T:WS):WS:=(zay (zce (wOr (zdM (zaf 7)) (zdM (zax (zbh r) (zab (zaf 2) waNil)))) (zbm (wOp (oEq false) (zaf 9) (zdb (zeJ (zab (zaf 7) (zab (zlY (zaf 7)) (zab (wC (.bl true)) waNil))))))) zaN) T)
noncomputable def zcv (r:Nat) (T:WS):WS:=(zay (zce (wTb (wOp (oEq true) (zaf 8) (zaf 2))) (zbm (wC (.bl false))) zaN) T)
noncomputable def zcD (r:Nat) (T:WS):WS:=(zay (zlB 11 ["NoTurning", "Clash"] (wAsg (znO (zdD r) (zab (zaf 8) waNil)) (wGN 10)) (fun cl a=>(wAsg (zdb (zeJ (zab (zsa 11 a (ziH cl "NoTurning")) (zab (zsa 11 a (ziH cl "Clash")) (zab (zsa 11 a (ziH cl "ValueError")) waNil))))) (wGN 9)))) T)
noncomputable def zcB (r:Nat) (T:WS):WS:=(zay (wAsg (wC .non) (wGN 10)) T)
noncomputable def zde (r:Nat) (T:WS):WS:=(zay (wAsg (zdb (zeJ waNil)) (wGN 9)) T)
noncomputable def zdd (r:Nat) (T:WS):WS:=(zay (wAsg (zdb (zgD (zaf 2))) (wGN 8)) T)
noncomputable def zeV (r:Nat) (self:WSp):WE:=(zax (zbq r) (zab (zaf 0) waNil))
noncomputable def zdf (r:Nat) (T:WS):WS:=(zay (wAsg (zuE (wOp oGt (wB zco (zab (zaf 2) waNil)) (wC (.int 8))) (zuE (wOp oLt (ziW (zaf 6)) (wB zco (zab (zaf 6) waNil))) (zlY (wBL zfu (zcj 1 [] (wIv (zaf 2)) (wGN 0) zfd (zeV r zaZ)))))) (wGN 7)) T)
noncomputable def zeX (r:Nat) (self:WSp):WE:=(wOp oIx (zaf 0) (wC (.int 0)))
noncomputable def zcS (r:Nat) (T:WS):WS:=(zay (wAsg (zdb (zcj 1 [] (wIv (zaf 2)) (wGN 0) zfd (zeX r zaZ))) (wGN 6)) T)
noncomputable def zdE (r:Nat):WS:=(wAsg (zax (zaT r) (zab (wOp oIx (zaf 2) (zaf 4)) (zab (wOp (zbG ziG fun i j=> .int (i / j)) (zaf 3) (wC (.int 60))) (zab (zax (zbp r) (zab (zaf 0) (zab (wC (.int 0)) (zab (wC (.int 8)) waNil)))) waNil)))) (zpc (zaf 2) (zaf 4)))
noncomputable def zdK (r:Nat) (T:WS):WS:=(zay (wAsg (wOp (zbG (fun _ j=>0<j) fun i j=> .int (i % j)) (wOp (zbG ziG fun i j=> .int (i / j)) (zaf 3) (wC (.int 3))) (wB zco (zab (zaf 2) waNil))) (wGN 4)) T)
noncomputable def zcZ (r:Nat) (T:WS):WS:=(zay (zce (zkO (wTb (wOp oGt (wB zco (zab (zaf 2) waNil)) (wC (.int 0)))) (wTb (wOp (oEq false) (wOp (zbG (fun _ j=>0<j) fun i j=> .int (i % j)) (zaf 3) (wC (.int 3))) (wC (.int 2))))) (zdK r (zdE r)) zaN) T)
noncomputable def zdx (r:Nat):WS:=(wAsg (zcH (zab (wOp oIx (wOp oIx (zaf 2) (zaf 5)) (wC (.int 0))) (zab (wOp oIx (wOp oIx (zaf 2) (zaf 4)) (wC (.int 1))) (zab (wOp oIx (wOp oIx (zaf 2) (zaf 4)) (wC (.int 2))) waNil)))) (zpc (zaf 2) (zaf 4)))
noncomputable def zdv (r:Nat) (T:WS):WS:=(zay (wAsg (wOp (zbG (fun _ j=>0<j) fun i j=> .int (i % j)) (wOp zcT (wOp zcT (zaf 4) (wC (.int 1))) (wOp (zbG (fun _ j=>0<j) fun i j=> .int (i % j)) (wOp (zbG ziG fun i j=> .int (i / j)) (zaf 3) (wC (.int 60))) (wOp (zdU fun i j=> .int (i - j)) (wB zco (zab (zaf 2) waNil)) (wC (.int 1))))) (wB zco (zab (zaf 2) waNil))) (wGN 5)) T)
noncomputable def zdL (r:Nat) (T:WS):WS:=(zay (wAsg (wOp (zbG (fun _ j=>0<j) fun i j=> .int (i % j)) (wOp (zbG ziG fun i j=> .int (i / j)) (zaf 3) (wC (.int 3))) (wB zco (zab (zaf 2) waNil))) (wGN 4)) T)
noncomputable def zcW (r:Nat) (T:WS):WS:=(zay (zce (zkO (wTb (wOp oGt (wB zco (zab (zaf 2) waNil)) (wC (.int 1)))) (wTb (wOp (oEq false) (wOp (zbG (fun _ j=>0<j) fun i j=> .int (i % j)) (zaf 3) (wC (.int 3))) (wC (.int 1))))) (zdL r (zdv r (zdx r))) zaN) T)
noncomputable def zcU (r:Nat) (T:WS):WS:=(zay (wAsg (zax (zaV r) (zab (zaf 0) (zab (wC (.int 2)) waNil))) (wGN 3)) T)
noncomputable def zcV (r:Nat) (T:WS):WS:=(zay (wAsg (zax (zcm r) (zab (zaf 0) (zab (zaf 1) waNil))) (wGN 2)) T)
noncomputable def zdg (r:Nat) (T:WS):WS:=(zay (wAsg (zax (zaV r) (zab (zaf 0) (zab (wC (.int 3)) waNil))) (wGN 1)) T)
noncomputable def zcN:Nat→WSp
 |0=>zaZ
 |r+1=>zcR 12 1 (zdg r (zcV r (zcU r (zcW r (zcZ r (zcS r (zdf r (zdd r (zde r (zcB r (zcD r (zcv r (zcy r (zcx r (zcz r (zcu r (zcq r)))))))))))))))))
theorem zfm{r:Nat}{t:Tr}{S:Sto}{Q:WK}{E:Str→Sto→Prop}(h:Q (.tup (zaH t.kids)) S):zbQ (r+1) [enc t] S Q E:=by
 rw [zbQ];cases t with
 |bl n=>
  simp only[enc];walk_at "wp";exact⟨Nat.zero_le _,S, .refl,h⟩
 |nd s ts=>
  simp only[enc];walk_at "wp";exact⟨S, .refl,h⟩
mutual
noncomputable def Tr.pl (p:List Int):Tr→List (List Int)
 | .bl _=>[p]
 | .nd _ ts=>p::pls p 0 ts
noncomputable def pls (p:List Int) (i:Nat):List Tr→List (List Int)
 | []=>[]
 |t::ts=>t.pl (p++[(i:Int)])++pls p (i+1) ts
end
mutual
theorem zqa:∀(t:Tr) (p:List Int),(t.pl p).length=t.weight
 | .bl _,p=>by simp [Tr.pl,Tr.weight]
 | .nd _ ts,p=>by simp [Tr.pl,Tr.weight,zmM ts p 0];omega
theorem zmM:∀(ts:List Tr) (p:List Int) (i:Nat),(pls p i ts).length=wts ts
 | [],p,i=>by simp [pls,wts]
 |t::ts,p,i=>by simp [pls,wts,zqa t,zmM ts p (i+1)]
end
theorem zkq{p:List Int}{i:Int}{S:Sto}{Q:WK}:zcT (zca p) (.tup [.int i]) S Q=(p.length+1≤sizeLine∧Q (zca (p++[i])) S):=by
 unfold zca;rw [ziv];simp
mutual
theorem zhr:∀(t:Tr) {r:Nat}{p:List Int}{a:Addr}{xs:List W}{S:Sto}{Q:WK}{E:Str→Sto→Prop},t.depth≤r→S a=some (.lst xs)→xs.length+t.weight≤1000000→p.length+t.depth≤1000000→
  Q .non (put S a (.lst (xs++(t.pl p).map zca)))→zaG (r+1) [enc t,zca p, .ref a] S Q E
 | .bl n,r,p,a,xs,S,Q,E,hr,ha,hx,hp,h=>by
  obtain⟨r,rfl⟩:∃r',r=r'+1:=⟨r - 1,by simp [Tr.depth]at hr;omega⟩
  rw [zaG];walk_at "wp";simp only[zaj ha,true_and];simp [Tr.weight]at hx;refine⟨zbj (by omega),?_⟩;refine zfm ?_;simp only[Tr.kids,zaH,nums,forL];simp only[Tr.pl,List.map_cons,List.map_nil]at h;exact⟨_, .refl,h⟩
 | .nd s ts,r,p,a,xs,S,Q,E,hr,ha,hx,hp,h=>by
  simp only[Tr.depth]at hr hp;simp only[Tr.weight]at hx;obtain⟨r,rfl⟩:∃r',r=r'+1:=⟨r - 1,by omega⟩
  rw [zaG];walk_at "wp";simp only[zaj ha,true_and];refine⟨zbj (by omega),?_⟩;refine zfm ?_;dsimp only[Tr.kids];refine zgm ts (xs:=xs++[zca p]) (by omega) zag (by simp;omega) (by omega) fun x y=>?_;rw [zcc];refine⟨_, .refl,?_⟩;simpa [Tr.pl,List.append_assoc]using h
theorem zgm:∀(ts:List Tr) {r:Nat}{p:List Int}{i:Nat}{a:Addr}{xs:List W}{S:Sto}{E:WX}{D:WEnds}{t0 x y:Option W},dts ts≤r→S a=some (.lst xs)→xs.length+wts ts≤1000000→p.length+1+dts ts≤1000000→
  (∀x y,D.nx [t0,some (zca p),some (.ref a),x,y] (put S a (.lst (xs++(pls p i ts).map zca))))→
  forL (wGT (zav (wGN 3) (zav (wGN 4) zcb))) (zbS (r+1) (zaG (r+1))) E D (fun _=>True) (nums i (zaH ts)) [t0,some (zca p),some (.ref a),x,y] S
 | [],r,p,i,a,xs,S,E,D,t0,x,y,hr,ha,hx,hp,h=>by
  simp only[zaH,nums,forL];have:=h x y;simp only[pls,List.map_nil,List.append_nil,zhn ha]at this;exact this
 |t::ts,r,p,i,a,xs,S,E,D,t0,x,y,hr,ha,hx,hp,h=>by
  simp only[dts]at hr hp;simp only[wts]at hx;simp only[zaH,nums,forL,zbS];walk_at "wp";rw [zkq];refine⟨zak (by omega),zak (by omega),zhr t (p:=p++[(i:Int)]) (by omega) ha (by omega) (by simp;omega) ?_⟩;refine⟨_, .refl,zgm ts (by omega) zag (by simp [zqa];omega) (by omega) fun x y=>?_⟩;rw [zcc];simpa [pls,List.append_assoc]using h x y
end
theorem zie{t:Tr}{r:Nat}{S:Sto}{Q:WK}{E:Str→Sto→Prop}(hr:t.depth+1≤r) (hw:t.weight≤100000) (hd:t.depth≤100000) (h:∀a,S a=none→Q (.ref a) (put S a (.lst ((t.pl []).map zca)))):zdS (r+1) [enc t] S Q E:=by
 obtain⟨r,rfl⟩:∃r',r=r'+1:=⟨r - 1,by omega⟩
 rw [zdS];walk_at "wp";refine⟨Nat.zero_le _,fun a ha=>⟨Nat.zero_le _,zhr t (p:=[]) (xs:=[]) (by omega) zag (by simp;omega) (by simp;omega) ?_⟩⟩;rw [zcc,List.nil_append];exact⟨_, .refl,h a ha⟩
noncomputable def Tr.at:Tr→List Int→Option Tr
 |t,[]=>some t
 | .bl _,_::_=>none
 | .nd _ ts,i::p=>if i<0 then none else match ts[i.toNat]? with
  |some u=>u.at p
  |none=>none
theorem zjf{t u:Tr}{i:Int}{r:Nat}{S:Sto}{Q:WK}{E:Str→Sto→Prop}(hi:0≤i) (hu:t.kids[i.toNat]? =some u) (h:Q (enc u) S):zbr (r+2) [enc t, .int i] S Q E:=by
 rw [zbr];walk_at "wp";refine zfm ?_;have hl:i.toNat<t.kids.length:=(List.getElem?_eq_some_iff.mp hu).1;walk_at "wp";rw [zas];rw [if_neg (by omega),if_neg (by omega)];have e:atI (zaH t.kids) i=some (enc u):=by
  have q:=zbB (xs:=zaH t.kids) (n:=i.toNat);rw [Int.toNat_of_nonneg hi]at q;rw [q,zaA,List.getElem?_map,hu];rfl
 rw [e];exact⟨S, .refl,h⟩
theorem zjw{p:List Int}:∀{t u:Tr}{r:Nat}{S:Sto}{E:WX}{D:WEnds}{x y z:Option W},t.at p=some u→(∀z,D.nx [x,y,some (enc u),z] S)→
  forL (wGN 3) (zgQ (r+2) zaZ) E D (fun _=>True) (p.map W.int) [x,y,some (enc t),z] S:=by
 induction p with
 |nil=>
  intro t u r S E D x y z e h;unfold Tr.at at e;cases e;exact h z
 |cons i p ih=>
  intro t u r S E D x y z e h;cases t with
  |bl n=>cases e
  |nd s ts=>
   unfold Tr.at at e;split at e
   ·cases e
   ·rename_i hi;split at e
    ·rename_i v ev;simp only[List.map_cons,forL,zgQ];walk_at "wp";refine zjf (t:= .nd s ts) (u:=v) (by omega) ev ⟨S, .refl,?_⟩;exact ih e h
    ·cases e
theorem ziM{t u:Tr}{p:List Int}{r:Nat}{S:Sto}{Q:WK}{E:Str→Sto→Prop}(e:t.at p=some u) (h:Q (enc u) S):zfw (r+3) [enc t,zca p] S Q E:=by
 rw [zfw];walk_at "wp";unfold zca;dsimp only;exact zjw e fun z=>⟨S, .refl,h⟩
theorem zeO{ns:List Int}{k:Int}{r:Nat}{S:Sto}{Q:WK}{E:Str→Sto→Prop}(h0:0≤k) (h1:k≤100000) (h:∀n:Int,0≤n→n<10 ^ 60→Q (.int n) S):zaV (r+1) [.scr ns, .int k] S Q E:=by
 rw [zaV];walk_at "wp";have e60:(10:Int) ^ Int.toNat 60=10 ^ 60:=rfl;by_cases hn:ns.length=0
 ·rw [if_pos (by simp [hn])];exact⟨S, .refl,h 0 (by decide) (by decide)⟩
 ·rw [if_neg (by simpa using hn)];have hm0:0≤k % (ns.length:Int):=Int.emod_nonneg _ (by omega);have hm1:k % (ns.length:Int)<(ns.length:Int):=Int.emod_lt_of_pos _ (by omega);have q:=zbB (xs:=ns) (n:=(k % (ns.length:Int)).toNat);rw [Int.toNat_of_nonneg hm0,List.getElem?_eq_getElem (by omega)]at q;rw [q];generalize ns[(k % (ns.length:Int)).toNat]'(by omega)=n;have v0:0≤n % (10:Int) ^ 60:=Int.emod_nonneg _ (by decide);have v1:n % (10:Int) ^ 60<10 ^ 60:=Int.emod_lt_of_pos _ (by decide);refine⟨by omega,⟨by decide,by decide,by decide⟩,by decide,?_⟩
  rw [e60];split
  ·exact⟨S, .refl,h _ v0 v1⟩
  ·have m0:0≤(n % (10:Int) ^ 60+7919*k*k+1) % 2147483647:=Int.emod_nonneg _ (by decide);have m1:(n % (10:Int) ^ 60+7919*k*k+1) % 2147483647<2147483647:=Int.emod_lt_of_pos _ (by decide);refine⟨.inl ⟨by decide,by decide⟩, .inr ⟨by omega,by omega⟩,by decide, .inl ⟨Int.lt_of_lt_of_le (by decide) m0,Int.lt_trans m1 (by decide)⟩,by decide,S, .refl,h _ (Int.emod_nonneg _ (by decide)) ?_⟩
   exact Int.lt_of_lt_of_le (Int.emod_lt_of_pos _ (by decide)) (by decide)
noncomputable def Low (c:Nat):Prop:=97≤c∧c≤122
noncomputable def zkQ (x:Str):Prop:=1≤x.cps.toList.length∧x.cps.toList.length≤8∧ ∀c∈x.cps.toList,Low c
noncomputable def zpI (x:Str):Prop:=∃c r,x.cps.toList=c::r∧65≤c∧c≤90∧r.length≤7∧ ∀d∈r,Low d
theorem znd:(Str.ofString "abcdefghijklmnopqrstuvwxyz").cps.toList=List.range' 97 26:=by decide +kernel
theorem zlL:(Str.ofString "ABCDEFGHIJKLMNOPQRSTUVWXYZ").cps.toList=List.range' 65 26:=by decide +kernel
theorem zpW:(Str.ofString "abcdefghijklmnopqrstuvwxyz").length=26:=by decide +kernel
theorem ztq:(Str.ofString "ABCDEFGHIJKLMNOPQRSTUVWXYZ").length=26:=by decide +kernel
theorem zsU{n:Int}(h0:0≤n) (h1:n<26):∃c,atI (Str.ofString "abcdefghijklmnopqrstuvwxyz").cps.toList n=some c∧Low c:=by
 refine⟨97+n.toNat,?_,by constructor<;>omega⟩
 have e:=ziS (xs:=(Str.ofString "abcdefghijklmnopqrstuvwxyz").cps.toList) (j:=n.toNat) (v:=97+n.toNat) (by
  rw [znd,List.getElem?_range' (by omega)];simp)
 rw [Int.toNat_of_nonneg h0]at e;exact e
theorem zvX{n:Nat}(h1:n<26):atI (Str.ofString "ABCDEFGHIJKLMNOPQRSTUVWXYZ").cps.toList (n:Int)=some (65+n):=
 ziS (by
  rw [zlL,List.getElem?_range' (by omega)];simp)
theorem zsM{c:Nat}(h:Low c):Builtin.Str.occurrences (Str.ofString "abcdefghijklmnopqrstuvwxyz") ⟨#[c]⟩ 0 (Str.ofString "abcdefghijklmnopqrstuvwxyz").length 1=[c - 97]:=by
 have all:((List.range 26).all fun i=>decide (Builtin.Str.occurrences (Str.ofString "abcdefghijklmnopqrstuvwxyz") ⟨#[97+i]⟩ 0 (Str.ofString "abcdefghijklmnopqrstuvwxyz").length 1=[i]))=true:=by decide +kernel
 have q:=of_decide_eq_true (List.all_eq_true.mp all (c - 97) (List.mem_range.mpr (by have:=h.1;have:=h.2;omega)));have e:97+(c - 97)=c:=by have:=h.1;omega
 rw [e]at q;exact q
theorem ziq:∀cs:List Nat,(Str.join (Str.ofString "") (cs.map fun c=>(⟨#[c]⟩:Str))).cps.toList=cs
 | []=>rfl
 | [c]=>rfl
 |c::d::r=>by
  have ih:=ziq (d::r);show((⟨#[c]⟩:Str)++Str.ofString "" ++Str.join (Str.ofString "") ((d::r).map fun c=>(⟨#[c]⟩:Str))).cps.toList=_;show(#[c]++(Str.ofString "").cps++(Str.join (Str.ofString "") ((d::r).map fun c=>(⟨#[c]⟩:Str))).cps).toList=_;rw [Array.toList_append,Array.toList_append,ih];rfl
theorem zoL (cs:List Nat):((cs.map fun c=>(⟨#[c]⟩:Str)).map (·.length)).sum=cs.length:=by
 induction cs with
 |nil=>rfl
 |cons c r ih=>
  rw [List.map_cons,List.map_cons,List.sum_cons,ih,List.length_cons];show 1+r.length=r.length+1;omega
theorem zid{cs:List Nat}(h1:1≤cs.length) (h2:cs.length≤8) (h:∀c∈cs,Low c):zkQ (Str.join (Str.ofString "") (cs.map fun c=>(⟨#[c]⟩:Str))):=by
 unfold zkQ;rw [ziq];exact⟨h1,h2,h⟩
theorem zhL:∀(ws:List W) {rs:List Int}{sp:Int}{a:Addr}{r:Nat}{S:Sto}{E:WX}{D:WEnds}{x0 x1 x2 x3 x4 x7 x8 x9 x10 x11:Option W},S a=some (.lst (rs.map W.int))→rs.length+ws.length≤1000→(∀v∈rs,0≤v∧v<26)→0≤sp→
  (∀(rs':List Int) sp' x7',rs'.length=rs.length+ws.length→(∀v∈rs',0≤v∧v<26)→D.nx [x0,x1,x2,x3,x4,some (.int sp'),some (.ref a),x7',x8,x9,x10,x11] (put S a (.lst (rs'.map W.int))))→
  forL (wGN 7) (zcF r zaZ) E D (fun _=>True) ws [x0,x1,x2,x3,x4,some (.int sp),some (.ref a),x7,x8,x9,x10,x11] S
 | [],rs,sp,a,r,S,E,D,x0,x1,x2,x3,x4,x7,x8,x9,x10,x11,ha,hl,hv,hs,h=>by
  simp only[forL];have:=h rs sp x7 (by simp) hv;rw [zhn ha]at this;exact this
 |w::ws,rs,sp,a,r,S,E,D,x0,x1,x2,x3,x4,x7,x8,x9,x10,x11,ha,hl,hv,hs,h=>by
  simp only[forL,zcF];walk_at "wp";simp only[List.length_cons]at hl h;simp only[zaj ha,true_and];have m0:0≤sp % 26:=Int.emod_nonneg _ (by decide);have m1:sp % 26<26:=Int.emod_lt_of_pos _ (by decide);have d0:0≤sp / 26:=Int.ediv_nonneg hs (by decide);refine⟨by decide,zbj (by simp;omega),⟨by decide,by decide⟩,_, .refl,?_⟩
  refine zhL (r:=r) ws (rs:=rs++[sp % 26]) (by rw [zag];simp) (by simp;omega) (fun v hm=>?_) d0 fun rs' sp' x7' h1 h2=>?_
  ·rcases List.mem_append.mp hm with z |z
   ·exact hv v z
   ·have:v=sp % 26:=by simpa using z
    omega
  ·rw [zcc];exact h rs' sp' x7' (by simp at h1;omega) h2
theorem zek:∀cs:List Nat,zdm (cs.map fun c=>W.str ⟨#[c]⟩)=some (cs.map fun c=>(⟨#[c]⟩:Str))
 | []=>rfl
 |c::cs=>by rw [List.map_cons,zdm,zek cs];rfl
theorem zjl{P:W→W→Prop}(hP:∀w y,P w y→ ∃c,y=W.str ⟨#[c]⟩∧Low c):∀{ws ys:List W},Paired P ws ys→ ∃cs:List Nat,cs.length=ws.length∧(∀c∈cs,Low c)∧ys=cs.map fun c=>W.str ⟨#[c]⟩
 |_,_, .nil=>⟨[],rfl,(fun _ h=>nomatch h),rfl⟩
 |_,_, .cons h t=>by
  obtain⟨c,rfl,hc⟩:=hP _ _ h;obtain⟨cs,h1,h2,rfl⟩:=zjl hP t;exact⟨c::cs,by simp [h1],fun d hd=>(List.mem_cons.mp hd).elim (fun e=>e▸hc) (h2 d),rfl⟩
theorem zjk{P:W→W→Prop}{G:Str→Prop}(hP:∀w y,P w y→ ∃x,y=W.str x∧G x):∀{ws ys:List W},Paired P ws ys→ ∃xs:List Str,xs.length=ws.length∧(∀x∈xs,G x)∧ys=xs.map W.str
 |_,_, .nil=>⟨[],rfl,(fun _ h=>nomatch h),rfl⟩
 |_,_, .cons h t=>by
  obtain⟨x,rfl,hx⟩:=hP _ _ h;obtain⟨xs,h1,h2,rfl⟩:=zjk hP t;exact⟨x::xs,by simp [h1],fun d hd=>(List.mem_cons.mp hd).elim (fun e=>e▸hx) (h2 d),rfl⟩
theorem zhl (cs:List Nat) (h:cs.length≤1000):(List.map (fun x=>x.length) (cs.map fun c=>(⟨#[c]⟩:Str))).sum+(cs.map fun c=>(⟨#[c]⟩:Str)).length*(Str.ofString "").length≤16777216:=by
 have e:=zoL cs;have z:(Str.ofString "").length=0:=by decide +kernel
 rw [e,z];omega
theorem zfl{lo:Int}{n:Nat}{w:W}(h:w∈zeF lo n):∃i:Nat,i<n∧w= .int (lo+i):=by
 unfold zeF at h;obtain⟨i,hi,rfl⟩:=List.mem_map.mp h;exact⟨i,List.mem_range.mp hi,rfl⟩
theorem zcf{lo:Int}{n:Nat}:(zeF lo n).length=n:=by simp [zeF]
theorem zhh{ns:List Int}{k:Int}{many:Nat}{r:Nat}{S:Sto}{Q:WK}{E:Str→Sto→Prop}(h0:0≤k) (h1:k≤1000) (hm:many≤8) (h:∀(a:Addr) (ws:List Str),S a=none→ws.length=many→(∀x∈ws,zkQ x)→Q (.ref a) (put S a (.lst (ws.map W.str)))):zbp (r+2) [.scr ns, .int k, .int many] S Q E:=by
 rw [zbp];walk_at "wp";refine zeO h0 (by omega) fun first f0 f1=>zeO (by omega) (by omega) fun sp p0 p1=>?_;walk_at "wp";have sp0:0≤sp*982451653 % (26:Int) ^ Int.toNat 8:=Int.emod_nonneg _ (by decide);refine⟨.inr ⟨by decide,by decide⟩,⟨by decide,by decide,by decide⟩,by decide,Nat.zero_le _,fun a ha=>⟨⟨by decide,by decide⟩,?_⟩⟩
 refine zhL _ (rs:=[]) zag (by decide) (fun _ h=>nomatch h) sp0 fun rs sp' x7 hl hv=>?_;have hl8:rs.length=8:=by simpa [zcf]using hl
 rw [zcc];walk_at "wp";refine⟨by decide,?_⟩;split
 ·refine⟨⟨by omega,by omega⟩,?_⟩
  rw [Int.toNat_natCast];refine zcI (fun σ=>∃x,σ=[x,some (.str (Str.ofString "abcdefghijklmnopqrstuvwxyz")),some (.ref a)]) (fun w y=>∃x,y=W.str x∧zkQ x) trivial _ [] _ ⟨none,rfl⟩ (by simp [zcf];omega) (fun w hw σ R ⟨x,hσ⟩ hR=>?_) fun ys hp=>?_
  ·obtain⟨i,hi,rfl⟩:=zfl hw;subst hσ;simp only[zec];walk_at "wp";intro p hp';obtain⟨hp1,hp2⟩:=zbl hp';have e1:zdR (List.map W.int rs) none (some (0+(i:Int)+1))=(rs.take (i+1)).map W.int:=by
    rw [show(0+(i:Int)+1)=((i+1:Nat):Int) by omega,zeB,List.map_take]
   rw [e1];refine zcI (fun σ=>∃x,σ=[x,some (.str (Str.ofString "abcdefghijklmnopqrstuvwxyz"))]) (fun w y=>∃c,y=W.str ⟨#[c]⟩∧Low c) zag _ [] _ ⟨none,rfl⟩ (by simp;omega) (fun w hw σ R ⟨x,hσ⟩ hR=>?_) fun ys hp=>?_
   ·subst hσ;obtain⟨v,hv',rfl⟩:=List.mem_map.mp hw;obtain⟨v0,v1⟩:=hv v (List.mem_of_mem_take hv');obtain⟨c,ec,lc⟩:=zsU v0 v1;simp only[zeg];walk_at "wp";rw [ec];exact⟨zak (by rw [zpW];decide),hR _ _ _ ⟨_,rfl⟩ ⟨c,rfl,lc⟩ .refl⟩
   ·obtain⟨cs,c1,c2,rfl⟩:=zjl (fun w y h=>h) hp;have c3:cs.length=i+1:=by simp at c1;omega
    rw [List.nil_append,zek];refine⟨zhl cs (by omega),hR _ _ _ ⟨_,rfl⟩ ⟨_,rfl,zid (by omega) (by omega) c2⟩ (.put .refl hp')⟩
  ·obtain⟨xs,x1,x2,rfl⟩:=zjk (fun w y h=>h) hp;rw [List.nil_append];intro b hb;obtain⟨hb1,hb2⟩:=zbl hb;exact⟨_, .put2 (.put .refl ha),h b xs hb1 (by simpa [zcf]using x1) x2⟩
 ·have hs0:0≤first / 3 % 8:=Int.emod_nonneg _ (by decide);have hs1:first / 3 % 8<8:=Int.emod_lt_of_pos _ (by decide);refine⟨⟨by decide,by decide⟩,by decide,⟨by decide,by decide⟩,by omega,Nat.zero_le _,fun b hb=>⟨⟨by omega,by omega⟩,?_⟩⟩
  obtain⟨hb1,hb2⟩:=zbl hb;rw [Int.toNat_natCast];refine zgZ (fun ws σ S'=>∃(xs:List Str) (x11:Option W),(∀x∈xs,zkQ x)∧xs.length+ws.length=many∧(∀w∈ws,∃i:Nat,i<many∧w= .int (0+i))∧S'=put (put S a (.lst (rs.map W.int))) b (.lst (xs.map W.str))∧
   σ=[some (.scr ns),some (.int k),some (.int many),some (.str (Str.ofString "abcdefghijklmnopqrstuvwxyz")),some (.int first),some (.int sp'),some (.ref a),x7,some (.int (1+first / 3 % 8)),some (.int (first / 24 % (1+first / 3 % 8))),some (.ref b),x11]) ?_ ?_ _ _ _
   ⟨[],none,(fun _ h=>nomatch h),by simp [zcf],fun w hw=>zfl hw,rfl,rfl⟩
  ·rintro w ws σ S' N ⟨xs,x11,hx,hlen,hws,rfl,rfl⟩ hN;obtain⟨j,hj,rfl⟩:=hws w List.mem_cons_self;simp only[zea];walk_at "wp";refine⟨⟨by omega,by omega⟩,?_⟩
   have ea:put (put S a (Ob.lst (List.map W.int rs))) b (Ob.lst (List.map W.str xs)) a=some (.lst (rs.map W.int)):=by rw [zaI (Ne.symm hb2),zag]
   refine zcI (fun σ=>∃x,σ=[x,some (.str (Str.ofString "abcdefghijklmnopqrstuvwxyz")),some (.ref a),some (.int (0+(j:Int))),some (.int (first / 24 % (1+first / 3 % 8)))]) (fun w y=>∃c,y=W.str ⟨#[c]⟩∧Low c) trivial _ [] _ ⟨none,rfl⟩ (by simp [zcf];omega) (fun w hw σ R ⟨x,hσ⟩ hR=>?_) fun ys hp=>?_
   ·obtain⟨i,hi,rfl⟩:=zfl hw;subst hσ;simp only[zdY];walk_at "wp";have e:=zbB (xs:=rs.map W.int) (n:=i);rw [show(i:Int)=0+(i:Int) by omega,List.getElem?_map,List.getElem?_eq_getElem (show i<rs.length by omega)]at e
    rw [zaj ea,e];dsimp only[Option.map];walk_at "wp";obtain⟨c,ec,lc⟩:=zsU (n:=(rs[i]'(by omega)+(0+(j:Int))*(if(0+(i:Int) == first / 24 % (1+first / 3 % 8))=true then 1 else 0)) % 26) (Int.emod_nonneg _ (by decide)) (Int.emod_lt_of_pos _ (by decide));rw [ec];exact⟨.inl ⟨by omega,by omega⟩,by decide,zak (by rw [zpW];decide),hR _ _ _ ⟨_,rfl⟩ ⟨c,rfl,lc⟩ .refl⟩
   ·obtain⟨cs,c1,c2,rfl⟩:=zjl (fun w y h=>h) hp;rw [zcf]at c1;have c3:(cs.length:Int)=1+first / 3 % 8:=by rw [c1];omega
    rw [List.nil_append,zek];have hz:=zid (cs:=cs) (by omega) (by omega) c2;refine⟨zhl cs (by omega),?_⟩;generalize Str.join (Str.ofString "") (cs.map fun c=>(⟨#[c]⟩:Str))=z at hz⊢;simp only[zks,zcc];simp only[List.length_cons]at hlen;have hxl:(List.map W.str xs).length<sizeLine:=zbj (by rw [List.length_map];omega);refine⟨hxl,hN _ _ _ .refl trivial ⟨xs++[z],some (.int (0+(j:Int))),fun x hx'=>?_,by rw [List.length_append,List.length_singleton];omega,fun w hw=>hws w (List.mem_cons_of_mem _ hw),by rw [List.map_append,List.map_cons,List.map_nil],rfl⟩⟩
    rcases List.mem_append.mp hx' with y |y
    ·exact hx x y
    ·rw [List.mem_singleton.mp y];exact hz
  ·rintro σ S' ⟨xs,x11,hx,hlen,hws,rfl,rfl⟩;walk_at "wp";exact⟨_, .put2 (.put .refl ha),h b xs hb1 (by simpa using hlen) hx⟩
theorem zmp{α:Type}{xs:List α}(n:Int) (h:xs≠ []):∃(i:Nat) (x:α),xs[i]? =some x∧atI xs (n % (xs.length:Int))=some x:=by
 have hp:0<xs.length:=List.length_pos_iff.mpr h;have h0:0≤n % (xs.length:Int):=Int.emod_nonneg _ (by omega);have h1:n % (xs.length:Int)<(xs.length:Int):=Int.emod_lt_of_pos _ (by omega);have hlt:(n % (xs.length:Int)).toNat<xs.length:=by omega
 refine⟨(n % (xs.length:Int)).toNat,xs[(n % (xs.length:Int)).toNat],List.getElem?_eq_getElem hlt,?_⟩;have e:=ziS (xs:=xs) (j:=(n % (xs.length:Int)).toNat) (v:=xs[(n % (xs.length:Int)).toNat]) (List.getElem?_eq_getElem hlt);rw [Int.toNat_of_nonneg h0]at e;exact e
theorem zln{ns:List Int}{k:Int}{many:Nat}{r:Nat}{S:Sto}{Q:WK}{E:Str→Sto→Prop}(h0:0≤k) (h1:k≤1000) (hm:many≤8) (h:∀(a:Addr) (ws:List Str),S a=none→ws.length=many→(∀x∈ws,zpI x)→Q (.ref a) (put S a (.lst (ws.map W.str)))):zbI (r+3) [.scr ns, .int k, .int many] S Q E:=by
 rw [zbI];walk_at "wp";refine zhh h0 h1 hm fun a ws ha hl hw=>?_;walk_at "wp";refine zcI (fun σ=>∃x,σ=[x,some (.str (Str.ofString "ABCDEFGHIJKLMNOPQRSTUVWXYZ")),some (.str (Str.ofString "abcdefghijklmnopqrstuvwxyz"))]) (fun w y=>∃x,y=W.str x∧zpI x) zag _ [] _ ⟨none,rfl⟩ (by simp;omega) (fun w hw' σ R ⟨x,hσ⟩ hR=>?_) fun ys hp=>?_
 ·subst hσ;obtain⟨z,hz,rfl⟩:=List.mem_map.mp hw';obtain⟨l1,l2,w3⟩:=hw z hz;obtain⟨c0,rest,hc⟩:∃c0 rest,z.cps.toList=c0::rest:=by
   cases e:z.cps.toList with
   |nil=>rw [e]at l1;simp at l1
   |cons c0 rest=>exact⟨c0,rest,rfl⟩
  have hlow:Low c0:=w3 c0 (by rw [hc];exact List.mem_cons_self);have hwl:z.length=rest.length+1:=by
   have:z.length=z.cps.toList.length:=by simp [Str.length]
   rw [this,hc,List.length_cons]
  rw [hc,List.length_cons]at l2;have hsl:=Txt.slice_le z (some 1) none;simp only[zdG];walk_at "wp";rw [hc];walk_at "wp";rw [zsM hlow];dsimp only;rw [zvX (by have:=hlow.2;omega)];dsimp only;refine⟨zak (by omega),zak (by rw [ztq];decide),zak (by omega),?_,hR _ _ _ ⟨_,rfl⟩ ⟨_,rfl,65+(c0 - 97),rest,?_,by omega,by have:=hlow.2;omega,by omega,fun d hd=>w3 d (by rw [hc];exact List.mem_cons_of_mem _ hd)⟩ .refl⟩
  ·show 1+(Txt.slice z (some 1) none).length≤sizeLine;exact zak (by omega)
  ·show(#[65+(c0 - 97)]++(Txt.slice z (some 1) none).cps).toList=_;rw [Array.toList_append,ziE,hc];have ez:zsX (c0::rest) (some 1) none=rest:=zlG;rw [ez];rfl
 ·obtain⟨xs,x1,x2,rfl⟩:=zjk (fun w y h=>h) hp;rw [List.nil_append];intro b hb;obtain⟨hb1,hb2⟩:=zbl hb;exact⟨_, .put2 (.put .refl ha),h b xs hb1 (by simpa [hl]using x1) x2⟩
inductive Made (hs:List Str) (ls:List Tr):Tr→Prop where
  |leaf {t:Tr}:t∈ls→Made hs ls t
  |node {h:Str}{ts:List Tr}:h∈hs→1≤ts.length→ts.length≤3→(∀t∈ts,Made hs ls t)→Made hs ls (.nd h ts)
noncomputable def zqf (ts:List Tr) (hs:List Str) (ls ts':List Tr):Prop:=
 (∃l∈ls,ts'=ts++[l])∨ ∃pre kids h,ts=pre++kids∧1≤kids.length∧kids.length≤3∧h∈hs∧ts'=pre++[.nd h kids]
theorem zpu (n:Int):∃m:Nat,m≤3∧atI [W.int 0,W.int 0,W.int 1,W.int 2,W.int 3] (n % 5)=some (W.int (m:Int)):=by
 have h0:0≤n % 5:=Int.emod_nonneg _ (by decide);have h1:n % 5<5:=Int.emod_lt_of_pos _ (by decide);have:n % 5=0∨n % 5=1∨n % 5=2∨n % 5=3∨n % 5=4:=by omega
 rcases this with e |e |e |e |e<;>rw [e]
 ·exact⟨0,by decide,rfl⟩
 ·exact⟨0,by decide,rfl⟩
 ·exact⟨1,by decide,rfl⟩
 ·exact⟨2,by decide,rfl⟩
 ·exact⟨3,by decide,rfl⟩
theorem zbb (ts us:List Tr):zaH (ts++us)=zaH ts++zaH us:=by rw [zaA,zaA,zaA,List.map_append]
theorem zfE (ts:List Tr) (n:Nat):(zaH ts).take n=zaH (ts.take n):=by rw [zaA,zaA,List.map_take]
theorem zhK (ts:List Tr) (n:Nat):(zaH ts).drop n=zaH (ts.drop n):=by rw [zaA,zaA,List.map_drop]
theorem zmO{a b c:Addr}{ts ls:List Tr}{hs:List Str}{cell:Int}{r:Nat}{S:Sto}{Q:WK}{E:Str→Sto→Prop}(ha:S a=some (.lst (zaH ts))) (hb:S b=some (.lst (hs.map W.str))) (hc:S c=some (.lst (zaH ls))) (hh:hs≠ []) (hl:ls≠ []) (hn:ts.length≤100000)
  (h:∀p ts',S p=none→zqf ts hs ls ts'→Q (.ref p) (put S p (.lst (zaH ts')))):zbL (r+1) [.ref a, .int cell, .ref b, .ref c] S Q E:=by
 rw [zbL];walk_at "wp";obtain⟨m,hm,e⟩:=zpu cell;rw [e];walk_at "wp";simp only[zaj ha,zaj hb,zaj hc];obtain⟨i,l,el,al⟩:=zmp (xs:=zaH ls) (cell / 5) (by rw [zaA];simpa using hl);obtain⟨t,et,rfl⟩:∃t,ls[i]? =some t∧l=enc t:=by
  rw [zaA,List.getElem?_map]at el;cases q:ls[i]? with
  |none=>rw [q]at el;cases el
  |some t=>rw [q]at el;exact⟨t,rfl,(Option.some.inj el).symm⟩
 obtain⟨j,hw,ej,ah⟩:=zmp (xs:=hs.map W.str) (cell / 5) (by simpa using hh);obtain⟨x,ex,rfl⟩:∃x,hs[j]? =some x∧hw= .str x:=by
  rw [List.getElem?_map]at ej;cases q:hs[j]? with
  |none=>rw [q]at ej;cases ej
  |some t=>rw [q]at ej;exact⟨t,rfl,(Option.some.inj ej).symm⟩
 have hl0:0<ls.length:=List.length_pos_iff.mpr hl;have hh0:0<hs.length:=List.length_pos_iff.mpr hh;simp only[al,ah];have leaf:0<((zaH ls).length:Int)∧1≤sizeLine∧(zaH ts).length+1≤sizeLine∧ ∀p,S p=none→ ∃S'',Sub S'' (put S p (.lst (zaH ts++[enc t])))∧Q (.ref p) S'':=by
  rw [zas,zas];refine⟨by omega,zak (by decide),zak (by omega),fun p hp=>⟨_, .refl,?_⟩⟩;have:=h p (ts++[t]) hp (.inl ⟨t,List.mem_of_getElem? et,rfl⟩);rw [zbb]at this;exact this
 refine⟨zak (by decide),by decide,⟨by decide,by decide⟩,?_⟩
 split
 ·exact leaf
 ·rename_i hm0;split
  ·exact leaf
  ·rename_i hlt;have hm1:0<m:=by
    rcases Nat.eq_zero_or_pos m with z |z
    ·rw [z]at hm0;simp at hm0
    ·exact z
   rw [zas]at hlt;have hk:m≤ts.length:=by omega
   rw [zfG m hm1,zlI m hm1,zas,zfE,zhK];simp only[zas,List.length_map];refine⟨by omega,zak (by decide),zak (by simp;omega),zak (by decide),zak (by simp;omega),fun p hp=>⟨_, .refl,?_⟩⟩;have:=h p (ts.take (ts.length - m)++[.nd x (ts.drop (ts.length - m))]) hp (.inr ⟨_,_,x,(List.take_append_drop _ _).symm,by simp;omega,by simp;omega,List.mem_of_getElem? ex,rfl⟩)
   rw [zbb]at this;exact this
theorem zja{ts:List Tr}{hs:List Str}{ls ts':List Tr}(h:zqf ts hs ls ts') (hm:∀t∈ts,Made hs ls t) (hw:∀t∈ls,t.weight=1):(∀t∈ts',Made hs ls t)∧wts ts'=wts ts+1∧ts'.length≤ts.length+1:=by
 rcases h with⟨l,hl,rfl⟩ |⟨pre,kids,h,rfl,h1,h2,h3,rfl⟩
 ·refine⟨fun t ht=>?_,?_,by simp⟩
  ·rcases List.mem_append.mp ht with z |z
   ·exact hm t z
   ·rw [List.mem_singleton.mp z];exact .leaf hl
  ·rw [zbt,zaJ,zdi,hw l hl]
 ·refine⟨fun t ht=>?_,?_,by simp only[List.length_append,List.length_cons,List.length_nil];omega⟩
  ·rcases List.mem_append.mp ht with z |z
   ·exact hm t (List.mem_append_left _ z)
   ·rw [List.mem_singleton.mp z];exact .node h3 h1 h2 fun u hu=>hm u (List.mem_append_right _ hu)
  ·rw [zbt,zbt,zaJ,zdi,zch];show wts pre+(1+wts kids+0)=_;omega
theorem zkf{cs b c:Addr}{ns:List Int}{ls:List Tr}{hs:List Str}{r:Nat}{S:Sto}{Q:WK}{E:Str→Sto→Prop}(hcs:S cs=some (.lst (ns.map W.int))) (hb:S b=some (.lst (hs.map W.str))) (hc:S c=some (.lst (zaH ls))) (hh:hs≠ []) (hl:ls≠ []) (hw:∀t∈ls,t.weight=1) (hn:ns.length≤1000)
  (h:∀t,Made hs ls t→t.weight≤2*ns.length+1→Q (enc t) S):zbF (r+2) [.ref cs, .ref b, .ref c] S Q E:=by
 rw [zbF];walk_at "wp";refine⟨Nat.zero_le _,fun a ha=>?_⟩;simp only[ziY (zhu hcs ha),zaj hcs];refine zgZ (fun ws σ S'=>∃(a:Addr) (ts:List Tr) (ms:List Int) (x4:Option W),S a=none∧S'=put S a (.lst (zaH ts))∧ws=ms.map W.int∧(∀t∈ts,Made hs ls t)∧wts ts+ms.length=ns.length∧ts.length+ms.length≤ns.length∧σ=[some (.ref cs),some (.ref b),some (.ref c),some (.ref a),x4]) ?_ ?_ _ _ _
  ⟨a,[],ns,none,ha,by simp [zaH],rfl,(fun _ h=>nomatch h),by simp [zdi],by simp,rfl⟩
 ·rintro w ws σ S' N ⟨a,ts,ms,x4,ha,rfl,ew,hm,h1,h2,rfl⟩ hN;cases ms with
  |nil=>cases ew
  |cons n ms=>
   simp only[List.map_cons,List.cons.injEq]at ew;obtain⟨rfl,rfl⟩:=ew;simp only[zed];walk_at "wp";simp only[List.length_cons]at h1 h2;refine⟨⟨by decide,by decide,by decide⟩,by decide,?_⟩
   refine zmO zag (by rw [zaI (zhu hb ha)];exact hb) (by rw [zaI (zhu hc ha)];exact hc) hh hl (by omega) fun p ts' hp hps=>?_;obtain⟨hp1,hp2⟩:=zbl hp;obtain⟨p1,p2,p3⟩:=zja hps hm hw;exact hN _ _ _ (.put2 (.put .refl ha)) (by rw [zaI (zhu hcs hp1)];exact hcs) ⟨p,ts',ms,_,hp1,rfl,rfl,p1,by omega,by omega,rfl⟩
 ·rintro σ S' ⟨a,ts,ms,x4,ha,rfl,ew,hm,h1,h2,rfl⟩;cases ms with
  |cons n ms=>cases ew
  |nil=>
   simp only[List.length_nil,Nat.add_zero]at h1 h2;walk_at "wp";rw [zas];have leaf0:∃t,ls[0]? =some t:=⟨ls[0]'(List.length_pos_iff.mpr hl),List.getElem?_eq_getElem _⟩;split
   ·obtain⟨t,et⟩:=leaf0;have e0:atI (zaH ls) 0=some (enc t):=by
     have:=zbB (xs:=zaH ls) (n:=0);rw [zaA,List.getElem?_map,et]at this;rw [zaA];exact this
    rw [ziY (zhu hc ha),zaj hc,e0];have ht:=List.mem_of_getElem? et;exact⟨S, .put .refl ha,h t (.leaf ht) (by rw [hw t ht];omega)⟩
   ·rename_i hts;have hpos:1≤ts.length:=by
     rcases Nat.eq_zero_or_pos ts.length with z |z
     ·rw [z]at hts;simp at hts
     ·exact z
    refine⟨fun m σ S'=>∃(a:Addr) (ts:List Tr),m=ts.length∧S a=none∧S'=put S a (.lst (zaH ts))∧(∀t∈ts,Made hs ls t)∧1≤ts.length∧wts ts+ts.length≤2*ns.length+1∧ts.length≤ns.length∧σ=[some (.ref cs),some (.ref b),some (.ref c),some (.ref a),x4],⟨_,a,ts,rfl,ha,rfl,hm,hpos,by omega,by omega,rfl⟩,?_⟩
    rintro m σ S' ⟨a,ts,rfl,ha,rfl,hm,hpos,h1,h2,rfl⟩;walk_at "wp";rw [zas];obtain⟨x0,ex0⟩:∃x,hs[0]? =some x:=⟨hs[0]'(List.length_pos_iff.mpr hh),List.getElem?_eq_getElem _⟩;split
    ·rename_i hlt;have hl2:2≤ts.length:=by omega
     have q1:ts[ts.length - 2]? =some (ts[ts.length - 2]'(by omega)):=List.getElem?_eq_getElem _;have q2:ts[ts.length - 1]? =some (ts[ts.length - 1]'(by omega)):=List.getElem?_eq_getElem _;generalize ts[ts.length - 2]'(by omega)=u at q1;generalize ts[ts.length - 1]'(by omega)=v at q2;have dec:ts=ts.take (ts.length - 2)++[u,v]:=by
      apply List.ext_getElem?;intro i;by_cases hi:i<ts.length - 2
      ·rw [List.getElem?_append_left (by simp;omega),List.getElem?_take_of_lt hi]
      ·rw [List.getElem?_append_right (by simp;omega),List.length_take,Nat.min_eq_left (by omega)];by_cases h0:i=ts.length - 2
       ·subst h0;rw [q1];simp
       ·by_cases h1:i=ts.length - 1
        ·subst h1;rw [q2,show ts.length - 1 - (ts.length - 2)=1 by omega];rfl
        ·rw [List.getElem?_eq_none (by omega),List.getElem?_eq_none (by simp;omega)]
     have e2:atI (zaH ts) (-2)=some (enc u):=by
      have:=zmj (xs:=zaH ts) (k:=2) (by decide) (by rw [zas];omega);rw [zas,zaA,List.getElem?_map,q1]at this;rw [zaA];exact this
     have e1:atI (zaH ts) (-1)=some (enc v):=by
      have:=zmj (xs:=zaH ts) (k:=1) (by decide) (by rw [zas];omega);rw [zas,zaA,List.getElem?_map,q2]at this;rw [zaA];exact this
     have e0:atI (hs.map W.str) 0=some (.str x0):=by
      have:=zbB (xs:=hs.map W.str) (n:=0);rw [List.getElem?_map,ex0]at this;exact this
     have ec:zdR (zaH ts) none (some (-2))=zaH (ts.take (ts.length - 2)):=by
      have:=zfG (xs:=zaH ts) 2 (by decide);rw [zas,zfE]at this;exact this
     simp only[zef];walk_at "wp";simp only[ziY (zhu hb ha),zaj hb,e0,e1,e2,ec];have hw1:wts ts=wts (ts.take (ts.length - 2))+(u.weight+(v.weight+0)):=by
      conv=>lhs;rw [dec]
      rw [zbt,zaJ,zaJ,zdi]
     refine⟨zak (by decide),zak (by decide),zak (by rw [zas];simp;omega),fun p hp=>?_⟩;obtain⟨hp1,hp2⟩:=zbl hp;refine⟨_,put S p (.lst (zaH (ts.take (ts.length - 2)++[.nd x0 [u,v]]))),?_,?_,p,_,rfl,hp1,rfl,fun t ht=>?_,by simp,?_,by simp;omega,rfl⟩
     ·simp;omega
     ·rw [zbb];exact .put2 (.put .refl ha)
     ·rcases List.mem_append.mp ht with z |z
      ·exact hm t (List.mem_of_mem_take z)
      ·rw [List.mem_singleton.mp z];refine .node (List.mem_of_getElem? ex0) (by simp) (by simp) fun w hw'=>?_;rcases List.mem_cons.mp hw' with rfl |z
       ·exact hm _ (List.mem_of_getElem? q1)
       ·rw [List.mem_singleton.mp z];exact hm _ (List.mem_of_getElem? q2)
     ·rw [zbt,zaJ,zdi,zch];show wts (ts.take (ts.length - 2))+(1+wts [u,v]+0)+_≤_;rw [zaJ,zaJ,zdi];simp;omega
    ·rename_i hlt;have hl1:ts.length=1:=by omega
     obtain⟨t,rfl⟩:=List.length_eq_one_iff.mp hl1;simp only[zaH,zjA];rw [zaJ,zdi]at h1;simp at h1;exact⟨S, .put .refl ha,h t (hm t List.mem_cons_self) (by omega)⟩
mutual
inductive Alk (S:Sto):Nat→W→W→Prop
 |str (n:Nat) (x:Str):Alk S (n+1) (.str x) (.str x)
 |int (n:Nat) (i:Int):Alk S (n+1) (.int i) (.int i)
 |tup {n:Nat}{xs ys:List W}:xs.length≤100000→Alks S n xs ys→Alk S (n+1) (.tup xs) (.tup ys)
 |lst {n:Nat}{a b:Addr}{xs ys:List W}:S a=some (.lst xs)→S b=some (.lst ys)→xs.length≤100000→Alks S n xs ys→Alk S (n+1) (.ref a) (.ref b)
inductive Alks (S:Sto):Nat→List W→List W→Prop
 |nil (n:Nat):Alks S n [] []
 |cons {n:Nat}{x y:W}{xs ys:List W}:Alk S n x y→Alks S n xs ys→Alks S n (x::xs) (y::ys)
end
theorem Alks.len{S:Sto}{n:Nat}:∀{xs ys:List W},Alks S n xs ys→xs.length=ys.length
 |_,_, .nil _=>rfl
 |_,_, .cons _ h=>congrArg (· +1) (Alks.len h)
theorem zka (n:Nat):zfe (List.replicate n (W.bl true))=some (List.replicate n true):=by
 induction n with
 |zero=>rfl
 |succ n ih=>rw [List.replicate_succ,List.replicate_succ,zfe,ih];rfl
theorem zkm (n:Nat):(List.replicate n true).all id=true:=by simp
theorem zgO{S:Sto}{n r:Nat}{E:WX}{G:Sto→Prop}{Q:List W→Sto→Prop}(hG:G S) (one:∀{x y:W}{Q:WK}{E:Str→Sto→Prop},Alk S n x y→Q (.bl true) S→zaU r [x,y] S Q E) :
  ∀{xs ys acc:List W}{p q:Option W},Alks S n xs ys→acc.length+xs.length≤1000000→Q (acc++List.replicate xs.length (.bl true)) S→zck (wGT (zav (wGN 0) (zav (wGN 1) zcb))) zfd (zcE r (zaU r)) E G Q (zcM xs ys) acc [p,q] S
 |_,_,acc,p,q, .nil _,hl,h=>by
  simp only[zcM,zck];simpa using h
 |_,_,acc,p,q, .cons a as,hl,h=>by
  simp only[zcM,zck,zcE];walk_at "wp";simp only[List.length_cons]at hl h;refine one a ⟨zbj (by omega),S, .refl,hG,zgO hG one as (by simp;omega) ?_⟩;rw [List.append_assoc];exact h
theorem zjX{S:Sto}:∀{n r:Nat}{x y:W}{Q:WK}{E:Str→Sto→Prop},n≤r+1→Alk S n x y→Q (.bl true) S→zaU (r+1) [x,y] S Q E
 |0,r,x,y,Q,E,hr,h,q=>by cases h
 |n+1,r,x,y,Q,E,hr,h,q=>by
  have one:∀{x y:W}{Q:WK}{E:Str→Sto→Prop},Alk S n x y→Q (.bl true) S→zaU r [x,y] S Q E:=fun {x y Q E} a q=>by
   cases r with
   |zero=>
    have:n=0:=by omega
    subst this;cases a
   |succ r=>exact zjX (by omega) a q
  rw [zaU];cases h with
  |str _ x=>
   walk_at "wp";simp;exact⟨S, .refl,q⟩
  |int _ i=>
   walk_at "wp";simp;exact⟨S, .refl,q⟩
  |tup hz as=>
   walk_at "wp";rw [as.len,beq_self_eq_true];refine zgO (G:=fun _=>True) trivial one as (by simp only[List.length_nil];omega) ?_;rw [List.nil_append,zka];dsimp only;rw [zkm];exact⟨S, .refl,q⟩
  |lst ha hb hz as=>
   walk_at "wp";simp only[zaj ha,zaj hb,as.len,beq_self_eq_true];walk_at "wp";refine zgO (G:=fun S'=>S' _=some (.lst _)∧S' _=some (.lst _)) ⟨ha,hb⟩ one as (by simp only[List.length_nil];omega) ?_;rw [List.nil_append,zka];dsimp only;rw [zkm];exact⟨S, .refl,q⟩
mutual
theorem zly{S:Sto}:∀(t:Tr) (n:Nat),t.depth<n→t.weight≤90000→Alk S n (enc t) (enc t)
 | .bl k,n,h,hw=>by
  obtain⟨n,rfl⟩:∃m,n=m+1:=⟨n - 1,by omega⟩
  simp only[enc];exact .int n k
 | .nd s ts,n,h,hw=>by
  simp only[Tr.depth]at h;simp only[Tr.weight]at hw;obtain⟨n,rfl⟩:∃m,n=m+2:=⟨n - 2,by omega⟩
  simp only[enc];have:=zcl ts;exact .tup (by simp [zas];omega) (.cons (.str n s) (zne ts (n+1) (by omega) (by omega)))
theorem zne{S:Sto}:∀(ts:List Tr) (n:Nat),dts ts<n→wts ts≤90000→Alks S n (zaH ts) (zaH ts)
 | [],n,h,hw=>by
  simp only[zaH];exact .nil n
 |t::ts,n,h,hw=>by
  simp only[dts]at h;simp only[wts]at hw;simp only[zaH];exact .cons (zly t n (by omega) (by omega)) (zne ts n (by omega) (by omega))
end
mutual
noncomputable def Tr.plt (p:List Int):Tr→List (List Int×Tr)
 | .bl n=>[(p, .bl n)]
 | .nd s ts=>(p, .nd s ts)::plts p 0 ts
noncomputable def plts (p:List Int) (i:Nat):List Tr→List (List Int×Tr)
 | []=>[]
 |t::ts=>t.plt (p++[(i:Int)])++plts p (i+1) ts
end
mutual
theorem ziN:∀(t:Tr) (p:List Int),(t.plt p).map (·.1)=t.pl p
 | .bl _,p=>by simp [Tr.plt,Tr.pl]
 | .nd _ ts,p=>by simp [Tr.plt,Tr.pl,zjC ts p 0]
theorem zjC:∀(ts:List Tr) (p:List Int) (i:Nat),(plts p i ts).map (·.1)=pls p i ts
 | [],p,i=>by simp [plts,pls]
 |t::ts,p,i=>by simp [plts,pls,ziN t,zjC ts p (i+1)]
end
noncomputable def zcY (p:List Int) (i:Nat):List Tr→List (List Int×Tr)
 | []=>[]
 |t::ts=>(p++[(i:Int)],t)::zcY p (i+1) ts
theorem zgp:∀(ts:List Tr) (p:List Int) (i:Nat),(zcY p i ts).flatMap (fun x=>x.2.plt x.1)=plts p i ts
 | [],p,i=>by simp [zcY,plts]
 |t::ts,p,i=>by simp [zcY,plts,zgp ts p (i+1)]
theorem zgs:∀(ts:List Tr) (p:List Int) (i:Nat) (t:Tr),zcY p i (ts++[t])=zcY p i ts++[(p++[((i+ts.length:Nat):Int)],t)]
 | [],p,i,t=>by simp [zcY]
 |u::ts,p,i,t=>by
  rw [List.cons_append,zcY,zgs ts p (i+1) t,zcY,List.cons_append,List.length_cons,show i+1+ts.length=i+(ts.length+1) by omega]
mutual
theorem zda:∀(t:Tr) (p:List Int),(t.plt p).length=t.weight
 | .bl _,p=>by simp [Tr.plt,Tr.weight]
 | .nd _ ts,p=>by simp [Tr.plt,Tr.weight,zjS ts p 0];omega
theorem zjS:∀(ts:List Tr) (p:List Int) (i:Nat),(plts p i ts).length=wts ts
 | [],p,i=>by simp [plts,wts]
 |t::ts,p,i=>by simp [plts,wts,zda t,zjS ts p (i+1)]
end
theorem zei{s:Str}{ts:List Tr}{i:Nat}{q:List Int}{u:Tr}(h:ts[i]? =some u):(Tr.nd s ts).at ((i:Int)::q)=u.at q:=by
 rw [Tr.at,if_neg (by omega)];simp [h]
mutual
theorem zgf:∀(t:Tr) (p q:List Int) (u:Tr),(q,u)∈t.plt p→ ∃r,q=p++r∧t.at r=some u∧r.length<t.depth
 | .bl n,p,q,u,h=>by
  simp only[Tr.plt,List.mem_singleton,Prod.mk.injEq]at h;obtain⟨rfl,rfl⟩:=h;exact⟨[],by simp,by simp [Tr.at],by simp [Tr.depth]⟩
 | .nd s ts,p,q,u,h=>by
  simp only[Tr.plt,List.mem_cons,Prod.mk.injEq]at h;rcases h with⟨rfl,rfl⟩ |h
  ·exact⟨[],by simp,by simp [Tr.at],by simp [Tr.depth];omega⟩
  ·obtain⟨j,v,r,h1,h2,h3,h4⟩:=zgE ts p 0 q u h;refine⟨(j:Int)::r,by rw [h2];simp,by rw [zei h1];exact h3,by simp [Tr.depth];omega⟩
theorem zgE:∀(ts:List Tr) (p:List Int) (i:Nat) (q:List Int) (u:Tr),(q,u)∈plts p i ts→ ∃(j:Nat) (v:Tr) (r:List Int),ts[j]? =some v∧q=p++[((i+j:Nat):Int)]++r∧v.at r=some u∧r.length<dts ts
 | [],p,i,q,u,h=>by simp [plts]at h
 |t::ts,p,i,q,u,h=>by
  simp only[plts,List.mem_append]at h;rcases h with h |h
  ·obtain⟨r,h1,h2,h3⟩:=zgf t _ q u h;exact⟨0,t,r,rfl,by simpa using h1,h2,by simp [dts];omega⟩
  ·obtain⟨j,v,r,h1,h2,h3,h4⟩:=zgE ts p (i+1) q u h;refine⟨j+1,v,r,by simpa using h1,?_,h3,by simp [dts];omega⟩
   rw [h2,show i+1+j=i+(j+1) by omega]
end
theorem keep{S:Sto}{a p:Addr}{o x:Ob}(f:S a=some o) (h:S p=none):put S p x a=some o:=by rw [zaI (zhu f h)];exact f
noncomputable def zaY (x:List Int×Tr):W:= .tup [zca x.1,enc x.2]
theorem ziT (m:Nat):zeY ((m+1:Nat):Int) (m+1)= .int ((m+1:Nat):Int)::zeY (m:Int) m:=by
 unfold zeY;rw [List.range_succ_eq_map,List.map_cons,List.map_map];congr 1;apply List.map_congr_left;intro i _;simp only[Function.comp,W.int.injEq];omega
theorem zfY{s:Str}{ts:List Tr}{p:List Int}(hp:p.length≤100000):∀(m:Nat) {st:List W}{a:Addr}{r:Nat}{S:Sto}{E:WX}{D:WEnds}{x0 x1 x5:Option W},m≤ts.length→S a=some (.lst st)→st.length+m≤100000→
  (∀x5,D.nx [x0,x1,some (.ref a),some (zca p),some (enc (.nd s ts)),x5] (put S a (.lst (st++((zcY p 0 (ts.take m)).reverse).map zaY))))→
  forL (wGN 5) (zbK r zaZ) E D (fun _=>True) (zeY (m:Int) m) [x0,x1,some (.ref a),some (zca p),some (enc (.nd s ts)),x5] S
 |0,st,a,r,S,E,D,x0,x1,x5,hm,ha,hl,h=>by
  have:=h x5;simp only[List.take_zero,zcY,List.reverse_nil,List.map_nil,List.append_nil,zhn ha]at this;exact this
 |m+1,st,a,r,S,E,D,x0,x1,x5,hm,ha,hl,h=>by
  rw [ziT];simp only[forL,zbK,enc];walk_at "wp";have e1:((m+1:Nat):Int) - 1=(m:Int):=by push_cast;omega
  have hlt:m<ts.length:=by omega
  have e2:atI (W.str s::zaH ts) ((m+1:Nat):Int)=some (enc ts[m]):=by
   rw [zbB,List.getElem?_cons_succ,zaA,List.getElem?_map,List.getElem?_eq_getElem hlt];rfl
  rw [e1,zkq];simp only[zaj ha,e2];refine⟨trivial,zak (by decide),zak (by omega),zak (by decide),zbj (by omega),_, .refl,?_⟩;have q:=zfY (s:=s) (ts:=ts) hp m (st:=st++[zaY (p++[(m:Int)],ts[m])]) (a:=a) (r:=r) (S:=put S a (.lst (st++[zaY (p++[(m:Int)],ts[m])]))) (E:=E) (D:=D) (x0:=x0) (x1:=x1) (x5:=some (.int ((m+1:Nat):Int))) (by omega) zag (by simp;omega) fun x5=>?_
  ·simpa only[enc,zbK,zaY]using q
  ·rw [zcc,List.append_assoc];have t:ts.take (m+1)=ts.take m++[ts[m]]:=List.take_succ_eq_append_getElem hlt;have:=h x5;rw [t,zgs,List.reverse_append,List.map_append,Nat.zero_add,List.length_take,Nat.min_eq_left (by omega)]at this;exact this
noncomputable def sw:List (List Int×Tr)→Nat
 | []=>0
 |x::xs=>x.2.weight+sw xs
theorem zdH (xs ys:List (List Int×Tr)):sw (xs++ys)=sw xs+sw ys:=by
 induction xs with
 |nil=>simp [sw]
 |cons x xs ih=>simp [sw,ih];omega
theorem zpJ (xs:List (List Int×Tr)):sw xs.reverse=sw xs:=by
 induction xs with
 |nil=>rfl
 |cons x xs ih=>rw [List.reverse_cons,zdH,ih];simp [sw];omega
theorem zjn:∀(ts:List Tr) (p:List Int) (i:Nat),sw (zcY p i ts)=wts ts
 | [],p,i=>by simp [zcY,sw,wts]
 |t::ts,p,i=>by simp [zcY,sw,wts,zjn ts p (i+1)]
theorem zml:∀xs:List (List Int×Tr),xs.length≤sw xs
 | []=>Nat.le_refl _
 |x::xs=>by have:=zml xs;have:=zdN x.2;simp [sw];omega
theorem zhx{q:List Int}{u:Tr}:∀{ts:List Tr}{p:List Int}{i:Nat},(q,u)∈zcY p i ts→q.length=p.length+1∧u∈ts
 | [],p,i,h=>by simp [zcY]at h
 |t::ts,p,i,h=>by
  simp only[zcY,List.mem_cons,Prod.mk.injEq]at h;rcases h with⟨rfl,rfl⟩ |h
  ·simp
  ·obtain⟨h1,h2⟩:=zhx h;exact⟨h1,List.mem_cons_of_mem _ h2⟩
theorem zeN{u:Tr}:∀{ts:List Tr},u∈ts→u.depth≤dts ts
 |t::ts,h=>by
  rcases List.mem_cons.mp h with rfl |h
  ·simp [dts];omega
  ·have:=zeN h;simp [dts];omega
theorem zbD{t:Tr}{r:Nat}{S:Sto}{Q:WK}{E:Str→Sto→Prop}(hw:t.weight≤10000) (hd:t.depth≤10000) (h:∀a,S a=none→Q (.ref a) (put S a (.lst ((t.plt []).map zaY)))):zaB (r+1) [enc t] S Q E:=by
 rw [zaB];walk_at "wp";refine⟨Nat.zero_le _,fun a ha=>⟨Nat.zero_le _,zak (by decide),zak (by decide),fun b hb=>?_⟩⟩;obtain⟨hb1,hb2⟩:=zbl hb;refine⟨fun m σ S'=>∃(fs st:List (List Int×Tr)) (x3 x4 x5:Option W),m=sw st∧fs++st.reverse.flatMap (fun x=>x.2.plt x.1)=t.plt []∧(∀x∈st,x.1.length+x.2.depth≤10000)∧fs.length+sw st=t.weight∧S'=put (put S a (.lst (fs.map zaY))) b (.lst (st.map zaY))∧σ=[some (enc t),some (.ref a),some (.ref b),x3,x4,x5],
  ⟨_,[],[([],t)],none,none,none,rfl,by simp,by simpa using hd,by simp [sw],rfl,rfl⟩,?_⟩
 rintro m σ S' ⟨fs,st,x3,x4,x5,rfl,hf,hp,hs,rfl,rfl⟩;walk_at "wp";have hsl:=zml st;rw [List.length_map];split
 ·rename_i hlt;obtain⟨rest,x,rfl⟩:∃rest x,st=rest++[x]:=⟨st.dropLast,st.getLast (by rintro rfl;simp at hlt),(List.dropLast_concat_getLast _).symm⟩;obtain⟨p,u⟩:=x;rw [zdH]at hs;simp only[sw,Nat.add_zero]at hs;have hpu:=hp (p,u) (by simp);simp only at hpu;have hup:=zdN u;simp only[zdu];walk_at "wp";simp only[List.map_append,List.map_cons,List.map_nil,List.length_append,List.length_map,List.length_singleton,Nat.add_sub_cancel,List.dropLast_concat];rw [List.getElem?_append_right (by simp),List.length_map,Nat.sub_self];simp only[zaY,List.getElem?_cons_zero];have ea:put (put S a (Ob.lst (List.map zaY fs))) b (Ob.lst (List.map zaY rest)) a=some (.lst (fs.map zaY)):=by rw [zaI (Ne.symm hb2),zag]
  simp only[zaj ea,zkv hb2,true_and];have en:fs.map zaY++[W.tup [zca p,enc u]]=(fs++[(p,u)]).map zaY:=by rw [List.map_append];rfl
  rw [en];refine⟨zak (by decide),zbj (by simp;omega),?_⟩;have swr:sw (rest++[(p,u)])=sw rest+u.weight:=by rw [zdH];simp [sw]
  rw [List.reverse_append,List.reverse_singleton,List.singleton_append,List.flatMap_cons]at hf;cases u with
  |bl n=>
   simp only[enc];walk_at "wp";refine⟨sw rest,_,by omega, .refl,fs++[(p, .bl n)],rest,_,_,_,rfl,?_,fun x hx=>hp x (List.mem_append_left _ hx),by simp [Tr.weight]at hs⊢;omega,rfl,rfl⟩
   rw [←hf,List.append_assoc];simp [Tr.plt]
  |nd s ts=>
   have hk:=zcl ts;have hwn:(Tr.nd s ts).weight=1+wts ts:=by simp [Tr.weight]
   have hdn:(Tr.nd s ts).depth=1+dts ts:=by simp [Tr.depth]
   have en2:enc (.nd s ts)= .tup (.str s::zaH ts):=by simp [enc]
   rw [en2];walk_at "wp";rw [zas];have e1:((ts.length+1:Nat):Int) - 1=(ts.length:Int):=by omega
   have e2:((ts.length:Int) - 0).toNat=ts.length:=by omega
   rw [e1,e2];refine⟨⟨by omega,by omega,by decide,by decide⟩,?_⟩
   have sl:=zml rest;rw [←en2];refine zfY (s:=s) (ts:=ts) (p:=p) (by omega) ts.length (st:=rest.map zaY) (Nat.le_refl _) zag (by simp;omega) fun x5=>?_;rw [zcc,List.take_length,←List.map_append];refine⟨sw (rest++(zcY p 0 ts).reverse),_,by rw [zdH,zpJ,zjn];omega, .refl,fs++[(p, .nd s ts)],rest++(zcY p 0 ts).reverse,_,_,_,rfl,?_,fun x hx=>?_,by rw [zdH,zpJ,zjn];simp;omega,rfl,rfl⟩
   ·rw [←hf,List.reverse_append,List.reverse_reverse,List.flatMap_append,zgp,List.append_assoc];simp [Tr.plt]
   ·rcases List.mem_append.mp hx with z |z
    ·exact hp x (List.mem_append_left _ z)
    ·obtain⟨q',u⟩:=x;obtain⟨k1,k2⟩:=zhx (List.mem_reverse.mp z);have:=zeN k2;simp only;omega
 ·rename_i hlt;have:st=[]:=List.eq_nil_of_length_eq_zero (by omega);subst this;simp only[List.reverse_nil,List.flatMap_nil,List.append_nil]at hf;walk_at "wp";subst hf;exact⟨_, .put .refl (by rw [zaI hb2];exact hb1),h a ha⟩
theorem zhe:∀(p:List Int) {t u:Tr},t.at p=some u→u.weight≤t.weight∧u.depth≤t.depth
 | [],t,u,h=>by
  unfold Tr.at at h;cases h;exact⟨Nat.le_refl _,Nat.le_refl _⟩
 |i::p, .bl n,u,h=>by cases h
 |i::p, .nd s ts,u,h=>by
  unfold Tr.at at h;split at h
  ·cases h
  ·split at h
   ·rename_i v ev;obtain⟨h1,h2⟩:=zhe p h;have m:=List.mem_of_getElem? ev;have:=zeR m;have:=zeN m;simp only[Tr.weight,Tr.depth];omega
   ·cases h
theorem zrB{α:Type}{xs:List α}:atI xs 2=xs[2]? :=zbB (n:=2)
theorem zbJ{α:Type}{g:WG}{e:WE}{E:WX}{G:Sto→Prop}{Q:List W→Sto→Prop}{S:Sto}(I:WSt→Prop) (k f:α→W) (hG:G S):∀(xs:List α) (acc:List W) (σ:WSt),I σ→acc.length+xs.length≤1000000→
  (∀x∈xs,∀σ (R:WSt→W→Sto→Prop),I σ→(∀σ1 S3,I σ1→Sub S S3→R σ1 (f x) S3)→g (k x) σ S fun σ1 S1=>e E σ1 S1 fun y S3=>R σ1 y S3)→
  Q (acc++xs.map f) S→zck g zfd e E G Q (xs.map k) acc σ S
 | [],acc,σ,hI,hl,step,hQ=>by simpa [zck]using hQ
 |x::xs,acc,σ,hI,hl,step,hQ=>by
  simp only[List.map_cons,zck,zfd,if_true];simp only[List.length_cons]at hl;refine step x List.mem_cons_self σ _ hI fun σ1 S3 hI1 sb=>⟨zbj (by omega),S,sb,hG,zbJ I k f hG xs (acc++[f x]) σ1 hI1 (by simp;omega) (fun y hy=>step y (List.mem_cons_of_mem _ hy)) ?_⟩;simpa using hQ
theorem zds{α:Type}{g:WG}{c:WT}{e:WE}{E:WX}{G:Sto→Prop}{Q:List W→Sto→Prop}{S:Sto}(I:WSt→Prop) (k f:α→W) (P:α→Bool) (hG:G S):∀(xs:List α) (acc:List W) (σ:WSt),I σ→acc.length+xs.length≤1000000→
  (∀x∈xs,∀σ (R1:WSt→W→Sto→Prop) (R0:WSt→Sto→Prop),I σ→(P x=true→ ∀σ1 S3,I σ1→Sub S S3→R1 σ1 (f x) S3)→(P x=false→ ∀σ1 S3,I σ1→Sub S S3→R0 σ1 S3)→
   g (k x) σ S fun σ1 S1=>c E σ1 S1 fun b S2=>if b=true then e E σ1 S2 fun y S3=>R1 σ1 y S3 else R0 σ1 S2)→
  Q (acc++(xs.filter P).map f) S→zck g c e E G Q (xs.map k) acc σ S
 | [],acc,σ,hI,hl,step,hQ=>by simpa [zck]using hQ
 |x::xs,acc,σ,hI,hl,step,hQ=>by
  simp only[List.map_cons,zck];simp only[List.length_cons]at hl;refine step x List.mem_cons_self σ _ _ hI (fun hp σ1 S3 hI1 sb=>⟨zbj (by omega),S,sb,hG,zds I k f P hG xs (acc++[f x]) σ1 hI1 (by simp;omega) (fun y hy=>step y (List.mem_cons_of_mem _ hy)) ?_⟩)
   fun hp σ1 S3 hI1 sb=>⟨S,sb,hG,zds I k f P hG xs acc σ1 hI1 (by omega) (fun y hy=>step y (List.mem_cons_of_mem _ hy)) ?_⟩
  ·rw [List.filter_cons_of_pos hp]at hQ;simpa using hQ
  ·rw [List.filter_cons_of_neg (by rw [hp];simp)]at hQ;exact hQ
noncomputable def Tr.isBl:Tr→Bool
 | .bl _=>true
 | .nd _ _=>false
noncomputable def Tr.num:Tr→Int
 | .bl n=>n
 | .nd _ _=>0
noncomputable def Tr.bls (t:Tr):List (List Int×Tr):=(t.plt []).filter fun x=>x.2.isBl
theorem znw{t:Tr}{x:List Int×Tr}(h:x∈t.bls):t.at x.1=some x.2∧x.2= .bl x.2.num∧x.1.length<t.depth:=by
 obtain⟨h1,h2⟩:=List.mem_filter.mp h;obtain⟨r,h3,h4,h5⟩:=zgf t [] x.1 x.2 h1;simp at h3;subst h3;refine⟨h4,?_,h5⟩;obtain⟨p,u⟩:=x;cases u with
 |bl n=>rfl
 |nd s ts=>simp [Tr.isBl]at h2
theorem ziK (t:Tr):t.bls.length≤t.weight:=by
 unfold Tr.bls;exact Nat.le_trans (List.length_filter_le ..) (by rw [zda];exact Nat.le_refl _)
theorem zkY{t:Tr}{r:Nat}{S:Sto}{Q:WK}{E:Str→Sto→Prop}(hr:t.depth+4≤r) (hw:t.weight≤90000) (h:∀a,S a=none→Q (.ref a) (put S a (.lst (t.bls.map fun x=>zca x.1)))):zbw (r+1) [enc t] S Q E:=by
 have hd:=zal t;obtain⟨r,rfl⟩:∃r',r=r'+3:=⟨r - 3,by omega⟩
 rw [zbw];walk_at "wp";refine zie (by omega) (by omega) (by omega) fun a ha=>?_;walk_at "wp";rw [←ziN,List.map_map];refine zds (fun σ=>∃x,σ=[x,some (enc t)]) (fun x=>zca x.1) (fun x=>zca x.1) (fun x=>x.2.isBl) ?_ (t.plt []) [] _ ⟨none,rfl⟩ (by simp [zda];omega) (fun x hx σ R1 R0 hI h1 h0=>?_) ?_
 ·exact zag
 ·obtain⟨y,rfl⟩:=hI;obtain⟨q,h3,h4,h5⟩:=zgf t [] x.1 x.2 hx;simp at h3;subst h3;walk_at "wp";refine ziM h4 ?_;obtain⟨p,u⟩:=x;cases u with
  |bl n=>
   simp only[enc];walk_at "wp";exact h1 rfl _ _ ⟨_,rfl⟩ .refl
  |nd s ts=>
   simp only[enc];walk_at "wp";exact h0 rfl _ _ ⟨_,rfl⟩ .refl
 ·rw [List.nil_append];intro b hb;obtain⟨hb1,hb2⟩:=zbl hb;exact⟨_, .put2 (.put .refl ha),h b hb1⟩
theorem zib{t:Tr}{r:Nat}{S:Sto}{Q:WK}{E:Str→Sto→Prop}(hr:t.depth+6≤r) (hw:t.weight≤90000) (h:∀a,S a=none→Q (.ref a) (put S a (.lst (t.bls.map fun x=> .int x.2.num)))):zdQ (r+1) [enc t] S Q E:=by
 obtain⟨r,rfl⟩:∃r',r=r'+3:=⟨r - 3,by omega⟩
 rw [zdQ];walk_at "wp";refine zkY (by omega) hw fun a ha=>?_;walk_at "wp";have hl:=ziK t;refine zbJ (fun σ=>∃x,σ=[x,some (enc t)]) (fun x=>zca x.1) (fun x=> .int x.2.num) ?_ t.bls [] _ ⟨none,rfl⟩ (by simp;omega) (fun x hx σ R hI hR=>?_) ?_
 ·exact zag
 ·obtain⟨y,rfl⟩:=hI;obtain⟨h1,h2,h3⟩:=znw hx;simp only[zgq];walk_at "wp";refine ziM h1 ?_;rw [h2];simp only[enc];exact hR _ _ ⟨_,rfl⟩ .refl
 ·rw [List.nil_append];intro b hb;obtain⟨hb1,hb2⟩:=zbl hb;exact⟨_, .put2 (.put .refl ha),h b hb1⟩
noncomputable def Tr.put:Tr→List Int→Tr→Tr
 |_,[],u=>u
 | .bl n,_::_,_=> .bl n
 | .nd s ts,i::p,u=>match ts[i.toNat]? with
  |some v=> .nd s (ts.set i.toNat (v.put p u))
  |none=> .nd s ts
theorem zeU (t:Tr):t.at []=some t:=by cases t<;>rfl
theorem zjz (t u:Tr):t.put [] u=u:=by cases t<;>rfl
theorem zjd{s:Str}{ts:List Tr}{i:Int}{p:List Int}{u:Tr}(h:(Tr.nd s ts).at (i::p)=some u):∃v,0≤i∧ts[i.toNat]? =some v∧v.at p=some u:=by
 unfold Tr.at at h;split at h
 ·cases h
 ·split at h
  ·exact⟨_,by omega, ‹_›,h⟩
  ·cases h
theorem zjO:∀(q:List Int) {D t:Tr}(r:List Int),D.at q=some t→D.at (q++r)=t.at r
 | [],D,t,r,h=>by rw [zeU]at h;cases h;rfl
 |i::q, .bl n,t,r,h=>by cases h
 |i::q, .nd s ts,t,r,h=>by
  obtain⟨v,h0,h1,h2⟩:=zjd h;rw [List.cons_append];have e:(i:Int)=((i.toNat:Nat):Int):=(Int.toNat_of_nonneg h0).symm;rw [e,zei h1];exact zjO q r h2
theorem zjG{s:Str}{ts:List Tr}{i:Int}{p:List Int}{u v:Tr}(h:ts[i.toNat]? =some v):(Tr.nd s ts).put (i::p) u= .nd s (ts.set i.toNat (v.put p u)):=by
 rw [Tr.put,h]
theorem zpZ:∀(q:List Int) {D t:Tr}(u:Tr),D.at q=some t→(D.put q u).at q=some u
 | [],D,t,u,h=>by rw [zjz,zeU]
 |i::q, .bl n,t,u,h=>by cases h
 |i::q, .nd s ts,t,u,h=>by
  obtain⟨v,h0,h1,h2⟩:=zjd h;have hl:=(List.getElem?_eq_some_iff.mp h1).1;rw [zjG h1];have e:(i:Int)=((i.toNat:Nat):Int):=(Int.toNat_of_nonneg h0).symm
  conv=>lhs;rw [e]
  rw [zei (u:=v.put q u) (by rw [Int.toNat_natCast,List.getElem?_set_self hl])];exact zpZ q u h2
theorem zfj{S:Sto}{p:List Int}:eqF S 60 (zca p) (.tup [])=some p.isEmpty:=by
 cases p<;>rfl
theorem zjq{u:Tr}:∀(p:List Int) {t v:Tr}{r:Nat}{S:Sto}{Q:WK}{E:Str→Sto→Prop},t.at p=some v→p.length≤r→t.weight≤90000→p.length≤90000→Q (enc (t.put p u)) S→zbE (r+1) [enc t,zca p,enc u] S Q E
 | [],t,v,r,S,Q,E,h,hr,hw,hp,q=>by
  rw [zjz]at q;rw [zbE];walk_at "wp";rw [zfj];exact⟨Nat.zero_le _,S, .refl,q⟩
 |i::p, .bl n,v,r,S,Q,E,h,hr,hw,hp,q=>by cases h
 |i::p, .nd s ts,v,r,S,Q,E,h,hr,hw,hp,q=>by
  obtain⟨w,h0,h1,h2⟩:=zjd h;obtain⟨j,rfl⟩:∃j:Nat,i=j:=⟨i.toNat,(Int.toNat_of_nonneg h0).symm⟩;rw [Int.toNat_natCast]at h1;rw [zjG (by rw [Int.toNat_natCast];exact h1),Int.toNat_natCast]at q;simp only[List.length_cons]at hr hp;simp only[Tr.weight]at hw;have hk:=zcl ts;have hl:=(List.getElem?_eq_some_iff.mp h1).1;have hm:=zeR (List.mem_of_getElem? h1);obtain⟨r,rfl⟩:∃r',r=r'+1:=⟨r - 1,by omega⟩
  rw [zbE];walk_at "wp";rw [zfj];simp only[List.isEmpty_cons,Bool.false_eq_true,if_false];have ep:zca ((j:Int)::p)= .tup (.int j::p.map W.int):=rfl;simp only[ep,enc];walk_at "wp";rw [show((j:Int)+1)=((j+1:Nat):Int) by omega,zbB,List.getElem?_cons_succ,zaA,List.getElem?_map,h1]
  dsimp only[Option.map];rw [show((j+1:Nat):Int)+1=((j+2:Nat):Int) by omega,zeB,zkg]
  refine⟨Nat.zero_le _,zjq p (r:=r) h2 (by omega) (by omega) (by omega) ?_⟩;simp only[List.take_succ_cons,List.drop_succ_cons,←zaA,zfE,zhK];walk_at "wp";simp only[zas,List.length_take,List.length_drop];refine⟨zak (by decide),zak (by omega),zak (by simp only[List.length_append,zas,List.length_take,List.length_cons,List.length_nil,List.length_drop];omega),S, .refl,?_⟩;have e:enc (.nd s (ts.set j (w.put p u)))= .tup (.str s::(zaH (ts.take j)++[enc (w.put p u)]++zaH (ts.drop (j+1)))):=by
   simp only[enc];rw [List.set_eq_take_append_cons_drop,if_pos hl,zbb];simp [zaH]
  rw [e]at q;simpa using q
mutual
noncomputable def Tr.same:Tr→Tr→Bool
 | .bl n, .bl m=>n == m
 | .nd s ts, .nd z us=>s == z&&zfh ts us
 |_,_=>false
noncomputable def zfh:List Tr→List Tr→Bool
 | [],[]=>true
 |t::ts,u::us=>t.same u&&zfh ts us
 |_,_=>false
end
mutual
theorem zjF:∀(t u:Tr),t.same u=true↔t=u
 | .bl n, .bl m=>by simp [Tr.same]
 | .nd s ts, .nd z us=>by simp [Tr.same,ziD ts us]
 | .bl n, .nd z us=>by simp [Tr.same]
 | .nd s ts, .bl m=>by simp [Tr.same]
theorem ziD:∀(ts us:List Tr),zfh ts us=true↔ts=us
 | [],[]=>by simp [zfh]
 |t::ts,u::us=>by simp [zfh,zjF t u,ziD ts us]
 | [],u::us=>by simp [zfh]
 |t::ts,[]=>by simp [zfh]
end
theorem zhF (t:Tr):t.same t=true:=(zjF t t).mpr rfl
theorem zpV{S:Sto}{n:Nat}{xs ys:List W}:eqF S (n+1) (.tup xs) (.tup ys)=zcJ (eqF S n) xs ys:=Eq.trans (b:=zcJ (eqF S n) xs ys) rfl rfl
theorem zmh{S:Sto}{n:Nat}{x y:Str}:eqF S (n+1) (.str x) (.str y)=some (x == y):=Eq.trans (b:=some (x == y)) rfl rfl
theorem zku{S:Sto}{n:Nat}{x y:Int}:eqF S (n+1) (.int x) (.int y)=some (x == y):=Eq.trans (b:=some (x == y)) rfl rfl
theorem zuA{S:Sto}{n:Nat}{x:Int}{ys:List W}:eqF S (n+1) (.int x) (.tup ys)=some false:=Eq.trans (b:=some false) rfl rfl
theorem ztp{S:Sto}{n:Nat}{x:Int}{ys:List W}:eqF S (n+1) (.tup ys) (.int x)=some false:=Eq.trans (b:=some false) rfl rfl
mutual
theorem zrJ{S:Sto}:∀(n:Nat) (t u:Tr),t.depth<n→eqF S n (enc t) (enc u)=some (t.same u)
 |0,t,u,h=>by omega
 |n+1, .bl k, .bl m,h=>by simp only[enc,zku,Tr.same]
 |n+1, .nd s ts, .nd z us,h=>by
  simp only[Tr.depth]at h;obtain⟨n,rfl⟩:∃m,n=m+1:=⟨n - 1,by omega⟩
  simp only[enc,zpV,zcJ,zmh,Tr.same];rw [zqc (n+1) ts us (by omega)]
 |n+1, .bl k, .nd z us,h=>by simp only[enc,zuA,Tr.same]
 |n+1, .nd s ts, .bl m,h=>by simp only[enc,ztp,Tr.same]
theorem zqc{S:Sto}:∀(n:Nat) (ts us:List Tr),dts ts<n→zcJ (eqF S n) (zaH ts) (zaH us)=some (zfh ts us)
 |n,[],[],h=>by simp only[zaH,zcJ,zfh]
 |n,[],u::us,h=>by simp only[zaH,zcJ,zfh]
 |n,t::ts,[],h=>by simp only[zaH,zcJ,zfh]
 |n,t::ts,u::us,h=>by
  simp only[dts]at h;simp only[zaH,zcJ,zfh,zrJ n t u (by omega),zqc n ts us (by omega)]
end
theorem zhB (j:Int) (m:Nat):zeF j (m+1)= .int j::zeF (j+1) m:=by
 unfold zeF;rw [List.range_succ_eq_map,List.map_cons,List.map_map];congr 1
 ·simp
 ·apply List.map_congr_left;intro i _;simp only[Function.comp,W.int.injEq];omega
theorem zhm{α:Type}{xs:List α}{i:Int}(h0:0≤i) (h1:i<xs.length):∃x,atI xs i=some x∧x∈xs:=by
 have q:=zbB (xs:=xs) (n:=i.toNat);rw [Int.toNat_of_nonneg h0,List.getElem?_eq_getElem (by omega)]at q;exact⟨_,q,List.getElem_mem ..⟩
theorem zcG{ss:List Str}{i:Int}(h0:0≤i) (h1:i<ss.length):∃x,atI (ss.map W.str) i=some (.str x)∧x∈ss:=by
 obtain⟨w,h,m⟩:=zhm (xs:=ss.map W.str) h0 (by simpa using h1);obtain⟨x,hx,rfl⟩:=List.mem_map.mp m;exact⟨x,h,hx⟩
theorem znu{P:W→W→Prop}(hP:∀w y,P w y→ ∃n,y=W.int n):∀{ws ys:List W},Paired P ws ys→ ∃ns:List Int,ns.length=ws.length∧ys=ns.map W.int
 |_,_, .nil=>⟨[],rfl,rfl⟩
 |_,_, .cons h t=>by
  obtain⟨n,rfl⟩:=hP _ _ h;obtain⟨ns,h1,rfl⟩:=znu hP t;exact⟨n::ns,by simp [h1],rfl⟩
theorem zqL{g:WG}{b:WS}{E:WX}{D:WEnds}(I:Nat→WSt→Sto→Prop) (n:Nat)
  (step:∀i,i<n→ ∀σ S (N:WSt→Sto→Prop),I i σ S→(∀σ' S' S'',Sub S'' S'→I (i+1) σ' S''→N σ' S')→g (.int i) σ S fun σ1 S1=>b E { D with nx:=N,ct:=N,bk:=D.nx } σ1 S1)
  (done:∀σ S,I n σ S→D.nx σ S) {σ:WSt}{S:Sto}(h:I 0 σ S):forL g b E D (fun _=>True) (zeF 0 n) σ S:=by
 refine zgZ (fun ws σ S=>∃i,i≤n∧ws=zeF (i:Int) (n - i)∧I i σ S) ?_ ?_ _ _ _ ⟨0,Nat.zero_le _,rfl,h⟩
 ·rintro w ws σ S N ⟨i,hi,e,hI⟩ hN;obtain⟨m,hm⟩:∃m,n - i=m+1:=by
   rcases Nat.eq_zero_or_pos (n - i) with z |z
   ·rw [z]at e;cases e
   ·exact⟨n - i - 1,by omega⟩
  rw [hm,zhB]at e;cases e;exact step i (by omega) σ S N hI fun σ' S' S'' sb h'=>hN σ' S' S'' sb trivial ⟨i+1,by omega,by rw [show n - (i+1)=m by omega];push_cast;rfl,h'⟩
 ·rintro σ S ⟨i,hi,e,hI⟩;have:n - i=0:=by
   rcases Nat.eq_zero_or_pos (n - i) with z |z
   ·exact z
   ·obtain⟨m,hm⟩:∃m,n - i=m+1:=⟨n - i - 1,by omega⟩
    rw [hm,zhB]at e;cases e
  rw [show i=n by omega]at hI
  exact done σ S hI
theorem zgu:∀(p q:List Int) {D u v:Tr},D.at p=some v→ ¬p <+:q→ ¬q <+:p→(D.put p u).at q=D.at q
 | [],q,D,u,v,h,h1,h2=>absurd List.nil_prefix h1
 |i::p,[],D,u,v,h,h1,h2=>absurd List.nil_prefix h2
 |i::p,j::q, .bl n,u,v,h,h1,h2=>by cases h
 |i::p,j::q, .nd s ts,u,v,h,h1,h2=>by
  obtain⟨w,h0,e1,e2⟩:=zjd h;rw [zjG e1];have hl:=(List.getElem?_eq_some_iff.mp e1).1;by_cases hij:i=j
  ·subst hij;have ei:(i:Int)=((i.toNat:Nat):Int):=(Int.toNat_of_nonneg h0).symm
   conv=>lhs;rw [ei]
   conv=>rhs;rw [ei]
   rw [zei (u:=w.put p u) (by rw [Int.toNat_natCast,List.getElem?_set_self hl]),zei e1];refine zgu p q e2 (fun z=>h1 ?_) fun z=>h2 ?_
   ·exact List.cons_prefix_cons.mpr ⟨rfl,z⟩
   ·exact List.cons_prefix_cons.mpr ⟨rfl,z⟩
  ·by_cases hj:0≤j
   ·rw [Tr.at,Tr.at,if_neg (by omega),if_neg (by omega),List.getElem?_set_ne (by omega)]
   ·rw [Tr.at,Tr.at,if_pos (by omega),if_pos (by omega)]
theorem apart{D:Tr}{p q:List Int}{n m:Int}(hp:D.at p=some (.bl n)) (hq:D.at q=some (.bl m)) (h:p≠q):¬p <+:q:=by
 rintro⟨r,rfl⟩;rw [zjO p r hp]at hq;cases r with
 |nil=>simp at h
 |cons i r=>cases hq
mutual
theorem zpF:∀(t:Tr) (p:List Int),(t.plt p).Pairwise fun x y=>x.1≠y.1
 | .bl n,p=>by simp [Tr.plt]
 | .nd s ts,p=>by
  simp only[Tr.plt,List.pairwise_cons];refine⟨fun y hy=>?_,zny ts p 0⟩;obtain⟨j,v,r,_,h2,_,_⟩:=zgE ts p 0 y.1 y.2 hy;intro e;have:=congrArg List.length (e.trans h2);simp at this
theorem zny:∀(ts:List Tr) (p:List Int) (i:Nat),(plts p i ts).Pairwise fun x y=>x.1≠y.1
 | [],p,i=>by simp [plts]
 |t::ts,p,i=>by
  simp only[plts,List.pairwise_append];refine⟨zpF t _,zny ts p (i+1),fun x hx y hy=>?_⟩;obtain⟨r,h1,_,_⟩:=zgf t _ x.1 x.2 hx;obtain⟨j,v,r',_,h2,_,_⟩:=zgE ts p (i+1) y.1 y.2 hy;intro e;rw [h1,h2,List.append_assoc,List.append_assoc]at e;have:=List.append_cancel_left e;simp at this;omega
end
theorem zmZ:∀{ts:List Tr}{i:Nat}{v u:Tr},ts[i]? =some v→wts (ts.set i u)+v.weight=wts ts+u.weight
 | [],i,v,u,h=>by simp at h
 |t::ts,0,v,u,h=>by
  simp at h;subst h;rw [List.set_cons_zero,zaJ,zaJ];omega
 |t::ts,i+1,v,u,h=>by
  have:=zmZ (ts:=ts) (i:=i) (v:=v) (u:=u) (by simpa using h);rw [List.set_cons_succ,zaJ,zaJ];omega
theorem zeL:∀(p:List Int) {D u v:Tr},D.at p=some v→(D.put p u).weight+v.weight=D.weight+u.weight
 | [],D,u,v,h=>by rw [zeU]at h;cases h;rw [zjz];omega
 |i::p, .bl n,u,v,h=>by cases h
 |i::p, .nd s ts,u,v,h=>by
  obtain⟨w,h0,e1,e2⟩:=zjd h;rw [zjG e1];have h1:=zeL p (u:=u) e2;have h2:=zmZ (u:=w.put p u) e1;simp only[Tr.weight];omega
theorem zdO{g:WG}{b:WS}{E:WX}{D:WEnds}{G:Sto→Prop}{w:W}{ws:List W}{σ:WSt}{S:Sto}(h:∀N:WSt→Sto→Prop,(∀σ S S',Sub S' S→G S'→forL g b E D G ws σ S'→N σ S)→g w σ S fun σ1 S1=>b E { D with nx:=N,ct:=N,bk:=D.nx } σ1 S1):forL g b E D G (w::ws) σ S:=h _ fun σ S S' a c d=>⟨S',a,c,d⟩
theorem ztS{s z:Str}{ls us:List Tr}{r:Nat}{S:Sto}{Q:WK}{E:Str→Sto→Prop}(h:Q (.bl (s == z&&ls.length == us.length)) S):zby (r+1) [enc (.nd s ls),enc (.nd z us)] S Q E:=by
 rw [zby];simp only[enc];walk_at "wp";cases e:s == z with
 |false=>
  rw [e]at h;exact⟨_, .refl,h⟩
 |true=>
  rw [e]at h;walk_at "wp";refine⟨_, .refl,?_⟩;have:(((zaH ls).length+1:Nat):Int)=((zaH us).length+1:Nat)↔ls.length=us.length:=by rw [zas,zas];omega
  have e2:((((zaH ls).length+1:Nat):Int) == ((zaH us).length+1:Nat))=(ls.length == us.length):=by
   rw [Bool.eq_iff_iff,beq_iff_eq,beq_iff_eq];exact this
  rw [e2];simpa using h
mutual
noncomputable def Tr.ren:Tr→Nat→Tr×Nat
 | .bl _,k=>(.bl k,k+1)
 | .nd s ts,k=>(.nd s (ziF ts k).1,(ziF ts k).2)
noncomputable def ziF:List Tr→Nat→List Tr×Nat
 | [],k=>([],k)
 |t::ts,k=>((t.ren k).1::(ziF ts (t.ren k).2).1,(ziF ts (t.ren k).2).2)
end
mutual
theorem zpN:∀(t:Tr) (k:Nat),k≤(t.ren k).2∧(t.ren k).2≤k+t.weight
 | .bl _,k=>by simp [Tr.ren,Tr.weight]
 | .nd s ts,k=>by have:=zno ts k;simp only[Tr.ren,Tr.weight];omega
theorem zno:∀(ts:List Tr) (k:Nat),k≤(ziF ts k).2∧(ziF ts k).2≤k+wts ts
 | [],k=>by simp [ziF,wts]
 |t::ts,k=>by
  have:=zpN t k;have:=zno ts (t.ren k).2;simp only[ziF,wts];omega
end
mutual
theorem zgj:∀(t:Tr) (k:Nat),(t.ren k).1.weight=t.weight
 | .bl _,k=>by simp [Tr.ren,Tr.weight]
 | .nd s ts,k=>by have:=zeo ts k;simp only[Tr.ren,Tr.weight];omega
theorem zeo:∀(ts:List Tr) (k:Nat),wts (ziF ts k).1=wts ts
 | [],k=>by simp [ziF,wts]
 |t::ts,k=>by
  have:=zgj t k;have:=zeo ts (t.ren k).2;simp only[ziF,wts];omega
end
theorem ziA{r:Nat}{a:Addr}{E:WX}{D:WEnds}{x0:Option W}:∀(ts:List Tr)
  (one:∀t∈ts,∀{k:Nat}{S:Sto}{Q:WK}{E:Str→Sto→Prop},Q (.tup [enc (t.ren k).1, .int ((t.ren k).2:Nat)]) S→zaz r [enc t, .int k] S Q E)
  {k:Nat}{S:Sto}{acc:List W}{x3 x4:Option W},S a=some (.lst acc)→acc.length+ts.length≤100000→
  (∀x3 x4,D.nx [x0,some (.int ((ziF ts k).2:Nat)),some (.ref a),x3,x4] (put S a (.lst (acc++zaH (ziF ts k).1))))→
  forL (wGN 3) (zbW r (zaz r)) E D (fun _=>True) (zaH ts) [x0,some (.int k),some (.ref a),x3,x4] S
 | [],one,k,S,acc,x3,x4,ha,hl,h=>by
  have q:=h x3 x4;simp only[ziF,zaH,List.append_nil,zhn ha]at q;simpa [zaH,forL]using q
 |t::ts,one,k,S,acc,x3,x4,ha,hl,h=>by
  simp only[List.length_cons]at hl;simp only[zaH];refine zdO fun N hN=>?_;simp only[zbW];walk_at "wp";refine one t List.mem_cons_self ?_;walk_at "wp";simp only[zaj ha,true_and];refine⟨zbj (by omega),hN _ _ _ .refl trivial (ziA ts (fun u hu=>one u (List.mem_cons_of_mem _ hu)) zag (by simp;omega) fun x3 x4=>?_)⟩;rw [zcc,List.append_assoc];have:=h x3 x4;simpa only[ziF,zaH,List.cons_append,List.nil_append]using this
theorem zkh:∀(d:Nat) {t:Tr}{k r:Nat}{S:Sto}{Q:WK}{E:Str→Sto→Prop},t.depth≤d→d≤r+1→t.weight≤90000→Q (.tup [enc (t.ren k).1, .int ((t.ren k).2:Nat)]) S→zaz (r+1) [enc t, .int k] S Q E
 |0,t,k,r,S,Q,E,hd,hr,hw,h=>by have:=zdt t;omega
 |d+1, .bl n,k,r,S,Q,E,hd,hr,hw,h=>by
  rw [zaz];simp only[enc];walk_at "wp";simp only[Tr.ren,enc]at h;refine⟨zak (by decide),_, .refl,?_⟩
  push_cast at h
  exact h
 |d+1, .nd s ts,k,r,S,Q,E,hd,hr,hw,h=>by
  simp only[Tr.depth]at hd;simp only[Tr.weight]at hw;have hk:=zcl ts;have hk2:=zcl (ziF ts k).1;rw [zeo]at hk2;rw [zaz];simp only[enc];walk_at "wp";refine⟨Nat.zero_le _,fun a ha=>?_⟩;refine ziA ts (fun t ht {k S Q E} q=>?_) (acc:=[]) zag (by simp;omega) fun x3 x4=>?_
  ·have hdx:=zeN ht;have hwx:=zeR ht;have:=zdt t;obtain⟨r,rfl⟩:∃r',r=r'+1:=⟨r - 1,by omega⟩
   exact zkh d (by omega) (by omega) (by omega) q
  ·walk_at "wp";have ec:zdR (W.str s::zaH ts) none (some 1)=[.str s]:=by
    rw [show(1:Int)=((1:Nat):Int) from rfl,zeB];rfl
   rw [ec];simp only[Tr.ren,enc]at h;refine⟨zak (by simp [zas];omega),zak (by decide),S, .put .refl ha,?_⟩;simpa using h
noncomputable def zeW (h0 h1:Str):List Tr:=[.nd h0 [], .bl 0, .nd h1 [], .bl 0]
theorem zqT{cs b:Addr}{ns:List Int}{hs:List Str}{r:Nat}{S:Sto}{Q:WK}{E:Str→Sto→Prop}(hcs:S cs=some (.lst (ns.map W.int))) (hb:S b=some (.lst (hs.map W.str))) (hh:2≤hs.length) (hn:ns.length≤40) (hr:100≤r)
  (h:∀(h0 h1:Str) (t:Tr),h0∈hs→h1∈hs→Made hs (zeW h0 h1) t→t.isBl=false→t.weight≤2*ns.length+2→Q (.tup [enc (t.ren 0).1, .int ((t.ren 0).2:Nat)]) S):zcn (r+1) [.ref cs, .ref b] S Q E:=by
 obtain⟨h0,e0,m0⟩:=zcG (ss:=hs) (i:=0) (by decide) (by omega);obtain⟨h1,e1,m1⟩:=zcG (ss:=hs) (i:=1) (by decide) (by omega);obtain⟨r,rfl⟩:∃r',r=r'+2:=⟨r - 2,by omega⟩
 rw [zcn];walk_at "wp";simp only[zaj hb,e0,e1];refine⟨zak (by decide),zak (by decide),zak (by decide),fun c hc=>?_⟩;have fc:put S c (.lst [.tup [.str h0], .int 0, .tup [.str h1], .int 0]) c=some (.lst (zaH (zeW h0 h1))):=by rw [zag];simp [zeW,zaH,enc]
 have fcs:=keep (x:= .lst [.tup [.str h0], .int 0, .tup [.str h1], .int 0]) hcs hc;have fb:=keep (x:= .lst [.tup [.str h0], .int 0, .tup [.str h1], .int 0]) hb hc;refine zkf (hs:=hs) fcs fb fc (by rintro rfl;simp at hh) (by simp [zeW]) (by simp [zeW,Tr.weight,wts]) (by omega) fun t hm hw=>?_;have fin:∀u:Tr,Made hs (zeW h0 h1) u→u.isBl=false→u.weight≤2*ns.length+2→zaz (r+2) [enc u,W.int 0] (put S c (.lst [.tup [.str h0], .int 0, .tup [.str h1], .int 0])) (fun w S'=>∃S'',Sub S'' S'∧Q w S'') (fun c S'=>E c S'):=fun u hu hb' hw'=>by
  have:=zal u;exact zkh (k:=0) u.depth (Nat.le_refl _) (by omega) (by omega) ⟨S, .put .refl hc,h h0 h1 u m0 m1 hu hb' hw'⟩
 cases t with
 |bl n=>
  simp only[enc];walk_at "wp";simp only[zaj fb,e0];refine⟨zak (by decide),?_⟩;have:=fin (.nd h0 [.bl 0]) (.node m0 (by simp) (by simp) fun t ht=>by
   rw [List.mem_singleton.mp ht];exact .leaf (by simp [zeW])) rfl (by simp [Tr.weight,wts])
  simpa only[enc,zaH]using this
 |nd s ts=>
  have:=fin (.nd s ts) hm rfl (by omega);simp only[enc]at this⊢;walk_at "wp";exact this
noncomputable def zdX (c:Nat):Bool:=decide (97≤c)&&decide (c≤122)
noncomputable def small (xs:List Nat):Bool:=xs.all zdX
noncomputable def zeD (xs:List Nat):Bool:=decide (1≤xs.length)&&(decide (xs.length≤8)&&(decide (65≤xs.headD 0)&&(decide (xs.headD 0≤90)&&small (xs.drop 1))))
theorem zng{s:Str}{a:Nat}(hs:s.cps.toList=[a]) (c:Nat):(!decide ((⟨#[c]⟩:Str).cps.toList<s.cps.toList))=decide (a≤c):=by
 rw [hs];show(!decide (([c]:List Nat)< [a]))=_;by_cases h:a≤c
 ·rw [decide_eq_true h,decide_eq_false (fun z=>by have:=(zjI c a).mp z;omega)];rfl
 ·rw [decide_eq_false h,decide_eq_true ((zjI c a).mpr (by omega))];rfl
theorem zmC{s:Str}{a:Nat}(hs:s.cps.toList=[a]) (c:Nat):(!decide (s.cps.toList<(⟨#[c]⟩:Str).cps.toList))=decide (c≤a):=by
 rw [hs];show(!decide (([a]:List Nat)< [c]))=_;by_cases h:c≤a
 ·rw [decide_eq_true h,decide_eq_false (fun z=>by have:=(zjI a c).mp z;omega)];rfl
 ·rw [decide_eq_false h,decide_eq_true ((zjI a c).mpr (by omega))];rfl
theorem ztx:(Str.ofString "a").cps.toList=[97]:=by decide +kernel
theorem zuc:(Str.ofString "z").cps.toList=[122]:=by decide +kernel
theorem zts:(Str.ofString "A").cps.toList=[65]:=by decide +kernel
theorem zsC:(Str.ofString "Z").cps.toList=[90]:=by decide +kernel
theorem zvr (c:Nat):(!(Builtin.Str.occurrences (Str.ofString "abcdefghijklmnopqrstuvwxyz") ⟨#[c]⟩ 0 (Str.ofString "abcdefghijklmnopqrstuvwxyz").length 1).isEmpty)=zdX c:=by
 rw [StrLaws.found_one,znd];unfold zdX;rw [←Bool.decide_and];apply decide_eq_decide.mpr;rw [List.mem_range'_1];omega
theorem zwb (c:Nat):(!(Builtin.Str.occurrences (Str.ofString "ABCDEFGHIJKLMNOPQRSTUVWXYZ") ⟨#[c]⟩ 0 (Str.ofString "ABCDEFGHIJKLMNOPQRSTUVWXYZ").length 1).isEmpty)=(decide (65≤c)&&decide (c≤90)):=by
 rw [StrLaws.found_one,zlL,←Bool.decide_and];apply decide_eq_decide.mpr;rw [List.mem_range'_1];omega
theorem zjW (x:Str):(Txt.slice x (some 1) none).cps.toList=x.cps.toList.drop 1:=by
 rw [ziE];unfold zsX;rw [HT.sIx_none];have ez:HT.sIx x.cps.toList.length 0 (some 1)=min 1 x.cps.toList.length:=HT.sIx_nat x.cps.toList.length 0 1;rw [ez];by_cases h:1≤x.cps.toList.length
 ·rw [Nat.min_eq_left h,List.take_of_length_le (by rw [List.length_drop];exact Nat.le_refl _)]
 ·have:x.cps.toList=[]:=List.eq_nil_of_length_eq_zero (by omega);rw [this];rfl
theorem zfD (x:Str):x.length=x.cps.toList.length:=by simp [Str.length]
theorem zdw (bs:List Bool):zfe (bs.map W.bl)=some bs:=by
 induction bs with
 |nil=>rfl
 |cons b bs ih=>rw [List.map_cons,zfe,ih];rfl
theorem zeI{α:Type}(xs:List α) (f:α→Bool):((xs.map f).all _root_.id)=xs.all f:=by rw [List.all_map];rfl
theorem zmg{x:Str}{r:Nat}{S:Sto}{Q:WK}{E:Str→Sto→Prop}(hx:x.length≤1000) (h:Q (.bl (small x.cps.toList)) S):zaQ (r+1) [.str x] S Q E:=by
 rw [zfD]at hx;rw [zaQ];walk_at "wp";unfold zft;refine zbJ (fun σ=>∃x,σ=[x]) (fun c=> .str ⟨#[c]⟩) (fun c=> .bl (zdX c)) ?_ x.cps.toList [] _ ⟨none,rfl⟩ (by rw [List.length_nil];omega) (fun c hc σ R hI hR=>?_) ?_
 ·exact trivial
 ·obtain⟨y,rfl⟩:=hI;simp only[zbY];walk_at "wp";rw [zng ztx,zmC zuc];unfold zdX at hR;cases e:decide (97≤c) with
  |false=>rw [e]at hR;exact hR _ _ ⟨_,rfl⟩ .refl
  |true=>rw [e]at hR;exact hR _ _ ⟨_,rfl⟩ .refl
 ·have e:x.cps.toList.map (fun c=>W.bl (zdX c))=(x.cps.toList.map zdX).map W.bl:=by rw [List.map_map];rfl
  rw [List.nil_append,e,zdw];dsimp only;rw [zeI];exact⟨_, .refl,h⟩
theorem zoH{x:Str}{r:Nat}{S:Sto}{Q:WK}{E:Str→Sto→Prop}(hx:x.length≤1000) (h:Q (.bl (zeD x.cps.toList)) S):zcO (r+2) [.str x] S Q E:=by
 have hsl:=Txt.slice_le x (some 1) none;have hxl:=zfD x;rw [zcO];walk_at "wp";unfold zeD at h;rw [←hxl]at h;cases e1:decide (1≤x.length) with
 |false=>
  rw [e1]at h;have:¬1≤x.length:=by simpa using e1
  have e1':decide ((1:Int)≤(x.length:Int))=false:=by simp;omega
  rw [e1'];walk_at "wp";exact⟨zak (by omega),_, .refl,h⟩
 |true=>
  rw [e1]at h;have h1:1≤x.length:=by simpa using e1
  have e1':decide ((1:Int)≤(x.length:Int))=true:=by simp;omega
  rw [e1'];refine⟨zak (by omega),?_⟩;walk_at "wp";cases e2:decide (x.length≤8) with
  |false=>
   rw [e2]at h;have:¬x.length≤8:=by simpa using e2
   have e2':decide ((x.length:Int)≤8)=false:=by simp;omega
   rw [e2'];exact⟨_, .refl,h⟩
  |true=>
   rw [e2]at h;have h2:x.length≤8:=by simpa using e2
   have e2':decide ((x.length:Int)≤8)=true:=by simp;omega
   rw [e2'];walk_at "wp";obtain⟨c,rest,hc⟩:∃c rest,x.cps.toList=c::rest:=by
    cases e:x.cps.toList with
    |nil=>rw [e]at hxl;simp at hxl;omega
    |cons c rest=>exact⟨c,rest,rfl⟩
   rw [hc]at h⊢;replace h:Q (W.bl (decide (65≤c)&&(decide (c≤90)&&small rest))) S:=h;walk_at "wp";rw [zng zts];refine⟨zak (by omega),?_⟩;cases e3:decide (65≤c) with
   |false=>rw [e3]at h;exact⟨_, .refl,h⟩
   |true=>
    rw [e3]at h;walk_at "wp";rw [zmC zsC];cases e4:decide (c≤90) with
    |false=>rw [e4]at h;exact⟨_, .refl,h⟩
    |true=>
     rw [e4]at h;walk_at "wp";refine⟨zak (by omega),zmg (by omega) ⟨_, .refl,?_⟩⟩;rw [zjW,hc];exact h
theorem znI{x:Str}{r:Nat}{S:Sto}{Q:WK}{E:Str→Sto→Prop}(hx:x.length≤1000) (h:Q (.bl (zeD x.cps.toList)) S):zbo (r+1) [.str x] S Q E:=by
 have hsl:=Txt.slice_le x (some 1) none;have hxl:=zfD x;rw [zbo];walk_at "wp";unfold zeD at h;rw [←hxl]at h;have hz:x.length≤sizeLine:=zak (by omega);refine⟨hz,?_⟩;by_cases h1:1≤x.length
 ·rw [decide_eq_true h1]at h;rw [if_neg (by omega)];refine⟨hz,?_⟩;by_cases h2:x.length≤8
  ·rw [decide_eq_true h2]at h;rw [if_neg (by omega)];obtain⟨c,rest,hc⟩:∃c rest,x.cps.toList=c::rest:=by
    cases e:x.cps.toList with
    |nil=>rw [e]at hxl;simp at hxl;omega
    |cons c rest=>exact⟨c,rest,rfl⟩
   rw [hc]at h⊢;replace h:Q (W.bl (decide (65≤c)&&(decide (c≤90)&&small rest))) S:=h;refine⟨hz,?_⟩;walk_at "wp";rw [zwb];cases e3:decide (65≤c) with
   |false=>rw [e3]at h;exact⟨_, .refl,h⟩
   |true=>
    rw [e3]at h;cases e4:decide (c≤90) with
    |false=>rw [e4]at h;exact⟨_, .refl,h⟩
    |true=>
     rw [e4]at h;simp only[Bool.true_and,Bool.not_true,Bool.false_eq_true,if_false]at h⊢;refine⟨hz,?_⟩;unfold zft;rw [zjW,hc,List.drop_succ_cons,List.drop_zero];have hrl:rest.length≤1000:=by have:=congrArg List.length hc;rw [List.length_cons]at this;omega
     refine zbJ (fun σ=>∃x,σ=[x]) (fun c=> .str ⟨#[c]⟩) (fun c=> .bl (zdX c)) ?_ rest [] _ ⟨none,rfl⟩ (by rw [List.length_nil];omega) (fun c hc σ R hI hR=>?_) ?_
     ·exact trivial
     ·obtain⟨y,rfl⟩:=hI;simp only[zcK];walk_at "wp";rw [zvr];exact hR _ _ ⟨_,rfl⟩ .refl
     ·have e:rest.map (fun c=>W.bl (zdX c))=(rest.map zdX).map W.bl:=by rw [List.map_map];rfl
      rw [List.nil_append,e,zdw];dsimp only;rw [zeI];exact⟨_, .refl,h⟩
  ·rw [decide_eq_false h2]at h;rw [if_pos (by omega)];exact⟨_, .refl,h⟩
 ·rw [decide_eq_false h1]at h;rw [if_pos (by omega)];exact⟨_, .refl,h⟩
theorem zhZ{t:Tr}{r:Nat}{S:Sto}{Q:WK}{E:Str→Sto→Prop}(hw:t.weight≤90000) (h:Q (.int t.weight) S):zdP (r+2) [enc t] S Q E:=by
 rw [zdP];walk_at "wp";refine⟨zak (by decide),fun a ha=>?_⟩;refine⟨fun m σ S'=>∃(ts:List Tr) (k:Nat) (x3:Option W),m=wts ts∧k+wts ts=t.weight∧S'=put S a (.lst (zaH ts))∧σ=[some (enc t),some (.int k),some (.ref a),x3],⟨_,[t],0,none,rfl,by simp [wts],by simp [zaH],rfl⟩,?_⟩
 rintro m σ S' ⟨ts,k,x3,rfl,hk,rfl,rfl⟩;walk_at "wp";have hl:=zcl ts;rcases List.eq_nil_or_concat ts with rfl |⟨us,u,rfl⟩
 ·simp only[zaH,List.isEmpty_nil];walk_at "wp";simp only[wts,Nat.add_zero]at hk;subst hk;exact⟨_, .put .refl ha,h⟩
 ·have hwu:=zch u;simp only[List.concat_eq_append,zbt,zaJ,zdi,Nat.add_zero]at hk hl⊢;have hne:(zaH (us++[u])).isEmpty=false:=by rw [zbb];simp [zaH]
  rw [hne];simp only[zfZ];walk_at "wp";rw [zbb,List.length_append];simp only[zaH,List.length_singleton,Nat.add_sub_cancel,zas,List.dropLast_concat];rw [List.getElem?_append_right (by rw [zas];exact Nat.le_refl _),zas,Nat.sub_self];dsimp only[List.getElem?_cons_zero];refine zfm ?_;walk_at "wp";simp only[zas,←zbb];have hkl:=zcl u.kids;have hul:=zcl us;refine⟨zak (by omega),wts (us++u.kids),_,?_, .refl,us++u.kids,k+1,some (enc u),rfl,?_,rfl,?_⟩
  ·rw [zbt];omega
  ·rw [zbt];omega
  ·push_cast;rfl
noncomputable def Tr.nums (t:Tr):List Int:=t.bls.map fun x=>x.2.num
theorem zey (t:Tr):t.nums.length≤t.weight:=by unfold Tr.nums;rw [List.length_map];exact ziK t
theorem zmT (t:Tr):(t.bls.map fun x=>W.int x.2.num)=t.nums.map W.int:=by unfold Tr.nums;rw [List.map_map];rfl
theorem zep{t:Tr}{r:Nat}{S:Sto}{Q:WK}{E:Str→Sto→Prop}(hw:t.weight≤10000) (h:∀a,S a=none→Q (.ref a) (put S a (.lst (t.nums.map W.int)))):zaW (r+2) [enc t] S Q E:=by
 have hd:=zal t;have hpl:=zda t [];rw [zaW];walk_at "wp";refine zbD hw (by omega) fun a ha=>?_;walk_at "wp";refine zds (fun σ=>∃x y,σ=[x,y]) zaY (fun x=> .int x.2.num) (fun x=>x.2.isBl) ?_ (t.plt []) [] _ ⟨none,none,rfl⟩ (by rw [List.length_nil];omega) (fun x hx σ R1 R0 hI h1 h0=>?_) ?_
 ·exact zag
 ·obtain⟨y,z,rfl⟩:=hI;obtain⟨p,u⟩:=x;cases u with
  |bl n=>
   simp only[zaY,enc];walk_at "wp";simp only[zdk];walk_at "wp";exact h1 rfl _ _ ⟨_,_,rfl⟩ .refl
  |nd s ts=>
   simp only[zaY,enc];walk_at "wp";exact h0 rfl _ _ ⟨_,_,rfl⟩ .refl
 ·rw [List.nil_append];have e:(List.filter (fun x=>x.2.isBl) (t.plt [])).map (fun x=>W.int x.2.num)=t.nums.map W.int:=zmT t;rw [e];intro b hb;obtain⟨hb1,hb2⟩:=zbl hb;exact⟨_, .put2 (.put .refl ha),h b hb1⟩
theorem zlz{S:Sto}{n:Nat}:∀xs ys:List Int,zcJ (eqF S (n+1)) (xs.map W.int) (ys.map W.int)=some (xs == ys)
 | [],[]=>rfl
 | [],y::ys=>rfl
 |x::xs,[]=>rfl
 |x::xs,y::ys=>by
  simp only[List.map_cons,zcJ,zku,zlz xs ys];rfl
theorem znt{S:Sto}{n:Nat}{a b:Addr}{xs ys:List Int}(ha:S a=some (.lst (xs.map W.int))) (hb:S b=some (.lst (ys.map W.int))):eqF S (n+2) (.ref a) (.ref b)=some (xs == ys):=by
 simp only[eqF,ha,hb];exact zlz (n:=n) xs ys
theorem zjt{S:Sto}{x:Int}:∀xs:List Int,inF S (.int x) (xs.map W.int)=some (xs.contains x)
 | []=>rfl
 |y::ys=>by
  simp only[List.map_cons,inF,zku,zjt ys,List.contains_cons];rw [show(y == x)=(x == y) from by rw [Bool.eq_iff_iff,beq_iff_eq,beq_iff_eq];exact eq_comm]
noncomputable def zci (n:Nat):List Int:=(List.range n).map fun(i:Nat)=>(i:Int)
theorem zhR (n:Nat):zeF 0 n=(zci n).map W.int:=by
 unfold zeF zci;rw [List.map_map];apply List.map_congr_left;intro i _;simp
noncomputable def okTurn (x:Str) (l r:Tr):Bool:=zeD x.cps.toList&&(!l.isBl&&(decide (l.weight≤12)&&(decide (r.weight≤12)&&((l.nums == zci l.nums.length)&&r.nums.all fun n=>l.nums.contains n))))
theorem zit{x:Str}{l u:Tr}{r:Nat}{S:Sto}{Q:WK}{E:Str→Sto→Prop}(hx:x.length≤1000) (hl:l.weight≤80) (hu:u.weight≤80) (hr:100≤r) (h:Q (.bl (okTurn x l u)) S):zbZ (r+1) [.tup [.str x,enc l,enc u]] S Q E:=by
 obtain⟨r,rfl⟩:∃r',r=r'+4:=⟨r - 4,by omega⟩
 have hdl:=zal l;have hdu:=zal u;have hnl:=zey l;have hnu:=zey u;unfold okTurn at h;rw [zbZ];walk_at "wp";simp only[show atI [W.str x,enc l,enc u] 1=some (enc l) from rfl,zrB,List.getElem?_cons_succ,List.getElem?_cons_zero];refine zoH hx ?_;walk_at "wp";cases e1:zeD x.cps.toList with
 |false=>
  rw [e1]at h;walk_at "wp";exact⟨_, .refl,h⟩
 |true=>
  rw [e1]at h;walk_at "wp";cases l with
  |bl n=>
   simp only[enc];walk_at "wp";exact⟨_, .refl,h⟩
  |nd s ls=>
   have en:enc (.nd s ls)= .tup (.str s::zaH ls):=by simp [enc]
   have hb:(Tr.nd s ls).isBl=false:=rfl;rw [hb]at h;generalize hl':Tr.nd s ls=l at *;rw [en];walk_at "wp";rw [←en];clear en hb hl';refine zhZ (by omega) ?_;walk_at "wp";by_cases w1:l.weight≤12
   ·rw [decide_eq_true w1]at h;rw [if_neg (by omega)];refine zhZ (by omega) ?_;walk_at "wp";by_cases w2:u.weight≤12
    ·rw [decide_eq_true w2]at h;rw [if_neg (by omega)];refine zib (by omega) (by omega) fun a ha=>?_;rw [zmT];walk_at "wp";rw [List.length_map,Int.toNat_natCast,zhR];refine⟨⟨by omega,by omega⟩,fun b hb=>?_⟩
     rw [znt (xs:=l.nums) (ys:=zci l.nums.length) (keep zag hb) zag];have fa:=keep (x:=Ob.lst ((zci l.nums.length).map W.int)) (zag (S:=S) (a:=a) (o:=Ob.lst (l.nums.map W.int))) hb;have sub:Sub S (put (put S a (Ob.lst (l.nums.map W.int))) b (Ob.lst ((zci l.nums.length).map W.int))):= .put (.put .refl ha) (zbl hb).1;generalize put (put S a (Ob.lst (l.nums.map W.int))) b (Ob.lst ((zci l.nums.length).map W.int))=S2 at fa sub⊢;cases e3:l.nums == zci l.nums.length with
     |false=>
      rw [e3]at h;walk_at "wp";exact⟨_,sub,h⟩
     |true=>
      rw [e3]at h;walk_at "wp";refine zib (by omega) (by omega) fun c hc=>?_;rw [zmT];walk_at "wp";refine zbJ (fun σ=>∃x,σ=[x,some (.ref a)]) W.int (fun n=> .bl (l.nums.contains n)) ?_ u.nums [] _ ⟨none,rfl⟩ (by rw [List.length_nil];omega) (fun n hn σ R hI hR=>?_) ?_
      ·exact zag
      ·obtain⟨y,rfl⟩:=hI;simp only[zeh];walk_at "wp";rw [zaj (keep fa hc),zjt];exact hR _ _ ⟨_,rfl⟩ .refl
      ·have e:u.nums.map (fun n=>W.bl (l.nums.contains n))=(u.nums.map fun n=>l.nums.contains n).map W.bl:=by rw [List.map_map];rfl
       rw [List.nil_append,e,zdw];dsimp only;rw [zeI];exact⟨_, .trans sub (.put .refl hc),h⟩
    ·rw [decide_eq_false w2]at h;rw [if_pos (by omega)];exact⟨_, .refl,h⟩
   ·rw [decide_eq_false w1]at h;rw [if_pos (by omega)];exact⟨_, .refl,h⟩
theorem znk (x:Str) (l r:Tr):okTurn x l r=(!l.isBl&&((l.nums == zci l.nums.length)&&(zeD x.cps.toList&&(decide (l.weight≤12)&&(decide (r.weight≤12)&&r.nums.all fun n=>l.nums.contains n))))):=by
 unfold okTurn;cases zeD x.cps.toList<;>cases l.isBl<;>cases decide (l.weight≤12)<;>cases decide (r.weight≤12)<;>cases(l.nums == zci l.nums.length)<;>rfl
theorem znm{x:Str}{l u:Tr}{r:Nat}{S:Sto}{Q:WK}{E:Str→Sto→Prop}(hx:x.length≤1000) (hl:l.weight≤80) (hu:u.weight≤80) (h:Q (.bl (okTurn x l u)) S):zbq (r+3) [.tup [.str x,enc l,enc u]] S Q E:=by
 have hdl:=zal l;have hdu:=zal u;have hnl:=zey l;have hnu:=zey u;have hp1:=zda l [];have hp2:=zda u [];rw [znk]at h;rw [zbq];walk_at "wp";refine zep (by omega) fun a ha=>?_;have fa:put S a (Ob.lst (l.nums.map W.int)) a=some (.lst (l.nums.map W.int)):=zag;have sub:Sub S (put S a (Ob.lst (l.nums.map W.int))):= .put .refl ha;generalize put S a (Ob.lst (l.nums.map W.int))=S1 at fa sub⊢;walk_at "wp";cases l with
 |bl n=>
  simp only[enc];walk_at "wp";exact⟨_,sub,h⟩
 |nd s ls=>
  have en:enc (.nd s ls)= .tup (.str s::zaH ls):=by simp [enc]
  have hb:(Tr.nd s ls).isBl=false:=rfl;rw [hb]at h;generalize hl':Tr.nd s ls=l at *;rw [en];walk_at "wp";rw [←en];clear en hb hl';rw [zaj fa,List.length_map,Int.toNat_natCast,zhR];refine⟨⟨by omega,by omega⟩,fun b hb=>?_⟩
  rw [znt (xs:=l.nums) (ys:=zci l.nums.length) (keep fa hb) zag];replace fa:=keep (x:=Ob.lst ((zci l.nums.length).map W.int)) fa hb;replace sub:Sub S (put S1 b (Ob.lst ((zci l.nums.length).map W.int))):= .trans sub (.put .refl hb);generalize put S1 b (Ob.lst ((zci l.nums.length).map W.int))=S2 at fa sub⊢;cases e3:l.nums == zci l.nums.length with
  |false=>
   rw [e3]at h;walk_at "wp";exact⟨_,sub,h⟩
  |true=>
   rw [e3]at h;walk_at "wp";refine znI hx ?_;walk_at "wp";cases e1:zeD x.cps.toList with
   |false=>
    rw [e1]at h;walk_at "wp";exact⟨_,sub,h⟩
   |true=>
    rw [e1]at h;walk_at "wp";refine zbD (by omega) (by omega) fun c hc=>?_;walk_at "wp";rw [List.length_map,hp1];by_cases w1:l.weight≤12
    ·rw [decide_eq_true w1]at h;rw [if_neg (by omega)];refine zbD (by omega) (by omega) fun d hd=>?_;replace fa:=keep (x:=Ob.lst ((u.plt []).map zaY)) (keep (x:=Ob.lst ((l.plt []).map zaY)) fa hc) hd;replace sub:=Sub.trans sub (.trans (.put .refl hc) (.put (o:=Ob.lst ((u.plt []).map zaY)) .refl hd));walk_at "wp";generalize put (put S2 c (Ob.lst ((l.plt []).map zaY))) d (Ob.lst ((u.plt []).map zaY))=S3 at fa sub⊢;rw [List.length_map,hp2];by_cases w2:u.weight≤12
     ·rw [decide_eq_true w2]at h;rw [if_neg (by omega)];refine zep (by omega) fun f hf=>?_;walk_at "wp";refine zbJ (fun σ=>∃x,σ=[x,some (.ref a)]) W.int (fun n=> .bl (l.nums.contains n)) ?_ u.nums [] _ ⟨none,rfl⟩ (by rw [List.length_nil];omega) (fun n hn σ R hI hR=>?_) ?_
      ·exact zag
      ·obtain⟨y,rfl⟩:=hI;simp only[zcP];walk_at "wp";rw [zaj (keep fa hf),zjt];exact hR _ _ ⟨_,rfl⟩ .refl
      ·have e:u.nums.map (fun n=>W.bl (l.nums.contains n))=(u.nums.map fun n=>l.nums.contains n).map W.bl:=by rw [List.map_map];rfl
       rw [List.nil_append,e,zdw];dsimp only;rw [zeI];exact⟨_, .trans sub (.put .refl hf),h⟩
     ·rw [decide_eq_false w2]at h;rw [if_pos (by omega)];exact⟨_,sub,h⟩
    ·rw [decide_eq_false w1]at h;rw [if_pos (by omega)];exact⟨_, .trans sub (.put .refl hc),h⟩
theorem zhz{n:Nat}{E:WX}{S:Sto}{G:Sto→Prop}{Q:List W→Sto→Prop}{e:WE}{σ0:List (Option W)}(hG:G S) (hn:n≤100)
  (one:∀(i:Nat) (x:Option W) (R:W→Sto→Prop),i<n→(∀m:Int,R (.int m) S)→e E (some (.int (0+i))::σ0) S R) (h:∀cs:List Int,cs.length=n→Q (cs.map W.int) S) :
  zck (wGN 0) zfd e E G Q (zeF 0 n) [] (none::σ0) S:=by
 refine zcI (fun σ=>∃x,σ=x::σ0) (fun w y=>∃n,y=W.int n) hG _ [] _ ⟨none,rfl⟩ (by simp [zcf];omega) (fun w hw σ R ⟨x,hσ⟩ hR=>?_) fun ys hp=>?_
 ·obtain⟨i,hi,rfl⟩:=zfl hw;subst hσ;walk_at "wp";exact one i x _ hi fun m=>hR _ _ _ ⟨_,rfl⟩ ⟨m,rfl⟩ .refl
 ·obtain⟨cs,c1,rfl⟩:=znu (fun w y h=>h) hp;rw [zcf]at c1;rw [List.nil_append];exact h cs c1
noncomputable def zgJ (n:Nat):List Tr:=(List.range n).map fun(i:Nat)=> .bl (i:Int)
theorem zlV (n:Nat):zeF 0 n=zaH (zgJ n):=by
 unfold zeF zgJ;rw [zaA,List.map_map];apply List.map_congr_left;intro i _;simp [enc]
theorem zkM{k:Int}{ns:List Int}{b:Addr}{hs:List Str}{title:Str}{r:Nat}{S:Sto}{Q:WK}{E:Str→Sto→Prop}(h0:0≤k) (h1:k≤1000) (hb:S b=some (.lst (hs.map W.str))) (hh:2≤hs.length) (hr:150≤r)
  (h:∀(t rt:Tr) (g0 g1 g2 g3:Str),g0∈hs→g1∈hs→g2∈hs→g3∈hs→Made hs (zeW g0 g1) t→t.isBl=false→t.weight≤12→rt.weight≤9→Made hs ([.nd g2 [], .nd g3 []]++(zgJ (t.ren 0).2++zgJ (t.ren 0).2)) rt→Q (.tup [.str title,enc (t.ren 0).1,enc rt]) S):zbx (r+1) [.scr ns, .int k, .ref b, .str title] S Q E:=by
 obtain⟨r,rfl⟩:∃r',r=r'+3:=⟨r - 3,by omega⟩
 rw [zbx];walk_at "wp";refine⟨⟨by decide,by decide⟩,?_⟩
 refine zhz trivial (by decide) (fun i x R hi hR=>?_) fun cs hcs=>?_
 ·simp only[zdl];walk_at "wp";exact zeO (by omega) (by omega) fun n _ _=>hR n
 intro p hp;have fb:=keep (x:=Ob.lst (cs.map W.int)) hb hp;have fp:put S p (Ob.lst (cs.map W.int)) p=some (.lst (cs.map W.int)):=zag;have sub:Sub S (put S p (Ob.lst (cs.map W.int))):= .put .refl hp;generalize put S p (Ob.lst (cs.map W.int))=S1 at fb fp sub⊢;have hcs':cs.length=5:=hcs;refine zqT fp fb hh (by omega) (by omega) fun g0 g1 t m0 m1 hm hnb hw=>?_;have hle:=zpN t 0;obtain⟨g0',e0,m0'⟩:=zcG (ss:=hs) (i:=0) (by decide) (by omega);obtain⟨g1',e1,m1'⟩:=zcG (ss:=hs) (i:=1) (by decide) (by omega);walk_at "wp";simp only[zaj fb,e0,e1];rw [Int.toNat_natCast];have ef:(List.replicate (Int.toNat 2) (zeF 0 (t.ren 0).2)).flatten=zaH (zgJ (t.ren 0).2++zgJ (t.ren 0).2):=by
  rw [zbb,←zlV];simp [List.replicate]
 rw [ef];have hbl:(zgJ (t.ren 0).2).length=(t.ren 0).2:=by simp [zgJ]
 refine⟨zak (by decide),zak (by decide),zak (by decide),⟨by omega,by omega⟩,⟨by decide,by decide,zak (by rw [zcf,show Int.toNat 2=2 from rfl];omega)⟩,zak (by rw [zas,List.length_append,hbl];omega),fun c hc=>?_⟩
 have fc:put S1 c (Ob.lst (W.tup [W.str g0']::W.tup [W.str g1']::zaH (zgJ (t.ren 0).2++zgJ (t.ren 0).2))) c=some (.lst (zaH ([.nd g0' [], .nd g1' []]++(zgJ (t.ren 0).2++zgJ (t.ren 0).2)))):=by
  rw [zag,zbb [Tr.nd g0' [],Tr.nd g1' []]];simp [zaH,enc]
 replace fb:=keep (x:=Ob.lst (W.tup [W.str g0']::W.tup [W.str g1']::zaH (zgJ (t.ren 0).2++zgJ (t.ren 0).2))) fb hc;replace sub:Sub S (put S1 c (Ob.lst (W.tup [W.str g0']::W.tup [W.str g1']::zaH (zgJ (t.ren 0).2++zgJ (t.ren 0).2)))):= .trans sub (.put .refl hc);generalize put S1 c (Ob.lst (W.tup [W.str g0']::W.tup [W.str g1']::zaH (zgJ (t.ren 0).2++zgJ (t.ren 0).2)))=S2 at fb fc sub⊢;refine⟨⟨by decide,by decide⟩,?_⟩
 refine zhz trivial (by decide) (fun i x R hi hR=>?_) fun ds hds=>?_
 ·simp only[zdo];walk_at "wp";exact zeO (by omega) (by omega) fun n _ _=>hR n
 intro q hq;have hds':ds.length=4:=hds;refine zkf (hs:=hs) zag (keep fb hq) (keep fc hq) (by rintro rfl;simp at hh) (by simp) (fun u hu=>?_) (by omega) fun rt hmr hwr=>?_
 ·rcases List.mem_append.mp hu with z |z
  ·simp at z;rcases z with rfl |rfl<;>simp [Tr.weight,wts]
  ·have:u∈zgJ (t.ren 0).2:=(List.mem_append.mp z).elim id id;obtain⟨i,_,rfl⟩:=List.mem_map.mp this;simp [Tr.weight]
 ·exact⟨zak (by decide),S, .trans sub (.put .refl hq),h t rt g0 g1 g0' g1' m0 m1 m0' m1' hm hnb (by omega) (by omega) hmr⟩
theorem zgd{t:Tr}{m:Int}{s:Str}{r:Nat}{S:Sto}{Q:WK}{E:Str→Sto→Prop}(hw:t.weight≤80) (hm:m≤20) (h:∀u:Tr,u.weight≤t.weight+21→Q (enc u) S):zbi (r+2) [enc t, .int m, .str s] S Q E:=by
 have hd:=zal t;have hpl:=zda t [];rw [zbi];walk_at "wp";refine zbD (by omega) (by omega) fun a ha=>?_;walk_at "wp";rw [List.length_map,hpl];have hwp:=zdN t;split
 ·exact⟨S, .put .refl ha,h t (by omega)⟩
 ·rename_i hneg;have ef:(List.replicate (m - (t.weight:Int) - 1).toNat [W.tup [W.str s]]).flatten=zaH (List.replicate (m - (t.weight:Int) - 1).toNat (.nd s [])):=by
   rw [zaA,List.map_replicate];simp [enc,zaH]
  rw [ef,zas,List.length_replicate];refine⟨zak (by decide),zak (by decide),zak (by decide),⟨by simp,by omega,by omega,zak (by omega)⟩,zak (by omega),S, .put .refl ha,?_⟩
  have:=h (.nd s (t::List.replicate (m - (t.weight:Int) - 1).toNat (.nd s []))) (by
   simp only[Tr.weight,zaJ];have:∀n:Nat,wts (List.replicate n (Tr.nd s []))=n:=fun n=>by
    induction n with
    |zero=>simp [wts]
    |succ n ih=>rw [List.replicate_succ,zaJ,ih];simp [Tr.weight,wts];omega
   rw [this];omega)
  simpa only[enc,zaH]using this
theorem zmX{D:Tr}{ps:List (List Int)}(h:∀p∈ps,∃n,D.at p=some (.bl n)) {q:List Int}(hq:q∈ps) (m:Int):(∀p∈ps,∃n,(D.put q (.bl m)).at p=some (.bl n))∧(D.put q (.bl m)).weight=D.weight:=by
 obtain⟨n,e⟩:=h q hq;refine⟨fun p hp=>?_,?_⟩
 ·by_cases hpq:q=p
  ·subst hpq;exact⟨m,zpZ q _ e⟩
  ·obtain⟨k,ek⟩:=h p hp;exact⟨k,by rw [zgu _ _ e (apart e ek hpq) (apart ek e (Ne.symm hpq)),ek]⟩
 ·have:=zeL q (u:= .bl m) e;simp only[Tr.weight]at this;omega
theorem zgt{t:Tr}{ps:List (List Int)}(hps:∀p∈ps,p.length≤90) {way:Int}(hw0:0≤way) (hw1:way≤3) {b:Addr}{r:Nat}{E:WX}{D:WEnds}{S:Sto}{x0 x2:Option W}(hb:S b=some (.lst (ps.map zca))) (hr:100≤r) (hw:t.weight≤90) (hpl:ps.length≤90)
  (h:∀(u:Tr) (x5 x6 x7:Option W),u.weight=t.weight→(∀p∈ps,∃n,u.at p=some (.bl n))→D.nx [x0,some (.int way),x2,some (.ref b),some (enc u),x5,x6,x7] S) :
  ∀(qs:List (List Int)) (k:Nat) {u:Tr}{x5 x6 x7:Option W},(∀q∈qs,q∈ps)→u.weight=t.weight→(∀p∈ps,∃n,u.at p=some (.bl n))→
  forL (wGT (zav (wGN 5) (zav (wGN 6) zcb))) (zbk (r+1) zaZ) E D (fun S'=>S' b=some (.lst (ps.map zca))) (nums k (qs.map zca)) [x0,some (.int way),x2,some (.ref b),some (enc u),x5,x6,x7] S
 | [],k,u,x5,x6,x7,hq,hu,ha=>by
  simp only[List.map_nil,nums,forL];exact h u x5 x6 x7 hu ha
 |q::qs,k,u,x5,x6,x7,hq,hu,ha=>by
  simp only[List.map_cons,nums];refine zdO fun N hN=>?_;simp only[zbk];walk_at "wp";simp only[zaj hb];obtain⟨m,em⟩:∃m:Int,atI [W.int (((List.map zca ps).length:Int) - 1 - (k:Int)),W.int ((k:Int) / 2),W.int ((k:Int)+1),W.int (k:Int)] way=some (.int m):=by
   have:way=0∨way=1∨way=2∨way=3:=by omega
   rcases this with rfl |rfl |rfl |rfl
   ·exact⟨_,rfl⟩
   ·exact⟨_,rfl⟩
   ·exact⟨_,rfl⟩
   ·exact⟨_,rfl⟩
  rw [em];obtain⟨n,en⟩:=ha q (hq q List.mem_cons_self);obtain⟨a1,a2⟩:=zmX ha (hq q List.mem_cons_self) m;have hql:=hps q (hq q List.mem_cons_self);refine⟨⟨by decide,by decide⟩,zak (by decide),?_⟩
  have eb:W.int m=enc (.bl m):=by simp [enc]
  rw [eb];refine zjq q en (by omega) (by omega) (by omega) (hN _ _ _ .refl hb ?_);exact zgt hps hw0 hw1 hb hr hw hpl h qs (k+1) (u:=u.put q (.bl m)) (x5:=some (.int k)) (x6:=some (zca q)) (x7:=some (enc (.bl m))) (fun z hz=>hq z (List.mem_cons_of_mem _ hz)) (by omega) a1
theorem zpp{t:Tr}{way cell:Int}{r:Nat}{S:Sto}{Q:WK}{E:Str→Sto→Prop}(hw0:0≤way) (hw1:way≤3) (hw:t.weight≤90) (hr:120≤r) (h:∀u:Tr,u.weight=t.weight→Q (enc u) S):zaL (r+1) [enc t, .int way, .int cell] S Q E:=by
 obtain⟨r,rfl⟩:∃r',r=r'+2:=⟨r - 2,by omega⟩
 have hd:=zal t;have hpl:=zda t [];have hbl:=ziK t;rw [zaL];walk_at "wp";refine zbD (by omega) (by omega) fun a ha=>?_;walk_at "wp";refine zds (fun σ=>∃x y,σ=[x,y]) zaY (fun x=>zca x.1) (fun x=>x.2.isBl) ?_ (t.plt []) [] _ ⟨none,none,rfl⟩ (by rw [List.length_nil];omega) (fun x hx σ R1 R0 hI h1 h0=>?_) ?_
 ·exact zag
 ·obtain⟨y,z,rfl⟩:=hI;obtain⟨p,u⟩:=x;cases u with
  |bl n=>
   simp only[zaY,enc];walk_at "wp";simp only[zbP];walk_at "wp";exact h1 rfl _ _ ⟨_,_,rfl⟩ .refl
  |nd s ts=>
   simp only[zaY,enc];walk_at "wp";exact h0 rfl _ _ ⟨_,_,rfl⟩ .refl
 ·rw [List.nil_append];have e:(List.filter (fun x=>x.2.isBl) (t.plt [])).map (fun x=>zca x.1)=(t.bls.map (·.1)).map zca:=by rw [List.map_map];rfl
  rw [e];have mem:∀p∈t.bls.map (·.1),(∃n,t.at p=some (.bl n))∧p.length≤90:=fun p hp=>by
   obtain⟨x,hx,rfl⟩:=List.mem_map.mp hp;obtain⟨b1,b2,b3⟩:=znw hx;exact⟨⟨_,by rw [b1,←b2]⟩,by omega⟩
  have hml:(t.bls.map (·.1)).length≤90:=by rw [List.length_map];omega
  generalize t.bls.map (·.1)=ps at mem hml;intro b hb;obtain⟨hb1,hb2⟩:=zbl hb;have fb:put (put S a (Ob.lst ((t.plt []).map zaY))) b (Ob.lst (ps.map zca)) b=some (.lst (ps.map zca)):=zag;have sub:Sub S (put (put S a (Ob.lst ((t.plt []).map zaY))) b (Ob.lst (ps.map zca))):= .put (.put .refl ha) hb1;generalize put (put S a (Ob.lst ((t.plt []).map zaY))) b (Ob.lst (ps.map zca))=S1 at fb sub⊢;refine zgt (r:=r+1) (fun p hp=>(mem p hp).2) hw0 hw1 fb (by omega) (by omega) hml (fun u x5 x6 x7 hu hau=>?_) ps 0 (fun _ h=>h) rfl fun p hp=>(mem p hp).1;walk_at "wp";simp only[zaj fb];split
  ·split
   ·rename_i _ hlen;rw [List.length_map]at hlen;obtain⟨i,w,ei,eat⟩:=zmp (xs:=ps.map zca) cell (by intro z;have:=congrArg List.length z;simp at this;rw [this]at hlen;simp at hlen);rw [eat];rw [List.getElem?_map]at ei;obtain⟨q,eq,rfl⟩:∃q,ps[i]? =some q∧w=zca q:=by
     cases z:ps[i]? with
     |none=>rw [z]at ei;cases ei
     |some x=>rw [z]at ei;cases ei;exact⟨x,rfl,rfl⟩
    have mq:=List.mem_of_getElem? eq;obtain⟨n,en⟩:=hau q mq;have hql:=(mem q mq).2;rw [List.length_map];refine⟨by omega,zak (by decide),?_⟩;have hz:W.tup [W.str (Str.ofString "z")]=enc (.nd "z" []):=by simp [enc,zaH]
    rw [hz];have hwp:=zeL q (u:= .nd "z" []) en;simp only[Tr.weight,wts]at hwp;exact zjq q en (by omega) (by omega) (by omega) ⟨S,sub,h _ (by omega)⟩
   ·exact⟨S,sub,h u hu⟩
  ·exact⟨S,sub,h u hu⟩
theorem zrq (x y:Str):(x++y).length=x.length+y.length:=by
 show(x.cps++y.cps).size=x.cps.size+y.cps.size;exact Array.size_append
theorem zic{x:Str}{l u:Tr}{cell:Int}{b:Addr}{ss:List Str}{r:Nat}{S:Sto}{Q:WK}{E:Str→Sto→Prop}(hx:x.length≤8) (hl:l.weight≤14) (hu:u.weight≤14) (hb:S b=some (.lst (ss.map W.str))) (hs3:2≤ss.length) (hss:∀s∈ss,s.length≤8) (hr:150≤r)
  (h:∀(y:Str) (l' u':Tr),y.length≤20→l'.weight≤40→u'.weight≤40→Q (.tup [.str y,enc l',enc u']) S):zaT (r+1) [.tup [.str x,enc l,enc u], .int cell, .ref b] S Q E:=by
 obtain⟨r,rfl⟩:∃r',r=r'+2:=⟨r - 2,by omega⟩
 have hsl:=Txt.slice_le x none (some 1);have m0:0≤cell / 12 % 10:=Int.emod_nonneg _ (by decide);have m1:cell / 12 % 10<10:=Int.emod_lt_of_pos _ (by decide);obtain⟨s0,e0,ms0⟩:=zcG (ss:=ss) (i:=0) (by decide) (by omega);obtain⟨s1,e1,ms1⟩:=zcG (ss:=ss) (i:=1) (by decide) (by omega);have w0:0≤cell % 12:=Int.emod_nonneg _ (by decide);have w1:cell % 12<12:=Int.emod_lt_of_pos _ (by decide);have cd:ziG cell 12:=⟨by decide,by decide⟩
 have q1:0≤cell / 12 % 3:=Int.emod_nonneg _ (by decide);have q2:cell / 12 % 3<3:=Int.emod_lt_of_pos _ (by decide);rw [zaT];walk_at "wp";simp only[zaj hb,e0,e1];refine⟨by decide,cd,?_⟩;have l3:3≤sizeLine:=zak (by decide);have sA:(Str.ofString "A").length=1:=by decide +kernel
 have sB:(Str.ofString " ").length=1:=by decide +kernel
 split
 ·refine⟨zak (by omega),zak (by omega),zak (by omega),zak (by decide),fun a ha=>⟨by decide,?_⟩⟩;have hall:∀y∈ [Str.ofString "",Str.ofString "a",x++Str.ofString "A",Str.ofString "Abcdefghi",Str.ofString "Abcdefgh",Str.ofString "A",Str.ofString "A1",s0,Txt.slice x none (some 1)++Str.ofString " ",Str.ofString "aA"],y.length≤20:=by
   have h1:=hss s0 ms0;have k1:(Str.ofString "").length≤20:=by decide +kernel
   have k2:(Str.ofString "a").length≤20:=by decide +kernel
   have k3:(Str.ofString "Abcdefghi").length≤20:=by decide +kernel
   have k4:(Str.ofString "Abcdefgh").length≤20:=by decide +kernel
   have k5:(Str.ofString "A1").length≤20:=by decide +kernel
   have k6:(Str.ofString "aA").length≤20:=by decide +kernel
   intro y hy;simp only[List.mem_cons,List.not_mem_nil,or_false]at hy;rcases hy with rfl |rfl |rfl |rfl |rfl |rfl |rfl |rfl |rfl |rfl<;>first
    |assumption
    | (rw [zrq];omega)
    |omega
  have elist: [W.str (Str.ofString ""),W.str (Str.ofString "a"),W.str (x++Str.ofString "A"),W.str (Str.ofString "Abcdefghi"),W.str (Str.ofString "Abcdefgh"),W.str (Str.ofString "A"),W.str (Str.ofString "A1"),W.str s0,W.str (Txt.slice x none (some 1)++Str.ofString " "),W.str (Str.ofString "aA")]=[Str.ofString "",Str.ofString "a",x++Str.ofString "A",Str.ofString "Abcdefghi",Str.ofString "Abcdefgh",Str.ofString "A",Str.ofString "A1",s0,Txt.slice x none (some 1)++Str.ofString " ",Str.ofString "aA"].map W.str:=by simp only[List.map_cons,List.map_nil]
  rw [elist];have hlen:([Str.ofString "",Str.ofString "a",x++Str.ofString "A",Str.ofString "Abcdefghi",Str.ofString "Abcdefgh",Str.ofString "A",Str.ofString "A1",s0,Txt.slice x none (some 1)++Str.ofString " ",Str.ofString "aA"]).length=10:=by simp only[List.length_cons,List.length_nil]
  generalize [Str.ofString "",Str.ofString "a",x++Str.ofString "A",Str.ofString "Abcdefghi",Str.ofString "Abcdefgh",Str.ofString "A",Str.ofString "A1",s0,Txt.slice x none (some 1)++Str.ofString " ",Str.ofString "aA"]=ys at hall hlen⊢;obtain⟨y,ey,my⟩:=zcG (ss:=ys) m0 (by omega);rw [ey];exact⟨l3,S, .put .refl ha,h y l u (hall y my) (by omega) (by omega)⟩
 ·split
  ·refine⟨by decide,l3,S, .refl,?_⟩;have:=h x (.bl (cell / 12 % 2)) u (by omega) (by simp [Tr.weight]) (by omega);simpa only[enc]using this
  ·rename_i n0 n1;simp only[beq_iff_eq]at n0 n1;split
   ·exact zpp (r:=r+1) (by omega) (by omega) (by omega) (by omega) fun v hv=>⟨l3,S, .refl,h x v u (by omega) (by omega) (by omega)⟩
   ·split
    ·refine zep (by omega) fun a ha=>?_;walk_at "wp";simp only[zaj (keep hb ha),e0];refine⟨by decide,by decide,l3,l3,S, .put .refl ha,?_⟩
     have:=h x l (.nd s0 [u, .bl (if((l.nums.map W.int).length:Int) - cell / 12 % 2+cell / 12 % 3 > 0 then((l.nums.map W.int).length:Int) - cell / 12 % 2+cell / 12 % 3 else 0)]) (by omega) (by omega) (by simp [Tr.weight,wts];omega);simpa only[enc,zaH]using this
    ·split
     ·exact⟨by decide,zgd (by omega) (by omega) fun v hv=>⟨l3,S, .refl,h x v u (by omega) (by omega) (by omega)⟩⟩
     ·split
      ·exact⟨by decide,zgd (by omega) (by omega) fun v hv=>⟨l3,S, .refl,h x l v (by omega) (by omega) (by omega)⟩⟩
      ·exact⟨S, .refl,h x l u (by omega) (by omega) (by omega)⟩
mutual
noncomputable def Tr.mee:Tr→Tr→Bool
 | .bl _,_=>true
 | .nd _ _, .bl _=>true
 | .nd s ls, .nd z us=>(s == z&&ls.length == us.length)&&zog ls us
noncomputable def zog:List Tr→List Tr→Bool
 |l::ls,u::us=>l.mee u&&zog ls us
 |_,_=>true
end
theorem zhP{r:Nat}{S:Sto}{E:WX}{Q:List W→Sto→Prop}:∀(ls us:List Tr) (one:∀l∈ls,∀{u:Tr}{Q:WK}{E:Str→Sto→Prop},Q (.bl (l.mee u)) S→zdI r [enc l,enc u] S Q E) {acc:List Bool}{p q:Option W},acc.length+ls.length≤1000000→
  (∀bs:List Bool,bs.all _root_.id=(acc.all _root_.id&&zog ls us)→Q (bs.map W.bl) S)→
  zck (wGT (zav (wGN 0) (zav (wGN 1) zcb))) zfd (zfn r (zdI r)) E (fun _=>True) Q (zcM (zaH ls) (zaH us)) (acc.map W.bl) [p,q] S
 | [],us,one,acc,p,q,hl,h=>by
  have:=h acc (by simp [zog]);simpa [zaH,zcM,zck]using this
 |l::ls,[],one,acc,p,q,hl,h=>by
  have:=h acc (by simp [zog]);simpa [zaH,zcM,zck]using this
 |l::ls,u::us,one,acc,p,q,hl,h=>by
  simp only[List.length_cons]at hl;simp only[zaH,zcM,zck,zfn];walk_at "wp";refine one l List.mem_cons_self ⟨zbj (by rw [List.length_map];omega),S, .refl,?_⟩;have:=zhP (Q:=Q) (E:=E) ls us (fun l' hl'=>one l' (List.mem_cons_of_mem _ hl')) (acc:=acc++[l.mee u]) (p:=some (enc l)) (q:=some (enc u)) (by simp;omega) fun bs hb=>h bs (by rw [hb];simp [zog,Bool.and_assoc]);simpa only[List.map_append,List.map_cons,List.map_nil,zfn]using this
theorem zmt{S:Sto}:∀(d:Nat) {l u:Tr}{r:Nat}{Q:WK}{E:Str→Sto→Prop},l.depth≤d→d≤r→l.weight≤90000→Q (.bl (l.mee u)) S→zdI (r+1) [enc l,enc u] S Q E
 |0,l,u,r,Q,E,hd,hr,hw,h=>by have:=zdt l;omega
 |d+1, .bl n,u,r,Q,E,hd,hr,hw,h=>by
  rw [zdI];simp only[enc];walk_at "wp";simp only[Tr.mee]at h;exact⟨_, .refl,h⟩
 |d+1, .nd s ls, .bl n,r,Q,E,hd,hr,hw,h=>by
  rw [zdI];simp only[enc];walk_at "wp";simp only[Tr.mee]at h;exact⟨_, .refl,h⟩
 |d+1, .nd s ls, .nd z us,r,Q,E,hd,hr,hw,h=>by
  simp only[Tr.depth]at hd;simp only[Tr.weight]at hw;have hk:=zcl ls;obtain⟨r,rfl⟩:∃r',r=r'+1:=⟨r - 1,by omega⟩
  have en:∀s ts,enc (.nd s ts)= .tup (.str s::zaH ts):=fun s ts=>by simp [enc]
  rw [zdI];rw [en,en];walk_at "wp";rw [←en,←en];refine ztS ?_;simp only[Tr.mee]at h;cases e:(s == z&&ls.length == us.length) with
  |false=>
   rw [e]at h;exact⟨_, .refl,h⟩
  |true=>
   rw [e]at h;walk_at "wp";refine zhP ls us (fun l hl {u Q E} q=>zmt d (by have:=zeN hl;omega) (by omega) (by have:=zeR hl;omega) q) (acc:=[]) (by simp;omega) fun bs hb=>?_;rw [zdw];dsimp only;rw [hb];exact⟨_, .refl,h⟩
noncomputable def zlg:Tr→Tr→Bool
 | .nd s ls, .nd z us=>s == z&&ls.length == us.length
 |_,_=>true
noncomputable def zdr (T:Tr) (x:List Int×Tr):Bool:=match T.at x.1 with
 |some u=>zlg x.2 u
 |none=>true
theorem zhY:∀(q:List Int) {T u:Tr}(r:List Int),T.at (q++r)=some u→ ∃t,T.at q=some t∧t.at r=some u
 | [],T,u,r,h=>⟨T,zeU T,h⟩
 |i::q, .bl n,u,r,h=>by cases h
 |i::q, .nd s ts,u,r,h=>by
  rw [List.cons_append]at h;obtain⟨v,h0,e1,e2⟩:=zjd h;obtain⟨t,a,b⟩:=zhY q r e2;refine⟨t,?_,b⟩;have ei:(i:Int)=((i.toNat:Nat):Int):=(Int.toNat_of_nonneg h0).symm;rw [ei,zei e1];exact a
theorem zjs (q:List Int) {T:Tr}(r:List Int) (h:T.at q=none):T.at (q++r)=none:=by
 cases e:T.at (q++r) with
 |none=>rfl
 |some u=>
  obtain⟨t,a,_⟩:=zhY q r e;rw [h]at a;cases a
mutual
theorem zkc (T:Tr):∀(l:Tr) (q:List Int),T.at q=none→(l.plt q).all (zdr T)=true
 | .bl n,q,h=>by simp [Tr.plt,zdr,h]
 | .nd s ls,q,h=>by
  simp only[Tr.plt,List.all_cons,zhH T ls q 0 h,Bool.and_true];simp [zdr,h]
theorem zhH (T:Tr):∀(ls:List Tr) (q:List Int) (i:Nat),T.at q=none→(plts q i ls).all (zdr T)=true
 | [],q,i,h=>by simp [plts]
 |l::ls,q,i,h=>by
  simp only[plts,List.all_append,zhH T ls q (i+1) h,Bool.and_true];exact zkc T l _ (zjs q _ h)
end
mutual
theorem zmy (T:Tr):∀(l:Tr) (q:List Int) (t:Tr),T.at q=some t→(l.plt q).all (zdr T)=l.mee t
 | .bl n,q,t,h=>by simp [Tr.plt,zdr,h,zlg,Tr.mee]
 | .nd s ls,q, .bl n,h=>by
  have kids:∀(ls:List Tr) (i:Nat),(plts q i ls).all (zdr T)=true:=fun ls=>by
   induction ls with
   |nil=>intro i;simp [plts]
   |cons l ls ih=>
    intro i;simp only[plts,List.all_append,ih (i+1),Bool.and_true];exact zkc T l _ (by rw [zjO q _ h];rfl)
  simp only[Tr.plt,List.all_cons,kids,Bool.and_true,Tr.mee];simp [zdr,h,zlg]
 | .nd s ls,q, .nd z us,h=>by
  simp only[Tr.plt,List.all_cons,Tr.mee];have e1:zdr T (q, .nd s ls)=(s == z&&ls.length == us.length):=by simp [zdr,h,zlg]
  rw [e1];cases e:(s == z&&ls.length == us.length) with
  |false=>rfl
  |true=>
   simp only[Bool.and_eq_true,beq_iff_eq]at e;have:=zjH T ls q [] us z h e.2;simp only[List.length_nil]at this;rw [this]
theorem zjH (T:Tr):∀(ls:List Tr) (q:List Int) (pre us:List Tr) (z:Str),T.at q=some (.nd z (pre++us))→ls.length=us.length→(plts q pre.length ls).all (zdr T)=zog ls us
 | [],q,pre,us,z,h,hl=>by simp [plts,zog]
 |l::ls,q,pre,[],z,h,hl=>by cases hl
 |l::ls,q,pre,u::us,z,h,hl=>by
  have hk:(Tr.nd z (pre++u::us)).at [(pre.length:Int)]=some u:=by
   rw [zei (u:=u) (by simp),zeU]
  have h1:T.at (q++[(pre.length:Int)])=some u:=by rw [zjO q _ h];exact hk
  have h2:=zjH T ls q (pre++[u]) us z (by rw [h];simp) (by simpa using hl);rw [List.length_append,List.length_singleton]at h2;simp only[plts,List.all_append,zog,zmy T l _ u h1,h2]
end
theorem zqJ (l t:Tr):(l.plt []).all (zdr t)=l.mee t:=zmy t l [] t (zeU t)
mutual
theorem zpU:∀(t:Tr) (p q:List Int) (u:Tr),t.at q=some u→(p++q,u)∈t.plt p
 | .bl n,p,[],u,h=>by rw [zeU]at h;cases h;simp [Tr.plt]
 | .bl n,p,i::q,u,h=>by cases h
 | .nd s ts,p,[],u,h=>by rw [zeU]at h;cases h;simp [Tr.plt]
 | .nd s ts,p,i::q,u,h=>by
  obtain⟨v,h0,e1,e2⟩:=zjd h;simp only[Tr.plt,List.mem_cons];refine .inr ?_;have:=zlw ts p 0 i.toNat q u v e1 e2;rw [Nat.zero_add,Int.toNat_of_nonneg h0]at this;simpa using this
theorem zlw:∀(ts:List Tr) (p:List Int) (i j:Nat) (q:List Int) (u v:Tr),ts[j]? =some v→v.at q=some u→(p++((i+j:Nat):Int)::q,u)∈plts p i ts
 | [],p,i,j,q,u,v,h1,h2=>by simp at h1
 |t::ts,p,i,0,q,u,v,h1,h2=>by
  simp at h1;subst h1;simp only[plts,List.mem_append];refine .inl ?_;have:=zpU t (p++[(i:Int)]) q u h2;simpa using this
 |t::ts,p,i,j+1,q,u,v,h1,h2=>by
  simp only[plts,List.mem_append];refine .inr ?_;have:=zlw ts p (i+1) j q u v (by simpa using h1) h2;rw [show i+1+j=i+(j+1) by omega]at this
  exact this
end
noncomputable def zkT (xs:List (List Int×Tr)):List (List Int×W):=xs.map fun x=>(x.1,enc x.2)
theorem zjp (t:Tr) (p:List Int):zgr (zkT (t.plt [])) p=(t.at p).map enc:=by
 unfold zgr zkT;rw [List.find?_map,Option.map_map];cases e:(t.plt []).find? ((fun kv=>decide (kv.1=p))∘fun x=>(x.1,enc x.2)) with
 |some x=>
  have h1:=List.find?_some e;have h2:=List.mem_of_find?_eq_some e;simp only[Function.comp,decide_eq_true_eq]at h1;obtain⟨q,h3,h4,_⟩:=zgf t [] x.1 x.2 h2;simp at h3;subst h3;rw [←h1,h4];rfl
 |none=>
  cases e2:t.at p with
  |none=>rfl
  |some u=>
   have:=zpU t [] p u e2;rw [List.nil_append]at this;have:=List.find?_eq_none.mp e _ this;simp at this
theorem zoq{kvs:List (List Int×W)}{k:List Int}{w:W}(h:∀x∈kvs,x.1≠k):zov kvs k w=kvs++[(k,w)]:=by
 unfold zov;rw [if_neg];intro z;obtain⟨x,hx,e⟩:=List.any_eq_true.mp z;exact h x hx (by simpa using e)
theorem zhN{d b:Addr}{ps:List W}{r:Nat}{E:WX}{D:WEnds}{x0 x1:Option W}(hdb:d≠b):∀(rs dn:List (List Int×Tr)) {S:Sto}{x3 x4:Option W},(dn++rs).Pairwise (fun x y=>x.1≠y.1)→dn.length+rs.length≤100000→S b=some (.dct (zkT dn))→S d=some (.lst ps)→
  (∀x3 x4,D.nx [x0,x1,some (.ref b),x3,x4] (put S b (.dct (zkT (dn++rs)))))→
  forL (wGT (zav (wGN 3) (zav (wGN 4) zcb))) (zdc r zaZ) E D (fun S'=>S' d=some (.lst ps)) (rs.map zaY) [x0,x1,some (.ref b),x3,x4] S
 | [],dn,S,x3,x4,hp,hl,hb,hd,h=>by
  have:=h x3 x4;rw [List.append_nil,zhn hb]at this;simpa [forL]using this
 |x::rs,dn,S,x3,x4,hp,hl,hb,hd,h=>by
  rw [List.map_cons];refine zdO fun N hN=>?_;simp only[zdc,zaY];walk_at "wp";rw [zfM hb];simp only[List.length_cons]at hl;have hnew:zov (zkT dn) x.1 (enc x.2)=zkT (dn++[x]):=by
   rw [zoq (fun y hy=>?_)]
   ·simp [zkT]
   ·obtain⟨z,hz,rfl⟩:=List.mem_map.mp hy;rw [List.pairwise_append]at hp;exact hp.2.2 z hz x List.mem_cons_self
  rw [hnew];refine⟨zbj (by simp [zkT];omega),hN _ _ _ .refl (by rw [zaI hdb];exact hd) ?_⟩;refine zhN hdb rs (dn++[x]) (by simpa using hp) (by simp;omega) zag (by rw [zaI hdb];exact hd) fun x3 x4=>?_;rw [zcc];simpa using h x3 x4
theorem zgk{T:Tr}{d b:Addr}{ps:List W}{r:Nat}{E:WX}{D:WEnds}{x0 x1:Option W}{S:Sto}(hb:S b=some (.dct (zkT (T.plt [])))) (hd:S d=some (.lst ps)):∀(rs:List (List Int×Tr)) {x3 x4:Option W},
  (rs.all (zdr T)=true→ ∀x3 x4,D.nx [x0,x1,some (.ref b),x3,x4] S)→(rs.all (zdr T)=false→D.rt (.bl false) S)→
  forL (wGT (zav (wGN 3) (zav (wGN 4) zcb))) (zdh r zaZ) E D (fun S'=>S' d=some (.lst ps)) (rs.map zaY) [x0,x1,some (.ref b),x3,x4] S
 | [],x3,x4,h1,h0=>by
  have:=h1 rfl x3 x4;simpa [forL]using this
 |x::rs,x3,x4,h1,h0=>by
  rw [List.map_cons];refine zdO fun N hN=>?_;have go:zdr T x=true→N [x0,x1,some (.ref b),some (zca x.1),some (enc x.2)] S:=fun e=>by
   rw [List.all_cons,e,Bool.true_and]at h1 h0;exact hN _ _ _ .refl hd (zgk hb hd rs h1 h0)
  have no:zdr T x=false→D.rt (.bl false) S:=fun e=>h0 (by rw [List.all_cons,e];rfl);simp only[zdh,zaY];walk_at "wp";simp only[zfM hb,zjp];unfold zdr at go no;obtain⟨p,u⟩:=x;dsimp only at go no⊢;cases e:T.at p with
  |none=>
   rw [e]at go;simp only[Option.map_none,Option.isSome_none];walk_at "wp";exact go rfl
  |some v=>
   rw [e]at go no;simp only[Option.map_some,Option.isSome_some];walk_at "wp";cases u with
   |bl n=>
    simp only[enc]at go⊢;walk_at "wp";exact go rfl
   |nd s ls=>
    simp only[enc]at go⊢;walk_at "wp";cases v with
    |bl n=>
     simp only[enc];walk_at "wp";exact go rfl
    |nd z us=>
     simp only[enc];walk_at "wp";have e2:((((zaH ls).length+1:Nat):Int) == ((zaH us).length+1:Nat))=(ls.length == us.length):=by
      rw [Bool.eq_iff_iff,beq_iff_eq,beq_iff_eq,zas,zas];omega
     simp only[zfM hb,zjp,e,Option.map_some,enc];walk_at "wp";simp only[zfM hb,zjp,e,Option.map_some,enc];walk_at "wp";simp only[e2];simp only[zlg]at go no;cases es:s == z with
     |false=>rw [es]at no;simpa using no rfl
     |true=>
      cases el:ls.length == us.length with
      |false=>rw [es,el]at no;simpa using no rfl
      |true=>rw [es,el]at go;simpa using go rfl
theorem zoK{l t:Tr}{r:Nat}{S:Sto}{Q:WK}{E:Str→Sto→Prop}(hl:l.weight≤9000) (ht:t.weight≤9000) (h:Q (.bl (l.mee t)) S):zbV (r+2) [enc l,enc t] S Q E:=by
 have hdl:=zal l;have hdt:=zal t;have hp2:=zda t [];rw [zbV];walk_at "wp";intro b hb;refine zbD (by omega) (by omega) fun d hd=>?_;have hdb:d≠b:=(zbl hd).2;walk_at "wp";refine zhN hdb (t.plt []) [] (zpF t []) (by simp;omega) (by rw [zaI (Ne.symm hdb),zag];rfl) zag fun x3 x4=>?_;rw [List.nil_append,zkv hdb];have fb:put (put S b (.dct (zkT (t.plt [])))) d (.lst ((t.plt []).map zaY)) b=some (.dct (zkT (t.plt []))):=by rw [zaI (Ne.symm hdb),zag]
 have sub:Sub S (put (put S b (.dct (zkT (t.plt [])))) d (.lst ((t.plt []).map zaY))):= .put (.put .refl hb) (zbl hd).1;generalize put (put S b (.dct (zkT (t.plt [])))) d (.lst ((t.plt []).map zaY))=S1 at fb sub⊢;walk_at "wp";refine zbD (by omega) (by omega) fun f hf=>?_;walk_at "wp";rw [←zqJ]at h;refine zgk (T:=t) (keep fb hf) zag (l.plt []) (fun e x3 x4=>?_) fun e=>?_
 ·rw [e]at h;walk_at "wp";exact⟨_, .trans sub (.put .refl hf),h⟩
 ·rw [e]at h;exact⟨_, .trans sub (.put .refl hf),h⟩
theorem znD{t:Tr}{x:List Int×Tr}(h:x∈t.plt []):t.at x.1=some x.2∧x.1.length<t.depth:=by
 obtain⟨q,h3,h4,h5⟩:=zgf t [] x.1 x.2 h;simp at h3;subst h3;exact⟨h4,h5⟩
theorem zcX{α:Type}{g:WG}{b:WS}{E:WX}{D:WEnds}{G:Sto→Prop}{S:Sto}(hG:G S) (I:WSt→Prop) (key:α→W) (f:α→Option W):∀(xs:List α) (σ:WSt),I σ→
  (∀x∈xs,∀σ (N:WSt→Sto→Prop),I σ→(f x=none→ ∀σ' S',I σ'→Sub S S'→N σ' S')→(∀w,f x=some w→ ∀S',Sub S S'→D.rt w S')→g (key x) σ S fun σ1 S1=>b E { D with nx:=N,ct:=N,bk:=D.nx } σ1 S1)→
  (xs.findSome? f=none→ ∀σ,I σ→D.nx σ S)→(∀w,xs.findSome? f=some w→ ∀S',Sub S S'→D.rt w S')→forL g b E D G (xs.map key) σ S
 | [],σ,hI,step,done,ret=>by
  have:=done rfl σ hI;simpa [forL]using this
 |x::xs,σ,hI,step,done,ret=>by
  rw [List.map_cons];refine zdO fun N hN=>?_;refine step x List.mem_cons_self σ N hI (fun e σ' S' hI' sb=>?_) fun w e S' sb=>ret w (by rw [List.findSome?_cons,e]) S' sb;refine hN _ _ S sb hG (zcX hG I key f xs σ' hI' (fun y hy=>step y (List.mem_cons_of_mem _ hy)) (fun e2=>done (by rw [List.findSome?_cons,e];exact e2)) fun w e2=>ret w (by rw [List.findSome?_cons,e];exact e2))
noncomputable abbrev Tn:=Str×Tr×Tr
noncomputable def encT (t:Tn):W:= .tup [.str t.1,enc t.2.1,enc t.2.2]
noncomputable def Tn0:Tn:=("", .bl 0, .bl 0)
noncomputable def lf (ts:List Tn) (j:Nat):Tr:=(ts.getD j Tn0).2.1
theorem zpj{ts:List Tn}{j:Nat}(h:j<ts.length):∃t∈ts,ts[j]? =some t∧lf ts j=t.2.1:=by
 refine⟨ts[j],List.getElem_mem ..,List.getElem?_eq_getElem h,?_⟩;unfold lf;rw [List.getD_eq_getElem?_getD,List.getElem?_eq_getElem h];rfl
theorem zeS (n:Nat):zeF 0 n=(List.range n).map fun(i:Nat)=>W.int i:=by
 unfold zeF;apply List.map_congr_left;intro i _;simp
theorem zlc (ts:List Tn):nums 0 (ts.map encT)=(List.range ts.length).map fun j=> .tup [.int j,encT (ts.getD j Tn0)]:=by
 apply List.ext_getElem?;intro i;rw [List.getElem?_map];by_cases hi:i<ts.length
 ·rw [List.getElem?_range hi];have hl:i<(nums 0 (ts.map encT)).length:=by rw [zfp,List.length_map];exact hi
  obtain⟨w,ew,eu⟩:=zhd (List.getElem?_eq_getElem hl);rw [List.getElem?_eq_getElem hl,eu];rw [List.getElem?_map,List.getElem?_eq_getElem hi]at ew;simp only[Option.map_some,Option.some.injEq]at ew;simp only[Option.map_some,Nat.zero_add,List.getD_eq_getElem?_getD,List.getElem?_eq_getElem hi,Option.getD_some,ew]
 ·rw [List.getElem?_eq_none (by rw [zfp,List.length_map];omega),List.getElem?_eq_none (by simp;omega)];rfl
noncomputable def clJ (ts:List Tn) (k:Nat) (x:List Int×Tr) (j:Nat):Option W:=if(!x.2.isBl&&(!(x.1.isEmpty&&j == k)&&x.2.mee (lf ts j)))=true then some (.tup [.int k, .int j,zca x.1]) else none
noncomputable def clX (ts:List Tn) (k:Nat) (x:List Int×Tr):Option W:=(List.range ts.length).findSome? (clJ ts k x)
noncomputable def clK (ts:List Tn) (k:Nat):Option W:=((lf ts k).plt []).findSome? (clX ts k)
noncomputable def clA (ts:List Tn):Option W:=(List.range ts.length).findSome? (clK ts)
noncomputable def zrY:Option W→W
 |some w=>w
 |none=> .non
theorem zkH{ts:List Tn}{a:Addr}{k:Nat}{r:Nat}{S:Sto}{Q:WK}{E:Str→Sto→Prop}(ha:S a=some (.lst (ts.map encT))) (hk:k<ts.length) (hw:∀t∈ts,t.2.1.weight≤80) (hr:100≤r) (hn:ts.length≤100) (h:Q (zrY (clK ts k)) S):zcL (r+1) [.ref a, .int k] S Q E:=by
 obtain⟨r,rfl⟩:∃r',r=r'+3:=⟨r - 3,by omega⟩
 obtain⟨t,mt,et,el⟩:=zpj hk;have hwl:(lf ts k).weight≤80:=by rw [el];exact hw t mt
 have hdl:=zal (lf ts k);have e1:atI (ts.map encT) (k:Int)=some (.tup [.str t.1,enc (lf ts k),enc t.2.2]):=by
  rw [zbB,List.getElem?_map,et,el];rfl
 rw [zcL];walk_at "wp";rw [zaj ha,e1];walk_at "wp";rw [show atI [W.str t.1,enc (lf ts k),enc t.2.2] 1=some (enc (lf ts k)) from rfl];walk_at "wp";refine zie (by omega) (by omega) (by omega) fun b hb=>?_;walk_at "wp";rw [←ziN,List.map_map];have fa:=keep (x:=Ob.lst (((lf ts k).plt []).map (zca∘fun x=>x.1))) ha hb;have fb:put S b (Ob.lst (((lf ts k).plt []).map (zca∘fun x=>x.1))) b=some (.lst (((lf ts k).plt []).map (zca∘fun x=>x.1))):=zag;have sub:Sub S (put S b (Ob.lst (((lf ts k).plt []).map (zca∘fun x=>x.1)))):= .put .refl hb;generalize put S b (Ob.lst (((lf ts k).plt []).map (zca∘fun x=>x.1)))=S1 at fa fb sub⊢;refine zcX ?_ (fun σ=>∃x3 x4 x5 x6 x7,σ=[some (.ref a),some (.int k),some (enc (lf ts k)),x3,x4,x5,x6,x7]) (zca∘fun x=>x.1) (clX ts k) _ _ ⟨_,_,_,_,_,rfl⟩ (fun x hx σ N hI hno hret=>?_) (fun e σ hI=>?_) fun w e S' sb=>?_
 ·exact fb
 ·obtain⟨x3,x4,x5,x6,x7,rfl⟩:=hI;obtain⟨h4,h5⟩:=znD hx;obtain⟨sw,sd⟩:=zhe _ h4;simp only[zeT,Function.comp];walk_at "wp";refine ziM h4 ?_
  try walk_at "wp"
  rw [zaj fa,zlc];refine zcX ?_ (fun σ=>∃x5 x6 x7,σ=[some (.ref a),some (.int k),some (enc (lf ts k)),some (zca x.1),some (enc x.2),x5,x6,x7]) (fun(j:Nat)=> .tup [.int j,encT (ts.getD j Tn0)]) (clJ ts k x) _ _ ⟨_,_,_,rfl⟩ (fun j hj σ N2 hI hno2 hret2=>?_) (fun e σ hI=>?_) fun w e S' sb=>hret w e S' sb
  ·exact fa
  ·obtain⟨x5,x6,x7,rfl⟩:=hI;have en:encT (ts.getD j Tn0)= .tup [.str (ts.getD j Tn0).1,enc (lf ts j),enc (ts.getD j Tn0).2.2]:=rfl;simp only[zeZ];walk_at "wp";rw [zfj];rw [en];unfold clJ at hno2 hret2;have ej:((j:Int) == (k:Int))=(j == k):=by rw [Bool.eq_iff_iff,beq_iff_eq,beq_iff_eq];omega
   rw [ej];obtain⟨p,u⟩:=x;dsimp only at *;refine⟨Nat.zero_le _,?_⟩;cases u with
   |bl n=>
    have no:=hno2 (by simp [Tr.isBl]);cases p.isEmpty<;>simp only[enc]at no⊢ <;>walk_at "wp" <;>exact no _ _ ⟨_,_,_,rfl⟩ .refl
   |nd s us=>
    have isb:(Tr.nd s us).isBl=false:=rfl;rw [isb]at hno2 hret2;have en2:enc (.nd s us)= .tup (.str s::zaH us):=by simp [enc]
    have tail:∀(x7:Option W),(p.isEmpty&&j == k)=false→zdI (r+3) [enc (.nd s us),enc (lf ts j)] S1 (fun w S'=>znQ w S' fun b S1=>if b=true then 3≤sizeLine∧ ∃S'',Sub S'' S1∧Q (W.tup [W.int ↑k,W.int ↑j,zca p]) S'' else N2 [some (W.ref a),some (W.int ↑k),some (enc (lf ts k)),some (zca p),some (enc (.nd s us)),some (W.int ↑j),some (W.tup [W.str (ts.getD j Tn0).fst,enc (lf ts j),enc (ts.getD j Tn0).snd.snd]),x7] S1) (fun cl S2=>E cl S2):=fun x7 ec=>by
     rw [ec]at hno2 hret2;refine zmt (Tr.nd s us).depth (Nat.le_refl _) (by omega) (by omega) ?_;cases em:(Tr.nd s us).mee (lf ts j) with
     |true=>
      rw [em]at hret2;have:=hret2 (W.tup [W.int ↑k,W.int ↑j,zca p]) (by simp) S1 .refl;walk_at "wp";exact⟨zak (by decide),this⟩
     |false=>
      rw [em]at hno2;walk_at "wp";exact hno2 (by simp) _ _ ⟨_,_,_,rfl⟩ .refl
    have e1':atI [W.str (ts.getD j Tn0).fst,enc (lf ts j),enc (ts.getD j Tn0).snd.snd] 1=some (enc (lf ts j)):=rfl;cases ep:p.isEmpty with
    |false=>
     have t7:=tail (some (.bl false)) (by rw [ep];rfl);rw [en2]at t7⊢;walk_at "wp";rw [e1'];exact t7
    |true=>
     cases ejk:j == k with
     |false=>
      have t7:=tail (some (.bl false)) (by rw [ep,ejk];rfl);rw [en2]at t7⊢;walk_at "wp";rw [e1'];exact t7
     |true=>
      have no:=hno2 (by rw [ep,ejk];simp);rw [en2]at no⊢;walk_at "wp";exact no _ _ ⟨_,_,_,rfl⟩ .refl
  ·obtain⟨x5,x6,x7,rfl⟩:=hI;exact hno e _ _ ⟨_,_,_,_,_,rfl⟩ .refl
 ·obtain⟨x3,x4,x5,x6,x7,rfl⟩:=hI;walk_at "wp";have e':clK ts k=none:=e;rw [e']at h;exact⟨S,sub,h⟩
 ·have e':clK ts k=some w:=e;rw [e']at h;exact⟨S, .trans sub sb,h⟩
theorem zpg{ts:List Tn}{a:Addr}{r:Nat}{S:Sto}{Q:WK}{E:Str→Sto→Prop}(ha:S a=some (.lst (ts.map encT))) (hw:∀t∈ts,t.2.1.weight≤80) (hr:101≤r) (hn:ts.length≤100) (h:Q (zrY (clA ts)) S):zfz (r+1) [.ref a] S Q E:=by
 obtain⟨r,rfl⟩:∃r',r=r'+1:=⟨r - 1,by omega⟩
 rw [zfz];walk_at "wp";rw [zaj ha,List.length_map,Int.toNat_natCast,zeS];refine⟨⟨by omega,by omega⟩,?_⟩
 refine zcX ?_ (fun σ=>∃x1 x2,σ=[some (.ref a),x1,x2]) (fun(i:Nat)=>W.int i) (clK ts) _ _ ⟨_,_,rfl⟩ (fun k hk σ N hI hno hret=>?_) (fun e σ hI=>?_) fun w e S' sb=>?_
 ·exact trivial
 ·obtain⟨x1,x2,rfl⟩:=hI;simp only[zir];walk_at "wp";refine zkH ha (List.mem_range.mp hk) hw (by omega) hn ?_;cases e:clK ts k with
  |none=>
   simp only[zrY];walk_at "wp";exact hno e _ _ ⟨_,_,rfl⟩ .refl
  |some w=>
   obtain⟨x,_,ex⟩:=List.exists_of_findSome?_eq_some e;obtain⟨j,_,ej⟩:=List.exists_of_findSome?_eq_some ex;unfold clJ at ej;split at ej
   ·cases ej;simp only[zrY];walk_at "wp";exact hret _ e _ .refl
   ·cases ej
 ·obtain⟨x1,x2,rfl⟩:=hI;have e':clA ts=none:=e;rw [e']at h;walk_at "wp";exact⟨S, .refl,h⟩
 ·have e':clA ts=some w:=e;rw [e']at h;exact⟨S,sb,h⟩
noncomputable def okT (t:Tn):Bool:=okTurn t.1 t.2.1 t.2.2
noncomputable def zlf (ts:List Tn):Bool:=decide (8<ts.length) || (!decide (ts.map (·.1)).Nodup || !ts.all okT)
structure TsOk (ts:List Tn):Prop where
  n:ts.length≤9
  t:∀t∈ts,t.1.length≤20
  l:∀t∈ts,t.2.1.weight≤40
  r:∀t∈ts,t.2.2.weight≤40
theorem zhM{S:Sto}{x:Str}:∀ss:List Str,inF S (.str x) (ss.map W.str)=some (decide (x∈ss))
 | []=>by simp [inF]
 |s::ss=>by
  rw [List.map_cons,inF,zmh,zhM (S:=S) (x:=x) ss];dsimp only;congr 1;have:(x∈s::ss)↔(s=x∨x∈ss):=by
   rw [List.mem_cons];exact⟨fun h=>h.imp Eq.symm id,fun h=>h.imp Eq.symm id⟩
  rw [decide_eq_decide.mpr this,Bool.decide_or];rfl
theorem ziy{a b:Addr}{as:List W}{r:Nat}{E:WX}{D:WEnds}{S0:Sto}(hr:101≤r) (hab:a≠b) (hS0b:S0 b=none):∀(ts:List Tn) (tn:List Str) {S:Sto}{x2:Option W},Sub S0 S→S a=some (.lst as)→S b=some (.lst (tn.map W.str))→tn.Nodup→tn.length+ts.length≤100→(∀t∈ts,t.1.length≤20)→(∀t∈ts,t.2.1.weight≤40)→(∀t∈ts,t.2.2.weight≤40)→
  ((¬((tn++ts.map (·.1)).Nodup∧ts.all okT=true))→ ∀σ S',Sub S0 S'→E "NoTurning" σ S')→
  (((tn++ts.map (·.1)).Nodup∧ts.all okT=true)→ ∀x2 S',Sub S0 S'→S' a=some (.lst as)→D.nx [some (.ref a),some (.ref b),x2] S')→
  forL (wGN 2) (zer (r+1) zaZ) E D (fun S'=>S' a=some (.lst as)) (ts.map encT) [some (.ref a),some (.ref b),x2] S
 | [],tn,S,x2,sb,ha,hb,nd,hl,h1,h2,h3,bad,good=>by
  simp only[List.map_nil,forL];exact good ⟨by simpa using nd,rfl⟩ _ _ sb ha
 |t::ts,tn,S,x2,sb,ha,hb,nd,hl,h1,h2,h3,bad,good=>by
  rw [List.map_cons];refine zdO fun N hN=>?_;obtain⟨x,l,u⟩:=t;have y1:=h1 _ List.mem_cons_self;have y2:=h2 _ List.mem_cons_self;have y3:=h3 _ List.mem_cons_self;dsimp only at y1 y2 y3;simp only[zer,encT];walk_at "wp";refine zit (by omega) (by omega) (by omega) (by omega) ?_;cases eo:okTurn x l u with
  |false=>
   walk_at "wp";rw [zfi];walk_at "wp";refine⟨by decide,bad (fun z=>?_) _ _ sb⟩;have:=z.2;simp [okT,eo]at this
  |true=>
   walk_at "wp";rw [zaj hb,zhM];simp only[zaj hb];by_cases hx:x∈tn
   ·rw [decide_eq_true hx,if_pos rfl,zfi];walk_at "wp";refine⟨by decide,bad (fun z=>?_) _ _ sb⟩;exact(List.nodup_append.mp z.1).2.2 x hx x (by simp) rfl
   ·rw [decide_eq_false hx,if_neg (by decide)];rw [List.length_cons]at hl;refine⟨trivial,zbj (by rw [List.length_map];omega),?_⟩;have ne:a≠b:=hab;have fb:put S b (Ob.lst (tn.map W.str++[W.str x])) b=some (.lst ((tn++[x]).map W.str)):=by rw [zag,List.map_append];rfl
    have fa:put S b (Ob.lst (tn.map W.str++[W.str x])) a=some (.lst as):=by rw [zaI hab];exact ha
    have sb':Sub S0 (put S b (Ob.lst (tn.map W.str++[W.str x]))):=fun c o e=>by
     by_cases hc:c=b
     ·rw [hc,hS0b]at e;cases e
     ·rw [zaI hc];exact sb c o e
    have eap:tn++List.map (fun x=>x.fst) ((x,l,u)::ts)=(tn++[x])++ts.map (fun x=>x.fst):=by simp
    have eal:(((x,l,u)::ts).all okT=true)↔(ts.all okT=true):=by simp [okT,eo]
    refine hN _ _ _ .refl fa (ziy hr hab hS0b ts (tn++[x]) sb' fa fb ?_ (by rw [List.length_append];simp;omega) (fun t ht=>h1 t (List.mem_cons_of_mem _ ht)) (fun t ht=>h2 t (List.mem_cons_of_mem _ ht)) (fun t ht=>h3 t (List.mem_cons_of_mem _ ht)) (fun z=>bad fun y=>z ?_) fun z=>good ?_)
    ·rw [List.nodup_append];exact⟨nd,by simp,fun y hy z hz=>by rw [List.mem_singleton]at hz;rintro rfl;exact hx (hz▸hy)⟩
    ·rw [eap,eal]at y;exact y
    ·rw [eap,eal];exact z
theorem znr{ts:List Tn}{a:Addr}{r:Nat}{S:Sto}{Q:WK}{E:Str→Sto→Prop}(ha:S a=some (.lst (ts.map encT))) (ok:TsOk ts) (hr:110≤r)
  (hb:zlf ts=true→ ∀S',Sub S S'→E "NoTurning" S') (hc:zlf ts=false→(clA ts).isSome=true→ ∀S',Sub S S'→E "Clash" S')
  (hq:zlf ts=false→clA ts=none→ ∀S' k,Sub S S'→S k=none→S' k=some (.lst (ts.map encT))→Q (.ref k) S'):zdD (r+1) [.ref a] S Q E:=by
 rw [zdD];walk_at "wp";rw [zaj ha,List.length_map];have hn:=ok.n;by_cases h8:8<ts.length
 ·rw [if_pos (by omega),zfi];walk_at "wp";refine⟨by decide,hb ?_ _ .refl⟩;unfold zlf;rw [decide_eq_true h8];rfl
 ·rw [if_neg (by omega)];refine⟨Nat.zero_le _,fun b hb'=>?_⟩;have fa:=keep (x:=Ob.lst []) ha hb';have sb:Sub S (put S b (Ob.lst [])):= .put .refl hb';have fb:put S b (Ob.lst []) b=some (.lst (([]:List Str).map W.str)):=zag;have hab:a≠b:=by rintro rfl;rw [ha]at hb';cases hb'
  rw [zaj fa];obtain⟨r,rfl⟩:∃r',r=r'+1:=⟨r - 1,by omega⟩
  have e8:decide (8<ts.length)=false:=decide_eq_false h8;refine ziy (S0:=S) (by omega) hab hb' ts [] sb fa fb (by simp) (by simp;omega) ok.t ok.l ok.r (fun z σ S' s'=>hb ?_ S' s') fun z x2 S' s' fa'=>?_
  ·unfold zlf;rw [e8,Bool.false_or];rw [List.nil_append]at z;cases ea:ts.all okT with
   |false=>simp
   |true=>
    rw [ea]at z;have:¬(ts.map (·.1)).Nodup:=fun y=>z ⟨y,rfl⟩;rw [decide_eq_false this];rfl
  ·rw [List.nil_append]at z;have eb:zlf ts=false:=by
    unfold zlf;rw [e8,Bool.false_or,decide_eq_true z.1,z.2];rfl
   walk_at "wp";refine zpg fa' (fun t ht=>by have:=ok.l t ht;omega) (by omega) (by omega) ?_
   cases ec:clA ts with
   |none=>
    simp only[zrY];walk_at "wp";rw [zaj fa'];intro k hk;have hk':S k=none:=by
     cases e:S k with
     |none=>rfl
     |some o=>rw [s' k o e]at hk;cases hk
    exact⟨_, .refl,hq eb ec _ k (s'.trans (.put .refl hk)) hk' zag⟩
   |some w=>
    obtain⟨k,_,ek⟩:=List.exists_of_findSome?_eq_some ec;obtain⟨x,_,ex⟩:=List.exists_of_findSome?_eq_some ek;obtain⟨j,_,ej⟩:=List.exists_of_findSome?_eq_some ex;have h2:=hc eb (by rw [ec];rfl) S' s';unfold clJ at ej;split at ej
    ·cases ej;simp only[zrY];walk_at "wp";rw [zfi];walk_at "wp";exact⟨by decide,h2⟩
    ·cases ej
theorem zcw{α β γ:Type}(g:β→γ) (f:α→Option β):∀xs:List α,xs.findSome? (fun x=>(f x).map g)=(xs.findSome? f).map g
 | []=>rfl
 |x::xs=>by
  rw [List.findSome?_cons,List.findSome?_cons];cases f x with
  |none=>exact zcw g f xs
  |some b=>rfl
noncomputable def ztU (_:W):W:= .bl true
noncomputable def glJ (ts:List Tn) (k:Nat) (x:List Int×Tr) (j:Nat):Option W:=(clJ ts k x j).map ztU
noncomputable def glX (ts:List Tn) (k:Nat) (x:List Int×Tr):Option W:=(clX ts k x).map ztU
noncomputable def glK (ts:List Tn) (k:Nat):Option W:=(clK ts k).map ztU
theorem ztk (ts:List Tn) (k:Nat) (x:List Int×Tr):glX ts k x=(List.range ts.length).findSome? (glJ ts k x):=(zcw ..).symm
theorem zuv (ts:List Tn) (k:Nat):glK ts k=((lf ts k).plt []).findSome? (glX ts k):=(zcw ..).symm
theorem zpG (ts:List Tn):(clA ts).map ztU=(List.range ts.length).findSome? (glK ts):=(zcw ..).symm
theorem ziR{ts:List Tn}{a:Addr}{r:Nat}{S:Sto}{Q:WK}{E:Str→Sto→Prop}(ha:S a=some (.lst (ts.map encT))) (hw:∀t∈ts,t.2.1.weight≤80) (hn:ts.length≤100) (h:Q (.bl (clA ts).isSome) S):zbh (r+3) [.ref a] S Q E:=by
 have idx:∀k,k<ts.length→atI (ts.map encT) (k:Int)=some (.tup [.str (ts.getD k Tn0).1,enc (lf ts k),enc (ts.getD k Tn0).2.2]):=fun k hk=>by
  obtain⟨t,mt,et,el⟩:=zpj hk;rw [zbB,List.getElem?_map,et,List.getD_eq_getElem?_getD,et,el];rfl
 rw [zbh];walk_at "wp";rw [zaj ha,List.length_map,Int.toNat_natCast,zeS];refine⟨⟨by omega,by omega⟩,?_⟩
 refine zcX ?_ (fun σ=>∃x1 x2 x3 x4,σ=[some (.ref a),x1,x2,x3,x4]) (fun(i:Nat)=>W.int i) (glK ts) _ _ ⟨_,_,_,_,rfl⟩ (fun k hk σ N hI hno hret=>?_) (fun e σ hI=>?_) fun w e S' sb=>?_
 ·exact trivial
 ·obtain⟨x1,x2,x3,x4,rfl⟩:=hI;have hk':=List.mem_range.mp hk;obtain⟨t,mt,et,el⟩:=zpj hk';have hwl:(lf ts k).weight≤80:=by rw [el];exact hw t mt
  have hdl:=zal (lf ts k);simp only[zcs];walk_at "wp";rw [zaj ha,idx k hk'];walk_at "wp";rw [show atI [W.str (ts.getD k Tn0).1,enc (lf ts k),enc (ts.getD k Tn0).2.2] 1=some (enc (lf ts k)) from rfl];walk_at "wp";refine zbD (by omega) (by omega) fun b hb=>?_;have fa:=keep (x:=Ob.lst (((lf ts k).plt []).map zaY)) ha hb;have fb:put S b (Ob.lst (((lf ts k).plt []).map zaY)) b=some (.lst (((lf ts k).plt []).map zaY)):=zag;have sub:Sub S (put S b (Ob.lst (((lf ts k).plt []).map zaY))):= .put .refl hb;walk_at "wp";generalize put S b (Ob.lst (((lf ts k).plt []).map zaY))=S1 at fa fb sub⊢;rw [zuv]at hno hret;refine zcX ?_ (fun σ=>∃x2 x3 x4,σ=[some (.ref a),some (.int k),x2,x3,x4]) zaY (glX ts k) _ _ ⟨_,_,_,rfl⟩ (fun x hx σ N2 hI hno2 hret2=>?_) (fun e σ hI=>?_) fun w e S' sb=>?_
  ·exact fb
  ·obtain⟨x2,x3,x4,rfl⟩:=hI;obtain⟨h4,h5⟩:=znD hx;obtain⟨sw,sd⟩:=zhe _ h4;simp only[zcC,zaY];walk_at "wp";rw [zaj fa,List.length_map,Int.toNat_natCast,zeS];refine⟨⟨by omega,by omega⟩,?_⟩
   rw [ztk]at hno2 hret2;refine zcX ?_ (fun σ=>∃x4,σ=[some (.ref a),some (.int k),some (zca x.1),some (enc x.2),x4]) (fun(i:Nat)=>W.int i) (glJ ts k x) _ _ ⟨_,rfl⟩ (fun j hj σ N3 hI hno3 hret3=>?_) (fun e σ hI=>?_) fun w e S' sb=>?_
   ·exact trivial
   ·obtain⟨x4,rfl⟩:=hI;have hj':=List.mem_range.mp hj;obtain⟨tj,mtj,etj,elj⟩:=zpj hj';have hwj:(lf ts j).weight≤80:=by rw [elj];exact hw tj mtj
    obtain⟨p,u⟩:=x;dsimp only at *;unfold glJ clJ at hno3 hret3;dsimp only at hno3 hret3;have ej:((j:Int) == (k:Int))=(j == k):=by rw [Bool.eq_iff_iff,beq_iff_eq,beq_iff_eq];omega
    have e1':atI [W.str (ts.getD j Tn0).fst,enc (lf ts j),enc (ts.getD j Tn0).snd.snd] 1=some (enc (lf ts j)):=rfl;simp only[zct];cases u with
    |bl n=>
     have no:=hno3 (by simp [Tr.isBl]);simp only[enc]at no⊢;walk_at "wp";exact no _ _ ⟨_,rfl⟩ .refl
    |nd s us=>
     have isb:(Tr.nd s us).isBl=false:=rfl;rw [isb]at hno3 hret3;have en2:enc (.nd s us)= .tup (.str s::zaH us):=by simp [enc]
     have tail:(p.isEmpty&&j == k)=false→zbV (r+2) [enc (.nd s us),enc (lf ts j)] S1 (fun w S'=>znQ w S' fun b S1=>if b=true then ∃S'',Sub S'' S1∧Q (W.bl true) S'' else N3 [some (W.ref a),some (W.int ↑k),some (zca p),some (enc (.nd s us)),some (W.int ↑j)] S1) (fun cl S2=>E cl S2):=fun ec=>by
      rw [ec]at hno3 hret3;refine zoK (by omega) (by omega) ?_;cases em:(Tr.nd s us).mee (lf ts j) with
      |true=>
       rw [em]at hret3;have:=hret3 (W.bl true) (by simp [ztU]) S1 .refl;walk_at "wp";exact this
      |false=>
       rw [em]at hno3;walk_at "wp";exact hno3 (by simp) _ _ ⟨_,rfl⟩ .refl
     rw [en2]at tail hno3⊢;walk_at "wp";simp only[ej,zfj];rw [zaj fa,idx j hj'];walk_at "wp";rw [e1'];cases ejk:j == k with
     |false=>
      have t7:=tail (by rw [ejk,Bool.and_false]);simp only[Bool.not_false,if_true];exact t7
     |true=>
      cases ep:p.isEmpty with
      |false=>
       have t7:=tail (by rw [ep];rfl);simp only[Bool.not_true,Bool.false_eq_true,if_false,Bool.not_false,if_true];exact⟨Nat.zero_le _,t7⟩
      |true=>
       have no:=hno3 (by rw [ep,ejk];simp);simp only[Bool.not_true,Bool.false_eq_true,if_false];exact⟨Nat.zero_le _,no _ _ ⟨_,rfl⟩ .refl⟩
   ·obtain⟨x4,rfl⟩:=hI;exact hno2 e _ _ ⟨_,_,_,rfl⟩ .refl
   ·exact hret2 w e S' sb
  ·obtain⟨x2,x3,x4,rfl⟩:=hI;exact hno e _ _ ⟨_,_,_,_,rfl⟩ sub
  ·exact hret w e S' (sub.trans sb)
 ·obtain⟨x1,x2,x3,x4,rfl⟩:=hI;rw [←zpG]at e;have e':clA ts=none:=by simpa using e
  rw [e']at h;walk_at "wp";exact⟨S, .refl,h⟩
 ·rw [←zpG]at e;obtain⟨v,e1,e2⟩:=Option.map_eq_some_iff.mp e;rw [e1]at h;rw [←e2];exact⟨S,sb,h⟩
mutual
noncomputable def Tr.nob (z:Str):Tr→Tr
 | .bl _=> .nd z []
 | .nd s ts=> .nd s (zoD z ts)
noncomputable def zoD (z:Str):List Tr→List Tr
 | []=>[]
 |t::ts=>t.nob z::zoD z ts
end
theorem zjU (z:Str):∀ts:List Tr,zoD z ts=ts.map (Tr.nob z)
 | []=>by rw [zoD];rfl
 |t::ts=>by rw [zoD,zjU z ts];rfl
mutual
theorem zpD (z:Str):∀t:Tr,(t.nob z).weight=t.weight
 | .bl _=>by simp [Tr.nob,Tr.weight,wts]
 | .nd s ts=>by rw [Tr.nob,Tr.weight,Tr.weight,zll]
theorem zll (z:Str):∀ts:List Tr,wts (zoD z ts)=wts ts
 | []=>by rw [zoD]
 |t::ts=>by rw [zoD,wts,wts,zpD,zll]
end
theorem zfF{z:Str}:∀(d:Nat) {t:Tr}{r:Nat}{S:Sto}{Q:WK}{E:Str→Sto→Prop},t.depth≤d→d≤r+1→t.weight≤90000→Q (enc (t.nob z)) S→zaK (r+1) [enc t, .str z] S Q E
 |0,t,r,S,Q,E,hd,hr,hw,h=>by have:=zdt t;omega
 |d+1, .bl n,r,S,Q,E,hd,hr,hw,h=>by
  rw [Tr.nob]at h;rw [zaK];simp only[enc,zaH]at h⊢;walk_at "wp";exact⟨zak (by decide),S, .refl,h⟩
 |d+1, .nd s ts,r,S,Q,E,hd,hr,hw,h=>by
  rw [Tr.nob]at h;simp only[Tr.depth]at hd;simp only[Tr.weight]at hw;have hk:=zcl ts;rw [zaK];simp only[enc]at h⊢;walk_at "wp";rw [zaA];refine zbJ (fun σ=>∃x,σ=[x,some (.str z)]) enc (fun t=>enc (t.nob z)) trivial ts [] _ ⟨none,rfl⟩ (by simp;omega) (fun x hx σ R hI hR=>?_) ?_
  ·obtain⟨y,rfl⟩:=hI;have hdx:=zeN hx;have hwx:=zeR hx;have:=zdt x;obtain⟨r,rfl⟩:∃r',r=r'+1:=⟨r - 1,by omega⟩
   simp only[zcr];walk_at "wp";exact zfF d (t:=x) (r:=r) (by omega) (by omega) (by omega) (hR _ _ ⟨_,rfl⟩ .refl)
  ·rw [List.nil_append];have e:zaH (zoD z ts)=ts.map fun t=>enc (t.nob z):=by rw [zaA,zjU,List.map_map];rfl
   rw [e]at h;have ec:zdR (W.str s::List.map enc ts) none (some 1)=[W.str s]:=zeB 1;rw [ec];refine⟨zak (by simp;omega),S, .refl,h⟩
theorem zlD{ns:List Int}{first:Int}{a b c:Addr}{ss tt:List Str}{r m:Nat}{S0:Sto}{E:WX}{D:WEnds}{x4:Option W}(hr:155≤r) (hm:m≤9) (hsl:ss.length=8) (hss:∀x∈ss,zkQ x) (htl:tt.length=9) (htt:∀x∈tt,x.length≤8) (ac:a≠c) (bc:b≠c) (h0:S0 c=none)
  (h:∀(S':Sto) (ts:List Tn) x6 x7,Sub S0 S'→S' c=some (.lst (ts.map encT))→ts.length=m→(∀t∈ts,t.1.length≤8∧t.2.1.weight≤14∧t.2.2.weight≤14)→D.nx [some (.scr ns),some (.int first),some (.ref a),some (.ref b),x4,some (.ref c),x6,x7] S')
  {S:Sto}(sb:Sub S0 S) (fa:S a=some (.lst (ss.map W.str))) (fb:S b=some (.lst (tt.map W.str))) (fc:S c=some (.lst [])) :
  forL (wGN 6) (zcg (r+1) zaZ) E D (fun _=>True) (zeF 0 m) [some (.scr ns),some (.int first),some (.ref a),some (.ref b),x4,some (.ref c),none,none] S:=by
 refine zqL (fun i σ S=>Sub S0 S∧S a=some (.lst (ss.map W.str))∧S b=some (.lst (tt.map W.str))∧ ∃ts x6 x7,S c=some (.lst (ts.map encT))∧ts.length=i∧(∀t∈ts,t.1.length≤8∧t.2.1.weight≤14∧t.2.2.weight≤14)∧σ=[some (.scr ns),some (.int first),some (.ref a),some (.ref b),x4,some (.ref c),x6,x7]) m (fun i hi σ S N hI hN=>?_) (fun σ S hI=>?_) ⟨sb,fa,fb,[],none,none,fc,rfl,by simp,rfl⟩
 ·obtain⟨sb,fa,fb,ts,x6,x7,fc,hl,ht,rfl⟩:=hI;obtain⟨title,etl,mtl⟩:=zcG (ss:=tt) (i:=(i:Int)) (by omega) (by omega);have e3:zdR (ss.map W.str) none (some 3)=(ss.take 3).map W.str:=by
   have:=zeB (xs:=ss.map W.str) 3;rw [List.map_take];exact this
  obtain⟨s0,es0,ms0⟩:=zcG (ss:=ss) (i:=0) (by decide) (by omega);have fin:∀(S':Sto) (w:Tn) (x7:Option W),Sub S S'→w.1.length≤8∧w.2.1.weight≤14∧w.2.2.weight≤14→N [some (.scr ns),some (.int first),some (.ref a),some (.ref b),x4,some (.ref c),some (.int i),x7] (put S' c (.lst (ts.map encT++[encT w]))):=fun S' w x7 s' hw=>by
   have ec:put S' c (.lst (ts.map encT++[encT w])) c=some (.lst ((ts++[w]).map encT)):=by rw [zag,List.map_append];rfl
   refine hN _ _ _ .refl ⟨fun d o e=>?_,by rw [zaI ac];exact s' _ _ fa,by rw [zaI bc];exact s' _ _ fb,ts++[w],_,_,ec,by rw [List.length_append,hl];rfl,fun t hm=>?_,rfl⟩
   ·by_cases hd:d=c
    ·rw [hd,h0]at e;cases e
    ·rw [zaI hd];exact s' _ _ (sb _ _ e)
   ·rcases List.mem_append.mp hm with q |q
    ·exact ht t q
    ·rw [List.mem_singleton]at q;rw [q];exact hw
  simp only[zcg];walk_at "wp";simp only[zaj fa,zaj fb,etl,e3];have bi:(0:Int)≤(if(5:Int)<(i:Int) then 5 else(i:Int))∧(if(5:Int)<(i:Int) then 5 else(i:Int))≤5:=by split<;>omega
  refine⟨.inl ⟨by decide,by decide⟩,fun p hp=>?_⟩
  replace fa:=keep (x:=Ob.lst ((ss.take 3).map W.str)) fa hp;replace fb:=keep (x:=Ob.lst ((ss.take 3).map W.str)) fb hp;replace fc:=keep (x:=Ob.lst ((ss.take 3).map W.str)) fc hp;have sp:Sub S (put S p (Ob.lst ((ss.take 3).map W.str))):= .put .refl hp;have fp:put S p (Ob.lst ((ss.take 3).map W.str)) p=some (.lst ((ss.take 3).map W.str)):=zag;generalize put S p (Ob.lst ((ss.take 3).map W.str))=S1 at fa fb fc sp fp⊢;simp only[zaj fb,etl];generalize (if(5:Int)<(i:Int) then 5 else(i:Int))=q at bi;refine zkM (r:=r) (by omega) (by omega) fp (by rw [List.length_take];omega) (by omega) fun t rt g0 g1 g2 g3 _ _ _ _ hm hnb hw hwr hmr=>?_;have hrw:=zgj t 0;generalize (t.ren 0).1=l at hrw⊢;have h8:=htt title mtl;obtain⟨s1,es1,ms1⟩:=zcG (ss:=ss++[Str.ofString "zzzzzzzz"]) (i:=(i:Int)) (by omega) (by rw [List.length_append,hsl];simp;omega);rw [List.map_append,show [Str.ofString "zzzzzzzz"].map W.str=[W.str (Str.ofString "zzzzzzzz")] from rfl]at es1;simp only[zaj fa,zaj fc,es1,List.length_map];refine⟨⟨by decide,by decide⟩,by decide,?_⟩
  split
  ·walk_at "wp";simp only[show ∀x y z:W,atI [x,y,z] 2=some z from fun _ _ _=>rfl,show ∀x y z:W,atI [x,y,z] 1=some y from fun _ _ _=>rfl];simp only[zaj fb,etl,zaj fa,es0];obtain⟨u,eu,hu⟩:∃u:Tr,W.tup (W.str s1::(List.replicate (if((i:Int) % 2 == 0)=true then(1:Int) else 0).toNat [W.int 0]).flatten)=enc u∧u.weight≤2:=by
    by_cases h2:((i:Int) % 2 == 0)=true
    ·rw [if_pos h2];exact⟨.nd s1 [.bl 0],by simp [enc,zaH],by simp [Tr.weight,wts]⟩
    ·rw [if_neg h2];exact⟨.nd s1 [],by simp [enc,zaH],by simp [Tr.weight,wts]⟩
   have hz:(if((i:Int) % 2 == 0)=true then(1:Int) else 0)=1∨(if((i:Int) % 2 == 0)=true then(1:Int) else 0)=0:=by split<;>simp
   simp only[eu];have hdr:=zal rt;refine⟨by decide,zak (by omega),by decide,by decide,by decide,⟨by simp,?_,?_,zak ?_⟩,zak ?_,by decide,zfF rt.depth (Nat.le_refl _) (by omega) (by omega) ?_⟩
   ·rcases hz with e |e<;>rw [e]<;>decide
   ·rcases hz with e |e<;>rw [e]<;>decide
   ·rcases hz with e |e<;>rw [e]<;>decide
   ·rcases hz with e |e<;>rw [e]<;>decide
   ·simp only[zaj fc,List.length_map];have hnw:=zpD s0 rt;exact⟨by decide,trivial,zbj (by omega),fin S1 (title,u,rt.nob s0) _ sp ⟨h8,by dsimp only;omega,by dsimp only;omega⟩⟩
  ·exact⟨trivial,zbj (by omega),fin S1 (title,l,rt) _ sp ⟨h8,by dsimp only;omega,by dsimp only;omega⟩⟩
 ·obtain⟨sb,fa,fb,ts,x6,x7,fc,hl,ht,rfl⟩:=hI;exact h S ts _ _ sb fc hl ht
theorem zrR{ns:List Int}{first:Int}{r:Nat}{S:Sto}{Q:WK}{E:Str→Sto→Prop}(hr:160≤r) (h0:0≤first)
  (h:∀S' k ts,Sub S S'→S k=none→S' k=some (.lst (ts.map encT))→TsOk ts→(∀t∈ts,t.1.length≤8∧t.2.1.weight≤14∧t.2.2.weight≤14)→Q (.ref k) S'):zcm (r+1) [.scr ns, .int first] S Q E:=by
 obtain⟨r,rfl⟩:∃r',r=r'+3:=⟨r - 3,by omega⟩
 rw [zcm];walk_at "wp";refine zhh (many:=8) (by decide) (by decide) (by decide) fun a ss ha hsl hss=>?_;have fa:put S a (Ob.lst (ss.map W.str)) a=some (.lst (ss.map W.str)):=zag;have sb:Sub S (put S a (Ob.lst (ss.map W.str))):= .put .refl ha;generalize put S a (Ob.lst (ss.map W.str))=S1 at fa sb⊢
 try walk_at "wp"
 refine zln (many:=8) (by decide) (by decide) (by decide) fun b tt hb htl htt=>?_;replace fa:=keep (x:=Ob.lst (tt.map W.str)) fa hb;replace sb:=sb.trans (.put .refl hb:Sub S1 (put S1 b (Ob.lst (tt.map W.str))));have fb:put S1 b (Ob.lst (tt.map W.str)) b=some (.lst (tt.map W.str)):=zag;generalize put S1 b (Ob.lst (tt.map W.str))=S2 at fa fb sb⊢
 try walk_at "wp"
 rw [zaj fb,List.length_map];refine⟨by decide,zak (by omega),fun b2 hb2=>⟨by decide,⟨by decide,by decide⟩,by decide,?_⟩⟩
 replace fa:=keep (x:=Ob.lst (tt.map W.str++[W.str (Str.ofString "Zz")])) fa hb2;replace sb:=sb.trans (.put .refl hb2:Sub S2 (put S2 b2 (Ob.lst (tt.map W.str++[W.str (Str.ofString "Zz")]))));have fb2:put S2 b2 (Ob.lst (tt.map W.str++[W.str (Str.ofString "Zz")])) b2=some (.lst ((tt++[Str.ofString "Zz"]).map W.str)):=by rw [zag,List.map_append];rfl
 generalize put S2 b2 (Ob.lst (tt.map W.str++[W.str (Str.ofString "Zz")]))=S3 at fa fb2 sb⊢;have kZ:(Str.ofString "Zz").length≤8:=by decide +kernel
 have h8:∀x∈tt++[Str.ofString "Zz"],x.length≤8:=fun x hx=>by
  rcases List.mem_append.mp hx with q |q
  ·obtain⟨c,rest,hc,_,_,hrl,_⟩:=htt x q;rw [zfD,hc,List.length_cons];omega
  ·rw [List.mem_singleton]at q;rw [q];exact kZ
 have main:∀(m:Nat) (x4:Option W) (c:Addr),m≤9→S3 c=none→forL (wGN 6) (zcg (r+3) zaZ) (fun c x S'=>E c S') { nx:=zbm (zaf 5) (fun c x S'=>E c S') { nx:=fun x S'=>∃S'',Sub S'' S'∧Q W.non S'',rt:=fun w S'=>∃S'',Sub S'' S'∧Q w S'' },rt:=fun w S'=>∃S'',Sub S'' S'∧Q w S'' } (fun x=>True) (zeF 0 m) [some (W.scr ns),some (W.int first),some (W.ref a),some (W.ref b2),x4,some (W.ref c),none,none] (put S3 c (Ob.lst [])):=fun m x4 c hm hc=>by
  have hc0:S c=none:=by
   cases e:S c with
   |none=>rfl
   |some o=>rw [sb c o e]at hc;cases hc
  have ac:a≠c:=by rintro rfl;rw [fa]at hc;cases hc
  have bc:b2≠c:=by rintro rfl;rw [fb2]at hc;cases hc
  refine zlD (r:=r+2) (by omega) hm hsl hss (by rw [List.length_append,htl];rfl) h8 ac bc hc0 (fun S' ts x6 x7 s' e hl ht=>?_) (sb.trans (.put .refl hc)) (keep fa hc) (keep fb2 hc) zag
  try walk_at "wp"
  exact⟨S', .refl,h S' c ts s' hc0 e ⟨by omega,fun t hh=>by have:=(ht t hh).1;omega,fun t hh=>by have:=(ht t hh).2.1;omega,fun t hh=>by have:=(ht t hh).2.2;omega⟩ ht⟩
 split
 ·exact⟨⟨by decide,by decide⟩,by decide,Nat.zero_le _,fun c hc=>⟨⟨by omega,by omega⟩,main _ _ c (by omega) hc⟩⟩
 ·exact⟨Nat.zero_le _,fun c hc=>⟨⟨by omega,by omega⟩,main _ _ c (by omega) hc⟩⟩
section
variable {S:Sto}{E:WX}{D:WEnds}{T:WS}{ns:List Int}{a b c f:Addr}{ts:List Tn}{y1 y2 y3 y4 y5 y6 y7 y8 y9 y10 y11:Option W}
noncomputable def Ts8 (ts:List Tn):Prop:=∀t∈ts,t.1.length≤8∧t.2.1.weight≤14∧t.2.2.weight≤14
theorem zqN{i:Int}(h0:0≤i) (h1:i<ts.length):∃t,t∈ts∧atI (ts.map encT) i=some (.tup [.str t.1,enc t.2.1,enc t.2.2]):=by
 obtain⟨w,h,m⟩:=zhm (xs:=ts.map encT) h0 (by simpa using h1);obtain⟨x,hx,rfl⟩:=List.mem_map.mp m;exact⟨x,hx,h⟩
theorem zwj (h:∀n:Int,0≤n→T E D [some (.scr ns),some (.int n),y2,y3,y4,y5,y6,y7,y8,y9,y10,y11] S):zdg 199 T E D [some (.scr ns),y1,y2,y3,y4,y5,y6,y7,y8,y9,y10,y11] S:=by
 rw [zdg];walk_at "wp";exact zeO (by decide) (by decide) fun n h0 _=>h n h0
theorem zvA{n:Int}(h0:0≤n) (h:∀S' a ts,S' a=some (.lst (ts.map encT))→TsOk ts→Ts8 ts→T E D [some (.scr ns),some (.int n),some (.ref a),y3,y4,y5,y6,y7,y8,y9,y10,y11] S'):zcV 199 T E D [some (.scr ns),some (.int n),y2,y3,y4,y5,y6,y7,y8,y9,y10,y11] S:=by
 rw [zcV];walk_at "wp";exact zrR (r:=198) (by decide) h0 fun S' k ts _ _ e o e8=>h S' k ts e o e8
theorem zvm{x1 x2:Option W}(h:∀n:Int,0≤n→T E D [some (.scr ns),x1,x2,some (.int n),y4,y5,y6,y7,y8,y9,y10,y11] S):zcU 199 T E D [some (.scr ns),x1,x2,y3,y4,y5,y6,y7,y8,y9,y10,y11] S:=by
 rw [zcU];walk_at "wp";exact zeO (by decide) (by decide) fun n h0 _=>h n h0
theorem zkb{i:Nat}{t:Tn}:(ts.map encT).set i (encT t)=(ts.set i t).map encT:=by rw [List.map_set]
theorem zqb{i:Nat}{t:Tn}(o:TsOk ts) (h1:t.1.length≤20) (h2:t.2.1.weight≤40) (h3:t.2.2.weight≤40):TsOk (ts.set i t):=by
 refine⟨by rw [List.length_set];exact o.n,fun u hu=>?_,fun u hu=>?_,fun u hu=>?_⟩<;>rcases List.mem_or_eq_of_mem_set hu with q |rfl
 ·exact o.t u q
 ·exact h1
 ·exact o.l u q
 ·exact h2
 ·exact o.r u q
 ·exact h3
theorem zwc{x y z:W}:atI [x,y,z] 1=some y:=rfl
theorem zwg{x y z:W}:atI [x,y,z] 2=some z:=rfl
theorem zif{n:Nat}{k:Int}(h0:0≤k) (h1:k<n):ixN n k=some k.toNat:=by unfold ixN;rw [if_pos h0,if_pos h1]
theorem zvW{x1:Option W}{cell:Int}(fa:S a=some (.lst (ts.map encT))) (o:TsOk ts) (o8:Ts8 ts)
  (h:∀S' ts' x4 x5,S' a=some (.lst (ts'.map encT))→TsOk ts'→Ts8 ts'→T E D [some (.scr ns),x1,some (.ref a),some (.int cell),x4,x5,y6,y7,y8,y9,y10,y11] S'):zcW 199 T E D [some (.scr ns),x1,some (.ref a),some (.int cell),y4,y5,y6,y7,y8,y9,y10,y11] S:=by
 have same:=h S ts y4 y5 fa o o8;rw [zcW];walk_at "wp";rw [zaj fa,List.length_map];by_cases hl:(1:Int)<ts.length
 ·rw [if_pos hl];refine⟨by decide,?_⟩;by_cases hc:(cell % 3 == 1)=true
  ·rw [if_pos hc,zdL];walk_at "wp";rw [zaj fa,List.length_map];refine⟨⟨by decide,by decide⟩,by omega,?_⟩
   have m0:0≤cell / 3 % (ts.length:Int):=Int.emod_nonneg _ (by omega);have m1:cell / 3 % (ts.length:Int)<ts.length:=Int.emod_lt_of_pos _ (by omega);generalize cell / 3 % (ts.length:Int)=at' at m0 m1;rw [zdv];walk_at "wp";simp only[zaj fa,List.length_map];refine⟨⟨by decide,by decide⟩,by omega,by omega,?_⟩
   generalize at'+1+cell / 60 % ((ts.length:Int) - 1)=z;have n0:0≤z % (ts.length:Int):=Int.emod_nonneg _ (by omega);have n1:z % (ts.length:Int)<ts.length:=Int.emod_lt_of_pos _ (by omega);generalize z % (ts.length:Int)=j at n0 n1;obtain⟨tj,mj,ej⟩:=zqN n0 n1;obtain⟨ta,ma,ea⟩:=zqN m0 m1;rw [zdx];walk_at "wp";simp only[zaj fa,ej,ea];walk_at "wp";simp only[zaj fa,ea];walk_at "wp";simp only[zaj fa,ea,znc,zwc];walk_at "wp";simp only[zwg];rw [zaj fa];refine⟨by decide,at'.toNat,by rw [List.length_map];exact zif m0 m1,?_⟩
   have hj:=o8 tj mj;have ha:=o8 ta ma;refine h _ (ts.set at'.toNat (tj.1,ta.2.1,ta.2.2)) _ _ (by rw [zag,←zkb];rfl) (zqb o (by dsimp only;omega) (by dsimp only;omega) (by dsimp only;omega)) fun u hu=>?_;rcases List.mem_or_eq_of_mem_set hu with q |rfl
   ·exact o8 u q
   ·exact⟨hj.1,ha.2⟩
  ·rw [if_neg hc];exact same
 ·rw [if_neg hl];exact same
theorem zvU{x1 x5:Option W}{cell:Int}(fa:S a=some (.lst (ts.map encT))) (o:TsOk ts) (o8:Ts8 ts)
  (h:∀S' ts' x4,S' a=some (.lst (ts'.map encT))→TsOk ts'→T E D [some (.scr ns),x1,some (.ref a),some (.int cell),x4,x5,y6,y7,y8,y9,y10,y11] S'):zcZ 199 T E D [some (.scr ns),x1,some (.ref a),some (.int cell),y4,x5,y6,y7,y8,y9,y10,y11] S:=by
 have same:=h S ts y4 fa o;rw [zcZ];walk_at "wp";rw [zaj fa,List.length_map];by_cases hl:(0:Int)<ts.length
 ·rw [if_pos hl];refine⟨by decide,?_⟩;by_cases hc:(cell % 3 == 2)=true
  ·rw [if_pos hc,zdK];walk_at "wp";rw [zaj fa,List.length_map];refine⟨⟨by decide,by decide⟩,by omega,?_⟩
   have m0:0≤cell / 3 % (ts.length:Int):=Int.emod_nonneg _ (by omega);have m1:cell / 3 % (ts.length:Int)<ts.length:=Int.emod_lt_of_pos _ (by omega);generalize cell / 3 % (ts.length:Int)=at' at m0 m1;obtain⟨ta,ma,ea⟩:=zqN m0 m1;have ha:=o8 ta ma;rw [zdE];walk_at "wp";simp only[zaj fa,ea];refine⟨⟨by decide,by decide⟩,?_⟩
   refine zhh (many:=8) (by decide) (by decide) (by decide) fun f ss hf hsl hss=>?_;have fa':=keep (x:=Ob.lst (ss.map W.str)) fa hf;have ff:put S f (Ob.lst (ss.map W.str)) f=some (.lst (ss.map W.str)):=zag;generalize put S f (Ob.lst (ss.map W.str))=S1 at fa' ff⊢;have hsl':∀s∈ss,s.length≤8:=fun s hs=>by rw [zfD];exact(hss s hs).2.1
   try walk_at "wp"
   refine zic (r:=198) ha.1 ha.2.1 ha.2.2 ff (by omega) hsl' (by decide) fun y l' u' hy hl' hu'=>?_;simp only[znc];walk_at "wp";rw [zaj fa'];refine⟨at'.toNat,by rw [List.length_map];exact zif m0 m1,?_⟩
   exact h _ (ts.set at'.toNat (y,l',u')) _ (by rw [zag,←zkb];rfl) (zqb o hy hl' hu')
  ·rw [if_neg hc];exact same
 ·rw [if_neg hl];exact same
theorem zvG{x1 x3 x4 x5:Option W}(fa:S a=some (.lst (ts.map encT))) (o:TsOk ts) (h:∀S' b,S' a=some (.lst (ts.map encT))→S' b=some (.lst ((ts.map (·.1)).map W.str))→T E D [some (.scr ns),x1,some (.ref a),x3,x4,x5,some (.ref b),y7,y8,y9,y10,y11] S'):zcS 199 T E D [some (.scr ns),x1,some (.ref a),x3,x4,x5,y6,y7,y8,y9,y10,y11] S:=by
 have hn:=o.n;rw [zcS];walk_at "wp";rw [zaj fa];refine zbJ (fun σ=>∃x,σ=[x]) encT (fun t=>W.str t.1) ?_ ts [] _ ⟨none,rfl⟩ (by simp;omega) (fun x hx σ R hI hR=>?_) ?_
 ·exact fa
 ·obtain⟨y,rfl⟩:=hI;simp only[encT,zeX];walk_at "wp";exact hR _ _ ⟨_,rfl⟩ .refl
 ·rw [List.nil_append];intro b hb;refine h _ b (keep fa hb) ?_;rw [zag,List.map_map];rfl
theorem zlj:∀(bs:List Bool),zfe (bs.map W.bl)=some bs
 | []=>rfl
 |b::bs=>by rw [List.map_cons,zfe,zlj bs];rfl
theorem zvK{x1 x3 x4 x5:Option W}(fa:S a=some (.lst (ts.map encT))) (fb:S b=some (.lst ((ts.map (·.1)).map W.str))) (o:TsOk ts) (h:T E D [some (.scr ns),x1,some (.ref a),x3,x4,x5,some (.ref b),some (.bl (zlf ts)),y8,y9,y10,y11] S):zdf 199 T E D [some (.scr ns),x1,some (.ref a),x3,x4,x5,some (.ref b),y7,y8,y9,y10,y11] S:=by
 have hn:=o.n;rw [zdf];walk_at "wp";rw [zaj fa,List.length_map];unfold zlf at h;by_cases h8:8<ts.length
 ·rw [decide_eq_true h8]at h;rw [decide_eq_true (by omega)];exact h
 ·rw [decide_eq_false h8,Bool.false_or]at h;rw [decide_eq_false (by omega)];dsimp only;rw [znh];walk_at "wp";rw [zaj fb];refine⟨ts.map (·.1),zfX _,by rw [List.length_map];omega,?_⟩
  have f1:=znv (ts.map (·.1));have f2:=ztg (ts.map (·.1));simp only[List.length_map]at f1 f2
  try walk_at "wp"
  rw [zaj fb];simp only[List.length_map];by_cases nd:(ts.map (·.1)).Nodup
  ·rw [decide_eq_true nd,Bool.not_true,Bool.false_or]at h;rw [f2.mpr nd]
   try walk_at "wp"
   rw [decide_eq_false (by omega)];dsimp only;rw [zaj fa];refine zbJ (fun σ=>∃x,σ=[x]) encT (fun t=>W.bl (okT t)) ?_ ts [] _ ⟨none,rfl⟩ (by simp;omega) (fun x hx σ R hI hR=>?_) ?_
   ·exact fa
   ·obtain⟨y,rfl⟩:=hI;simp only[encT,zeV];walk_at "wp";have q1:=o.t x hx;have q2:=o.l x hx;have q3:=o.r x hx;exact znm (by omega) (by omega) (by omega) (hR _ _ ⟨_,rfl⟩ .refl)
   ·rw [List.nil_append];have e:ts.map (fun t=>W.bl (okT t))=(ts.map okT).map W.bl:=by rw [List.map_map];rfl
    rw [e,zlj];dsimp only;have e2:(ts.map okT).all id=ts.all okT:=by rw [List.all_map];rfl
    rw [e2];exact h
  ·have hlt:(fmS (ts.map (·.1))).length<ts.length:=by
    rcases Nat.lt_or_eq_of_le f1 with q |q
    ·exact q
    ·exact absurd (f2.mp q) nd
   rw [decide_eq_false nd]at h
   try walk_at "wp"
   rw [decide_eq_true (by omega)];exact h
structure P13 (S:Sto) (a c k:Addr) (ts:List Tn):Prop where
  fa:S a=some (.lst (ts.map encT))
  fc:S c=some (.lst (ts.map encT))
  o:TsOk ts
  ne:a≠c
  fk:S k=some (.lst [])
theorem zvt{x1 x3 x4 x5 x6 x7:Option W}(fa:S a=some (.lst (ts.map encT))) (h:∀S' c,S' a=some (.lst (ts.map encT))→S' c=some (.lst (ts.map encT))→a≠c→T E D [some (.scr ns),x1,some (.ref a),x3,x4,x5,x6,x7,some (.ref c),y9,y10,y11] S'):zdd 199 T E D [some (.scr ns),x1,some (.ref a),x3,x4,x5,x6,x7,y8,y9,y10,y11] S:=by
 rw [zdd];walk_at "wp";rw [zaj fa];intro c hc;exact h _ c (keep fa hc) zag (by rintro rfl;rw [fa]at hc;cases hc)
theorem zvw{x1 x3 x4 x5 x6 x7:Option W}(fa:S a=some (.lst (ts.map encT))) (fc:S c=some (.lst (ts.map encT))) (o:TsOk ts) (ne:a≠c) (h:∀S' k,P13 S' a c k ts→T E D [some (.scr ns),x1,some (.ref a),x3,x4,x5,x6,x7,some (.ref c),some (.ref k),y10,y11] S'):zde 199 T E D [some (.scr ns),x1,some (.ref a),x3,x4,x5,x6,x7,some (.ref c),y9,y10,y11] S:=by
 rw [zde];walk_at "wp";exact⟨by decide,fun k hk=>h _ k ⟨keep fa hk,keep fc hk,o,ne,zag⟩⟩
theorem zua{x1 x2 x3 x4 x5 x6 x7 x8 x9:Option W}(h:T E D [some (.scr ns),x1,x2,x3,x4,x5,x6,x7,x8,x9,some .non,y11] S):zcB 199 T E D [some (.scr ns),x1,x2,x3,x4,x5,x6,x7,x8,x9,y10,y11] S:=by
 rw [zcB];walk_at "wp";exact h
theorem P13.sub{S':Sto}{k:Addr}(P:P13 S a c k ts) (s:Sub S S'):P13 S' a c k ts:=⟨s _ _ P.fa,s _ _ P.fc,P.o,P.ne,s _ _ P.fk⟩
theorem ztd{x1 x3 x4 x5 x6 x7:Option W}{k:Addr}(P:P13 S a c k ts)
  (hb:∀S' k' (b0:Bool),S' a=some (.lst (ts.map encT))→S' c=some (.lst (ts.map encT))→zlf ts=b0→(b0=false→(clA ts).isSome=true)→S' k'=some (.lst [.bl b0, .bl (!b0), .bl true])→T E D [some (.scr ns),x1,some (.ref a),x3,x4,x5,x6,x7,some (.ref c),some (.ref k'),some .non,none] S')
  (hq:∀S' f,P13 S' a c k ts→zlf ts=false→clA ts=none→S' f=some (.lst (ts.map encT))→f≠a→f≠c→T E D [some (.scr ns),x1,some (.ref a),x3,x4,x5,x6,x7,some (.ref c),some (.ref k),some (.ref f),none] S') :
  zcD 199 T E D [some (.scr ns),x1,some (.ref a),x3,x4,x5,x6,x7,some (.ref c),some (.ref k),some .non,none] S:=by
 rw [zcD];walk_at "wp";refine znr (r:=198) P.fc P.o (by decide) (fun eb S' s'=>?_) (fun eb ec S' s'=>?_) fun eb ec S' f s' hf ef=>?_
 ·refine⟨List.mem_cons_self,fun e=>⟨by decide,fun k' hk'=>hb _ k' true (keep (s' _ _ P.fa) hk') (keep (s' _ _ P.fc) hk') eb (by simp) ?_⟩⟩;have q1:ziH (Str.ofString "NoTurning") (Str.ofString "NoTurning")=true:=by decide
  have q2:ziH (Str.ofString "NoTurning") (Str.ofString "Clash")=false:=by decide
  have q3:ziH (Str.ofString "NoTurning") (Str.ofString "ValueError")=true:=by decide
  rw [zag,q1,q2,q3];rfl
 ·refine⟨List.mem_cons_of_mem _ List.mem_cons_self,fun e=>⟨by decide,fun k' hk'=>hb _ k' false (keep (s' _ _ P.fa) hk') (keep (s' _ _ P.fc) hk') eb (fun _=>ec) ?_⟩⟩;have q1:ziH (Str.ofString "Clash") (Str.ofString "NoTurning")=false:=by decide
  have q2:ziH (Str.ofString "Clash") (Str.ofString "Clash")=true:=by decide
  have q3:ziH (Str.ofString "Clash") (Str.ofString "ValueError")=true:=by decide
  rw [zag,q1,q2,q3];rfl
 ·exact hq S' f (P.sub s') eb ec ef (by rintro rfl;rw [P.fa]at hf;cases hf) (by rintro rfl;rw [P.fc]at hf;cases hf)
theorem zwm (n:Nat) (t:Tn) (h1:t.2.1.depth<n) (h2:t.2.2.depth<n):eqF S (n+1) (encT t) (encT t)=some true:=by
 obtain⟨n,rfl⟩:∃m,n=m+1:=⟨n - 1,by omega⟩
 rw [encT,zpV,zcJ,zcJ,zcJ,zcJ,zmh,zrJ _ _ _ h1,zrJ _ _ _ h2,zhF,zhF,beq_self_eq_true];rfl
theorem zlr (n:Nat):∀(ts:List Tn),(∀t∈ts,t.2.1.depth<n)→(∀t∈ts,t.2.2.depth<n)→zcJ (eqF S (n+1)) (ts.map encT) (ts.map encT)=some true
 | [],_,_=>rfl
 |t::ts,h1,h2=>by
  rw [List.map_cons,zcJ,zwm n t (h1 t List.mem_cons_self) (h2 t List.mem_cons_self),zlr n ts (fun u hu=>h1 u (List.mem_cons_of_mem _ hu)) fun u hu=>h2 u (List.mem_cons_of_mem _ hu)];rfl
theorem zwl (fa:S a=some (.lst (ts.map encT))) (fc:S c=some (.lst (ts.map encT))) (o:TsOk ts):eqF S 60 (.ref c) (.ref a)=some true:=by
 show(match S c with
  |some (.lst xs)=>match S a with
   |some (.lst ys)=>zcJ (eqF S 59) xs ys
   |_=>none
  |_=>none)=some true
 rw [fa,fc];exact zlr 58 ts (fun t ht=>by have:=o.l t ht;have:=zal t.2.1;omega) fun t ht=>by have:=o.r t ht;have:=zal t.2.2;omega
theorem zpz{x1 x3 x4 x5 x6 x7 x9 x10:Option W}(fa:S a=some (.lst (ts.map encT))) (fc:S c=some (.lst (ts.map encT))) (o:TsOk ts) (h:T E D [some (.scr ns),x1,some (.ref a),x3,x4,x5,x6,x7,some (.ref c),x9,x10,y11] S):zcv 199 T E D [some (.scr ns),x1,some (.ref a),x3,x4,x5,x6,x7,some (.ref c),x9,x10,y11] S:=by
 rw [zcv];walk_at "wp";rw [zwl fa fc o];exact h
theorem zpQ{x1 x3 x4 x5 x6 x8 x10:Option W}{k:Addr}{b0:Bool}{l:List W}(fa:S a=some (.lst (ts.map encT))) (o:TsOk ts) (fk:S k=some (.lst l)) (e:zlf ts=b0)
  (hb:(b0=true∨(clA ts).isSome=true)→l=[.bl b0, .bl (!b0), .bl true]∧ ∀S',D.rt (.bl true) S')
  (h:b0=false→clA ts=none→T E D [some (.scr ns),x1,some (.ref a),x3,x4,x5,x6,some (.bl b0),x8,some (.ref k),x10,y11] S):zcy 199 T E D [some (.scr ns),x1,some (.ref a),x3,x4,x5,x6,some (.bl b0),x8,some (.ref k),x10,y11] S:=by
 have go:(b0=true∨(clA ts).isSome=true)→ ∀p,S p=none→eqF (put S p (Ob.lst [.bl b0, .bl (!b0), .bl true])) 60 (.ref k) (.ref p)=some true:=fun z p hp=>by
  show(match(put S p (Ob.lst [.bl b0, .bl (!b0), .bl true])) k with
   |some (.lst xs)=>match(put S p (Ob.lst [.bl b0, .bl (!b0), .bl true])) p with
    |some (.lst ys)=>zcJ (eqF (put S p (Ob.lst [.bl b0, .bl (!b0), .bl true])) 59) xs ys
    |_=>none
   |_=>none)=some true
  rw [keep fk hp,zag,(hb z).1];cases b0<;>rfl
 rw [zcy];walk_at "wp";cases b0 with
 |true=>
  rw [if_pos rfl];refine⟨by decide,fun p hp=>?_⟩;rw [go (.inl rfl) p hp];exact(hb (.inl rfl)).2 _
 |false=>
  rw [if_neg (by decide)];refine ziR (r:=196) fa (fun t ht=>by have:=o.l t ht;omega) (by have:=o.n;omega) ?_
  cases ec:clA ts with
  |none=>
   walk_at "wp";exact h rfl ec
  |some w=>
   walk_at "wp";refine⟨by decide,fun p hp=>?_⟩;have g:=go (.inr (by rw [ec];rfl)) p hp;rw [Bool.not_false]at g;rw [g];exact(hb (.inr (by rw [ec];rfl))).2 _
theorem zmU (n:Nat):∀ts:List Tn,(∀t∈ts,t.2.1.depth<n∧t.2.1.weight≤40)→(∀t∈ts,t.2.2.depth<n∧t.2.2.weight≤40)→Alks S (n+1) (ts.map encT) (ts.map encT)
 | [],_,_=> .nil _
 |t::ts,h1,h2=>by
  have q1:=h1 t List.mem_cons_self;have q2:=h2 t List.mem_cons_self;obtain⟨m,rfl⟩:∃m,n=m+1:=⟨n - 1,by omega⟩
  exact .cons (.tup (by simp) (.cons (.str m t.1) (.cons (zly t.2.1 _ q1.1 (by omega)) (.cons (zly t.2.2 _ q2.1 (by omega)) (.nil _))))) (zmU (m+1) ts (fun u hu=>h1 u (List.mem_cons_of_mem _ hu)) fun u hu=>h2 u (List.mem_cons_of_mem _ hu))
theorem zsV{x1 x3 x4 x5 x6 x7:Option W}{k:Addr}(P:P13 S a c k ts) (ff:S f=some (.lst (ts.map encT)))
  (h:∀S',Sub S S'→T E D [some (.scr ns),x1,some (.ref a),x3,x4,x5,x6,x7,some (.ref c),some (.ref k),some (.ref f),y11] S'):zcx 199 T E D [some (.scr ns),x1,some (.ref a),x3,x4,x5,x6,x7,some (.ref c),some (.ref k),some (.ref f),y11] S:=by
 rw [zcx];walk_at "wp";refine⟨by decide,fun p hp=>?_⟩;have e:eqF (put S p (Ob.lst [])) 60 (.ref k) (.ref p)=some true:=by
  show(match(put S p (Ob.lst [])) k with
   |some (.lst xs)=>match(put S p (Ob.lst [])) p with
    |some (.lst ys)=>zcJ (eqF (put S p (Ob.lst [])) 59) xs ys
    |_=>none
   |_=>none)=some true
  rw [keep P.fk hp,zag];rfl
 rw [e];have sp:Sub S (put S p (Ob.lst [])):= .put .refl hp;generalize put S p (Ob.lst [])=S1 at sp⊢;have o:=P.o;have hn:=o.n;refine zjX (n:=60) (r:=198) (by decide) (.lst (sp _ _ ff) (sp _ _ P.fa) (by rw [List.length_map];omega) (zmU 58 ts (fun t ht=>?_) fun t ht=>?_)) ?_
 ·have:=o.l t ht;have:=zal t.2.1;exact⟨by omega,by omega⟩
 ·have:=o.r t ht;have:=zal t.2.2;exact⟨by omega,by omega⟩
 ·walk_at "wp";exact h S1 sp
theorem zso{x1 x3 x4 x5 x6 x7 x9:Option W}(fa:S a=some (.lst (ts.map encT))) (fc:S c=some (.lst (ts.map encT))) (ff:S f=some (.lst (ts.map encT))) (o:TsOk ts) (ne:a≠c) (nf:f≠c)
  (h:∀S',S' a=some (.lst (ts.map encT))→S' f=some (.lst (ts.map encT))→S' c=some (.lst (ts.map encT++[.int 0]))→T E D [some (.scr ns),x1,some (.ref a),x3,x4,x5,x6,x7,some (.ref c),x9,some (.ref f),y11] S'):zcz 199 T E D [some (.scr ns),x1,some (.ref a),x3,x4,x5,x6,x7,some (.ref c),x9,some (.ref f),y11] S:=by
 have hn:=o.n;rw [zcz];walk_at "wp";simp only[zaj fc];exact⟨trivial,zbj (by rw [List.length_map];omega),h _ (by rw [zaI ne];exact fa) (by rw [zaI nf];exact ff) zag⟩
theorem zsO{x1 x3 x4 x5 x6 x7 x9:Option W}(fa:S a=some (.lst (ts.map encT))) (fc:S c=some (.lst (ts.map encT++[.int 0]))) (ff:S f=some (.lst (ts.map encT))) (o:TsOk ts) (ne:f≠a) (nf:f≠c)
  (h:∀S',S' a=some (.lst (ts.map encT))→S' f=some (.lst (ts.map encT++[.int 1]))→S' c=some (.lst (ts.map encT++[.int 0]))→T E D [some (.scr ns),x1,some (.ref a),x3,x4,x5,x6,x7,some (.ref c),x9,some (.ref f),y11] S'):zcu 199 T E D [some (.scr ns),x1,some (.ref a),x3,x4,x5,x6,x7,some (.ref c),x9,some (.ref f),y11] S:=by
 have hn:=o.n;rw [zcu];walk_at "wp";simp only[zaj ff];exact⟨trivial,zbj (by rw [List.length_map];omega),h _ (by rw [zaI (Ne.symm ne)];exact fa) zag (by rw [zaI (Ne.symm nf)];exact fc)⟩
theorem zkl{g:W→W→Option Bool}:∀(xs:List W) (i:W),zcJ g xs xs=some true→g i i=some true→zcJ g (xs++[i]) (xs++[i])=some true
 | [],i,_,h=>by rw [List.nil_append,zcJ,h];rfl
 |x::xs,i,e,h=>by
  rw [zcJ]at e;cases q1:g x x with
  |none=>rw [q1]at e;cases e
  |some b1=>
   cases q2:zcJ g xs xs with
   |none=>rw [q1,q2]at e;cases e
   |some b2=>
    rw [q1,q2]at e;have:(b1&&b2)=true:=Option.some.inj e;rw [Bool.and_eq_true]at this;rw [List.cons_append,zcJ,q1,zkl xs i (by rw [q2,this.2]) h,this.1];rfl
theorem zpY{i:Int}{p q:Addr}(o:TsOk ts) (fp:S p=some (.lst (ts.map encT++[.int i]))) (fq:S q=some (.lst (ts.map encT++[.int i]))):eqF S 60 (.ref p) (.ref q)=some true:=by
 show(match S p with
  |some (.lst xs)=>match S q with
   |some (.lst ys)=>zcJ (eqF S 59) xs ys
   |_=>none
  |_=>none)=some true
 rw [fp,fq];refine zkl _ _ (zlr 58 ts (fun t ht=>by have:=o.l t ht;have:=zal t.2.1;omega) fun t ht=>by have:=o.r t ht;have:=zal t.2.2;omega) ?_
 rw [zku,beq_self_eq_true]
theorem zsf{x1 x3 x4 x5 x6 x7 x9:Option W}(o:TsOk ts) (fa:S a=some (.lst (ts.map encT))) (fc:S c=some (.lst (ts.map encT++[.int 0]))) (ff:S f=some (.lst (ts.map encT++[.int 1])))
  (h:∀S',D.rt (.bl true) S'):zcq 199 E D [some (.scr ns),x1,some (.ref a),x3,x4,x5,x6,x7,some (.ref c),x9,some (.ref f),y11] S:=by
 have hn:=o.n;rw [zcq];walk_at "wp";simp only[zaj fa];refine⟨by decide,zak (by rw [List.length_map];omega),fun p hp=>?_⟩;rw [zpY o (keep ff hp) zag];dsimp only;rw [zaj (keep fa hp)];refine⟨by decide,zak (by rw [List.length_map];omega),fun q hq=>?_⟩;rw [zpY o (keep (keep fc hp) hq) zag];exact h _
end
theorem zuu (ns:List Int) (hl:ns.length≤63):zcN 200 [.scr ns] (fun _=>none) (fun w _=>w= .bl true) (fun _ _=>False):=by
 rw [show(200:Nat)=199+1 from rfl,zcN,zpH];refine⟨rfl,?_⟩;refine zwj fun n h0=>zvA h0 fun S a ts fa o o8=>zvm fun cell _=>zvW fa o o8 fun S ts x4 x5 fa o o8=>zvU fa o o8 fun S ts x4 fa o=>zvG fa o fun S b fa fb=>zvK fa fb o ?_;refine zvt fa fun S c fa fc ne=>zvw fa fc o ne fun S k P=>zua ?_;refine ztd P (fun S k' b0 fa fc eb ec fk=>?_) fun S f P eb ec ff nf1 nf2=>?_
 ·subst eb;refine zpz fa fc o (zpQ fa o fk rfl (fun _=>⟨rfl,fun S'=>⟨S', .refl,rfl⟩⟩) fun e1 e2=>?_);have:=ec e1;rw [e2]at this;cases this
 ·refine zpz P.fa P.fc o (zpQ P.fa o P.fk rfl (fun z=>?_) fun e1 e2=>?_)
  ·rw [eb,ec]at z;rcases z with z |z<;>cases z
  ·refine zsV P ff fun S' s'=>zso (s' _ _ P.fa) (s' _ _ P.fc) (s' _ _ ff) o P.ne nf2 fun S1 fa ff fc=>zsO fa fc ff o nf1 nf2 fun S2 fa ff fc=>zsf o fa fc ff fun S'=>⟨S', .refl,rfl⟩
end L2
end
end
section
namespace K13
open PySem L2 PyProof.Rows
noncomputable def top (i:Nat):Stmt:=PySem.Challenge.pw_turnweave_k13_books.main.body.getD i (.Pass ⟨0,0,0,0⟩)
structure Cal (P:Program) (w:World) (K:PySem.W.Frag) (mg:Str→Option Value) (base:Heap) (nm:Str) (ps:List Str) (c:Nat→WSp) where
  zf:Addr
  zd:FuncData
  zg:∀r,FnOk P w K mg base (CX1 P w) r zf zd ps (zcd K (c r))
  zb:Binds K zd ps []
  zk:PySem.W.keepIn K (.ref zf)=true
  zm:mg nm=some (.ref zf)
noncomputable def mkC {P:Program}{w:World}{K:PySem.W.Frag}{h:Heap}{mg:Str→Option Value}{base:Heap}{nm:Str}{st:Stmt}{ps:List Str}{c:Nat→WSp}{f:Addr}{d:FuncData}(X:K.In h) (G:h.Ns mainGlobals mg) (F:Fun K nm nm st f d) (a:PySem.W.nsIn K mainGlobals nm=some (some (.ref f))) (g:∀r,FnOk P w K mg base (CX1 P w) r f d ps (zcd K (c r))) (b:Binds K d ps []):Cal P w K mg base nm ps c:=⟨f,d,g,b,F.kp,PySem.W.mg_of X G a⟩
noncomputable def Dfn (K:PySem.W.Frag) (nm:Str) (st:Stmt):Prop:=∃f d,PySem.W.nsIn K mainGlobals nm=some (some (.ref f))∧Fun K nm nm st f d
theorem dfn{K:PySem.W.Frag}{x:Str}{st:Stmt}{f:Addr}{oc:Value}{od an:Option Addr}{osl:Array (Option Value)}{kV doc pm cdv ct:Value}(a:PySem.W.nsIn K mainGlobals x=some (some (.ref f))) (l:K.lookup f=some ⟨oc,od, .func (PySem.W.fnOf x x (zfO st) (zeP st) (zan st) .none kV doc pm an cdv ct),osl⟩) (c:PySem.W.codeIn K cdv x=true) (k:PySem.W.keepIn K (.ref f)=true):Dfn K x st:=⟨f,_,a,zsN l c k⟩
theorem nC{p:List Value→Prop}{k:Nat}(h:∀a us,us.length=k→p (a::us)):∀us,us.length=k+1→p us:=fun us e=>by
 cases us with
 |nil=>cases e
 |cons a us=>exact h a us (Nat.succ.inj e)
theorem n0{p:List Value→Prop}(h:p []):∀us,us.length=0→p us:=fun us e=>by
 cases us with
 |nil=>exact h
 |cons a us=>cases e
theorem n1{p:List Value→Prop}(h:∀a,p [a]):∀us,us.length=1→p us:=nC fun a=>n0 (p:=fun us=>p (a::us)) (h a)
theorem n2{p:List Value→Prop}(h:∀a b,p [a,b]):∀us,us.length=2→p us:=nC fun a=>n1 (p:=fun us=>p (a::us)) (h a)
theorem n3{p:List Value→Prop}(h:∀a b c,p [a,b,c]):∀us,us.length=3→p us:=nC fun a=>n2 (p:=fun us=>p (a::us)) (h a)
theorem n4{p:List Value→Prop}(h:∀a b c d,p [a,b,c,d]):∀us,us.length=4→p us:=nC fun a=>n3 (p:=fun us=>p (a::us)) (h a)
theorem n5{p:List Value→Prop}(h:∀a b c d e,p [a,b,c,d,e]):∀us,us.length=5→p us:=nC fun a=>n4 (p:=fun us=>p (a::us)) (h a)
theorem n6{p:List Value→Prop}(h:∀a b c d e f,p [a,b,c,d,e,f]):∀us,us.length=6→p us:=nC fun a=>n5 (p:=fun us=>p (a::us)) (h a)
local macro_rules | `(tactic| walk_at "sc") => `(tactic| (refine ⟨rfl, rfl, rfl, ?_, rfl, ?_, ?_⟩ <;> decide +kernel))
noncomputable abbrev Ok (P:Program) (w:World) (K:PySem.W.Frag) (mg:Str→Option Value) (base:Heap) (f:Addr) (d:FuncData) (ps:List Str) (c:Nat→WSp):Prop:=∀r,FnOk P w K mg base (CX1 P w) r f d ps (zcd K (c r))
theorem zdn{P:Program}{w:World}{K:PySem.W.Frag}{mg:Str→Option Value}{base:Heap}{f:Addr}{d:FuncData}{ps:List Str}{c:Nat→WSp}(h0:c 0=zaZ) (h:∀r,FnOk P w K mg base (CX1 P w) r f d ps (zcd K (c r))→FnOk P w K mg base (CX1 P w) (r+1) f d ps (zcd K (c (r+1)))):Ok P w K mg base f d ps c:=fun r=>by
 induction r with
 |zero=>rw [h0];exact zuo
 |succ r ih=>exact h r ih
structure Ncl (mg:Str→Option Value) (x:Str) where
  xC:Addr
  xm:mg x=some (.ref xC)
theorem zdy:bootBuiltins "ValueError" =some (.type "ValueError"):=by first |rfl |decide +kernel | (unfold bootBuiltins;decide +kernel)
noncomputable abbrev s0:Stmt:=top 6
theorem sc0:FnScope ["t"] ["t"] (zan s0):=by walk_at "sc"
noncomputable abbrev s1:Stmt:=top 7
theorem sc1:FnScope ["t", "count", "waiting", "thing"] ["t"] (zan s1):=by walk_at "sc"
noncomputable abbrev s2:Stmt:=top 9
theorem sc2:FnScope ["t", "place", "found", "number", "inner"] ["t", "place", "found"] (zan s2):=by walk_at "sc"
noncomputable abbrev s3:Stmt:=top 8
theorem sc3:FnScope ["t", "found"] ["t"] (zan s3):=by walk_at "sc"
noncomputable abbrev s4:Stmt:=top 11
theorem sc4:FnScope ["t", "number", "parts"] ["t", "number"] (zan s4):=by walk_at "sc"
noncomputable abbrev s5:Stmt:=top 10
theorem sc5:FnScope ["t", "place", "thing", "number"] ["t", "place"] (zan s5):=by walk_at "sc"
noncomputable abbrev s6:Stmt:=top 13
theorem sc6:FnScope ["side"] ["side"] (zan s6):=by walk_at "sc"
noncomputable abbrev s7:Stmt:=top 14
theorem sc7:FnScope ["side"] ["side"] (zan s7):=by walk_at "sc"
noncomputable abbrev s8:Stmt:=top 16
theorem sc8:FnScope ["one", "other"] ["one", "other"] (zan s8):=by walk_at "sc"
noncomputable abbrev s9:Stmt:=top 15
theorem sc9:FnScope ["one", "other"] ["one", "other"] (zan s9):=by walk_at "sc"
noncomputable abbrev s10:Stmt:=top 20
theorem zwW:FnScope ["text"] ["text"] (zan s10):=by walk_at "sc"
noncomputable abbrev s11:Stmt:=top 19
theorem zwS:FnScope ["text"] ["text"] (zan s11):=by walk_at "sc"
noncomputable abbrev s12:Stmt:=top 26
theorem sc12:FnScope ["thing", "left", "right", "numbers"] ["thing"] (zan s12):=by walk_at "sc"
noncomputable abbrev s13:Stmt:=top 28
theorem sc13:FnScope ["turnings", "number", "left", "place", "thing", "other", "turning", "itself"] ["turnings", "number"] (zan s13):=by walk_at "sc"
noncomputable abbrev s14:Stmt:=top 27
theorem sc14:FnScope ["turnings", "number", "found"] ["turnings"] (zan s14):=by walk_at "sc"
noncomputable abbrev s15:Stmt:=top 29
theorem sc15:FnScope ["turnings", "titles", "turning"] ["turnings"] (zan s15):=by walk_at "sc"
noncomputable abbrev s16:Stmt:=top 31
theorem sc16:FnScope ["script", "k", "cell", "mixed"] ["script", "k"] (zan s16):=by walk_at "sc"
noncomputable abbrev s17:Stmt:=top 32
theorem sc17:FnScope ["script", "k", "many", "letters", "first", "spell", "row", "j", "size", "at", "words", "n"] ["script", "k", "many"] (zan s17):=by walk_at "sc"
noncomputable abbrev s18:Stmt:=top 33
theorem sc18:FnScope ["script", "k", "many", "letters", "great"] ["script", "k", "many"] (zan s18):=by walk_at "sc"
noncomputable abbrev s19:Stmt:=top 34
theorem sc19:FnScope ["stack", "cell", "heads", "leaves", "many", "pick"] ["stack", "cell", "heads", "leaves"] (zan s19):=by walk_at "sc"
noncomputable abbrev s20:Stmt:=top 35
theorem sc20:FnScope ["cells", "heads", "leaves", "stack", "cell"] ["cells", "heads", "leaves"] (zan s20):=by walk_at "sc"
noncomputable abbrev s21:Stmt:=top 36
theorem zwD:FnScope ["found", "due"] ["found", "due"] (zan s21):=by walk_at "sc"
noncomputable abbrev s22:Stmt:=top 37
theorem sc22:FnScope ["t", "found", "stack", "place", "one", "k"] ["t"] (zan s22):=by walk_at "sc"
noncomputable abbrev s23:Stmt:=top 38
theorem sc23:FnScope ["t", "low", "parts", "one", "inner"] ["t", "low"] (zan s23):=by walk_at "sc"
noncomputable abbrev s24:Stmt:=top 39
theorem sc24:FnScope ["cells", "heads", "t"] ["cells", "heads"] (zan s24):=by walk_at "sc"
noncomputable abbrev s25:Stmt:=top 40
theorem sc25:FnScope ["script", "k", "heads", "title", "left", "many", "leaves"] ["script", "k", "heads", "title"] (zan s25):=by walk_at "sc"
noncomputable abbrev s26:Stmt:=top 41
theorem sc26:FnScope ["one", "other", "there", "place", "thing"] ["one", "other"] (zan s26):=by walk_at "sc"
noncomputable abbrev s27:Stmt:=top 42
theorem sc27:FnScope ["some", "k", "place", "one", "j"] ["some"] (zan s27):=by walk_at "sc"
noncomputable abbrev s28:Stmt:=top 44
theorem zxb:FnScope ["t", "sign"] ["t", "sign"] (zan s28):=by walk_at "sc"
noncomputable abbrev s29:Stmt:=top 43
theorem sc29:FnScope ["script", "first", "signs", "titles", "many", "some", "k", "one"] ["script", "first"] (zan s29):=by walk_at "sc"
noncomputable abbrev s30:Stmt:=top 45
theorem sc30:FnScope ["t", "place", "other", "k"] ["t", "place", "other"] (zan s30):=by walk_at "sc"
noncomputable abbrev s31:Stmt:=top 46
theorem zwE:FnScope ["word"] ["word"] (zan s31):=by walk_at "sc"
noncomputable abbrev s32:Stmt:=top 47
theorem zwv:FnScope ["side"] ["side"] (zan s32):=by walk_at "sc"
noncomputable abbrev s33:Stmt:=top 48
theorem sc33:FnScope ["thing", "title", "left", "right", "known"] ["thing"] (zan s33):=by walk_at "sc"
noncomputable abbrev s34:Stmt:=top 49
theorem sc34:FnScope ["side", "heavy", "sign", "many"] ["side", "heavy", "sign"] (zan s34):=by walk_at "sc"
noncomputable abbrev s35:Stmt:=top 50
theorem sc35:FnScope ["left", "way", "cell", "where", "kept", "k", "place", "number"] ["left", "way", "cell"] (zan s35):=by walk_at "sc"
noncomputable abbrev s36:Stmt:=top 51
theorem sc36:FnScope ["thing", "cell", "signs", "title", "left", "right", "way", "rest", "words", "number"] ["thing", "cell", "signs"] (zan s36):=by walk_at "sc"
noncomputable abbrev s37:Stmt:=top 52
theorem sc37:FnScope ["script", "first", "some", "cell", "at", "j", "titles", "bad", "handed", "kinds", "found", "e"] ["script"] (zan s37):=by walk_at "sc"
section
variable (P:Program) (w:World) (K:PySem.W.Frag) (mg:Str→Option Value) (base:Heap)
noncomputable abbrev C0:=Cal P w K mg base "parts_of" ["t"] zbQ
noncomputable abbrev C1:=Cal P w K mg base "weight" ["t"] zdP
noncomputable abbrev C2:=Cal P w K mg base "gather_places" ["t", "place", "found"] zaG
noncomputable abbrev C3:=Cal P w K mg base "places" ["t"] zdS
noncomputable abbrev C4:=Cal P w K mg base "numbered_part" ["t", "number"] zbr
noncomputable abbrev C5:=Cal P w K mg base "part" ["t", "place"] zfw
noncomputable abbrev C6:=Cal P w K mg base "blank_places" ["side"] zbw
noncomputable abbrev C7:=Cal P w K mg base "blanks" ["side"] zdQ
noncomputable abbrev C8:=Cal P w K mg base "have_one_top" ["one", "other"] zby
noncomputable abbrev C9:=Cal P w K mg base "meet" ["one", "other"] zdI
noncomputable abbrev C10:=Cal P w K mg base "are_small_letters" ["text"] zaQ
noncomputable abbrev C11:=Cal P w K mg base "is_title" ["text"] zcO
noncomputable abbrev C12:=Cal P w K mg base "is_turning" ["thing"] zbZ
noncomputable abbrev C13:=Cal P w K mg base "clash_of" ["turnings", "number"] zcL
noncomputable abbrev C14:=Cal P w K mg base "clash" ["turnings"] zfz
noncomputable abbrev C15:=Cal P w K mg base "book_of" ["turnings"] zdD
noncomputable abbrev C16:=Cal P w K mg base "_law_draw" ["script", "k"] zaV
noncomputable abbrev C17:=Cal P w K mg base "_law_signs" ["script", "k", "many"] zbp
noncomputable abbrev C18:=Cal P w K mg base "_law_titles" ["script", "k", "many"] zbI
noncomputable abbrev C19:=Cal P w K mg base "_law_pushed" ["stack", "cell", "heads", "leaves"] zbL
noncomputable abbrev C20:=Cal P w K mg base "_law_thing" ["cells", "heads", "leaves"] zbF
noncomputable abbrev C21:=Cal P w K mg base "_law_alike" ["found", "due"] zaU
noncomputable abbrev C22:=Cal P w K mg base "_law_places" ["t"] zaB
noncomputable abbrev C23:=Cal P w K mg base "_law_numbered" ["t", "low"] zaz
noncomputable abbrev C24:=Cal P w K mg base "_law_left" ["cells", "heads"] zcn
noncomputable abbrev C25:=Cal P w K mg base "_law_turning" ["script", "k", "heads", "title"] zbx
noncomputable abbrev C26:=Cal P w K mg base "_law_meet" ["one", "other"] zbV
noncomputable abbrev C27:=Cal P w K mg base "_law_clash" ["some"] zbh
noncomputable abbrev C28:=Cal P w K mg base "_law_no_blanks" ["t", "sign"] zaK
noncomputable abbrev C29:=Cal P w K mg base "_law_some" ["script", "first"] zcm
noncomputable abbrev C30:=Cal P w K mg base "_law_put" ["t", "place", "other"] zbE
noncomputable abbrev C31:=Cal P w K mg base "_law_is_title" ["word"] zbo
noncomputable abbrev C32:=Cal P w K mg base "_law_numbers" ["side"] zaW
noncomputable abbrev C33:=Cal P w K mg base "_law_good" ["thing"] zbq
noncomputable abbrev C34:=Cal P w K mg base "_law_wrapped" ["side", "heavy", "sign"] zbi
noncomputable abbrev C35:=Cal P w K mg base "_law_other_numbers" ["left", "way", "cell"] zaL
noncomputable abbrev C36:=Cal P w K mg base "_law_spoiled" ["thing", "cell", "signs"] zaT
end
section
variable {P:Program}{w:World}{K:PySem.W.Frag}{mg:Str→Option Value}{base:Heap}
theorem o0{f:Addr}{d:FuncData}(F:Fun K "parts_of" "parts_of" s0 f d) (n_i:mg "isinstance" =none) (n_n:mg "int" =none):Ok P w K mg base f d ["t"] zbQ:=zdn rfl fun r ih=>zbf F sc0 rfl rfl fun _ _ _ _ _ _ hr=>(zad (zaR (zaO (zbg rfl n_i rfl n_n PyProof.Rows.boot_int (jv 0) (by decide) (by decide) (zfa _ (by simp)))) (zah (zao (zaE zac))) zaw)
  (zah (zao (zdV (jv 0) (zbc zae) zbd))))
theorem o1{f:Addr}{d:FuncData}(F:Fun K "weight" "weight" s1 f d) (x0:C0 P w K mg base):Ok P w K mg base f d ["t"] zdP:=zdn rfl fun r ih=>zbf F sc1 rfl rfl fun _ _ _ _ _ _ hr=>(zad (zap (i:=1) sc1.nd rfl (Or.inl rfl) zae)
  (zad (zap (i:=2) sc1.nd rfl (Or.inl rfl) (zaF (zba (zaa (jv 0) zac))))
  (zad (zha (zaO (jv 2)) (zad (zuq (i:=1) sc1.nd rfl (Or.inl rfl) zae)
  (zad (zap (i:=3) sc1.nd rfl (Or.inl rfl) (zpB (jv 2)))
  (zah (zbT (zmn (jv 2) (zaa (zai (x0.zg r) hr rfl x0.zm x0.zk x0.zb (zaa (jv 3) zac)) zac)))))))
  (zah (zao (jv 1))))))
theorem o2{f:Addr}{d:FuncData}(F:Fun K "gather_places" "gather_places" s2 f d) (x0:C0 P w K mg base) (b:Binds K d ["t", "place", "found"] []) (m:mg "gather_places" =some (.ref f)) (n_e:mg "enumerate" =none):Ok P w K mg base f d ["t", "place", "found"] zaG:=zdn rfl fun r ih=>zbf F sc2 rfl rfl fun _ _ _ _ _ _ hr=>(zad (zbT (zbA (jv 2) (zaa (jv 1) zac)))
  (zah (zbO (zjh rfl n_e (zai (x0.zg r) hr rfl x0.zm x0.zk x0.zb (zaa (jv 0) zac))) (zcp (zar (zam (i:=3) sc2.nd rfl (Or.inl rfl)) (zar (zam (i:=4) sc2.nd rfl (Or.inl rfl)) zbC)) (glS (glS gl0))) (zah (zbT (zai ih hr rfl m F.kp b (zaa (jv 4) (zaa (zaP (jv 1) (zaE (zaa (jv 3) zac))) (zaa (jv 2) zac)))))))))
theorem o3{f:Addr}{d:FuncData}(F:Fun K "places" "places" s3 f d) (x2:C2 P w K mg base):Ok P w K mg base f d ["t"] zdS:=zdn rfl fun r ih=>zbf F sc3 rfl rfl fun _ _ _ _ _ _ hr=>(zad (zap (i:=1) sc3.nd rfl (Or.inl rfl) (zaF (zba zac)))
  (zad (zbT (zai (x2.zg r) hr rfl x2.zm x2.zk x2.zb (zaa (jv 0) (zaa (zaE zac) (zaa (jv 1) zac)))))
  (zah (zao (jv 1)))))
theorem o4{f:Addr}{d:FuncData}(F:Fun K "numbered_part" "numbered_part" s4 f d) (x0:C0 P w K mg base) (n_l:mg "len" =none) (y_NoPlace:Ncl mg "NoPlace") (v_NoPlace:XcIn K "NoPlace" y_NoPlace.xC):Ok P w K mg base f d ["t", "number"] zbr:=zdn rfl fun r ih=>zbf F sc4 rfl rfl fun _ _ _ _ _ _ hr=>(zad (zap (i:=2) sc4.nd rfl (Or.inl rfl) (zai (x0.zg r) hr rfl x0.zm x0.zk x0.zb (zaa (jv 0) zac)))
  (zad (zaR (JW.jt (zeE (zkA (jv 1) zae) (zdp (zvR (jv 1) (zaC rfl n_l (zaa (jv 2) zac)))))) (zah (zeG v_NoPlace rfl y_NoPlace.xm (zaa zaX zac))) zaw)
  (zah (zao (zaD (jv 2) (jv 1))))))
theorem o5{f:Addr}{d:FuncData}(F:Fun K "part" "part" s5 f d) (x4:C4 P w K mg base):Ok P w K mg base f d ["t", "place"] zfw:=zdn rfl fun r ih=>zbf F sc5 rfl rfl fun _ _ _ _ _ _ hr=>(zad (zap (i:=2) sc5.nd rfl (Or.inl rfl) (jv 0))
  (zad (zbO (zbz (jv 1)) (zam (i:=3) sc5.nd rfl (Or.inl rfl)) (zah (zap (i:=2) sc5.nd rfl (Or.inl rfl) (zai (x4.zg r) hr rfl x4.zm x4.zk x4.zb (zaa (jv 2) (zaa (jv 3) zac))))))
  (zah (zao (jv 2)))))
theorem o6{f:Addr}{d:FuncData}(F:Fun K "blank_places" "blank_places" s6 f d) (x3:C3 P w K mg base) (x5:C5 P w K mg base) (n_i:mg "isinstance" =none) (n_n:mg "int" =none):Ok P w K mg base f d ["side"] zbw:=zdn rfl fun r ih=>zbf F sc6 rfl rfl fun _ _ _ _ _ _ hr=>(zah (zao (zaF (zbs (N:=["place", "side"]) (k:=1) (fr:=[0]) ⟨rfl,by decide +kernel,rfl,rfl,rfl,rfl,rfl,rfl,rfl⟩ (zbz (zai (x3.zg r) hr rfl x3.zm x3.zk x3.zb (zaa (jv 0) zac))) (fun _ _ _ _=>(zam (i:=0) (show List.Nodup [("place" :Str),("side" :Str)] from by decide +kernel) rfl (Or.inl rfl))) (fun _ _ _ _=>(zjo (zaO (zbg rfl n_i rfl n_n PyProof.Rows.boot_int (zai (x5.zg r) hr rfl x5.zm x5.zk x5.zb (zaa (jv 1) (zaa (jv 0) zac))) (by decide) (by decide) (zfa _ (by simp)))))) (fun _ _ _ _=>(jv 0))))))
theorem o7{f:Addr}{d:FuncData}(F:Fun K "blanks" "blanks" s7 f d) (x5:C5 P w K mg base) (x6:C6 P w K mg base):Ok P w K mg base f d ["side"] zdQ:=zdn rfl fun r ih=>zbf F sc7 rfl rfl fun _ _ _ _ _ _ hr=>(zah (zao (zaF (zbs (N:=["place", "side"]) (k:=1) (fr:=[0]) ⟨rfl,by decide +kernel,rfl,rfl,rfl,rfl,rfl,rfl,rfl⟩ (zbz (zai (x6.zg r) hr rfl x6.zm x6.zk x6.zb (zaa (jv 0) zac))) (fun _ _ _ _=>(zam (i:=0) (show List.Nodup [("place" :Str),("side" :Str)] from by decide +kernel) rfl (Or.inl rfl))) (fun _ _ _ _=>zbv) (fun _ _ _ _=>(zai (x5.zg r) hr rfl x5.zm x5.zk x5.zb (zaa (jv 1) (zaa (jv 0) zac))))))))
theorem o8{f:Addr}{d:FuncData}(F:Fun K "have_one_top" "have_one_top" s8 f d) (n_l:mg "len" =none):Ok P w K mg base f d ["one", "other"] zby:=zdn rfl fun r ih=>zbf F sc8 rfl rfl fun _ _ _ _ _ _ hr=>(zah (zao (zdZ (zff hr (zaD (jv 0) zae) (zaD (jv 1) zae)) (zew (zff hr (zaC rfl n_l (zaa (jv 0) zac)) (zaC rfl n_l (zaa (jv 1) zac)))))))
theorem o9{f:Addr}{d:FuncData}(F:Fun K "meet" "meet" s9 f d) (x8:C8 P w K mg base) (b:Binds K d ["one", "other"] []) (m:mg "meet" =some (.ref f)) (n_i:mg "isinstance" =none) (n_n:mg "int" =none) (n_a:mg "all" =none) (n_z:mg "zip" =none):Ok P w K mg base f d ["one", "other"] zdI:=zdn rfl fun r ih=>zbf F sc9 rfl rfl fun _ _ _ _ _ _ hr=>(zad (zaR (JW.jt (zeE (zaO (zbg rfl n_i rfl n_n PyProof.Rows.boot_int (jv 0) (by decide) (by decide) (zfa _ (by simp)))) (zdp (zaO (zbg rfl n_i rfl n_n PyProof.Rows.boot_int (jv 1) (by decide) (by decide) (zfa _ (by simp))))))) (zah (zao zdW)) zaw)
  (zah (zao (zdZ (zai (x8.zg r) hr rfl x8.zm x8.zk x8.zb (zaa (jv 0) (zaa (jv 1) zac))) (zew (zem rfl n_a (zbs (N:=["mine", "yours"]) (k:=2) (fr:=[]) ⟨rfl,by decide +kernel,rfl,rfl,rfl,rfl,rfl,rfl,rfl⟩ (zpR rfl n_z (zdV (jv 0) (zbc zae) zbd) (zdV (jv 1) (zbc zae) zbd)) (fun _ _ _ _=>(zcp (zar (zam (i:=0) (show List.Nodup [("mine" :Str),("yours" :Str)] from by decide +kernel) rfl (Or.inl rfl)) (zar (zam (i:=1) (show List.Nodup [("mine" :Str),("yours" :Str)] from by decide +kernel) rfl (Or.inl rfl)) zbC)) (glS (glS gl0)))) (fun _ _ _ _=>zbv) (fun _ _ _ _=>(zai ih hr rfl m F.kp b (zaa (jv 0) (zaa (jv 1) zac)))))))))))
theorem o10{f:Addr}{d:FuncData}(F:Fun K "are_small_letters" "are_small_letters" s10 f d) (n_a:mg "all" =none):Ok P w K mg base f d ["text"] zaQ:=zdn rfl fun r ih=>zbf F zwW rfl rfl fun _ _ _ _ _ _ hr=>(zah (zao (zem rfl n_a (zbs (N:=["letter"]) (k:=1) (fr:=[]) ⟨rfl,by decide +kernel,rfl,rfl,rfl,rfl,rfl,rfl,rfl⟩ (zbz (jv 0)) (fun _ _ _ _=>(zam (i:=0) (show List.Nodup [("letter" :Str)] from by decide +kernel) rfl (Or.inl rfl))) (fun _ _ _ _=>zbv) (fun _ _ _ _=>(ziU zaX (jv 0) zaX))))))
theorem o11{f:Addr}{d:FuncData}(F:Fun K "is_title" "is_title" s11 f d) (x10:C10 P w K mg base) (n_l:mg "len" =none) {t_MOST_LETTERS:Tok}(g_MOST_LETTERS:mg "MOST_LETTERS" =some (.int 8 t_MOST_LETTERS)):Ok P w K mg base f d ["text"] zcO:=zdn rfl fun r ih=>zbf F zwS rfl rfl fun _ _ _ _ _ _ hr=>(zah (zao (zdZ (ziU zae (zaC rfl n_l (zaa (jv 0) zac)) (zdB rfl g_MOST_LETTERS)) (zdZ (ziU zaX (zaD (jv 0) zae) zaX) (zew (zai (x10.zg r) hr rfl x10.zm x10.zk x10.zb (zaa (zdV (jv 0) (zbc zae) zbd) zac)))))))
theorem o12{f:Addr}{d:FuncData}(F:Fun K "is_turning" "is_turning" s12 f d) (x7:C7 P w K mg base) (x11:C11 P w K mg base) (x1:C1 P w K mg base) (n_i:mg "isinstance" =none) (n_n:mg "int" =none) (n_a:mg "all" =none) (n_s:mg "list" =none) (n_r:mg "range" =none) (n_l:mg "len" =none) {t_LEFT:Tok}(g_LEFT:mg "LEFT" =some (.int 1 t_LEFT)) {t_RIGHT:Tok}(g_RIGHT:mg "RIGHT" =some (.int 2 t_RIGHT)) {t_MOST_HEAVY_SIDE:Tok}(g_MOST_HEAVY_SIDE:mg "MOST_HEAVY_SIDE" =some (.int 12 t_MOST_HEAVY_SIDE)):Ok P w K mg base f d ["thing"] zbZ:=zdn rfl fun r ih=>zbf F sc12 rfl rfl fun _ _ _ _ _ _ hr=>(zad (zap (i:=1) sc12.nd rfl (Or.inl rfl) (zaD (jv 0) (zdB rfl g_LEFT)))
  (zad (zap (i:=2) sc12.nd rfl (Or.inl rfl) (zaD (jv 0) (zdB rfl g_RIGHT)))
  (zad (zaR (JW.jt (zeE (zdj (zaO (zai (x11.zg r) hr rfl x11.zm x11.zk x11.zb (zaa (zaD (jv 0) zae) zac)))) (zdp (zaO (zbg rfl n_i rfl n_n PyProof.Rows.boot_int (jv 1) (by decide) (by decide) (zfa _ (by simp))))))) (zah (zao zdW)) zaw)
  (zad (zaR (JW.jt (zeE (zfB (zai (x1.zg r) hr rfl x1.zm x1.zk x1.zb (zaa (jv 1) zac)) (zdB rfl g_MOST_HEAVY_SIDE)) (zdp (zfB (zai (x1.zg r) hr rfl x1.zm x1.zk x1.zb (zaa (jv 2) zac)) (zdB rfl g_MOST_HEAVY_SIDE))))) (zah (zao zdW)) zaw)
  (zad (zap (i:=3) sc12.nd rfl (Or.inr rfl) (zai (x7.zg r) hr rfl x7.zm x7.zk x7.zb (zaa (jv 1) zac)))
  (zah (zao (zdZ (zff hr (jv 3) (zaF (zdF rfl n_s rfl n_r (zaC rfl n_l (zaa (jv 3) zac))))) (zew (zem rfl n_a (zbs (N:=["number", "numbers"]) (k:=1) (fr:=[3]) ⟨rfl,by decide +kernel,rfl,rfl,rfl,rfl,rfl,rfl,rfl⟩ (zbz (zai (x7.zg r) hr rfl x7.zm x7.zk x7.zb (zaa (jv 2) zac))) (fun _ _ _ _=>(zam (i:=0) (show List.Nodup [("number" :Str),("numbers" :Str)] from by decide +kernel) rfl (Or.inl rfl))) (fun _ _ _ _=>zbv) (fun _ _ _ _=>(zrA hr (jv 0) (jv 1))))))))))))))
theorem o13{f:Addr}{d:FuncData}(F:Fun K "clash_of" "clash_of" s13 f d) (x3:C3 P w K mg base) (x5:C5 P w K mg base) (x9:C9 P w K mg base) (n_e:mg "enumerate" =none) (n_i:mg "isinstance" =none) (n_n:mg "int" =none) {t_LEFT:Tok}(g_LEFT:mg "LEFT" =some (.int 1 t_LEFT)):Ok P w K mg base f d ["turnings", "number"] zcL:=zdn rfl fun r ih=>zbf F sc13 rfl rfl fun _ _ _ _ _ _ hr=>(zad (zap (i:=2) sc13.nd rfl (Or.inl rfl) (zaD (zaD (jv 0) (jv 1)) (zdB rfl g_LEFT)))
  (zad (zbO (zbz (zai (x3.zg r) hr rfl x3.zm x3.zk x3.zb (zaa (jv 2) zac))) (zam (i:=3) sc13.nd rfl (Or.inl rfl)) (zad (zap (i:=4) sc13.nd rfl (Or.inl rfl) (zai (x5.zg r) hr rfl x5.zm x5.zk x5.zb (zaa (jv 2) (zaa (jv 3) zac))))
  (zah (zbO (zjh rfl n_e (jv 0)) (zcp (zar (zam (i:=5) sc13.nd rfl (Or.inl rfl)) (zar (zam (i:=6) sc13.nd rfl (Or.inl rfl)) zbC)) (glS (glS gl0))) (zad (zap (i:=7) sc13.nd rfl (Or.inl rfl) (zdZ (zff hr (jv 3) (zaE zac)) (zew (zff hr (jv 5) (jv 1)))))
  (zah (zaR (JW.jt (zdA (zdj (zaO (zbg rfl n_i rfl n_n PyProof.Rows.boot_int (jv 4) (by decide) (by decide) (zfa _ (by simp))))) (zdA (zdj (zaO (jv 7))) (zdC (zaO (zai (x9.zg r) hr rfl x9.zm x9.zk x9.zb (zaa (jv 4) (zaa (zaD (jv 6) (zdB rfl g_LEFT)) zac)))))))) (zah (zao (zaE (zaa (jv 1) (zaa (jv 5) (zaa (jv 3) zac)))))) zaw)))))))
  (zah (zao zim))))
theorem o14{f:Addr}{d:FuncData}(F:Fun K "clash" "clash" s14 f d) (x13:C13 P w K mg base) (n_r:mg "range" =none) (n_l:mg "len" =none):Ok P w K mg base f d ["turnings"] zfz:=zdn rfl fun r ih=>zbf F sc14 rfl rfl fun _ _ _ _ _ _ hr=>(zad (zbO (zbX rfl n_r (zaa (zaC rfl n_l (zaa (jv 0) zac)) zac)) (zam (i:=1) sc14.nd rfl (Or.inl rfl)) (zad (zap (i:=2) sc14.nd rfl (Or.inl rfl) (zai (x13.zg r) hr rfl x13.zm x13.zk x13.zb (zaa (jv 0) (zaa (jv 1) zac))))
  (zah (zaR (zkr (jv 2) zim) (zah (zao (jv 2))) zaw))))
  (zah (zao zim)))
theorem o15{f:Addr}{d:FuncData}(F:Fun K "book_of" "book_of" s15 f d) (x14:C14 P w K mg base) (x12:C12 P w K mg base) (n_s:mg "list" =none) (n_l:mg "len" =none) {t_MOST_TURNINGS:Tok}(g_MOST_TURNINGS:mg "MOST_TURNINGS" =some (.int 8 t_MOST_TURNINGS)) (y_Clash:Ncl mg "Clash") (y_NoTurning:Ncl mg "NoTurning") (v_Clash:XcIn K "Clash" y_Clash.xC) (v_NoTurning:XcIn K "NoTurning" y_NoTurning.xC):Ok P w K mg base f d ["turnings"] zdD:=zdn rfl fun r ih=>zbf F sc15 rfl rfl fun _ _ _ _ _ _ hr=>(zad (zaR (zfB (zaC rfl n_l (zaa (jv 0) zac)) (zdB rfl g_MOST_TURNINGS)) (zah (zeG v_NoTurning rfl y_NoTurning.xm (zaa zaX zac))) zaw)
  (zad (zap (i:=1) sc15.nd rfl (Or.inl rfl) (zaF (zba zac)))
  (zad (zbO (zbz (jv 0)) (zam (i:=2) sc15.nd rfl (Or.inl rfl)) (zad (zaR (zdj (zaO (zai (x12.zg r) hr rfl x12.zm x12.zk x12.zb (zaa (jv 2) zac)))) (zah (zeG v_NoTurning rfl y_NoTurning.xm (zaa zaX zac))) zaw)
  (zad (zaR (zve hr (zaD (jv 2) zae) (jv 1)) (zah (zeG v_NoTurning rfl y_NoTurning.xm (zaa zaX zac))) zaw)
  (zah (zbT (zbA (jv 1) (zaa (zaD (jv 2) zae) zac)))))))
  (zad (zaR (zkr (zai (x14.zg r) hr rfl x14.zm x14.zk x14.zb (zaa (jv 0) zac)) zim) (zah (zeG v_Clash rfl y_Clash.xm (zaa zaX zac))) zaw)
  (zah (zao (zaF (zmL rfl n_s (jv 0)))))))))
theorem o16{f:Addr}{d:FuncData}(F:Fun K "_law_draw" "_law_draw" s16 f d) (n_l:mg "len" =none):Ok P w K mg base f d ["script", "k"] zaV:=zdn rfl fun r ih=>zbf F sc16 rfl rfl fun _ _ _ _ _ _ hr=>(zad (zaR (zel hr (zaC rfl n_l (zaa (jv 0) zac)) zae) (zah (zao zae)) zaw)
  (zad (zap (i:=2) sc16.nd rfl (Or.inl rfl) (zaM (zaD (jv 0) (zaM (jv 1) (zaC rfl n_l (zaa (jv 0) zac)))) (znE zae zae)))
  (zad (zaR (zkA (jv 1) (zaC rfl n_l (zaa (jv 0) zac))) (zah (zao (jv 2))) zaw)
  (zad (zap (i:=3) sc16.nd rfl (Or.inl rfl) (zaM (zaP (zaP (jv 2) (zgg (zgg zae (jv 1)) (jv 1))) zae) zae))
  (zah (zao (zaM (zgg (jv 3) (jv 3)) zae)))))))
theorem o17{f:Addr}{d:FuncData}(F:Fun K "_law_signs" "_law_signs" s17 f d) (x16:C16 P w K mg base) (n_r:mg "range" =none) (n_n:mg "int" =none):Ok P w K mg base f d ["script", "k", "many"] zbp:=zdn rfl fun r ih=>zbf F sc17 rfl rfl fun _ _ _ _ _ _ hr=>(zad (zap (i:=3) sc17.nd rfl (Or.inr rfl) zaX)
  (zad (zap (i:=4) sc17.nd rfl (Or.inl rfl) (zai (x16.zg r) hr rfl x16.zm x16.zk x16.zb (zaa (jv 0) (zaa (jv 1) zac))))
  (zad (zap (i:=5) sc17.nd rfl (Or.inl rfl) (zaM (zgg (zai (x16.zg r) hr rfl x16.zm x16.zk x16.zb (zaa (jv 0) (zaa (zaP (jv 1) zae) zac))) zae) (znE zae zae)))
  (zad (zap (i:=6) sc17.nd rfl (Or.inr rfl) (zaF (zba zac)))
  (zad (zbO (zbX rfl n_r (zaa zae zac)) (zam (i:=7) sc17.nd rfl (Or.inl rfl)) (zad (zbT (zbA (jv 6) (zaa (zaM (jv 5) zae) zac)))
  (zah (zap (i:=5) sc17.nd rfl (Or.inl rfl) (zbU (jv 5) zae)))))
  (zad (zaR (zel hr (zaM (jv 4) zae) zae) (zah (zao (zaF (zbs (N:=["j", "letters", "row"]) (k:=1) (fr:=[3,6]) ⟨rfl,by decide +kernel,rfl,rfl,rfl,rfl,rfl,rfl,rfl⟩ (zbX rfl n_r (zaa (jv 2) zac)) (fun _ _ _ _=>(zam (i:=0) (show List.Nodup [("j" :Str),("letters" :Str),("row" :Str)] from by decide +kernel) rfl (Or.inl rfl))) (fun _ _ _ _=>zbv) (fun _ _ _ _=>(zjM zaX (zbs (N:=["n", "letters"]) (k:=1) (fr:=[1]) ⟨rfl,by decide +kernel,rfl,rfl,rfl,rfl,rfl,rfl,rfl⟩ (zbz (zdV (jv 2) zbd (zbc (zaP (jv 0) zae)))) (fun _ _ _ _=>(zam (i:=0) (show List.Nodup [("n" :Str),("letters" :Str)] from by decide +kernel) rfl (Or.inl rfl))) (fun _ _ _ _=>zbv) (fun _ _ _ _=>(zaD (jv 1) (jv 0)))))))))) zaw)
  (zad (zap (i:=8) sc17.nd rfl (Or.inl rfl) (zaP zae (zaM (zbU (jv 4) zae) zae)))
  (zad (zap (i:=9) sc17.nd rfl (Or.inr rfl) (zaM (zbU (jv 4) zae) (jv 8)))
  (zad (zap (i:=10) sc17.nd rfl (Or.inl rfl) (zaF (zba zac)))
  (zad (zbO (zbX rfl n_r (zaa (jv 2) zac)) (zam (i:=11) sc17.nd rfl (Or.inr rfl)) (zah (zbT (zbA (jv 10) (zaa (zjM zaX (zbs (N:=["j", "letters", "row", "n", "at"]) (k:=1) (fr:=[3,6,11,9]) ⟨rfl,by decide +kernel,rfl,rfl,rfl,rfl,rfl,rfl,rfl⟩ (zbX rfl n_r (zaa (jv 8) zac)) (fun _ _ _ _=>(zam (i:=0) (show List.Nodup [("j" :Str),("letters" :Str),("row" :Str),("n" :Str),("at" :Str)] from by decide +kernel) rfl (Or.inl rfl))) (fun _ _ _ _=>zbv) (fun _ _ _ _=>(zaD (jv 1) (zaM (zaP (zaD (jv 2) (jv 0)) (zgg (jv 3) (zmQ rfl n_n (zaa (zff hr (jv 0) (jv 4)) zac)))) zae))))) zac)))))
  (zah (zao (jv 10)))))))))))))
theorem o18{f:Addr}{d:FuncData}(F:Fun K "_law_titles" "_law_titles" s18 f d) (x17:C17 P w K mg base):Ok P w K mg base f d ["script", "k", "many"] zbI:=zdn rfl fun r ih=>zbf F sc18 rfl rfl fun _ _ _ _ _ _ hr=>(zad (zap (i:=3) sc18.nd rfl (Or.inr rfl) zaX)
  (zad (zap (i:=4) sc18.nd rfl (Or.inr rfl) zaX)
  (zah (zao (zaF (zbs (N:=["word", "great", "letters"]) (k:=1) (fr:=[4,3]) ⟨rfl,by decide +kernel,rfl,rfl,rfl,rfl,rfl,rfl,rfl⟩ (zbz (zai (x17.zg r) hr rfl x17.zm x17.zk x17.zb (zaa (jv 0) (zaa (jv 1) (zaa (jv 2) zac))))) (fun _ _ _ _=>(zam (i:=0) (show List.Nodup [("word" :Str),("great" :Str),("letters" :Str)] from by decide +kernel) rfl (Or.inl rfl))) (fun _ _ _ _=>zbv) (fun _ _ _ _=>(zaP (zaD (jv 1) (zoS (jv 2) (zaa (zaD (jv 0) zae) zac))) (zdV (jv 0) (zbc zae) zbd)))))))))
theorem o19{f:Addr}{d:FuncData}(F:Fun K "_law_pushed" "_law_pushed" s19 f d) (n_l:mg "len" =none) (n_t:mg "tuple" =none):Ok P w K mg base f d ["stack", "cell", "heads", "leaves"] zbL:=zdn rfl fun r ih=>zbf F sc19 rfl rfl fun _ _ _ _ _ _ hr=>(zad (zap (i:=4) sc19.nd rfl (Or.inl rfl) (zmV (zba (zaa zae (zaa zae (zaa zae (zaa zae (zaa zae zac)))))) (zaM (jv 1) zae)))
  (zad (zap (i:=5) sc19.nd rfl (Or.inl rfl) (zbU (jv 1) zae))
  (zad (zaR (JW.jt (zeE (zel hr (jv 4) zae) (zdp (zkA (zaC rfl n_l (zaa (jv 0) zac)) (jv 4))))) (zah (zao (zaF (zfI (jv 0) (zba (zaa (zaD (jv 3) (zaM (jv 5) (zaC rfl n_l (zaa (jv 3) zac)))) zac)))))) zaw)
  (zah (zao (zaF (zjg (zro (jv 0) zbd (zbc (zgc (jv 4)))) (zba (zaa (zaP (zaE (zaa (zaD (jv 2) (zaM (jv 5) (zaC rfl n_l (zaa (jv 2) zac)))) zac)) (zin rfl n_t (zro (jv 0) (zbc (zgc (jv 4))) zbd))) zac)))))))))
theorem o20{f:Addr}{d:FuncData}(F:Fun K "_law_thing" "_law_thing" s20 f d) (x19:C19 P w K mg base) (n_l:mg "len" =none):Ok P w K mg base f d ["cells", "heads", "leaves"] zbF:=zdn rfl fun r ih=>zbf F sc20 rfl rfl fun _ _ _ _ _ _ hr=>(zad (zap (i:=3) sc20.nd rfl (Or.inl rfl) (zaF (zba zac)))
  (zad (zbO (zbz (jv 0)) (zam (i:=4) sc20.nd rfl (Or.inl rfl)) (zah (zap (i:=3) sc20.nd rfl (Or.inl rfl) (zai (x19.zg r) hr rfl x19.zm x19.zk x19.zb (zaa (jv 3) (zaa (zaM (jv 4) (znE zae zae)) (zaa (jv 1) (zaa (jv 2) zac))))))))
  (zad (zaR (zel hr (zaC rfl n_l (zaa (jv 3) zac)) zae) (zah (zao (zaD (jv 2) zae))) zaw)
  (zad (zha (zfB (zaC rfl n_l (zaa (jv 3) zac)) zae) (zah (zap (i:=3) sc20.nd rfl (Or.inl rfl) (zaF (zjg (zro (jv 3) zbd (zbc (zgc zae))) (zba (zaa (zaE (zaa (zaD (jv 1) zae) (zaa (zaD (jv 3) (zgc zae)) (zaa (zaD (jv 3) (zgc zae)) zac)))) zac)))))))
  (zah (zao (zaD (jv 3) zae)))))))
theorem o21{f:Addr}{d:FuncData}(F:Fun K "_law_alike" "_law_alike" s21 f d) (b:Binds K d ["found", "due"] []) (m:mg "_law_alike" =some (.ref f)) (n_i:mg "isinstance" =none) (n_c:mg "str" =none) (n_n:mg "int" =none) (n_a:mg "all" =none) (n_t:mg "tuple" =none) (n_s:mg "list" =none) (n_l:mg "len" =none) (n_b:mg "bool" =none) (n_z:mg "zip" =none):Ok P w K mg base f d ["found", "due"] zaU:=zdn rfl fun r ih=>zbf F zwD rfl rfl fun _ _ _ _ _ _ hr=>(zad (zaR (zaO (zbg rfl n_i rfl n_c PyProof.Rows.boot_str (jv 1) (by decide) (by decide) (zfa _ (by simp)))) (zah (zao (zdZ (zbg rfl n_i rfl n_c PyProof.Rows.boot_str (jv 0) (by decide) (by decide) (zfa _ (by simp))) (zew (zff hr (jv 0) (jv 1)))))) zaw)
  (zad (zaR (zaO (zbg rfl n_i rfl n_n PyProof.Rows.boot_int (jv 1) (by decide) (by decide) (zfa _ (by simp)))) (zah (zao (zdZ (zbg rfl n_i rfl n_n PyProof.Rows.boot_int (jv 0) (by decide) (by decide) (zfa _ (by simp))) (zdZ (zls (zbg rfl n_i rfl n_b PyProof.Rows.boot_bool (jv 0) (by decide) (by decide) (zfa _ (by simp)))) (zew (zff hr (jv 0) (jv 1))))))) zaw)
  (zad (zaR (JW.jt (zdA (zaO (zbg rfl n_i rfl n_t PyProof.Rows.boot_tuple (jv 1) (by decide) (by decide) (zfa _ (by simp)))) (zdC (zdj (zaO (zbg rfl n_i rfl n_t PyProof.Rows.boot_tuple (jv 0) (by decide) (by decide) (zfa _ (by simp)))))))) (zah (zao zdW)) zaw)
  (zad (zaR (JW.jt (zdA (zaO (zbg rfl n_i rfl n_s PyProof.Rows.boot_list (jv 1) (by decide) (by decide) (zfa _ (by simp)))) (zdC (zdj (zaO (zbg rfl n_i rfl n_s PyProof.Rows.boot_list (jv 0) (by decide) (by decide) (zfa _ (by simp)))))))) (zah (zao zdW)) zaw)
  (zad (zaR (zhw hr (zaC rfl n_l (zaa (jv 0) zac)) (zaC rfl n_l (zaa (jv 1) zac))) (zah (zao zdW)) zaw)
  (zah (zao (zem rfl n_a (zbs (N:=["one", "other"]) (k:=2) (fr:=[]) ⟨rfl,by decide +kernel,rfl,rfl,rfl,rfl,rfl,rfl,rfl⟩ (zpR rfl n_z (jv 0) (jv 1)) (fun _ _ _ _=>(zcp (zar (zam (i:=0) (show List.Nodup [("one" :Str),("other" :Str)] from by decide +kernel) rfl (Or.inl rfl)) (zar (zam (i:=1) (show List.Nodup [("one" :Str),("other" :Str)] from by decide +kernel) rfl (Or.inl rfl)) zbC)) (glS (glS gl0)))) (fun _ _ _ _=>zbv) (fun _ _ _ _=>(zai ih hr rfl m F.kp b (zaa (jv 0) (zaa (jv 1) zac)))))))))))))
theorem o22{f:Addr}{d:FuncData}(F:Fun K "_law_places" "_law_places" s22 f d) (n_l:mg "len" =none) (n_i:mg "isinstance" =none) (n_n:mg "int" =none) (n_r:mg "range" =none):Ok P w K mg base f d ["t"] zaB:=zdn rfl fun r ih=>zbf F sc22 rfl rfl fun _ _ _ _ _ _ hr=>(zad (zap (i:=1) sc22.nd rfl (Or.inl rfl) (zaF (zba zac)))
  (zad (zap (i:=2) sc22.nd rfl (Or.inl rfl) (zaF (zba (zaa (zaE (zaa (zaE zac) (zaa (jv 0) zac))) zac))))
  (zad (zha (zfB (zaC rfl n_l (zaa (jv 2) zac)) zae) (zad (zfH (zpB (jv 2)) (zcp (zar (zam (i:=3) sc22.nd rfl (Or.inl rfl)) (zar (zam (i:=4) sc22.nd rfl (Or.inl rfl)) zbC)) (glS (glS gl0))))
  (zad (zbT (zbA (jv 1) (zaa (zaE (zaa (jv 3) (zaa (jv 4) zac))) zac)))
  (zah (zaR (zdj (zaO (zbg rfl n_i rfl n_n PyProof.Rows.boot_int (jv 4) (by decide) (by decide) (zfa _ (by simp))))) (zah (zbO (zrr rfl n_r (zaa (zet (zaC rfl n_l (zaa (jv 4) zac)) zae) (zaa zae (zaa (zgc zae) zac)))) (zam (i:=5) sc22.nd rfl (Or.inl rfl)) (zah (zbT (zbA (jv 2) (zaa (zaE (zaa (zaP (jv 3) (zaE (zaa (zet (jv 5) zae) zac))) (zaa (zaD (jv 4) (jv 5)) zac))) zac)))))) zaw)))))
  (zah (zao (jv 1))))))
theorem o23{f:Addr}{d:FuncData}(F:Fun K "_law_numbered" "_law_numbered" s23 f d) (b:Binds K d ["t", "low"] []) (m:mg "_law_numbered" =some (.ref f)) (n_i:mg "isinstance" =none) (n_n:mg "int" =none) (n_t:mg "tuple" =none):Ok P w K mg base f d ["t", "low"] zaz:=zdn rfl fun r ih=>zbf F sc23 rfl rfl fun _ _ _ _ _ _ hr=>(zad (zaR (zaO (zbg rfl n_i rfl n_n PyProof.Rows.boot_int (jv 0) (by decide) (by decide) (zfa _ (by simp)))) (zah (zao (zaE (zaa (jv 1) (zaa (zaP (jv 1) zae) zac))))) zaw)
  (zad (zap (i:=2) sc23.nd rfl (Or.inl rfl) (zaF (zba zac)))
  (zad (zbO (zbz (zdV (jv 0) (zbc zae) zbd)) (zam (i:=3) sc23.nd rfl (Or.inl rfl)) (zad (zfH (zai ih hr rfl m F.kp b (zaa (jv 3) (zaa (jv 1) zac))) (zcp (zar (zam (i:=4) sc23.nd rfl (Or.inl rfl)) (zar (zam (i:=1) sc23.nd rfl (Or.inl rfl)) zbC)) (glS (glS gl0))))
  (zah (zbT (zbA (jv 2) (zaa (jv 4) zac))))))
  (zah (zao (zaE (zaa (zaP (zdV (jv 0) zbd (zbc zae)) (zpl rfl n_t (zaa (jv 2) zac))) (zaa (jv 1) zac))))))))
theorem o24{f:Addr}{d:FuncData}(F:Fun K "_law_left" "_law_left" s24 f d) (x20:C20 P w K mg base) (x23:C23 P w K mg base) (n_i:mg "isinstance" =none) (n_n:mg "int" =none):Ok P w K mg base f d ["cells", "heads"] zcn:=zdn rfl fun r ih=>zbf F sc24 rfl rfl fun _ _ _ _ _ _ hr=>(zad (zap (i:=2) sc24.nd rfl (Or.inl rfl) (zai (x20.zg r) hr rfl x20.zm x20.zk x20.zb (zaa (jv 0) (zaa (jv 1) (zaa (zaF (zba (zaa (zaE (zaa (zaD (jv 1) zae) zac)) (zaa zae (zaa (zaE (zaa (zaD (jv 1) zae) zac)) (zaa zae zac)))))) zac)))))
  (zad (zaR (zaO (zbg rfl n_i rfl n_n PyProof.Rows.boot_int (jv 2) (by decide) (by decide) (zfa _ (by simp)))) (zah (zap (i:=2) sc24.nd rfl (Or.inl rfl) (zaE (zaa (zaD (jv 1) zae) (zaa zae zac))))) zaw)
  (zah (zao (zai (x23.zg r) hr rfl x23.zm x23.zk x23.zb (zaa (jv 2) (zaa zae zac)))))))
theorem o25{f:Addr}{d:FuncData}(F:Fun K "_law_turning" "_law_turning" s25 f d) (x24:C24 P w K mg base) (x20:C20 P w K mg base) (x16:C16 P w K mg base) (n_s:mg "list" =none) (n_r:mg "range" =none):Ok P w K mg base f d ["script", "k", "heads", "title"] zbx:=zdn rfl fun r ih=>zbf F sc25 rfl rfl fun _ _ _ _ _ _ hr=>(zad (zfH (zai (x24.zg r) hr rfl x24.zm x24.zk x24.zb (zaa (zaF (zbs (N:=["n", "script", "k"]) (k:=1) (fr:=[0,1]) ⟨rfl,by decide +kernel,rfl,rfl,rfl,rfl,rfl,rfl,rfl⟩ (zbX rfl n_r (zaa zae zac)) (fun _ _ _ _=>(zam (i:=0) (show List.Nodup [("n" :Str),("script" :Str),("k" :Str)] from by decide +kernel) rfl (Or.inl rfl))) (fun _ _ _ _=>zbv) (fun _ _ _ _=>(zai (x16.zg r) hr rfl x16.zm x16.zk x16.zb (zaa (jv 1) (zaa (zaP (jv 2) (jv 0)) zac)))))) (zaa (jv 2) zac))) (zcp (zar (zam (i:=4) sc25.nd rfl (Or.inl rfl)) (zar (zam (i:=5) sc25.nd rfl (Or.inl rfl)) zbC)) (glS (glS gl0))))
  (zad (zap (i:=6) sc25.nd rfl (Or.inl rfl) (zaF (zjg (zba (zaa (zaE (zaa (zaD (jv 2) zae) zac)) (zaa (zaE (zaa (zaD (jv 2) zae) zac)) zac))) (zss (zdF rfl n_s rfl n_r (jv 5)) zae))))
  (zah (zao (zaE (zaa (jv 3) (zaa (jv 4) (zaa (zai (x20.zg r) hr rfl x20.zm x20.zk x20.zb (zaa (zaF (zbs (N:=["n", "script", "k"]) (k:=1) (fr:=[0,1]) ⟨rfl,by decide +kernel,rfl,rfl,rfl,rfl,rfl,rfl,rfl⟩ (zbX rfl n_r (zaa zae zac)) (fun _ _ _ _=>(zam (i:=0) (show List.Nodup [("n" :Str),("script" :Str),("k" :Str)] from by decide +kernel) rfl (Or.inl rfl))) (fun _ _ _ _=>zbv) (fun _ _ _ _=>(zai (x16.zg r) hr rfl x16.zm x16.zk x16.zb (zaa (jv 1) (zaa (zaP (zaP (jv 2) zae) (jv 0)) zac)))))) (zaa (jv 2) (zaa (jv 6) zac)))) zac))))))))
theorem o26{f:Addr}{d:FuncData}(F:Fun K "_law_meet" "_law_meet" s26 f d) (x22:C22 P w K mg base) (n_i:mg "isinstance" =none) (n_n:mg "int" =none) (n_l:mg "len" =none):Ok P w K mg base f d ["one", "other"] zbV:=zdn rfl fun r ih=>zbf F sc26 rfl rfl fun _ _ _ _ _ _ hr=>(zad (zap (i:=2) sc26.nd rfl (Or.inl rfl) zqA)
  (zad (zbO (zbz (zai (x22.zg r) hr rfl x22.zm x22.zk x22.zb (zaa (jv 1) zac))) (zcp (zar (zam (i:=3) sc26.nd rfl (Or.inl rfl)) (zar (zam (i:=4) sc26.nd rfl (Or.inl rfl)) zbC)) (glS (glS gl0))) (zah (zqh hr (jv 2) (jv 3) (jv 4))))
  (zad (zbO (zbz (zai (x22.zg r) hr rfl x22.zm x22.zk x22.zb (zaa (jv 0) zac))) (zcp (zar (zam (i:=3) sc26.nd rfl (Or.inl rfl)) (zar (zam (i:=4) sc26.nd rfl (Or.inl rfl)) zbC)) (glS (glS gl0))) (zah (zaR (JW.jt (zdA (zsy hr (jv 3) (jv 2)) (zdA (zdj (zaO (zbg rfl n_i rfl n_n PyProof.Rows.boot_int (jv 4) (by decide) (by decide) (zfa _ (by simp))))) (zdC (zdj (zaO (zbg rfl n_i rfl n_n PyProof.Rows.boot_int (zjr hr (jv 2) (jv 3)) (by decide) (by decide) (zfa _ (by simp))))))))) (zah (zaR (JW.jt (zeE (zhw hr (zaD (jv 4) zae) (zaD (zjr hr (jv 2) (jv 3)) zae)) (zdp (zhw hr (zaC rfl n_l (zaa (jv 4) zac)) (zaC rfl n_l (zaa (zjr hr (jv 2) (jv 3)) zac)))))) (zah (zao zdW)) zaw)) zaw)))
  (zah (zao zdW)))))
theorem o27{f:Addr}{d:FuncData}(F:Fun K "_law_clash" "_law_clash" s27 f d) (x22:C22 P w K mg base) (x26:C26 P w K mg base) (n_r:mg "range" =none) (n_l:mg "len" =none) (n_i:mg "isinstance" =none) (n_n:mg "int" =none):Ok P w K mg base f d ["some"] zbh:=zdn rfl fun r ih=>zbf F sc27 rfl rfl fun _ _ _ _ _ _ hr=>(zad (zbO (zbX rfl n_r (zaa (zaC rfl n_l (zaa (jv 0) zac)) zac)) (zam (i:=1) sc27.nd rfl (Or.inl rfl)) (zah (zbO (zbz (zai (x22.zg r) hr rfl x22.zm x22.zk x22.zb (zaa (zaD (zaD (jv 0) (jv 1)) zae) zac))) (zcp (zar (zam (i:=2) sc27.nd rfl (Or.inl rfl)) (zar (zam (i:=3) sc27.nd rfl (Or.inl rfl)) zbC)) (glS (glS gl0))) (zah (zbO (zbX rfl n_r (zaa (zaC rfl n_l (zaa (jv 0) zac)) zac)) (zam (i:=4) sc27.nd rfl (Or.inl rfl)) (zah (zaR (JW.jt (zdA (zdj (zaO (zbg rfl n_i rfl n_n PyProof.Rows.boot_int (jv 3) (by decide) (by decide) (zfa _ (by simp))))) (zdA (JW.jt (zeE (zhw hr (jv 4) (jv 1)) (zdp (zhw hr (jv 2) (zaE zac))))) (zdC (zaO (zai (x26.zg r) hr rfl x26.zm x26.zk x26.zb (zaa (jv 3) (zaa (zaD (zaD (jv 0) (jv 4)) zae) zac)))))))) (zah (zao zdW)) zaw)))))))
  (zah (zao zdW)))
theorem o28{f:Addr}{d:FuncData}(F:Fun K "_law_no_blanks" "_law_no_blanks" s28 f d) (b:Binds K d ["t", "sign"] []) (m:mg "_law_no_blanks" =some (.ref f)) (n_i:mg "isinstance" =none) (n_n:mg "int" =none) (n_t:mg "tuple" =none):Ok P w K mg base f d ["t", "sign"] zaK:=zdn rfl fun r ih=>zbf F zxb rfl rfl fun _ _ _ _ _ _ hr=>(zad (zaR (zaO (zbg rfl n_i rfl n_n PyProof.Rows.boot_int (jv 0) (by decide) (by decide) (zfa _ (by simp)))) (zah (zao (zaE (zaa (jv 1) zac)))) zaw)
  (zah (zao (zaP (zdV (jv 0) zbd (zbc zae)) (zin rfl n_t (zbs (N:=["one", "sign"]) (k:=1) (fr:=[1]) ⟨rfl,by decide +kernel,rfl,rfl,rfl,rfl,rfl,rfl,rfl⟩ (zbz (zdV (jv 0) (zbc zae) zbd)) (fun _ _ _ _=>(zam (i:=0) (show List.Nodup [("one" :Str),("sign" :Str)] from by decide +kernel) rfl (Or.inl rfl))) (fun _ _ _ _=>zbv) (fun _ _ _ _=>(zai ih hr rfl m F.kp b (zaa (jv 0) (zaa (jv 1) zac))))))))))
theorem o29{f:Addr}{d:FuncData}(F:Fun K "_law_some" "_law_some" s29 f d) (x17:C17 P w K mg base) (x18:C18 P w K mg base) (x25:C25 P w K mg base) (x28:C28 P w K mg base) (n_r:mg "range" =none) (n_m:mg "min" =none) (n_n:mg "int" =none):Ok P w K mg base f d ["script", "first"] zcm:=zdn rfl fun r ih=>zbf F sc29 rfl rfl fun _ _ _ _ _ _ hr=>(zad (zap (i:=2) sc29.nd rfl (Or.inl rfl) (zai (x17.zg r) hr rfl x17.zm x17.zk x17.zb (zaa (jv 0) (zaa zae (zaa zae zac)))))
  (zad (zap (i:=3) sc29.nd rfl (Or.inl rfl) (zaF (zfI (zai (x18.zg r) hr rfl x18.zm x18.zk x18.zb (zaa (jv 0) (zaa zae (zaa zae zac)))) (zba (zaa zaX zac)))))
  (zad (zap (i:=4) sc29.nd rfl (Or.inl rfl) (zaM (jv 1) zae))
  (zad (zaR (zel hr (zaM (zbU (jv 1) zae) zae) zae) (zah (zap (i:=4) sc29.nd rfl (Or.inl rfl) (zaP zae (zaM (zbU (jv 1) zae) zae)))) zaw)
  (zad (zap (i:=5) sc29.nd rfl (Or.inl rfl) (zaF (zba zac)))
  (zad (zbO (zbX rfl n_r (zaa (jv 4) zac)) (zam (i:=6) sc29.nd rfl (Or.inl rfl)) (zad (zap (i:=7) sc29.nd rfl (Or.inl rfl) (zai (x25.zg r) hr rfl x25.zm x25.zk x25.zb (zaa (jv 0) (zaa (zaP zae (zgg zae (zqX rfl n_m (zaa (jv 6) (zaa zae zac))))) (zaa (zdV (jv 2) zbd (zbc zae)) (zaa (zaD (jv 3) (jv 6)) zac))))))
  (zad (zaR (zel hr (zaM (zbU (jv 1) zae) zae) zae) (zad (zap (i:=7) sc29.nd rfl (Or.inl rfl) (zaE (zaa (zaD (jv 3) (jv 6)) (zaa (zaP (zaE (zaa (zmV (zfI (jv 2) (zba (zaa zaX zac))) (jv 6)) zac)) (znp (zaE (zaa zae zac)) (zmQ rfl n_n (zaa (zff hr (zaM (jv 6) zae) zae) zac)))) (zaa (zaD (jv 7) zae) zac)))))
  (zah (zap (i:=7) sc29.nd rfl (Or.inl rfl) (zaE (zaa (zaD (jv 7) zae) (zaa (zaD (jv 7) zae) (zaa (zai (x28.zg r) hr rfl x28.zm x28.zk x28.zb (zaa (zaD (jv 7) zae) (zaa (zaD (jv 2) zae) zac))) zac))))))) zaw)
  (zah (zbT (zbA (jv 5) (zaa (jv 7) zac)))))))
  (zah (zao (jv 5)))))))))
theorem o30{f:Addr}{d:FuncData}(F:Fun K "_law_put" "_law_put" s30 f d) (b:Binds K d ["t", "place", "other"] []) (m:mg "_law_put" =some (.ref f)):Ok P w K mg base f d ["t", "place", "other"] zbE:=zdn rfl fun r ih=>zbf F sc30 rfl rfl fun _ _ _ _ _ _ hr=>(zad (zaR (zel hr (jv 1) (zaE zac)) (zah (zao (jv 2))) zaw)
  (zad (zap (i:=3) sc30.nd rfl (Or.inl rfl) (zaP (zaD (jv 1) zae) zae))
  (zah (zao (zaP (zaP (zdV (jv 0) zbd (zbc (jv 3))) (zaE (zaa (zai ih hr rfl m F.kp b (zaa (zaD (jv 0) (jv 3)) (zaa (zdV (jv 1) (zbc zae) zbd) (zaa (jv 2) zac)))) zac))) (zdV (jv 0) (zbc (zaP (jv 3) zae)) zbd))))))
theorem o31{f:Addr}{d:FuncData}(F:Fun K "_law_is_title" "_law_is_title" s31 f d) (n_a:mg "all" =none) (n_l:mg "len" =none):Ok P w K mg base f d ["word"] zbo:=zdn rfl fun r ih=>zbf F zwE rfl rfl fun _ _ _ _ _ _ hr=>(zad (zaR (JW.jt (zeE (zkA (zaC rfl n_l (zaa (jv 0) zac)) zae) (zeE (zfB (zaC rfl n_l (zaa (jv 0) zac)) zae) (zdp (zpk hr (zaD (jv 0) zae) zaX))))) (zah (zao zdW)) zaw)
  (zah (zao (zem rfl n_a (zbs (N:=["letter"]) (k:=1) (fr:=[]) ⟨rfl,by decide +kernel,rfl,rfl,rfl,rfl,rfl,rfl,rfl⟩ (zbz (zdV (jv 0) (zbc zae) zbd)) (fun _ _ _ _=>(zam (i:=0) (show List.Nodup [("letter" :Str)] from by decide +kernel) rfl (Or.inl rfl))) (fun _ _ _ _=>zbv) (fun _ _ _ _=>(zrA hr (jv 0) zaX)))))))
theorem o32{f:Addr}{d:FuncData}(F:Fun K "_law_numbers" "_law_numbers" s32 f d) (x22:C22 P w K mg base) (n_i:mg "isinstance" =none) (n_n:mg "int" =none):Ok P w K mg base f d ["side"] zaW:=zdn rfl fun r ih=>zbf F zwv rfl rfl fun _ _ _ _ _ _ hr=>(zah (zao (zaF (zbs (N:=["place", "one"]) (k:=2) (fr:=[]) ⟨rfl,by decide +kernel,rfl,rfl,rfl,rfl,rfl,rfl,rfl⟩ (zbz (zai (x22.zg r) hr rfl x22.zm x22.zk x22.zb (zaa (jv 0) zac))) (fun _ _ _ _=>(zcp (zar (zam (i:=0) (show List.Nodup [("place" :Str),("one" :Str)] from by decide +kernel) rfl (Or.inl rfl)) (zar (zam (i:=1) (show List.Nodup [("place" :Str),("one" :Str)] from by decide +kernel) rfl (Or.inl rfl)) zbC)) (glS (glS gl0)))) (fun _ _ _ _=>(zjo (zaO (zbg rfl n_i rfl n_n PyProof.Rows.boot_int (jv 1) (by decide) (by decide) (zfa _ (by simp)))))) (fun _ _ _ _=>(jv 1))))))
theorem o33{f:Addr}{d:FuncData}(F:Fun K "_law_good" "_law_good" s33 f d) (x32:C32 P w K mg base) (x31:C31 P w K mg base) (x22:C22 P w K mg base) (n_a:mg "all" =none) (n_i:mg "isinstance" =none) (n_n:mg "int" =none) (n_s:mg "list" =none) (n_l:mg "len" =none) (n_r:mg "range" =none):Ok P w K mg base f d ["thing"] zbq:=zdn rfl fun r ih=>zbf F sc33 rfl rfl fun _ _ _ _ _ _ hr=>(zad (zfH (jv 0) (zcp (zar (zam (i:=1) sc33.nd rfl (Or.inl rfl)) (zar (zam (i:=2) sc33.nd rfl (Or.inl rfl)) (zar (zam (i:=3) sc33.nd rfl (Or.inl rfl)) zbC))) (glS (glS (glS gl0)))))
  (zad (zap (i:=4) sc33.nd rfl (Or.inr rfl) (zai (x32.zg r) hr rfl x32.zm x32.zk x32.zb (zaa (jv 2) zac)))
  (zad (zaR (JW.jt (zeE (zaO (zbg rfl n_i rfl n_n PyProof.Rows.boot_int (jv 2) (by decide) (by decide) (zfa _ (by simp)))) (zeE (zhw hr (jv 4) (zaF (zdF rfl n_s rfl n_r (zaC rfl n_l (zaa (jv 4) zac))))) (zdp (zdj (zaO (zai (x31.zg r) hr rfl x31.zm x31.zk x31.zb (zaa (jv 1) zac)))))))) (zah (zao zdW)) zaw)
  (zad (zaR (JW.jt (zeE (zfB (zaC rfl n_l (zaa (zai (x22.zg r) hr rfl x22.zm x22.zk x22.zb (zaa (jv 2) zac)) zac)) zae) (zdp (zfB (zaC rfl n_l (zaa (zai (x22.zg r) hr rfl x22.zm x22.zk x22.zb (zaa (jv 3) zac)) zac)) zae)))) (zah (zao zdW)) zaw)
  (zah (zao (zem rfl n_a (zbs (N:=["n", "known"]) (k:=1) (fr:=[4]) ⟨rfl,by decide +kernel,rfl,rfl,rfl,rfl,rfl,rfl,rfl⟩ (zbz (zai (x32.zg r) hr rfl x32.zm x32.zk x32.zb (zaa (jv 3) zac))) (fun _ _ _ _=>(zam (i:=0) (show List.Nodup [("n" :Str),("known" :Str)] from by decide +kernel) rfl (Or.inl rfl))) (fun _ _ _ _=>zbv) (fun _ _ _ _=>(zrA hr (jv 0) (jv 1)))))))))))
theorem o34{f:Addr}{d:FuncData}(F:Fun K "_law_wrapped" "_law_wrapped" s34 f d) (x22:C22 P w K mg base) (n_l:mg "len" =none):Ok P w K mg base f d ["side", "heavy", "sign"] zbi:=zdn rfl fun r ih=>zbf F sc34 rfl rfl fun _ _ _ _ _ _ hr=>(zad (zap (i:=3) sc34.nd rfl (Or.inl rfl) (zet (zet (jv 1) (zaC rfl n_l (zaa (zai (x22.zg r) hr rfl x22.zm x22.zk x22.zb (zaa (jv 0) zac)) zac))) zae))
  (zad (zaR (zkA (jv 3) zae) (zah (zao (jv 0))) zaw)
  (zah (zao (zaP (zaE (zaa (jv 2) (zaa (jv 0) zac))) (znp (zaE (zaa (zaE (zaa (jv 2) zac)) zac)) (jv 3)))))))
theorem o35{f:Addr}{d:FuncData}(F:Fun K "_law_other_numbers" "_law_other_numbers" s35 f d) (x30:C30 P w K mg base) (x22:C22 P w K mg base) (n_e:mg "enumerate" =none) (n_i:mg "isinstance" =none) (n_n:mg "int" =none) (n_l:mg "len" =none):Ok P w K mg base f d ["left", "way", "cell"] zaL:=zdn rfl fun r ih=>zbf F sc35 rfl rfl fun _ _ _ _ _ _ hr=>(zad (zms (i:=3) (N:=["place", "one"]) (k:=2) (fr:=[]) sc35.nd rfl (Or.inl rfl) ⟨rfl,by decide +kernel,rfl,rfl,rfl,rfl,rfl,rfl,rfl⟩ (zbz (zai (x22.zg r) hr rfl x22.zm x22.zk x22.zb (zaa (jv 0) zac))) (fun _ _ _ _=>(zcp (zar (zam (i:=0) (show List.Nodup [("place" :Str),("one" :Str)] from by decide +kernel) rfl (Or.inl rfl)) (zar (zam (i:=1) (show List.Nodup [("place" :Str),("one" :Str)] from by decide +kernel) rfl (Or.inl rfl)) zbC)) (glS (glS gl0)))) (fun _ _ _ _=>(zjo (zaO (zbg rfl n_i rfl n_n PyProof.Rows.boot_int (jv 1) (by decide) (by decide) (zfa _ (by simp)))))) (fun _ _ _ _=>(jv 0)))
  (zad (zap (i:=4) sc35.nd rfl (Or.inl rfl) (jv 0))
  (zad (zbO (zjh rfl n_e (jv 3)) (zcp (zar (zam (i:=5) sc35.nd rfl (Or.inl rfl)) (zar (zam (i:=6) sc35.nd rfl (Or.inl rfl)) zbC)) (glS (glS gl0))) (zad (zap (i:=7) sc35.nd rfl (Or.inl rfl) (zmV (zba (zaa (zet (zet (zaC rfl n_l (zaa (jv 3) zac)) zae) (jv 5)) (zaa (zbU (jv 5) zae) (zaa (zaP (jv 5) zae) (zaa (jv 5) zac))))) (jv 1)))
  (zah (zap (i:=4) sc35.nd rfl (Or.inl rfl) (zai (x30.zg r) hr rfl x30.zm x30.zk x30.zb (zaa (jv 4) (zaa (jv 6) (zaa (jv 7) zac))))))))
  (zad (zaR (JW.jt (zdA (zel hr (jv 1) zae) (zdC (zfB (zaC rfl n_l (zaa (jv 3) zac)) zae)))) (zah (zap (i:=4) sc35.nd rfl (Or.inl rfl) (zai (x30.zg r) hr rfl x30.zm x30.zk x30.zb (zaa (jv 4) (zaa (zaD (jv 3) (zaM (jv 2) (zaC rfl n_l (zaa (jv 3) zac)))) (zaa (zaE (zaa zaX zac)) zac)))))) zaw)
  (zah (zao (jv 4)))))))
theorem o36{f:Addr}{d:FuncData}(F:Fun K "_law_spoiled" "_law_spoiled" s36 f d) (x35:C35 P w K mg base) (x34:C34 P w K mg base) (x32:C32 P w K mg base) (n_x:mg "max" =none) (n_l:mg "len" =none):Ok P w K mg base f d ["thing", "cell", "signs"] zaT:=zdn rfl fun r ih=>zbf F sc36 rfl rfl fun _ _ _ _ _ _ hr=>(zad (zfH (jv 0) (zcp (zar (zam (i:=3) sc36.nd rfl (Or.inl rfl)) (zar (zam (i:=4) sc36.nd rfl (Or.inl rfl)) (zar (zam (i:=5) sc36.nd rfl (Or.inl rfl)) zbC))) (glS (glS (glS gl0)))))
  (zad (zap (i:=6) sc36.nd rfl (Or.inl rfl) (zaM (jv 1) zae))
  (zad (zap (i:=7) sc36.nd rfl (Or.inl rfl) (zbU (jv 1) zae))
  (zad (zaR (zel hr (jv 6) zae) (zad (zap (i:=8) sc36.nd rfl (Or.inl rfl) (zaF (zba (zaa zaX (zaa zaX (zaa (zaP (jv 3) zaX) (zaa zaX (zaa zaX (zaa zaX (zaa zaX (zaa (zaD (jv 2) zae) (zaa (zaP (zdV (jv 3) zbd (zbc zae)) zaX) (zaa zaX zac)))))))))))))
  (zah (zao (zaE (zaa (zaD (jv 8) (zaM (jv 7) zae)) (zaa (jv 4) (zaa (jv 5) zac))))))) zaw)
  (zad (zaR (zel hr (jv 6) zae) (zah (zao (zaE (zaa (jv 3) (zaa (zaM (jv 7) zae) (zaa (jv 5) zac)))))) zaw)
  (zad (zaR (zkA (jv 6) zae) (zah (zao (zaE (zaa (jv 3) (zaa (zai (x35.zg r) hr rfl x35.zm x35.zk x35.zb (zaa (jv 4) (zaa (zet (jv 6) zae) (zaa (jv 7) zac)))) (zaa (jv 5) zac)))))) zaw)
  (zad (zaR (zel hr (jv 6) zae) (zad (zap (i:=9) sc36.nd rfl (Or.inl rfl) (zrD rfl n_x (zaa zae (zaa (zaP (zet (zaC rfl n_l (zaa (zai (x32.zg r) hr rfl x32.zm x32.zk x32.zb (zaa (jv 4) zac)) zac)) (zaM (jv 7) zae)) (zaM (jv 7) zae)) zac))))
  (zah (zao (zaE (zaa (jv 3) (zaa (jv 4) (zaa (zaE (zaa (zaD (jv 2) zae) (zaa (jv 5) (zaa (jv 9) zac)))) zac))))))) zaw)
  (zad (zaR (zel hr (jv 6) zae) (zah (zao (zaE (zaa (jv 3) (zaa (zai (x34.zg r) hr rfl x34.zm x34.zk x34.zb (zaa (jv 4) (zaa (zaP zae (zaM (jv 7) zae)) (zaa (zaD (jv 2) zae) zac)))) (zaa (jv 5) zac)))))) zaw)
  (zad (zaR (zel hr (jv 6) zae) (zah (zao (zaE (zaa (jv 3) (zaa (jv 4) (zaa (zai (x34.zg r) hr rfl x34.zm x34.zk x34.zb (zaa (jv 5) (zaa (zaP zae (zaM (jv 7) zae)) (zaa (zaD (jv 2) zae) zac)))) zac)))))) zaw)
  (zah (zao (jv 0))))))))))))
theorem o37{f:Addr}{d:FuncData}(F:Fun K "law" "law" s37 f d) (x16:C16 P w K mg base) (x29:C29 P w K mg base) (x36:C36 P w K mg base) (x15:C15 P w K mg base) (x27:C27 P w K mg base) (x17:C17 P w K mg base) (x21:C21 P w K mg base) (x33:C33 P w K mg base) (n_s:mg "list" =none) (n_l:mg "len" =none) (n_a:mg "all" =none) (n_q:mg "set" =none) (n_i:mg "isinstance" =none) (n_ValueError:mg "ValueError" =none) (y_Clash:Ncl mg "Clash") (y_NoTurning:Ncl mg "NoTurning") (y_TurnError:Ncl mg "TurnError") (e_Clash_TurnError:PySem.W.exmOne K (.ref y_Clash.xC) (.ref y_TurnError.xC)=some true) (e_NoTurning_TurnError:PySem.W.exmOne K (.ref y_NoTurning.xC) (.ref y_TurnError.xC)=some true) (q_Clash_Clash:PySem.W.kitOne K (.ref y_Clash.xC) (.ref y_Clash.xC)=some (ziH "Clash" "Clash")) (q_Clash_NoTurning:PySem.W.kitOne K (.ref y_Clash.xC) (.ref y_NoTurning.xC)=some (ziH "Clash" "NoTurning")) (q_Clash_ValueError:PySem.W.kitOne K (.ref y_Clash.xC) (.type "ValueError")=some (ziH "Clash" "ValueError")) (q_NoTurning_Clash:PySem.W.kitOne K (.ref y_NoTurning.xC) (.ref y_Clash.xC)=some (ziH "NoTurning" "Clash")) (q_NoTurning_NoTurning:PySem.W.kitOne K (.ref y_NoTurning.xC) (.ref y_NoTurning.xC)=some (ziH "NoTurning" "NoTurning")) (q_NoTurning_ValueError:PySem.W.kitOne K (.ref y_NoTurning.xC) (.type "ValueError")=some (ziH "NoTurning" "ValueError")) (v_Clash:XcIn K "Clash" y_Clash.xC) (v_NoTurning:XcIn K "NoTurning" y_NoTurning.xC):Ok P w K mg base f d ["script"] zcN:=zdn rfl fun r ih=>by
  refine zbf F sc37 rfl rfl fun _ _ _ _ _ _ hr=>?_;delta zcq zcu zcz zcx zcy zcv zcD zcB zde zdd zdf zcS zdE zdK zcZ zdx zdv zdL zcW zcU zcV zdg;exact(zad (zap (i:=1) sc37.nd rfl (Or.inl rfl) (zai (x16.zg r) hr rfl x16.zm x16.zk x16.zb (zaa (jv 0) (zaa zae zac))))
  (zad (zap (i:=2) sc37.nd rfl (Or.inl rfl) (zai (x29.zg r) hr rfl x29.zm x29.zk x29.zb (zaa (jv 0) (zaa (jv 1) zac))))
  (zad (zap (i:=3) sc37.nd rfl (Or.inl rfl) (zai (x16.zg r) hr rfl x16.zm x16.zk x16.zb (zaa (jv 0) (zaa zae zac))))
  (zad (zaR (JW.jt (zdA (zfB (zaC rfl n_l (zaa (jv 2) zac)) zae) (zdC (zel hr (zaM (jv 3) zae) zae)))) (zad (zap (i:=4) sc37.nd rfl (Or.inl rfl) (zaM (zbU (jv 3) zae) (zaC rfl n_l (zaa (jv 2) zac))))
  (zad (zap (i:=5) sc37.nd rfl (Or.inl rfl) (zaM (zaP (zaP (jv 4) zae) (zaM (zbU (jv 3) zae) (zet (zaC rfl n_l (zaa (jv 2) zac)) zae))) (zaC rfl n_l (zaa (jv 2) zac))))
  (zah (zfH (zaE (zaa (zaD (zaD (jv 2) (jv 5)) zae) (zaa (zaD (zaD (jv 2) (jv 4)) zae) (zaa (zaD (zaD (jv 2) (jv 4)) zae) zac)))) (zpM (jv 2) (jv 4)))))) zaw)
  (zad (zaR (JW.jt (zdA (zfB (zaC rfl n_l (zaa (jv 2) zac)) zae) (zdC (zel hr (zaM (jv 3) zae) zae)))) (zad (zap (i:=4) sc37.nd rfl (Or.inl rfl) (zaM (zbU (jv 3) zae) (zaC rfl n_l (zaa (jv 2) zac))))
  (zah (zfH (zai (x36.zg r) hr rfl x36.zm x36.zk x36.zb (zaa (zaD (jv 2) (jv 4)) (zaa (zbU (jv 3) zae) (zaa (zai (x17.zg r) hr rfl x17.zm x17.zk x17.zb (zaa (jv 0) (zaa zae (zaa zae zac)))) zac)))) (zpM (jv 2) (jv 4))))) zaw)
  (zad (zms (i:=6) (N:=["one"]) (k:=1) (fr:=[]) sc37.nd rfl (Or.inl rfl) ⟨rfl,by decide +kernel,rfl,rfl,rfl,rfl,rfl,rfl,rfl⟩ (zbz (jv 2)) (fun _ _ _ _=>(zam (i:=0) (show List.Nodup [("one" :Str)] from by decide +kernel) rfl (Or.inl rfl))) (fun _ _ _ _=>zbv) (fun _ _ _ _=>(zaD (jv 0) zae)))
  (zad (zap (i:=7) sc37.nd rfl (Or.inl rfl) (ztZ (zvZ (zaC rfl n_l (zaa (jv 2) zac)) zae) (ztZ (zwe (zmo rfl n_l rfl n_q (jv 6)) (zaC rfl n_l (zaa (jv 6) zac))) (zew (zls (zem rfl n_a (zbs (N:=["one"]) (k:=1) (fr:=[]) ⟨rfl,by decide +kernel,rfl,rfl,rfl,rfl,rfl,rfl,rfl⟩ (zbz (jv 2)) (fun _ _ _ _=>(zam (i:=0) (show List.Nodup [("one" :Str)] from by decide +kernel) rfl (Or.inl rfl))) (fun _ _ _ _=>zbv) (fun _ _ _ _=>(zai (x33.zg r) hr rfl x33.zm x33.zk x33.zb (zaa (jv 0) zac))))))))))
  (zad (zap (i:=8) sc37.nd rfl (Or.inl rfl) (zaF (zmL rfl n_s (jv 2))))
  (zad (zap (i:=9) sc37.nd rfl (Or.inl rfl) (zaF (zba zac)))
  (zad (zap (i:=10) sc37.nd rfl (Or.inl rfl) zim)
  (zad (zpv (fun _ _=>(zsw (ztH (i:=10) sc37.nd rfl (Or.inl rfl) (zrg (x15.zg r) hr rfl x15.zm x15.zk x15.zb (zaa (jv 8) zac))))) (alc ⟨y_NoTurning.xC,v_NoTurning,e_NoTurning_TurnError,fun a oa pn hp hc=>(zah (zap (i:=9) sc37.nd rfl (Or.inl rfl) (zaF (zba (zaa (zjR hp hc v_NoTurning.xc q_NoTurning_NoTurning rfl n_i (i:=11) rfl (Or.inl rfl) rfl y_NoTurning.xm) (zaa (zjR hp hc v_NoTurning.xc q_NoTurning_Clash rfl n_i (i:=11) rfl (Or.inl rfl) rfl y_Clash.xm) (zaa (zlt hp hc v_NoTurning.xc q_NoTurning_ValueError rfl n_i (i:=11) rfl (Or.inl rfl) rfl n_ValueError zdy) zac)))))))⟩ (alc ⟨y_Clash.xC,v_Clash,e_Clash_TurnError,fun a oa pn hp hc=>(zah (zap (i:=9) sc37.nd rfl (Or.inl rfl) (zaF (zba (zaa (zjR hp hc v_Clash.xc q_Clash_NoTurning rfl n_i (i:=11) rfl (Or.inl rfl) rfl y_NoTurning.xm) (zaa (zjR hp hc v_Clash.xc q_Clash_Clash rfl n_i (i:=11) rfl (Or.inl rfl) rfl y_Clash.xm) (zaa (zlt hp hc v_Clash.xc q_Clash_ValueError rfl n_i (i:=11) rfl (Or.inl rfl) rfl n_ValueError zdy) zac)))))))⟩ aln)) rfl y_TurnError.xm sc37.nd rfl rfl)
  (zad (zaR (zhw hr (jv 8) (jv 2)) (zah (zao zdW)) zaw)
  (zad (zaR (JW.jt (zeE (zaO (jv 7)) (zdp (zaO (zai (x27.zg r) hr rfl x27.zm x27.zk x27.zb (zaa (jv 2) zac)))))) (zah (zao (zff hr (jv 9) (zaF (zba (zaa (jv 7) (zaa (zls (jv 7)) (zaa zdW zac)))))))) zaw)
  (zad (zaR (JW.jt (zeE (zhw hr (jv 9) (zaF (zba zac))) (zdp (zdj (zaO (zai (x21.zg r) hr rfl x21.zm x21.zk x21.zb (zaa (jv 10) (zaa (jv 2) zac)))))))) (zah (zao zdW)) zaw)
  (zad (zbT (zbA (jv 8) (zaa zae zac)))
  (zad (zbT (zbA (jv 10) (zaa zae zac)))
  (zah (zao (zdZ (zff hr (jv 10) (zaF (zfI (jv 2) (zba (zaa zae zac))))) (zew (zff hr (jv 8) (zaF (zfI (jv 2) (zba (zaa zae zac)))))))))))))))))))))))))
end
theorem all_mk{l:PySem.W.OpenLaw}{w:World}{K:PySem.W.Frag}{h:Heap}{mg:Str→Option Value}{fa:Addr}(X:K.In h) (G:h.Ns mainGlobals mg) (hfa:mg "law" =some (.ref fa))
  (D0:Dfn K "parts_of" s0)
  (D1:Dfn K "weight" s1)
  (D3:Dfn K "places" s3)
  (D2:Dfn K "gather_places" s2)
  (D5:Dfn K "part" s5)
  (D4:Dfn K "numbered_part" s4)
  (D6:Dfn K "blank_places" s6)
  (D7:Dfn K "blanks" s7)
  (D9:Dfn K "meet" s9)
  (D8:Dfn K "have_one_top" s8)
  (D11:Dfn K "is_title" s11)
  (D10:Dfn K "are_small_letters" s10)
  (D12:Dfn K "is_turning" s12)
  (D14:Dfn K "clash" s14)
  (D13:Dfn K "clash_of" s13)
  (D15:Dfn K "book_of" s15)
  (D16:Dfn K "_law_draw" s16)
  (D17:Dfn K "_law_signs" s17)
  (D18:Dfn K "_law_titles" s18)
  (D19:Dfn K "_law_pushed" s19)
  (D20:Dfn K "_law_thing" s20)
  (D21:Dfn K "_law_alike" s21)
  (D22:Dfn K "_law_places" s22)
  (D23:Dfn K "_law_numbered" s23)
  (D24:Dfn K "_law_left" s24)
  (D25:Dfn K "_law_turning" s25)
  (D26:Dfn K "_law_meet" s26)
  (D27:Dfn K "_law_clash" s27)
  (D29:Dfn K "_law_some" s29)
  (D28:Dfn K "_law_no_blanks" s28)
  (D30:Dfn K "_law_put" s30)
  (D31:Dfn K "_law_is_title" s31)
  (D32:Dfn K "_law_numbers" s32)
  (D33:Dfn K "_law_good" s33)
  (D34:Dfn K "_law_wrapped" s34)
  (D35:Dfn K "_law_other_numbers" s35)
  (D36:Dfn K "_law_spoiled" s36)
  (D37:Dfn K "law" s37)
  (z_ValueError:PySem.W.nsIn K mainGlobals "ValueError" =some none)
  (z_a:PySem.W.nsIn K mainGlobals "all" =some none)
  (z_b:PySem.W.nsIn K mainGlobals "bool" =some none)
  (z_e:PySem.W.nsIn K mainGlobals "enumerate" =some none)
  (z_n:PySem.W.nsIn K mainGlobals "int" =some none)
  (z_i:PySem.W.nsIn K mainGlobals "isinstance" =some none)
  (z_l:PySem.W.nsIn K mainGlobals "len" =some none)
  (z_s:PySem.W.nsIn K mainGlobals "list" =some none)
  (z_x:PySem.W.nsIn K mainGlobals "max" =some none)
  (z_m:PySem.W.nsIn K mainGlobals "min" =some none)
  (z_r:PySem.W.nsIn K mainGlobals "range" =some none)
  (z_q:PySem.W.nsIn K mainGlobals "set" =some none)
  (z_c:PySem.W.nsIn K mainGlobals "str" =some none)
  (z_t:PySem.W.nsIn K mainGlobals "tuple" =some none)
  (z_z:PySem.W.nsIn K mainGlobals "zip" =some none)
  {t_MOST_LETTERS:Tok}(z_MOST_LETTERS:PySem.W.nsIn K mainGlobals "MOST_LETTERS" =some (some (.int 8 t_MOST_LETTERS)))
  {t_LEFT:Tok}(z_LEFT:PySem.W.nsIn K mainGlobals "LEFT" =some (some (.int 1 t_LEFT)))
  {t_RIGHT:Tok}(z_RIGHT:PySem.W.nsIn K mainGlobals "RIGHT" =some (some (.int 2 t_RIGHT)))
  {t_MOST_TURNINGS:Tok}(z_MOST_TURNINGS:PySem.W.nsIn K mainGlobals "MOST_TURNINGS" =some (some (.int 8 t_MOST_TURNINGS)))
  {t_MOST_HEAVY_SIDE:Tok}(z_MOST_HEAVY_SIDE:PySem.W.nsIn K mainGlobals "MOST_HEAVY_SIDE" =some (some (.int 12 t_MOST_HEAVY_SIDE)))
  {C_Clash:Addr}(z_Clash:PySem.W.nsIn K mainGlobals "Clash" =some (some (.ref C_Clash)))
  {C_NoPlace:Addr}(z_NoPlace:PySem.W.nsIn K mainGlobals "NoPlace" =some (some (.ref C_NoPlace)))
  {C_NoTurning:Addr}(z_NoTurning:PySem.W.nsIn K mainGlobals "NoTurning" =some (some (.ref C_NoTurning)))
  {C_TurnError:Addr}(z_TurnError:PySem.W.nsIn K mainGlobals "TurnError" =some (some (.ref C_TurnError)))
  (ze_Clash_TurnError:PySem.W.exmOne K (.ref C_Clash) (.ref C_TurnError)=some true)
  (ze_NoTurning_TurnError:PySem.W.exmOne K (.ref C_NoTurning) (.ref C_TurnError)=some true)
  (zq_Clash_Clash:PySem.W.kitOne K (.ref C_Clash) (.ref C_Clash)=some (true))
  (zq_Clash_NoTurning:PySem.W.kitOne K (.ref C_Clash) (.ref C_NoTurning)=some (false))
  (zq_Clash_ValueError:PySem.W.kitOne K (.ref C_Clash) (.type "ValueError")=some (true))
  (zq_NoTurning_Clash:PySem.W.kitOne K (.ref C_NoTurning) (.ref C_Clash)=some (false))
  (zq_NoTurning_NoTurning:PySem.W.kitOne K (.ref C_NoTurning) (.ref C_NoTurning)=some (true))
  (zq_NoTurning_ValueError:PySem.W.kitOne K (.ref C_NoTurning) (.type "ValueError")=some (true))
  (za_Clash:PySem.W.excIn K C_Clash bmV "ValueError.__new__" =true) (zb_Clash:PySem.W.findIn K (.ref C_Clash) "__getattribute__" =some (some (.builtin "BaseException.__getattribute__"))) (zc_Clash:PySem.W.findIn K (.ref C_Clash) "__getattr__" =some none) (zd_Clash:PySem.W.findIn K (.ref C_Clash) "__class__" =some (some (.builtin "object.__class__"))) (ze_Clash:PySem.W.mroIn K C_Clash (.type "object")=some true) (zf_Clash:PySem.W.mroIn K C_Clash (.type "BaseException")=some true)
  (za_NoPlace:PySem.W.excIn K C_NoPlace bmV "ValueError.__new__" =true) (zb_NoPlace:PySem.W.findIn K (.ref C_NoPlace) "__getattribute__" =some (some (.builtin "BaseException.__getattribute__"))) (zc_NoPlace:PySem.W.findIn K (.ref C_NoPlace) "__getattr__" =some none) (zd_NoPlace:PySem.W.findIn K (.ref C_NoPlace) "__class__" =some (some (.builtin "object.__class__"))) (ze_NoPlace:PySem.W.mroIn K C_NoPlace (.type "object")=some true) (zf_NoPlace:PySem.W.mroIn K C_NoPlace (.type "BaseException")=some true)
  (za_NoTurning:PySem.W.excIn K C_NoTurning bmV "ValueError.__new__" =true) (zb_NoTurning:PySem.W.findIn K (.ref C_NoTurning) "__getattribute__" =some (some (.builtin "BaseException.__getattribute__"))) (zc_NoTurning:PySem.W.findIn K (.ref C_NoTurning) "__getattr__" =some none) (zd_NoTurning:PySem.W.findIn K (.ref C_NoTurning) "__class__" =some (some (.builtin "object.__class__"))) (ze_NoTurning:PySem.W.mroIn K C_NoTurning (.type "object")=some true) (zf_NoTurning:PySem.W.mroIn K C_NoTurning (.type "BaseException")=some true)
  :∃fd:FuncData,(∀(s:Shared) (v:Value),BindsTo s fd ⟨[v],[]⟩ [("script",v)])∧ ∀base:Heap,K.In base→base.Ns mainGlobals mg→FnOk l.prog w K mg base (CX1 l.prog w) 200 fa fd ["script"] (zcd K (zcN 200)):=by
 obtain⟨f37,d37,a37,F37⟩:=D37;have e:=hfa.symm.trans (PySem.W.mg_of X G a37);cases e;have n_ValueError:=PySem.W.mg_none_of X G z_ValueError;have n_a:=PySem.W.mg_none_of X G z_a;have n_b:=PySem.W.mg_none_of X G z_b;have n_e:=PySem.W.mg_none_of X G z_e;have n_n:=PySem.W.mg_none_of X G z_n;have n_i:=PySem.W.mg_none_of X G z_i;have n_l:=PySem.W.mg_none_of X G z_l;have n_s:=PySem.W.mg_none_of X G z_s;have n_x:=PySem.W.mg_none_of X G z_x;have n_m:=PySem.W.mg_none_of X G z_m;have n_r:=PySem.W.mg_none_of X G z_r;have n_q:=PySem.W.mg_none_of X G z_q;have n_c:=PySem.W.mg_none_of X G z_c;have n_t:=PySem.W.mg_none_of X G z_t;have n_z:=PySem.W.mg_none_of X G z_z;have g_MOST_LETTERS:=PySem.W.mg_of X G z_MOST_LETTERS;have g_LEFT:=PySem.W.mg_of X G z_LEFT;have g_RIGHT:=PySem.W.mg_of X G z_RIGHT;have g_MOST_TURNINGS:=PySem.W.mg_of X G z_MOST_TURNINGS;have g_MOST_HEAVY_SIDE:=PySem.W.mg_of X G z_MOST_HEAVY_SIDE;refine⟨d37,fun s v=>?_,fun base _ _=>?_⟩
 ·obtain⟨oc,od,kV,doc,pm,an,cdv,ct,osl,rfl,lk,hcd⟩:=F37.ex;exact .of_eq rfl
 obtain⟨f,d,a,F⟩:=D0;have x0:=mkC (base:=base) X G F a (o0 (P:=l.prog) (w:=w) F n_i n_n) (F.binds fun _ _ _ _ _ _=>n1 fun _=>rfl);obtain⟨f,d,a,F⟩:=D1;have x1:=mkC (base:=base) X G F a (o1 (P:=l.prog) (w:=w) F x0) (F.binds fun _ _ _ _ _ _=>n1 fun _=>rfl);obtain⟨f,d,a,F⟩:=D2;have x2:=mkC (base:=base) X G F a (o2 (P:=l.prog) (w:=w) F x0 (F.binds fun _ _ _ _ _ _=>n3 fun _ _ _=>rfl) (PySem.W.mg_of X G a) n_e) (F.binds fun _ _ _ _ _ _=>n3 fun _ _ _=>rfl);obtain⟨f,d,a,F⟩:=D3;have x3:=mkC (base:=base) X G F a (o3 (P:=l.prog) (w:=w) F x2) (F.binds fun _ _ _ _ _ _=>n1 fun _=>rfl);obtain⟨f,d,a,F⟩:=D4;have x4:=mkC (base:=base) X G F a (o4 (P:=l.prog) (w:=w) F x0 n_l ⟨C_NoPlace,PySem.W.mg_of X G z_NoPlace⟩ ⟨z_NoPlace,za_NoPlace,⟨zb_NoPlace,zc_NoPlace,zd_NoPlace,ze_NoPlace,zf_NoPlace⟩⟩) (F.binds fun _ _ _ _ _ _=>n2 fun _ _=>rfl);obtain⟨f,d,a,F⟩:=D5;have x5:=mkC (base:=base) X G F a (o5 (P:=l.prog) (w:=w) F x4) (F.binds fun _ _ _ _ _ _=>n2 fun _ _=>rfl);obtain⟨f,d,a,F⟩:=D6;have x6:=mkC (base:=base) X G F a (o6 (P:=l.prog) (w:=w) F x3 x5 n_i n_n) (F.binds fun _ _ _ _ _ _=>n1 fun _=>rfl);obtain⟨f,d,a,F⟩:=D7;have x7:=mkC (base:=base) X G F a (o7 (P:=l.prog) (w:=w) F x5 x6) (F.binds fun _ _ _ _ _ _=>n1 fun _=>rfl);obtain⟨f,d,a,F⟩:=D8;have x8:=mkC (base:=base) X G F a (o8 (P:=l.prog) (w:=w) F n_l) (F.binds fun _ _ _ _ _ _=>n2 fun _ _=>rfl);obtain⟨f,d,a,F⟩:=D9;have x9:=mkC (base:=base) X G F a (o9 (P:=l.prog) (w:=w) F x8 (F.binds fun _ _ _ _ _ _=>n2 fun _ _=>rfl) (PySem.W.mg_of X G a) n_i n_n n_a n_z) (F.binds fun _ _ _ _ _ _=>n2 fun _ _=>rfl);obtain⟨f,d,a,F⟩:=D10;have x10:=mkC (base:=base) X G F a (o10 (P:=l.prog) (w:=w) F n_a) (F.binds fun _ _ _ _ _ _=>n1 fun _=>rfl);obtain⟨f,d,a,F⟩:=D11;have x11:=mkC (base:=base) X G F a (o11 (P:=l.prog) (w:=w) F x10 n_l g_MOST_LETTERS) (F.binds fun _ _ _ _ _ _=>n1 fun _=>rfl);obtain⟨f,d,a,F⟩:=D12;have x12:=mkC (base:=base) X G F a (o12 (P:=l.prog) (w:=w) F x7 x11 x1 n_i n_n n_a n_s n_r n_l g_LEFT g_RIGHT g_MOST_HEAVY_SIDE) (F.binds fun _ _ _ _ _ _=>n1 fun _=>rfl);obtain⟨f,d,a,F⟩:=D13;have x13:=mkC (base:=base) X G F a (o13 (P:=l.prog) (w:=w) F x3 x5 x9 n_e n_i n_n g_LEFT) (F.binds fun _ _ _ _ _ _=>n2 fun _ _=>rfl);obtain⟨f,d,a,F⟩:=D14;have x14:=mkC (base:=base) X G F a (o14 (P:=l.prog) (w:=w) F x13 n_r n_l) (F.binds fun _ _ _ _ _ _=>n1 fun _=>rfl);obtain⟨f,d,a,F⟩:=D15;have x15:=mkC (base:=base) X G F a (o15 (P:=l.prog) (w:=w) F x14 x12 n_s n_l g_MOST_TURNINGS ⟨C_Clash,PySem.W.mg_of X G z_Clash⟩ ⟨C_NoTurning,PySem.W.mg_of X G z_NoTurning⟩ ⟨z_Clash,za_Clash,⟨zb_Clash,zc_Clash,zd_Clash,ze_Clash,zf_Clash⟩⟩ ⟨z_NoTurning,za_NoTurning,⟨zb_NoTurning,zc_NoTurning,zd_NoTurning,ze_NoTurning,zf_NoTurning⟩⟩) (F.binds fun _ _ _ _ _ _=>n1 fun _=>rfl);obtain⟨f,d,a,F⟩:=D16;have x16:=mkC (base:=base) X G F a (o16 (P:=l.prog) (w:=w) F n_l) (F.binds fun _ _ _ _ _ _=>n2 fun _ _=>rfl);obtain⟨f,d,a,F⟩:=D17;have x17:=mkC (base:=base) X G F a (o17 (P:=l.prog) (w:=w) F x16 n_r n_n) (F.binds fun _ _ _ _ _ _=>n3 fun _ _ _=>rfl);obtain⟨f,d,a,F⟩:=D18;have x18:=mkC (base:=base) X G F a (o18 (P:=l.prog) (w:=w) F x17) (F.binds fun _ _ _ _ _ _=>n3 fun _ _ _=>rfl);obtain⟨f,d,a,F⟩:=D19;have x19:=mkC (base:=base) X G F a (o19 (P:=l.prog) (w:=w) F n_l n_t) (F.binds fun _ _ _ _ _ _=>n4 fun _ _ _ _=>rfl);obtain⟨f,d,a,F⟩:=D20;have x20:=mkC (base:=base) X G F a (o20 (P:=l.prog) (w:=w) F x19 n_l) (F.binds fun _ _ _ _ _ _=>n3 fun _ _ _=>rfl);obtain⟨f,d,a,F⟩:=D21;have x21:=mkC (base:=base) X G F a (o21 (P:=l.prog) (w:=w) F (F.binds fun _ _ _ _ _ _=>n2 fun _ _=>rfl) (PySem.W.mg_of X G a) n_i n_c n_n n_a n_t n_s n_l n_b n_z) (F.binds fun _ _ _ _ _ _=>n2 fun _ _=>rfl);obtain⟨f,d,a,F⟩:=D22;have x22:=mkC (base:=base) X G F a (o22 (P:=l.prog) (w:=w) F n_l n_i n_n n_r) (F.binds fun _ _ _ _ _ _=>n1 fun _=>rfl);obtain⟨f,d,a,F⟩:=D23;have x23:=mkC (base:=base) X G F a (o23 (P:=l.prog) (w:=w) F (F.binds fun _ _ _ _ _ _=>n2 fun _ _=>rfl) (PySem.W.mg_of X G a) n_i n_n n_t) (F.binds fun _ _ _ _ _ _=>n2 fun _ _=>rfl);obtain⟨f,d,a,F⟩:=D24;have x24:=mkC (base:=base) X G F a (o24 (P:=l.prog) (w:=w) F x20 x23 n_i n_n) (F.binds fun _ _ _ _ _ _=>n2 fun _ _=>rfl);obtain⟨f,d,a,F⟩:=D25;have x25:=mkC (base:=base) X G F a (o25 (P:=l.prog) (w:=w) F x24 x20 x16 n_s n_r) (F.binds fun _ _ _ _ _ _=>n4 fun _ _ _ _=>rfl);obtain⟨f,d,a,F⟩:=D26;have x26:=mkC (base:=base) X G F a (o26 (P:=l.prog) (w:=w) F x22 n_i n_n n_l) (F.binds fun _ _ _ _ _ _=>n2 fun _ _=>rfl);obtain⟨f,d,a,F⟩:=D27;have x27:=mkC (base:=base) X G F a (o27 (P:=l.prog) (w:=w) F x22 x26 n_r n_l n_i n_n) (F.binds fun _ _ _ _ _ _=>n1 fun _=>rfl);obtain⟨f,d,a,F⟩:=D28;have x28:=mkC (base:=base) X G F a (o28 (P:=l.prog) (w:=w) F (F.binds fun _ _ _ _ _ _=>n2 fun _ _=>rfl) (PySem.W.mg_of X G a) n_i n_n n_t) (F.binds fun _ _ _ _ _ _=>n2 fun _ _=>rfl);obtain⟨f,d,a,F⟩:=D29;have x29:=mkC (base:=base) X G F a (o29 (P:=l.prog) (w:=w) F x17 x18 x25 x28 n_r n_m n_n) (F.binds fun _ _ _ _ _ _=>n2 fun _ _=>rfl);obtain⟨f,d,a,F⟩:=D30;have x30:=mkC (base:=base) X G F a (o30 (P:=l.prog) (w:=w) F (F.binds fun _ _ _ _ _ _=>n3 fun _ _ _=>rfl) (PySem.W.mg_of X G a)) (F.binds fun _ _ _ _ _ _=>n3 fun _ _ _=>rfl);obtain⟨f,d,a,F⟩:=D31;have x31:=mkC (base:=base) X G F a (o31 (P:=l.prog) (w:=w) F n_a n_l) (F.binds fun _ _ _ _ _ _=>n1 fun _=>rfl);obtain⟨f,d,a,F⟩:=D32;have x32:=mkC (base:=base) X G F a (o32 (P:=l.prog) (w:=w) F x22 n_i n_n) (F.binds fun _ _ _ _ _ _=>n1 fun _=>rfl);obtain⟨f,d,a,F⟩:=D33;have x33:=mkC (base:=base) X G F a (o33 (P:=l.prog) (w:=w) F x32 x31 x22 n_a n_i n_n n_s n_l n_r) (F.binds fun _ _ _ _ _ _=>n1 fun _=>rfl);obtain⟨f,d,a,F⟩:=D34;have x34:=mkC (base:=base) X G F a (o34 (P:=l.prog) (w:=w) F x22 n_l) (F.binds fun _ _ _ _ _ _=>n3 fun _ _ _=>rfl);obtain⟨f,d,a,F⟩:=D35;have x35:=mkC (base:=base) X G F a (o35 (P:=l.prog) (w:=w) F x30 x22 n_e n_i n_n n_l) (F.binds fun _ _ _ _ _ _=>n3 fun _ _ _=>rfl);obtain⟨f,d,a,F⟩:=D36;have x36:=mkC (base:=base) X G F a (o36 (P:=l.prog) (w:=w) F x35 x34 x32 n_x n_l) (F.binds fun _ _ _ _ _ _=>n3 fun _ _ _=>rfl);exact o37 F37 x16 x29 x36 x15 x27 x17 x21 x33 n_s n_l n_a n_q n_i n_ValueError ⟨C_Clash,PySem.W.mg_of X G z_Clash⟩ ⟨C_NoTurning,PySem.W.mg_of X G z_NoTurning⟩ ⟨C_TurnError,PySem.W.mg_of X G z_TurnError⟩ ze_Clash_TurnError ze_NoTurning_TurnError (zq_Clash_Clash.trans (congrArg some (by decide))) (zq_Clash_NoTurning.trans (congrArg some (by decide))) (zq_Clash_ValueError.trans (congrArg some (by decide))) (zq_NoTurning_Clash.trans (congrArg some (by decide))) (zq_NoTurning_NoTurning.trans (congrArg some (by decide))) (zq_NoTurning_ValueError.trans (congrArg some (by decide))) ⟨z_Clash,za_Clash,⟨zb_Clash,zc_Clash,zd_Clash,ze_Clash,zf_Clash⟩⟩ ⟨z_NoTurning,za_NoTurning,⟨zb_NoTurning,zc_NoTurning,zd_NoTurning,ze_NoTurning,zf_NoTurning⟩⟩ 200
theorem walk{l:PySem.W.OpenLaw}{q:Program}{loose:List Str}{XP:(Str→Option Value)→Heap→Prop}{YP:World→Heap→Prop}{d:DefRec}{K:Params→PySem.W.Frag}(hn:l.most=some 63) (hdf:d.params.defaults=[])
  (hY:∀(w:World) (h:Heap),YP w h→(K w.params).In h)
  (F:∀(w:World) (mg:Str→Option Value) (fa:Addr) (h:Heap),(K w.params).In h→h.Ns mainGlobals mg→mg d.name=some (.ref fa)→
   ∃fd:FuncData,(∀(s:Shared) (u:Value),BindsTo s fd ⟨[u],[]⟩ [("script",u)])∧ ∀base:Heap,(K w.params).In base→base.Ns mainGlobals mg→FnOk l.prog w (K w.params) mg base (CX1 l.prog w) 200 fa fd ["script"] (zcd (K w.params) (zcN 200))) :
  PySem.W.WalkO q loose XP YP l.row.toRowW d [] (fun f vs=>PySem.call f vs):=
 L2.zrM (n:=63) (k:=200) (x:= "script") (CX:=fun w=>CX1 l.prog w) (sp:=fun w=>zcd (K w.params) (zcN 200)) hn (by decide) hdf ⟨rfl,by decide,by decide⟩ hY F (fun w H a ns hl hO hS=>zoU hO hS (zuu ns hl)) fun _ _ _ _ _ ⟨_,_,_,_,_,_,_,_,_,z⟩=>z
end K13
noncomputable def PySem.W.Fast.tw5406361071138203698:Nat:=0
noncomputable def PySem.W.Fast.tw10669173754945895295:Nat:=0
noncomputable def PySem.W.Fast.tw17772142245804603082:Nat:=0
noncomputable def PySem.W.Fast.tw11291243972522419446:Nat:=0
noncomputable def PySem.W.Fast.tw12359939640887649703:Nat:=0
noncomputable def PySem.W.Fast.tw6704160778257323764:Nat:=0
noncomputable def PySem.W.Fast.tw3750556637662350176:Nat:=0
noncomputable def PySem.W.Fast.tw4041881034921812261:Nat:=0
noncomputable def PySem.W.Fast.tw11505805103697746890:Nat:=0
noncomputable def PySem.W.Fast.tw9762912028947105158:Nat:=0
noncomputable def PySem.W.Fast.tw14742233530124081398:Nat:=0
noncomputable def PySem.W.Fast.tw8299343009690128347:Nat:=0
noncomputable def PySem.W.Fast.tw4367581484468190509:Nat:=0
noncomputable def PySem.W.Fast.tw14675533855152642044:Nat:=0
noncomputable def PySem.W.Fast.tw1784518017574369199:Nat:=0
noncomputable def PySem.W.Fast.tw16704189103084720653:Nat:=0
noncomputable def PySem.W.Fast.tw6105169810739110581:Nat:=0
noncomputable def PySem.W.Fast.tw2346755825909571670:Nat:=0
noncomputable def PySem.W.Fast.tw13112135947893032721:Nat:=0
noncomputable def PySem.W.Fast.tw8217293087355324439:Nat:=0
noncomputable def PySem.W.Fast.tw9826651127004354556:Nat:=0
noncomputable def PySem.W.Fast.tw16916858265440123080:Nat:=0
noncomputable def PySem.W.Fast.tw378060503698062402:Nat:=0
noncomputable def PySem.W.Fast.tw17656794350192400337:Nat:=0
noncomputable def PySem.W.Fast.tw8016065098626279277:Nat:=0
noncomputable def PySem.W.Fast.tw3594269696079412551:Nat:=0
noncomputable def PySem.W.Fast.tw3319661012582427005:Nat:=0
noncomputable def PySem.W.Fast.tw12536432152648870043:Nat:=0
noncomputable def PySem.W.Fast.tw4373496759162906808:Nat:=0
noncomputable def PySem.W.Fast.tw9838149094317187199:Nat:=0
noncomputable def PySem.W.Fast.tw15006795379828386796:Nat:=0
noncomputable def PySem.W.Fast.tw16591618753332842372:Nat:=0
noncomputable def PySem.W.Fast.tw13777916594752782152:Nat:=0
noncomputable def PySem.W.Fast.tw7163876733794538581:Nat:=0
noncomputable def PySem.W.Fast.tw17315110922660200100:Nat:=0
noncomputable def PySem.W.Fast.tw13839458212175284549:Nat:=0
noncomputable def PySem.W.Fast.tw1610648500173152072:Nat:=0
noncomputable def PySem.W.Fast.tw3790677136349221787:Nat:=0
noncomputable def PySem.W.Fast.tw1733289129987474442:Nat:=0
noncomputable def PySem.W.Fast.tw4447273903621735039:Nat:=0
noncomputable def PySem.W.Fast.tw17789175441097711659:Nat:=0
noncomputable def PySem.W.Fast.tw14889058287484934251:Nat:=0
noncomputable def PySem.W.Fast.tw10327027914823386550:Nat:=0
noncomputable def PySem.W.Fast.tw209518060529108034:Nat:=0
noncomputable def PySem.W.Fast.tw12414670016173627504:Nat:=0
noncomputable def PySem.W.Fast.tw698064182594714850:Nat:=0
noncomputable def PySem.W.Fast.tw6089178486287593229:Nat:=0
noncomputable def PySem.W.Fast.tw9067566109395181573:Nat:=0
noncomputable def PySem.W.Fast.tw9081127406636567901:Nat:=0
noncomputable def PySem.W.Fast.tw12429675217522633045:Nat:=0
noncomputable def PySem.W.Fast.tw11703848098535873416:Nat:=0
noncomputable def PySem.W.Fast.tw201974488849799126:Nat:=0
noncomputable def PySem.W.Fast.tw15837017667873428950:Nat:=0
noncomputable def PySem.W.Fast.tw2859607558013831884:Nat:=0
noncomputable def PySem.W.Fast.tw18169067227046195828:Nat:=0
noncomputable def PySem.W.Fast.tw7701020856711626577:Nat:=0
noncomputable def PySem.W.Fast.tw16632622878962282391:Nat:=0
noncomputable def PySem.W.Fast.tw4967212993733995494:Nat:=0
noncomputable def PySem.W.Fast.tw1246425879772506856:Nat:=0
noncomputable def PySem.W.Fast.tw400546905230196973:Nat:=0
noncomputable def PySem.W.Fast.tw702028398636595938:Nat:=0
noncomputable def PySem.W.Fast.tw9865661959989243906:Nat:=0
noncomputable def PySem.W.Fast.tw17523601435630564900:Nat:=0
noncomputable def PySem.W.Fast.tw2688280821991554211:Nat:=0
noncomputable def PySem.W.Fast.tw17576509782730689467:Nat:=0
noncomputable def PySem.W.Fast.tw7253652487409888986:Nat:=0
noncomputable def PySem.W.Fast.tw17470148874860285284:Nat:=0
noncomputable def PySem.W.Fast.tw7557026063591440397:Nat:=0
noncomputable def PySem.W.Fast.tw12045812080601756334:Nat:=0
noncomputable def PySem.W.Fast.tw18228563036092901788:Nat:=0
noncomputable def PySem.W.Fast.tw8257938125242958088:Nat:=0
noncomputable def PySem.W.Fast.tw3466273838712833887:Nat:=0
noncomputable def PySem.W.Fast.tw5054094336633489360:Nat:=0
noncomputable def PySem.W.Fast.tw15613358075185868462:Nat:=0
noncomputable def PySem.W.Fast.tw12092320393370416941:Nat:=0
noncomputable def PySem.W.Fast.tw15690133156350863791:Nat:=0
noncomputable def PySem.W.Fast.tw1883786408698485831:Nat:=0
noncomputable def PySem.W.Fast.tw1109710362132297239:Nat:=0
noncomputable def PySem.W.Fast.tw7795343279817117212:Nat:=0
noncomputable def PySem.W.Fast.tw7533809057455780920:Nat:=0
noncomputable def PySem.W.Fast.tw10353558488687747245:Nat:=0
noncomputable def PySem.W.Fast.tw17379244519002309599:Nat:=0
noncomputable def PySem.W.Fast.tw5248939371018082927:Nat:=0
noncomputable def PySem.W.Fast.tw15123434849934995943:Nat:=0
noncomputable def PySem.W.Fast.tw16381274619761992926:Nat:=0
noncomputable def PySem.W.Fast.tw16538223421928672638:Nat:=0
noncomputable def PySem.W.Fast.tw11731563390717437105:Nat:=0
noncomputable def PySem.W.Fast.tw1422900281100695035:Nat:=0
noncomputable def PySem.W.Fast.tw3290823640579380017:Nat:=0
noncomputable def PySem.W.Fast.tw12360738367034286209:Nat:=0
noncomputable def PySem.W.Fast.tw6850921167079958850:Nat:=0
noncomputable def PySem.W.Fast.tw9190392706167948216:Nat:=0
noncomputable def PySem.W.Fast.tw1958429624845183923:Nat:=0
noncomputable def PySem.W.Fast.tw8532846196146740969:Nat:=0
noncomputable def PySem.W.Fast.tw7794013190552329052:Nat:=0
noncomputable def PySem.W.Fast.tw16939939203320566012:Nat:=0
noncomputable def PySem.W.Fast.tw10870191286069208108:Nat:=0
noncomputable def PySem.W.Fast.tw16140160794156020726:Nat:=0
noncomputable def PySem.W.Fast.tw14434154534750457812:Nat:=0
noncomputable def PySem.W.Fast.tw8326234888710056067:Nat:=0
noncomputable def PySem.W.Fast.tw10515717159644297176:Nat:=0
noncomputable def PySem.W.Fast.tw18147959798929621431:Nat:=0
noncomputable def PySem.W.Fast.tw14522429320759088718:Nat:=0
noncomputable def PySem.W.Fast.tw15826570431026352661:Nat:=0
noncomputable def PySem.W.Fast.tw17582424890009002990:Nat:=0
noncomputable def PySem.W.Fast.tw14089479083796002999:Nat:=0
noncomputable def PySem.W.Fast.tw5246527730071406134:Nat:=0
noncomputable def PySem.W.Fast.tw1273287359893132107:Nat:=0
open PySem PySem.W PyProof.Rows
set_option maxRecDepth 100000 in
set_option maxHeartbeats 0 in
theorem PySem.Challenge.cw_turnweave_k13_books_holds : PySem.Challenge.rw_turnweave_k13_books.Holds := by
 w_on;o_law;k_head;(case hw=>w_witness2)
 k_fill
 refine K13.walk (l:=PySem.Challenge.rw_turnweave_k13_books) rfl rfl (fun w h Y=>PySem.W.kIn_of Y) ?F
 case F=>
  intro w mg fa h KX G hmg
  refine' K13.all_mk KX G hmg (K13.dfn ?_ ?_ ?_ ?_) (K13.dfn ?_ ?_ ?_ ?_) (K13.dfn ?_ ?_ ?_ ?_) (K13.dfn ?_ ?_ ?_ ?_) (K13.dfn ?_ ?_ ?_ ?_) (K13.dfn ?_ ?_ ?_ ?_) (K13.dfn ?_ ?_ ?_ ?_) (K13.dfn ?_ ?_ ?_ ?_) (K13.dfn ?_ ?_ ?_ ?_) (K13.dfn ?_ ?_ ?_ ?_) (K13.dfn ?_ ?_ ?_ ?_) (K13.dfn ?_ ?_ ?_ ?_) (K13.dfn ?_ ?_ ?_ ?_) (K13.dfn ?_ ?_ ?_ ?_) (K13.dfn ?_ ?_ ?_ ?_) (K13.dfn ?_ ?_ ?_ ?_) (K13.dfn ?_ ?_ ?_ ?_) (K13.dfn ?_ ?_ ?_ ?_) (K13.dfn ?_ ?_ ?_ ?_) (K13.dfn ?_ ?_ ?_ ?_) (K13.dfn ?_ ?_ ?_ ?_) (K13.dfn ?_ ?_ ?_ ?_) (K13.dfn ?_ ?_ ?_ ?_) (K13.dfn ?_ ?_ ?_ ?_) (K13.dfn ?_ ?_ ?_ ?_) (K13.dfn ?_ ?_ ?_ ?_) (K13.dfn ?_ ?_ ?_ ?_) (K13.dfn ?_ ?_ ?_ ?_) (K13.dfn ?_ ?_ ?_ ?_) (K13.dfn ?_ ?_ ?_ ?_) (K13.dfn ?_ ?_ ?_ ?_) (K13.dfn ?_ ?_ ?_ ?_) (K13.dfn ?_ ?_ ?_ ?_) (K13.dfn ?_ ?_ ?_ ?_) (K13.dfn ?_ ?_ ?_ ?_) (K13.dfn ?_ ?_ ?_ ?_) (K13.dfn ?_ ?_ ?_ ?_) (K13.dfn ?_ ?_ ?_ ?_) ?_ ?_ ?_ ?_ ?_ ?_ ?_ ?_ ?_ ?_ ?_ ?_ ?_ ?_ ?_ ?_ ?_ ?_ ?_ ?_ ?_ ?_ ?_ ?_ ?_ ?_ ?_ ?_ ?_ ?_ ?_ ?_ ?_ ?_ ?_ ?_ ?_ ?_ ?_ ?_ ?_ ?_ ?_ ?_ ?_ ?_ ?_ ?_ ?_ ?_<;>first |k_is |kit_is | (dsimp only[List.map];kit_is) |kts_exm | (delta L2.bmV;k_exc) |skip
end
