import PyProof.Rows.All
import Wide.All
import OpenK.AllK
import Wide.FinOn
import Lean
import PyProof.EqAt
import PyProof.EqKinds
import PyProof.TupleCall
import PyProof.NeKinds
import PyProof.ListMulRoad
import PyProof.AttrMissHeap
import KE.KDictOf
import KE.KRevIter
import PyProof.ListRange
import KE.KSortTup
import KE.KMinKey
import PyProof.MinMaxWalk
import PyProof.Rows.CallKwBuiltin
import PySem.Challenge.RW_turnweave_k16_too_great
set_option Elab.async false
set_option compiler.extract_closed false
set_option linter.all false
set_option maxRecDepth 100000
set_option maxHeartbeats 4000000
section
namespace L2
open PySem PySem.Spec PyProof.Rows
noncomputable abbrev Key:=Sum Int Str
noncomputable def zny:Key→Value→Bool
 | .inl k,v=>Value.isInt k v
 | .inr x,v=>Value.isStrOf x v
noncomputable def zqg (w:World):Key→Int
 | .inl k=>hashInt k
 | .inr x=>hashStr w x
theorem zay:∀{k:Key}{v:Value},zny k v=true→(∃i t,k=Sum.inl i∧v=Value.int i t)∨(∃x t,k=Sum.inr x∧v=Value.str x t)
 | .inl i,v,h=>by
  obtain⟨t,e⟩:=Value.isInt_shape (k:=i) (v:=v) h;exact .inl ⟨i,t,rfl,e⟩
 | .inr x,v,h=>by
  obtain⟨t,e⟩:=Value.isStrOf_shape (x:=x) (v:=v) h;exact .inr ⟨x,t,rfl,e⟩
theorem znL (a b:Int):decide ((Sum.inl a:Key)=Sum.inl b)=(a == b):=by
 by_cases e:a=b
 ·subst e;simp
 ·have h:¬(Sum.inl a:Key)=Sum.inl b:=fun q=>e (Sum.inl.inj q);rw [decide_eq_false h];exact(beq_eq_false_iff_ne.mpr e).symm
theorem znN (a b:Str):decide ((Sum.inr a:Key)=Sum.inr b)=decide (a=b):=by
 by_cases e:a=b
 ·subst e;simp
 ·have h:¬(Sum.inr a:Key)=Sum.inr b:=fun q=>e (Sum.inr.inj q);rw [decide_eq_false h,decide_eq_false e]
theorem zng (a:Int) (b:Str):decide ((Sum.inl a:Key)=Sum.inr b)=false:=decide_eq_false (fun q=>nomatch q)
theorem znK (a:Str) (b:Int):decide ((Sum.inr a:Key)=Sum.inl b)=false:=decide_eq_false (fun q=>nomatch q)
noncomputable def zfn (prog:Program) (w:World):PySem.KeyKind prog w Key where
  is:=zny
  hash:=zqg w
  inj:=fun v a b ha hb=>by
    rcases zay ha with⟨i,t,rfl,rfl⟩ |⟨x,t,rfl,rfl⟩
    · rcases zay hb with⟨j,u,rfl,e⟩ |⟨y,u,rfl,e⟩
      · injection e with e1 _;rw [e1]
      · exact nomatch e
    · rcases zay hb with⟨j,u,rfl,e⟩ |⟨y,u,rfl,e⟩
      · exact nomatch e
      · injection e with e1 _;rw [e1]
  byValue:=fun k v h=>by
    rcases zay h with⟨i,t,rfl,rfl⟩ |⟨x,t,rfl,rfl⟩<;>rfl
  pyHash:=fun hv h=>by
    rcases zay hv with⟨i,t,rfl,rfl⟩ |⟨x,t,rfl,rfl⟩
    · exact wpAny_pyHash_int h
    · exact wpAny_pyHash_str h
  eqBool:=fun hu hv h=>by
    rcases zay hu with⟨i,t,rfl,rfl⟩ |⟨x,t,rfl,rfl⟩
    · rcases zay hv with⟨j,u,rfl,rfl⟩ |⟨y,u,rfl,rfl⟩
      · rw [znL]at h;exact wpAny_eqBool_int h
      · rw [zng]at h;exact SeqAt.EqAt.int_str i t y u _ _ _ _ h
    · rcases zay hv with⟨j,u,rfl,rfl⟩ |⟨y,u,rfl,rfl⟩
      · rw [znK]at h;exact SeqAt.EqAt.str_int x t j u _ _ _ _ h
      · rw [znN]at h;exact wpAny_eqBool_str h
  «strs» :=fun k x t v h=>by
    rcases zay h with⟨i,u,rfl,e⟩ |⟨y,u,rfl,e⟩
    · exact nomatch e
    · injection e with e1 _;subst e1;cases v<;>rfl
inductive V where
  |non |bl (b:Bool) |int (i:Int) |str (x:Str) |byt (b:Array UInt8) |flt (b:UInt64) |ref (a:Addr) |ty (n:String)
  deriving DecidableEq
noncomputable def RelV:V→Value→Prop
 | .non,u=>u=Value.none
 | .bl b,u=>u=Value.bool b
 | .int i,u=>∃t,u=Value.int i t
 | .str x,u=>∃t,u=Value.str x t
 | .byt b,u=>∃t,u=Value.bytes b t
 | .flt b,u=>∃t,u=Value.float b t
 | .ref a,u=>u=Value.ref a
 | .ty n,u=>u=Value.type n
noncomputable abbrev Vals:List V→List Value→Prop:=Paired RelV
theorem Vals.length{xs:List V}{us:List Value}(r:Vals xs us):xs.length=us.length:=Paired.length r
theorem Vals.get:∀{xs:List V}{us:List Value}{i:Nat}{x:V},Vals xs us→xs[i]? =some x→ ∃u,us[i]? =some u∧RelV x u
 |_,_,_,_, .nil,e=>by simp at e
 |_,_,0,_, .cons r _,e=>by simp at e;subst e;exact⟨_,rfl,r⟩
 |_,_,i+1,x, .cons _ t,e=>by
  obtain⟨u,h1,h2⟩:=Vals.get (i:=i) (x:=x) t (by simpa using e);exact⟨u,by simpa using h1,h2⟩
theorem Vals.append:∀{xs ys:List V}{us ws:List Value},Vals xs us→Vals ys ws→Vals (xs++ys) (us++ws)
 |_,_,_,_, .nil,s=>s
 |_,_,_,_, .cons r t,s=> .cons r (Vals.append t s)
theorem Vals.take:∀{xs:List V}{us:List Value}(n:Nat),Vals xs us→Vals (xs.take n) (us.take n)
 |_,_,0,_=> .nil
 |_,_,_+1, .nil=> .nil
 |_,_,n+1, .cons r t=> .cons r (Vals.take n t)
theorem Vals.drop:∀{xs:List V}{us:List Value}(n:Nat),Vals xs us→Vals (xs.drop n) (us.drop n)
 |_,_,0,r=>r
 |_,_,_+1, .nil=> .nil
 |_,_,n+1, .cons _ t=>Vals.drop n t
noncomputable def RelO:Option V→Option Value→Prop
 |some v,some u=>RelV v u
 |none,none=>True
 |_,_=>False
noncomputable def KV {κ:Type}:List (κ×V)→List (κ×Value)→Prop:=Paired fun(p:κ×V) (q:κ×Value)=>p.1=q.1∧RelV p.2 q.2
noncomputable def kV:Key→V
 | .inl i=> .int i
 | .inr x=> .str x
inductive HO where
    |lst (xs:List V)
    |tup (xs:List V)
    |dK (kvs:List (Key×V)) |dT (kvs:List (List Key×V))
    |set (S:Int→Bool) (n:Nat)
    |ins (C dx:Addr) (fs:List (Str×V))
    |own (x:Addr)
    |xd (fs:List (Str×V))
    |met (f x:Addr)
    |rng (lo hi:Int)
    |frz (o:Obj) (u:HO)
    |tbl (ps:Array Value)
    |ext (φ:Heap→Prop)
noncomputable abbrev Hp:=Addr→Option HO
noncomputable def upd (H:Hp) (a:Addr) (o:HO):Hp:=fun b=>if b=a then some o else H b
theorem zas{H:Hp}{a:Addr}{o:HO}:upd H a o a=some o:=by unfold upd;rw [if_pos rfl]
theorem zan{H:Hp}{a b:Addr}{o:HO}(h:b≠a):upd H a o b=H b:=by unfold upd;rw [if_neg h]
theorem zjU{H:Hp}{a b:Addr}{o u:HO}(h:H a=some o) (h':H b=some u) (d:o≠u):a≠b:=by
 intro e;subst e;rw [h]at h';exact d (Option.some.inj h')
theorem zal{H:Hp}{a b:Addr}{o:HO}(h:H a=some o) (h':H b=none):a≠b:=by
 intro e;subst e;rw [h]at h';cases h'
section
variable (P:Program) (w:World)
noncomputable def ObjOk (H:Hp) (h:Heap) (a:Addr):HO→Prop
 | .lst xs=>xs.length≤sizeLine∧ ∃(its:List Value) (n:Nat),Vals xs its∧h.get? a=some { cls:= .type "list",data:= .seq its.toArray n }
 | .tup xs=>xs.length≤sizeLine∧ ∃its:List Value,Vals xs its∧IsTup h a its.toArray
 | .dK kvs=>kvs.length≤sizeLine∧(a == sysModules)=false∧ ∃vs,KV kvs vs∧h.DictOf (zfn P w) a vs
 | .dT kvs=>kvs.length≤sizeLine∧(a == sysModules)=false∧ ∃xs:List (List Key×Addr×Value),
   Paired (fun(p:List Key×V) (q:List Key×Addr×Value)=>p.1=q.1∧H q.2.1=some (.tup (p.1.map kV))∧RelV p.2 q.2.2) kvs xs∧
   ∃o es ep,h.get? a=some o∧o.ExactDict∧o.data= .dict es ep∧es.toList=xs.map (entryOfKey (tupleKind (zfn P w)))∧(xs.map (·.1)).Nodup
 | .set S n=>h.SetOf (intKind P w) a S n
 | .ins C dx fs=>H dx=some (.own a)∧fs.length≤1000∧dx≠a∧h.get? a=some (PySem.W.instObj C dx)∧
   ∃mA,h.Ns1 dx mA∧(∀f,RelO (fs.lookup f) (mA f))∧PySem.Within mA (fs.map (·.1))
 | .own _=>∃o,h.get? a=some o
 | .xd fs=>∃mA,h.Ns1 a mA∧ ∀f,RelO (fs.lookup f) (mA f)
 | .rng lo hi=>∃t u v,h.get? a=some { cls:= .type "range",data:= .fields #[.int lo t, .int hi u, .int 1 v] }
 | .frz o u=>h.get? a=some o∧ObjOk H h a u
 | .tbl ps=>h.get? a=some { cls:= .none,data:= .fields ps }
 | .met f x=>h.get? a=some (PySem.W.methodObj (.ref f) (.ref x))
 | .ext φ=>φ h∧(∃o,h.get? a=some o)∧ ∀h1 h2:Heap,φ h1→(∀o,h1.get? a=some o→h2.get? a=some o)→φ h2
noncomputable def HOk (H:Hp) (h:Heap):Prop:=∀a o,H a=some o→ObjOk P w H h a o
end
section
variable {P:Program}{w:World}{H H':Hp}{h h':Heap}{a:Addr}{o:HO}
theorem ObjOk.lt (x:ObjOk P w H h a o):a<h.objs.size:=by
 cases o with
 |lst xs=>obtain⟨_,_,_,_,e⟩:=x;exact Heap.lt_size e
 |tup xs=>obtain⟨_,_,_,p⟩:=x;exact p.lt
 |dK kvs=>obtain⟨_,_,_,_,o,_,_,e,_⟩:=x;exact Heap.lt_size e
 |dT kvs=>obtain⟨_,_,_,_,o,_,_,e,_⟩:=x;exact Heap.lt_size e
 |set S n=>obtain⟨o,_,_,_,e,_⟩:=x;exact Heap.lt_size e
 |ins C dx fs=>obtain⟨_,_,_,e,_⟩:=x;exact Heap.lt_size e
 |own y=>obtain⟨_,e⟩:=x;exact Heap.lt_size e
 |xd fs=>obtain⟨_,⟨_,_,_,e,_⟩,_⟩:=x;exact Heap.lt_size e
 |rng lo hi=>obtain⟨_,_,_,e⟩:=x;exact Heap.lt_size e
 |frz ob u=>obtain⟨e,_⟩:=x;exact Heap.lt_size e
 |tbl ps=>exact Heap.lt_size (show h.get? a=some _ from x)
 |met f y=>exact Heap.lt_size (show h.get? a=some _ from x)
 |ext φ=>obtain⟨_,⟨_,e⟩,_⟩:=x;exact Heap.lt_size e
theorem Paired.mapP{α β:Type}{F G:α→β→Prop}:∀{l₁:List α}{l₂:List β},Paired F l₁ l₂→(∀a b,F a b→G a b)→Paired G l₁ l₂
 |_,_, .nil,_=> .nil
 |_,_, .cons r t,f=> .cons (f _ _ r) (Paired.mapP t f)
theorem ObjOk.stay (x:ObjOk P w H h a o) (k:∀b u,(b=a∨H b=some (.own a))→h.get? b=some u→h'.get? b=some u)
  (ho:∀b,H b=some (.own a)→H' b=some (.own a)) (ht:∀b xs,H b=some (.tup xs)→H' b=some (.tup xs)):ObjOk P w H' h' a o:=by
 induction o with
 |lst xs=>obtain⟨z,its,n,r,e⟩:=x;exact⟨z,its,n,r,k _ _ (.inl rfl) e⟩
 |tup xs=>obtain⟨z,its,r,ob,e,c⟩:=x;exact⟨z,its,r,ob,k _ _ (.inl rfl) e,c⟩
 |dK kvs=>obtain⟨z,y,vs,r,ob,es,ep,e,c⟩:=x;exact⟨z,y,vs,r,ob,es,ep,k _ _ (.inl rfl) e,c⟩
 |dT kvs=>
  obtain⟨z,y,xs,r,ob,es,ep,e,c⟩:=x;exact⟨z,y,xs,Paired.mapP r fun p q z=>⟨z.1,ht _ _ z.2.1,z.2.2⟩,ob,es,ep,k _ _ (.inl rfl) e,c⟩
 |set S n=>obtain⟨ob,es,ep,t,e,c⟩:=x;exact⟨ob,es,ep,t,k _ _ (.inl rfl) e,c⟩
 |ins C dx fs=>
  obtain⟨d,z,ne,e,mA,⟨od,es,ep,e2,c⟩,r⟩:=x;exact⟨ho _ d,z,ne,k _ _ (.inl rfl) e,mA,⟨od,es,ep,k _ _ (.inr d) e2,c⟩,r⟩
 |own y=>obtain⟨ob,e⟩:=x;exact⟨ob,k _ _ (.inl rfl) e⟩
 |xd fs=>obtain⟨mA,⟨od,es,ep,e,c⟩,r⟩:=x;exact⟨mA,⟨od,es,ep,k _ _ (.inl rfl) e,c⟩,r⟩
 |rng lo hi=>obtain⟨t,u,v,e⟩:=x;exact⟨t,u,v,k _ _ (.inl rfl) e⟩
 |frz ob u ih=>obtain⟨e,q⟩:=x;exact⟨k _ _ (.inl rfl) e,ih q⟩
 |tbl ps=>
  have e:h.get? a=some { cls:= .none,data:= .fields ps }:=x;show h'.get? a=some { cls:= .none,data:= .fields ps };exact k a _ (.inl rfl) e
 |met f y=>
  have e:h.get? a=some (PySem.W.methodObj (.ref f) (.ref y)):=x;show h'.get? a=some (PySem.W.methodObj (.ref f) (.ref y));exact k a _ (.inl rfl) e
 |ext φ=>obtain⟨p,⟨o,e⟩,st⟩:=x;exact⟨st _ _ p fun o q=>k _ _ (.inl rfl) q,⟨o,k _ _ (.inl rfl) e⟩,st⟩
theorem HOk.lt (x:HOk P w H h) (e:H a=some o):a<h.objs.size:=(x a o e).lt
theorem HOk.fresh (x:HOk P w H h) (e:h.objs.size≤a):H a=none:=by
 cases q:H a with
 |none=>rfl
 |some u=>exact absurd (Nat.lt_of_lt_of_le (x.lt q) e) (Nat.lt_irrefl _)
theorem HOk.kept (x:HOk P w H h) (k:∀b u,h.get? b=some u→h'.get? b=some u):HOk P w H h':=fun a o e=>
 (x a o e).stay (fun b u _ q=>k b u q) (fun _ q=>q) fun _ _ q=>q
theorem HOk.laid (x:HOk P w H h) (k:∀b u,h.get? b=some u→h'.get? b=some u) (hp:h.objs.size≤a) (new:ObjOk P w (upd H a o) h' a o):HOk P w (upd H a o) h':=fun b u e=>by
 have hn:=x.fresh hp;by_cases hb:b=a
 ·subst hb;rw [zas]at e;cases e;exact new
 ·rw [zan hb]at e;exact(x b u e).stay (fun c v _ q=>k c v q) (fun c q=>by rw [zan (zal q hn)];exact q) fun c xs q=>by rw [zan (zal q hn)];exact q
end
noncomputable def Rd (H:Hp) (a:Addr) (u:HO):Prop:=H a=some u∨ ∃o,H a=some (.frz o u)
theorem Rd.ok{P:Program}{w:World}{H:Hp}{h:Heap}{a:Addr}{u:HO}(r:Rd H a u) (x:HOk P w H h):ObjOk P w H h a u:=by
 rcases r with r |⟨o,r⟩
 ·exact x a u r
 ·obtain⟨_,q⟩:=x a _ r;exact q
noncomputable def Mut:Option HO→Prop
 |some (.lst _)=>True
 |some (.dK _)=>True
 |some (.dT _)=>True
 |some (.set _ _)=>True
 |some (.ins _ _ _)=>True
 |some (.ext _)=>True
 |_=>False
section
variable {P:Program}{w:World}{H:Hp}{h h':Heap}{x e:Addr}{o':HO}
theorem HOk.write (ok:HOk P w H h) (mu:Mut (H x)) (he:e=x∨H e=some (.own x)) (k:∀b u,b≠e→h.get? b=some u→h'.get? b=some u) (heo:∃u,h'.get? e=some u)
  (new:ObjOk P w (upd H x o') h' x o'):HOk P w (upd H x o') h':=fun b u q=>by
 have nown:∀c y,H c=some (.own y)→c≠x:=fun c y r z=>by subst z;rw [r]at mu;exact mu
 have ntup:∀c xs,H c=some (.tup xs)→c≠x:=fun c xs r z=>by subst z;rw [r]at mu;exact mu
 by_cases hb:b=x
 ·subst hb;rw [zas]at q;cases q;exact new
 ·rw [zan hb]at q;by_cases hbe:b=e
  ·have q':H b=some (.own x):=by
    rcases he with z |z
    ·exact absurd (hbe.trans z) hb
    ·rw [hbe];exact z
   rw [q]at q';cases q';obtain⟨v,hv⟩:=heo;exact⟨v,by rw [hbe];exact hv⟩
  ·refine(ok b u q).stay (fun c v hc r=>k c v ?_ r) (fun c r=>by rw [zan (nown c b r)];exact r) fun c xs r=>by rw [zan (ntup c xs r)];exact r
   rcases hc with rfl |hc
   ·exact hbe
   ·rintro rfl;rcases he with z |z
    ·exact nown c b hc z
    ·rw [hc]at z;cases z;exact hb rfl
end
structure Un (fs ex:List Addr) (H H':Hp) (h h':Heap):Prop where
  keep:∀b o,h.get? b=some o→H b=none→b∉fs→b∉ex→h'.get? b=some o
  slot:∀b o,h.get? b=some o→H b=none→b∈fs→b∉ex→ ∃sl,h'.get? b=some { o with slots:=sl }
  free:∀b o,h.get? b=some o→H b=none→b∉ex→H' b=none
  there:∀b o,h.get? b=some o→b∉ex→ ∃o',h'.get? b=some o'
  tups:∀b xs,H b=some (.tup xs)→H' b=some (.tup xs)
  frzs:∀b o u,H b=some (.frz o u)→H' b=some (.frz o u)
  tbls:∀b ps,H b=some (.tbl ps)→ ∃more,H' b=some (.tbl (ps++more))
section
variable {fs ex:List Addr}{H H1 H2:Hp}{h h1 h2 h':Heap}{a x e:Addr}{o:HO}
theorem Un.any (u:Un fs ex H H1 h h1) {b:Addr}{ob:Obj}(q:h.get? b=some ob) (n:H b=none) (hx:b∉ex):∃sl,h1.get? b=some { ob with slots:=sl }:=by
 by_cases hb:b∈fs
 ·exact u.slot b ob q n hb hx
 ·exact⟨ob.slots,u.keep b ob q n hb hx⟩
theorem Un.trans (a:Un fs ex H H1 h h1) (b:Un fs ex H1 H2 h1 h2):Un fs ex H H2 h h2 where
  keep:=fun c ob q n hc hx=>b.keep c ob (a.keep c ob q n hc hx) (a.free c ob q n hx) hc hx
  slot:=fun c ob q n hc hx=>by
    obtain⟨sl,e1⟩:=a.slot c ob q n hc hx;obtain⟨sl',e2⟩:=b.slot c _ e1 (a.free c ob q n hx) hc hx;exact⟨sl',e2⟩
  free:=fun c ob q n hx=>by
    obtain⟨o',e1⟩:=a.there c ob q hx;exact b.free c o' e1 (a.free c ob q n hx) hx
  there:=fun c ob q hx=>by
    obtain⟨o',e1⟩:=a.there c ob q hx;exact b.there c o' e1 hx
  tups:=fun c xs q=>b.tups c xs (a.tups c xs q)
  frzs:=fun c ob xs q=>b.frzs c ob xs (a.frzs c ob xs q)
  tbls:=fun c ps q=>by
    obtain⟨m1,e1⟩:=a.tbls c ps q;obtain⟨m2,e2⟩:=b.tbls c _ e1;exact⟨m1++m2,by rw [e2,Array.append_assoc]⟩
theorem Un.kept (k:∀b u,h.get? b=some u→h'.get? b=some u):Un fs ex H H h h':=
 ⟨fun b ob q _ _ _=>k b ob q,fun b ob q _ _ _=>⟨ob.slots,k b ob q⟩,fun _ _ _ n _=>n,fun b ob q _=>⟨ob,k b ob q⟩,fun _ _ q=>q,fun _ _ _ q=>q,fun _ ps q=>⟨#[],by rw [q];simp⟩⟩
theorem Un.refl:Un fs ex H H h h:=Un.kept fun _ _ q=>q
theorem Un.laid (k:∀b u,h.get? b=some u→h'.get? b=some u) (hp:h.objs.size≤a) (hn:H a=none):Un fs ex H (upd H a o) h h' where
  keep:=fun b u q _ _ _=>k b u q
  slot:=fun b u q _ _ _=>⟨u.slots,k b u q⟩
  free:=fun b u q n _=>by rw [zan (Nat.ne_of_lt (Nat.lt_of_lt_of_le (Heap.lt_size q) hp))];exact n
  there:=fun b u q _=>⟨u,k b u q⟩
  tups:=fun b xs q=>by rw [zan (zal q hn)];exact q
  frzs:=fun b u xs q=>by rw [zan (zal q hn)];exact q
  tbls:=fun b ps q=>⟨#[],by rw [zan (zal q hn),q];simp⟩
theorem Un.write (mu:Mut (H x)) (he:e=x∨H e=some (.own x)) (k:∀b u,b≠e→h.get? b=some u→h'.get? b=some u) (heo:∃u,h'.get? e=some u):Un fs ex H (upd H x o) h h':=by
 have hx:∀b,H b=none→b≠x:=fun b n z=>by subst z;rw [n]at mu;exact mu
 have hb:∀b,H b=none→b≠e:=fun b n z=>by
  subst z;rcases he with r |r
  ·exact hx b n r
  ·rw [n]at r;cases r
 have hm:∀b u,H b=some u→ ¬Mut (some u)→b≠x:=fun b u q nm z=>by subst z;rw [q]at mu;exact nm mu
 refine⟨fun b u q n _ _=>k b u (hb b n) q,fun b u q n _ _=>⟨u.slots,k b u (hb b n) q⟩,fun b u q n _=>by rw [zan (hx b n)];exact n,fun b u q _=>?_,
  fun b xs q=>by rw [zan (hm b _ q fun z=>z)];exact q,fun b u xs q=>by rw [zan (hm b _ q fun z=>z)];exact q,fun b ps q=>⟨#[],by rw [zan (hm b _ q fun z=>z),q];simp⟩⟩
 by_cases hbe:b=e
 ·subst hbe;exact heo
 ·exact⟨u,k b u hbe q⟩
end
noncomputable def trk (h:Heap) (H:Hp):List Addr:=(List.range h.objs.size).filter fun a=>(H a).isSome
noncomputable def zjM (h:Heap) (H:Hp):Heap:=PySem.W.hideAll h (trk h H)
theorem ziv (h:Heap) (H:Hp):(zjM h H).objs.size=h.objs.size:=PySem.W.hideAll_size _ _
theorem zjK{h:Heap}{H:Hp}{b:Addr}{o:Obj}(e:h.get? b=some o) (n:H b=none):(zjM h H).get? b=some o:=
 PySem.W.hideAll_get _ e fun hm=>by
  have q:(H b).isSome=true:=(List.mem_filter.mp hm).2;rw [n]at q;simp at q
theorem zkN{h:Heap}{H:Hp}{b:Addr}{o:Obj}(e:(zjM h H).get? b=some o):h.get? b=some o∧H b=none:=by
 have e':h.get? b=some o:=PySem.W.of_hideAll (trk h H) e;refine⟨e',?_⟩;cases q:H b with
 |none=>rfl
 |some x=>
  have hm:b∈trk h H:=List.mem_filter.mpr ⟨List.mem_range.mpr (Heap.lt_size e'),by simp [q]⟩
  have z:(zjM h H).get? b=none:=PySem.W.hideAll_none (trk h H) hm;rw [z]at e;cases e
noncomputable def zkV (g h:Heap) (L:Addr):List (Addr×Obj):=(List.range h.objs.size).filterMap fun a=>if a=L∨(g.get? a).isSome=true then none else(h.get? a).map fun o=>(a,o)
noncomputable def rest (g h:Heap) (L d:Addr):List (Addr×Obj):=(zkV g h L).filter fun p=>decide (p.1≠d)
structure Mod (K:PySem.W.Frag) (mg:Str→Option Value) (base:Heap):Prop where
  kin:K.In base
  glob:base.Ns mainGlobals mg
  blt:∃mb,base.Ns builtinsNs mb∧ ∀x:Str,x≠ "__name__" →mb x=bootBuiltins x
  nolimit:base.NoLimit
structure Cx where
  prog:Program
  w:World
  K:PySem.W.Frag
  mg:Str→Option Value
  base:Heap
  A:Around
  N:List Str
  s₀:Shared
  H₀:Hp
  env:Env
  outer:List Env
  stack:List Env
  ex:List Addr
  fn:Str→Bool
  calm:Bool
  pn:List (Addr×Obj)
  xe:Value→Shared→Prop
noncomputable def frs (l:List Env):List Addr:=l.filterMap (·.frame)
noncomputable abbrev Cx.fs (X:Cx):List Addr:=frs X.outer
noncomputable def Vis (sc:Scope) (x:Str):Prop:=sc.names.lookup x=some .local∨sc.names.lookup x=some .cell∨sc.names.lookup x=some .free
noncomputable def Loc (sc:Scope) (x:Str):Prop:=sc.names.lookup x=some .local∨sc.names.lookup x=some .cell
noncomputable def zqe (env:Env) (h:Heap) (m:Str→Option Value) (x:Str) (u:Value):Prop:=
 (env.kindOf x=some .local∧m x=some u)∨((env.kindOf x=some .cell∨env.kindOf x=some .free)∧ ∃c,env.cells.lookup x=some c∧h.IsCell c (some u))
structure Cx.Ok (X:Cx):Prop where
  mod:Mod X.K X.mg X.base
  kind:X.env.scope.kind= .function
  glob:X.env.globals=mainGlobals
  blt:X.env.builtins=builtinsNs
  above:X.s₀.heap.objs.size≤X.env.locals
  inj:∀x y c,X.env.cells.lookup x=some c→X.env.cells.lookup y=some c→x=y
  has:∀x,(X.env.kindOf x=some .cell∨X.env.kindOf x=some .free)→ ∃c,X.env.cells.lookup x=some c
  cab:∀x c,X.fn x=true→X.env.cells.lookup x=some c→X.s₀.heap.objs.size≤c
  hd:X.calm=true→X.A.handled=none
  frames:X.A.frames=some X.stack
  stk:X.stack=X.outer∨(X.stack=X.env::X.outer∧X.env.frame=some X.env.locals)
  exf:∀b∈X.ex,b≠X.env.locals∧ ∀x c,X.env.cells.lookup x=some c→c≠b
  bs:∀b o,X.base.get? b=some o→X.s₀.heap.get? b=some o∧X.H₀ b=none
  bsz:X.base.objs.size≤X.s₀.heap.objs.size
  noex:∀b o,X.base.get? b=some o→b∉X.ex
  exfs:∀b∈X.ex,b∉X.fs
  funs:X.s₀.heap.FunFrames X.base X.outer
  frf:∀b∈X.fs,X.H₀ b=none
structure Inv (X:Cx) (pins:List (Addr×Obj)) (σ:List (Option V)) (H:Hp) (s:Shared):Prop where
  ok:X.Ok
  os:s.os=X.s₀.os
  bare:AllBare s.gens
  base:Un X.fs X.ex X.H₀ H X.s₀.heap s.heap
  loc:∃m,s.heap.Ns X.env.locals m∧ ∀(i:Nat) (x:Str) (v:V),X.N[i]? =some x→σ[i]? =some (some v)→Vis X.env.scope x→ ∃u,RelV v u∧zqe X.env s.heap m x u
  cell:∀x c,X.env.cells.lookup x=some c→ ∃v,s.heap.IsCell c v
  free:H X.env.locals=none
  freeC:∀x c,X.env.cells.lookup x=some c→H c=none
  pin:∀p∈X.pn++pins,s.heap.get? p.1=some p.2∧H p.1=none∧p.1≠X.env.locals∧p.1∉X.fs∧ ∀v,p.2.data≠ .cell v
  hok:HOk X.prog X.w H s.heap
  len:σ.length=X.N.length
section
variable {X:Cx}{pins:List (Addr×Obj)}{σ:List (Option V)}{H H':Hp}{s:Shared}{h':Heap}
theorem Cx.Ok.nofr (ok:X.Ok) {b:Addr}{o:Obj}(e:X.base.get? b=some o):b∉X.fs:=fun hb=>by
 have:=(ok.funs.mem hb).1;rw [e]at this;cases this
theorem Inv.bs (I:Inv X pins σ H s):∀b o,X.base.get? b=some o→s.heap.get? b=some o∧H b=none:=fun b o e=>
 ⟨I.base.keep b o (I.ok.bs b o e).1 (I.ok.bs b o e).2 (I.ok.nofr e) (I.ok.noex b o e),I.base.free b o (I.ok.bs b o e).1 (I.ok.bs b o e).2 (I.ok.noex b o e)⟩
theorem Inv.bk (I:Inv X pins σ H s):∀b o,X.base.get? b=some o→s.heap.get? b=some o:=fun b o e=>(I.bs b o e).1
theorem Inv.mod (I:Inv X pins σ H s):Mod X.K X.mg X.base:=I.ok.mod
theorem Inv.kIn (I:Inv X pins σ H s):X.K.In s.heap:=I.ok.mod.kin.keeps I.bk
theorem Inv.lt (I:Inv X pins σ H s):X.env.locals<s.heap.objs.size:=let ⟨_,hn,_⟩:=I.loc;hn.lt
theorem Inv.sz (I:Inv X pins σ H s):X.s₀.heap.objs.size≤s.heap.objs.size:=Nat.le_trans I.ok.above (Nat.le_of_lt I.lt)
theorem Inv.nofs (I:Inv X pins σ H s) {a:Addr}(h:s.heap.objs.size≤a):a∉X.fs:=fun hb=>by
 obtain⟨_,o,ho,_⟩:=I.ok.funs.mem hb;exact absurd (Nat.lt_of_lt_of_le (Heap.lt_size ho) (Nat.le_trans I.sz h)) (Nat.lt_irrefl _)
theorem Inv.cne (I:Inv X pins σ H s):∀x c,X.env.cells.lookup x=some c→c≠X.env.locals:=fun x c e z=>by
 obtain⟨v,o,ho,hd⟩:=I.cell x c e;obtain⟨m,⟨o',es,ep,ho',hd',_⟩,_⟩:=I.loc;rw [z,ho']at ho;cases ho;rw [hd']at hd;cases hd
theorem Inv.funs (I:Inv X pins σ H s):s.heap.FunFrames X.base X.outer:=by
 have all:∀(l:List Env),(∀b∈frs l,b∈X.fs)→X.s₀.heap.FunFrames X.base l→s.heap.FunFrames X.base l:=by
  intro l
  induction l with
  |nil=>intro _ _;trivial
  |cons env r ih=>
   intro hs hl;obtain⟨hk,⟨L,o,hf,hn,ho,hd⟩,hr⟩:=hl;have hL:L∈X.fs:=hs L (by unfold frs;rw [List.filterMap_cons,hf];exact List.mem_cons_self);obtain⟨sl,e⟩:=I.base.slot L o ho (I.ok.frf L hL) hL fun z=>I.ok.exfs L z hL;exact⟨hk,⟨L,_,hf,hn,e,hd⟩,ih (fun b hb=>hs b (by unfold frs;rw [List.filterMap_cons,hf];exact List.mem_cons_of_mem _ hb)) hr⟩
 exact all X.outer (fun _ hb=>hb) I.ok.funs
theorem Inv.stack (I:Inv X pins σ H s):s.heap.FunFrames X.base X.stack:=by
 rcases I.ok.stk with e |⟨e,hf⟩
 ·rw [e];exact I.funs
 ·rw [e];obtain⟨m,hn,_⟩:=I.loc;refine .cons (by rw [I.ok.kind];decide) hf hn ?_ I.funs;exact Heap.get?_none_of_le (Nat.le_trans I.ok.bsz I.ok.above)
theorem Inv.stkSub (I:Inv X pins σ H s):∀b∈frs X.stack,b∈X.env.locals::X.fs:=fun b hb=>by
 rcases I.ok.stk with e |⟨e,hf⟩
 ·rw [e]at hb;exact List.mem_cons_of_mem _ hb
 ·rw [e]at hb;unfold frs at hb;rw [List.filterMap_cons,hf]at hb;exact hb
theorem Inv.stkFree (I:Inv X pins σ H s):∀b∈frs X.stack,H b=none:=fun b hb=>by
 rcases List.mem_cons.mp (I.stkSub b hb) with e |hb
 ·rw [e];exact I.free
 ·obtain⟨_,o,ho,_⟩:=I.ok.funs.mem hb;exact I.base.free b o ho (I.ok.frf b hb) fun z=>I.ok.exfs b z hb
theorem Inv.step{g':Array GenState}{t':Nat}{d':Drawn}{ch:List Addr}(I:Inv X pins σ H s)
  (hch:∀b∈ch,(b∈X.ex∨X.s₀.heap.objs.size≤b)∧b≠X.env.locals∧(∀x c,X.env.cells.lookup x=some c→c≠b)∧ ∀p∈X.pn++pins,p.1≠b)
  (keep:∀b o,b≠X.env.locals→b∉X.fs→b∉ch→s.heap.get? b=some o→H b=none→h'.get? b=some o)
  (slot:∀b o,b≠X.env.locals→b∈X.fs→b∉ch→s.heap.get? b=some o→H b=none→ ∃sl,h'.get? b=some { o with slots:=sl }) (free:∀b o,b∉ch→s.heap.get? b=some o→H b=none→H' b=none)
  (there:∀b o,b∉ch→s.heap.get? b=some o→ ∃o',h'.get? b=some o')
  (tups:∀b xs,H b=some (.tup xs)→H' b=some (.tup xs)) (frzs:∀b o u,H b=some (.frz o u)→H' b=some (.frz o u)) (tbls:∀b ps,H b=some (.tbl ps)→ ∃more,H' b=some (.tbl (ps++more)))
  (ns:∀m,s.heap.Ns X.env.locals m→h'.Ns X.env.locals m) (hok:HOk X.prog X.w H' h') (hg:AllBare g') :
  Inv X pins σ H' { s with heap:=h',gens:=g',drawn:=d',toks:=t' }:=by
 have neL:∀b o,X.s₀.heap.get? b=some o→b≠X.env.locals:=fun b o e=>Nat.ne_of_lt (Nat.lt_of_lt_of_le (Heap.lt_size e) I.ok.above);have neC:∀b o,X.s₀.heap.get? b=some o→b∉X.ex→b∉ch:=fun b o e hx hb=>by
  rcases(hch b hb).1 with z |z
  ·exact hx z
  ·exact absurd (Nat.lt_of_lt_of_le (Heap.lt_size e) z) (Nat.lt_irrefl _)
 have cellK:∀x c,X.env.cells.lookup x=some c→ ∀v,s.heap.IsCell c v→h'.IsCell c v:=fun x c e v ⟨o,ho,hd⟩=>by
  have nch:c∉ch:=fun z=>(hch c z).2.2.1 x c e rfl;by_cases hc:c∈X.fs
  ·obtain⟨sl,q⟩:=slot c o (I.cne x c e) hc nch ho (I.freeC x c e);exact⟨_,q,hd⟩
  ·exact⟨o,keep c o (I.cne x c e) hc nch ho (I.freeC x c e),hd⟩
 refine⟨I.ok,I.os,hg,⟨fun b o e n hb hx=>?_,fun b o e n hb hx=>?_,fun b o e n hx=>?_,fun b o e hx=>?_,fun b xs e=>tups b xs (I.base.tups b xs e),fun b o xs e=>frzs b o xs (I.base.frzs b o xs e),fun b ps e=>?_⟩,?_,fun x c e=>?_,?_,fun x c e=>?_,fun p hp=>?_,hok,I.len⟩
 ·exact keep b o (neL b o e) hb (neC b o e hx) (I.base.keep b o e n hb hx) (I.base.free b o e n hx)
 ·obtain⟨sl,e1⟩:=I.base.slot b o e n hb hx;obtain⟨sl',e2⟩:=slot b _ (neL b o e) hb (neC b o e hx) e1 (I.base.free b o e n hx);exact⟨sl',e2⟩
 ·obtain⟨o',e1⟩:=I.base.there b o e hx;exact free b o' (neC b o e hx) e1 (I.base.free b o e n hx)
 ·obtain⟨o',e1⟩:=I.base.there b o e hx;exact there b o' (neC b o e hx) e1
 ·obtain⟨m1,e1⟩:=I.base.tbls b ps e;obtain⟨m2,e2⟩:=tbls b _ e1;exact⟨m1++m2,by rw [e2,Array.append_assoc]⟩
 ·obtain⟨m,hn,hl⟩:=I.loc;refine⟨m,ns m hn,fun i x v e1 e2 e3=>?_⟩;obtain⟨u,r,l⟩:=hl i x v e1 e2 e3;refine⟨u,r,?_⟩;rcases l with l |⟨k,c,e,z⟩
  ·exact .inl l
  ·exact .inr ⟨k,c,e,cellK x c e _ z⟩
 ·obtain⟨v,z⟩:=I.cell x c e;exact⟨v,cellK x c e v z⟩
 ·obtain⟨m,⟨o,_,_,ho,_⟩,_⟩:=I.loc;exact free _ o (fun z=>(hch _ z).2.1 rfl) ho I.free
 ·obtain⟨v,o,ho,hd⟩:=I.cell x c e;exact free c o (fun z=>(hch c z).2.2.1 x c e rfl) ho (I.freeC x c e)
 ·obtain⟨e,n,ne,nf,d⟩:=I.pin p hp;have nch:p.1∉ch:=fun z=>(hch p.1 z).2.2.2 p hp rfl;exact⟨keep p.1 p.2 ne nf nch e n,free p.1 p.2 nch e n,ne,nf,d⟩
theorem Inv.un{t':Nat}(I:Inv X pins σ H s) (u:Un X.fs [] H H' s.heap h') (hok:HOk X.prog X.w H' h'):Inv X pins σ H' { s with heap:=h',toks:=t' }:=by
 obtain⟨m,⟨o,es,ep,ho,r⟩,_⟩:=id I.loc;obtain⟨sl,hL⟩:=u.any ho I.free (by simp);exact I.step (g':=s.gens) (d':=s.drawn) (ch:=[]) (fun _ z=>nomatch z) (fun b o _ hb _ e n=>u.keep b o e n hb (by simp)) (fun b o _ hb _ e n=>u.slot b o e n hb (by simp)) (fun b o _ e n=>u.free b o e n (by simp)) (fun b o _ e=>u.there b o e (by simp)) u.tups u.frzs u.tbls (fun m' hm=>by
  obtain⟨o',es',ep',ho',r'⟩:=hm;rw [ho]at ho';cases ho';exact⟨_,es',ep',hL,r'⟩) hok I.bare
theorem Inv.call{g':Array GenState}{t':Nat}{d':Drawn}{ch:List Addr}(I:Inv X pins σ H s) (u:Un (frs X.stack) ch H H' s.heap h') (hok:HOk X.prog X.w H' h') (hg:AllBare g')
  (hch:∀b∈ch,(b∈X.ex∨X.s₀.heap.objs.size≤b)∧b≠X.env.locals∧(∀x c,X.env.cells.lookup x=some c→c≠b)∧ ∀p∈X.pn++pins,p.1≠b) :
  Inv X pins σ H' { s with heap:=h',gens:=g',drawn:=d',toks:=t' }:=by
 obtain⟨m,⟨o,es,ep,ho,r⟩,_⟩:=id I.loc;obtain⟨sl,hL⟩:=u.any ho I.free fun z=>(hch _ z).2.1 rfl;exact I.step (ch:=ch) hch (fun b o hL hb hc e n=>u.keep b o e n (fun z=>(List.mem_cons.mp (I.stkSub b z)).elim hL hb) hc) (fun b o _ _ hc e n=>u.any e n hc) (fun b o hc e n=>u.free b o e n hc) (fun b o hc e=>u.there b o e hc) u.tups u.frzs u.tbls (fun m' hm=>by
  obtain⟨o',es',ep',ho',r'⟩:=hm;rw [ho]at ho';cases ho';exact⟨_,es',ep',hL,r'⟩) hok hg
theorem Inv.turned{t':Nat}{it:Addr}(I:Inv X pins σ H s) (k:∀b o,b≠it→s.heap.get? b=some o→h'.get? b=some o) (hn:H it=none) (hL:it≠X.env.locals)
  (h1:it∈X.ex∨X.s₀.heap.objs.size≤it) (h2:∀x c,X.env.cells.lookup x=some c→c≠it) (h3:∀p∈X.pn++pins,p.1≠it):Inv X pins σ H { s with heap:=h',toks:=t' }:=by
 have nit:∀b u,H b=some u→b≠it:=fun b u e z=>by rw [z,hn]at e;cases e
 refine I.step (g':=s.gens) (d':=s.drawn) (ch:=[it]) (fun b hb=>?_) (fun b o _ _ hc e _=>k b o (fun z=>hc (by simp [z])) e) (fun b o _ _ hc e _=>⟨o.slots,k b o (fun z=>hc (by simp [z])) e⟩) (fun _ _ _ _ n=>n)
  (fun b o hc e=>⟨o,k b o (fun z=>hc (by simp [z])) e⟩) (fun _ _ e=>e) (fun _ _ _ e=>e) (fun b ps e=>⟨#[],by rw [e];simp⟩) (fun m hm=>?_) (fun b u e=>?_) I.bare
 ·have e:b=it:=by simpa using hb
  subst e;exact⟨h1,hL,h2,h3⟩
 ·obtain⟨o,es,ep,ho,r⟩:=hm;exact⟨o,es,ep,k _ o (Ne.symm hL) ho,r⟩
 ·refine(I.hok b u e).stay (fun c v hc q=>k c v ?_ q) (fun _ q=>q) fun _ _ q=>q;rcases hc with z |z
  ·rw [z];exact nit b u e
  ·exact nit c _ z
theorem Inv.tok (I:Inv X pins σ H s) (t:Nat):Inv X pins σ H { s with toks:=t }:=I.un (h':=s.heap) (t':=t) Un.refl I.hok
theorem Inv.kept{t':Nat}(I:Inv X pins σ H s) (k:∀b u,s.heap.get? b=some u→h'.get? b=some u):Inv X pins σ H { s with heap:=h',toks:=t' }:=I.un (Un.kept k) (I.hok.kept k)
theorem Inv.laid{a:Addr}{o:HO}{t':Nat}(I:Inv X pins σ H s) (k:∀b u,s.heap.get? b=some u→h'.get? b=some u) (hp:s.heap.objs.size≤a) (new:ObjOk X.prog X.w (upd H a o) h' a o) :
  Inv X pins σ (upd H a o) { s with heap:=h',toks:=t' }:=I.un (Un.laid k hp (I.hok.fresh hp)) (I.hok.laid k hp new)
theorem Inv.write{x e:Addr}{o:HO}{t':Nat}(I:Inv X pins σ H s) (mu:Mut (H x)) (he:e=x∨H e=some (.own x)) (k:∀b u,b≠e→s.heap.get? b=some u→h'.get? b=some u) (heo:∃u,h'.get? e=some u)
  (new:ObjOk X.prog X.w (upd H x o) h' x o):Inv X pins σ (upd H x o) { s with heap:=h',toks:=t' }:=I.un (Un.write mu he k heo) (I.hok.write mu he k heo new)
theorem Inv.pins_of{pins':List (Addr×Obj)}(I:Inv X pins σ H s) (h:∀p∈pins',s.heap.get? p.1=some p.2∧H p.1=none∧p.1≠X.env.locals∧p.1∉X.fs∧ ∀v,p.2.data≠ .cell v):Inv X pins' σ H s:=
 ⟨I.ok,I.os,I.bare,I.base,I.loc,I.cell,I.free,I.freeC,fun p hp=>(List.mem_append.mp hp).elim (fun z=>I.pin p (List.mem_append_left _ z)) (h p),I.hok,I.len⟩
theorem zdP{N:List Str}(hN:N.Nodup) {i j:Nat}{x:Str}(a:N[i]? =some x) (b:N[j]? =some x):i=j:=by
 obtain⟨h1,e1⟩:=List.getElem?_eq_some_iff.mp a;obtain⟨h2,e2⟩:=List.getElem?_eq_some_iff.mp b;exact(List.getElem_inj hN).mp (e1.trans e2.symm)
theorem zey{M:Model}{A:Around}{E:Value→Shared→Prop}{i:Nat}{x:Str}{v:V}{u:Value}{Q:Unit→Shared→Prop}(I:Inv X pins σ H s) (hN:X.N.Nodup) (hi:X.N[i]? =some x) (hx:Loc X.env.scope x) (r:RelV v u)
  (h:∀s',Inv X pins (σ.set i (some v)) H s'→(∃a,Heap.SameBut a s.heap s'.heap∧(a=X.env.locals∨X.env.cells.lookup x=some a))→Q () s') (hf:X.fn x=true∨X.env.scope.names.lookup x=some .local:=by first |exact .inl rfl |exact .inr rfl |assumption):wpAny M A (storeName X.env x u) Q E s:=by
 obtain⟨m,hn,hl⟩:=id I.loc;have hcls:(X.env.scope.kind == .class || (X.env.scope.kind == .module&&X.env.locals != X.env.globals))=false:=by rw [I.ok.kind];rfl
 have hiσ:i<σ.length:=by rw [I.len];exact(List.getElem?_eq_some_iff.mp hi).1
 have cne:=I.cne;have tracked:∀{a:Addr}{h':Heap},(∃o,s.heap.get? a=some o∧H a=none)→Heap.SameBut a s.heap h'→HOk X.prog X.w H h':=fun {a h'} ha hs b ob e=>by
  obtain⟨_,_,hfree⟩:=ha;refine(I.hok b ob e).stay (fun c w' hc q=>(hs.2 c ?_).trans q) (fun _ q=>q) fun _ _ q=>q;rintro rfl;rcases hc with rfl |hc
  ·rw [hfree]at e;cases e
  ·rw [hfree]at hc;cases hc
 rcases hx with hk |hk
 ·refine wpAny_storeName_local hk hn (fun h' hn' hs=>?_) hcls;obtain⟨oL,_,_,hoL,_⟩:=id hn;refine h _ ⟨I.ok,I.os,I.bare,⟨fun b o e n hb hx=>?_,fun b o e n hb hx=>?_,I.base.free,fun b o e hx=>?_,I.base.tups,I.base.frzs,I.base.tbls⟩,⟨_,hn',fun j y v' e1 e2 e3=>?_⟩,fun y c e=>?_,I.free,I.freeC,fun p hp=>?_,tracked ⟨oL,hoL,I.free⟩ hs,by simpa using I.len⟩ ⟨_,hs, .inl rfl⟩
  ·exact(hs.2 b (Nat.ne_of_lt (Nat.lt_of_lt_of_le (Heap.lt_size e) I.ok.above))).trans (I.base.keep b o e n hb hx)
  ·obtain⟨sl,e1⟩:=I.base.slot b o e n hb hx;exact⟨sl,(hs.2 b (Nat.ne_of_lt (Nat.lt_of_lt_of_le (Heap.lt_size e) I.ok.above))).trans e1⟩
  ·obtain⟨o',e1⟩:=I.base.there b o e hx;exact⟨o',(hs.2 b (Nat.ne_of_lt (Nat.lt_of_lt_of_le (Heap.lt_size e) I.ok.above))).trans e1⟩
  ·by_cases hj:j=i
   ·subst hj;rw [hi]at e1;cases e1;rw [List.getElem?_set_self hiσ]at e2;cases e2;exact⟨u,r, .inl ⟨hk,by simp⟩⟩
   ·rw [List.getElem?_set_ne (Ne.symm hj)]at e2;obtain⟨u',r',q⟩:=hl j y v' e1 e2 e3;refine⟨u',r',?_⟩;rcases q with⟨k,e⟩ |⟨k,c,e,z⟩
    ·refine .inl ⟨k,?_⟩;have:y≠x:=fun e=>hj (zdP hN e1 (e▸hi));simp [this,e]
    ·exact .inr ⟨k,c,e,z.sameBut hs (cne y c e)⟩
  ·obtain⟨w',z⟩:=I.cell y c e;exact⟨w',z.sameBut hs (cne y c e)⟩
  ·obtain⟨e,n,ne,nf,d⟩:=I.pin p hp;exact⟨(hs.2 p.1 ne).trans e,n,ne,nf,d⟩
 ·have hfn:X.fn x=true:=by
   rcases hf with z |z
   ·exact z
   ·rw [z]at hk;cases hk
  obtain⟨c,hc⟩:=I.ok.has x (.inl hk);obtain⟨w',z⟩:=I.cell x c hc;refine wpAny_storeName_cell I.ok.kind hk hc z (fun h' hc' hs=>?_);obtain⟨oc,hoc,hocd⟩:=id z;refine h { s with heap:=h' } ⟨I.ok,I.os,I.bare,⟨fun b o e n hb hx=>?_,fun b o e n hb hx=>?_,I.base.free,fun b o e hx=>?_,I.base.tups,I.base.frzs,I.base.tbls⟩,⟨m,hn.sameBut hs (Ne.symm (cne x c hc)),fun j y v' e1 e2 e3=>?_⟩,fun y c' e=>?_,I.free,I.freeC,fun p hp=>?_,tracked ⟨oc,hoc,I.freeC x c hc⟩ hs,by simpa using I.len⟩ ⟨c,hs, .inr hc⟩
  ·exact(hs.2 b (Nat.ne_of_lt (Nat.lt_of_lt_of_le (Heap.lt_size e) (I.ok.cab x c hfn hc)))).trans (I.base.keep b o e n hb hx)
  ·obtain⟨sl,e1⟩:=I.base.slot b o e n hb hx;exact⟨sl,(hs.2 b (Nat.ne_of_lt (Nat.lt_of_lt_of_le (Heap.lt_size e) (I.ok.cab x c hfn hc)))).trans e1⟩
  ·obtain⟨o',e1⟩:=I.base.there b o e hx;exact⟨o',(hs.2 b (Nat.ne_of_lt (Nat.lt_of_lt_of_le (Heap.lt_size e) (I.ok.cab x c hfn hc)))).trans e1⟩
  ·by_cases hj:j=i
   ·subst hj;rw [hi]at e1;cases e1;rw [List.getElem?_set_self hiσ]at e2;cases e2;exact⟨u,r, .inr ⟨.inl hk,c,hc,hc'⟩⟩
   ·rw [List.getElem?_set_ne (Ne.symm hj)]at e2;obtain⟨u',r',q⟩:=hl j y v' e1 e2 e3;refine⟨u',r',?_⟩;rcases q with q |⟨k,c',e,z'⟩
    ·exact .inl q
    ·refine .inr ⟨k,c',e,z'.sameBut hs ?_⟩;rintro rfl;exact hj (zdP hN e1 (I.ok.inj _ _ _ e hc▸hi))
  ·by_cases hcc:c'=c
   ·subst hcc;exact⟨_,hc'⟩
   ·obtain⟨w2,z2⟩:=I.cell y c' e;exact⟨w2,z2.sameBut hs hcc⟩
  ·obtain⟨e,n,ne,nf,d⟩:=I.pin p hp;refine⟨(hs.2 p.1 ?_).trans e,n,ne,nf,d⟩;intro q;rw [q,hoc]at e;have q':oc=p.2:=Option.some.inj e;exact d w' (by rw [←q'];exact hocd)
theorem zcL{M:Model}{A:Around}{E:Value→Shared→Prop}{i:Nat}{x:Str}{v:V}{u:Value}{Q:Unit→Shared→Prop}(I:Inv X pins σ H s) (hN:X.N.Nodup) (hi:X.N[i]? =some x) (hx:Loc X.env.scope x) (r:RelV v u)
  (h:∀s',Inv X pins (σ.set i (some v)) H s'→Q () s') (hf:X.fn x=true∨X.env.scope.names.lookup x=some .local:=by first |exact .inl rfl |exact .inr rfl |assumption):wpAny M A (storeName X.env x u) Q E s:=
 zey I hN hi hx r (fun s' I' _=>h s' I') hf
theorem Inv.call'{s':Shared}{ch:List Addr}(I:Inv X pins σ H s) (ho:s'.os=s.os) (u:Un (frs X.stack) ch H H' s.heap s'.heap) (hok:HOk X.prog X.w H' s'.heap) (hg:AllBare s'.gens)
  (hch:∀b∈ch,(b∈X.ex∨X.s₀.heap.objs.size≤b)∧b≠X.env.locals∧(∀x c,X.env.cells.lookup x=some c→c≠b)∧ ∀p∈X.pn++pins,p.1≠b):Inv X pins σ H' s':=by
 obtain⟨h',g',d',t',o'⟩:=s';have e:o'=s.os:=ho;subst e;exact I.call (g':=g') (t':=t') (d':=d') u hok hg hch
end
noncomputable abbrev XK:=Value→Option Addr→Hp→Prop
noncomputable abbrev St:=List (Option V)
noncomputable abbrev VK:=V→Hp→Prop
noncomputable abbrev TE:=St→Hp→VK→Prop
noncomputable abbrev TT:=St→Hp→(Bool→Hp→Prop)→Prop
noncomputable abbrev TA:=St→Hp→(List V→Hp→Prop)→Prop
structure Ends where
  nx:St→Hp→Prop
  rt:VK
  bk:St→Hp→Prop:=fun _ _=>False
  ct:St→Hp→Prop:=fun _ _=>False
noncomputable abbrev TS:=Ends→St→Hp→Prop
noncomputable def EP (X:Cx) (pins:List (Addr×Obj)) (σ:St) (Q:VK) (u:Value) (s':Shared):Prop:=∃v H',Inv X pins σ H' s'∧RelV v u∧Q v H'
noncomputable def TP (X:Cx) (pins:List (Addr×Obj)) (σ:St) (Q:Bool→Hp→Prop) (b:Bool) (s':Shared):Prop:=∃H',Inv X pins σ H' s'∧Q b H'
noncomputable def AP (X:Cx) (pins:List (Addr×Obj)) (σ:St) (Q:List V→Hp→Prop) (us:List Value) (s':Shared):Prop:=∃vs H',Inv X pins σ H' s'∧Vals vs us∧Q vs H'
noncomputable def SP (X:Cx) (pins:List (Addr×Obj)) (D:Ends) (f:Flow) (s':Shared):Prop:=
 match f with
 | .next=>∃σ' H',Inv X pins σ' H' s'∧D.nx σ' H'
 | .brk=>∃σ' H',Inv X pins σ' H' s'∧D.bk σ' H'
 | .cont=>∃σ' H',Inv X pins σ' H' s'∧D.ct σ' H'
 | .ret u=>∃v σ' H',Inv X pins σ' H' s'∧RelV v u∧D.rt v H'
noncomputable def PE (X:Cx) (e:Expr) (t:TE):Prop:=
 ∀(pins:List (Addr×Obj)) (s:Shared) (σ:St) (H:Hp) (Q:VK),Inv X pins σ H s→t σ H Q→wpAny (model X.prog X.w) X.A (eval e X.env) (EP X pins σ Q) X.xe s
noncomputable def PT (X:Cx) (e:Expr) (t:TT):Prop:=
 ∀(pins:List (Addr×Obj)) (s:Shared) (σ:St) (H:Hp) (Q:Bool→Hp→Prop),Inv X pins σ H s→t σ H Q→wpAny (model X.prog X.w) X.A (isTrue e X.env (eval e X.env)) (TP X pins σ Q) X.xe s
noncomputable def PW (X:Cx) (e:Expr) (t:TT):Prop:=
 ∀(whole:Sem Value) (pins:List (Addr×Obj)) (s:Shared) (σ:St) (H:Hp) (Q:Bool→Hp→Prop),Inv X pins σ H s→t σ H Q→wpAny (model X.prog X.w) X.A (isTrue e X.env whole) (TP X pins σ Q) X.xe s
theorem PW.pt{X:Cx}{e:Expr}{t:TT}(h:PW X e t):PT X e t:=h _
noncomputable def PA (X:Cx) (es:List Expr) (t:TA):Prop:=
 ∀(pos:Pos) (pins:List (Addr×Obj)) (s:Shared) (σ:St) (H:Hp) (Q:List V→Hp→Prop),Inv X pins σ H s→t σ H Q→wpAny (model X.prog X.w) X.A (spliced (backTo pos (starEach es X.env))) (AP X pins σ Q) X.xe s
noncomputable def PS (X:Cx) (st:Stmt) (t:TS):Prop:=
 ∀(pins:List (Addr×Obj)) (s:Shared) (σ:St) (H:Hp) (D:Ends),Inv X pins σ H s→t D σ H→wpAny (model X.prog X.w) X.A (exec st X.env) (SP X pins D) X.xe s
noncomputable def PSs (X:Cx) (st:List Stmt) (t:TS):Prop:=
 ∀(pins:List (Addr×Obj)) (s:Shared) (σ:St) (H:Hp) (D:Ends),Inv X pins σ H s→t D σ H→wpAny (model X.prog X.w) X.A (execs st X.env) (SP X pins D) X.xe s
theorem thn{α:Type}{t:Sem α}{Q Q':α→Shared→Prop}{M:Model}{A:Around}{E:Value→Shared→Prop}{s:Shared}(h:wpAny M A t Q E s) (hQ:∀a s,Q a s→Q' a s):wpAny M A t Q' E s:=wpAny_mono h hQ fun _ _ x=>x
section
variable {X:Cx}
noncomputable def zqn (i:Nat):TE:=fun σ H Q=>∃v,σ[i]? =some (some v)∧Q v H
noncomputable def tC (v:V):TE:=fun _ H Q=>Q v H
theorem zhr{i:Nat}{x:Str}{pos:Pos}(hN:X.N[i]? =some x) (hv:Vis X.env.scope x) (hd:(x == ("__debug__" :Str))=false:=by decide) (hcd:(x == ("__classdict__" :Str))=false:=by decide):PE X (.Name x pos) (zqn i):=by
 intro pins s σ H Q I h;obtain⟨v,e,h⟩:=h;obtain⟨m,hn,hl⟩:=I.loc;obtain⟨u,r,l⟩:=hl i x v hN e hv;have fin:EP X pins σ Q u s:=⟨v,H,I,r,h⟩;rcases l with⟨hk,hm⟩ |⟨hk,c,hc,hcell⟩
 ·exact wpAny_Name (wpAny_loadName_local I.ok.kind hk hn hm fin) hd
 ·rcases hk with hk |hk
  ·exact wpAny_Name (wpAny_loadName_cell I.ok.kind hk hc hcell fin) hd
  ·exact wpAny_Name (wpAny_loadName_free I.ok.kind hk hc hcell fin hcd) hd
theorem zmj{i j pos}:PE X (.Constant (.int i) j pos) (tC (.int i)):=fun _ _ _ H _ I h=>wpAny_Constant_int ⟨.int i,H,I.tok _,⟨_,rfl⟩,h⟩
theorem zoL{b j pos}:PE X (.Constant (.bool b) j pos) (tC (.bl b)):=fun _ _ _ H _ I h=>Constant_bool ⟨.bl b,H,I,rfl,h⟩
theorem znf{j pos}:PE X (.Constant .none j pos) (tC .non):=fun _ _ _ H _ I h=>Constant_none ⟨.non,H,I,rfl,h⟩
theorem znl{x j pos}:PE X (.Constant (.str x) j pos) (tC (.str x)):=fun _ _ _ H _ I h=>Calls.Constant_str ⟨.str x,H,I.tok _,⟨_,rfl⟩,h⟩
noncomputable def Gl (X:Cx) (x:Str):Prop:=X.env.kindOf x=some .globalImplicit
theorem zda{E:Value→Shared→Prop}{pins:List (Addr×Obj)}{s:Shared}{σ:St}{H:Hp}{x:Str}{u:Value}{pos:Pos}{Q:Value→Shared→Prop}(I:Inv X pins σ H s) (hg:Gl X x) (hm:X.mg x=some u) (h:Q u s)
  (hd:(x == ("__debug__" :Str))=false:=by decide):wpAny (model X.prog X.w) X.A (eval (.Name x pos) X.env) Q E s:=
 Calls.Name_function_global I.ok.kind hg (Calls.loadGlobal_global (by rw [I.ok.glob];exact I.mod.glob.keeps I.bk) hm h) hd
theorem zff{E:Value→Shared→Prop}{pins:List (Addr×Obj)}{s:Shared}{σ:St}{H:Hp}{x:Str}{u:Value}{pos:Pos}{Q:Value→Shared→Prop}(I:Inv X pins σ H s) (hg:Gl X x) (hm:X.mg x=none) (hv:bootBuiltins x=some u) (h:Q u s)
  (hn:x≠ "__name__" :=by decide) (hd:(x == ("__debug__" :Str))=false:=by decide):wpAny (model X.prog X.w) X.A (eval (.Name x pos) X.env) Q E s:=by
 obtain⟨mb,h1,h2⟩:=I.mod.blt;exact Calls.Name_function_global I.ok.kind hg (Calls.loadGlobal_builtin (by rw [I.ok.glob];exact I.mod.glob.keeps I.bk) hm (by rw [I.ok.blt];exact h1.keeps I.bk) ((h2 x hn).trans hv) h) hd
theorem zih{x:Str}{v:V}{u:Value}{pos:Pos}(hg:Gl X x) (hm:X.mg x=some u) (r:RelV v u) (hd:(x == ("__debug__" :Str))=false:=by decide):PE X (.Name x pos) (tC v):=
 fun _ _ _ H _ I h=>zda I hg hm ⟨v,H,I,r,h⟩ hd
theorem zii{x:Str}{v:V}{u:Value}{pos:Pos}(hg:Gl X x) (hm:X.mg x=none) (hv:bootBuiltins x=some u) (r:RelV v u) (hn:x≠ "__name__" :=by decide) (hd:(x == ("__debug__" :Str))=false:=by decide):PE X (.Name x pos) (tC v):=
 fun _ _ _ H _ I h=>zff I hg hm hv ⟨v,H,I,r,h⟩ hn hd
variable {a b:Expr}{pos:Pos}
variable {tA tB':TT}{rest:List Expr}
noncomputable def zqs (t u:TT):TT:=fun σ H Q=>t σ H fun c H1=>if c=true then u σ H1 Q else Q false H1
noncomputable def tOr (t u:TT):TT:=fun σ H Q=>t σ H fun c H1=>if c=true then Q true H1 else u σ H1 Q
noncomputable def zpM (t:TT):TT:=fun σ H Q=>t σ H fun c H1=>Q (!c) H1
theorem zlc (ha:PT X a tA):PW X (.BoolOp .And [a] pos) tA:=by
 intro wh pins s σ H Q I h;refine isTrue_and (thn (ha pins s σ H Q I h) fun c s1 e=>?_);cases c with
 |true=>exact isTrue_and_nil e
 |false=>exact e
theorem zmC (ha:PT X a tA):PW X (.BoolOp .Or [a] pos) tA:=by
 intro wh pins s σ H Q I h;refine isTrue_or (thn (ha pins s σ H Q I h) fun c s1 e=>?_);cases c with
 |false=>exact isTrue_or_nil e
 |true=>exact e
theorem zmI (ha:PT X a tA) (hb:PW X (.BoolOp .And (b::rest) pos) tB'):PW X (.BoolOp .And (a::b::rest) pos) (zqs tA tB'):=by
 intro wh pins s σ H Q I h;refine isTrue_and (thn (ha pins s σ H _ I h) fun c s1 ⟨H1,I1,q1⟩=>?_);cases c with
 |true=>exact hb wh pins s1 σ H1 Q I1 q1
 |false=>exact⟨H1,I1,q1⟩
theorem zof (ha:PT X a tA) (hb:PW X (.BoolOp .Or (b::rest) pos) tB'):PW X (.BoolOp .Or (a::b::rest) pos) (tOr tA tB'):=by
 intro wh pins s σ H Q I h;refine isTrue_or (thn (ha pins s σ H _ I h) fun c s1 ⟨H1,I1,q1⟩=>?_);cases c with
 |true=>exact⟨H1,I1,q1⟩
 |false=>exact hb wh pins s1 σ H1 Q I1 q1
theorem znF (ha:PT X a tA):PT X (.UnaryOp .Not a pos) (zpM tA):=by
 intro pins s σ H Q I h;exact isTrue_not (ha pins s σ H (fun c H1=>Q (!c) H1) I h)
end
noncomputable def SqL (K:PySem.W.Frag) (H:Hp) (a:Addr) (xs:List V):Prop:=
 Rd H a (.lst xs)∨
  ∃(o:Obj) (its:Array Value) (n:Nat),K.lookup a=some o∧o.cls= .type "list" ∧o.dict=none∧o.data= .seq its n∧its.size≤sizeLine∧Vals xs its.toList
noncomputable def SqT (K:PySem.W.Frag) (H:Hp) (a:Addr) (xs:List V):Prop:=
 Rd H a (.tup xs)∨
  ∃(o:Obj) (its:Array Value) (n:Nat),K.lookup a=some o∧o.cls= .type "tuple" ∧o.data= .seq its n∧its.size≤sizeLine∧Vals xs its.toList
noncomputable def zqo:Value→Option V
 | .none=>some .non
 | .bool b=>some (.bl b)
 | .int i _=>some (.int i)
 | .str x _=>some (.str x)
 | .bytes b _=>some (.byt b)
 | .float b _=>some (.flt b)
 | .ref a=>some (.ref a)
 | .type n=>some (.ty n)
 |_=>none
theorem RelV.abs{x:V}{u:Value}(r:RelV x u):zqo u=some x:=by
 cases x with
 |non=>cases r;rfl
 |bl _=>cases r;rfl
 |int _=>obtain⟨t,rfl⟩:=r;rfl
 |str _=>obtain⟨t,rfl⟩:=r;rfl
 |byt _=>obtain⟨t,rfl⟩:=r;rfl
 |flt _=>obtain⟨t,rfl⟩:=r;rfl
 |ref _=>cases r;rfl
 |ty _=>cases r;rfl
theorem RelV.inj{x y:V}{u:Value}(r:RelV x u) (q:RelV y u):x=y:=Option.some.inj (r.abs.symm.trans q.abs)
theorem Vals.inj:∀{xs ys:List V}{us:List Value},Vals xs us→Vals ys us→xs=ys
 |_,_,_, .nil, .nil=>rfl
 |_,_,_, .cons r t, .cons r' t'=>by rw [r.inj r',Vals.inj t t']
section
variable {X:Cx}{pins:List (Addr×Obj)}{σ:St}{H:Hp}{s:Shared}{a:Addr}{xs ys:List V}
theorem SqL.of{K:PySem.W.Frag}(h:H a=some (.lst xs)):SqL K H a xs:= .inl (.inl h)
theorem SqT.of{K:PySem.W.Frag}(h:H a=some (.tup xs)):SqT K H a xs:= .inl (.inl h)
theorem Inv.list (I:Inv X pins σ H s) (h:SqL X.K H a xs):∃its:List Value,Vals xs its∧PlainL s.heap a its.toArray∧xs.length≤sizeLine:=by
 rcases h with h |⟨o,its,n,hk,hc,hd,hs,hz,r⟩
 ·obtain⟨z,its,n,r,e⟩:=h.ok I.hok;exact⟨its,r,⟨_,n,e,rfl,rfl,rfl⟩,z⟩
 ·refine⟨its.toList,r,⟨o,n,I.kIn a o hk,hc,hd,by simpa using hs⟩,?_⟩
  have e:=r.length;simp only[Array.length_toList]at e;omega
theorem Inv.tuple (I:Inv X pins σ H s) (h:SqT X.K H a xs):∃its:List Value,Vals xs its∧IsTup s.heap a its.toArray∧xs.length≤sizeLine:=by
 rcases h with h |⟨o,its,n,hk,hc,hs,hz,r⟩
 ·obtain⟨z,its,r,p⟩:=h.ok I.hok;exact⟨its,r,p,z⟩
 ·refine⟨its.toList,r,⟨o,I.kIn a o hk,hc,n,by simpa using hs⟩,?_⟩
  have e:=r.length;simp only[Array.length_toList]at e;omega
theorem Inv.list_inj (I:Inv X pins σ H s) (h:SqL X.K H a xs) (h':SqL X.K H a ys):xs=ys:=by
 obtain⟨its,r,⟨o,n,e,_,_,d⟩,_⟩:=I.list h;obtain⟨its',r',⟨o',n',e',_,_,d'⟩,_⟩:=I.list h';rw [e]at e';cases e';rw [d]at d';injection d' with d1 _;have:its=its':=by simpa using congrArg Array.toList d1
 subst this;exact r.inj r'
theorem Inv.tuple_inj (I:Inv X pins σ H s) (h:SqT X.K H a xs) (h':SqT X.K H a ys):xs=ys:=by
 obtain⟨its,r,⟨o,e,_,n,d⟩,_⟩:=I.tuple h;obtain⟨its',r',⟨o',e',_,n',d'⟩,_⟩:=I.tuple h';rw [e]at e';cases e';rw [d]at d';injection d' with d1 _;have:its=its':=by simpa using congrArg Array.toList d1
 subst this;exact r.inj r'
end
noncomputable abbrev Cx.wish (X:Cx) (E:Value→Shared→Prop):Cx:={ X with xe:=E }
noncomputable abbrev Cx.nox (X:Cx):Cx:=X.wish fun _ _=>False
theorem Cx.Ok.wish{X:Cx}(ok:X.Ok) (E:Value→Shared→Prop):(X.wish E).Ok:=
 ⟨ok.mod,ok.kind,ok.glob,ok.blt,ok.above,ok.inj,ok.has,ok.cab,ok.hd,ok.frames,ok.stk,ok.exf,ok.bs,ok.bsz,ok.noex,ok.exfs,ok.funs,ok.frf⟩
theorem Cx.Ok.unwish{X:Cx}{E:Value→Shared→Prop}(ok:(X.wish E).Ok):X.Ok:=
 ⟨ok.mod,ok.kind,ok.glob,ok.blt,ok.above,ok.inj,ok.has,ok.cab,ok.hd,ok.frames,ok.stk,ok.exf,ok.bs,ok.bsz,ok.noex,ok.exfs,ok.funs,ok.frf⟩
section
variable {X:Cx}{pins:List (Addr×Obj)}{σ:St}{H:Hp}{s:Shared}{E:Value→Shared→Prop}
theorem Inv.wish (I:Inv X pins σ H s) (E:Value→Shared→Prop):Inv (X.wish E) pins σ H s:=⟨I.ok.wish E,I.os,I.bare,I.base,I.loc,I.cell,I.free,I.freeC,I.pin,I.hok,I.len⟩
theorem Inv.unwish (I:Inv (X.wish E) pins σ H s):Inv X pins σ H s:=⟨I.ok.unwish,I.os,I.bare,I.base,I.loc,I.cell,I.free,I.freeC,I.pin,I.hok,I.len⟩
theorem SP.unwish{D:Ends}{f:Flow}{s':Shared}(h:SP (X.wish E) pins D f s'):SP X pins D f s':=by
 cases f with
 |next=>obtain⟨σ',H',I,q⟩:=h;exact⟨σ',H',I.unwish,q⟩
 |brk=>obtain⟨σ',H',I,q⟩:=h;exact⟨σ',H',I.unwish,q⟩
 |cont=>obtain⟨σ',H',I,q⟩:=h;exact⟨σ',H',I.unwish,q⟩
 |ret u=>obtain⟨v,σ',H',I,r,q⟩:=h;exact⟨v,σ',H',I.unwish,r,q⟩
theorem PE.nox{e:Expr}{t:TE}(h:PE X.nox e t):PE X e t:=fun pins s σ H Q I hw=>
 wpAny_mono (h pins s σ H Q (I.wish _) hw) (fun _ _ ⟨v,H',I',r,q⟩=>⟨v,H',I'.unwish,r,q⟩) fun _ _ z=>False.elim z
end
section
variable {X:Cx}{st:Stmt}{rest:List Stmt}{t u:TS}{e:Expr}{te:TE}{pos:Pos}
noncomputable def zpp:TS:=fun D σ H=>D.nx σ H
noncomputable def zqd (t u:TS):TS:=fun D σ H=>t { D with nx:=u D } σ H
theorem pss_nil:PSs X [] zpp:=fun _ _ σ H _ I h=>wpAny_execs_nil ⟨σ,H,I,h⟩
theorem ziT (h1:PS X st t) (h2:PSs X rest u):PSs X (st::rest) (zqd t u):=by
 intro pins s σ H D I h;refine wpAny_execs_cons (thn (h1 pins s σ H { D with nx:=u D } I h) fun f s1 q=>?_);cases f with
 |next=>
  obtain⟨σ',H',I',q⟩:=q;exact h2 pins s1 σ' H' D I' q
 |ret v=>exact q
 |brk=>exact q
 |cont=>exact q
theorem zhK (h1:PS X st t):PSs X [st] t:=by
 intro pins s σ H D I h;refine wpAny_execs_cons (thn (h1 pins s σ H D I h) fun f s1 q=>?_);cases f with
 |next=>exact wpAny_execs_nil q
 |ret v=>exact q
 |brk=>exact q
 |cont=>exact q
theorem Inv.quiet{pins:List (Addr×Obj)}{σ:St}{H:Hp}{s:Shared}(I:Inv X pins σ H s):interactive X.env=false:=by simp [interactive,I.ok.kind]
noncomputable def zox (te:TE):TS:=fun D σ H=>te σ H fun _ H1=>D.nx σ H1
theorem zkP (he:PE X e te) (hs:swapsWith e none pos.line X.env=pure false:=by rfl):PS X (.Expr e pos) (zox te):=by
 intro pins s σ H D I h;exact wpAny_Expr_any (thn (he pins s σ H _ I h) fun v s1 ⟨x,H1,I1,r1,q1⟩=>⟨σ,H1,I1,q1⟩) I.quiet hs
noncomputable def zpP (te:TE):TS:=fun D σ H=>te σ H D.rt
theorem zmX (he:PE X e te):PS X (.Return (some e) pos) (zpP te):=by
 intro pins s σ H D I h;exact wpAny_Return_some (thn (he pins s σ H _ I h) fun v s1 ⟨x,H1,I1,r1,q1⟩=>⟨x,σ,H1,I1,r1,q1⟩)
noncomputable def zpY (c:TT) (t u:TS):TS:=fun D σ H=>c σ H fun b H1=>if b=true then t D σ H1 else u D σ H1
theorem znu{c:Expr}{a b:List Stmt}{tc:TT}(hc:PT X c tc) (ha:PSs X a t) (hb:PSs X b u):PS X (.If c a b pos) (zpY tc t u):=by
 intro pins s σ H D I h;refine wpAny_If (thn (hc pins s σ H _ I h) fun d s1 ⟨H1,I1,q1⟩=>?_);cases d with
 |true=>exact ha pins s1 σ H1 D I1 q1
 |false=>exact hb pins s1 σ H1 D I1 q1
end
noncomputable abbrev TG:=V→St→Hp→(St→Hp→Prop)→Prop
noncomputable abbrev TGs:=List V→St→Hp→(St→Hp→Prop)→Prop
noncomputable def PG (X:Cx) (target:Expr) (t:TG):Prop:=
 ∀(pins:List (Addr×Obj)) (s:Shared) (σ:St) (H:Hp) (v:V) (u:Value) (Q:St→Hp→Prop),Inv X pins σ H s→RelV v u→t v σ H Q→
  wpAny (model X.prog X.w) X.A (assign target X.env u) (fun _ s'=>∃σ' H',Inv X pins σ' H' s'∧Q σ' H') X.xe s
noncomputable def PGs (X:Cx) (ts:List Expr) (t:TGs):Prop:=
 ∀(pins:List (Addr×Obj)) (s:Shared) (σ:St) (H:Hp) (vs:List V) (us:List Value) (Q:St→Hp→Prop),Inv X pins σ H s→Vals vs us→t vs σ H Q→
  wpAny (model X.prog X.w) X.A (assignInOrder ((assignEach ts X.env).map (·.2)) us) (fun _ s'=>∃σ' H',Inv X pins σ' H' s'∧Q σ' H') X.xe s
noncomputable abbrev TIp:=V→V→Hp→VK→Prop
noncomputable def PIp (X:Cx) (op:Operator) (t:TIp):Prop:=
 ∀(pins:List (Addr×Obj)) (s:Shared) (σ:St) (H:Hp) (x y:V) (v u:Value) (Q:VK),Inv X pins σ H s→RelV x v→RelV y u→t x y H Q→
  wpAny (model X.prog X.w) X.A (inplaceOp op v u) (EP X pins σ Q) X.xe s
section
variable {X:Cx}{pos:Pos}
noncomputable def zlk (i:Nat):TG:=fun v σ H Q=>Q (σ.set i (some v)) H
theorem zlx{i:Nat}{x:Str}(hN:X.N.Nodup) (hi:X.N[i]? =some x) (hx:Loc X.env.scope x) (hf:X.fn x=true∨X.env.scope.names.lookup x=some .local:=by first |exact .inl rfl |exact .inr rfl |assumption):PG X (.Name x pos) (zlk i):=by
 intro pins s σ H v u Q I r h;exact wpAny_assign_Name (zcL I hN hi hx r (fun s' I'=>⟨_,H,I',h⟩) hf)
noncomputable def zpI:TGs:=fun vs σ H Q=>vs=[]∧Q σ H
noncomputable def zoR (t:TG) (u:TGs):TGs:=fun vs σ H Q=>∃v r,vs=v::r∧t v σ H fun σ' H'=>u r σ' H' Q
theorem zlF:PGs X [] zpI:=by
 intro pins s σ H vs us Q I r h;obtain⟨e,h⟩:=h;subst e;cases r;exact assignInOrder_nil ⟨σ,H,I,h⟩
theorem ziW{e:Expr}{es:List Expr}{t:TG}{u:TGs}(h1:PG X e t) (h2:PGs X es u)
  (hs:(assignEach (e::es) X.env).map (·.2)=assign e X.env::(assignEach es X.env).map (·.2):=by rfl):PGs X (e::es) (zoR t u):=by
 intro pins s σ H vs us Q I r h;obtain⟨v,vr,e1,h⟩:=h;subst e1;cases r with
 |cons r rr=>
  rw [hs];refine assignInOrder_cons (thn (h1 pins s σ H _ _ _ I r h) fun _ s1 ⟨σ1,H1,I1,q1⟩=>?_);exact h2 pins s1 σ1 H1 _ _ Q I1 rr q1
noncomputable def zqc (K:PySem.W.Frag) (n:Nat) (t:TGs):TG:=fun v σ H Q=>∃a xs,v= .ref a∧SqT K H a xs∧xs.length=n∧t xs σ H Q
theorem znQ{es:List Expr}{k:Nat}{t:TGs}{n:Nat}(hc:X.calm=true) (h:PGs X es t)
  (hn:(assignEach es X.env).length=n:=by rfl) (hst:(assignEach es X.env).findIdx? (·.1)=none:=by rfl):PG X (.Tuple es k pos) (zqc X.K n t):=by
 intro pins s σ H v u Q I r hw;obtain⟨a,xs,e1,hq,hl,hw⟩:=hw;subst e1;cases r;obtain⟨its,rv,ht,hz⟩:=I.tuple hq;refine assign_Tuple_tuple (I.ok.hd hc) ht (by simp [hn,←hl,rv.length]) hst fun h' hx=>?_;have I1:Inv X pins σ H { s with heap:=h' }:=I.kept (t':=s.toks) fun b o e=>hx b o (Nat.ne_of_lt (Heap.lt_size e)) e;exact h pins _ σ H xs _ Q I1 (by simpa using rv) hw
noncomputable def zos (te:TE) (g:TG):TS:=fun D σ H=>te σ H fun x H1=>g x σ H1 D.nx
theorem znv{tg e:Expr}{te:TE}{g:TG}(he:PE X e te) (hg:PG X tg g) (hs:swapsWithSole [tg] e pos.line X.env=pure false:=by rfl) (hw:swappedStores [tg] e X.env=pure none:=by rfl)
  (h1:(assignEach [tg] X.env).map (·.2)=[assign tg X.env]:=by rfl):PS X (.Assign [tg] e pos) (zos te g):=by
 intro pins s σ H D I h;refine wpAny_Assign_stores (thn (he pins s σ H _ I h) fun v s1 ⟨x,H1,I1,r1,q1⟩=>?_) hs hw;rw [h1];exact thn (hg pins s1 σ H1 x v _ I1 r1 q1) fun _ s2 q=>q
theorem zjX{i:Nat}{x:Str}{e:Expr}{te:TE}{pos':Pos}(hN:X.N.Nodup) (hi:X.N[i]? =some x) (hx:Loc X.env.scope x) (he:PE X e te) (hs:swapsWith e (some (.Name x pos')) pos.line X.env=pure false:=by rfl) (hf:X.fn x=true∨X.env.scope.names.lookup x=some .local:=by first |exact .inl rfl |exact .inr rfl |assumption) :
  PS X (.Assign [.Name x pos'] e pos) (zos te (zlk i)):=by
 intro pins s σ H D I h;refine wpAny_Assign_Name (thn (he pins s σ H _ I h) fun v s1 ⟨y,H1,I1,r1,q1⟩=>?_) hs;exact zcL I1 hN hi hx r1 (fun s2 I2=>⟨_,H1,I2,q1⟩) hf
noncomputable def zpS (i:Nat) (te:TE) (ti:TIp):TS:=fun D σ H=>∃x,σ[i]? =some (some x)∧te σ H fun y H1=>ti x y H1 fun z H2=>D.nx (σ.set i (some z)) H2
theorem znR{i:Nat}{x:Str}{e:Expr}{te:TE}{op:Operator}{ti:TIp}{pos':Pos}(hN:X.N.Nodup) (hi:X.N[i]? =some x) (hx:Loc X.env.scope x) (he:PE X e te) (ho:PIp X op ti) (hf:X.fn x=true∨X.env.scope.names.lookup x=some .local:=by first |exact .inl rfl |exact .inr rfl |assumption) :
  PS X (.AugAssign (.Name x pos') op e pos) (zpS i te ti):=by
 intro pins s σ H D I h;obtain⟨v,e1,h⟩:=h;obtain⟨m,hn,hl⟩:=I.loc;have vis:Vis X.env.scope x:=by rcases hx with k |k;exact .inl k;exact .inr (.inl k)
 obtain⟨u,r,l⟩:=hl i x v hi e1 vis;refine wpAny_AugAssign_Name ?_;have go:wpAny (model X.prog X.w) X.A (eval e X.env) (fun w s₂=>wpAny (model X.prog X.w) X.A (inplaceOp op u w) (fun r s₃=>wpAny (model X.prog X.w) X.A (storeName X.env x r) (fun _=>SP X pins D .next) X.xe s₃) X.xe s₂) X.xe s:=by
  refine thn (he pins s σ H _ I h) fun w s1 ⟨y,H1,I1,r1,q1⟩=>?_;refine thn (ho pins s1 σ H1 v y u w _ I1 r r1 q1) fun z s2 ⟨zv,H2,I2,r2,q2⟩=>?_;exact zcL I2 hN hi hx r2 (fun s3 I3=>⟨_,H2,I3,q2⟩) hf
 rcases l with⟨hk,hm⟩ |⟨hk,c,hc,hcell⟩
 ·exact wpAny_loadName_local I.ok.kind hk hn hm go
 ·rcases hk with hk |hk
  ·exact wpAny_loadName_cell I.ok.kind hk hc hcell go
  ·rcases hx with k |k
   ·have:X.env.scope.names.lookup x=some .free:=hk;rw [k]at this;cases this
   ·have:X.env.scope.names.lookup x=some .free:=hk;rw [k]at this;cases this
noncomputable def ipI (f:Int→Int→Int):TIp:=fun x y H Q=>∃i j,x= .int i∧y= .int j∧Q (.int (f i j)) H
theorem zmL:PIp X .Add (ipI fun i j=>i+j):=by
 intro pins s σ H x y v u Q I r1 r2 h;obtain⟨i,j,e1,e2,q⟩:=h;subst e1;subst e2;obtain⟨t,rfl⟩:=r1;obtain⟨t',rfl⟩:=r2;exact iadd_int ⟨.int _,H,I.tok _,⟨_,rfl⟩,q⟩
end
section
variable {X:Cx}{pos:Pos}
noncomputable def zlZ (c:TT) (tb:TS):TS:=fun D σ H=>∃W:Nat→St→Hp→Prop,(∃m,W m σ H)∧ ∀m σ H,W m σ H→
 c σ H fun b H1=>if b=true then ∃N:St→Hp→Prop,(∀σ' H',N σ' H'→ ∃m',m'<m∧W m' σ' H')∧tb { D with nx:=N,ct:=N,bk:=D.nx } σ H1 else D.nx σ H1
theorem ziK{c:Expr}{body:List Stmt}{tc:TT}{tb:TS}(hp:PassesOwn (model X.prog X.w) X.A X.env X.xe) (hc:PT X c tc) (hb:PSs X body tb):PS X (.While c body [] pos) (zlZ tc tb):=by
 intro pins s σ H D I h;obtain⟨W,⟨m0,w0⟩,turn⟩:=h;refine wpAny_While (codeAny_whileLoop (fun n s'=>∃σ' H',Inv X pins σ' H' s'∧W n σ' H') ?_ m0 ⟨σ,H,I,w0⟩);rintro n s1 ⟨σ1,H1,I1,w1⟩;refine wpAny_passesOwn hp (thn (hc pins s1 σ1 H1 _ I1 (turn n σ1 H1 w1)) fun b s2 ⟨H2,I2,q2⟩=>?_);cases b with
 |true=>
  obtain⟨N,hN,q2⟩:=q2;rw [if_pos rfl];refine wpAny_passesOwn hp (thn (hb pins s2 σ1 H2 _ I2 q2) fun f s3 q3=>?_);cases f with
  |next=>
   obtain⟨σ3,H3,I3,n3⟩:=q3;obtain⟨m',hm,w3⟩:=hN σ3 H3 n3;exact⟨m',hm,σ3,H3,I3,w3⟩
  |cont=>
   obtain⟨σ3,H3,I3,n3⟩:=q3;obtain⟨m',hm,w3⟩:=hN σ3 H3 n3;exact⟨m',hm,σ3,H3,I3,w3⟩
  |brk=>exact q3
  |ret v=>exact q3
 |false=>
  rw [if_neg Bool.false_ne_true];exact wpAny_execs_nil ⟨σ1,H2,I2,q2⟩
end
structure It where
  go:Nat→Hp→Prop
  yld:Nat→Hp→V→Hp→Prop
  stop:Nat→Hp→Prop
noncomputable def zfi (X:Cx) (pins:List (Addr×Obj)) (H:Hp) (b:Addr):Prop:=
 H b=none∧b≠X.env.locals∧b∉X.fs∧(b∈X.ex∨X.s₀.heap.objs.size≤b)∧(∀x c,X.env.cells.lookup x=some c→c≠b)∧ ∀p∈X.pn++pins,p.1≠b
theorem Inv.fpOk{X:Cx}{pins:List (Addr×Obj)}{σ:St}{H H':Hp}{s:Shared}{b:Addr}(I:Inv X pins σ H s) (hb:s.heap.objs.size≤b) (hn:H' b=none):zfi X pins H' b:=by
 refine⟨hn,Nat.ne_of_gt (Nat.lt_of_lt_of_le I.lt hb),I.nofs hb, .inr (Nat.le_trans I.sz hb),fun x c e z=>?_,fun p hp z=>?_⟩
 ·obtain⟨v,q⟩:=I.cell x c e;exact absurd (Nat.lt_of_lt_of_le q.lt (by rw [z];exact hb)) (Nat.lt_irrefl _)
 ·exact absurd (Nat.lt_of_lt_of_le (Heap.lt_size (I.pin p hp).1) (by rw [z];exact hb)) (Nat.lt_irrefl _)
structure Turn (P:Program) (w:World) (K:PySem.W.Frag) (tg:Expr) (J:It) (fp:List Addr) (it:Addr) (tn:Nat→Heap→Prop):Prop where
  mem:it∈fp
  obj:∀i h,tn i h→ ∀b∈fp,∃o,h.get? b=some o∧ ∀v,o.data≠ .cell v
  keep:∀i h h',tn i h→(∀b∈fp,∀o,h.get? b=some o→h'.get? b=some o)→tn i h'
  item:∀(X:Cx),X.prog=P→X.w=w→X.K=K→X.calm=true→ ∀(i:Nat) (pins:List (Addr×Obj)) (s:Shared) (σ:St) (H:Hp) (E:Value→Shared→Prop),Inv X pins σ H s→(∀b∈fp,zfi X pins H b)→tn i s.heap→J.go i H→
    wpAny (model P w) X.A (pyNext (.ref it)) (fun r s1=>∃u,r=some u∧
      wpAny (model P w) X.A (letOwnedTupleGo tg (.ref it) u) (fun _ s2=>∃x H',Inv X pins σ H' s2∧RelV x u∧J.yld i H x H'∧tn (i+1) s2.heap∧ ∀b∈fp,H' b=none) E s1) E s
  done:∀(X:Cx),X.prog=P→X.w=w→X.K=K→X.calm=true→ ∀(i:Nat) (pins:List (Addr×Obj)) (s:Shared) (σ:St) (H:Hp) (E:Value→Shared→Prop),Inv X pins σ H s→(∀b∈fp,zfi X pins H b)→tn i s.heap→J.stop i H→
    wpAny (model P w) X.A (pyNext (.ref it)) (fun r s1=>r=none∧Inv X pins σ H s1) E s
  self:∀(A:Around) (i:Nat) (s:Shared) (Q:Value→Shared→Prop) (E:Value→Shared→Prop),tn i s.heap→Q (.ref it) s→wpAny (model P w) A (pyIter (.ref it)) Q E s
noncomputable abbrev TI:=St→Hp→(It→Hp→Prop)→Prop
noncomputable def PIE (X:Cx) (pins:List (Addr×Obj)) (σ:St) (tg:Expr) (R:It→Hp→Prop) (itv:Value) (s2:Shared):Prop:=
 ∃(it:Addr) (fp:List Addr) (tn:Nat→Heap→Prop) (J:It) (H':Hp),itv= .ref it∧Inv X pins σ H' s2∧Turn X.prog X.w X.K tg J fp it tn∧tn 0 s2.heap∧(∀b∈fp,zfi X pins H' b)∧R J H'
noncomputable def PI (X:Cx) (tg iter:Expr) (wi:TI):Prop:=
 ∀(pins:List (Addr×Obj)) (s:Shared) (σ:St) (H:Hp) (R:It→Hp→Prop),Inv X pins σ H s→wi σ H R→
  wpAny (model X.prog X.w) X.A (eval iter X.env) (fun v s1=>wpAny (model X.prog X.w) X.A (pyIter v) (PIE X pins σ tg R) X.xe s1) X.xe s
theorem zjn{M:Model}{A:Around}{E:Value→Shared→Prop}{s:Shared}{tg:Expr}{it:Addr}{u:Value}{o:Obj}{n:String}{vs:Array Value}{Q:Unit→Shared→Prop}(ho:s.heap.get? it=some o) (hc:o.cls= .type n) (hd:o.data= .fields vs)
    (hn: ["enumerate", "zip", "dict_itemiterator", "dict_reverseitemiterator", "odict_iterator", "itertools.zip_longest", "itertools.pairwise"].contains n=false) (hQ:Q () s):wpAny M A (letOwnedTupleGo tg (.ref it) u) Q E s:=by
  unfold letOwnedTupleGo;cases tg<;>first
    |exact wpAny_pure hQ
    | (cases u<;>first
        |exact wpAny_pure hQ
        | (refine wpAny_bind (wpAny_load ho ?_)
           rw [hc,hd];show wpAny M A (if(["enumerate", "zip", "dict_itemiterator", "dict_reverseitemiterator", "odict_iterator", "itertools.zip_longest", "itertools.pairwise"].contains n&&vs[0]? == some (rawInt _))=true then _ else _) Q E s;rw [if_neg (by intro h;rw [hn,Bool.false_and]at h;cases h)];exact wpAny_pure hQ))
noncomputable def Itl (K:PySem.W.Frag) (a:Addr):It:=
 ⟨fun i H=>∃xs x,SqL K H a xs∧xs[i]? =some x,fun i H x H'=>H'=H∧ ∀xs,SqL K H a xs→xs[i]? =some x,fun i H=>∃xs,SqL K H a xs∧xs.length≤i⟩
noncomputable def Itt (K:PySem.W.Frag) (a:Addr):It:=
 ⟨fun i H=>∃xs x,SqT K H a xs∧xs[i]? =some x,fun i H x H'=>H'=H∧ ∀xs,SqT K H a xs→xs[i]? =some x,fun i H=>∃xs,SqT K H a xs∧xs.length≤i⟩
noncomputable def Itr (lo:Int) (n:Nat):It:=⟨fun i _=>i<n,fun i H x H'=>H'=H∧x= .int (lo+i),fun i _=>n≤i⟩
theorem zeF{P:Program}{w:World}{K:PySem.W.Frag}{tg:Expr}(a it:Addr):Turn P w K tg (Itl K a) [it] it (fun i h=>h.IsListIter it a i) where
  mem:=by simp
  obj:=fun i h st b hb=>by
    have e:b=it:=by simpa using hb
    subst e;obtain⟨o,e,c,d⟩:=st;exact⟨o,e,fun v z=>by rw [d]at z;cases z⟩
  keep:=fun i h h' st k=>st.at fun o e=>k it (by simp) o e
  item:=by
    intro X hP hw hK hc i pins s σ H E I hf st hg;subst hP hw hK;obtain⟨xs,x,hq,hx⟩:=hg;obtain⟨its,rv,p,hz⟩:=I.list hq;obtain⟨u,hu,ru⟩:=rv.get hx;obtain⟨f0,f1,f2,f3,f4,f5⟩:=hf it (by simp);refine wpAny_pyNext_list_item st p.isList (x:=u) (by simpa using hu) fun h' st' sb=>?_;have I1:Inv X pins σ H { s with heap:=h' }:=I.turned (t':=s.toks) (fun b o hb e=>(sb.2 b hb).trans e) f0 f1 f3 f4 f5;obtain⟨o,e,c,d⟩:=id st';exact⟨u,rfl,zjn (s:={ s with heap:=h' }) e c d (by decide) ⟨x,H,I1,ru,⟨rfl,fun ys hy=>by rw [I.list_inj hy hq];exact hx⟩,st',fun b hb=>(hf b hb).1⟩⟩
  done:=by
    intro X hP hw hK hc i pins s σ H E I hf st hg;subst hP hw hK;obtain⟨xs,hq,hx⟩:=hg;obtain⟨its,rv,p,hz⟩:=I.list hq;obtain⟨f0,f1,f2,f3,f4,f5⟩:=hf it (by simp);have hl:=rv.length;exact wpAny_pyNext_list_end (I.ok.hd hc) st p.isList (by simp;omega) fun h' eb=>⟨rfl,I.turned (t':=s.toks) (fun b o hb e=>eb b o hb e) f0 f1 f3 f4 f5⟩
  self:=fun _ _ _ _ _ st h=>wpAny_pyIter_listiter st h
theorem zgL{P:Program}{w:World}{K:PySem.W.Frag}{tg:Expr}(a it:Addr):Turn P w K tg (Itt K a) [it] it (fun i h=>h.IsTupleIter it a i) where
  mem:=by simp
  obj:=fun i h st b hb=>by
    have e:b=it:=by simpa using hb
    subst e;obtain⟨o,e,c,d⟩:=st;exact⟨o,e,fun v z=>by rw [d]at z;cases z⟩
  keep:=fun i h h' st k=>st.at fun o e=>k it (by simp) o e
  item:=by
    intro X hP hw hK hc i pins s σ H E I hf st hg;subst hP hw hK;obtain⟨xs,x,hq,hx⟩:=hg;obtain⟨its,rv,p,hz⟩:=I.tuple hq;obtain⟨u,hu,ru⟩:=rv.get hx;obtain⟨f0,f1,f2,f3,f4,f5⟩:=hf it (by simp);refine wpAny_pyNext_tuple_item st (show s.heap.IsTuple a its.toArray from p) (x:=u) (by simpa using hu) fun h' st' sb=>?_;have I1:Inv X pins σ H { s with heap:=h' }:=I.turned (t':=s.toks) (fun b o hb e=>(sb.2 b hb).trans e) f0 f1 f3 f4 f5;obtain⟨o,e,c,d⟩:=id st';exact⟨u,rfl,zjn (s:={ s with heap:=h' }) e c d (by decide) ⟨x,H,I1,ru,⟨rfl,fun ys hy=>by rw [I.tuple_inj hy hq];exact hx⟩,st',fun b hb=>(hf b hb).1⟩⟩
  done:=by
    intro X hP hw hK hc i pins s σ H E I hf st hg;subst hP hw hK;obtain⟨xs,hq,hx⟩:=hg;obtain⟨its,rv,p,hz⟩:=I.tuple hq;obtain⟨f0,f1,f2,f3,f4,f5⟩:=hf it (by simp);have hl:=rv.length;exact wpAny_pyNext_tuple_end (I.ok.hd hc) st (show s.heap.IsTuple a its.toArray from p) (by simp;omega) fun h' eb=>⟨rfl,I.turned (t':=s.toks) (fun b o hb e=>eb b o hb e) f0 f1 f3 f4 f5⟩
  self:=fun _ _ _ _ _ st h=>wpAny_pyIter_tupleiter st h
theorem zgK{P:Program}{w:World}{K:PySem.W.Frag}{tg:Expr}(it:Addr) (lo:Int) (n:Nat):Turn P w K tg (Itr lo n) [it] it (fun i h=>IsRangeIter h it (lo+(i:Nat)*1) ((n:Int) - (i:Nat)) 1) where
  mem:=by simp
  obj:=fun i h st b hb=>by
    have e:b=it:=by simpa using hb
    subst e;exact⟨_,st,fun v z=>by
      have z':Data.fields _=Data.cell v:=z;cases z'⟩
  keep:=fun i h h' st k=>k it (by simp) _ st
  item:=by
    intro X hP hw hK hc i pins s σ H E I hf st hg;subst hP hw hK;obtain⟨f0,f1,f2,f3,f4,f5⟩:=hf it (by simp);have W:=Walks.range (prog:=X.prog) (w:=X.w) (I.ok.hd hc) it lo 1 n;refine W.item i s _ _ hg st fun v h' tk hv st' kk=>?_;obtain⟨t,rfl⟩:=hv;have I1:Inv X pins σ H { s with heap:=h',toks:=tk }:=I.turned (fun b o hb e=>kk b o (by simpa using hb) e) f0 f1 f3 f4 f5;refine⟨_,rfl,zjn (s:={ s with heap:=h',toks:=tk }) (n:= "range_iterator") st' rfl rfl (by decide) ⟨.int (lo+i),H,I1,⟨t,?_⟩,⟨rfl,rfl⟩,st',fun b hb=>(hf b hb).1⟩⟩;rw [Int.mul_one]
  done:=by
    intro X hP hw hK hc i pins s σ H E I hf st hg;subst hP hw hK;obtain⟨f0,f1,f2,f3,f4,f5⟩:=hf it (by simp);exact wpAny_pyNext_range_end (I.ok.hd hc) st (by have:n≤i:=hg;omega) fun h' eb=>⟨rfl,I.turned (t':=s.toks) (fun b o hb e=>eb b o hb e) f0 f1 f3 f4 f5⟩
  self:=fun _ _ _ _ _ st h=>wpAny_pyIter_rangeiter st h
section
variable {X:Cx}{tg:Expr}
noncomputable def zoX (K:PySem.W.Frag) (tl:TE):TI:=fun σ H R=>tl σ H fun x H1=>∃a,x= .ref a∧(∃xs,SqL K H1 a xs)∧R (Itl K a) H1
theorem zld{l:Expr}{tl:TE}(hl:PE X l tl):PI X tg l (zoX X.K tl):=by
 intro pins s σ H R I h;refine thn (hl pins s σ H _ I h) fun v s1 ⟨x,H1,I1,r1,q1⟩=>?_;obtain⟨a,e,⟨xs,hq⟩,q⟩:=q1;subst e;cases r1;obtain⟨its,rv,p,hz⟩:=I1.list hq;refine wpAny_pyIter_list p.isList ?_;refine⟨s1.heap.objs.size,[s1.heap.objs.size],_,_,H1,rfl,I1.kept (t':=s1.toks) fun b o e=>Heap.get?_push_of_some _ e,zeF a _,⟨_,Heap.get?_push_size _ rfl,rfl,rfl⟩,fun b hb=>?_,q⟩;have e:b=s1.heap.objs.size:=by simpa using hb
 subst e;exact I1.fpOk (Nat.le_refl _) (I1.hok.fresh (Nat.le_refl _))
theorem zjr{pins:List (Addr×Obj)}{σ:St}{H:Hp}{s:Shared}{R:It→Hp→Prop}{E:Value→Shared→Prop}{lo hi:Int}{t u v:Tok}{tk:Nat}(I:Inv X pins σ H s) (h1: -(2 ^ 62)≤lo) (h2:lo<2 ^ 62) (h3: -(2 ^ 62)≤hi) (h4:hi<2 ^ 62)
  (q:R (Itr lo (hi - lo).toNat) H):wpAny (model X.prog X.w) X.A (pyIter (.ref s.heap.objs.size)) (PIE X pins σ tg R) E { s with heap:=s.heap.push { cls:= .type "range",data:= .fields #[.int lo t, .int hi u, .int 1 v] },toks:=tk }:=by
 refine wpAny_pyIter_range (IsRange.new ..) (small_one h1 h2 h3 h4) ?_;have I1:Inv X pins σ H { s with heap:=s.heap.push { cls:= .type "range",data:= .fields #[.int lo t, .int hi u, .int 1 v] },toks:=tk }:=I.kept fun b o e=>Heap.get?_push_of_some _ e;refine⟨(s.heap.push { cls:= .type "range",data:= .fields #[.int lo t, .int hi u, .int 1 v] }).objs.size,[(s.heap.push { cls:= .type "range",data:= .fields #[.int lo t, .int hi u, .int 1 v] }).objs.size],_,_,H,rfl,
  I1.kept (t':=tk) fun b o e=>Heap.get?_push_of_some _ e,zgK _ lo (hi - lo).toNat,?_,fun b hb=>?_,q⟩
 ·have e1:lo+((0:Nat):Int)*1=lo:=by simp
  have e2:(((hi - lo).toNat:Nat):Int) - ((0:Nat):Int)=Builtin.Range.rangeSize lo hi 1:=by rw [rangeSize_one];split<;>omega
  show IsRangeIter _ _ (lo+((0:Nat):Int)*1) ((((hi - lo).toNat:Nat):Int) - ((0:Nat):Int)) 1;rw [e1,e2];exact Heap.get?_push_size _ rfl
 ·have e:b=(s.heap.push { cls:= .type "range",data:= .fields #[.int lo t, .int hi u, .int 1 v] }).objs.size:=by simpa using hb
  subst e;exact I1.fpOk (Nat.le_refl _) (I1.hok.fresh (Nat.le_refl _))
noncomputable def zoP (ta:TA):TI:=fun σ H R=>ta σ H fun vs H1=>∃j:Int,vs=[.int j]∧ -(2 ^ 62)≤j∧j<2 ^ 62∧R (Itr 0 j.toNat) H1
theorem ziw{a:Expr}{ta:TA}{p pos:Pos}(hg:Gl X "range") (hm:X.mg "range" =none) (ha:PA X [a] ta) (hs:starEach [a] X.env=[(false,eval a X.env)]:=by rfl):PI X tg (.Call (.Name "range" p) [a] [] pos) (zoP ta):=by
 intro pins s σ H R I h;refine Call_ (zff I hg hm boot_range (PyProof.Rows.callWith_type1 (thn (ha pos pins s σ H _ I h) fun us s1 ⟨vs,H1,I1,r1,q1⟩=>?_) hs rfl));obtain⟨j,e,q1,q2,q⟩:=q1;subst e;cases r1 with
 |cons r rr=>
  cases rr;obtain⟨t,rfl⟩:=r;exact call_range_1 (zjr I1 (by omega) (by omega) q1 q2 (by simpa using q))
noncomputable def zqr (wi:TI) (g:TG) (tb:TS):TS:=fun D σ H=>wi σ H fun J H1=>∃W:Nat→Nat→St→Hp→Prop,(∃m,W 0 m σ H1)∧ ∀i m σ H,W i m σ H→
 (J.stop i H∧D.nx σ H)∨(J.go i H∧ ∃N:St→Hp→Prop,(∀σ' H',N σ' H'→ ∃m',m'<m∧W (i+1) m' σ' H')∧ ∀x H',J.yld i H x H'→g x σ H' fun σ2 H2=>tb { D with nx:=N,ct:=N,bk:=D.nx } σ2 H2)
noncomputable def zeH (fp:List Addr) (h:Heap):List (Addr×Obj):=fp.filterMap fun b=>(h.get? b).map fun o=>(b,o)
theorem zbN{fp:List Addr}{h:Heap}{b:Addr}{o:Obj}(hb:b∈fp) (e:h.get? b=some o):(b,o)∈zeH fp h:=List.mem_filterMap.mpr ⟨b,hb,by rw [e];rfl⟩
theorem zhi{fp:List Addr}{h:Heap}{p:Addr×Obj}(hp:p∈zeH fp h):p.1∈fp∧h.get? p.1=some p.2:=by
 obtain⟨b,hb,e⟩:=List.mem_filterMap.mp hp;cases q:h.get? b with
 |none=>rw [q]at e;cases e
 |some o=>
  rw [q]at e;have e':(b,o)=p:=Option.some.inj e;subst e';exact⟨hb,q⟩
theorem Inv.pinned{pins:List (Addr×Obj)}{σ:St}{H:Hp}{s:Shared}{fp:List Addr}(I:Inv X pins σ H s) (hf:∀b∈fp,zfi X pins H b) (ho:∀b∈fp,∃o,s.heap.get? b=some o∧ ∀v,o.data≠ .cell v):Inv X (pins++zeH fp s.heap) σ H s:=
 I.pins_of fun p hp=>(List.mem_append.mp hp).elim (fun z=>I.pin p (List.mem_append_right _ z)) fun z=>by
  obtain⟨hb,e⟩:=zhi z;obtain⟨f0,f1,f2,_⟩:=hf p.1 hb;obtain⟨o,e',d⟩:=ho p.1 hb;rw [e]at e';cases e';exact⟨e,f0,f1,f2,d⟩
theorem Inv.unpinned{pins pl:List (Addr×Obj)}{σ:St}{H:Hp}{s:Shared}(I:Inv X (pins++pl) σ H s):Inv X pins σ H s:=I.pins_of fun p hp=>I.pin p (List.mem_append_right _ (List.mem_append_left _ hp))
theorem zmc{iter:Expr}{body:List Stmt}{wi:TI}{g:TG}{tb:TS}{pos:Pos}(hp:PassesOwn (model X.prog X.w) X.A X.env X.xe) (hc:X.calm=true) (hi:PI X tg iter wi) (hg:PG X tg g) (hb:PSs X body tb)
  (hs:∀x,foldedSetIterable iter X.env x=pure x:=by intro _;rfl):PS X (.For tg iter body [] pos) (zqr wi g tb):=by
 intro pins s σ H D I h;refine wpAny_For (thn (hi pins s σ H _ I h) fun v s1 h1=>thn h1 fun itv s2 h2=>?_) hs;obtain⟨it,fp,tn,J,H2,e,I2,T,st2,f2,W,⟨m0,w0⟩,turn⟩:=h2;subst e;have stat:∀{H':Hp},(∀b∈fp,H' b=none)→ ∀b∈fp,zfi X pins H' b:=fun hn b hb=>⟨hn b hb,(f2 b hb).2⟩;refine codeAny_forLoop_any (fun n s'=>∃i σ' H',Inv X pins σ' H' s'∧tn i s'.heap∧(∀b∈fp,H' b=none)∧W i n σ' H') ?_ m0 ⟨0,σ,H2,I2,st2,fun b hb=>(f2 b hb).1,w0⟩;rintro n s3 ⟨i,σ3,H3,I3,st3,fr3,w3⟩;rcases turn i n σ3 H3 w3 with⟨stop,qn⟩ |⟨go,N,hN,step⟩
 ·refine wpAny_passesOwn hp (thn (T.done X rfl rfl rfl hc i pins s3 σ3 H3 X.xe I3 (stat fr3) st3 stop) fun r s4 ⟨hr,I4⟩=>?_);subst hr;exact wpAny_execs_nil ⟨σ3,H3,I4,qn⟩
 ·refine wpAny_passesOwn hp (thn (T.item X rfl rfl rfl hc i pins s3 σ3 H3 X.xe I3 (stat fr3) st3 go) fun r s4 ⟨u,hr,h4⟩=>?_);subst hr;refine wpAny_passesOwn hp (thn h4 fun _ s5 ⟨x,H5,I5,r5,y5,st5,fr5⟩=>?_);have I5':=I5.pinned (stat fr5) (T.obj _ _ st5);refine wpAny_passesOwn hp (thn (hg _ s5 σ3 H5 x u _ I5' r5 (step x H5 y5)) fun _ s6 ⟨σ6,H6,I6,q6⟩=>?_);refine wpAny_passesOwn hp (thn (hb _ s6 σ6 H6 _ I6 q6) fun f s7 q7=>?_);have again:∀{σ7:St}{H7:Hp},Inv X (pins++zeH fp s5.heap) σ7 H7 s7→N σ7 H7→ ∃m,m<n∧ ∃i σ' H',Inv X pins σ' H' s7∧tn i s7.heap∧(∀b∈fp,H' b=none)∧W i m σ' H':=fun {σ7 H7} I7 n7=>by
   obtain⟨m',hm,w7⟩:=hN σ7 H7 n7;refine⟨m',hm,i+1,σ7,H7,I7.unpinned,T.keep _ _ _ st5 fun b hb o e=>(I7.pin (b,o) (List.mem_append_right _ (List.mem_append_right _ (zbN hb e)))).1,fun b hb=>?_,w7⟩;obtain⟨o,e,d⟩:=T.obj _ _ st5 b hb;exact(I7.pin (b,o) (List.mem_append_right _ (List.mem_append_right _ (zbN hb e)))).2.1
  cases f with
  |next=>obtain⟨σ7,H7,I7,n7⟩:=q7;exact again I7 n7
  |cont=>obtain⟨σ7,H7,I7,n7⟩:=q7;exact again I7 n7
  |brk=>obtain⟨σ7,H7,I7,q7⟩:=q7;exact⟨σ7,H7,I7.unpinned,q7⟩
  |ret v=>obtain⟨x7,σ7,H7,I7,r7,q7⟩:=q7;exact⟨x7,σ7,H7,I7.unpinned,r7,q7⟩
end
noncomputable abbrev R2:=V→V→Hp→VK→Prop
noncomputable def OpR (X:Cx) (f:Value→Value→Sem Value) (r:R2):Prop:=
 ∀(pins:List (Addr×Obj)) (s:Shared) (σ:St) (H:Hp) (x y:V) (v u:Value) (Q:VK),Inv X pins σ H s→RelV x v→RelV y u→r x y H Q→
  wpAny (model X.prog X.w) X.A (f v u) (EP X pins σ Q) X.xe s
noncomputable def CallR (X:Cx) (f:Value) (r:List V→Hp→VK→Prop):Prop:=
 ∀(pins:List (Addr×Obj)) (s:Shared) (σ:St) (H:Hp) (xs:List V) (us:List Value) (Q:VK),Inv X pins σ H s→Vals xs us→r xs H Q→
  wpAny (model X.prog X.w) X.A (call f us) (EP X pins σ Q) X.xe s
noncomputable def zqh (X:Cx) (r:V→Hp→(Bool→Hp→Prop)→Prop):Prop:=
 ∀(pins:List (Addr×Obj)) (s:Shared) (σ:St) (H:Hp) (x:V) (v:Value) (Q:Bool→Hp→Prop),Inv X pins σ H s→RelV x v→r x H Q→
  wpAny (model X.prog X.w) X.A (truthy v) (TP X pins σ Q) X.xe s
noncomputable def tOp (r:R2) (ta tb:TE):TE:=fun σ H Q=>ta σ H fun x H1=>tb σ H1 fun y H2=>r x y H2 Q
noncomputable def rI (C:Int→Int→Prop) (g:Int→Int→V):R2:=fun x y H Q=>∃i j,x= .int i∧y= .int j∧C i j∧Q (g i j) H
noncomputable def rI0 (g:Int→Int→V):R2:=fun x y H Q=>∃i j,x= .int i∧y= .int j∧Q (g i j) H
section
variable {X:Cx}{a b:Expr}{ta tb:TE}{pos:Pos}
theorem zph (ha:PE X a ta) (hb:PE X b tb) {pins:List (Addr×Obj)}{s:Shared}{σ:St}{H:Hp}{R:V→V→Hp→Prop}(I:Inv X pins σ H s)
  (h:ta σ H fun x H1=>tb σ H1 fun y H2=>R x y H2) {Q:Value→Shared→Prop}{f:Value→Value→Sem Value}
  (hf:∀v u s2 x y H2,Inv X pins σ H2 s2→RelV x v→RelV y u→R x y H2→wpAny (model X.prog X.w) X.A (f v u) Q X.xe s2) :
  wpAny (model X.prog X.w) X.A (eval a X.env) (fun v s₁=>wpAny (model X.prog X.w) X.A (eval b X.env) (fun u s₂=>wpAny (model X.prog X.w) X.A (f v u) Q X.xe s₂) X.xe s₁) X.xe s:=by
 refine thn (ha pins s σ H _ I h) fun v s1 ⟨x,H1,I1,r1,q1⟩=>?_;refine thn (hb pins s1 σ H1 _ I1 q1) fun u s2 ⟨y,H2,I2,r2,q2⟩=>?_;exact hf v u s2 x y H2 I2 r1 r2 q2
theorem zln{op:Operator}{r:R2}(ho:OpR X (binaryOp op) r) (ha:PE X a ta) (hb:PE X b tb):PE X (.BinOp a op b pos) (tOp r ta tb):=by
 intro pins s σ H Q I h;exact wpAny_BinOp (zph ha hb I h fun v u s2 x y H2 I2 rx ry q=>ho pins s2 σ H2 x y v u Q I2 rx ry q)
theorem opI{f:Value→Value→Sem Value}{C:Int→Int→Prop}{g:Int→Int→Int}
  (rule:∀(i j:Int) (t u:Tok) (s:Shared) (Q:Value→Shared→Prop) (E:Value→Shared→Prop),C i j→Q (.int (g i j) s.toks) { s with toks:=s.toks+1 }→wpAny (model X.prog X.w) X.A (f (.int i t) (.int j u)) Q E s) :
  OpR X f (rI C fun i j=> .int (g i j)):=by
 intro pins s σ H x y v u Q I rx ry h;obtain⟨i,j,rfl,rfl,hc,q⟩:=h;obtain⟨t,rfl⟩:=rx;obtain⟨t',rfl⟩:=ry;exact rule i j t t' s _ _ hc ⟨.int (g i j),H,I.tok _,⟨_,rfl⟩,q⟩
theorem zpD{f:Value→Value→Sem Value}{g:Int→Int→Int}
  (rule:∀(i j:Int) (t u:Tok) (s:Shared) (Q:Value→Shared→Prop) (E:Value→Shared→Prop),Q (.int (g i j) s.toks) { s with toks:=s.toks+1 }→wpAny (model X.prog X.w) X.A (f (.int i t) (.int j u)) Q E s) :
  OpR X f (rI0 fun i j=> .int (g i j)):=by
 intro pins s σ H x y v u Q I rx ry h;obtain⟨i,j,rfl,rfl,q⟩:=h;obtain⟨t,rfl⟩:=rx;obtain⟨t',rfl⟩:=ry;exact rule i j t t' s _ _ ⟨.int (g i j),H,I.tok _,⟨_,rfl⟩,q⟩
theorem zpF{f:Value→Value→Sem Value}{g:Int→Int→Bool}
  (rule:∀(i j:Int) (t u:Tok) (s:Shared) (Q:Value→Shared→Prop) (E:Value→Shared→Prop),Q (.bool (g i j)) s→wpAny (model X.prog X.w) X.A (f (.int i t) (.int j u)) Q E s) :
  OpR X f (rI0 fun i j=> .bl (g i j)):=by
 intro pins s σ H x y v u Q I rx ry h;obtain⟨i,j,rfl,rfl,q⟩:=h;obtain⟨t,rfl⟩:=rx;obtain⟨t',rfl⟩:=ry;exact rule i j t t' s _ _ ⟨.bl (g i j),H,I,rfl,q⟩
noncomputable def zls (i j:Int):Prop:=0<j∧j<1073741824
noncomputable def zom (i j:Int):Prop:=0≤j∧j≤1000000∧i.natAbs<2 ^ 64
noncomputable def CMul (i j:Int):Prop:=(-(2 ^ 64)<i∧i<2 ^ 64)∨(-(2 ^ 64)<j∧j<2 ^ 64)
theorem CMul.ok{i j:Int}(h:CMul i j):IntMulOk i j:=by
 rcases h with⟨h1,h2⟩ |⟨h1,h2⟩
 ·exact .of_left (intBits_le_64 h1 h2)
 ·exact .of_right (intBits_le_64 h1 h2)
theorem op_add:OpR X (binaryOp .Add) (rI0 fun i j=> .int (i+j)):=zpD fun _ _ _ _ _ _ _ q=>add_int q
theorem znI:OpR X (binaryOp .Sub) (rI0 fun i j=> .int (i - j)):=zpD fun _ _ _ _ _ _ _ q=>sub_int q
theorem zmH:OpR X (binaryOp .Mult) (rI CMul fun i j=> .int (i*j)):=opI fun _ _ _ _ _ _ _ hc q=>mul_int q hc.ok
theorem zkv:OpR X (binaryOp .FloorDiv) (rI zls fun i j=> .int (i / j)):=opI fun i j _ _ _ _ _ hc q=>by
 have h1:(0:Int)<j:=hc.1;have h2:j<1073741824:=hc.2;exact floordiv_int (by omega) (by rw [Int.fdiv_eq_ediv_of_nonneg i (by omega)];exact q) (.inl (PyProof.noPylong_small (by omega)))
theorem znB:OpR X (binaryOp .Mod) (rI (fun _ j=>0<j) fun i j=> .int (i % j)):=opI fun i j _ _ _ _ _ hc q=>by
 have h1:(0:Int)<j:=hc;exact mod_int' (by omega) (by rw [Int.fmod_eq_emod_of_nonneg i (by omega)];exact q)
theorem zmE:OpR X (binaryOp .Pow) (rI zom fun i j=> .int (i ^ j.toNat)):=opI fun _ _ _ _ _ _ _ hc q=>pow_int_small hc.1 hc.2.1 hc.2.2 q
end
section
variable {X:Cx}{a b c:Expr}{ta tb:TE}{pos:Pos}
theorem zma{pins:List (Addr×Obj)}{σ:St}{H:Hp}{s:Shared}{Q:VK}{k k':Bool}(I:Inv X pins σ H s) (q:Q (.bl k) H) (e:k=k'):EP X pins σ Q (.bool k') s:=by
 subst e;exact⟨.bl k,H,I,rfl,q⟩
theorem zov:OpR X (compareOp .Lt) (rI0 fun i j=> .bl (decide (i<j))):=zpF fun _ _ _ _ _ _ _ q=>lt_int q
theorem zps:OpR X (compareOp .Gt) (rI0 fun i j=> .bl (decide (j<i))):=zpF fun _ _ _ _ _ _ _ q=>gt_int q
theorem op_isN:OpR X (compareOp .Is) (fun x y H Q=>y= .non∧Q (.bl (decide (x= .non))) H):=by
 intro pins s σ H x y v u Q I rx ry h;obtain⟨rfl,q⟩:=h;cases ry;refine is_none_gen (zma I q ?_);cases x<;>first
  | (cases rx;rfl)
  | (obtain⟨t,rfl⟩:=rx;rfl)
theorem OpR.or{f:Value→Value→Sem Value}{r r':R2}(h:OpR X f r) (h':OpR X f r'):OpR X f (fun x y H Q=>r x y H Q∨r' x y H Q):=by
 intro pins s σ H x y v u Q I rx ry q;rcases q with q |q
 ·exact h pins s σ H x y v u Q I rx ry q
 ·exact h' pins s σ H x y v u Q I rx ry q
theorem nomark (b:Expr) {op:CmpOp}(h:op≠ .In:=by decide) (h2:op≠ .NotIn:=by decide):behindInMarks op b=false:=by
 have e1:(op == CmpOp.In)=false:=by cases op<;>first |rfl |exact absurd rfl h
 have e2:(op == CmpOp.NotIn)=false:=by cases op<;>first |rfl |exact absurd rfl h2
 cases b<;>simp [behindInMarks,e1,e2]
theorem zlb{op:CmpOp}{r:R2}(ho:OpR X (compareOp op) r) (ha:PE X a ta) (hb:PE X b tb) (hm:behindInMarks op b=false):PE X (.Compare a [op] [b] pos) (tOp r ta tb):=by
 intro pins s σ H Q I h;exact wpAny_Compare1 (zph ha hb I h fun v u s2 x y H2 I2 rx ry q=>ho pins s2 σ H2 x y v u Q I2 rx ry q) hm
noncomputable def zpa (t:TE):TT:=fun σ H Q=>t σ H fun x H'=>∃k,x= .bl k∧Q k H'
theorem zkx{op:CmpOp}{r:R2}(ho:OpR X (compareOp op) r) (ha:PE X a ta) (hb:PE X b tb) (hm:behindInMarks op b=false):PT X (.Compare a [op] [b] pos) (zpa (tOp r ta tb)):=by
 intro pins s σ H Q I h;refine wpAny_isTrue_Compare1 (thn (ha pins s σ H _ I h) fun v s1 ⟨x,H1,I1,r1,q1⟩=>thn (hb pins s1 σ H1 _ I1 q1) fun u s2 ⟨y,H2,I2,r2,q2⟩=>
  thn (ho pins s2 σ H2 x y v u _ I2 r1 r2 q2) fun c s3 ⟨z,H3,I3,r3,k,e,q3⟩=>?_) hm
 subst e;cases r3;exact wpAny_truthy_bool ⟨H3,I3,q3⟩
noncomputable def zoQ (K:PySem.W.Frag) (x:V) (H:Hp) (k:Bool):Prop:=
 match x with
 | .non=>k=false
 | .bl b=>k=b
 | .int i=>k=(i != 0)
 | .str y=>y.length≤sizeLine∧k=((y.length:Int) != 0)
 | .byt y=>y.size≤sizeLine∧k=((y.size:Int) != 0)
 | .ref p=>(∃xs,SqL K H p xs∧k= !xs.isEmpty)∨(∃xs,SqT K H p xs∧k= !xs.isEmpty)∨ ∃kvs,H p=some (.dK kvs)∧k= !kvs.isEmpty
 |_=>False
theorem zgz{κ:Type}{kvs:List (κ×V)}{vs:List (κ×Value)}(r:KV kvs vs):(!vs.isEmpty)= !kvs.isEmpty:=by
 cases r<;>rfl
theorem zdH{xs:List V}{its:List Value}(r:Vals xs its):(!its.toArray.isEmpty)= !xs.isEmpty:=by
 cases r<;>simp
theorem zdu:(sizeLine:Nat)<2 ^ 63:=by rw [sizeLine_eq];decide
theorem znk:zqh X (fun x H Q=>∃k,zoQ X.K x H k∧Q k H):=by
 intro pins s σ H x v Q I rx h;obtain⟨k,e,q⟩:=h;have hl:=zdu;have hs:sizeLine=16777216:=sizeLine_eq;cases x with
 |non=>
  cases rx;have e':k=false:=e;subst e';exact truthy_none ⟨H,I,q⟩
 |bl b=>
  cases rx;have e':k=b:=e;subst e';exact wpAny_truthy_bool ⟨H,I,q⟩
 |int i=>
  obtain⟨t,rfl⟩:=rx;have e':k=(i != 0):=e;subst e';exact PySem.P.truthy_int ⟨H,I,q⟩
 |str y=>
  obtain⟨t,rfl⟩:=rx;obtain⟨hy,e'⟩:y.length≤sizeLine∧k=((y.length:Int) != 0):=e;subst e';exact PySem.P.truthy_str (by omega) ⟨H,I.tok _,q⟩
 |byt y=>
  obtain⟨t,rfl⟩:=rx;obtain⟨hy,e'⟩:y.size≤sizeLine∧k=((y.size:Int) != 0):=e;subst e';exact PySem.W.truthy_bytes (by omega) ⟨H,I.tok _,q⟩
 |ref p=>
  cases rx;have e':(∃xs,SqL X.K H p xs∧k= !xs.isEmpty)∨(∃xs,SqT X.K H p xs∧k= !xs.isEmpty)∨ ∃kvs,H p=some (.dK kvs)∧k= !kvs.isEmpty:=e;rcases e' with⟨xs,hx,e'⟩ |⟨xs,hx,e'⟩ |⟨kvs,hx,e'⟩
  ·subst e';obtain⟨its,r,pl,hz⟩:=I.list hx;have hlen:=r.length;exact wpAny_truthy_list pl.isList (by simp only[List.size_toArray];omega) ⟨H,I.tok _,by rw [zdH r];exact q⟩
  ·subst e';obtain⟨its,r,pl,hz⟩:=I.tuple hx;have hlen:=r.length;exact truthy_tuple pl (by simp only[List.size_toArray];omega) ⟨H,I.tok _,by rw [zdH r];exact q⟩
  ·subst e';obtain⟨hz,hS,vs,r,m⟩:kvs.length≤sizeLine∧(p == sysModules)=false∧ ∃vs,KV kvs vs∧s.heap.DictOf (zfn X.prog X.w) p vs:=I.hok p _ hx;have hlen:kvs.length=vs.length:=Paired.length r;exact wpAny_truthy_dict hS m (by omega) ⟨H,I.tok _,by rw [zgz r];exact q⟩
 |_=>exact(show False from e).elim
theorem zjb (ha:PE X a ta) (he:∀whole,isTrue a X.env whole=(do let v ←whole;standAt a.pos;holding [v] (truthy v))) :
  PT X a (fun σ H Q=>ta σ H fun x H'=>∃k,zoQ X.K x H' k∧Q k H'):=by
 intro pins s σ H Q I h;exact isTrue_plain (thn (ha pins s σ H _ I h) fun v s1 ⟨x,H1,I1,r1,q1⟩=>znk pins s1 σ H1 x v Q I1 r1 q1) (he _)
theorem op_add_str:OpR X (binaryOp .Add) (fun x y H Q=>∃i j,x= .str i∧y= .str j∧i.length+j.length≤sizeLine∧Q (.str (i++j)) H):=by
 intro pins s σ H x y v u Q I rx ry h;obtain⟨i,j,rfl,rfl,hz,q⟩:=h;obtain⟨t,rfl⟩:=rx;obtain⟨t',rfl⟩:=ry;exact add_str (fun t' tk=>⟨.str (i++j),H,I.tok _,⟨_,rfl⟩,q⟩) hz
theorem zfu{x:V}{us:List Value}(r:Vals [x] us):∃u,us=[u]∧RelV x u:=by
 cases r with
 |cons r1 r2=>cases r2;exact⟨_,rfl,r1⟩
theorem zpv{x y:V}{us:List Value}(r:Vals [x,y] us):∃u w',us=[u,w']∧RelV x u∧RelV y w':=by
 cases r with
 |cons r1 r2=>
  cases r2 with
  |cons r3 r4=>cases r4;exact⟨_,_,rfl,r1,r3⟩
theorem zhv:CallR X (.type "int") (fun xs H Q=>(∃i,xs=[.int i]∧Q (.int i) H)∨ ∃k,xs=[.bl k]∧Q (.int (if k then 1 else 0)) H):=by
 intro pins s σ H xs us Q I r h;rcases h with⟨i,rfl,q⟩ |⟨k,rfl,q⟩
 ·obtain⟨u,rfl,t,rfl⟩:=zfu r;exact call_int_int ⟨.int i,H,I,⟨_,rfl⟩,q⟩
 ·obtain⟨u,rfl,r1⟩:=zfu r;cases r1;exact call_int_bool ⟨.int (if k then 1 else 0),H,I.tok _,⟨_,rfl⟩,q⟩
end
structure ObjM (h:Heap) (x dx C:Addr) (mA:Str→Option Value):Prop where
  obj:h.get? x=some (PySem.W.instObj C dx)
  ns:h.Ns1 dx mA
  ne:dx≠x
theorem zhx{h:Heap}{dx:Addr}{mA:Str→Option Value}(n:h.Ns1 dx mA):∃od,h.get? dx=some od∧ ∀name,PySem.W.lookIn name od=some (mA name):=by
 obtain⟨o,es,ep,ho,hd,hk,_,hm⟩:=n;refine⟨o,ho,fun name=>?_⟩;have e:=hm name;unfold nsFind findBy at e;rw [←Array.find?_toList]at e;unfold PySem.W.lookIn;rw [hd];dsimp only;split
 ·rename_i y q;rw [q]at e;exact congrArg some e
 ·rename_i q;rw [q]at e;have a:es.toList.any (·.refKey)=false:=by
   rw [List.any_eq_false];intro y hy;obtain⟨z,t,hkey⟩:=hk y (Array.mem_toList_iff.mp hy);simp [DictEntry.refKey,hkey]
  have a':¬es.toList.any (·.refKey)=true:=by rw [a];exact Bool.false_ne_true
  rw [if_neg a'];exact congrArg some e
theorem ObjM.look{h:Heap}{x dx C:Addr}{mA:Str→Option Value}(I:ObjM h x dx C mA):∃od,PySem.W.InstAt h x (PySem.W.instObj C dx) C (some od)∧ ∀name,PySem.W.lookIn name od=some (mA name):=
 let ⟨od,ho,hl⟩:=zhx I.ns
 ⟨od,⟨I.obj,rfl,rfl,ho⟩,hl⟩
section
variable {P:Program}{w:World}{H:Hp}{h:Heap}{a C dx:Addr}{fs:List (Str×V)}
theorem zlo (hok:HOk P w H h) (e:H a=some (.ins C dx fs)):∃mA,ObjM h a dx C mA∧(∀f,RelO (fs.lookup f) (mA f))∧PySem.Within mA (fs.map (·.1))∧fs.length≤1000∧H dx=some (.own a):=by
 obtain⟨d,z,ne,ob,mA,n,r,q⟩:=(show ObjOk P w H h a (.ins C dx fs) from hok a _ e);exact⟨mA,⟨ob,n,ne⟩,r,q,z,d⟩
end
structure Cls (K:PySem.W.Frag) (C:Addr):Prop where
  pg:PySem.W.plainGet K C Str.empty=true
  hd:PySem.W.hasDictIn K C=true
  po:PySem.W.plainOver K C=true
  sa:PySem.W.findIn K (.ref C) "__setattr__" =some (some (.builtin "object.__setattr__"))
theorem Cls.get{K:PySem.W.Frag}{C:Addr}(c:Cls K C) (f:Str):PySem.W.plainGet K C f=true:=c.pg
section
variable {X:Cx}{pins:List (Addr×Obj)}{σ:St}{H:Hp}{s:Shared}{A:Around}{E:Value→Shared→Prop}{Q:Value→Shared→Prop}{c:Value}{b:Bool}
inductive TyOf (K:PySem.W.Frag) (H:Hp):V→Value→Prop where
  |non:TyOf K H .non (.type "NoneType")
  |bl (x:Bool):TyOf K H (.bl x) (.type "bool")
  |int (i:Int):TyOf K H (.int i) (.type "int")
  |str (x:Str):TyOf K H (.str x) (.type "str")
  |flt (x:UInt64):TyOf K H (.flt x) (.type "float")
  |lst {a:Addr}{xs:List V}(e:H a=some (.lst xs)):TyOf K H (.ref a) (.type "list")
  |frz {a:Addr}{o:Obj}{xs:List V}(e:H a=some (.frz o (.lst xs))):TyOf K H (.ref a) (.type "list")
  |tup {a:Addr}{xs:List V}(e:H a=some (.tup xs)):TyOf K H (.ref a) (.type "tuple")
  |dK {a:Addr}{kvs:List (Key×V)}(e:H a=some (.dK kvs)):TyOf K H (.ref a) (.type "dict")
  |dT {a:Addr}{kvs:List (List Key×V)}(e:H a=some (.dT kvs)):TyOf K H (.ref a) (.type "dict")
  |ins {a C dx:Addr}{fs:List (Str×V)}(e:H a=some (.ins C dx fs)) (cl:Cls K C) (ha:PySem.W.findIn K (.ref C) "__class__" =some (some (.builtin "object.__class__")))
      (hn:PySem.W.specialIn K (.builtin "object.__class__") "__get__" =some (some (.builtin "getset_descriptor.__get__"))) (htk:PySem.W.takesIn K (.builtin "object.__class__")=some true)
      (hm:PySem.W.mroIn K C (.type "object")=some true):TyOf K H (.ref a) (.ref C)
theorem zgS{x:V}{u t:Value}(I:Inv X pins σ H s) (rx:RelV x u) (ty:TyOf X.K H x t) (e:PySem.W.kitOne X.K t c=some b) (h:∀tk,Q (.bool b) { s with toks:=tk }) :
  wpAny (model X.prog X.w) A (call (.builtin "isinstance") [u,c]) Q E s:=by
 cases ty with
 |non=>cases(show u=Value.none from rx);exact PySem.W.kia_one PySem.W.kitx_none I.kIn True.intro e (fun z=>nomatch z) h
 |bl y=>cases(show u=Value.bool y from rx);exact PySem.W.kia_one PySem.W.kitx_bool I.kIn True.intro e (fun z=>nomatch z) h
 |int i=>obtain⟨t,q⟩:=(show ∃t,u=Value.int i t from rx);cases q;exact PySem.W.kia_one PySem.W.kitx_int I.kIn True.intro e (fun z=>nomatch z) h
 |str y=>obtain⟨t,q⟩:=(show ∃t,u=Value.str y t from rx);cases q;exact PySem.W.kia_one PySem.W.kitx_str I.kIn True.intro e (fun z=>nomatch z) h
 |flt y=>obtain⟨t,q⟩:=(show ∃t,u=Value.float y t from rx);cases q;exact PySem.W.kia_one PySem.W.kitx_float I.kIn True.intro e (fun z=>nomatch z) h
 | @lst a xs ea=>
  cases(show u=Value.ref a from rx);obtain⟨_,_,n,_,h1⟩:=(show ObjOk X.prog X.w H s.heap a (.lst xs) from I.hok a _ ea);exact PySem.W.kia_one PySem.W.kitx_list I.kIn ⟨_,h1,rfl⟩ e (fun z=>nomatch z) h
 | @frz a ob xs ea=>
  cases(show u=Value.ref a from rx);obtain⟨_,_,_,n,_,h1⟩:=(show ObjOk X.prog X.w H s.heap a (.frz ob (.lst xs)) from I.hok a _ ea);exact PySem.W.kia_one PySem.W.kitx_list I.kIn ⟨_,h1,rfl⟩ e (fun z=>nomatch z) h
 | @tup a xs ea=>
  cases(show u=Value.ref a from rx);obtain⟨_,_,_,p⟩:=(show ObjOk X.prog X.w H s.heap a (.tup xs) from I.hok a _ ea);obtain⟨o,h1,h2,_⟩:=p;exact PySem.W.kia_one PySem.W.kitx_tuple I.kIn ⟨o,h1,h2⟩ e (fun z=>nomatch z) h
 | @dK a kvs ea=>
  cases(show u=Value.ref a from rx);obtain⟨_,_,vs,_,p⟩:=(show ObjOk X.prog X.w H s.heap a (.dK kvs) from I.hok a _ ea);obtain⟨o,es,ep,h1,h2,_⟩:=p;exact PySem.W.kia_one PySem.W.kitx_dict I.kIn ⟨o,h1,h2.1⟩ e (fun z=>nomatch z) h
 | @dT a kvs ea=>
  cases(show u=Value.ref a from rx);obtain⟨_,_,xs,_,o,es,ep,h1,h2,_⟩:=(show ObjOk X.prog X.w H s.heap a (.dT kvs) from I.hok a _ ea);exact PySem.W.kia_one PySem.W.kitx_dict I.kIn ⟨o,h1,h2.1⟩ e (fun z=>nomatch z) h
 | @ins a C dx fs ea cl ha hn htk hm=>
  cases(show u=Value.ref a from rx);obtain⟨mA,O,_⟩:=zlo I.hok ea;obtain⟨od,J,_⟩:=O.look;exact PySem.W.kia_one (PySem.W.kitx_own (cl.get _) cl.hd ha hn htk hm) I.kIn J e (fun z=>nomatch z) h
end
structure Room (k:Nat) (A:Around):Prop where
  hd:A.handled=none
  dp:A.depth+3*k+5<recursionLimit
  un:A.units+16*k+200<cLine
theorem Room.deeper{k:Nat}{A:Around}(r:Room (k+1) A) (env:Env):Room k (A.deeper env):=
 ⟨r.hd,by have:=r.dp;show A.depth+1+3*k+5<_;omega,by have:=r.un;show A.units+3+16*k+200<_;omega⟩
theorem Room.depth{k:Nat}{A:Around}(r:Room k A):A.depth<recursionLimit:=by have:=r.dp;omega
theorem Room.units{k:Nat}{A:Around}(r:Room k A):A.units+64<cLine:=by have:=r.un;omega
noncomputable def zpQ:TA:=fun _ H Q=>Q [] H
noncomputable def zoV (ta:TE) (tr:TA):TA:=fun σ H Q=>ta σ H fun x H1=>tr σ H1 fun xs H2=>Q (x::xs) H2
section
variable {X:Cx}{e:Expr}{es:List Expr}{te:TE}{t:TA}{pos:Pos}
theorem pa_nil:PA X [] zpQ:=fun _ _ _ _ H Q I h=>Calls.spliced_nil ⟨[],H,I, .nil,h⟩
theorem zaX (ha:PE X e te) (hr:PA X es t) (hs:starEach (e::es) X.env=(false,eval e X.env)::starEach es X.env:=by rfl):PA X (e::es) (zoV te t):=by
 intro pos pins s σ H Q I h;rw [hs];show wpAny _ _ (spliced ((false,eval e X.env)::backTo pos (starEach es X.env))) _ _ s;refine Calls.spliced_cons (thn (ha pins s σ H _ I h) fun u s1 ⟨x,H1,I1,r1,q1⟩=>?_);exact thn (hr pos pins s1 σ H1 _ I1 q1) fun us s2 ⟨xs,H2,I2,r2,q2⟩=>⟨x::xs,H2,I2, .cons r1 r2,q2⟩
noncomputable def zqk (t:TA):TE:=fun σ H Q=>t σ H fun xs H1=>xs.length≤sizeLine∧ ∀p,H1 p=none→Q (.ref p) (upd H1 p (.tup xs))
noncomputable def zqb (t:TA):TE:=fun σ H Q=>t σ H fun xs H1=>xs.length≤sizeLine∧ ∀p,H1 p=none→Q (.ref p) (upd H1 p (.lst xs))
theorem zmi{x1}(h:PA X es t):PE X (.Tuple es x1 pos) (zqk t):=by
 intro pins s σ H Q I hq;refine wpAny_Tuple_spliced (thn (h pos pins s σ H _ I hq) fun us s1 ⟨xs,H1,I1,r,z,q⟩=>⟨by rw [←r.length];exact z,?_⟩);have hf:H1 s1.heap.objs.size=none:=I1.hok.fresh (Nat.le_refl _);refine⟨.ref s1.heap.objs.size,upd H1 s1.heap.objs.size (.tup xs),I1.laid (t':=s1.toks) (fun b u e=>Heap.get?_push_of_some _ e) (Nat.le_refl _) ?_,rfl,q _ hf⟩;exact⟨z,us,r,⟨_,Heap.get?_push_size _ rfl,rfl,_,rfl⟩⟩
theorem zmz (h:PA X es t):PE X (.List es pos) (zqb t):=by
 intro pins s σ H Q I hq;refine wpAny_List_spliced (thn (h pos pins s σ H _ I hq) fun us s1 ⟨xs,H1,I1,r,z,q⟩=>⟨by rw [←r.length];exact z,?_⟩);have hf:H1 s1.heap.objs.size=none:=I1.hok.fresh (Nat.le_refl _);refine⟨.ref s1.heap.objs.size,upd H1 s1.heap.objs.size (.lst xs),I1.laid (t':=s1.toks) (fun b u e=>Heap.get?_push_of_some _ e) (Nat.le_refl _) ?_,rfl,q _ hf⟩;exact⟨z,us,0,r,Heap.get?_push_size _ rfl⟩
end
noncomputable abbrev Sp:=List V→Hp→VK→XK→Prop
noncomputable abbrev CXT:=List Env→Hp→Shared→XK→Value→Shared→Prop
structure Env0 (P:Program) (w:World) (K:PySem.W.Frag) (mg:Str→Option Value) (base:Heap) (A:Around) (outer:List Env) (s:Shared) (H:Hp):Prop where
  frames:A.frames=some outer
  mod:Mod K mg base
  bs:∀b o,base.get? b=some o→s.heap.get? b=some o∧H b=none
  bsz:base.objs.size≤s.heap.objs.size
  funs:s.heap.FunFrames base outer
  frf:∀b∈frs outer,H b=none
  hok:HOk P w H s.heap
  bare:AllBare s.gens
noncomputable def CE (outer:List Env) (P:Program) (w:World) (H:Hp) (s:Shared) (Q:VK) (u:Value) (s':Shared):Prop:=
 ∃v H',s'.os=s.os∧AllBare s'.gens∧Un (frs outer) [] H H' s.heap s'.heap∧HOk P w H' s'.heap∧RelV v u∧Q v H'
noncomputable def CR (CX:CXT) (outer:List Env) (P:Program) (w:World) (H:Hp) (s:Shared) (Q:VK) (E:XK) (r:Result) (s':Shared):Prop:=
 match r with
 | .ok (.ret u)=>CE outer P w H s Q u s'
 | .ok _=>False
 | .error e=>CX outer H s E e s'
structure FnOk (P:Program) (w:World) (K:PySem.W.Frag) (mg:Str→Option Value) (base:Heap) (CX:CXT) (k:Nat) (f:Addr) (fd:FuncData) (ps:List Str) (sp:Sp):Prop where
  len:∀vs H Q E,sp vs H Q E→vs.length=ps.length
  run:∀(A:Around) (outer:List Env) (s:Shared) (H:Hp) (args:Args) (us:List Value) (vs:List V) (Q:VK) (E:XK),Room k A→Env0 P w K mg base A outer s H→BindsTo s fd args (ps.zip us)→Vals vs us→sp vs H Q E→
    codeAny (model P w) A (.call (.ref f) args) (CR CX outer P w H s Q E) s
section
variable {X:Cx}{pins:List (Addr×Obj)}{σ:St}{H:Hp}{s:Shared}
theorem Inv.env0 (I:Inv X pins σ H s):Env0 X.prog X.w X.K X.mg X.base X.A X.stack s H:=
 ⟨I.ok.frames,I.ok.mod,I.bs,Nat.le_trans I.ok.bsz I.sz,I.stack,I.stkFree,I.hok,I.bare⟩
end
noncomputable def Binds (K:PySem.W.Frag) (fd:FuncData) (ps:List Str) (ds:List Value):Prop:=
 ∀(s:Shared) (us:List Value),K.In s.heap→(us++ds).length=ps.length→BindsTo s fd ⟨us,[]⟩ (ps.zip (us++ds))
theorem Binds.all{K:PySem.W.Frag}{fd:FuncData}{ps:List Str}(h:∀us:List Value,us.length=ps.length→bindArgs fd ⟨us,[]⟩=pure (ps.zip us)):Binds K fd ps []:=fun s us _ hl=>by
 rw [List.append_nil]at hl⊢;exact .of_eq (h us hl)
structure FnScope (N P:List Str) (sc:Scope):Prop where
  kind:sc.kind= .function
  co:sc.isCoroutine=false
  gen:sc.isGenerator=false
  nd:N.Nodup
  pre:N.take P.length=P
  par:∀x∈P,sc.names.lookup x=some .local∨sc.names.lookup x=some .cell
  nofree:∀y∈sc.names,y.2≠ .free
theorem zeZ{kindOf:Str→Option NameKind}{x:Str}:∀{binds:List (Str×Value)}{m:Str→Option Value},(∀v,(x,v)∉binds)→bindL kindOf binds m x=m x
 | [],_,_=>rfl
 | (n,v)::r,m,h=>by
  unfold bindL;rw [zeZ fun w hw=>h w (List.mem_cons_of_mem _ hw)];split
  ·have:x≠n:=by rintro rfl;exact h v List.mem_cons_self
   simp [this]
  ·rfl
theorem zew{kindOf:Str→Option NameKind}{x:Str}:∀{binds:List (Str×Value)}{m:Str→Option Value},(∀v,(x,v)∉binds)→bindC kindOf binds m x=m x
 | [],_,_=>rfl
 | (n,v)::r,m,h=>by
  unfold bindC;rw [zew fun w hw=>h w (List.mem_cons_of_mem _ hw)];split
  ·rfl
  ·have:x≠n:=by rintro rfl;exact h v List.mem_cons_self
   simp [this]
theorem zev{kindOf:Str→Option NameKind}{x:Str}{v:Value}:∀{P:List Str}{vs:List Value}{i:Nat}{m:Str→Option Value},P.Nodup→P[i]? =some x→vs[i]? =some v→kindOf x=some .local→
  bindL kindOf (P.zip vs) m x=some v
 | [],_,_,_,_,h,_,_=>by simp at h
 |_::_,[],_,_,_,_,h,_=>by simp at h
 |p::P,w::vs,0,m,nd,h1,h2,hk=>by
  simp at h1 h2;subst h1;subst h2;show bindL kindOf ((p,w)::P.zip vs) m p=_;unfold bindL;rw [zeZ fun v hv=>(List.nodup_cons.mp nd).1 (List.of_mem_zip hv).1,if_pos hk];simp
 |p::P,w::vs,i+1,m,nd,h1,h2,hk=>by
  show bindL kindOf ((p,w)::P.zip vs) m x=_;unfold bindL;exact zev (i:=i) (List.nodup_cons.mp nd).2 (by simpa using h1) (by simpa using h2) hk
theorem zeo{kindOf:Str→Option NameKind}{x:Str}{v:Value}:∀{P:List Str}{vs:List Value}{i:Nat}{m:Str→Option Value},P.Nodup→P[i]? =some x→vs[i]? =some v→kindOf x≠some .local→
  bindC kindOf (P.zip vs) m x=some v
 | [],_,_,_,_,h,_,_=>by simp at h
 |_::_,[],_,_,_,_,h,_=>by simp at h
 |p::P,w::vs,0,m,nd,h1,h2,hk=>by
  simp at h1 h2;subst h1;subst h2;show bindC kindOf ((p,w)::P.zip vs) m p=_;unfold bindC;rw [zew fun v hv=>(List.nodup_cons.mp nd).1 (List.of_mem_zip hv).1,if_neg hk];simp
 |p::P,w::vs,i+1,m,nd,h1,h2,hk=>by
  show bindC kindOf ((p,w)::P.zip vs) m x=_;unfold bindC;exact zeo (i:=i) (List.nodup_cons.mp nd).2 (by simpa using h1) (by simpa using h2) hk
noncomputable def zdU (N:List Str) (vs:List V):St:=vs.map some++List.replicate (N.length - vs.length) none
noncomputable def zle (CX:CXT) (P:Program) (w:World) (K:PySem.W.Frag) (mg:Str→Option Value) (base:Heap) (N:List Str) (qual:Str) (scope:Scope) (f:Addr) (cd:Value) (A:Around) (outer:List Env) (s:Shared) (H:Hp) (E:XK):Cx where
  prog:=P
  w:=w
  K:=K
  mg:=mg
  base:=base
  A:=A.deeper (envOfC qual scope s.heap.objs.size f cd)
  N:=N
  s₀:=s
  H₀:=H
  env:=envOfC qual scope s.heap.objs.size f cd
  outer:=outer
  stack:=envOfC qual scope s.heap.objs.size f cd::outer
  ex:=[]
  calm:=true
  fn:=fun _=>true
  pn:=[]
  xe:=fun e s'=>wpAny (model P w) (A.deeper (envOfC qual scope s.heap.objs.size f cd)) (leaving (envOfC qual scope s.heap.objs.size f cd) e) (fun _ s''=>CX outer H s E e s'') (fun e' s''=>CX outer H s E e' s'') s'
theorem zfV{sc:Scope}{n:Nat}{x:Str}(h:sc.names.lookup x=some .cell):∃c,(cellsFrom n sc.names []).lookup x=some c:=by
 have q:=PySem.W.cellsFrom_some sc.names n [] (.inl h);exact Option.isSome_iff_exists.mp q
theorem zhn{CX:CXT}{P:Program}{w:World}{K:PySem.W.Frag}{mg:Str→Option Value}{base:Heap}{N ps:List Str}{qual:Str}{scope:Scope}{f:Addr}{cd:Value}{A:Around}{outer:List Env}{s s1:Shared}{H:Hp}{E:XK}{us:List Value}{vs:List V}
  (S:FnScope N ps scope) (hd:A.handled=none) (e0:Env0 P w K mg base A outer s H) (hl:vs.length=ps.length) (r:Vals vs us)
  (x:InCallC s s.heap.objs.size (bindL (envOfC qual scope s.heap.objs.size f cd).kindOf (ps.zip us) fun _=>none) (cellsFrom (s.heap.objs.size+1) scope.names []) (bindC (envOfC qual scope s.heap.objs.size f cd).kindOf (ps.zip us) fun _=>none) s1) :
  Inv (zle CX P w K mg base N qual scope f cd A outer s H E) [] (zdU N vs) H s1:=by
 have hpl:ps.length≤N.length:=by have:=congrArg List.length S.pre;rw [List.length_take]at this;omega
 obtain⟨h1,tk,rfl,hk⟩:=x.done;have noA:∀b:Addr,b∉(zle CX P w K mg base N qual scope f cd A outer s H E).ex:=fun b z=>absurd (show b∈([]:List Addr) from z) (by simp);refine⟨⟨e0.mod,S.kind,rfl,rfl,Nat.le_refl _,fun y z c h1 h2=>?_,fun y hy=>?_,fun y c _ h=>?_,fun _=>hd,Around.frames_deeper e0.frames, .inr ⟨rfl,rfl⟩,fun b z=>absurd z (noA b),e0.bs,e0.bsz,fun b _ _=>noA b,fun b z=>absurd z (noA b),e0.funs,e0.frf⟩,
  rfl,e0.bare,Un.kept hk,⟨_,x.toInCall.ns,fun i y v h1 h2 h3=>?_⟩,fun y c h=>⟨_,x.cell y c h⟩,e0.hok.fresh (Nat.le_refl _),fun y c h=>?_,fun p hp=>absurd (show p∈([]:List (Addr×Obj)) from hp) (by simp),e0.hok.kept hk,?_⟩
 ·exact name_of_addr x.apart (PySem.mem_of_lookup h1) (PySem.mem_of_lookup h2)
 ·have hy:scope.names.lookup y=some .cell∨scope.names.lookup y=some .free:=hy;rcases hy with hy |hy
  ·exact zfV hy
  ·exact absurd rfl (S.nofree _ (PySem.mem_of_lookup hy))
 ·exact Nat.le_of_lt (x.above y c (PySem.mem_of_lookup h))
 ·have hi:i<vs.length:=by
   unfold zdU at h2;by_cases hi:i<vs.length
   ·exact hi
   ·rw [List.getElem?_append_right (by simpa using hi)]at h2;rw [List.getElem?_replicate]at h2;split at h2<;>cases h2
  have ha:vs[i]? =some v:=by
   unfold zdU at h2;rw [List.getElem?_append_left (by simpa using hi),List.getElem?_map]at h2;cases e:vs[i]? with
   |none=>rw [e]at h2;cases h2
   |some a=>rw [e]at h2;cases h2;rfl
  obtain⟨u,hu,rv⟩:=r.get ha;have hp:ps[i]? =some y:=by
   rw [←S.pre,List.getElem?_take_of_lt (by omega)];exact h1
  have ndP:ps.Nodup:=by rw [←S.pre];exact S.nd.sublist (List.take_sublist _ _)
  refine⟨u,rv,?_⟩;rcases S.par y (List.mem_of_getElem? hp) with k |k
  ·exact .inl ⟨k,zev ndP hp hu k⟩
  ·obtain⟨c,e⟩:=zfV (n:=s.heap.objs.size+1) k;refine .inr ⟨.inl k,c,e,?_⟩;have q:=x.cell y c e;rw [zeo ndP hp hu (by show scope.names.lookup y≠_;rw [k];decide)]at q;exact q
 ·exact e0.hok.fresh (Nat.le_of_lt (x.above y c (PySem.mem_of_lookup h)))
 ·unfold zdU;show _=N.length;rw [List.length_append,List.length_map,List.length_replicate];omega
theorem zog{CX:CXT}{P:Program}{w:World}{K:PySem.W.Frag}{mg:Str→Option Value}{base:Heap}{k:Nat}{f:Addr}{name qual:Str}{params:Arguments}{body:List Stmt}{scope:Scope}{dV kV doc pm cdv ct oc:Value}{an od:Option Addr}
  {osl:Array (Option Value)}{N ps:List Str}{sp:Sp}(lk:K.lookup f=some ⟨oc,od, .func (PySem.W.fnOf name qual params body scope dV kV doc pm an cdv ct),osl⟩) (hcd:PySem.W.codeIn K cdv qual=true) (S:FnScope N ps scope)
  (len:∀vs H Q E,sp vs H Q E→vs.length=ps.length)
  (hbody:∀(A:Around) (outer:List Env) (s:Shared) (H:Hp) (vs:List V) (Q:VK) (E:XK),Room k (A.deeper (envOfC qual scope s.heap.objs.size f cdv))→sp vs H Q E→
   ∃t,PSs (zle CX P w K mg base N qual scope f cdv A outer s H E) body t∧t { nx:=fun _ H'=>Q .non H',rt:=Q } (zdU N vs) H) :
  FnOk P w K mg base CX (k+1) f (PySem.W.fnOf name qual params body scope dV kV doc pm an cdv ct) ps sp:=by
 refine⟨len,fun A outer s H args us vs Q E hr e0 hb r hsp=>?_⟩;have hl:=len _ _ _ _ hsp;have KX:K.In s.heap:=e0.mod.kin.keeps fun b o e=>(e0.bs b o e).1;have lim:s.heap.NoLimit:=e0.mod.nolimit.keeps fun b o e=>(e0.bs b o e).1;have hkind:∀y∈ps.zip us,scope.names.lookup y.1=some .local∨(scope.names.lookup y.1=some .cell∧((cellsFrom (s.heap.objs.size+1) scope.names []).lookup y.1).isSome=true):=fun⟨n,v⟩ hy=>by
  rcases S.par n (List.of_mem_zip hy).1 with q |q
  ·exact .inl q
  ·exact .inr ⟨q,PySem.W.cellsFrom_some _ _ _ (.inl q)⟩
 refine codeAny_call_function hr.depth (KX _ _ lk) rfl S.co S.gen rfl (PySem.W.codeRec_of KX hcd) (hb _ _ _ _ ?_);refine wpAny_newFunctionEnv_cells S.kind hkind fun env he s1 x=>?_;subst he;refine⟨lim.keeps x.toInCall.keep,codeAny_func ?_⟩;obtain⟨t,ht,hq⟩:=hbody A outer s H vs Q E (hr.deeper _) hsp;have I:Inv (zle CX P w K mg base N qual scope f cdv A outer s H E) [] (zdU N vs) H s1:=zhn S hr.hd e0 hl r x;refine wpAny_mono (ht [] s1 (zdU N vs) H _ I hq) (fun fl s' hs=>?_) fun e s' hs=>hs;have fin:∀{σ':St}{H':Hp}{v:V}{u:Value},Inv (zle CX P w K mg base N qual scope f cdv A outer s H E) [] σ' H' s'→RelV v u→Q v H'→CE outer P w H s Q u s':=
  fun {σ' H' v u} J rv q=>⟨v,H',J.os,J.bare,J.base,J.hok,rv,q⟩
 cases fl with
 |ret u=>
  obtain⟨v,σ',H',J,rv,q⟩:=hs;exact fin J rv q
 |next=>
  obtain⟨σ',H',J,q⟩:=hs;exact fin (v:=V.non) (u:=Value.none) J rfl q
 |brk=>
  obtain⟨_,_,_,q⟩:=hs;exact False.elim q
 |cont=>
  obtain⟨_,_,_,q⟩:=hs;exact False.elim q
section
variable {X:Cx}{x:Str}{p pos:Pos}{e:Expr}{es:List Expr}{t:TA}{id T:String}{r:List V→Hp→VK→Prop}
noncomputable def tCB (r:List V→Hp→VK→Prop) (t:TA):TE:=fun σ H Q=>t σ H fun vs H1=>r vs H1 Q
theorem zcn (hc:CallR X (.builtin id) r) (hg:Gl X x) (hm:X.mg x=none) (hv:bootBuiltins x=some (.builtin id)) (ha:PA X (e::es) t) (hn:x≠ "__name__" :=by decide) (hdb:(x == ("__debug__" :Str))=false:=by decide)
  (he:starEach (e::es) X.env=(false,eval e X.env)::starEach es X.env:=by rfl) (hpl:(backTo pos (starEach es X.env)).any (·.1)=false:=by rfl):PE X (.Call (.Name x p) (e::es) [] pos) (tCB r t):=by
 intro pins s σ H Q I h;refine wpAny_Call_Name_kw (zff I hg hm hv ?_ hn hdb);exact PyProof.Rows.callWith_builtin1 (thn (ha pos pins s σ H _ I h) fun us s1 ⟨vs,H1,I1,r1,q1⟩=>hc pins s1 σ H1 vs us Q I1 r1 q1) he hpl
theorem zeP (hc:CallR X (.type T) r) (hg:Gl X x) (hm:X.mg x=none) (hv:bootBuiltins x=some (.type T)) (ha:PA X (e::es) t) (hn:x≠ "__name__" :=by decide) (hdb:(x == ("__debug__" :Str))=false:=by decide)
  (he:starEach (e::es) X.env=(false,eval e X.env)::starEach es X.env:=by rfl) (hpl:(backTo pos (starEach es X.env)).any (·.1)=false:=by rfl):PE X (.Call (.Name x p) (e::es) [] pos) (tCB r t):=by
 intro pins s σ H Q I h;refine wpAny_Call_Name_kw (zff I hg hm hv ?_ hn hdb);exact PyProof.Rows.callWith_type1 (thn (ha pos pins s σ H _ I h) fun us s1 ⟨vs,H1,I1,r1,q1⟩=>hc pins s1 σ H1 vs us Q I1 r1 q1) he hpl
end
end L2
namespace HT
open PySem PyProof.Rows
section
variable {prog:Program}{w:World}{A:Around}{E:Value→Shared→Prop}{s:Shared}
theorem cat_tup{t b:Addr}{vs ws:List Value}{Q:Value→Shared→Prop}(ht:IsTup s.heap t vs.toArray) (hb:IsTup s.heap b ws.toArray) (hv:vs≠ [])
  (h1:ws=[]→Q (.ref t) s) (h2:ws≠ []→Q (.ref s.heap.objs.size) { s with heap:=s.heap.push { cls:= .type "tuple",data:= .seq (vs++ws).toArray } })
  (hsz:vs.length+ws.length≤sizeLine):wpAny (model prog w) A (binaryOp .Add (.ref t) (.ref b)) Q E s:=by
 obtain⟨⟨cls,dd,data,sl⟩,ho,hc,n,hd⟩:=id ht;obtain⟨⟨cls2,dd2,data2,sl2⟩,ho2,hc2,n2,hd2⟩:=id hb;simp only at hc hd hc2 hd2;subst hc hd hc2 hd2;have e:vs.toArray++ws.toArray=(vs++ws).toArray:=by simp
 by_cases hw:ws=[]
 ·exact concat_meets ⟨_,ho,rfl⟩ ⟨_,ho2,rfl⟩ noFill_tuple_add seq_tuple_add PySem.F.slot_tuple_add PySem.F.entry_tuple_add (PySem.F.args_tuple_add_2 _ _)
   (tuple_addW1 t b vs.toArray ws.toArray n n2 dd dd2 sl sl2 (by simpa using hv) (by simp [hw])) ⟨ho,ho2,h1 hw⟩
 ·refine concat_meets ⟨_,ho,rfl⟩ ⟨_,ho2,rfl⟩ noFill_tuple_add seq_tuple_add PySem.F.slot_tuple_add PySem.F.entry_tuple_add (PySem.F.args_tuple_add_2 _ _)
   (tuple_addW2 t b vs.toArray ws.toArray n n2 dd dd2 sl sl2 (by simpa using hv) (by simpa using hw) (by rw [List.size_toArray,List.size_toArray];exact hsz)) ⟨ho,ho2,?_⟩
  rw [e];exact h2 hw
noncomputable def sIx (n d:Nat):Option Int→Nat
 |none=>d
 |some v=>if v<0 then(v+(n:Int)).toNat else min v.toNat n
theorem sIx_none (n d:Nat):sIx n d none=d:=rfl
theorem sIx_nat (n d k:Nat):sIx n d (some (k:Int))=min k n:=by
 show(if(k:Int)<0 then((k:Int)+(n:Int)).toNat else min (k:Int).toNat n)=min k n;rw [if_neg (by omega),Int.toNat_natCast]
theorem sIx_le (n d:Nat) (hd:d≤n) (o:Option Int):sIx n d o≤n:=by
 cases o with
 |none=>exact hd
 |some v=>
  show(if v<0 then(v+(n:Int)).toNat else min v.toNat n)≤n;by_cases hv:v<0
  ·rw [if_pos hv];omega
  ·rw [if_neg hv];exact Nat.min_le_right _ _
theorem ziz (v:Int) (n d:Nat):(if v<0 then max (v+(n:Int)) 0 else min v (n:Int))=((sIx n d (some v):Nat):Int):=by
 show(if v<0 then max (v+(n:Int)) 0 else min v (n:Int))=(((if v<0 then(v+(n:Int)).toNat else min v.toNat n):Nat):Int);by_cases hv:v<0
 ·simp only[if_pos hv];omega
 ·simp only[if_neg hv];omega
theorem zgO (lo hi:Option Int) (n:Nat):Builtin.Slice.sliceAdjust lo hi 1 (n:Int)=(((sIx n 0 lo:Nat):Int),((sIx n n hi:Nat):Int)):=by
 have h1:¬((1:Int)<0):=by omega
 unfold Builtin.Slice.sliceAdjust;simp only[h1,if_false];refine Prod.ext ?_ ?_
 ·cases lo with
  |none=>rfl
  |some v=>exact ziz v n 0
 ·cases hi with
  |none=>rfl
  |some v=>exact ziz v n n
theorem zgF (i j:Nat):Builtin.Slice.slicePlaces (i:Int) (j:Int) 1=j - i:=by
 unfold Builtin.Slice.slicePlaces;have h1:(1:Int) > 0:=by omega
 simp only[h1,if_true,Int.ediv_one];split<;>omega
theorem zdv{v:Value}{o:Option Int}{Q:Option Int→Shared→Prop}(p:IsPart v o) (h:Q o s):wpAny (model prog w) A (Builtin.Slice.slicePartIndex v) Q E s:=by
 cases p with
 |none=>exact slicePart_none h
 |int i t=>exact slicePart_int h
theorem sliceApplied_gen{sl:Addr}{vl vu:Value}{lo hi:Option Int}{n:Nat}{Q:Int×Int×Nat→Shared→Prop}(hs:s.heap.IsSliceOf sl vl vu .none) (pl:IsPart vl lo) (pu:IsPart vu hi)
  (h:Q (((sIx n 0 lo:Nat):Int),1,sIx n n hi - sIx n 0 lo) s):wpAny (model prog w) A (Builtin.Slice.sliceApplied (.ref sl) (pure (n:Int))) Q E s:=by
 obtain⟨os,hos,hcs,hds⟩:=id hs;unfold Builtin.Slice.sliceApplied Builtin.Slice.sliceFields;refine wpAny_bind (wpAny_bind (wpAny_field hos hds (x:=vl) rfl (wpAny_bind (wpAny_field hos hds (x:=vu) rfl (wpAny_bind (wpAny_field hos hds (x:= .none) rfl (wpAny_pure ?_)))))));refine wpAny_bind (slicePart_none ?_);show wpAny _ _ (if((1:Int) == 0)=true then _ else _) _ _ s;rw [if_neg (by decide)];refine wpAny_bind (zdv pl (wpAny_bind (zdv pu (wpAny_bind (wpAny_pure ?_)))));show wpAny _ _ (match Builtin.Slice.sliceAdjust lo hi 1 (n:Int) with | (lo,hi)=>pure (lo,(1:Int),Builtin.Slice.slicePlaces lo hi 1)) _ _ s;rw [zgO lo hi n];show wpAny _ _ (pure (((sIx n 0 lo:Nat):Int),(1:Int),Builtin.Slice.slicePlaces ((sIx n 0 lo:Nat):Int) ((sIx n n hi:Nat):Int) 1)) _ _ s;rw [zgF];exact wpAny_pure h
theorem ziS (xs:Array Value) (i k:Nat):((List.range k).filterMap fun(m:Nat)=>xs[((i:Int)+(m:Int)*1).toNat]?).toArray=((xs.toList.drop i).take k).toArray:=by
 have e:(fun(m:Nat)=>xs[((i:Int)+(m:Int)*1).toNat]?)=fun m=>xs[i+m]? :=by
  funext m;have:((i:Int)+(m:Int)*1).toNat=i+m:=by omega
  rw [this]
 rw [e];have:=pick_run xs i k;rw [List.filterMap_map]at this;have e2:((fun x=>xs[x]?)∘fun x=>i+x)=fun m=>xs[i+m]? :=rfl;rw [e2]at this;rw [this]
theorem getItem_tuple_cut{t sl:Addr}{items:Array Value}{vl vu:Value}{lo hi:Option Int}{Q:Value→Shared→Prop}(ht:IsTup s.heap t items) (hs:s.heap.IsSliceOf sl vl vu .none) (pl:IsPart vl lo) (pu:IsPart vu hi)
  (hw:¬(sIx items.size 0 lo=0∧sIx items.size items.size hi=items.size))
  (h:Q (.ref s.heap.objs.size) { s with heap:=s.heap.push { cls:= .type "tuple",data:= .seq ((items.toList.drop (sIx items.size 0 lo)).take (sIx items.size items.size hi - sIx items.size 0 lo)).toArray } })
  (hsz:items.size≤sizeLine):wpAny (model prog w) A (getItem (.ref t) (.ref sl)) Q E s:=by
 have htake:sizeOk (.seq ((items.toList.drop (sIx items.size 0 lo)).take (sIx items.size items.size hi - sIx items.size 0 lo)).toArray):=by
  show((items.toList.drop (sIx items.size 0 lo)).take (sIx items.size items.size hi - sIx items.size 0 lo)).toArray.size≤sizeLine;rw [List.size_toArray,List.length_take,List.length_drop,Array.length_toList];omega
 have hj:sIx items.size items.size hi≤items.size:=sIx_le _ _ (Nat.le_refl _) hi;obtain⟨os,hos,hcs,hds⟩:=id hs;have hTs:s.TypeIs (.ref sl) "slice" :=⟨os,hos,hcs⟩;unfold getItem
 try with_reducible refine wpAny_holding ?_
 first |refine wpAny_bind (wpAny_pure ?_) |skip
 refine wpAny_bind (wpAny_sequenceKey ht.typeIs (by decide) ?_);refine wpAny_bind (wpAny_callSpecial?_slot (name:=Str.ofString "__getitem__") ht.typeIs PyProof.Rows.slot_tuple_getitem
  (wpAny_call_entry PyProof.Rows.slot_tuple_getitem ht.typeIs entry_tuple_getitem ?_ (args_tuple_getitem _ _)))
 show wpAny _ _ (Builtin.Tuple.tupleItemsOf (.ref t) >>= _) _ _ s;refine wpAny_bind (tupleItemsOf_ ht ?_);refine wpAny_bind (wpAny_typeOf hTs ?_);rw [if_pos (by decide)];refine wpAny_bind (sliceApplied_gen hs pl pu ?_);have hno:¬((((sIx items.size 0 lo:Nat):Int) == 0&&(1:Int) == 1&&(sIx items.size items.size hi - sIx items.size 0 lo) == items.size)=true):=by
  intro q;rw [Bool.and_eq_true,Bool.and_eq_true]at q;have q1:((sIx items.size 0 lo:Nat):Int)=0:=eq_of_beq q.1.1;have q2:sIx items.size items.size hi - sIx items.size 0 lo=items.size:=eq_of_beq q.2;exact hw ⟨by omega,by omega⟩
 show wpAny _ _ (if(((sIx items.size 0 lo:Nat):Int) == 0&&(1:Int) == 1&&(sIx items.size items.size hi - sIx items.size 0 lo) == items.size)=true then _ else _) _ _ s;rw [if_neg hno,ziS]
 first
  |exact wpAny_bind (m:=Builtin.Tuple.tupleExact _) (wpAny_newObj_type (wpAny_pure ⟨_,rfl,wpAny_pure h⟩) htake)
  |exact wpAny_bind (m:=Builtin.Tuple.tupleExact _) (wpAny_newObj_type (wpAny_bind (wpAny_pure (wpAny_pure ⟨_,rfl,wpAny_pure h⟩))) htake)
  |exact wpAny_bind (wpAny_bind (m:=Builtin.Tuple.tupleExact _) (wpAny_newObj_type (wpAny_pure (wpAny_pure ⟨_,rfl,wpAny_pure h⟩)) htake))
  |exact wpAny_bind (wpAny_bind (m:=Builtin.Tuple.tupleExact _) (wpAny_newObj_type (wpAny_pure ⟨_,rfl,wpAny_pure h⟩) htake))
end
end HT
namespace L2
open PySem PySem.Spec PyProof.Rows
noncomputable abbrev TO:=St→Hp→(Option Int→Hp→Prop)→Prop
noncomputable def PO (X:Cx) (e:Option Expr) (t:TO):Prop:=
 ∀(pins:List (Addr×Obj)) (s:Shared) (σ:St) (H:Hp) (Q:Option Int→Hp→Prop),Inv X pins σ H s→t σ H Q→
  wpAny (model X.prog X.w) X.A (evalPart e X.env) (fun u s'=>∃o H',Inv X pins σ H' s'∧IsPart u o∧Q o H') X.xe s
noncomputable def zlv:TO:=fun _ H Q=>Q none H
noncomputable def zoG (t:TE):TO:=fun σ H Q=>t σ H fun x H1=>∃i,x= .int i∧Q (some i) H1
section
variable {X:Cx}{e:Expr}{te:TE}{lo hi:Option Expr}{tl th:TO}{pos p2:Pos}
theorem po_none:PO X none zlv:=by
 intro pins s σ H Q I h;rw [evalPart_none];exact wpAny_pure ⟨none,H,I, .none,h⟩
theorem zlO (h:PE X e te):PO X (some e) (zoG te):=by
 intro pins s σ H Q I hw;rw [evalPart_some];refine thn (h pins s σ H _ I hw) fun u s1 ⟨x,H1,I1,r1,q1⟩=>?_;obtain⟨i,rfl,q⟩:=q1;obtain⟨t,rfl⟩:=r1;exact⟨some i,H1,I1, .int i t,q⟩
noncomputable def SlR (X:Cx) (r:V→Option Int→Option Int→Hp→VK→Prop):Prop:=
 ∀(pins:List (Addr×Obj)) (s:Shared) (σ:St) (H:Hp) (x:V) (v vl vu:Value) (lo hi:Option Int) (sl:Addr) (Q:VK),Inv X pins σ H s→RelV x v→s.heap.IsSliceOf sl vl vu .none→IsPart vl lo→IsPart vu hi→r x lo hi H Q→
  ∃T id,typeLookup (.type T) "__getitem__" =pure (some (.builtin id))∧s.TypeIs v T∧wpAny (model X.prog X.w) X.A (getItem v (.ref sl)) (EP X pins σ Q) X.xe s
theorem SlR.or{r r':V→Option Int→Option Int→Hp→VK→Prop}(h:SlR X r) (h':SlR X r'):SlR X (fun x lo hi H Q=>r x lo hi H Q∨r' x lo hi H Q):=by
 intro pins s σ H x v vl vu lo hi sl Q I rx hs pl pu q;rcases q with q |q
 ·exact h pins s σ H x v vl vu lo hi sl Q I rx hs pl pu q
 ·exact h' pins s σ H x v vl vu lo hi sl Q I rx hs pl pu q
noncomputable def tSl (r:V→Option Int→Option Int→Hp→VK→Prop) (te:TE) (tl th:TO):TE:=fun σ H Q=>te σ H fun x H1=>tl σ H1 fun l H2=>th σ H2 fun u H3=>r x l u H3 Q
theorem zgb{r:V→Option Int→Option Int→Hp→VK→Prop}(hr:SlR X r) (he:PE X e te) (hl:PO X lo tl) (hu:PO X hi th):PE X (.Subscript e (.Slice lo hi none p2) pos) (tSl r te tl th):=by
 intro pins s σ H Q I h;refine Subscript_ (thn (he pins s σ H _ I h) fun v s1 ⟨x,H1,I1,r1,q1⟩=>?_);refine wpAny_Slice (thn (hl pins s1 σ H1 _ I1 q1) fun vl s2 ⟨l,H2,I2,pl,q2⟩=>thn (hu pins s2 σ H2 _ I2 q2) fun vu s3 ⟨u,H3,I3,pu,q3⟩=>?_);rw [evalPart_none];refine wpAny_pure ?_;have I4:Inv X pins σ H3 { s3 with heap:=s3.heap.push { cls:= .type "slice",data:= .fields #[vl,vu, .none] } }:=I3.kept (t':=s3.toks) fun b ob q=>Heap.get?_push_of_some _ q;obtain⟨T,id,hT,ht,hg⟩:=hr pins { s3 with heap:=s3.heap.push { cls:= .type "slice",data:= .fields #[vl,vu, .none] } } σ H3 x v vl vu l u s3.heap.objs.size Q I4 r1 (Heap.IsSliceOf.new ..) pl pu q3;show wpAny (model X.prog X.w) X.A (subscriptTail e (.Slice lo hi none p2) v (.ref s3.heap.objs.size)) (EP X pins σ Q) X.xe { s3 with heap:=s3.heap.push { cls:= .type "slice",data:= .fields #[vl,vu, .none] } };exact tail_any (ops:=[.ref s3.heap.objs.size,v]) ht hT hg (by with_unfolding_all rfl)
noncomputable def zie (xs:List V) (lo hi:Option Int):List V:=(xs.drop (HT.sIx xs.length 0 lo)).take (HT.sIx xs.length xs.length hi - HT.sIx xs.length 0 lo)
theorem zdf (xs:List V) (lo hi:Option Int):(zie xs lo hi).length≤xs.length:=by
 unfold zie;rw [List.length_take,List.length_drop];omega
noncomputable def zqi (K:PySem.W.Frag):V→Option Int→Option Int→Hp→VK→Prop:=fun x lo hi H Q=>∃a xs,x= .ref a∧SqT K H a xs∧
 ¬(HT.sIx xs.length 0 lo=0∧HT.sIx xs.length xs.length hi=xs.length)∧ ∀p,H p=none→Q (.ref p) (upd H p (.tup (zie xs lo hi)))
theorem zmd:SlR X (zqi X.K):=by
 intro pins s σ H x v vl vu lo hi sl Q I rx hs pl pu h;obtain⟨a,xs,rfl,hx,hw,q⟩:=h;cases rx;obtain⟨its,r,ht,hz⟩:=I.tuple hx;have hlen:its.toArray.size=xs.length:=by rw [List.size_toArray];exact r.length.symm
 refine⟨"tuple",_,PyProof.Rows.slot_tuple_getitem.lookup,ht.typeIs,?_⟩;refine HT.getItem_tuple_cut ht hs pl pu (by rw [hlen];exact hw) ?_ (by rw [hlen];exact hz);rw [hlen];refine⟨.ref s.heap.objs.size,_,I.laid (t':=s.toks) (o:= .tup (zie xs lo hi)) (fun b ob q=>Heap.get?_push_of_some _ q) (Nat.le_refl _) ?_,rfl,q _ (I.hok.fresh (Nat.le_refl _))⟩;exact⟨Nat.le_trans (zdf xs lo hi) hz,_,(r.drop (HT.sIx xs.length 0 lo)).take (HT.sIx xs.length xs.length hi - HT.sIx xs.length 0 lo),IsTup.new _ _⟩
noncomputable def zlA (K:PySem.W.Frag):R2:=fun x y H Q=>∃a b xs ys,x= .ref a∧y= .ref b∧SqT K H a xs∧SqT K H b ys∧xs≠ []∧xs.length+ys.length≤sizeLine∧
 (ys=[]→Q (.ref a) H)∧(ys≠ []→ ∀p,H p=none→Q (.ref p) (upd H p (.tup (xs++ys))))
theorem Vals.nil_iff{xs:List V}{us:List Value}(r:Vals xs us):us=[]↔xs=[]:=by
 cases r with
 |nil=>simp
 |cons _ _=>simp
theorem op_catT:OpR X (binaryOp .Add) (zlA X.K):=by
 intro pins s σ H x y v u Q I rx ry h;obtain⟨a,b,xs,ys,rfl,rfl,ha,hb,hx,hz,q1,q2⟩:=h;cases rx;cases ry;obtain⟨its,r1,p1,_⟩:=I.tuple ha;obtain⟨its2,r2,p2,_⟩:=I.tuple hb;refine HT.cat_tup p1 p2 (fun z=>hx (r1.nil_iff.mp z)) (fun z=>⟨.ref a,H,I,rfl,q1 (r2.nil_iff.mp z)⟩) (fun z=>?_) (by rw [←r1.length,←r2.length];exact hz);refine⟨.ref s.heap.objs.size,_,I.laid (t':=s.toks) (o:= .tup (xs++ys)) (fun b ob q=>Heap.get?_push_of_some _ q) (Nat.le_refl _) ?_,rfl,q2 (fun w=>z (r2.nil_iff.mpr w)) _ (I.hok.fresh (Nat.le_refl _))⟩;exact⟨by rw [List.length_append];exact hz,_,r1.append r2,IsTup.new _ _⟩
end
noncomputable def ixN (n:Nat) (i:Int):Option Nat:=if 0≤i then(if i<n then some i.toNat else none) else if -(n:Int)≤i then some (i+n).toNat else none
noncomputable def atI {α:Type}(xs:List α) (i:Int):Option α:=(ixN xs.length i).bind fun j=>xs[j]?
theorem zkO{n:Nat}{i:Int}{j:Nat}(h:ixN n i=some j):seqIndex? i n=some j∧j<n∧ -(n:Int)≤i∧i<n:=by
 unfold ixN at h;by_cases h0:0≤i
 ·rw [if_pos h0]at h;by_cases h1:i<n
  ·rw [if_pos h1]at h;have e:i.toNat=j:=Option.some.inj h;exact⟨by rw [seqIndex_of h0 h1,e],by omega,by omega,h1⟩
  ·rw [if_neg h1]at h;cases h
 ·rw [if_neg h0]at h;by_cases h1: -(n:Int)≤i
  ·rw [if_pos h1]at h;have e:(i+n).toNat=j:=Option.some.inj h;exact⟨by rw [seqIndex_neg (by omega) h1,e],by omega,h1,by omega⟩
  ·rw [if_neg h1]at h;cases h
theorem zfy{α:Type}{xs:List α}{i:Int}{v:α}(h:atI xs i=some v):∃j,seqIndex? i xs.length=some j∧xs[j]? =some v∧j<xs.length∧ -(xs.length:Int)≤i∧i<xs.length:=by
 unfold atI at h;cases e:ixN xs.length i with
 |none=>rw [e]at h;cases h
 |some j=>
  rw [e]at h;obtain⟨h1,h2,h3,h4⟩:=zkO e;exact⟨j,h1,h,h2,h3,h4⟩
noncomputable def zfp (b:Expr):Prop:=∀o i,subscripted b false o i=operate [o,i] (getItem o i)
noncomputable def IxR (X:Cx) (r:R2):Prop:=
 ∀(value slice:Expr) (pins:List (Addr×Obj)) (s:Shared) (σ:St) (H:Hp) (x y:V) (v u:Value) (Q:VK),Inv X pins σ H s→RelV x v→RelV y u→r x y H Q→
  subscripted slice false v u=operate [v,u] (getItem v u)→wpAny (model X.prog X.w) X.A (subscriptTail value slice v u) (EP X pins σ Q) X.xe s
noncomputable def MtR (X:Cx) (id:String) (r:V→List V→Hp→VK→Prop):Prop:=
 ∀(pins:List (Addr×Obj)) (s:Shared) (σ:St) (H:Hp) (x:V) (xs:List V) (v:Value) (us:List Value) (Q:VK),Inv X pins σ H s→RelV x v→Vals xs us→r x xs H Q→
  wpAny (model X.prog X.w) X.A (call (.builtin id) (v::us)) (EP X pins σ Q) X.xe s
section
variable {X:Cx}{a b:Expr}{ta tb:TE}{pos:Pos}
theorem IxR.or{r r':R2}(h:IxR X r) (h':IxR X r'):IxR X (fun x y H Q=>r x y H Q∨r' x y H Q):=by
 intro value slice pins s σ H x y v u Q I rx ry q hs;rcases q with q |q
 ·exact h value slice pins s σ H x y v u Q I rx ry q hs
 ·exact h' value slice pins s σ H x y v u Q I rx ry q hs
theorem MtR.or{id:String}{r r':V→List V→Hp→VK→Prop}(h:MtR X id r) (h':MtR X id r'):MtR X id (fun x xs H Q=>r x xs H Q∨r' x xs H Q):=by
 intro pins s σ H x xs v us Q I rx rs q;rcases q with q |q
 ·exact h pins s σ H x xs v us Q I rx rs q
 ·exact h' pins s σ H x xs v us Q I rx rs q
theorem zml{r:R2}(hr:IxR X r) (ha:PE X a ta) (hb:PE X b tb) (hs:zfp b):PE X (.Subscript a b pos) (tOp r ta tb):=by
 intro pins s σ H Q I h;exact Subscript_ (zph ha hb I h fun v u s2 x y H2 I2 rx ry q=>hr a b pins s2 σ H2 x y v u Q I2 rx ry q (hs _ _))
noncomputable def zpA (K:PySem.W.Frag):R2:=fun x y H Q=>∃p xs i v,x= .ref p∧y= .int i∧SqL K H p xs∧atI xs i=some v∧Q v H
noncomputable def zpE (K:PySem.W.Frag):R2:=fun x y H Q=>∃p xs i v,x= .ref p∧y= .int i∧SqT K H p xs∧atI xs i=some v∧Q v H
noncomputable def zpG:R2:=fun x y H Q=>∃z i c,x= .str z∧y= .int i∧z.length≤sizeLine∧atI z.cps.toList i=some c∧Q (.str ⟨#[c]⟩) H
theorem ix_list:IxR X (zpA X.K):=by
 intro value slice pins s σ H x y v u Q I rx ry h hs;obtain⟨p,xs,i,z,rfl,rfl,hq,he,q⟩:=h;cases rx;obtain⟨t,rfl⟩:=ry;obtain⟨its,r,pl,hz⟩:=I.list hq;obtain⟨j,h1,h2,h3,h4,h5⟩:=zfy he;obtain⟨w,ew,rw'⟩:=r.get h2;have hl:=r.length;have hn:=zdu;have fin:EP X pins σ Q w s:=⟨z,H,I,rw',q⟩;by_cases h0:0≤i
 ·have hj:i.toNat=j:=by
   rw [seqIndex_of h0 h5]at h1;exact Option.some.inj h1
  exact item_listR pl.isList h0 (by omega) (by rw [hj];simpa using ew) fin hs
 ·have hj:(i+(its.toArray.size:Int)).toNat=j:=by
   rw [seqIndex_neg (by omega) h4]at h1;rw [List.size_toArray,←hl];exact Option.some.inj h1
  exact subscriptTail_builtinR (x:=w) pl.isList.typeIs slot_list_getitem.lookup
   (wpAny_getItem_list_neg (Q:=fun r s'=>r=w∧EP X pins σ Q r s') pl.isList (by omega) (by rw [List.size_toArray]<;>omega) (by omega) (by rw [hj];simpa using ew) ⟨rfl,fin⟩) hs
theorem ix_tup:IxR X (zpE X.K):=by
 intro value slice pins s σ H x y v u Q I rx ry h hs;obtain⟨p,xs,i,z,rfl,rfl,hq,he,q⟩:=h;cases rx;obtain⟨t,rfl⟩:=ry;obtain⟨its,r,pl,hz⟩:=I.tuple hq;obtain⟨j,h1,h2,h3,h4,h5⟩:=zfy he;obtain⟨w,ew,rw'⟩:=r.get h2;have hl:=r.length;have hn:=zdu;have fin:EP X pins σ Q w s:=⟨z,H,I,rw',q⟩;exact subscriptTail_builtinR (x:=w) pl.typeIs slot_tuple_getitem.lookup
  (getItem_tuple (j:=j) (Q:=fun r s'=>r=w∧EP X pins σ Q r s') pl (by omega) (by omega) (by rw [List.size_toArray,←hl];exact h1) (by simpa using ew) ⟨rfl,fin⟩) hs
theorem znW:IxR X zpG:=by
 intro value slice pins s σ H x y v u Q I rx ry h hs;obtain⟨z,i,c,rfl,rfl,hz,he,q⟩:=h;obtain⟨t,rfl⟩:=rx;obtain⟨t',rfl⟩:=ry;obtain⟨j,h1,h2,h3,h4,h5⟩:=zfy he;have hl:z.cps.toList.length=z.length:=by simp [Str.length]
 rw [hl]at h1 h4 h5;have hn:=zdu;exact tail_any (typeIs_str s z t) slot_str_getitem.lookup (getItem_str (c:=c) (by
  have e1:decide (i< -(2 ^ 63:Int))=false:=decide_eq_false (by omega);have e2:decide (i≥2 ^ 63)=false:=decide_eq_false (by omega);rw [e1,e2,Bool.or_false]) (by rw [h1];simpa using h2) ⟨.str ⟨#[c]⟩,H,I.tok _,⟨_,rfl⟩,q⟩) hs
noncomputable def rIx (K:PySem.W.Frag):R2:=fun x y H Q=>zpA K x y H Q∨zpE K x y H Q∨zpG x y H Q
theorem zka:IxR X (rIx X.K):=ix_list.or (ix_tup.or znW)
theorem zen (lo hi:Option Int) (n:Nat):(sliceBounds lo hi none n).1=((HT.sIx n 0 lo:Nat):Int)∧(sliceBounds lo hi none n).2.1=((HT.sIx n n hi:Nat):Int)∧(sliceBounds lo hi none n).2.2=1:=by
 refine⟨?_,?_,rfl⟩
 ·cases lo with
  |none=>simp [sliceBounds,HT.sIx]
  |some i=>
   simp only[sliceBounds,HT.sIx,Option.getD_none,show(1:Int) > 0 by decide,if_true]
   by_cases h:i<0
   ·simp only[h,if_true]<;>omega
   ·simp only[h,if_false]<;>omega
 ·cases hi with
  |none=>simp [sliceBounds,HT.sIx]
  |some i=>
   simp only[sliceBounds,HT.sIx,Option.getD_none,show(1:Int) > 0 by decide,if_true]
   by_cases h:i<0
   ·simp only[h,if_true]<;>omega
   ·simp only[h,if_false]<;>omega
theorem zdN (its:List Value) (lo hi:Option Int):slicePick its.toArray lo hi none=((its.drop (HT.sIx its.length 0 lo)).take (HT.sIx its.length its.length hi - HT.sIx its.length 0 lo)).toArray:=by
 obtain⟨h1,h2,h3⟩:=zen lo hi its.toArray.size;unfold slicePick;rw [h1,h2,h3];simp only[sliceRange_one,pick_run,List.size_toArray]<;>rfl
noncomputable def zql (K:PySem.W.Frag):V→Option Int→Option Int→Hp→VK→Prop:=fun x lo hi H Q=>∃a xs,x= .ref a∧SqL K H a xs∧ ∀p,H p=none→Q (.ref p) (upd H p (.lst (zie xs lo hi)))
theorem zio:SlR X (zql X.K):=by
 intro pins s σ H x v vl vu lo hi sl Q I rx hs pl pu h;obtain⟨a,xs,rfl,hx,q⟩:=h;cases rx;obtain⟨its,r,ht,hz⟩:=I.list hx;have hlen:=r.length;refine⟨"list",_,slot_list_getitem.lookup,ht.isList.typeIs,?_⟩;refine wpAny_getItem_list_slice ht.isList hs pl pu .none (by simp) ?_ (by rw [List.size_toArray]<;>omega);rw [zdN,←hlen];refine⟨.ref s.heap.objs.size,_,I.laid (t':=s.toks) (o:= .lst (zie xs lo hi)) (fun b ob q=>Heap.get?_push_of_some _ q) (Nat.le_refl _) ?_,rfl,q _ (I.hok.fresh (Nat.le_refl _))⟩;exact⟨Nat.le_trans (zdf xs lo hi) hz,_,0,(r.drop (HT.sIx xs.length 0 lo)).take (HT.sIx xs.length xs.length hi - HT.sIx xs.length 0 lo),Heap.get?_push_size _ rfl⟩
theorem call_len_seq:CallR X (.builtin "len") (fun xs H Q=>∃p ys,xs=[.ref p]∧(SqL X.K H p ys∨SqT X.K H p ys)∧Q (.int ys.length) H):=by
 intro pins s σ H xs us Q I r h;obtain⟨p,ys,rfl,hq,q⟩:=h;obtain⟨u,rfl,rx⟩:=zfu r;cases rx;have hn:=zdu;rcases hq with hq |hq
 ·obtain⟨its,r',pl,hz⟩:=I.list hq;have hlen:=r'.length;exact Calls.call_len_list pl.isList (by simp only[List.size_toArray]<;>omega) ⟨.int ys.length,H,I.tok _,⟨s.toks+1,by rw [List.size_toArray,hlen]⟩,q⟩
 ·obtain⟨its,r',pl,hz⟩:=I.tuple hq;have hlen:=r'.length;exact len_tuple pl (by simp only[List.size_toArray]<;>omega) ⟨.int ys.length,H,I.tok _,⟨s.toks+1,by rw [List.size_toArray,hlen]⟩,q⟩
theorem zfc:CallR X (.builtin "len") (fun xs H Q=>∃z,xs=[.str z]∧z.length≤sizeLine∧Q (.int z.length) H):=by
 intro pins s σ H xs us Q I r h;obtain⟨z,rfl,hz,q⟩:=h;obtain⟨u,rfl,t,rfl⟩:=zfu r;have hn:=zdu;exact len_str (by omega) ⟨.int z.length,H,I.tok _,⟨_,rfl⟩,q⟩
theorem CallR.or{f:Value}{r r':List V→Hp→VK→Prop}(h:CallR X f r) (h':CallR X f r'):CallR X f (fun xs H Q=>r xs H Q∨r' xs H Q):=by
 intro pins s σ H xs us Q I rs q;rcases q with q |q
 ·exact h pins s σ H xs us Q I rs q
 ·exact h' pins s σ H xs us Q I rs q
theorem zcl:CallR X (.type "tuple") (fun xs H Q=>∃p ys,xs=[.ref p]∧((SqL X.K H p ys∧ ∀l,H l=none→Q (.ref l) (upd H l (.tup ys)))∨(SqT X.K H p ys∧Q (.ref p) H))):=by
 intro pins s σ H xs us Q I r h;obtain⟨p,ys,rfl,h⟩:=h;obtain⟨u,rfl,rx⟩:=zfu r;cases rx;rcases h with⟨hq,q⟩ |⟨hq,q⟩
 ·obtain⟨its,r',pl,hz⟩:=I.list hq;have hlen:=r'.length;refine call_tuple_list pl.isList (fun h' kp=>?_) (by simp only[List.size_toArray]<;>omega);have I1:Inv X pins σ H { s with heap:=h' }:=I.kept (t':=s.toks) kp;have I2:Inv X pins σ (upd H h'.objs.size (.tup ys)) { s with heap:=h'.push { cls:= .type "tuple",data:= .seq its.toArray } }:=
   I1.laid (t':=s.toks) (fun b o e=>Heap.get?_push_of_some _ e) (Nat.le_refl _) (show ObjOk X.prog X.w _ _ _ (.tup ys) from⟨hz,its,r',IsTup.new _ _⟩)
  exact⟨.ref h'.objs.size,_,I2,rfl,q _ (I1.hok.fresh (Nat.le_refl _))⟩
 ·obtain⟨its,r',pl,hz⟩:=I.tuple hq;exact call_tuple_same pl ⟨.ref p,H,I,rfl,q⟩
noncomputable def tyV (K:PySem.W.Frag) (T:String) (x:V) (H:Hp):Prop:=match x with
 | .str _=>T= "str"
 | .int _=>T= "int"
 | .ref p=>(T= "list" ∧ ∃xs,SqL K H p xs)∨(T= "tuple" ∧ ∃o,K.lookup p=some o∧o.cls= .type "tuple" ∧o.dict=none)∨
   (T= "dict" ∧((∃kvs,H p=some (.dK kvs))∨ ∃kvs,H p=some (.dT kvs)))∨(T= "set" ∧ ∃S n,H p=some (.set S n))
 |_=>False
theorem zkt{pins:List (Addr×Obj)}{σ:St}{H:Hp}{s:Shared}{T:String}{x:V}{v:Value}(I:Inv X pins σ H s) (r:RelV x v) (ty:tyV X.K T x H) :
  s.TypeIs v T∧ ∀a,v= .ref a→ ∃ob,s.heap.get? a=some ob∧ob.dict=none:=by
 cases x with
 |str z=>
  obtain⟨t,rfl⟩:=r;cases(show T= "str" from ty);exact⟨typeIs_str s z t,fun _ e=>nomatch e⟩
 |int i=>
  obtain⟨t,rfl⟩:=r;cases(show T= "int" from ty);exact⟨typeIs_int s i t,fun _ e=>nomatch e⟩
 |ref p=>
  cases r;rcases ty with⟨rfl,xs,hq⟩ |⟨rfl,o,hk,hc,hd⟩ |⟨rfl,hk⟩ |⟨rfl,S,n,hk⟩
  ·obtain⟨its,_,pl,_⟩:=I.list hq;refine⟨pl.isList.typeIs,fun a e=>?_⟩;cases e;obtain⟨o,n,e,c,hd,_⟩:=pl;exact⟨o,e,hd⟩
  ·refine⟨⟨o,I.kIn p o hk,hc⟩,fun a e=>?_⟩;cases e;exact⟨o,I.kIn _ o hk,hd⟩
  ·have z:∃o,s.heap.get? p=some o∧o.ExactDict:=by
    rcases hk with⟨kvs,hk⟩ |⟨kvs,hk⟩
    ·obtain⟨_,_,_,_,o,_,_,e,ex,_⟩:=I.hok p _ hk;exact⟨o,e,ex⟩
    ·obtain⟨_,_,_,_,o,_,_,e,ex,_⟩:=I.hok p _ hk;exact⟨o,e,ex⟩
   obtain⟨o,e,ex⟩:=z;refine⟨⟨o,e,ex.1⟩,fun a e2=>?_⟩;cases e2;exact⟨o,e,ex.2.1⟩
  ·obtain⟨o,_,_,_,e,ex,_⟩:=I.hok p _ hk;refine⟨⟨o,e,ex.1⟩,fun a e2=>?_⟩;cases e2;exact⟨o,e,ex.2.1⟩
 |_=>exact False.elim ty
noncomputable def zpT (K:PySem.W.Frag) (T:String) (r:V→List V→Hp→VK→Prop) (to:TE):TE:=fun σ H Q=>to σ H fun x H1=>tyV K T x H1∧r x [] H1 Q
noncomputable def tBM (K:PySem.W.Frag) (T:String) (r:V→List V→Hp→VK→Prop) (to:TE) (t:TA):TE:=fun σ H Q=>to σ H fun x H1=>tyV K T x H1∧t σ H1 fun xs H2=>r x xs H2 Q
variable {o e:Expr}{es:List Expr}{to:TE}{t:TA}{name:Str}{apos cpos:Pos}{T id:String}{r:V→List V→Hp→VK→Prop}
theorem znq (pa:PlainAttrs T) (slot:Slot T name id) (hty:typeOf (.builtin id)=pure (.type "method_descriptor")) (hm:MtR X id r) (ho:PE X o to)
  (hbase:attributeBase o name X.env (eval o X.env)=eval o X.env:=by rfl) (hline:(apos.endLine == cpos.line)=true:=by rfl):PE X (.Call (.Attribute o name apos) [] [] cpos) (zpT X.K T r to):=by
 intro pins s σ H Q I h;refine wpAny_Call_method0_late hbase hline (thn (ho pins s σ H _ I h) fun v s1 ⟨x,H1,I1,r1,ty,q1⟩=>?_);obtain⟨h1,h2⟩:=zkt I1 r1 ty;exact⟨T,id,pa,slot,hty,h1,h2,Calls.callWith_builtin rfl (PySem.evalArgs_none (hm pins s1 σ H1 x [] v [] Q I1 r1 .nil q1))⟩
theorem zmF (pa:PlainAttrs T) (slot:Slot T name id) (hty:typeOf (.builtin id)=pure (.type "method_descriptor")) (hm:MtR X id r) (ho:PE X o to) (ha:PA X (e::es) t)
  (hbase:attributeBase o name X.env (eval o X.env)=eval o X.env:=by rfl)
  (hfew:((backTo cpos (starEach (e::es) X.env)).all (fun x=> !x.1)&&(backToKw cpos (keywordEach [] X.env)).all (fun x=>x.1.isSome)
   &&decide ((e::es).length+([]:List Keyword).length+(if([]:List Keyword).isEmpty then 0 else 1)<30))=true:=by rfl)
  (hline:(apos.endLine == cpos.line)=true:=by rfl) (hs:starEach (e::es) X.env=(false,eval e X.env)::starEach es X.env:=by rfl) (hplain:(backTo cpos (starEach es X.env)).any (·.1)=false:=by rfl) :
  PE X (.Call (.Attribute o name apos) (e::es) [] cpos) (tBM X.K T r to t):=by
 intro pins s σ H Q I h;refine wpAny_Call_method_late hbase hfew hline rfl (thn (ho pins s σ H _ I h) fun v s1 ⟨x,H1,I1,r1,ty,q1⟩=>?_);obtain⟨h1,h2⟩:=zkt I1 r1 ty;refine⟨T,id,pa,slot,hty,h1,h2,?_⟩;have hA:=ha cpos pins s1 σ H1 _ I1 q1;rw [hs]at hA⊢;refine Calls.callWith_builtin (by show(false || (backTo cpos (starEach es X.env)).any (·.1))=false;rw [hplain]<;>rfl) (Calls.evalArgs_plain ?_)
 exact thn hA fun us s2 ⟨vs,H2,I2,r2,q2⟩=>hm pins s2 σ H2 x vs v us Q I2 r1 r2 q2
end
noncomputable def MtM (X:Cx) (id:String) (r:V→List V→Hp→VK→Prop):Prop:=
 ∀(pins:List (Addr×Obj)) (s:Shared) (σ:St) (H:Hp) (x:V) (xs:List V) (v:Value) (us:List Value) (Q:VK),Inv X pins σ H s→RelV x v→Vals xs us→r x xs H Q→
  wpAny (model X.prog X.w) X.A (call (.builtin id) (v::us)) (EP X pins σ Q) X.xe s
theorem Vals.one:∀{x:V}{us:List Value},Vals [x] us→ ∃u,us=[u]∧RelV x u
 |_,_, .cons r .nil=>⟨_,rfl,r⟩
theorem Vals.rep{xs:List V}{us:List Value}(h:Vals xs us):∀k:Nat,Vals (List.replicate k xs).flatten (List.replicate k us).flatten
 |0=> .nil
 |k+1=>by
  rw [List.replicate_succ,List.replicate_succ,List.flatten_cons,List.flatten_cons];exact Vals.append h (Vals.rep h k)
theorem zem (its:List Value):∀(k:Nat) (acc:List Value),
  List.foldl (fun x1 x2=>x1++x2) acc.toArray (List.replicate k its.toArray)=(acc++(List.replicate k its).flatten).toArray
 |0,acc=>by simp
 |k+1,acc=>by
  have e:acc.toArray++its.toArray=(acc++its).toArray:=by simp
  have e2:(acc++its)++(List.replicate k its).flatten=acc++(List.replicate (k+1) its).flatten:=by
   rw [List.replicate_succ,List.flatten_cons,List.append_assoc]
  rw [←e2,←zem its k (acc++its),←e,List.replicate_succ,List.foldl_cons]
section
variable {X:Cx}{pins:List (Addr×Obj)}{σ:St}{H:Hp}{s:Shared}{l:Addr}{xs ys:List V}
theorem Inv.lset{its its':List Value}{n:Nat}{f:Array Value→Array Value}{t':Nat}(I:Inv X pins σ H s) (hH:H l=some (.lst xs))
  (e:s.heap.get? l=some { cls:= .type "list",data:= .seq its.toArray n }) (hf:f its.toArray=its'.toArray) (hv:Vals ys its') (hz:ys.length≤sizeLine) :
  Inv X pins σ (upd H l (.lst ys)) { s with heap:=s.heap.update l (Obj.mapSeq f),toks:=t' }:=by
 have q:=PySem.IsL.update e f;rw [hf]at q;refine I.write (x:=l) (e:=l) (by rw [hH];exact trivial) (.inl rfl) (fun b' u hb hu=>(Heap.get?_update_other s.heap (Obj.mapSeq f) (Ne.symm hb)).trans hu) ⟨_,q⟩ ?_;exact⟨hz,its',_,hv,q⟩
theorem Inv.lnew{its:List Value}{t':Nat}(I:Inv X pins σ H s) (hv:Vals ys its) (hz:ys.length≤sizeLine) :
  Inv X pins σ (upd H s.heap.objs.size (.lst ys)) { s with heap:=s.heap.push { cls:= .type "list",data:= .seq its.toArray },toks:=t' }:=
 I.laid (fun _ _ q=>Heap.get?_push_of_some _ q) (Nat.le_refl _) ⟨hz,its,0,hv,Heap.get?_push_size _ rfl⟩
theorem Inv.fresh (I:Inv X pins σ H s):H s.heap.objs.size=none:=I.hok.fresh (Nat.le_refl _)
theorem Inv.lstM (I:Inv X pins σ H s) (hH:H l=some (.lst xs)):xs.length≤sizeLine∧ ∃(its:List Value) (n:Nat),Vals xs its∧xs.length=its.length∧s.heap.get? l=some { cls:= .type "list",data:= .seq its.toArray n }:=by
 obtain⟨z,its,n,r,e⟩:=I.hok l _ hH;exact⟨z,its,n,r,r.length,e⟩
theorem zgx{n:Nat}(h:n≤sizeLine):Builtin.List.listTooLong n=false:=by
 unfold Builtin.List.listTooLong;exact decide_eq_false (by omega)
end
section
variable {X:Cx}
noncomputable def zhG:V→List V→Hp→VK→Prop:=fun x vs H Q=>∃l xs y,x= .ref l∧vs=[y]∧H l=some (.lst xs)∧xs.length<sizeLine∧Q .non (upd H l (.lst (xs++[y])))
theorem zeC:MtM X "list.append" zhG:=by
 intro pins s σ H x vs v us Q I rx rv h;obtain⟨l,xs,y,rfl,rfl,hH,hz,q⟩:=h;cases rx;obtain⟨u,rfl,ru⟩:=rv.one;obtain⟨z,its,n,r,hl,e⟩:=I.lstM hH;refine call_meets F.slot_list_append ⟨_,e,rfl⟩ F.entry_list_append (F.args_list_append_2 _ _) (PySem.list_append l its.toArray n u (by rw [List.size_toArray];omega)) ⟨e,?_⟩;refine⟨.non,_,I.lset (its':=its++[u]) hH e (by simp) (r.append (.cons ru .nil)) ?_,rfl,q⟩;rw [List.length_append,List.length_singleton];omega
noncomputable def zic:V→List V→Hp→VK→Prop:=fun x vs H Q=>∃l b xs zs,x= .ref l∧vs=[.ref b]∧H l=some (.lst xs)∧H b=some (.lst zs)∧xs.length+zs.length≤sizeLine∧Q .non (upd H l (.lst (xs++zs)))
theorem zij:MtM X "list.extend" zic:=by
 intro pins s σ H x vs v us Q I rx rv h;obtain⟨l,b,xs,zs,rfl,rfl,hH,hB,hz,q⟩:=h;cases rx;obtain⟨u,rfl,ru⟩:=rv.one;cases ru;obtain⟨z,its,n,r,hl,e⟩:=I.lstM hH;obtain⟨z2,its2,n2,r2,hl2,e2⟩:=I.lstM hB;have hsz:its.toArray.size+its2.toArray.size≤sizeLine:=by rw [List.size_toArray,List.size_toArray];omega
 have hlong:¬(!its.toArray.isEmpty&&Builtin.List.listTooLong (its.toArray.size+its2.toArray.size))=true:=by
  rw [zgx hsz,Bool.and_false];exact Bool.false_ne_true
 refine call_meets F.slot_list_extend ⟨_,e,rfl⟩ F.entry_list_extend (F.args_list_extend_2 _ _)
  (AutoSeq1.list_extend_list_list_0 l its.toArray n b its2.toArray n2 hlong (by rw [List.size_toArray];omega) (by omega)) ⟨e,e2,?_⟩
 refine⟨.non,_,I.lset (its':=its++its2) hH e (by simp) (r.append r2) ?_,rfl,q⟩;rw [List.length_append];omega
noncomputable def zoO:R2:=fun x y H Q=>∃l b xs zs,x= .ref l∧y= .ref b∧H l=some (.lst xs)∧H b=some (.lst zs)∧xs.length+zs.length≤sizeLine∧ ∀p,H p=none→Q (.ref p) (upd H p (.lst (xs++zs)))
theorem zim:OpR X (binaryOp .Add) zoO:=by
 intro pins s σ H x y v u Q I rx ry h;obtain⟨l,b,xs,zs,rfl,rfl,hH,hB,hz,q⟩:=h;cases rx;cases ry;obtain⟨z,its,n,r,hl,e⟩:=I.lstM hH;obtain⟨z2,its2,n2,r2,hl2,e2⟩:=I.lstM hB;refine PySem.P.add_list e e2 ?_ (by rw [List.size_toArray,List.size_toArray];omega);have ea:its.toArray++its2.toArray=(its++its2).toArray:=by simp
 rw [ea];exact⟨.ref _,_,I.lnew (t':=s.toks) (r.append r2) (by rw [List.length_append];omega),rfl,q _ I.fresh⟩
theorem zlu{α:Type}(xs:List α) (k:Nat):(List.replicate k xs).flatten.length=k*xs.length:=by
 induction k with
 |zero=>simp
 |succ k ih=>rw [List.replicate_succ,List.flatten_cons,List.length_append,ih,Nat.succ_mul,Nat.add_comm]
end
end L2
namespace Att
open PySem PySem.W PySem.Calls PyProof.Rows
theorem zcS{P:Params}{h:Heap}:∀(ns:List Int) (vs:List Value),WellAll P h vs (ns.map WData.int)→IntsAre vs ns:=by
 intro ns
 induction ns with
 |nil=>
  intro vs w;rw [List.map_nil]at w;cases w;exact .nil
 |cons n ns ih=>
  intro vs w;rw [List.map_cons]at w;cases w with
  |cons a b=>
   cases a;exact .cons _ _ (ih _ b)
theorem zhq{l:OpenLaw}{n:Nat}(hn:l.most=some n) {P:Params}{h:Heap}{args:List WData}{vals:List Value}
  (hpre:l.row.toRowW.claim.pre args=true) (hwl:WellAll P h vals args) :
  ∃a vs ns,vals=[Value.ref a]∧args=[WData.list (ns.map WData.int)]∧h.get? a=some { cls:= .type "list",data:= .seq vs.toArray }∧IntsAre vs ns∧ns.length≤n:=by
 have hsh:WShape.hasAll [] args [.list .int]=true:=(pre_splitW hpre).1;have hc:l.pre.holds [] { args:=args }=true:=(pre_splitW hpre).2;obtain⟨d,r,rfl,h1,h2⟩:=hasAllW_cons hsh;obtain rfl:=hasAllW_nil h2;obtain⟨xs,rfl,h3⟩:=hasW_list h1;obtain⟨ns,rfl⟩:=items_int h3;have hlen:ns.length≤n:=by
  unfold OpenLaw.pre at hc;have h4:(WTm.not (.lt (.lit (.int (n:Int))) (.len (.arg 0)))).holds [] { args:=[.list (ns.map .int)] }=true:=by
   have h4:=(holds_andW hc).1;rw [hn]at h4;exact h4
  have h5:=condW_of h4 (w_not (w_lt w_lit (w_len_list (w_arg rfl))));rw [List.length_map]at h5;refine Nat.le_of_not_lt fun q=>?_;have q':(n:Int)<((ns.length:Nat):Int):=by omega
  first
   | (rw [decide_eq_true q']at h5;exact absurd h5 (by decide))
   | (simp at h5;omega)
 cases hwl with
 |cons w1 w2=>
  cases w2;cases w1 with
  |list ho hall=>exact⟨_,_,ns,rfl,rfl,ho,zcS ns _ hall,hlen⟩
theorem zib (l:OpenLaw) (args:List WData):l.row.toRowW.claim.post args (.bool true) args=true:=
 postW_of (r:=l.row.toRowW) (X:=(true == true))
  (show WShape.has [] (.bool true) .bool=true by first |rfl |decide |simp [WShape.has,WShape.arms,WShape.armsAll])
  (show(WTm.eq .res (.lit (.bool true))).value [] { args:=args,res:=some (.bool true),after:=args }=some (.bool (true == true)) from w_eq_bool (w_res rfl) w_lit) rfl
theorem attach_call{l:OpenLaw}{n:Nat}{q:Program}{loose:List Str}{XP:(Str→Option Value)→Heap→Prop}{YP:World→Heap→Prop}{d:DefRec}
  (hn:l.most=some n) (hdf:d.params.defaults=[])
  (call:∀(w:World) (s₀ s₁:Shared) (mg mb:Str→Option Value) (fa:Addr) (o:Obj) (pm cd doc:Value) (a:Addr) (vs:List Value) (ns:List Int),
   Ground q loose [] XP w s₀ mg mb s₁.heap→YP w s₁.heap→
   s₁.heap.get? fa=some o→o.data= .func (docDef d.name d.params d.body d.scope pm cd doc)→s₁.heap.CodeRec cd d.name→mg d.name=some (.ref fa)→
   s₁.heap.get? a=some { cls:= .type "list",data:= .seq vs.toArray }→IntsAre vs ns→ns.length≤n→s₁.gens= #[]→
   codeAny (model l.prog w) callerA (.call (.ref fa) ⟨[.ref a],[]⟩) (fun r s'=>r= .ok (.ret (.bool true))∧OldK s₁.heap s'.heap∧s'.os=s₁.os∧AllBare s'.gens) s₁) :
  WalkO q loose XP YP l.row.toRowW d [] (fun f vs=>PySem.call f vs):=by
 intro w s₀ s₁ mg mb G Y fa o pm cd doc dV kV ho hd hcd hD hmg hg args vals as hpre hlay hrd hwl hlo;obtain rfl:dV= .none:=Dflts.none hD hdf;obtain rfl:kV= .none:=Dflts.noKw hD;obtain⟨a,vs,ns,rfl,rfl,hobj,hints,hlen⟩:=zhq hn hpre hwl;refine enter_call (codeAny_mono (call w s₀ s₁ mg mb fa o pm cd doc a vs ns G Y ho (fd_plain hd) hcd hmg hobj hints hlen hg) fun r s' hq=>?_);obtain⟨rfl,h2,h3,h4⟩:=hq;exact⟨.inl ⟨.bool true, .bool true,[],rfl,fun _=>rfl, .bool true,zib l _,fun _=>⟨List.Pairwise.nil,fun _ hm=>(nomatch hm)⟩⟩,h2,h3,h4⟩
end Att
namespace L2
open PySem PySem.Spec PyProof.Rows
theorem zeA:∀{vs:List Value}{ns:List Int},IntsAre vs ns→Vals (ns.map V.int) vs
 |_,_, .nil=> .nil
 |_,_, .cons n t h=> .cons ⟨t,rfl⟩ (zeA h)
noncomputable def zoa (H:Hp):Prop:=∀b,H b=none∨ ∃o xs,H b=some (.frz o (.lst xs))
theorem zjG{P:Program}{w:World}{K:PySem.W.Frag}{mg mb:Str→Option Value}{CX:CXT}{k:Nat}{fa a:Addr}{fd:FuncData}{x:Str}{sp:Sp}{s₁:Shared}{vs:List Value}{ns:List Int}
  (KX:K.In s₁.heap) (hns:s₁.heap.Ns mainGlobals mg) (hb:s₁.heap.Ns builtinsNs mb) (hbb:∀x:Str,x≠ "__name__" →mb x=bootBuiltins x) (hlim:s₁.heap.NoLimit) (hg:s₁.gens= #[])
  (ha:s₁.heap.get? a=some { cls:= .type "list",data:= .seq vs.toArray }) (hi:IntsAre vs ns) (hl:ns.length≤sizeLine) (hr:Room k callerA)
  (F:∀base:Heap,K.In base→base.Ns mainGlobals mg→FnOk P w K mg base CX k fa fd [x] sp) (hbind:∀(s:Shared) (u:Value),BindsTo s fd ⟨[u],[]⟩ [(x,u)])
  (hsp:∀H:Hp,zoa H→SqL K H a (ns.map V.int)→sp [.ref a] H (fun v _=>v= .bl true) fun _ _ _=>False)
  (hCX:∀H e s',CX [] H s₁ (fun _ _ _=>False) e s'→False) :
  codeAny (model P w) callerA (.call (.ref fa) ⟨[.ref a],[]⟩) (fun r s'=>r= .ok (.ret (.bool true))∧OldK s₁.heap s'.heap∧s'.os=s₁.os∧AllBare s'.gens) s₁:=by
 have rv:=zeA hi;have lenV:=hi.length;have core:∀H:Hp,zoa H→SqL K H a (ns.map V.int)→HOk P w H s₁.heap→(∀b,H b≠none→b=a)→(H a≠none→K.lookup a=none)→
   codeAny (model P w) callerA (.call (.ref fa) ⟨[.ref a],[]⟩) (fun r s'=>r= .ok (.ret (.bool true))∧OldK s₁.heap s'.heap∧s'.os=s₁.os∧AllBare s'.gens) s₁:=by
  intro H hO hS hok hA hK;have base_of:∀{b:Addr}{o:Obj},s₁.heap.get? b=some o→H b=none→(zjM s₁.heap H).get? b=some o:=fun e n=>zjK e n;have noA:∀{b:Addr}{o:Obj}{es:Array DictEntry}{ep:Nat},s₁.heap.get? b=some o→o.data= .dict es ep→H b=none:=fun {b o es ep} e d=>by
   cases q:H b with
   |none=>rfl
   |some u=>
    have e':b=a:=hA b (by rw [q];simp);subst e';rw [ha]at e;cases e;have d':Data.seq vs.toArray _=Data.dict es ep:=d;cases d'
  have nsK:∀{b:Addr}{m:Str→Option Value},s₁.heap.Ns b m→(zjM s₁.heap H).Ns b m:=fun {b m} ⟨o,es,ep,e,d,r⟩=>⟨o,es,ep,base_of e (noA e d),d,r⟩;have hKb:K.In (zjM s₁.heap H):=fun b o e=>base_of (KX b o e) (by
   cases q:H b with
   |none=>rfl
   |some u=>
    have e':b=a:=hA b (by rw [q];simp);subst e';rw [hK (by rw [q];simp)]at e;cases e)
  have hM:Mod K mg (zjM s₁.heap H):=⟨hKb,nsK hns,⟨mb,nsK hb,hbb⟩,let ⟨mc,h1,h2⟩:=hlim;⟨mc,nsK h1,h2⟩⟩;have e0:Env0 P w K mg (zjM s₁.heap H) callerA [] s₁ H:=⟨rfl,hM,fun b o e=>zkN e,Nat.le_of_eq (ziv _ _),trivial,fun b hb=>absurd (show b∈([]:List Addr) from hb) (by simp),hok, .of_eq hg⟩;refine codeAny_mono ((F _ hKb (nsK hns)).run callerA [] s₁ H ⟨[.ref a],[]⟩ [.ref a] [.ref a] _ _ hr e0 (hbind s₁ (.ref a)) (.cons rfl .nil) (hsp H hO hS)) fun r s' h=>?_;cases r with
  |error e=>exact(hCX H e s' h).elim
  |ok fl=>
   cases fl with
   |next=>exact False.elim h
   |brk=>exact False.elim h
   |cont=>exact False.elim h
   |ret u=>
    obtain⟨v,H',os,bare,un,hok',r',q⟩:=h;have q':v= .bl true:=q;subst q';obtain rfl:u=Value.bool true:=r';refine⟨rfl,OldK.of_keep fun b o e=>?_,os,bare⟩;cases q:H b with
    |none=>exact un.keep b o e q (by intro z;exact absurd (show b∈([]:List Addr) from z) (by simp)) (by simp)
    |some u=>
     rcases hO b with z |⟨ob,xs,z⟩
     ·rw [q]at z;cases z
     ·have z2:=un.frzs b ob _ z;obtain⟨e1,_⟩:=hok b _ z;obtain⟨e2,_⟩:=hok' b _ z2;rw [e]at e1;cases e1;exact e2
 cases hk:K.lookup a with
 |some o=>
  have e:=KX a o hk;rw [ha]at e;cases e;refine core (fun _=>none) (fun _=> .inl rfl) (.inr ⟨_,vs.toArray,_,hk,rfl,rfl,rfl,by rw [List.size_toArray,lenV];exact hl,by simpa using rv⟩) (fun b u z=>by have z':(none:Option HO)=some u:=z;cases z') (fun b z=>absurd rfl z) fun z=>absurd rfl z
 |none=>
  refine core (fun b=>if b=a then some (.frz { cls:= .type "list",data:= .seq vs.toArray } (.lst (ns.map V.int))) else none) (fun b=>?_) (.inl (.inr ⟨{ cls:= .type "list",data:= .seq vs.toArray },if_pos rfl⟩)) (fun b u z=>?_) (fun b z=>?_) fun _=>hk
  ·by_cases hb:b=a
   ·exact .inr ⟨_,_,if_pos hb⟩
   ·exact .inl (if_neg hb)
  ·by_cases hb:b=a
   ·have z':=(if_pos hb).symm.trans z;cases z';subst hb;exact⟨ha,by rw [List.length_map];exact hl,vs,_,rv,ha⟩
   ·have z':=(if_neg hb).symm.trans z;cases z'
  ·by_cases hb:b=a
   ·exact hb
   ·exact absurd (if_neg hb) z
theorem zkC{l:PySem.W.OpenLaw}{n k:Nat}{q:Program}{loose:List Str}{XP:(Str→Option Value)→Heap→Prop}{YP:World→Heap→Prop}{d:DefRec}{K:Params→PySem.W.Frag}{CX:World→CXT}{sp:World→Sp}{x:Str}
  (hn:l.most=some n) (hn2:n≤sizeLine) (hdf:d.params.defaults=[]) (hr:Room k callerA)
  (hY:∀(w:World) (h:Heap),YP w h→(K w.params).In h)
  (F:∀(w:World) (mg:Str→Option Value) (fa:Addr) (h:Heap),(K w.params).In h→h.Ns mainGlobals mg→mg d.name=some (.ref fa)→
   ∃fd:FuncData,(∀(s:Shared) (u:Value),BindsTo s fd ⟨[u],[]⟩ [(x,u)])∧
    ∀base:Heap,(K w.params).In base→base.Ns mainGlobals mg→FnOk l.prog w (K w.params) mg base (CX w) k fa fd [x] (sp w))
  (hsp:∀(w:World) (H:Hp) (a:Addr) (ns:List Int),ns.length≤n→zoa H→SqL (K w.params) H a (ns.map V.int)→sp w [.ref a] H (fun v _=>v= .bl true) fun _ _ _=>False)
  (hCX:∀(w:World) (H:Hp) (s:Shared) (e:Value) (s':Shared),CX w [] H s (fun _ _ _=>False) e s'→False) :
  PySem.W.WalkO q loose XP YP l.row.toRowW d [] (fun f vs=>PySem.call f vs):=by
 refine Att.attach_call hn hdf fun w s₀ s₁ mg mb fa o pm cd doc a vs ns G Y ho hd hcd hmg hobj hints hlen hg=>?_;have KX:=hY w _ Y;obtain⟨fd,hb,hF⟩:=F w mg fa _ KX G.T.g hmg;exact zjG KX G.T.g G.T.b G.T.builtins G.T.nolimit hg hobj hints (Nat.le_trans hlen hn2) hr hF hb (fun H hO hS=>hsp w H a ns hlen hO hS) fun H e s'=>hCX w H s₁ e s'
noncomputable def zdd (s:Stmt):Arguments:=match s with
 | .FunctionDef _ a _ _ _ _ _ _ _ _=>a
 |_=>{ posonlyargs:=[],args:=[],vararg:=none,kwonlyargs:=[],kw_defaults:=[],kwarg:=none,defaults:=[] }
noncomputable def zcy (s:Stmt):List Stmt:=match s with
 | .FunctionDef _ _ b _ _ _ _ _ _ _=>b
 |_=>[]
noncomputable def zak (s:Stmt):Scope:=match s with
 | .FunctionDef _ _ _ _ _ _ sc _ _ _=>sc
 |_=>{ kind:= .function,names:=[],isGenerator:=false,isCoroutine:=false }
structure Fun (K:PySem.W.Frag) (x qual:Str) (st:Stmt) (f:Addr) (fd:FuncData):Prop where
  ex:∃(oc:Value) (od:Option Addr) (kV doc pm:Value) (an:Option Addr) (cdv ct:Value) (osl:Array (Option Value)),
    fd=PySem.W.fnOf x qual (zdd st) (zcy st) (zak st) .none kV doc pm an cdv ct∧K.lookup f=some ⟨oc,od, .func fd,osl⟩∧PySem.W.codeIn K cdv qual=true
  kp:PySem.W.keepIn K (.ref f)=true
section
variable {K:PySem.W.Frag}
theorem Fun.binds{x qual:Str}{st:Stmt}{f:Addr}{fd:FuncData}{ps:List Str}(F:Fun K x qual st f fd)
  (h:∀(kV doc pm:Value) (an:Option Addr) (cdv ct:Value) (us:List Value),us.length=ps.length→bindArgs (PySem.W.fnOf x qual (zdd st) (zcy st) (zak st) .none kV doc pm an cdv ct) ⟨us,[]⟩=pure (ps.zip us)):Binds K fd ps []:=by
 obtain⟨oc,od,kV,doc,pm,an,cdv,ct,osl,rfl,lk,hcd⟩:=F.ex;exact .all (h kV doc pm an cdv ct)
theorem znw{x qual:Str}{st:Stmt}{f:Addr}{oc:Value}{od an:Option Addr}{osl:Array (Option Value)}{kV doc pm cdv ct:Value}(l:K.lookup f=some ⟨oc,od, .func (PySem.W.fnOf x qual (zdd st) (zcy st) (zak st) .none kV doc pm an cdv ct),osl⟩)
  (c:PySem.W.codeIn K cdv qual=true) (k:PySem.W.keepIn K (.ref f)=true):Fun K x qual st f (PySem.W.fnOf x qual (zdd st) (zcy st) (zak st) .none kV doc pm an cdv ct):=⟨⟨oc,od,kV,doc,pm,an,cdv,ct,osl,rfl,l,c⟩,k⟩
end
theorem zpX{A B:Prop}(h:B):if false=true then A else B:=by
 rw [if_neg Bool.false_ne_true];exact h
theorem zpJ{A B:Prop}(h:A):if true=true then A else B:=by
 rw [if_pos rfl];exact h
noncomputable def Same (H H':Hp):Prop:=∀b o,H b=some o→H' b=some o
theorem Same.trans{H H1 H2:Hp}(a:Same H H1) (b:Same H1 H2):Same H H2:=fun c o h=>b c o (a c o h)
section
variable {κ:Type} [DecidableEq κ]
theorem RelO.getD{o:Option V}{u:Option Value}{d:V}{d':Value}(r:RelO o u) (rd:RelV d d'):RelV (o.getD d) (u.getD d'):=by
 cases o with
 |none=>cases u with
  |none=>exact rd
  |some _=>exact(show False from r).elim
 |some _=>cases u with
  |none=>exact(show False from r).elim
  |some _=>exact r
theorem KV.length{kvs:List (κ×V)}{vs:List (κ×Value)}(r:KV kvs vs):kvs.length=vs.length:=Paired.length r
end
end L2
namespace Att
open PySem PySem.W PySem.Calls PyProof.Rows
end Att
namespace L2
open PySem PySem.Spec PyProof.Rows
section
variable {prog:Program}{w:World}{A:Around}{R:Result→Shared→Prop}{s:Shared}
theorem zeY{elt target iter:Expr}{ifs:List Expr}{scope:Scope}{pos:Pos}{it acc:Value}{env:Env}(I:Nat→Shared→Prop)
  (turn:∀n s,I n s→wpAny (model prog w) A (pyNext it) (fun r s₁=>match r with
   |none=>R (.ok .next) s₁
   |some v=>wpAny (model prog w) A (letOwnedTupleGo target it v) (fun _ s₀=>wpAny (model prog w) A (assign target env v) (fun _ s₂=>
     wpAny (model prog w) A (forIn ifs true fun c r=>if r=true then do let ok ←isTrue c env (eval c env);pure (ForInStep.yield ok) else pure (ForInStep.yield r)) (fun ok s₃=>
      if ok=true then wpAny (model prog w) A (eval elt env) (fun x s₄=>
       wpAny (model prog w) A (call (.builtin "list.append") [acc,x]) (fun _ s₅=>∃m,m<n∧I m s₅) (fun _ _=>False) s₄) (fun _ _=>False) s₃
      else ∃m,m<n∧I m s₃) (fun _ _=>False) s₂) (fun _ _=>False) s₀) (fun _ _=>False) s₁) (fun _ _=>False) s)
  (n:Nat) (h:I n s) :
  codeAny (model prog w) A (.compLoop (.ListComp elt [⟨target,iter,ifs,0⟩] scope pos) 0 it acc env) R s:=by
 refine codeAny_loop rfl I (fun n s hI=>?_) n h;show wpAny _ A ((compTurn (.ListComp elt [⟨target,iter,ifs,0⟩] scope pos) 0 it acc env).onRaise (fun x=>do noteFrame x env;theTreesLotGoes x)) _ _ s;refine wpAny_noted ?_;rw [compTurn_list];refine wpAny_bind (wpAny_standAt (wpAny_bind (wpAny_mono (turn n s hI) (fun r s₁ h₁=>?_) fun _ _ h'=>h'.elim)));cases r with
 |none=>exact wpAny_pure h₁
 |some v=>
  refine wpAny_bind (wpAny_mono h₁ (fun _ s₀ h₀=>?_) fun _ _ h'=>h'.elim);refine wpAny_bind (wpAny_mono h₀ (fun _ s₂ h₂=>wpAny_bind (wpAny_mono h₂ (fun ok s₃ h₃=>?_) fun _ _ h'=>h'.elim)) fun _ _ h'=>h'.elim);cases ok with
  |false=>exact wpAny_pure ⟨rfl,h₃⟩
  |true=>
   exact wpAny_bind (wpAny_bind (wpAny_mono h₃ (fun x s₄ h₄=>wpAny_bind (wpAny_mono h₄ (fun _ s₅ h₅=>wpAny_pure (wpAny_pure ⟨rfl,h₅⟩)) fun _ _ h'=>h'.elim)) fun _ _ h'=>h'.elim))
end
noncomputable def zdl (cells:List (Str×Addr)):List (Str×NameKind)→List (Str×Addr)→List (Str×Addr)
 | [],acc=>acc
 | (n,k)::r,acc=>if(k == NameKind.free)=true then zdl cells r ((n,(cells.lookup n).getD 0)::acc) else zdl cells r acc
theorem zgC{scope:Scope}{env:Env}(h:∀y∈scope.names,y.2= .free→ ∃c,env.cells.lookup y.1=some c) :
  closureFor scope env=pure (zdl env.cells scope.names []):=by
 have go:∀(l:List (Str×NameKind)) (acc:List (Str×Addr)),(∀y∈l,y.2= .free→ ∃c,env.cells.lookup y.1=some c)→
   (forIn l acc fun(x:Str×NameKind) (cs:List (Str×Addr))=>(if(x.2 == NameKind.free)=true then(do let a ←cellOf env x.1;pure (ForInStep.yield ((x.1,a)::cs))) else pure (ForInStep.yield cs):Sem (ForInStep (List (Str×Addr)))))=(pure (zdl env.cells l acc):Sem (List (Str×Addr))):=by
  intro l
  induction l with
  |nil=>intro acc _;rfl
  |cons x l ih=>
   intro acc hl;obtain⟨n,k⟩:=x;have hr:=fun y hy=>hl y (List.mem_cons_of_mem _ hy);rw [List.forIn_cons];by_cases hk:k= .free
   ·subst hk;obtain⟨c,hc⟩:=hl (n, .free) List.mem_cons_self rfl;have hc':env.cells.lookup n=some c:=hc;have e:cellOf env n=pure c:=by unfold cellOf;rw [hc']
    have e2:zdl env.cells ((n,NameKind.free)::l) acc=zdl env.cells l ((n,c)::acc):=by
     show(if(NameKind.free == NameKind.free)=true then zdl env.cells l ((n,(env.cells.lookup n).getD 0)::acc) else zdl env.cells l acc)=_;rw [if_pos (by rfl),hc'];rfl
    dsimp only;rw [if_pos (by rfl),e,pure_bind,pure_bind,e2];exact ih _ hr
   ·have hb:¬(k == NameKind.free)=true:=by simpa using hk
    have e2:zdl env.cells ((n,k)::l) acc=zdl env.cells l acc:=by
     show(if(k == NameKind.free)=true then zdl env.cells l ((n,(env.cells.lookup n).getD 0)::acc) else zdl env.cells l acc)=_;rw [if_neg hb]
    dsimp only;rw [if_neg hb,pure_bind,e2];exact ih _ hr
 have q:=go scope.names [] h;unfold closureFor
 first
  |exact(bind_pure _).trans q
  | (simp only[bind_pure];exact q)
  | (simp only[pure_bind,bind_assoc,bind_pure];exact q)
theorem zdX{cells:List (Str×Addr)}{x:Str}{c:Addr}:∀(l:List (Str×NameKind)) (acc:List (Str×Addr)),(∀y∈l,y.2= .free→ ∃c,cells.lookup y.1=some c)→
  (zdl cells l acc).lookup x=some c→acc.lookup x=some c∨cells.lookup x=some c
 | [],acc,_,h=> .inl h
 | (n,k)::r,acc,hl,h=>by
  have hr:=fun y hy=>hl y (List.mem_cons_of_mem (n,k) hy);by_cases hk:k= .free
  ·subst hk;have h':(zdl cells r ((n,(cells.lookup n).getD 0)::acc)).lookup x=some c:=h;rcases zdX r _ hr h' with q |q
   ·rw [List.lookup_cons]at q;cases e:x == n with
    |true=>
     rw [e]at q;obtain⟨d,hd⟩:=hl (n, .free) List.mem_cons_self rfl;have hd':cells.lookup n=some d:=hd;have e1:x=n:=eq_of_beq e;rw [hd']at q;have q':d=c:=Option.some.inj q;exact .inr (by rw [e1,hd',q'])
    |false=>
     rw [e]at q;exact .inl q
   ·exact .inr q
  ·have hb:¬(k == NameKind.free)=true:=by simpa using hk
   have h':(if(k == NameKind.free)=true then zdl cells r ((n,(cells.lookup n).getD 0)::acc) else zdl cells r acc).lookup x=some c:=h;rw [if_neg hb]at h';exact zdX r acc hr h'
theorem zcN{cells:List (Str×Addr)}{x:Str}:∀(l:List (Str×NameKind)) (acc:List (Str×Addr)),((x,NameKind.free)∈l∨ ∃c,acc.lookup x=some c)→ ∃c,(zdl cells l acc).lookup x=some c
 | [],acc,h=>by
  rcases h with h |h
  ·cases h
  ·exact h
 | (n,k)::r,acc,h=>by
  by_cases hk:k= .free
  ·subst hk;refine zcN r ((n,(cells.lookup n).getD 0)::acc) ?_;cases e:x == n with
   |true=>exact .inr ⟨_,by rw [List.lookup_cons,e]⟩
   |false=>
    rcases h with h |⟨c,h⟩
    ·rcases List.mem_cons.mp h with q |q
     ·have:x=n:=congrArg Prod.fst q;rw [this]at e;simp at e
     ·exact .inl q
    ·exact .inr ⟨c,by rw [List.lookup_cons,e];exact h⟩
  ·have hb:¬(k == NameKind.free)=true:=by simpa using hk
   show ∃c,(if(k == NameKind.free)=true then zdl cells r ((n,(cells.lookup n).getD 0)::acc) else zdl cells r acc).lookup x=some c;rw [if_neg hb];refine zcN r acc ?_;rcases h with h |h
   ·rcases List.mem_cons.mp h with q |q
    ·exact absurd (congrArg Prod.snd q).symm hk
    ·exact .inl q
   ·exact .inr h
theorem zbr{env:Env}{x:Str}{k:NameKind}:∀{names:List (Str×NameKind)},(∀y∈names,y.2≠ .cell)→
  (names.map fun(n,k)=>if(k == NameKind.free&&env.scope.kind == .function&&env.kindOf n == some .cell) then(n,NameKind.cell) else(n,k)).lookup x=some k→(k= .cell∨k= .free)→(x,NameKind.free)∈names
 | [],_,h,_=>by simp at h
 | (n,j)::r,hc,h,hk=>by
  have h':List.lookup x ((if(j == NameKind.free&&env.scope.kind == .function&&env.kindOf n == some .cell)=true then(n,NameKind.cell) else(n,j)) ::
   (r.map fun(n,k)=>if(k == NameKind.free&&env.scope.kind == .function&&env.kindOf n == some .cell) then(n,NameKind.cell) else(n,k)))=some k:=h
  have hr:=fun y hy=>hc y (List.mem_cons_of_mem (n,j) hy);have hj:j≠ .cell:=hc (n,j) List.mem_cons_self;cases e:x == n with
  |true=>
   have e1:x=n:=eq_of_beq e;subst e1;by_cases c:(j == NameKind.free&&env.scope.kind == .function&&env.kindOf x == some .cell)=true
   ·have c1:(j == NameKind.free)=true:=by
     cases q:(j == NameKind.free) with
     |true=>rfl
     |false=>rw [q]at c;simp at c
    have c2:j= .free:=by simpa using c1
    rw [c2];exact List.mem_cons_self
   ·rw [if_neg c]at h';simp only[List.lookup_cons,beq_self_eq_true]at h';have h2:j=k:=Option.some.inj h';rcases hk with z |z
    ·exact absurd (h2.trans z) hj
    ·rw [h2,z];exact List.mem_cons_self
  |false=>
   by_cases c:(j == NameKind.free&&env.scope.kind == .function&&env.kindOf n == some .cell)=true
   ·rw [if_pos c]at h';simp only[List.lookup_cons,e]at h';exact List.mem_cons_of_mem _ (zbr hr h' hk)
   ·rw [if_neg c]at h';simp only[List.lookup_cons,e]at h';exact List.mem_cons_of_mem _ (zbr hr h' hk)
theorem zbJ{env:Env}{x:Str}:∀{names:List (Str×NameKind)},names.lookup x=some .free→
  (names.map fun(n,k)=>if(k == NameKind.free&&env.scope.kind == .function&&env.kindOf n == some .cell) then(n,NameKind.cell) else(n,k)).lookup x=some .cell∨
  (names.map fun(n,k)=>if(k == NameKind.free&&env.scope.kind == .function&&env.kindOf n == some .cell) then(n,NameKind.cell) else(n,k)).lookup x=some .free
 | [],h=>by simp at h
 | (n,j)::r,h=>by
  show List.lookup x ((if(j == NameKind.free&&env.scope.kind == .function&&env.kindOf n == some .cell)=true then(n,NameKind.cell) else(n,j)) ::
   (r.map fun(n,k)=>if(k == NameKind.free&&env.scope.kind == .function&&env.kindOf n == some .cell) then(n,NameKind.cell) else(n,k)))=_∨
   List.lookup x ((if(j == NameKind.free&&env.scope.kind == .function&&env.kindOf n == some .cell)=true then(n,NameKind.cell) else(n,j)) ::
   (r.map fun(n,k)=>if(k == NameKind.free&&env.scope.kind == .function&&env.kindOf n == some .cell) then(n,NameKind.cell) else(n,k)))=_
  cases e:x == n with
  |true=>
   simp only[List.lookup_cons,e]at h;have h2:j= .free:=Option.some.inj h;subst h2;by_cases c:(NameKind.free == NameKind.free&&env.scope.kind == .function&&env.kindOf n == some .cell)=true
   ·rw [if_pos c];simp only[List.lookup_cons,e];exact .inl trivial
   ·rw [if_neg c];simp only[List.lookup_cons,e];exact .inr trivial
  |false=>
   simp only[List.lookup_cons,e]at h;by_cases c:(j == NameKind.free&&env.scope.kind == .function&&env.kindOf n == some .cell)=true
   ·rw [if_pos c];simp only[List.lookup_cons,e];exact zbJ h
   ·rw [if_neg c];simp only[List.lookup_cons,e];exact zbJ h
noncomputable def zaB (X:Cx) (scope:Scope) (N:List Str) (s:Shared) (H:Hp) (fp:List Addr) (pins:List (Addr×Obj)):Cx:=
 { X with N:=N,s₀:=s,H₀:=H,env:=compEnvC scope (zdl X.env.cells scope.names []) s.heap.objs.size X.env,outer:=X.stack,stack:=X.stack,ex:=fp,fn:=fun _=>false,pn:=X.pn++pins,xe:=fun _ _=>False }
structure CompSc (X:Cx) (scope:Scope) (N:List Str) (k:Nat) (fr:List Nat):Prop where
  kind:scope.kind= .function
  nd:N.Nodup
  len:N.length=k+fr.length
  cell:(scope.names.all fun y=>y.2 != NameKind.cell)=true
  loc:(scope.names.all fun y=>y.2 != NameKind.local || scope.names.lookup y.1 == some NameKind.local)=true
  free:(scope.names.all fun y=>y.2 != NameKind.free || X.env.kindOf y.1 == some NameKind.cell || X.env.kindOf y.1 == some NameKind.free)=true
  frs:((N.drop k).all fun x=>scope.names.lookup x == some NameKind.free)=true
  pl:N.drop k=fr.map fun j=>X.N.getD j Str.empty
  plen:(fr.all fun j=>decide (j<X.N.length))=true
noncomputable def zcW (σ:St) (fr:List Nat):St:=fr.map fun j=>(σ[j]?).join
noncomputable def zfM (σ:St) (k:Nat) (fr:List Nat):St:=List.replicate k none++zcW σ fr
section
variable {X:Cx}{scope:Scope}{N:List Str}{k:Nat}{fr:List Nat}
theorem CompSc.cell' (S:CompSc X scope N k fr):∀y∈scope.names,y.2≠ .cell:=fun y hy=>by
 have q:=List.all_eq_true.mp S.cell y hy;simpa using q
theorem CompSc.loc' (S:CompSc X scope N k fr):∀y∈scope.names,y.2= .local→scope.names.lookup y.1=some .local:=fun y hy e=>by
 have q:=List.all_eq_true.mp S.loc y hy;rw [e]at q;simpa using q
theorem CompSc.kinds (S:CompSc X scope N k fr):∀y∈scope.names,y.2= .free→X.env.kindOf y.1=some .cell∨X.env.kindOf y.1=some .free:=fun y hy e=>by
 have q:=List.all_eq_true.mp S.free y hy;rw [e]at q;simpa using q
theorem CompSc.hasCell (S:CompSc X scope N k fr) (ok:X.Ok):∀y∈scope.names,y.2= .free→ ∃c,X.env.cells.lookup y.1=some c:=fun y hy e=>ok.has y.1 (S.kinds y hy e)
theorem CompSc.sub (S:CompSc X scope N k fr) (ok:X.Ok) {x:Str}{c:Addr}(h:(zdl X.env.cells scope.names []).lookup x=some c):X.env.cells.lookup x=some c:=by
 rcases zdX scope.names [] (S.hasCell ok) h with q |q
 ·simp at q
 ·exact q
end
section
variable {X:Cx}{pins:List (Addr×Obj)}{σ:St}{H:Hp}{s:Shared}{scope:Scope}{N:List Str}{k:Nat}{fr:List Nat}{fp:List Addr}
theorem zlL (I:Inv X pins σ H s) (S:CompSc X scope N k fr) (hfp:∀b∈fp,zfi X pins H b) (hob:∀b∈fp,∃o,s.heap.get? b=some o):(zaB X scope N s H fp pins).Ok where
  mod:=I.ok.mod
  kind:=S.kind
  glob:=I.ok.glob
  blt:=I.ok.blt
  above:=Nat.le_refl _
  inj:=fun x y c h1 h2=>I.ok.inj x y c (S.sub I.ok h1) (S.sub I.ok h2)
  has:=fun x hx=>zcN scope.names [] (.inl (by
    rcases hx with hx |hx
    · exact zbr S.cell' hx (.inl rfl)
    · exact zbr S.cell' hx (.inr rfl)))
  cab:=fun x c h _=>absurd h (by show ¬(false=true);decide)
  hd:=I.ok.hd
  frames:=I.ok.frames
  stk:= .inl rfl
  exf:=fun b hb=>⟨by
    obtain⟨o,e⟩:=hob b hb;exact Nat.ne_of_lt (Heap.lt_size e),fun x c h=>(hfp b hb).2.2.2.2.1 x c (S.sub I.ok h)⟩
  bs:=I.bs
  bsz:=Nat.le_trans I.ok.bsz I.sz
  noex:=fun b o e hb=>by
    rcases(hfp b hb).2.2.2.1 with z |z
    · exact I.ok.noex b o e z
    · exact absurd (Nat.lt_of_lt_of_le (Heap.lt_size (I.ok.bs b o e).1) z) (Nat.lt_irrefl _)
  exfs:=fun b hb z=>by
    rcases List.mem_cons.mp (I.stkSub b z) with q |q
    · exact(hfp b hb).2.1 q
    · exact(hfp b hb).2.2.1 q
  funs:=I.stack
  frf:=I.stkFree
theorem zkD (I:Inv X pins σ H s) (S:CompSc X scope N k fr) {H':Hp}{b:Addr}(hb:b∈fp) (hf:zfi X pins H b) (hob:∃o,s.heap.get? b=some o) (hn:H' b=none):zfi (zaB X scope N s H fp pins) [] H' b:=by
 refine⟨hn,?_,fun z=>?_, .inl hb,fun x c h=>hf.2.2.2.2.1 x c (S.sub I.ok h),fun p hp=>?_⟩
 ·obtain⟨o,e⟩:=hob;exact Nat.ne_of_lt (Heap.lt_size e)
 ·rcases List.mem_cons.mp (I.stkSub b z) with q |q
  ·exact hf.2.1 q
  ·exact hf.2.2.1 q
 ·rcases List.mem_append.mp hp with z |z
  ·exact hf.2.2.2.2.2 p z
  ·cases z
theorem zgQ{j:Nat}{v:V}(h:(zcW σ fr)[j]? =some (some v)):∃i,fr[j]? =some i∧σ[i]? =some (some v):=by
 unfold zcW at h;rw [List.getElem?_map]at h;cases e:fr[j]? with
 |none=>rw [e]at h;cases h
 |some i=>
  rw [e]at h;have h':(σ[i]?).join=some v:=Option.some.inj h;refine⟨i,rfl,?_⟩;cases q:σ[i]? with
  |none=>rw [q]at h';cases h'
  |some o=>
   rw [q]at h';have h2:o=some v:=h';rw [h2]
theorem ziU (I:Inv X pins σ H s) (S:CompSc X scope N k fr) (hfp:∀b∈fp,zfi X pins H b) (hob:∀b∈fp,∃o,s.heap.get? b=some o) {h1:Heap}{tk:Nat}{m:Str→Option Value}
    (hns:h1.Ns s.heap.objs.size m) (hk:∀b o,s.heap.get? b=some o→h1.get? b=some o):Inv (zaB X scope N s H fp pins) [] (zfM σ k fr) H { s with heap:=h1,toks:=tk } where
  ok:=zlL I S hfp hob
  os:=rfl
  bare:=I.bare
  base:=Un.kept hk
  loc:=⟨m,hns,fun i x v e1 e2 e3=>by
    have e2':(List.replicate k (none:Option V)++zcW σ fr)[i]? =some (some v):=e2;have hi:k≤i:=by
      refine Nat.le_of_not_lt fun z=>?_;rw [List.getElem?_append_left (by simpa using z),List.getElem?_replicate]at e2';split at e2'<;>cases e2'
    rw [List.getElem?_append_right (by simpa using hi),List.length_replicate]at e2';obtain⟨j,f1,f2⟩:=zgQ e2';have e1':N[i]? =some x:=e1;have d1:(N.drop k)[i - k]? =some x:=by
      rw [List.getElem?_drop];have:k+(i - k)=i:=by omega
      rw [this];exact e1'
    have d2:=d1;rw [S.pl,List.getElem?_map,f1]at d2;have d3:X.N.getD j Str.empty=x:=Option.some.inj d2;have jl:j<X.N.length:=of_decide_eq_true (List.all_eq_true.mp S.plen j (List.mem_of_getElem? f1));have d4:X.N[j]? =some x:=by
      rw [List.getD_eq_getElem?_getD,List.getElem?_eq_getElem jl]at d3;rw [List.getElem?_eq_getElem jl];exact congrArg some d3
    have fk:scope.names.lookup x=some .free:=by
      have q:=List.all_eq_true.mp S.frs x (List.mem_of_getElem? d1);simpa using q
    have hmem:(x,NameKind.free)∈scope.names:=PySem.mem_of_lookup fk;have kd:=S.kinds _ hmem rfl;have vis:Vis X.env.scope x:=by
      rcases kd with z |z
      · exact .inr (.inl z)
      · exact .inr (.inr z)
    obtain⟨m0,_,hl⟩:=I.loc;obtain⟨u,ru,lk⟩:=hl j x v d4 f2 vis;refine⟨u,ru, .inr ⟨zbJ fk,?_⟩⟩;have kd':X.env.kindOf x=some .cell∨X.env.kindOf x=some .free:=kd;rcases lk with⟨z,_⟩ |⟨_,c,hc,hcell⟩
    · rcases kd' with q |q<;>(rw [z]at q;cases q)
    · obtain⟨c',hc'⟩:=zcN (cells:=X.env.cells) scope.names [] (.inl hmem);have e:=S.sub I.ok hc';rw [hc]at e;cases e;exact⟨c,hc',hcell.keeps hk⟩⟩
  cell:=fun x c h=>by
    obtain⟨v,z⟩:=I.cell x c (S.sub I.ok h);exact⟨v,z.keeps hk⟩
  free:=I.hok.fresh (Nat.le_refl _)
  freeC:=fun x c h=>I.freeC x c (S.sub I.ok h)
  pin:=fun p hp=>by
    have hp':p∈X.pn++pins:=by
      rcases List.mem_append.mp hp with z |z
      · exact z
      · cases z
    obtain⟨e,n,ne,nf,d⟩:=I.pin p hp';refine⟨hk _ _ e,n,Nat.ne_of_lt (Heap.lt_size e),fun z=>?_,d⟩;rcases List.mem_cons.mp (I.stkSub p.1 z) with q |q
    · exact ne q
    · exact nf q
  hok:=I.hok.kept hk
  len:=by
    show(List.replicate k (none:Option V)++zcW σ fr).length=N.length;rw [List.length_append,List.length_replicate,S.len];unfold zcW;rw [List.length_map]
theorem zez{σ':St}{H':Hp}{s':Shared}{h':Heap}(I:Inv X pins σ H s) (hfp:∀b∈fp,zfi X pins H b) (J:Inv (zaB X scope N s H fp pins) [] σ' H' s') (sb:Heap.SameBut s.heap.objs.size s'.heap h'):Inv X pins σ H' { s' with heap:=h' }:=by
 have neC:∀b o,s.heap.get? b=some o→b≠s.heap.objs.size:=fun b o e=>Nat.ne_of_lt (Heap.lt_size e);have frC:H' s.heap.objs.size=none:=J.free;refine Inv.call' (s':={ s' with heap:=h' }) (ch:=fp) I J.os ⟨fun b o e n hf hx=>?_,fun b o e n hf hx=>?_,fun b o e n hx=>J.base.free b o e n hx,fun b o e hx=>?_,J.base.tups,J.base.frzs,J.base.tbls⟩ (fun b o e=>?_) J.bare fun b hb=>⟨(hfp b hb).2.2.2.1,(hfp b hb).2.1,(hfp b hb).2.2.2.2.1,(hfp b hb).2.2.2.2.2⟩
 ·exact(sb.2 b (neC b o e)).trans (J.base.keep b o e n hf hx)
 ·obtain⟨sl,q⟩:=J.base.slot b o e n hf hx;exact⟨sl,(sb.2 b (neC b o e)).trans q⟩
 ·obtain⟨o',q⟩:=J.base.there b o e hx;exact⟨o',(sb.2 b (neC b o e)).trans q⟩
 ·refine(J.hok b o e).stay (fun c v hc q=>(sb.2 c ?_).trans q) (fun _ q=>q) fun _ _ q=>q;rintro rfl;rcases hc with rfl |hc
  ·rw [frC]at e;cases e
  ·rw [frC]at hc;cases hc
end
noncomputable def PTs (X:Cx) (ifs:List Expr) (t:TT):Prop:=
 ∀(pins:List (Addr×Obj)) (s:Shared) (σ:St) (H:Hp) (Q:Bool→Hp→Prop),Inv X pins σ H s→t σ H Q→
  wpAny (model X.prog X.w) X.A (forIn ifs true fun c r=>if r=true then do let ok ←isTrue c X.env (eval c X.env);pure (ForInStep.yield ok) else pure (ForInStep.yield r)) (TP X pins σ Q) X.xe s
noncomputable def zqq:TT:=fun _ H Q=>Q true H
theorem zkF{X:Cx}:PTs X [] zqq:=fun _ _ _ H _ I h=>wpAny_tests_nil ⟨H,I,h⟩
noncomputable def zoA (X:Cx) (scope:Scope) (N:List Str) (tg:Expr) (ifs:List Expr) (elt:Expr) (l:Addr) (x:V) (σ:St) (H:Hp) (M:St→Hp→Prop):Prop:=
 ∀(s₀:Shared) (H₀:Hp) (fp:List Addr) (pn:List (Addr×Obj)),∃(g:TG) (tt:TT) (te:TE),PG (zaB X scope N s₀ H₀ fp pn) tg g∧PTs (zaB X scope N s₀ H₀ fp pn) ifs tt∧PE (zaB X scope N s₀ H₀ fp pn) elt te∧
  g x σ H fun σ2 H2=>tt σ2 H2 fun b H3=>if b=true then te σ2 H3 fun y H4=>∃ys,H4 l=some (.lst ys)∧ys.length<sizeLine∧M σ2 (upd H4 l (.lst (ys++[y]))) else M σ2 H3
noncomputable def zlm (X:Cx) (scope:Scope) (N:List Str) (k:Nat) (fr:List Nat) (tg:Expr) (ifs:List Expr) (elt:Expr) (σ:St) (Q:VK) (J:It) (H1:Hp):Prop:=∀l,H1 l=none→
 ∃W:Nat→Nat→St→Hp→Prop,(∃m,W 0 m (zfM σ k fr) (upd H1 l (.lst [])))∧ ∀i m σ' H',W i m σ' H'→
  (J.stop i H'∧Q (.ref l) H')∨(J.go i H'∧ ∃M:St→Hp→Prop,(∀σ'' H'',M σ'' H''→ ∃m',m'<m∧W (i+1) m' σ'' H'')∧ ∀x H2,J.yld i H' x H2→zoA X scope N tg ifs elt l x σ' H2 M)
noncomputable def zjD (X:Cx) (scope:Scope) (N:List Str) (k:Nat) (fr:List Nat) (tg:Expr) (ifs:List Expr) (elt:Expr) (wi:TI):TE:=fun σ H Q=>wi σ H fun J H1=>zlm X scope N k fr tg ifs elt σ Q J H1
theorem zfh{X:Cx}{use:Option (Value→Sem Unit)}{Qf:Value→Shared→Prop}{pins:List (Addr×Obj)}{s:Shared}{σ:St}{H:Hp}{Q:VK}{scope:Scope}{N:List Str}{k:Nat}{fr:List Nat}{tg iter elt:Expr}{ifs:List Expr}{wi:TI}{pos:Pos}(hx:X.xe=fun _ _=>False) (hc:X.calm=true) (S:CompSc X scope N k fr) (hi:PI X tg iter wi) (I:Inv X pins σ H s)
  (fin:∀{s3 s6:Shared}{H3 H5:Hp}{fp:List Addr}{σ5:St}{l:Addr}{a:Flow},Inv X pins σ H3 s3→(∀b∈fp,zfi X pins H3 b)→Inv (zaB X scope N s3 H3 fp pins) [] σ5 H5 s6→Q (.ref l) H5→compPost (model X.prog X.w) X.A X.xe use Qf (.ref l) s3.heap.objs.size (.ok a) s6)
  (h:zjD X scope N k fr tg ifs elt wi σ H Q)
  (hs:∀x,foldedSetIterable iter X.env x=pure x:=by intro _;rfl):wpAny (model X.prog X.w) X.A (comprehension (.ListComp elt [⟨tg,iter,ifs,0⟩] scope pos) scope X.env (firstIterPos [⟨tg,iter,ifs,0⟩] pos) (newList []) (firstAsync [⟨tg,iter,ifs,0⟩]) (firstIter [⟨tg,iter,ifs,0⟩] X.env) use) Qf X.xe s:=by
 refine wpAny_comprehension_free (use:=use) rfl hs (zgC (S.hasCell I.ok)) S.kind S.loc' (thn (hi pins s σ H _ I h) fun v s1 h1=>thn h1 fun itv s2 h2=>?_);obtain⟨it,fp,tn,J,H2,e,I2,T,st2,f2,h2⟩:=h2;subst e;have fr2:H2 s2.heap.objs.size=none:=I2.hok.fresh (Nat.le_refl _);obtain⟨W,⟨m0,w0⟩,turn⟩:=h2 s2.heap.objs.size fr2;refine wpAny_newList ?_ (by show 0≤sizeLine;exact Nat.zero_le _);have I3:Inv X pins σ (upd H2 s2.heap.objs.size (.lst [])) { s2 with heap:=s2.heap.push { cls:= .type "list",data:= .seq ([]:List Value).toArray } }:=I2.lnew (t':=s2.toks) (ys:=[]) .nil (Nat.zero_le _);have old:∀b o,s2.heap.get? b=some o→(s2.heap.push { cls:= .type "list",data:= .seq ([]:List Value).toArray }).get? b=some o:=fun b o e=>Heap.get?_push_of_some _ e;have fpo2:∀b∈fp,∃o,s2.heap.get? b=some o:=fun b hb=>by
  obtain⟨o,e,_⟩:=T.obj _ _ st2 b hb;exact⟨o,e⟩
 have fpo:∀b∈fp,∃o,(s2.heap.push { cls:= .type "list",data:= .seq ([]:List Value).toArray }).get? b=some o:=fun b hb=>by
  obtain⟨o,e⟩:=fpo2 b hb;exact⟨o,old b o e⟩
 have f3:∀b∈fp,zfi X pins (upd H2 s2.heap.objs.size (.lst [])) b:=fun b hb=>by
  obtain⟨o,e⟩:=fpo2 b hb;refine⟨?_,(f2 b hb).2⟩;rw [zan (Nat.ne_of_lt (Heap.lt_size e))];exact(f2 b hb).1
 generalize hs3:({ s2 with heap:=s2.heap.push { cls:= .type "list",data:= .seq ([]:List Value).toArray } }:Shared)=s3 at I3⊢;have st3:tn 0 s3.heap:=by
  rw [←hs3];exact T.keep _ _ _ st2 fun b _ o e=>old b o e
 have fpo3:∀b∈fp,∃o,s3.heap.get? b=some o:=by rw [←hs3];exact fpo
 clear fpo old hs3;refine wpAny_newFunctionEnv S.cell' (by intro y hy;simp at hy) (fun h1 hns1 hsb1=>?_) S.kind;have hk1:∀b o,s3.heap.get? b=some o→h1.get? b=some o:=fun b o e=>hsb1.extBut b o (Nat.ne_of_lt (Heap.lt_size e)) (Heap.get?_push_of_some _ e);have I4:=ziU (tk:=s3.toks+([]:List (Str×Value)).length) I3 S f3 fpo3 hns1 hk1;have st4:tn 0 h1:=T.keep _ _ _ st3 fun b _ o e=>hk1 b o e;have stat:∀{H':Hp},(∀b∈fp,H' b=none)→ ∀b∈fp,zfi (zaB X scope N s3 (upd H2 s2.heap.objs.size (.lst [])) fp pins) [] H' b:=fun hn b hb=>zkD I3 S hb (f3 b hb) (fpo3 b hb) (hn b hb);have loop:∀s4:Shared,s4={ s3 with heap:=h1,toks:=s3.toks+([]:List (Str×Value)).length }→
   codeAny (model X.prog X.w) X.A (.compLoop (.ListComp elt [⟨tg,iter,ifs,0⟩] scope pos) 0 (.ref it) (.ref s2.heap.objs.size) (compEnvC scope (zdl X.env.cells scope.names []) s3.heap.objs.size X.env))
    (compPost (model X.prog X.w) X.A X.xe use Qf (.ref s2.heap.objs.size) s3.heap.objs.size) s4:=by
  rintro s4 rfl;refine zeY (fun n s'=>∃i σ' H',Inv (zaB X scope N s3 (upd H2 s2.heap.objs.size (.lst [])) fp pins) [] σ' H' s'∧tn i s'.heap∧(∀b∈fp,H' b=none)∧W i n σ' H') ?_ m0 ⟨0,_,_,I4,st4,fun b hb=>(f3 b hb).1,w0⟩;rintro n s5 ⟨i,σ5,H5,I5,st5,fr5,w5⟩;rcases turn i n σ5 H5 w5 with⟨stop,qn⟩ |⟨go,M,hM,step⟩
  ·refine thn (T.done (zaB X scope N s3 (upd H2 s2.heap.objs.size (.lst [])) fp pins) rfl rfl rfl hc i [] s5 σ5 H5 _ I5 (stat fr5) st5 stop) fun r s6 ⟨hr,I6⟩=>?_;subst hr;exact fin I3 f3 I6 qn
  ·refine thn (T.item (zaB X scope N s3 (upd H2 s2.heap.objs.size (.lst [])) fp pins) rfl rfl rfl hc i [] s5 σ5 H5 _ I5 (stat fr5) st5 go) fun r s6 ⟨u,hr,h6⟩=>?_;subst hr;refine thn h6 fun _ s7 ⟨x,H7,I7,r7,y7,st7,fr7⟩=>?_;have I7':=I7.pinned (stat fr7) (T.obj _ _ st7);obtain⟨g,tt,te,hg,ht,he,q⟩:=step x H7 y7 s3 (upd H2 s2.heap.objs.size (.lst [])) fp pins;have again:∀{s8:Shared}{σ8:St}{H8:Hp},Inv (zaB X scope N s3 (upd H2 s2.heap.objs.size (.lst [])) fp pins) ([]++zeH fp s7.heap) σ8 H8 s8→M σ8 H8→
     ∃m,m<n∧ ∃i σ' H',Inv (zaB X scope N s3 (upd H2 s2.heap.objs.size (.lst [])) fp pins) [] σ' H' s8∧tn i s8.heap∧(∀b∈fp,H' b=none)∧W i m σ' H':=fun {s8 σ8 H8} I8 n8=>by
    obtain⟨m',hm,w8⟩:=hM σ8 H8 n8;refine⟨m',hm,i+1,σ8,H8,I8.unpinned,T.keep _ _ _ st7 fun b hb o e=>(I8.pin (b,o) (List.mem_append_right _ (List.mem_append_right _ (zbN hb e)))).1,fun b hb=>?_,w8⟩;obtain⟨o,e,d⟩:=T.obj _ _ st7 b hb;exact(I8.pin (b,o) (List.mem_append_right _ (List.mem_append_right _ (zbN hb e)))).2.1
   refine thn (hg _ s7 σ5 H7 x u _ I7' r7 q) fun _ s8 ⟨σ8,H8,I8,q8⟩=>?_;refine thn (ht _ s8 σ8 H8 _ I8 q8) fun b s9 ⟨H9,I9,q9⟩=>?_;cases b with
   |false=>exact again I9 q9
   |true=>
    refine thn (he _ s9 σ8 H9 _ I9 q9) fun y s10 ⟨yv,H10,I10,r10,ys,hl,hz,qM⟩=>?_;exact thn (zeC _ s10 σ8 H10 (.ref s2.heap.objs.size) [yv] (.ref s2.heap.objs.size) [y] (fun _ H'=>M σ8 H') I10 rfl (.cons r10 .nil) ⟨_,ys,yv,rfl,rfl,hl,hz,qM⟩) fun _ s11 ⟨_,H11,I11,_,q11⟩=>again I11 q11
 exact codeAny_compStart_list (loop _ rfl) (T.self _ 0 _ _ _ st4 (loop _ rfl))
theorem zkH{X:Cx}{scope:Scope}{N:List Str}{k:Nat}{fr:List Nat}{tg iter elt:Expr}{ifs:List Expr}{wi:TI}{pos:Pos}(hx:X.xe=fun _ _=>False) (hc:X.calm=true) (S:CompSc X scope N k fr) (hi:PI X tg iter wi)
  (hs:∀x,foldedSetIterable iter X.env x=pure x:=by intro _;rfl):PE X (.ListComp elt [⟨tg,iter,ifs,0⟩] scope pos) (zjD X scope N k fr tg ifs elt wi):=by
 intro pins s σ H Q I h;rw [eval_ListComp];refine zfh hx hc S hi I (fun {s3 s6 H3 H5 fp σ5 l a} I3 f3 I6 qn=>?_) h hs;obtain⟨m6,ns6,_⟩:=I6.loc;exact⟨m6,ns6,fun h' sb=>⟨.ref l,H5,zez I3 f3 I6 sb,rfl,qn⟩⟩
theorem zly{X:Cx}{scope:Scope}{N:List Str}{k:Nat}{fr:List Nat}{tg iter elt:Expr}{ifs:List Expr}{wi:TI}{pos spos pos':Pos}{i:Nat}{x:Str}(hx:X.xe=fun _ _=>False) (hc:X.calm=true) (S:CompSc X scope N k fr) (hi:PI X tg iter wi)
  (hN:X.N.Nodup) (hxi:X.N[i]? =some x) (hxl:Loc X.env.scope x) (hw:swapsWith (.ListComp elt [⟨tg,iter,ifs,0⟩] scope pos) (some (.Name x pos')) spos.line X.env=pure true) (hf:X.fn x=true∨X.env.scope.names.lookup x=some .local)
  (hs:∀x,foldedSetIterable iter X.env x=pure x:=by intro _;rfl):PS X (.Assign [.Name x pos'] (.ListComp elt [⟨tg,iter,ifs,0⟩] scope pos) spos) (zos (zjD X scope N k fr tg ifs elt wi) (zlk i)):=by
 intro pins s σ H D I h;rw [exec_Assign_Name_used x pos' _ spos hw];refine wpAny_bind (wpAny_standAt (wpAny_bind ?_));rw [arm_evalThenUse_ListComp];refine wpAny_bind ?_;refine zfh (Qf:=fun _ s'=>wpAny (model X.prog X.w) X.A (pure ()) (fun _ s2=>wpAny (model X.prog X.w) X.A (pure Flow.next) (SP X pins D) X.xe s2) X.xe s') hx hc S hi I (fun {s3 s6 H3 H5 fp σ5 l a} I3 f3 I6 qn=>?_) h hs;have IX:Inv X pins σ H5 s6:=zez (h':=s6.heap) I3 f3 I6 ⟨rfl,fun _ _=>rfl⟩;obtain⟨m6,ns6,_⟩:=I6.loc;have ns6:s6.heap.Ns s3.heap.objs.size m6:=ns6;have frC:H5 s3.heap.objs.size=none:=I6.free;have fC:zfi X pins H5 s3.heap.objs.size:=I3.fpOk (Nat.le_refl _) frC;refine wpAny_assign_Name (zey IX hN hxi hxl (v:= .ref l) rfl (fun s7 I7 ⟨b,sb,hb⟩=>?_) hf);have hbC:s3.heap.objs.size≠b:=by
  rcases hb with rfl |hb
  ·exact fC.2.1
  ·exact Ne.symm (fC.2.2.2.2.1 _ _ hb)
 refine⟨m6,ns6.sameBut sb hbC,fun h' sb2=>wpAny_pure (wpAny_pure ⟨_,H5,?_,qn⟩)⟩;refine Inv.call' (s':={ s7 with heap:=h' }) (ch:=[s3.heap.objs.size]) I7 rfl ⟨fun c o e n hfs hex=>?_,fun c o e n hfs hex=>?_,fun c o e n _=>n,fun c o e hex=>?_,fun _ _ q=>q,fun _ _ _ q=>q,fun _ ps q=>⟨#[],by simpa using q⟩⟩ (fun c o e=>?_) I7.bare fun c hcm=>?_
 ·exact(sb2.2 c (fun z=>hex (by simp [z]))).trans e
 ·exact⟨o.slots,(sb2.2 c (fun z=>hex (by simp [z]))).trans e⟩
 ·exact⟨o,(sb2.2 c (fun z=>hex (by simp [z]))).trans e⟩
 ·refine(I7.hok c o e).stay (fun d v hd q=>(sb2.2 d ?_).trans q) (fun _ q=>q) fun _ _ q=>q;rintro rfl;rcases hd with rfl |hd
  ·rw [frC]at e;cases e
  ·rw [frC]at hd;cases hd
 ·rw [List.mem_singleton.mp hcm];exact⟨fC.2.2.2.1,fC.2.1,fC.2.2.2.2.1,fC.2.2.2.2.2⟩
noncomputable def Its (x:Str):It:=⟨fun i _=>i<x.cps.size,fun i H v H'=>H'=H∧ ∃c,x.cps[i]? =some c∧v= .str ⟨#[c]⟩,fun i _=>i=x.cps.size⟩
theorem zgh{P:Program}{w:World}{K:PySem.W.Frag}{tg:Expr}(it:Addr) (x:Str) (t:Tok) (ty:String)
    (hn: ["enumerate", "zip", "dict_itemiterator", "dict_reverseitemiterator", "odict_iterator", "itertools.zip_longest", "itertools.pairwise"].contains ty=false)
    (hW:∀A':Around,A'.handled=none→Walks P w A' it [it] [it] x.cps.size (SignAt x) (fun i h=>h.IsStrIter it ty x t i))
    (hself:∀(A:Around) (i:Nat) (s:Shared) (Q:Value→Shared→Prop) (E:Value→Shared→Prop),s.heap.IsStrIter it ty x t i→Q (.ref it) s→wpAny (model P w) A (pyIter (.ref it)) Q E s) :
    Turn P w K tg (Its x) [it] it (fun i h=>h.IsStrIter it ty x t i) where
  mem:=by simp
  obj:=fun i h st b hb=>by
    have e:b=it:=by simpa using hb
    subst e;obtain⟨o,e,c,d⟩:=st;exact⟨o,e,fun v z=>by rw [d]at z;cases z⟩
  keep:=fun i h h' st k=>by
    obtain⟨o,e,r⟩:=st;exact⟨o,k it (by simp) o e,r⟩
  item:=by
    intro X hP hw hK hc i pins s σ H E I hf st hg;subst hP hw hK;obtain⟨f0,f1,f2,f3,f4,f5⟩:=hf it (by simp);refine(hW X.A (I.ok.hd hc)).item i s _ _ hg st fun v h' tk hv st' kk=>?_;obtain⟨c,u,hc',rfl⟩:=hv;have I1:Inv X pins σ H { s with heap:=h',toks:=tk }:=I.turned (fun b o hb e=>kk b o (by simpa using hb) e) f0 f1 f3 f4 f5;obtain⟨o,e,c',d⟩:=id st';exact⟨_,rfl,zjn (s:={ s with heap:=h',toks:=tk }) e c' d hn ⟨.str ⟨#[c]⟩,H,I1,⟨u,rfl⟩,⟨rfl,c,hc',rfl⟩,st',fun b hb=>(hf b hb).1⟩⟩
  done:=by
    intro X hP hw hK hc i pins s σ H E I hf st hg;subst hP hw hK;obtain⟨f0,f1,f2,f3,f4,f5⟩:=hf it (by simp);have hi:i=x.cps.size:=hg;subst hi;exact(hW X.A (I.ok.hd hc)).done s _ _ st fun h' tk kk=>⟨rfl,I.turned (fun b o hb e=>kk b o (by simpa using hb) e) f0 f1 f3 f4 f5⟩
  self:=hself
noncomputable def TupsOn (H H':Hp):Prop:=∀b xs,H b=some (.tup xs)→H' b=some (.tup xs)
theorem TupsOn.trans{H H1 H2:Hp}(a:TupsOn H H1) (b:TupsOn H1 H2):TupsOn H H2:=fun c xs h=>b c xs (a c xs h)
section
variable {X:Cx}
noncomputable def zqf:V→Option Int→Option Int→Hp→VK→Prop:=fun x lo hi H Q=>∃z,x= .str z∧z.length≤sizeLine∧Q (.str (Txt.slice z lo hi)) H
theorem sl_str:SlR X zqf:=by
 intro pins s σ H x v vl vu lo hi sl Q I rx hs pl pu h;obtain⟨z,rfl,hz,q⟩:=h;obtain⟨t,rfl⟩:=rx;refine⟨"str",_,F.slot_str_getitem.lookup,typeIs_str _ _ _,?_⟩;obtain⟨o,ho,hc,hd⟩:=hs;have fin:∀t' k,EP X pins σ Q (.str (Txt.slice z lo hi) t') { s with toks:=k }:=fun t' k=>⟨.str _,H,I.tok _,⟨t',rfl⟩,q⟩;have le:=Nat.le_trans (Txt.slice_le z lo hi) hz;cases pl with
 |none=>
  cases pu with
  |none=>exact wpAny_getItem_str_slice (l:=none) (u:=none) (st:=none) ⟨o,ho,hc,hd⟩ rfl (post_val_or_str ⟨le,fin⟩)
  |int j u=>exact wpAny_getItem_str_slice (l:=none) (u:=some (j,u)) (st:=none) ⟨o,ho,hc,hd⟩ rfl (post_val_or_str ⟨le,fin⟩)
 |int i w=>
  cases pu with
  |none=>exact wpAny_getItem_str_slice (l:=some (i,w)) (u:=none) (st:=none) ⟨o,ho,hc,hd⟩ rfl (post_val_or_str ⟨le,fin⟩)
  |int j u=>exact wpAny_getItem_str_slice (l:=some (i,w)) (u:=some (j,u)) (st:=none) ⟨o,ho,hc,hd⟩ rfl (post_val_or_str ⟨le,fin⟩)
noncomputable def zob (xs:List Nat) (lo hi:Option Int):List Nat:=(xs.drop (HT.sIx xs.length 0 lo)).take (HT.sIx xs.length xs.length hi - HT.sIx xs.length 0 lo)
theorem zkk (lo hi:Option Int) (n:Nat):Builtin.Str.strSliceIndices lo hi 1 n=sliceRange ((HT.sIx n 0 lo:Nat):Int) ((HT.sIx n n hi:Nat):Int) 1:=by
 have one:(1:Int) > 0:=by decide
 have a:∀(v:Option Int) (d:Nat),(match v with |none=>(d:Int) |some i=>(if(1:Int) > 0 then max 0 (min (if i<0 then i+(n:Int) else i) (n:Int)) else max (-1) (min (if i<0 then i+(n:Int) else i) ((n:Int) - 1))))=((HT.sIx n d v:Nat):Int):=by
  intro v d;cases v with
  |none=>rfl
  |some i=>
   simp only[HT.sIx,one,if_true];by_cases h:i<0
   ·simp only[h,if_true];omega
   ·simp only[h,if_false];omega
 have l:=a lo 0;have u:=a hi n;unfold Builtin.Str.strSliceIndices;simp only[one,if_true]at l u⊢
 first
  |rw [l,u]
  | (cases lo<;>cases hi<;>simp_all)
theorem zhE (z:Str) (lo hi:Option Int):(Txt.slice z lo hi).cps.toList=zob z.cps.toList lo hi:=by
 have hn:z.length=z.cps.toList.length:=by simp [Str.length]
 have hp:(Builtin.Str.strSliceIndices lo hi 1 z.length).filterMap (z.cps[·]?)=zob z.cps.toList lo hi:=by
  rw [zkk,sliceRange_one,pick_run,hn];rfl
 unfold Txt.slice;split
 ·rename_i h;have h1:(Builtin.Str.strSliceIndices lo hi 1 z.length).length=z.length:=by simpa using h
  rw [zkk,sliceRange_one,List.length_map,List.length_range]at h1;have le1:=HT.sIx_le z.length z.length (Nat.le_refl _) hi;unfold zob;rw [←hn];have e0:HT.sIx z.length 0 lo=0∨z.length=0:=by omega
  have hz:z.cps.toList.length=z.length:=hn.symm;rcases e0 with e0 |e0
  ·rw [e0,List.drop_zero,List.take_of_length_le (by omega)]
  ·have:z.cps.toList=[]:=List.eq_nil_of_length_eq_zero (by omega);rw [this];simp
 ·show(List.filterMap _ _).toArray.toList=_;rw [hp]
theorem zjA:CallR X (.builtin "isinstance") (fun xs H Q=>∃x t c b,xs=[x, .ty c]∧TyOf X.K H x t∧PySem.W.kitOne X.K t (.type c)=some b∧Q (.bl b) H):=by
 intro pins s σ H xs us Q I r h;obtain⟨x,t,c,b,rfl,ty,e,q⟩:=h;obtain⟨u,v,rfl,rx,ry⟩:=zpv r;cases(show v=Value.type c from ry);exact zgS I rx ty e fun tk=>⟨.bl b,H,I.tok _,rfl,q⟩
end
section
variable {X:Cx}
theorem zca (l:Addr) (items:Array Value) (n:Nat) (b:Addr) (items2:Array Value) (n2:Nat) (dd:Option Addr) (sl:Array (Option Value)) (hs0:¬(!items.isEmpty&&Builtin.List.listTooLong (items.size+items2.size))=true) (hs1:items.size≤sizeLine) (hs2:items.size+items2.size≤sizeLine+1) :
  Meets (Builtin.«list.extend» ⟨[.ref l, .ref b],[]⟩) (fun _ R s=>s.heap.get? l=some { cls:= .type "list",dict:=none,data:= .seq items n,slots:= #[] }∧s.heap.get? b=some { cls:= .type "tuple",dict:=dd,data:= .seq items2 n2,slots:=sl }∧R (.ok (.ret Value.none)) { s with heap:=s.heap.update l (Obj.mapSeq fun x=>x++items2),toks:=s.toks }):=
 .of_wp fun prog w A R s h=>by
  obtain⟨hp,g,d,tk,os⟩:=s;obtain⟨hl,hb,h⟩:=h;have f1:=AutoSeq1.idx_int;have f2:=AutoSeq1.sub_tuple_tuple;have f3:=AutoSeq1.sub_list_list;have f4:=AutoSeq1.sub_tuple_list;have f5:=AutoSeq1.sub_list_tuple;have hz':(items++items2).size≤sizeLine+1:=by rw [Array.size_append];exact hs2
  wp_walk using(wpAny_updateSeq hl rfl (hz:=hs1) (_hz':=hz')),AutoSeq1.wpAny_loadPart' hl,AutoSeq1.wpAny_loadPart' hb;exact⟨_,rfl,h⟩
noncomputable def zga (K:PySem.W.Frag):V→List V→Hp→VK→Prop:=fun x vs H Q=>∃l b xs zs,x= .ref l∧vs=[.ref b]∧H l=some (.lst xs)∧SqT K H b zs∧xs.length+zs.length≤sizeLine∧Q .non (upd H l (.lst (xs++zs)))
theorem zgy:MtM X "list.extend" (zga X.K):=by
 intro pins s σ H x vs v us Q I rx rv h;obtain⟨l,b,xs,zs,rfl,rfl,hH,hB,hz,q⟩:=h;cases rx;obtain⟨u,rfl,ru⟩:=rv.one;cases ru;obtain⟨z,its,n,r,hl,e⟩:=I.lstM hH;obtain⟨its2,r2,ht,hz2⟩:=I.tuple hB;obtain⟨⟨cls,dd,data,sl⟩,e2,hc,n2,hd⟩:=ht;simp only at hc hd;subst hc hd;have hl2:=r2.length;have hsz:its.toArray.size+its2.toArray.size≤sizeLine:=by rw [List.size_toArray,List.size_toArray];omega
 have hlong:¬(!its.toArray.isEmpty&&Builtin.List.listTooLong (its.toArray.size+its2.toArray.size))=true:=by
  rw [zgx hsz,Bool.and_false];exact Bool.false_ne_true
 refine call_meets F.slot_list_extend ⟨_,e,rfl⟩ F.entry_list_extend (F.args_list_extend_2 _ _)
  (zca l its.toArray n b its2.toArray n2 dd sl hlong (by rw [List.size_toArray];omega) (by omega)) ⟨e,e2,?_⟩
 refine⟨.non,_,I.lset (its':=its++its2) hH e (by simp) (r.append r2) ?_,rfl,q⟩;rw [List.length_append];omega
noncomputable def znc (K:PySem.W.Frag):V→List V→Hp→VK→Prop:=fun x vs H Q=>∃(z:Str) (b:Addr) (ys:List Str),x= .str z∧vs=[.ref b]∧SqL K H b (ys.map V.str)∧(ys.map (·.length)).sum+ys.length*z.length≤16777216∧Q (.str (Str.join z ys)) H
theorem zkB{ys:List Str}:∀{us:List Value},Vals (ys.map V.str) us→StrsAre us ys:=by
 induction ys with
 |nil=>
  intro us r;cases r;exact .nil
 |cons y ys ih=>
  intro us r;cases r with
  |cons a b=>
   obtain⟨t,rfl⟩:=a;exact .cons y t (ih b)
theorem zlh:MtM X "str.join" (znc X.K):=by
 intro pins s σ H x vs v us Q I rx rv h;obtain⟨z,b,ys,rfl,rfl,hB,hz,q⟩:=h;obtain⟨t,rfl⟩:=rx;obtain⟨u,rfl,ru⟩:=rv.one;cases ru;obtain⟨its,r,pl,_⟩:=I.list hB;refine join_list pl.isList (by simpa using zkB r) hz fun t' k=>⟨.str (Str.join z ys),H,I.tok _,⟨t',?_⟩,q⟩;show Value.str (Builtin.Str.glued z ys) t'=_;rw [StrLaws.glued_eq_join]
end
theorem zcH:fillsNumberSlot (.type "tuple") "mul" =pure false:=
 PySem.fillsNumberSlot_seq (id:= "tuple.__mul__") (r:=some (.builtin "tuple.__rmul__")) F.slot_tuple_mul.lookup (by decide +kernel) F.slot_tuple_rmul.lookup (by decide +kernel)
theorem zet:seqRepeat? (.type "tuple")=pure (some (.builtin "tuple.__mul__")):=by
 unfold seqRepeat?;rw [PySem.seqSlot_of (T:= "tuple") (name:= "__mul__") (id:= "tuple.__mul__") F.slot_tuple_mul.lookup (by decide +kernel),PySem.seqSlot_of (T:= "tuple") (name:= "__rmul__") (id:= "tuple.__rmul__") F.slot_tuple_rmul.lookup (by decide +kernel)];rfl
theorem zgB (a:Int) (t:Tok) (l:Addr) (items:Array Value) (n:Nat) (dd:Option Addr) (sl:Array (Option Value)) :
  Meets (Builtin.«int.__rmul__» ⟨[.int a t, .ref l],[]⟩) (fun _ R s=>s.heap.get? l=some { cls:= .type "tuple",dict:=dd,data:= .seq items n,slots:=sl }∧R (.ok (.ret Value.notImplemented)) s):=
 .of_wp fun prog w A R s h=>by obtain⟨hp,g,d,tk,os⟩:=s;obtain⟨hl,h⟩:=h;wp_walk;exact⟨_,rfl,h⟩
theorem zdY (l:Addr) (items:Array Value) (n:Nat) (dd:Option Addr) (sl:Array (Option Value)) (u:Tok) :
  Meets (Builtin.«tuple.__mul__» ⟨[.ref l, .int 1 u],[]⟩) (fun _ R s=>s.heap.get? l=some { cls:= .type "tuple",dict:=dd,data:= .seq items n,slots:=sl }∧R (.ok (.ret (.ref l))) s):=
 .of_wp fun prog w A R s h=>by
  obtain⟨hp,g,d,tk,os⟩:=s;obtain⟨hl,h⟩:=h;have f1:=AutoSeq1.idx_int;have f2:=AutoSeq1.sub_tuple_tuple
  wp_walk using AutoSeq1.wpAny_loadPart' hl
  exact⟨_,rfl,h⟩
theorem zdO (l:Addr) (items:Array Value) (n:Nat) (dd:Option Addr) (sl:Array (Option Value)) (x:Int) (u:Tok) (h0:x≤0) (h1: -(2 ^ 63)≤x) (hne:items.isEmpty=false) :
  Meets (Builtin.«tuple.__mul__» ⟨[.ref l, .int x u],[]⟩) (fun _ R s=>s.heap.get? l=some { cls:= .type "tuple",dict:=dd,data:= .seq items n,slots:=sl }∧R (.ok (.ret (.ref s.heap.objs.size))) { s with heap:=s.heap.push { cls:= .type "tuple",data:= .seq #[] } }):=
 .of_wp fun prog w A R s h=>by
  obtain⟨hp,g,d,tk,os⟩:=s;obtain⟨hl,h⟩:=h;have f1:=AutoSeq1.idx_int;have f2:=AutoSeq1.sub_tuple_tuple;have c1:(decide (x< -2 ^ 63) || decide (x≥2 ^ 63))=false:=by
   rw [decide_eq_false (by omega),decide_eq_false (by omega)];rfl
  have c2:(items.isEmpty || x == 1)=false:=by
   rw [hne,beq_false_of_ne (by omega)];rfl
  have c3:(decide (x≤0) || items.isEmpty)=true:=by rw [decide_eq_true h0];rfl
  wp_walk using AutoSeq1.wpAny_loadPart' hl
  refine wpAny_ite_split (fun z=>absurd z (Bool.eq_false_iff.mp c1)) fun _=>?_
  wp_walk using AutoSeq1.wpAny_loadPart' hl
  refine wpAny_ite_split (fun z=>absurd z (Bool.eq_false_iff.mp c2)) fun _=>?_;refine wpAny_ite_split (fun _=>?_) (fun z=>absurd c3 z)
  wp_walk using AutoSeq1.wpAny_loadPart' hl
  exact⟨_,rfl,h⟩
theorem zds (l:Addr) (items:Array Value) (n:Nat) (dd:Option Addr) (sl:Array (Option Value)) (x:Int) (u:Tok) (h0:2≤x) (h1:x<2 ^ 63) (hne:items.isEmpty=false) (hz:items.size*x.toNat≤sizeLine) :
  Meets (Builtin.«tuple.__mul__» ⟨[.ref l, .int x u],[]⟩) (fun _ R s=>s.heap.get? l=some { cls:= .type "tuple",dict:=dd,data:= .seq items n,slots:=sl }∧R (.ok (.ret (.ref s.heap.objs.size))) { s with heap:=s.heap.push { cls:= .type "tuple",data:= .seq (List.foldl (fun x1 x2=>x1++x2) #[] (List.replicate x.toNat items)) } }):=
 .of_wp fun prog w A R s h=>by
  obtain⟨hp,g,d,tk,os⟩:=s;obtain⟨hl,h⟩:=h;have f1:=AutoSeq1.idx_int;have f2:=AutoSeq1.sub_tuple_tuple;have hx:((x.toNat:Nat):Int)=x:=by omega
  have hzi:(items.size:Int)*x≤16777216:=by
   have:((items.size*x.toNat:Nat):Int)≤(sizeLine:Nat):=by exact_mod_cast hz
   rw [Int.natCast_mul,hx]at this;exact this
  have c1:(decide (x< -2 ^ 63) || decide (x≥2 ^ 63))=false:=by
   rw [decide_eq_false (by omega),decide_eq_false (by omega)];rfl
  have c2:(items.isEmpty || x == 1)=false:=by
   rw [hne,beq_false_of_ne (by omega)];rfl
  have c3:(decide (x≤0) || items.isEmpty)=false:=by rw [hne,decide_eq_false (by omega)];rfl
  have c4:¬(items.size:Int)*x > (2 ^ 63 - 1) / 8:=by omega
  have c5:Builtin.Tuple.tupleTooMany ((items.size:Int)*x)=false:=decide_eq_false (by
   have:((sizeLine:Nat):Int)=16777216:=by decide
   omega)
  have hsz:(List.foldl (fun x1 x2=>x1++x2) #[] (List.replicate x.toNat items)).size≤sizeLine:=by
   rw [AutoSeq1.size_joined];simp;rw [Nat.mul_comm];exact hz
  wp_walk using AutoSeq1.wpAny_loadPart' hl
  refine wpAny_ite_split (fun z=>absurd z (Bool.eq_false_iff.mp c1)) fun _=>?_
  wp_walk using AutoSeq1.wpAny_loadPart' hl
  refine wpAny_ite_split (fun z=>absurd z (Bool.eq_false_iff.mp c2)) fun _=>?_;refine wpAny_ite_split (fun z=>absurd z (Bool.eq_false_iff.mp c3)) fun _=>?_;refine wpAny_ite_split (fun z=>absurd z c4) fun _=>?_;refine wpAny_ite_split (fun z=>absurd z (Bool.eq_false_iff.mp c5)) fun _=>?_
  wp_walk using AutoSeq1.wpAny_loadPart' hl
  exact⟨_,rfl,h⟩
section
variable {X:Cx}
noncomputable def zmN (K:PySem.W.Frag):R2:=fun x y H Q=>∃a k xs,x= .ref a∧y= .int k∧SqT K H a xs∧xs≠ []∧ -(2 ^ 63)≤k∧k<2 ^ 63∧xs.length*k.toNat≤sizeLine∧
 (k=1→Q (.ref a) H)∧(k≠1→ ∀p,H p=none→Q (.ref p) (upd H p (.tup (List.replicate k.toNat xs).flatten)))
theorem zlB:OpR X (binaryOp .Mult) (zmN X.K):=by
 intro pins s σ H x y v u Q I rx ry h;obtain⟨a,k,xs,rfl,rfl,ha,hne,h1,h2,hz,q1,q2⟩:=h;cases rx;obtain⟨t,rfl⟩:=ry;obtain⟨its,r,ht,hz0⟩:=I.tuple ha;have hlen:=r.length;have ty:=ht.typeIs;obtain⟨⟨cls,dd,data,sl⟩,e,hc,n,hd⟩:=ht;simp only at hc hd;subst hc hd;have hemp:its.toArray.isEmpty=false:=by
  cases its with
  |nil=>
   have:xs=[]:=List.eq_nil_of_length_eq_zero (by rw [hlen];rfl);exact absurd this hne
  |cons b bs=>rfl
 have fin:∀{its':List Value}{ys:List V},Vals ys its'→ys.length≤sizeLine→(∀p,H p=none→Q (.ref p) (upd H p (.tup ys)))→EP X pins σ Q (.ref s.heap.objs.size) { s with heap:=s.heap.push { cls:= .type "tuple",data:= .seq its'.toArray } }:=fun {its' ys} rv hl q=>
  ⟨.ref s.heap.objs.size,_,I.laid (t':=s.toks) (o:= .tup ys) (fun b ob q=>Heap.get?_push_of_some _ q) (Nat.le_refl _) ⟨hl,_,rv,IsTup.new _ _⟩,rfl,q _ (I.hok.fresh (Nat.le_refl _))⟩
 refine wpAny_binaryOp_repeat_ref (T:= "tuple") (U:= "int") (by decide) ty (fun s'=>typeIs_int s' k t) zcH F.fills_int_mul F.slot_int_rmul zet F.slot_int_index.lookup
  (call_meets F.slot_int_rmul (typeIs_int s k t) F.entry_int_rmul (F.args_int_rmul_2 _ _) (zgB k t a its.toArray n dd sl) ⟨e,rfl,ty,?_⟩)
 by_cases hk:k=1
 ·subst hk;exact call_meets F.slot_tuple_mul ty F.entry_tuple_mul (F.args_tuple_mul_2 _ _) (zdY a its.toArray n dd sl t) ⟨e, .ref a,H,I,rfl,q1 rfl⟩
 ·by_cases h0:k≤0
  ·refine call_meets F.slot_tuple_mul ty F.entry_tuple_mul (F.args_tuple_mul_2 _ _) (zdO a its.toArray n dd sl k t h0 h1 hemp) ⟨e,?_⟩;have z:k.toNat=0:=by omega
   have q2':=q2 hk;rw [z]at q2';exact fin (its':=[]) (ys:=[]) .nil (Nat.zero_le _) q2'
  ·refine call_meets F.slot_tuple_mul ty F.entry_tuple_mul (F.args_tuple_mul_2 _ _) (zds a its.toArray n dd sl k t (by omega) h2 hemp (by rw [List.size_toArray,←hlen];exact hz)) ⟨e,?_⟩;have hf:=zem its k.toNat [];rw [List.nil_append]at hf;have hf':List.foldl (fun x1 x2=>x1++x2) #[] (List.replicate k.toNat its.toArray)=(List.replicate k.toNat its).flatten.toArray:=hf;rw [hf'];exact fin (r.rep k.toNat) (by rw [zlu,Nat.mul_comm];exact hz) (q2 hk)
end
inductive W where
  |non |bl (b:Bool) |int (i:Int) |str (x:Str) |tup (ws:List W) |ref (a:Addr) |scr (ns:List Int)
inductive Ob where
  |lst (ws:List W)
  |dct (kvs:List (List Int×W))
  |ins (C:Addr) (fs:List (Str×W))
noncomputable abbrev Sto:=Addr→Option Ob
noncomputable def put (S:Sto) (a:Addr) (o:Ob):Sto:=fun b=>if b=a then some o else S b
noncomputable def FzL (K:PySem.W.Frag) (H:Hp) (a:Addr) (xs:List V):Prop:=
 (∃o,H a=some (.frz o (.lst xs)))∨
  ∃(o:Obj) (its:Array Value) (n:Nat),K.lookup a=some o∧o.cls= .type "list" ∧o.dict=none∧o.data= .seq its n∧its.size≤sizeLine∧Vals xs its.toList
mutual
inductive Rep (K:PySem.W.Frag) (H:Hp):W→V→Prop
 |non:Rep K H .non .non
 |bl (b:Bool):Rep K H (.bl b) (.bl b)
 |int (i:Int):Rep K H (.int i) (.int i)
 |str (x:Str):Rep K H (.str x) (.str x)
 |ref (a:Addr):Rep K H (.ref a) (.ref a)
 |scr {a:Addr}{ns:List Int}:FzL K H a (ns.map V.int)→Rep K H (.scr ns) (.ref a)
 |tup {a:Addr}{vs:List V}{ws:List W}:H a=some (.tup vs)→Reps K H ws vs→Rep K H (.tup ws) (.ref a)
inductive Reps (K:PySem.W.Frag) (H:Hp):List W→List V→Prop
 |nil:Reps K H [] []
 |cons {w:W}{v:V}{ws:List W}{vs:List V}:Rep K H w v→Reps K H ws vs→Reps K H (w::ws) (v::vs)
end
structure Ext (H:Hp) (S:Sto) (H':Hp) (S':Sto):Prop where
  tup:∀b xs,H b=some (.tup xs)→H' b=some (.tup xs)
  frz:∀b o u,H b=some (.frz o u)→H' b=some (.frz o u)
  fr:∀b xs,H b=some (.lst xs)→S b=none→H' b=some (.lst xs)∧S' b=none
  all:∀b o,H b=some o→ ∃o',H' b=some o'
noncomputable def Sub (S S':Sto):Prop:=∀a o,S a=some o→S' a=some o
section
variable {K:PySem.W.Frag}{H H' H1 H2:Hp}{S S' S1 S2:Sto}
theorem zaj{a:Addr}{o:Ob}:put S a o a=some o:=by unfold put;rw [if_pos rfl]
theorem zbg{a b:Addr}{o:Ob}(h:b≠a):put S a o b=S b:=by unfold put;rw [if_neg h]
theorem zcd{a:Addr}{o o':Ob}:put (put S a o) a o'=put S a o':=by funext b;unfold put;split<;>rfl
theorem Ext.refl:Ext H S H S:=⟨fun _ _ h=>h,fun _ _ _ h=>h,fun _ _ h g=>⟨h,g⟩,fun _ o h=>⟨o,h⟩⟩
theorem Ext.trans (a:Ext H S H1 S1) (b:Ext H1 S1 H2 S2):Ext H S H2 S2:=⟨fun c xs h=>b.tup c xs (a.tup c xs h),fun c o u h=>b.frz c o u (a.frz c o u h),
 fun c o h g=>by
  obtain⟨h1,g1⟩:=a.fr c o h g;exact b.fr c o h1 g1,fun c o h=>by
  obtain⟨o1,h1⟩:=a.all c o h;exact b.all c o1 h1⟩
theorem Ext.new{p:Addr}{o:HO}(h:H p=none):Ext H S (upd H p o) S:=
  ⟨fun b xs e=>by rw [zan (zal e h)];exact e,fun b ob u e=>by rw [zan (zal e h)];exact e,
   fun b ob e g=>⟨by rw [zan (zal e h)];exact e,g⟩,fun b ob e=>⟨ob,by rw [zan (zal e h)];exact e⟩⟩
theorem Ext.newS{p:Addr}{o:HO}{ob:Ob}(h:H p=none):Ext H S (upd H p o) (put S p ob):=
  ⟨fun b xs e=>by rw [zan (zal e h)];exact e,fun b ob u e=>by rw [zan (zal e h)];exact e,
   fun b ob e g=>⟨by rw [zan (zal e h)];exact e,by rw [zbg (zal e h)];exact g⟩,fun b ob e=>⟨ob,by rw [zan (zal e h)];exact e⟩⟩
theorem Ext.mut{p:Addr}{o u:HO}{ob ob0:Ob}(h:H p=some u) (hs:S p=some ob0) (ht:∀xs,u≠ .tup xs) (hf:∀ob q,u≠ .frz ob q):Ext H S (upd H p o) (put S p ob):=
  ⟨fun b xs e=>by rw [zan (zjU e h fun z=>ht xs z.symm)];exact e,fun b ob q e=>by rw [zan (zjU e h fun z=>hf ob q z.symm)];exact e,
   fun b ob e g=>by
     have hb:b≠p:=by rintro rfl;rw [hs]at g;cases g
     exact⟨by rw [zan hb];exact e,by rw [zbg hb];exact g⟩,fun b ob e=>by
     by_cases hb:b=p
     · subst hb;exact⟨o,zas⟩
     · exact⟨ob,by rw [zan hb];exact e⟩⟩
theorem Ext.lst{p:Addr}{o:HO}{ob ob0:Ob}{xs:List V}(h:H p=some (.lst xs)) (hs:S p=some ob0):Ext H S (upd H p o) (put S p ob):= .mut h hs (fun _ z=>nomatch z) fun _ _ z=>nomatch z
theorem Ext.drop (h:Sub S' S):Ext H S H S':=⟨fun _ _ h=>h,fun _ _ _ h=>h,fun b o e g=>⟨e,by
 cases q:S' b with
 |none=>rfl
 |some z=>rw [h b z q]at g;cases g⟩,fun _ o h=>⟨o,h⟩⟩
theorem Ext.free (e:Ext H S H' S') {p:Addr}(h:H' p=none):H p=none:=by
 cases q:H p with
 |none=>rfl
 |some o=>obtain⟨o',z⟩:=e.all p o q;rw [h]at z;cases z
theorem Ext.fz{a:Addr}{xs:List V}(e:Ext H S H' S') (h:FzL K H a xs):FzL K H' a xs:=by
 rcases h with⟨o,h⟩ |h
 ·exact .inl ⟨o,e.frz _ _ _ h⟩
 ·exact .inr h
theorem FzL.sq{a:Addr}{xs:List V}(h:FzL K H a xs):SqL K H a xs:=by
 rcases h with⟨o,h⟩ |h
 ·exact .inl (.inr ⟨o,h⟩)
 ·exact .inr h
mutual
theorem Rep.ext (e:Ext H S H' S') {w:W}{v:V}:Rep K H w v→Rep K H' w v
 | .non=> .non
 | .bl b=> .bl b
 | .int i=> .int i
 | .str x=> .str x
 | .ref a=> .ref a
 | .scr h=> .scr (e.fz h)
 | .tup h hs=> .tup (e.tup _ _ h) (Reps.ext e hs)
theorem Reps.ext (e:Ext H S H' S') {ws:List W}{vs:List V}:Reps K H ws vs→Reps K H' ws vs
 | .nil=> .nil
 | .cons h hs=> .cons (Rep.ext e h) (Reps.ext e hs)
end
theorem Reps.length:∀{ws:List W}{vs:List V},Reps K H ws vs→ws.length=vs.length
 |_,_, .nil=>rfl
 |_,_, .cons _ hs=>congrArg (· +1) (Reps.length hs)
theorem Reps.get:∀{ws:List W}{vs:List V}{i:Nat}{w:W},Reps K H ws vs→ws[i]? =some w→ ∃v,vs[i]? =some v∧Rep K H w v
 |_,_,_,_, .nil,e=>by simp at e
 |_,_,0,_, .cons h _,e=>by simp at e;subst e;exact⟨_,rfl,h⟩
 |_,_,i+1,w, .cons _ hs,e=>by
  obtain⟨v,h1,h2⟩:=Reps.get (i:=i) (w:=w) hs (by simpa using e);exact⟨v,by simpa using h1,h2⟩
theorem Reps.append:∀{ws us:List W}{vs xs:List V},Reps K H ws vs→Reps K H us xs→Reps K H (ws++us) (vs++xs)
 |_,_,_,_, .nil,h=>h
 |_,_,_,_, .cons r t,h=> .cons r (Reps.append t h)
theorem Reps.take:∀{ws:List W}{vs:List V}(n:Nat),Reps K H ws vs→Reps K H (ws.take n) (vs.take n)
 |_,_,0,_=> .nil
 |_,_,_+1, .nil=> .nil
 |_,_,n+1, .cons r t=> .cons r (Reps.take n t)
theorem Reps.drop:∀{ws:List W}{vs:List V}(n:Nat),Reps K H ws vs→Reps K H (ws.drop n) (vs.drop n)
 |_,_,0,r=>r
 |_,_,_+1, .nil=> .nil
 |_,_,n+1, .cons _ t=>Reps.drop n t
theorem Reps.one{w:W}{v:V}(h:Rep K H w v):Reps K H [w] [v]:= .cons h .nil
theorem Reps.ofInts:∀(ns:List Int),Reps K H (ns.map W.int) (ns.map V.int)
 | []=> .nil
 |n::ns=> .cons (.int n) (Reps.ofInts ns)
end
noncomputable def RepO (K:PySem.W.Frag) (H:Hp) (a:Addr):Ob→Prop
 | .lst ws=>∃vs,H a=some (.lst vs)∧Reps K H ws vs
 | .dct kvs=>∃ps:List (List Key×V),H a=some (.dT ps)∧Paired (fun q p=>p.1=q.1.map Sum.inl∧Rep K H q.2 p.2) kvs ps
 | .ins C fs=>False
noncomputable def RepS (K:PySem.W.Frag) (H:Hp) (S:Sto):Prop:=∀a o,S a=some o→RepO K H a o
section
variable {K:PySem.W.Frag}{H H':Hp}{S S' S0 S0':Sto}{a b p:Addr}{o:Ob}
theorem Sub.refl:Sub S S:=fun _ _ h=>h
theorem Sub.trans{S1 S2 S3:Sto}(h:Sub S1 S2) (g:Sub S2 S3):Sub S1 S3:=fun a o e=>g a o (h a o e)
theorem RepS.sub (h:RepS K H S') (q:Sub S S'):RepS K H S:=fun a o e=>h a o (q a o e)
theorem RepO.some (h:RepO K H a o):∃u,H a=some u:=by
 cases o with
 |lst ws=>obtain⟨vs,e,_⟩:=h;exact⟨_,e⟩
 |dct kvs=>obtain⟨vs,e,_⟩:=h;exact⟨_,e⟩
 |ins C fs=>exact h.elim
theorem RepS.free (h:RepS K H S) (e:H p=none):S p=none:=by
 cases q:S p with
 |none=>rfl
 |some o=>obtain⟨u,z⟩:=(h p o q).some;rw [e]at z;cases z
theorem RepO.keep (e:Ext H S0 H' S0') (k:∀u,H a=Option.some u→H' a=Option.some u) (h:RepO K H a o):RepO K H' a o:=by
 cases o with
 |lst ws=>obtain⟨vs,e1,r⟩:=h;exact⟨vs,k _ e1,r.ext e⟩
 |dct kvs=>obtain⟨vs,e1,r⟩:=h;exact⟨vs,k _ e1,Paired.mapP r fun _ _ z=>⟨z.1,z.2.ext e⟩⟩
 |ins C fs=>exact h.elim
theorem RepS.new{u:HO}(h:RepS K H S) (e:H p=none):RepS K (upd H p u) S:=fun a o q=>
 (h a o q).keep (.new (S:=S) e) fun v z=>by rw [zan (zal z e)];exact z
theorem RepS.put_lst{ws:List W}{vs:List V}(h:RepS K H S) (e:H p=none) (r:Reps K (upd H p (.lst vs)) ws vs):RepS K (upd H p (.lst vs)) (put S p (.lst ws)):=fun a o q=>by
 by_cases ha:a=p
 ·subst ha;rw [zaj]at q;cases q;exact⟨vs,zas,r⟩
 ·rw [zbg ha]at q;exact h.new e a o q
theorem RepS.set_lst{ws0 ws:List W}{vs:List V}(h:RepS K H S) (e:S a=some (.lst ws0)) (r:Reps K H ws vs):Ext H S (upd H a (.lst vs)) (put S a (.lst ws))∧RepS K (upd H a (.lst vs)) (put S a (.lst ws)):=by
 obtain⟨vs0,e0,_⟩:=h a _ e;have x:Ext H S (upd H a (.lst vs)) (put S a (.lst ws)):= .lst e0 e;refine⟨x,fun b o q=>?_⟩;by_cases hb:b=a
 ·subst hb;rw [zaj]at q;cases q;exact⟨vs,zas,r.ext x⟩
 ·rw [zbg hb]at q;exact(h b o q).keep x fun u z=>by rw [zan hb];exact z
end
noncomputable abbrev WSt:=List (Option W)
noncomputable abbrev WK:=W→Sto→Prop
noncomputable abbrev WX:=Str→WSt→Sto→Prop
noncomputable abbrev WE:=WX→WSt→Sto→WK→Prop
noncomputable abbrev WT:=WX→WSt→Sto→(Bool→Sto→Prop)→Prop
noncomputable abbrev WA:=WX→WSt→Sto→(List W→Sto→Prop)→Prop
structure WEnds where
  nx:WSt→Sto→Prop
  rt:WK
  bk:WSt→Sto→Prop:=fun _ _=>False
  ct:WSt→Sto→Prop:=fun _ _=>False
noncomputable abbrev WS:=WX→WEnds→WSt→Sto→Prop
noncomputable abbrev WG:=W→WSt→Sto→(WSt→Sto→Prop)→Prop
noncomputable abbrev WSp:=List W→Sto→WK→(Str→Sto→Prop)→Prop
noncomputable abbrev WI:=WX→WSt→Sto→(List W→(Sto→Prop)→Sto→Prop)→Prop
noncomputable abbrev WL:=WX→WSt→Sto→(List W→Sto→Prop)→Prop
noncomputable def RpO (K:PySem.W.Frag) (H:Hp):Option W→Option V→Prop
 |none,_=>True
 |some w,some v=>Rep K H w v
 |some _,none=>False
noncomputable def RpSt (K:PySem.W.Frag) (H:Hp) (σW:WSt) (σ:St):Prop:=Paired (RpO K H) σW σ
section
variable {K:PySem.W.Frag}{H H':Hp}{S S':Sto}
theorem RpO.ext (e:Ext H S H' S'):∀{w:Option W}{v:Option V},RpO K H w v→RpO K H' w v
 |none,_,_=>trivial
 |some _,some _,h=>Rep.ext e h
 |some _,none,h=>h.elim
theorem RpSt.ext (e:Ext H S H' S') {σW:WSt}{σ:St}(h:RpSt K H σW σ):RpSt K H' σW σ:=Paired.mapP h fun _ _ r=>RpO.ext e r
theorem RpSt.get:∀{σW:WSt}{σ:St}{i:Nat}{w:W},RpSt K H σW σ→σW[i]? =some (some w)→ ∃v,σ[i]? =some (some v)∧Rep K H w v
 |_,_,_,_, .nil,e=>by simp at e
 |_,_,0,_, .cons (b:=b) h _,e=>by
  simp at e;subst e;cases b with
  |none=>exact(show False from h).elim
  |some v=>exact⟨v,rfl,h⟩
 |_,_,i+1,w, .cons _ hs,e=>by
  obtain⟨v,h1,h2⟩:=RpSt.get (i:=i) (w:=w) hs (by simpa using e);exact⟨v,by simpa using h1,h2⟩
theorem RpSt.set{w:W}{v:V}(h:Rep K H w v):∀{σW:WSt}{σ:St}(i:Nat),RpSt K H σW σ→RpSt K H (σW.set i (some w)) (σ.set i (some v))
 |_,_,_, .nil=> .nil
 |_,_,0, .cons _ t=> .cons h t
 |_,_,i+1, .cons q t=> .cons q (RpSt.set h i t)
end
noncomputable def Wish (K:PySem.W.Frag) (H:Hp) (S:Sto) (QW:WK) (Q:VK):Prop:=∀w S' v H',Ext H S H' S'→Rep K H' w v→RepS K H' S'→QW w S'→Q v H'
noncomputable def znX (K:PySem.W.Frag) (t:WSt→Sto→WK→Prop):TE:=fun σ H Q=>∃σW S QW,RpSt K H σW σ∧RepS K H S∧t σW S QW∧Wish K H S QW Q
noncomputable def zlw (K:PySem.W.Frag) (t:WSt→Sto→(Bool→Sto→Prop)→Prop):TT:=fun σ H Q=>∃σW S QW,RpSt K H σW σ∧RepS K H S∧t σW S QW∧ ∀b S' H',Ext H S H' S'→RepS K H' S'→QW b S'→Q b H'
noncomputable def zoJ (K:PySem.W.Frag) (t:WSt→Sto→(List W→Sto→Prop)→Prop):TA:=fun σ H Q=>∃σW S QW,RpSt K H σW σ∧RepS K H S∧t σW S QW∧ ∀ws S' vs H',Ext H S H' S'→Reps K H' ws vs→RepS K H' S'→QW ws S'→Q vs H'
noncomputable def Goes (K:PySem.W.Frag) (H:Hp) (S:Sto) (P:WSt→Sto→Prop) (Q:St→Hp→Prop):Prop:=∀σW S' σ H',Ext H S H' S'→RpSt K H' σW σ→RepS K H' S'→P σW S'→Q σ H'
structure Meets (K:PySem.W.Frag) (H:Hp) (S:Sto) (DW:WEnds) (D:Ends):Prop where
  nx:Goes K H S DW.nx D.nx
  rt:Wish K H S DW.rt D.rt
  bk:Goes K H S DW.bk D.bk
  ct:Goes K H S DW.ct D.ct
noncomputable def zmQ (K:PySem.W.Frag) (t:WEnds→WSt→Sto→Prop):TS:=fun D σ H=>∃σW S DW,RpSt K H σW σ∧RepS K H S∧t DW σW S∧Meets K H S DW D
noncomputable def zoC (K:PySem.W.Frag) (t:WG):TG:=fun v σ H Q=>∃w σW S P,Rep K H w v∧RpSt K H σW σ∧RepS K H S∧t w σW S P∧Goes K H S P Q
noncomputable def ItW (K:PySem.W.Frag) (J:It) (ws:List W) (G:Sto→Prop) (H0:Hp) (S0:Sto):Prop:=∀i S H,Ext H0 S0 H S→RepS K H S→G S→
 (∀w,ws[i]? =some w→J.go i H∧ ∀x H',J.yld i H x H'→Ext H S H' S∧RepS K H' S∧Rep K H' w x)∧(i=ws.length→J.stop i H)
noncomputable def zmf (K:PySem.W.Frag) (t:WSt→Sto→(List W→(Sto→Prop)→Sto→Prop)→Prop):TI:=fun σ H R=>∃σW S QW,RpSt K H σW σ∧RepS K H S∧t σW S QW∧
 ∀ws G S' J H',Ext H S H' S'→RepS K H' S'→G S'→ItW K J ws G H' S'→QW ws G S'→R J H'
noncomputable def zmg (K:PySem.W.Frag) (t:WSt→Sto→(List W→Sto→Prop)→Prop):TE:=fun σ H Q=>∃σW S QW,RpSt K H σW σ∧RepS K H S∧t σW S QW∧
 ∀ws S' vs a H',Ext H S H' S'→H a=none→H' a=some (.lst vs)→S' a=none→Reps K H' ws vs→RepS K H' S'→QW ws S'→Q (.ref a) H'
noncomputable def zaS (K:PySem.W.Frag) (sp:WSp):Sp:=fun vs H Q E=>∃ws S QW EW,Reps K H ws vs∧RepS K H S∧sp ws S QW EW∧Wish K H S QW Q∧
 ∀cl C S' H',PySem.W.nsIn K mainGlobals cl=some (some (.ref C))→RepS K H' S'→EW cl S'→E (.ref C) none H'
noncomputable def Fly (g h:Heap) (H:Hp) (a C:Addr):Prop:=g.get? a=none∧H a=none∧ ∃oe vs T oT ts,h.get? a=some oe∧oe.cls= .ref C∧oe.data= .fields vs∧vs[1]? =some (.ref T)∧
 g.get? T=none∧H T=none∧T≠a∧h.get? T=some oT∧oT.data= .fields ts∧ts[3]? =some .none
noncomputable def CX1 (P:Program) (w:World):CXT:=fun outer H s E e s'=>∃a C H',e= .ref a∧s'.os=s.os∧AllBare s'.gens∧Un (frs outer) [] H H' s.heap s'.heap∧HOk P w H' s'.heap∧Fly s.heap s'.heap H' a C∧E (.ref C) none H'
structure Hook (X:Cx) (E:WX):Prop where
  own:PassesOwn (model X.prog X.w) X.A X.env X.xe
  far:∀(pins:List (Addr×Obj)) (σ:St) (H:Hp) (s:Shared) (σW:WSt) (cl:Str) (C a:Addr) (H':Hp) (S':Sto) (s':Shared),Inv X pins σ H s→RpSt X.K H σW σ→PySem.W.nsIn X.K mainGlobals cl=some (some (.ref C))→
    s'.os=s.os→AllBare s'.gens→Un (frs X.stack) [] H H' s.heap s'.heap→HOk X.prog X.w H' s'.heap→Fly s.heap s'.heap H' a C→RepS X.K H' S'→E cl σW S'→X.xe (.ref a) s'
  near:∀(pins:List (Addr×Obj)) (σ:St) (H:Hp) (s:Shared) (σW:WSt) (cl:Str) (C a:Addr) (S:Sto) (h':Heap) (args:List Value),Inv X pins σ H s→RpSt X.K H σW σ→PySem.W.nsIn X.K mainGlobals cl=some (some (.ref C))→
    Heap.MadeExcOf s.heap h' a (.ref C) args→RepS X.K H S→E cl σW S→X.xe (.ref a) { s with heap:=h' }
noncomputable def JE (X:Cx) (e:Expr) (t:WE):Prop:=∀E,Hook X E→PE X e (znX X.K (t E))
noncomputable def JT (X:Cx) (e:Expr) (t:WT):Prop:=∀E,Hook X E→PT X e (zlw X.K (t E))
noncomputable def JW (X:Cx) (e:Expr) (t:WT):Prop:=∀E,Hook X E→PW X e (zlw X.K (t E))
noncomputable def JA (X:Cx) (es:List Expr) (t:WA):Prop:=∀E,Hook X E→PA X es (zoJ X.K (t E))
noncomputable def JS (X:Cx) (st:Stmt) (t:WS):Prop:=∀E,Hook X E→PS X st (zmQ X.K (t E))
noncomputable def JSs (X:Cx) (st:List Stmt) (t:WS):Prop:=∀E,Hook X E→PSs X st (zmQ X.K (t E))
noncomputable def JG (X:Cx) (tg:Expr) (t:WG):Prop:=∀E,Hook X E→PG X tg (zoC X.K t)
noncomputable def JI (X:Cx) (tg iter:Expr) (t:WI):Prop:=∀E,Hook X E→PI X tg iter (zmf X.K (t E))
noncomputable def JL (X:Cx) (e:Expr) (t:WL):Prop:=∀E,Hook X E→PE X e (zmg X.K (t E))
theorem PE.mono{X:Cx}{e:Expr}{t t':TE}(h:PE X e t) (q:∀σ H Q,t' σ H Q→t σ H Q):PE X e t':=fun pins s σ H Q I z=>h pins s σ H Q I (q σ H Q z)
theorem PT.mono{X:Cx}{e:Expr}{t t':TT}(h:PT X e t) (q:∀σ H Q,t' σ H Q→t σ H Q):PT X e t':=fun pins s σ H Q I z=>h pins s σ H Q I (q σ H Q z)
theorem PW.mono{X:Cx}{e:Expr}{t t':TT}(h:PW X e t) (q:∀σ H Q,t' σ H Q→t σ H Q):PW X e t':=fun wh pins s σ H Q I z=>h wh pins s σ H Q I (q σ H Q z)
theorem PA.mono{X:Cx}{e:List Expr}{t t':TA}(h:PA X e t) (q:∀σ H Q,t' σ H Q→t σ H Q):PA X e t':=fun pos pins s σ H Q I z=>h pos pins s σ H Q I (q σ H Q z)
theorem PS.mono{X:Cx}{e:Stmt}{t t':TS}(h:PS X e t) (q:∀D σ H,t' D σ H→t D σ H):PS X e t':=fun pins s σ H D I z=>h pins s σ H D I (q D σ H z)
theorem PSs.mono{X:Cx}{e:List Stmt}{t t':TS}(h:PSs X e t) (q:∀D σ H,t' D σ H→t D σ H):PSs X e t':=fun pins s σ H D I z=>h pins s σ H D I (q D σ H z)
theorem PG.mono{X:Cx}{e:Expr}{t t':TG}(h:PG X e t) (q:∀v σ H Q,t' v σ H Q→t v σ H Q):PG X e t':=fun pins s σ H v u Q I r z=>h pins s σ H v u Q I r (q v σ H Q z)
theorem PI.mono{X:Cx}{tg e:Expr}{t t':TI}(h:PI X tg e t) (q:∀σ H R,t' σ H R→t σ H R):PI X tg e t':=fun pins s σ H R I z=>h pins s σ H R I (q σ H R z)
noncomputable def zah (i:Nat):WE:=fun _ σ S Q=>match σ[i]? with
 |some (some w)=>Q w S
 |_=>False
noncomputable def wC (w:W):WE:=fun _ _ S Q=>Q w S
section
variable {X:Cx}
theorem jv (i:Nat) {x:Str}{pos:Pos}(hN:X.N[i]? =some x:=by rfl) (hv:Vis X.env.scope x:=by first |exact Or.inl rfl |exact Or.inr (Or.inl rfl) |exact Or.inr (Or.inr rfl)) (hd:(x == ("__debug__" :Str))=false:=by decide)
  (hcd:(x == ("__classdict__" :Str))=false:=by decide):JE X (.Name x pos) (zah i):=fun E hE=>(zhr hN hv hd hcd).mono fun σ H Q ⟨σW,S,QW,hσ,hS,ht,hQ⟩=>by
 unfold zah at ht;split at ht
 ·rename_i w e;obtain⟨v,e',r⟩:=hσ.get e;exact⟨v,e',hQ w S v H .refl r hS ht⟩
 ·exact ht.elim
theorem zhY{e:Expr}{v:V}{w:W}(h:PE X e (tC v)) (r:∀K H,Rep K H w v):JE X e (wC w):=fun E hE=>h.mono fun σ H Q ⟨σW,S,QW,hσ,hS,ht,hQ⟩=>hQ w S v H .refl (r _ _) hS ht
theorem zac{i j pos}:JE X (.Constant (.int i) j pos) (wC (.int i)):=zhY zmj fun _ _=> .int i
theorem zcG{b j pos}:JE X (.Constant (.bool b) j pos) (wC (.bl b)):=zhY zoL fun _ _=> .bl b
theorem zit{j pos}:JE X (.Constant .none j pos) (wC .non):=zhY znf fun _ _=> .non
theorem zcE{x j pos}:JE X (.Constant (.str x) j pos) (wC (.str x)):=zhY znl fun _ _=> .str x
theorem zdK{x:Str}{i:Int}{u:Tok}{pos:Pos}(hg:Gl X x) (hm:X.mg x=some (.int i u)) (hd:(x == ("__debug__" :Str))=false:=by decide):JE X (.Name x pos) (wC (.int i)):=zhY (v:= .int i) (zih hg hm ⟨u,rfl⟩ hd) fun _ _=> .int i
end
noncomputable abbrev W2:=W→W→Sto→WK→Prop
noncomputable def wOp (r:W2) (a b:WE):WE:=fun E σ S Q=>a E σ S fun x S1=>b E σ S1 fun y S2=>r x y S2 Q
noncomputable def OpW (K:PySem.W.Frag) (r:R2) (wr:W2):Prop:=∀H x y wx wy S (Q:VK) (QW:WK),Rep K H wx x→Rep K H wy y→RepS K H S→wr wx wy S QW→Wish K H S QW Q→r x y H Q
theorem Wish.from{K:PySem.W.Frag}{H H':Hp}{S S':Sto}{QW:WK}{Q:VK}(h:Wish K H S QW Q) (e:Ext H S H' S'):Wish K H' S' QW Q:=fun w S v H'' e' r hS q=>h w S v H'' (e.trans e') r hS q
theorem Goes.from{K:PySem.W.Frag}{H H':Hp}{S S':Sto}{P:WSt→Sto→Prop}{Q:St→Hp→Prop}(h:Goes K H S P Q) (e:Ext H S H' S'):Goes K H' S' P Q:=fun σW S σ H'' e' r hS q=>h σW S σ H'' (e.trans e') r hS q
theorem Meets.from{K:PySem.W.Frag}{H H':Hp}{S S':Sto}{DW:WEnds}{D:Ends}(h:Meets K H S DW D) (e:Ext H S H' S'):Meets K H' S' DW D:=⟨h.nx.from e,h.rt.from e,h.bk.from e,h.ct.from e⟩
section
variable {X:Cx}{a b:Expr}{pos:Pos}
theorem zcK{K:PySem.W.Frag}{ta tb:WSt→Sto→WK→Prop}{wr:W→W→Sto→WK→Prop}{σ:St}{H:Hp}{Q:VK}{R:V→V→Hp→Prop}
  (h:znX K (fun σ S Q=>ta σ S fun x S1=>tb σ S1 fun y S2=>wr x y S2 Q) σ H Q)
  (hR:∀H2 x y wx wy S (QW:WK),Rep K H2 wx x→Rep K H2 wy y→RepS K H2 S→wr wx wy S QW→Wish K H2 S QW Q→R x y H2) :
  znX K ta σ H fun x H1=>znX K tb σ H1 fun y H2=>R x y H2:=by
 obtain⟨σW,S,QW,hσ,hS,ht,hQ⟩:=h;refine⟨σW,S,_,hσ,hS,ht,fun w1 S1 v1 H1 e1 r1 hS1 h1=>?_⟩;refine⟨σW,S1,_,hσ.ext e1,hS1,h1,fun w2 S2 v2 H2 e2 r2 hS2 h2=>?_⟩;exact hR H2 v1 v2 w1 w2 S2 QW (r1.ext e2) r2 hS2 h2 (hQ.from (e1.trans e2))
theorem zfH{op:Operator}{r:R2}{wr:W2}{ta tb:WE}(ho:OpR X (binaryOp op) r) (hw:OpW X.K r wr) (ha:JE X a ta) (hb:JE X b tb):JE X (.BinOp a op b pos) (wOp wr ta tb):=fun E hE=>
 (zln ho (ha E hE) (hb E hE)).mono fun σ H Q h=>zcK h fun H2 x y wx wy S QW rx ry hS q hQ=>hw H2 x y wx wy S Q QW rx ry hS q hQ
theorem zmo{op:CmpOp}{r:R2}{wr:W2}{ta tb:WE}(ho:OpR X (compareOp op) r) (hw:OpW X.K r wr) (ha:JE X a ta) (hb:JE X b tb) (hm:behindInMarks op b=false):JE X (.Compare a [op] [b] pos) (wOp wr ta tb):=fun E hE=>
 (zlb ho (ha E hE) (hb E hE) hm).mono fun σ H Q h=>zcK h fun H2 x y wx wy S QW rx ry hS q hQ=>hw H2 x y wx wy S Q QW rx ry hS q hQ
end
theorem ObjOk.ex{P:Program}{w:World}{H:Hp}{h:Heap}{a:Addr}{o:HO}(x:ObjOk P w H h a o):∃u,h.get? a=some u:=by
 cases o with
 |lst xs=>obtain⟨_,_,_,_,e⟩:=x;exact⟨_,e⟩
 |tup xs=>obtain⟨_,_,_,o,e,_⟩:=x;exact⟨_,e⟩
 |dK kvs=>obtain⟨_,_,_,_,o,_,_,e,_⟩:=x;exact⟨_,e⟩
 |dT kvs=>obtain⟨_,_,_,_,o,_,_,e,_⟩:=x;exact⟨_,e⟩
 |set S n=>obtain⟨o,_,_,_,e,_⟩:=x;exact⟨_,e⟩
 |ins C dx fs=>obtain⟨_,_,_,e,_⟩:=x;exact⟨_,e⟩
 |own y=>exact x
 |xd fs=>obtain⟨_,⟨_,_,_,e,_⟩,_⟩:=x;exact⟨_,e⟩
 |rng lo hi=>obtain⟨_,_,_,e⟩:=x;exact⟨_,e⟩
 |frz ob u=>obtain⟨e,_⟩:=x;exact⟨_,e⟩
 |tbl ps=>exact⟨_,show h.get? a=some _ from x⟩
 |met f y=>exact⟨_,show h.get? a=some _ from x⟩
 |ext φ=>exact x.2.1
noncomputable def unt (H:Hp) (S:Sto):Hp:=fun b=>match H b with
 |some (.lst xs)=>match S b with
  |none=>none
  |some _=>some (.lst xs)
 |o=>o
noncomputable def rtk (H:Hp) (S:Sto) (H':Hp):Hp:=fun b=>match unt H S b with
 |none=>match H b with
  |some o=>some o
  |none=>H' b
 |some _=>match H' b with
  |some o=>some o
  |none=>some (.ext fun h=>∃o,h.get? b=some o)
section
variable {w:World}{K:PySem.W.Frag}{H:Hp}{S:Sto}{h:Heap}{b:Addr}{o:HO}
theorem zge (e:unt H S b=some o):H b=some o:=by
 unfold unt at e;split at e
 ·rename_i xs q;split at e
  ·cases e
  ·rw [q];exact e
 ·exact e
theorem zbY (e:H b=none):unt H S b=none:=by unfold unt;rw [e]
theorem zgg (e:H b=some o) (n:∀xs,o≠ .lst xs):unt H S b=some o:=by
 unfold unt;rw [e];cases o<;>first |rfl |exact absurd rfl (n _)
theorem zko{u:Ob}(e:H b=some o) (hs:S b=some u):unt H S b=some o:=by
 unfold unt;rw [e];cases o<;>first |rfl | (dsimp only;rw [hs])
theorem zhm{xs:List V}(e:H b=some (.lst xs)) (hs:S b=none):unt H S b=none:=by
 unfold unt;rw [e];dsimp only;rw [hs]
theorem zmY (e:unt H S b=none) (q:H b=some o):(∃xs,o= .lst xs)∧S b=none:=by
 unfold unt at e;rw [q]at e;cases o<;>first |cases e |skip;rename_i xs;dsimp only at e;split at e
 ·exact⟨⟨xs,rfl⟩, ‹_›⟩
 ·cases e
mutual
theorem Rep.mv{H1:Hp}(t:∀b xs,H b=some (.tup xs)→H1 b=some (.tup xs)) (f:∀b o u,H b=some (.frz o u)→H1 b=some (.frz o u)) {w:W}{v:V}:Rep K H w v→Rep K H1 w v
 | .non=> .non
 | .bl b=> .bl b
 | .int i=> .int i
 | .str x=> .str x
 | .ref a=> .ref a
 | .scr h=> .scr (by
  rcases h with⟨o,h⟩ |h
  ·exact .inl ⟨o,f _ _ _ h⟩
  ·exact .inr h)
 | .tup h hs=> .tup (t _ _ h) (Reps.mv t f hs)
theorem Reps.mv{H1:Hp}(t:∀b xs,H b=some (.tup xs)→H1 b=some (.tup xs)) (f:∀b o u,H b=some (.frz o u)→H1 b=some (.frz o u)) {ws:List W}{vs:List V}:Reps K H ws vs→Reps K H1 ws vs
 | .nil=> .nil
 | .cons h hs=> .cons (Rep.mv t f h) (Reps.mv t f hs)
end
theorem zde:∀b xs,H b=some (.tup xs)→unt H S b=some (.tup xs):=fun b xs e=>zgg e fun _ z=>nomatch z
theorem zdW:∀b o u,H b=some (.frz o u)→unt H S b=some (.frz o u):=fun b o u e=>zgg e fun _ z=>nomatch z
theorem RepS.unt (r:RepS K H S):RepS K (unt H S) S:=fun a o e=>by
 have q:=r a o e;cases o with
 |lst ws=>obtain⟨vs,z,rs⟩:=q;exact⟨vs,zko z e,Reps.mv zde zdW rs⟩
 |dct kvs=>obtain⟨ps,z,rs⟩:=q;exact⟨ps,zko z e,Paired.mapP rs fun _ _ z=>⟨z.1,Rep.mv zde zdW z.2⟩⟩
 |ins C fs=>exact q.elim
theorem HOk.unt (x:HOk P w H h):HOk P w (unt H S) h:=fun a o e=>
 (x a o (zge e)).stay (fun _ _ _ q=>q) (fun b q=>zgg q fun _ z=>nomatch z) fun b xs q=>zde b xs q
theorem zbQ (ok:HOk P w H h) (un:Un fs [] (unt H S) H' h h') (e:H' b=some o):rtk H S H' b=some o:=by
 unfold rtk;split
 ·rename_i q;split
  ·rename_i u z;obtain⟨ob,eo⟩:=(ok b u z).ex;rw [un.free b ob eo q (by simp)]at e;cases e
  ·exact e
 ·rw [e]
theorem zgi (un:Un fs [] (unt H S) H' h h') (ok:HOk P w H h):Un fs [] H (rtk H S H') h h' where
  keep:=fun b o e n hb hx=>un.keep b o e (zbY n) hb hx
  slot:=fun b o e n hb hx=>un.slot b o e (zbY n) hb hx
  free:=fun b o e n hx=>by
    unfold rtk;rw [zbY n,n];exact un.free b o e (zbY n) hx
  there:=un.there
  tups:=fun b xs e=>zbQ ok un (un.tups b xs (zde b xs e))
  frzs:=fun b o u e=>zbQ ok un (un.frzs b o u (zdW b o u e))
  tbls:=fun b ps e=>by
    obtain⟨m,z⟩:=un.tbls b ps (zgg e fun _ z=>nomatch z);exact⟨m,zbQ ok un z⟩
theorem zkg (un:Un fs [] (unt H S) H' h h') (ok:HOk P w H h) (ok':HOk P w H' h') (hf:∀b∈fs,H b=none):HOk P w (rtk H S H') h':=fun b o e=>by
 have back:∀{o},H' b=some o→ObjOk P w (rtk H S H') h' b o:=fun {o} q=>(ok' b o q).stay (fun _ _ _ z=>z) (fun c z=>zbQ ok un z) fun c xs z=>zbQ ok un z;unfold rtk at e;split at e
 ·rename_i q;split at e
  ·rename_i u z;cases e;obtain⟨⟨xs,rfl⟩,_⟩:=zmY q z;obtain⟨l,its,n,r,g⟩:=ok b _ z;exact⟨l,its,n,r,un.keep b _ g q (fun hb=>by rw [hf b hb]at z;cases z) (by simp)⟩
  ·exact back e
 ·rename_i u q;split at e
  ·rename_i u' z;cases e;exact back z
  ·rename_i z;cases e;obtain⟨ob,eo⟩:=(ok b u (zge q)).ex;obtain⟨ob',eo'⟩:=un.there b ob eo (by simp);exact⟨⟨ob',eo'⟩,⟨ob',eo'⟩,fun h1 h2 ⟨o,z⟩ k=>⟨o,k o z⟩⟩
theorem zlt (e:H b=some o):∃o',rtk H S H' b=some o':=by
 unfold rtk;split
 ·rw [e];exact⟨_,rfl⟩
 ·split
  ·exact⟨_,rfl⟩
  ·exact⟨_,rfl⟩
theorem zhL (un:Un fs [] (unt H S) H' h h') (ok:HOk P w H h) (r:RepS K H' S'):Ext H S (rtk H S H') S' where
  tup:=fun b xs e=>(zgi un ok).tups b xs e
  frz:=fun b o u e=>(zgi un ok).frzs b o u e
  fr:=fun b xs e hs=>by
    refine⟨?_,?_⟩
    · unfold rtk;rw [zhm e hs,e]
    · cases q:S' b with
      |none=>rfl
      |some u=>
        obtain⟨v,z⟩:=(r b u q).some;obtain⟨ob,eo⟩:=(ok b _ e).ex;rw [un.free b ob eo (zhm e hs) (by simp)]at z;cases z
  all:=fun b o e=>zlt e
theorem zjV (un:Un fs [] (unt H S) H' h h') (ok:HOk P w H h):Ext H' S' (rtk H S H') S' where
  tup:=fun b xs e=>zbQ ok un e
  frz:=fun b o u e=>zbQ ok un e
  fr:=fun b xs e hs=>⟨zbQ ok un e,hs⟩
  all:=fun b o e=>⟨o,zbQ ok un e⟩
theorem zmy (un:Un fs [] (unt H S) H' h h') (ok:HOk P w H h) (r:RepS K H' S'):RepS K (rtk H S H') S':=fun a o e=>(r a o e).keep (zjV (S':=S') un ok) fun u z=>zbQ ok un z
end
theorem znj{X:Cx}{k:Nat}{f:Addr}{fd:FuncData}{ps:List Str}{c:WSp}{E:WX}{pins:List (Addr×Obj)}{σ:St}{σW:WSt}{H:Hp}{S:Sto}{s:Shared}{Q:VK}{QW:WK}{us:List Value}{vs:List V}{ws:List W}
  (F:FnOk X.prog X.w X.K X.mg X.base (CX1 X.prog X.w) k f fd ps (zaS X.K c)) (hr:Room k X.A) (hb:Binds X.K fd ps []) (I:Inv X pins σ H s) (r:Vals vs us) (rs:Reps X.K H ws vs) (hσ:RpSt X.K H σW σ) (hS:RepS X.K H S)
  (h:c ws S QW fun cl S'=>E cl σW S') (hQ:Wish X.K H S QW Q)
  (hx:∀(cl:Str) (C a:Addr) (H':Hp) (S':Sto) (s':Shared),PySem.W.nsIn X.K mainGlobals cl=some (some (.ref C))→s'.os=s.os→AllBare s'.gens→Un (frs X.stack) [] H H' s.heap s'.heap→HOk X.prog X.w H' s'.heap→Fly s.heap s'.heap H' a C→Ext H S H' S'→RepS X.K H' S'→E cl σW S'→X.xe (.ref a) s'):wpAny (model X.prog X.w) X.A (call (.ref f) us) (EP X pins σ Q) X.xe s:=by
 have e0:=I.env0;have sp:zaS X.K c vs (unt H S) (fun v H'=>∃w S',Rep X.K H' w v∧RepS X.K H' S'∧QW w S') (fun cv _ H'=>∃cl C S',cv= .ref C∧PySem.W.nsIn X.K mainGlobals cl=some (some (.ref C))∧RepS X.K H' S'∧E cl σW S'):=
  ⟨ws,S,QW,_,Reps.mv zde zdW rs,hS.unt,h,fun w S' v H' _ r1 r2 q=>⟨w,S',r1,r2,q⟩,fun cl C S' H' hn hS' q=>⟨cl,C,S',rfl,hn,hS',q⟩⟩
 have e1:Env0 X.prog X.w X.K X.mg X.base X.A X.stack s (unt H S):=⟨e0.frames,e0.mod,fun b o e=>⟨(e0.bs b o e).1,zbY (e0.bs b o e).2⟩,e0.bsz,e0.funs,fun b hb=>zbY (e0.frf b hb),e0.hok.unt,e0.bare⟩;have hl:us.length=ps.length:=by rw [←r.length];exact F.len _ _ _ _ sp
 have hb':=hb s us I.kIn (by rw [List.append_nil];exact hl);rw [List.append_nil]at hb';refine wpAny_call (codeAny_mono (F.run X.A X.stack s (unt H S) ⟨us,[]⟩ us vs _ _ hr e1 hb' r sp) fun rr s' hq=>?_);cases rr with
 |error e=>
  obtain⟨a,C,H',rfl,os,bare,un,ok',fly,cl,C',S',ec,hn,hS',q⟩:=hq;cases ec;refine hx cl C a (rtk H S H') S' s' hn os bare (zgi un I.hok) (zkg un I.hok ok' e0.frf) ?_ (zhL un I.hok hS') (zmy un I.hok hS') q;obtain⟨g1,g2,oe,vs',T,oT,ts,a1,a2,a3,a4,a5,a6,a7⟩:=fly;have free:∀{b:Addr},s.heap.get? b=none→H' b=none→rtk H S H' b=none:=fun {b} q1 q2=>by
   have hn:H b=none:=by
    cases z:H b with
    |none=>rfl
    |some u=>obtain⟨ob,eo⟩:=(I.hok b u z).ex;rw [q1]at eo;cases eo
   unfold rtk;rw [zbY hn,hn];exact q2
  exact⟨g1,free g1 g2,oe,vs',T,oT,ts,a1,a2,a3,a4,a5,free a5 a6,a7⟩
 |ok fl=>
  cases fl with
  |ret u=>
   obtain⟨v,H',os,bare,un,ok',rv,w,S',r1,r2,q⟩:=hq;exact⟨v,rtk H S H',I.call' os (zgi un I.hok) (zkg un I.hok ok' e0.frf) bare (fun _ z=>nomatch z),rv,hQ w S' v _ (zhL un I.hok r2) (r1.ext (zjV (S':=S') un I.hok)) (zmy un I.hok r2) q⟩
  |next=>exact False.elim hq
  |brk=>exact False.elim hq
  |cont=>exact False.elim hq
theorem zpw{X:Cx}{k:Nat}{f:Addr}{fd:FuncData}{ps:List Str}{c:WSp}{E:WX}{pins:List (Addr×Obj)}{σ:St}{σW:WSt}{H:Hp}{S:Sto}{s:Shared}{Q:VK}{QW:WK}{us:List Value}{vs:List V}{ws:List W}
  (F:FnOk X.prog X.w X.K X.mg X.base (CX1 X.prog X.w) k f fd ps (zaS X.K c)) (hr:Room k X.A) (hb:Binds X.K fd ps []) (hE:Hook X E) (I:Inv X pins σ H s) (r:Vals vs us) (rs:Reps X.K H ws vs) (hσ:RpSt X.K H σW σ) (hS:RepS X.K H S)
  (h:c ws S QW fun cl S'=>E cl σW S') (hQ:Wish X.K H S QW Q):wpAny (model X.prog X.w) X.A (call (.ref f) us) (EP X pins σ Q) X.xe s:=
 znj (E:=E) F hr hb I r rs hσ hS h hQ fun cl C a H' S' s' hn os bare un ok fly _ hS' q=>hE.far pins σ H s σW cl C a H' S' s' I hσ hn os bare un ok fly hS' q
theorem zil{X:Cx}{pins:List (Addr×Obj)}{σ:St}{H':Hp}{s':Shared}{a C:Addr}{hid:List Addr}{h':Heap}(I:Inv X pins σ H' s') (hst:X.stack=X.env::X.outer) (hf:X.env.frame=some X.env.locals) (hex:X.ex=[])
  (h0:∀b∈hid,X.s₀.heap.get? b=none∧H' b=none) (ha:a∈hid) (L:Heap.Left (PySem.W.hideAll s'.heap (hid++frs X.stack)) X.stack a (.ref C) s'.heap h') :
  Un X.fs [] X.H₀ H' X.s₀.heap h'∧HOk X.prog X.w H' h'∧Fly X.s₀.heap h' H' a C:=by
 obtain⟨st,ff,tr,sl⟩:=L;have keepB:∀b o,s'.heap.get? b=some o→b∉hid→b∉frs X.stack→h'.get? b=some o:=fun b o e h1 h2=>st b o (PySem.W.hideAll_get _ e fun z=>(List.mem_append.mp z).elim h1 h2);have nh:∀b o,X.s₀.heap.get? b=some o→b∉hid:=fun b o e hb=>by rw [(h0 b hb).1]at e;cases e
 have slotB:∀b o,b∈frs X.stack→s'.heap.get? b=some o→ ∃sl,h'.get? b=some { o with slots:=sl }:=fun b o hb e=>by
  obtain⟨_,o',eo',nf⟩:=I.stack.mem hb;rw [e]at eo';cases eo';exact sl b o e nf
 have nx:∀b:Addr,b∉X.ex:=fun b=>by rw [hex];simp
 have fsS:∀b∈X.fs,b∈frs X.stack:=fun b hb=>by
  rw [hst];unfold frs;rw [List.filterMap_cons,hf];exact List.mem_cons_of_mem _ hb
 refine⟨⟨fun b o e n hb _=>?_,fun b o e n hb _=>?_,fun b o e n _=>I.base.free b o e n (nx b),fun b o e _=>?_,I.base.tups,I.base.frzs,I.base.tbls⟩,fun b o e=>?_,(h0 a ha).1,(h0 a ha).2,?_⟩
 ·refine keepB b o (I.base.keep b o e n hb (nx b)) (nh b o e) fun z=>?_;rcases List.mem_cons.mp (I.stkSub b z) with q |q
  ·exact absurd (Nat.lt_of_lt_of_le (Heap.lt_size e) I.ok.above) (by rw [q];exact Nat.lt_irrefl _)
  ·exact hb q
 ·obtain⟨sl1,e1⟩:=I.base.slot b o e n hb (nx b);obtain⟨sl2,e2⟩:=slotB b _ (fsS b hb) e1;exact⟨sl2,e2⟩
 ·obtain⟨o',e1⟩:=I.base.there b o e (nx b);by_cases hb:b∈frs X.stack
  ·obtain⟨sl2,e2⟩:=slotB b _ hb e1;exact⟨_,e2⟩
  ·exact⟨o',keepB b o' e1 (nh b o e) hb⟩
 ·refine(I.hok b o e).stay (fun c u hc q=>?_) (fun _ q=>q) fun _ _ q=>q;have tk:∃v,H' c=some v:=by
   rcases hc with z |z
   ·exact⟨o,by rw [z];exact e⟩
   ·exact⟨_,z⟩
  obtain⟨v,tk⟩:=tk;exact keepB c u q (fun z=>by rw [(h0 c z).2]at tk;cases tk) fun z=>by rw [I.stkFree c z]at tk;cases tk
 ·obtain⟨oe,vs,T,oT,ts,e1,e2,e3,e4,e5,e6,e7,e8,e9⟩:=tr;have nf:T∉frs X.stack:=fun hb=>by
   obtain⟨_,o,eo,nf⟩:=ff.mem hb;rw [e7]at eo;cases eo;exact nf ts e8
  have both:X.s₀.heap.get? T=none∧H' T=none:=by
   by_cases hT:T∈hid
   ·exact h0 T hT
   ·have z:s'.heap.get? T=none:=by
     cases q:s'.heap.get? T with
     |none=>rfl
     |some o=>
      rw [PySem.W.hideAll_get _ q fun z=>(List.mem_append.mp z).elim hT nf]at e5;cases e5
    constructor
    ·cases q:X.s₀.heap.get? T with
     |none=>rfl
     |some o=>obtain⟨o',q'⟩:=I.base.there T o q (nx T);rw [z]at q';cases q'
    ·cases q:H' T with
     |none=>rfl
     |some u=>obtain⟨o',q'⟩:=(I.hok T u q).ex;rw [z]at q';cases q'
  exact⟨oe,vs,T,oT,ts,e1,e2,e3,e4,both.1,both.2,e6,e7,e8,e9⟩
theorem zea{h base:Heap}{l:List Env}{hid:List Addr}(hl:h.FunFrames base l):h.FunFrames (PySem.W.hideAll h (hid++frs l)) l:=
 PySem.W.funFrames_hide hl fun env he a ha=>List.mem_append_right _ (List.mem_filterMap.mpr ⟨env,he,ha⟩)
theorem ziG{P:Program}{w:World}{K:PySem.W.Frag}{mg:Str→Option Value}{base:Heap}{N:List Str}{qual:Str}{scope:Scope}{f:Addr}{cdv:Value}{A:Around}{outer:List Env}{s:Shared}{H:Hp}{E:XK}{EW:Str→Sto→Prop}
    (hEW:∀cl C S' H',PySem.W.nsIn K mainGlobals cl=some (some (.ref C))→RepS K H' S'→EW cl S'→E (.ref C) none H'):Hook (zle (CX1 P w) P w K mg base N qual scope f cdv A outer s H E) (fun c _ S'=>EW c S') where
  own:=PassesOwn.leaving
  far:=fun pins σ H1 s1 σW cl C a H' S' s' I hσ hn os bare un ok fly hS q=>by
    have I':=I.call' os un ok bare (fun _ z=>nomatch z);obtain⟨g1,g2,oe,vs,T,oT,ts,e1,e2,e3,e4,g3,g4,e5,e6,e7,e8⟩:=fly;have s0:∀{b:Addr},s1.heap.get? b=none→s.heap.get? b=none:=fun {b} z=>by
      cases q:s.heap.get? b with
      |none=>rfl
      |some o=>obtain⟨o',q'⟩:=I.base.there b o q (by exact fun z=>nomatch z);rw [z]at q';cases q'
    refine wpAny_leaving_next (base:=PySem.W.hideAll s'.heap ([a,T]++frs (envOfC qual scope s.heap.objs.size f cdv::outer))) I'.ok.frames (zea I'.stack) rfl ⟨oe,vs,T,oT,ts,e1,e2,e3,e4,PySem.W.hideAll_none _ (by simp),e5,e6,e7,e8⟩ (fun b o z=>PySem.W.of_hideAll _ z) (PySem.W.hideAll_none _ (by simp)) fun h' L=>?_;obtain⟨u1,u2,u3⟩:=zil (hid:=[a,T]) I' rfl rfl rfl (fun b hb=>by
      rcases List.mem_cons.mp hb with rfl |hb
      · exact⟨s0 g1,g2⟩
      · rw [List.mem_singleton.mp hb];exact⟨s0 g3,g4⟩) (by simp) L
    exact⟨a,C,H',rfl,I'.os,I'.bare,u1,u2,u3,hEW cl C S' H' hn hS q⟩
  near:=fun pins σ H1 s1 σW cl C a S h' args I hσ hn me hS q=>by
    have I':=I.kept (t':=s1.toks) me.keeps;obtain⟨t,e1,_,_⟩:=me.there;have s0:s.heap.get? a=none:=by
      cases q:s.heap.get? a with
      |none=>rfl
      |some o=>obtain⟨o',q'⟩:=I.base.there a o q (by exact fun z=>nomatch z);rw [me.new]at q';cases q'
    have h1:H1 a=none:=by
      cases q:H1 a with
      |none=>rfl
      |some u=>obtain⟨o',q'⟩:=(I.hok a u q).ex;rw [me.new]at q';cases q'
    refine wpAny_leaving_first (base:=PySem.W.hideAll h' ([a]++frs (envOfC qual scope s.heap.objs.size f cdv::outer))) (s:={ s1 with heap:=h' }) I'.ok.frames (zea I'.stack) rfl e1 (fun b o z=>PySem.W.of_hideAll _ z) (PySem.W.hideAll_none _ (by simp)) rfl rfl fun h'' L=>?_;obtain⟨u1,u2,u3⟩:=zil (hid:=[a]) I' rfl rfl rfl (fun b hb=>by rw [List.mem_singleton.mp hb];exact⟨s0,h1⟩) (by simp) L
    exact⟨a,C,H1,rfl,I'.os,I'.bare,u1,u2,u3,hEW cl C S H1 hn hS q⟩
noncomputable def zaU (S:Sto) (a:Addr) (Q:List W→Prop):Prop:=match S a with
 |some (.lst ws)=>Q ws
 |_=>False
theorem zaq{S:Sto}{a:Addr}{Q:List W→Prop}{ws:List W}(h:S a=some (.lst ws)):zaU S a Q=Q ws:=by unfold zaU;rw [h]
theorem zaH{S:Sto}{a:Addr}{Q:List W→Prop}(h:zaU S a Q):∃ws,S a=some (.lst ws)∧Q ws:=by
 unfold zaU at h;split at h
 ·exact⟨_, ‹_›,h⟩
 ·exact h.elim
noncomputable def zjZ:W→Sto→(Bool→Sto→Prop)→Prop
 | .non,S,Q=>Q false S
 | .bl b,S,Q=>Q b S
 | .int i,S,Q=>Q (i != 0) S
 | .str x,S,Q=>x.length≤sizeLine∧Q ((x.length:Int) != 0) S
 | .tup ws,S,Q=>Q (!ws.isEmpty) S
 | .ref a,S,Q=>zaU S a fun ws=>Q (!ws.isEmpty) S
 | .scr ns,S,Q=>Q (!ns.isEmpty) S
noncomputable def ziB (t:WE):WT:=fun E σ S Q=>t E σ S fun w S'=>zjZ w S' Q
noncomputable def wTb (t:WE):WT:=fun E σ S Q=>t E σ S fun w S'=>match w with
 | .bl b=>Q b S'
 |_=>False
noncomputable def zoy (t u:WT):WT:=fun E σ S Q=>t E σ S fun c S1=>if c=true then u E σ S1 Q else Q false S1
noncomputable def wOr (t u:WT):WT:=fun E σ S Q=>t E σ S fun c S1=>if c=true then Q true S1 else u E σ S1 Q
noncomputable def znY (t:WT):WT:=fun E σ S Q=>t E σ S fun c S1=>Q (!c) S1
noncomputable def zdm (c:WT) (t u:WS):WS:=fun E D σ S=>c E σ S fun b S1=>if b=true then t E D σ S1 else u E D σ S1
noncomputable def zby:WS:=fun _ D σ S=>D.nx σ S
noncomputable def zaL (t u:WS):WS:=fun E D σ S=>t E { D with nx:=u E D } σ S
noncomputable def zbI (e:WE):WS:=fun E D σ S=>e E σ S D.rt
noncomputable def zhd (e:WE):WS:=fun E D σ S=>e E σ S fun _ S1=>D.nx σ S1
noncomputable def wGN (i:Nat):WG:=fun w σ S Q=>Q (σ.set i (some w)) S
noncomputable def wAsg (e:WE) (g:WG):WS:=fun E D σ S=>e E σ S fun w S1=>g w σ S1 D.nx
noncomputable abbrev WGs:=List W→WSt→Sto→(WSt→Sto→Prop)→Prop
noncomputable def zhS:WGs:=fun ws σ S Q=>match ws with
 | []=>Q σ S
 |_=>False
noncomputable def zdC (g:WG) (u:WGs):WGs:=fun ws σ S Q=>match ws with
 | []=>False
 |w::r=>g w σ S fun σ' S'=>u r σ' S' Q
noncomputable def wGT (u:WGs):WG:=fun w σ S Q=>match w with
 | .tup ws=>u ws σ S Q
 |_=>False
section
variable {X:Cx}{a b c e:Expr}{pos:Pos}{ta tb:WE}{tc tA tB':WT}{st:Stmt}{rest:List Stmt}{t u:WS}
theorem zkT{K:PySem.W.Frag}{H:Hp}{w:W}{v:V}{S:Sto}{QW:Bool→Sto→Prop}(r:Rep K H w v) (hS:RepS K H S) (h:zjZ w S QW):∃k,zoQ K v H k∧QW k S:=by
 cases r with
 |non=>exact⟨false,rfl,h⟩
 |bl b=>exact⟨b,rfl,h⟩
 |int i=>exact⟨_,rfl,h⟩
 |str x=>exact⟨_,⟨h.1,rfl⟩,h.2⟩
 |ref a=>
  obtain⟨ws,e,h⟩:=zaH h;obtain⟨vs,e1,r1⟩:=hS a _ e;refine⟨_, .inl ⟨vs, .of e1,rfl⟩,?_⟩;have q:vs.isEmpty=ws.isEmpty:=by cases r1<;>rfl
  rw [q];exact h
 | @scr a ns f=>
  refine⟨_, .inl ⟨_,f.sq,rfl⟩,?_⟩;have q:(ns.map V.int).isEmpty=ns.isEmpty:=by cases ns<;>rfl
  rw [q];exact h
 | @tup a vs ws f hs=>
  refine⟨_, .inr (.inl ⟨vs, .of f,rfl⟩),?_⟩;have q:vs.isEmpty=ws.isEmpty:=by cases hs<;>rfl
  rw [q];exact h
theorem zcC (ha:JE X a ta) (he:∀whole,isTrue a X.env whole=(do let v ←whole;standAt a.pos;holding [v] (truthy v)):=by intro _;rfl):JT X a (ziB ta):=fun E hE=>
 (zjb (ha E hE) he).mono fun σ H Q ⟨σW,S,QW,hσ,hS,ht,hQ⟩=>⟨σW,S,_,hσ,hS,ht,fun w S1 v H1 e1 r1 hS1 h1=>by
  obtain⟨k,hk,q⟩:=zkT r1 hS1 h1;exact⟨k,hk,hQ k S1 H1 e1 hS1 q⟩⟩
theorem zeE{op:CmpOp}{r:R2}{wr:W2}(ho:OpR X (compareOp op) r) (hw:OpW X.K r wr) (ha:JE X a ta) (hb:JE X b tb) (hm:behindInMarks op b=false):JT X (.Compare a [op] [b] pos) (wTb (wOp wr ta tb)):=fun E hE=>
 (zkx ho (ha E hE) (hb E hE) hm).mono fun σ H Q ⟨σW,S,QW,hσ,hS,ht,hQ⟩=>by
  refine zcK (Q:=fun v H1=>∃k,v= .bl k∧Q k H1) ⟨σW,S,fun w S'=>match w with
   | .bl b=>QW b S'
   |_=>False,hσ,hS,ht,fun w S1 v H1 e1 r1 hS1 h1=>?_⟩ fun H2 x y wx wy S QW rx ry hS q hQ=>hw H2 x y wx wy S _ QW rx ry hS q hQ
  cases r1 with
  |bl k=>exact⟨k,rfl,hQ k S1 H1 e1 hS1 h1⟩
  |_=>exact h1.elim
theorem zki (ha:JT X a tA):JT X (.UnaryOp .Not a pos) (znY tA):=fun E hE=>
 (znF (ha E hE)).mono fun σ H Q ⟨σW,S,QW,hσ,hS,ht,hQ⟩=>⟨σW,S,_,hσ,hS,ht,fun b S1 H1 e1 hS1 h1=>hQ _ S1 H1 e1 hS1 h1⟩
theorem JW.jt (h:JW X a tA):JT X a tA:=fun E hE=>(h E hE).pt
theorem zkJ (ha:JT X a tA):JW X (.BoolOp .And [a] pos) tA:=fun E hE=>zlc (ha E hE)
theorem zhD (ha:JT X a tA):JW X (.BoolOp .Or [a] pos) tA:=fun E hE=>zmC (ha E hE)
theorem zmZ{rest:List Expr}(ha:JT X a tA) (hb:JW X (.BoolOp .And (b::rest) pos) tB'):JW X (.BoolOp .And (a::b::rest) pos) (zoy tA tB'):=fun E hE=>
 (zmI (ha E hE) (hb E hE)).mono fun σ H Q ⟨σW,S,QW,hσ,hS,ht,hQ⟩=>⟨σW,S,_,hσ,hS,ht,fun b S1 H1 e1 hS1 h1=>by
  cases b with
  |true=>exact⟨σW,S1,_,hσ.ext e1,hS1,h1,fun b S2 H2 e2 hS2 h2=>hQ b S2 H2 (e1.trans e2) hS2 h2⟩
  |false=>exact hQ _ S1 H1 e1 hS1 h1⟩
theorem zlN{rest:List Expr}(ha:JT X a tA) (hb:JW X (.BoolOp .Or (b::rest) pos) tB'):JW X (.BoolOp .Or (a::b::rest) pos) (wOr tA tB'):=fun E hE=>
 (zof (ha E hE) (hb E hE)).mono fun σ H Q ⟨σW,S,QW,hσ,hS,ht,hQ⟩=>⟨σW,S,_,hσ,hS,ht,fun b S1 H1 e1 hS1 h1=>by
  cases b with
  |false=>exact⟨σW,S1,_,hσ.ext e1,hS1,h1,fun b S2 H2 e2 hS2 h2=>hQ b S2 H2 (e1.trans e2) hS2 h2⟩
  |true=>exact hQ _ S1 H1 e1 hS1 h1⟩
theorem zaM:JSs X [] zby:=fun E hE=>pss_nil.mono fun D σ H ⟨σW,S,DW,hσ,hS,ht,hD⟩=>hD.nx σW S σ H .refl hσ hS ht
theorem zae (h1:JS X st t) (h2:JSs X rest u):JSs X (st::rest) (zaL t u):=fun E hE=>
 (ziT (h1 E hE) (h2 E hE)).mono fun D σ H ⟨σW,S,DW,hσ,hS,ht,hD⟩=>
  ⟨σW,S,{ DW with nx:=u E DW },hσ,hS,ht,⟨fun σW' S' σ' H' e r hS' q=>⟨σW',S',DW,r,hS',q,hD.from e⟩,hD.rt,hD.bk,hD.ct⟩⟩
theorem zai (h1:JS X st t):JSs X [st] t:=fun E hE=>zhK (h1 E hE)
theorem zfK (he:JE X e ta) (hs:swapsWith e none pos.line X.env=pure false:=by rfl):JS X (.Expr e pos) (zhd ta):=fun E hE=>
 (zkP (he E hE) hs).mono fun D σ H ⟨σW,S,DW,hσ,hS,ht,hD⟩=>⟨σW,S,_,hσ,hS,ht,fun w S1 v H1 e1 r1 hS1 h1=>hD.nx σW S1 σ H1 e1 (hσ.ext e1) hS1 h1⟩
theorem zap (he:JE X e ta):JS X (.Return (some e) pos) (zbI ta):=fun E hE=>
 (zmX (he E hE)).mono fun D σ H ⟨σW,S,DW,hσ,hS,ht,hD⟩=>⟨σW,S,_,hσ,hS,ht,hD.rt⟩
theorem zbB{a b:List Stmt}(hc:JT X c tc) (ha:JSs X a t) (hb:JSs X b u):JS X (.If c a b pos) (zdm tc t u):=fun E hE=>
 (znu (hc E hE) (ha E hE) (hb E hE)).mono fun D σ H ⟨σW,S,DW,hσ,hS,ht,hD⟩=>⟨σW,S,_,hσ,hS,ht,fun k S1 H1 e1 hS1 h1=>by
  cases k with
  |true=>exact⟨σW,S1,DW,hσ.ext e1,hS1,h1,hD.from e1⟩
  |false=>exact⟨σW,S1,DW,hσ.ext e1,hS1,h1,hD.from e1⟩⟩
theorem zaw{i:Nat}{x:Str}(hN:X.N.Nodup) (hi:X.N[i]? =some x) (hx:Loc X.env.scope x) (hf:X.fn x=true∨X.env.scope.names.lookup x=some .local:=by first |exact .inl rfl |exact .inr rfl |assumption):JG X (.Name x pos) (wGN i):=fun E hE=>
 (zlx hN hi hx hf).mono fun v σ H Q ⟨w,σW,S,P,r,hσ,hS,ht,hP⟩=>hP _ S _ H .refl (hσ.set r i) hS ht
noncomputable def JGs (X:Cx) (tgs:List Expr) (t:WGs):Prop:=∀E,Hook X E→PGs X tgs (fun vs σ H Q=>∃ws σW S P,Reps X.K H ws vs∧RpSt X.K H σW σ∧RepS X.K H S∧t ws σW S P∧Goes X.K H S P Q)
theorem zkM:JGs X [] zhS:=fun E hE pins s σ H vs us Q I r h=>by
 obtain⟨ws,σW,S,P,rs,hσ,hS,ht,hP⟩:=h;unfold zhS at ht;split at ht
 ·cases rs;exact zlF pins s σ H [] us Q I r ⟨rfl,hP σW S σ H .refl hσ hS ht⟩
 ·exact ht.elim
theorem zgv{es:List Expr}{g:WG}{gs:WGs}(h1:JG X e g) (h2:JGs X es gs)
  (hs:(assignEach (e::es) X.env).map (·.2)=assign e X.env::(assignEach es X.env).map (·.2):=by rfl):JGs X (e::es) (zdC g gs):=fun E hE pins s σ H vs us Q I r h=>by
 obtain⟨ws,σW,S,P,rs,hσ,hS,ht,hP⟩:=h;unfold zdC at ht;split at ht
 ·exact ht.elim
 ·cases rs with
  |cons r1 r2=>
   refine ziW (h1 E hE) (h2 E hE) hs pins s σ H _ us Q I r ⟨_,_,rfl,⟨_,σW,S,_,r1,hσ,hS,ht,fun σW' S' σ' H' e' rr hS' q=>?_⟩⟩;exact⟨_,σW',S',P,r2.ext e',rr,hS',q,hP.from e'⟩
theorem zmu{es:List Expr}{k n:Nat}{gs:WGs}(h:JGs X es gs) (hlen:∀ws σ S P,gs ws σ S P→ws.length=n)
  (hn:(assignEach es X.env).length=n:=by rfl) (hst:(assignEach es X.env).findIdx? (·.1)=none:=by rfl) (hcl:X.calm=true:=by rfl):JG X (.Tuple es k pos) (wGT gs):=fun E hE=>
 (znQ hcl (h E hE) hn hst).mono fun v σ H Q ⟨w,σW,S,P,r,hσ,hS,ht,hP⟩=>by
  cases r with
  |tup f hs=>exact⟨_,_,rfl, .of f,by rw [←hs.length];exact hlen _ _ _ _ ht,⟨_,σW,S,P,hs,hσ,hS,ht,hP⟩⟩
  |_=>exact ht.elim
theorem zmM{tg:Expr}{g:WG}(he:JE X e ta) (hg:JG X tg g) (hs:swapsWithSole [tg] e pos.line X.env=pure false:=by rfl) (hw:swappedStores [tg] e X.env=pure none:=by rfl)
  (h1:(assignEach [tg] X.env).map (·.2)=[assign tg X.env]:=by rfl):JS X (.Assign [tg] e pos) (wAsg ta g):=fun E hE=>
 (znv (he E hE) (hg E hE) hs hw h1).mono fun D σ H ⟨σW,S,DW,hσ,hS,ht,hD⟩=>⟨σW,S,_,hσ,hS,ht,fun w S1 v H1 e1 r1 hS1 h1=>⟨w,σW,S1,_,r1,hσ.ext e1,hS1,h1,hD.nx.from e1⟩⟩
theorem zau{i:Nat}{x:Str}{pos':Pos}(hN:X.N.Nodup) (hi:X.N[i]? =some x) (hx:Loc X.env.scope x) (he:JE X e ta) (hs:swapsWith e (some (.Name x pos')) pos.line X.env=pure false:=by rfl)
  (hf:X.fn x=true∨X.env.scope.names.lookup x=some .local:=by first |exact .inl rfl |exact .inr rfl |assumption):JS X (.Assign [.Name x pos'] e pos) (wAsg ta (wGN i)):=fun E hE=>
 (zjX hN hi hx (he E hE) hs hf).mono fun D σ H ⟨σW,S,DW,hσ,hS,ht,hD⟩=>⟨σW,S,_,hσ,hS,ht,fun w S1 v H1 e1 r1 hS1 h1=>hD.nx _ S1 _ H1 e1 ((hσ.ext e1).set r1 i) hS1 h1⟩
end
noncomputable def waNil:WA:=fun _ _ S Q=>Q [] S
noncomputable def zab (t:WE) (u:WA):WA:=fun E σ S Q=>t E σ S fun w S1=>u E σ S1 fun ws S2=>Q (w::ws) S2
noncomputable def zbO (t:WA):WE:=fun E σ S Q=>t E σ S fun ws S1=>ws.length≤sizeLine∧Q (.tup ws) S1
noncomputable def zeg (t:WA):WL:=fun E σ S Q=>t E σ S fun ws S1=>ws.length≤sizeLine∧Q ws S1
noncomputable def zdn (t:WL):WE:=fun E σ S Q=>t E σ S fun ws S1=>∀a,S1 a=none→Q (.ref a) (put S1 a (.lst ws))
section
variable {X:Cx}{e:Expr}{es:List Expr}{te:WE}{ta:WA}{tl:WL}{pos:Pos}
theorem zad:JA X [] waNil:=fun E hE=>pa_nil.mono fun σ H Q ⟨σW,S,QW,hσ,hS,ht,hQ⟩=>hQ [] S [] H .refl .nil hS ht
theorem zaa (ha:JE X e te) (hr:JA X es ta) (hs:starEach (e::es) X.env=(false,eval e X.env)::starEach es X.env:=by rfl):JA X (e::es) (zab te ta):=fun E hE=>
 (zaX (ha E hE) (hr E hE) hs).mono fun σ H Q ⟨σW,S,QW,hσ,hS,ht,hQ⟩=>⟨σW,S,_,hσ,hS,ht,fun w S1 v H1 e1 r1 hS1 h1=>⟨σW,S1,_,hσ.ext e1,hS1,h1,fun ws S2 vs H2 e2 r2 hS2 h2=>
  hQ (w::ws) S2 (v::vs) H2 (e1.trans e2) (.cons (r1.ext e2) r2) hS2 h2⟩⟩
theorem zat{x1}(h:JA X es ta):JE X (.Tuple es x1 pos) (zbO ta):=fun E hE=>
 (zmi (h E hE)).mono fun σ H Q ⟨σW,S,QW,hσ,hS,ht,hQ⟩=>⟨σW,S,_,hσ,hS,ht,fun ws S1 vs H1 e1 r1 hS1 h1=>by
  refine⟨by rw [←r1.length];exact h1.1,fun p hp=>hQ (.tup ws) S1 _ _ (e1.trans (.new hp)) (.tup zas (r1.ext (.new (S:=S1) hp))) (hS1.new hp) h1.2⟩⟩
theorem zaT (h:JA X es ta):JL X (.List es pos) (zeg ta):=fun E hE=>
 (zmz (h E hE)).mono fun σ H Q ⟨σW,S,QW,hσ,hS,ht,hQ⟩=>⟨σW,S,_,hσ,hS,ht,fun ws S1 vs H1 e1 r1 hS1 h1=>by
  refine⟨by rw [←r1.length];exact h1.1,fun p hp=>hQ ws S1 vs p _ (e1.trans (.new hp)) (e1.free hp) zas (hS1.free hp) (r1.ext (.new (S:=S1) hp)) (hS1.new hp) h1.2⟩⟩
theorem zbm (h:JL X e tl):JE X e (zdn tl):=fun E hE=>
 (h E hE).mono fun σ H Q ⟨σW,S,QW,hσ,hS,ht,hQ⟩=>⟨σW,S,_,hσ,hS,ht,fun ws S1 vs a H1 e1 fa ea na r1 hS1 h1=>by
  refine hQ (.ref a) (put S1 a (.lst ws)) (.ref a) H1 ⟨e1.tup,e1.frz,fun b o q g=>by
   have hb:b≠a:=by rintro rfl;rw [fa]at q;cases q
   rw [zbg hb];exact e1.fr b o q g,e1.all⟩ (.ref a) (fun b o q=>?_) (h1 a na)
  by_cases hb:b=a
  ·subst hb;rw [zaj]at q;cases q;exact⟨vs,ea,r1⟩
  ·rw [zbg hb]at q;exact hS1 b o q⟩
end
noncomputable def zaE (c:WSp) (t:WA):WE:=fun E σ S Q=>t E σ S fun ws S1=>c ws S1 Q fun cl S2=>E cl σ S2
noncomputable def zdq (n k:Nat) (body:WS):WSp:=fun ws S Q E=>ws.length=k∧body (fun c _ S'=>E c S') { nx:=fun _ S'=>∃S'',Sub S'' S'∧Q .non S'',rt:=fun w S'=>∃S'',Sub S'' S'∧Q w S'' } (ws.map some++List.replicate (n - k) none) S
section
variable {X:Cx}{k:Nat}{f:Addr}{fd:FuncData}{ps:List Str}{c:WSp}{x:Str}{p pos:Pos}{e:Expr}{es:List Expr}{t:WA}
theorem zam (F:FnOk X.prog X.w X.K X.mg X.base (CX1 X.prog X.w) k f fd ps (zaS X.K c)) (hr:Room k X.A) (hg:Gl X x) (hm:X.mg x=some (.ref f)) (hk:PySem.W.keepIn X.K (.ref f)=true) (hb:Binds X.K fd ps [])
  (ha:JA X (e::es) t) (hdb:(x == ("__debug__" :Str))=false:=by decide) (he:starEach (e::es) X.env=(false,eval e X.env)::starEach es X.env:=by rfl) (hpl:(backTo pos (starEach es X.env)).any (·.1)=false:=by rfl) :
  JE X (.Call (.Name x p) (e::es) [] pos) (zaE c t):=fun E hE pins s σ H Q I h=>by
 obtain⟨σW,S,QW,hσ,hS,ht,hQ⟩:=h;refine wpAny_Call_Name_kw (zda I hg hm ?_ hdb);refine PySem.W.callWith_K (h₀:=X.base) I.ok.mod.kin hk (thn (ha E hE pos pins s σ H (fun vs H1=>∃ws S1,Reps X.K H1 ws vs∧RpSt X.K H1 σW σ∧RepS X.K H1 S1∧c ws S1 QW (fun cl S'=>E cl σW S')∧Wish X.K H1 S1 QW Q) I
  ⟨σW,S,_,hσ,hS,ht,fun ws S1 vs H1 e1 r1 hS1 h1=>⟨ws,S1,r1,hσ.ext e1,hS1,h1,hQ.from e1⟩⟩) fun us s1 ⟨vs,H1,I1,r,ws,S1,r1,hσ1,hS1,h1,hQ1⟩=>⟨I1.kIn,?_⟩) he hpl
 exact zpw F hr hb hE I1 r r1 hσ1 hS1 h1 hQ1
theorem zgT{K:PySem.W.Frag}{H:Hp}{N:List Str}{ws:List W}{vs:List V}(h:Reps K H ws vs):RpSt K H (ws.map some++List.replicate (N.length - ws.length) none) (zdU N vs):=by
 have go:∀{ws:List W}{vs:List V}(m:Nat),Reps K H ws vs→RpSt K H (ws.map some++List.replicate m none) (vs.map some++List.replicate m none):=by
  intro ws
  induction ws with
  |nil=>
   intro vs m h;cases h
   induction m with
   |zero=>exact .nil
   |succ m ih=>exact .cons trivial ih
  |cons w ws ih=>
   intro vs m h;cases h with
   |cons r rs=>exact .cons r (ih m rs)
 unfold zdU;rw [←h.length];exact go _ h
theorem zbD{P:Program}{w:World}{K:PySem.W.Frag}{mg:Str→Option Value}{base:Heap}{x qual:Str}{st:Stmt}{f:Addr}{fd:FuncData}{N ps:List Str}{r n k:Nat}{body:WS}(F:Fun K x qual st f fd) (S:FnScope N ps (zak st)) (hn:N.length=n) (hk:ps.length=k)
  (hbody:∀(cdv:Value) (A:Around) (outer:List Env) (s:Shared) (H:Hp) (E:XK),Room r (A.deeper (envOfC qual (zak st) s.heap.objs.size f cdv))→
   JSs (zle (CX1 P w) P w K mg base N qual (zak st) f cdv A outer s H E) (zcy st) body):FnOk P w K mg base (CX1 P w) (r+1) f fd ps (zaS K (zdq n k body)):=by
 obtain⟨oc,od,kV,doc,pm,an,cdv,ct,osl,rfl,lk,hcd⟩:=F.ex;refine zog lk hcd S (fun vs H Q E h=>?_) fun A outer s H vs Q E hr h=>?_
 ·obtain⟨ws,S,QW,EW,rs,_,h,_⟩:=h;rw [←rs.length,h.1,hk]
 ·obtain⟨ws,S',QW,EW,rs,hS,h,hQ,hEW⟩:=h;refine⟨_,hbody cdv A outer s H E hr (fun c _ S'=>EW c S') (ziG hEW),?_⟩;refine⟨_,S',{ nx:=fun _ S'=>∃S'',Sub S'' S'∧QW .non S'',rt:=fun w S'=>∃S'',Sub S'' S'∧QW w S'' },zgT (N:=N) rs,hS,by rw [hn,h.1];exact h.2,⟨fun σW S1 σ H1 e1 rr hS1 q=>?_,fun w S1 v H1 e1 rr hS1 q=>?_,fun _ _ _ _ _ _ _ q=>q,fun _ _ _ _ _ _ _ q=>q⟩⟩
  ·obtain⟨S2,sb,q⟩:=q;exact hQ .non S2 .non H1 (e1.trans (.drop sb)) .non (hS1.sub sb) q
  ·obtain⟨S2,sb,q⟩:=q;exact hQ w S2 v H1 (e1.trans (.drop sb)) rr (hS1.sub sb) q
end
noncomputable def zcJ (C:Int→Int→Prop) (g:Int→Int→W):W2
 | .int i, .int j,S,Q=>C i j∧Q (g i j) S
 |_,_,_,_=>False
noncomputable def zfg (g:Int→Int→W):W2
 | .int i, .int j,S,Q=>Q (g i j) S
 |_,_,_,_=>False
theorem zdM{K:PySem.W.Frag}{C:Int→Int→Prop}{g:Int→Int→Int}:OpW K (rI C fun i j=> .int (g i j)) (zcJ C fun i j=> .int (g i j)):=fun H x y wx wy S Q QW rx ry hS h hQ=>by
 cases rx<;>cases ry<;>first |exact⟨_,_,rfl,rfl,h.1,hQ _ S _ H .refl (.int _) hS h.2⟩ |exact h.elim
theorem zja{K:PySem.W.Frag}{g:Int→Int→Int}:OpW K (rI0 fun i j=> .int (g i j)) (zfg fun i j=> .int (g i j)):=fun H x y wx wy S Q QW rx ry hS h hQ=>by
 cases rx<;>cases ry<;>first |exact⟨_,_,rfl,rfl,hQ _ S _ H .refl (.int _) hS h⟩ |exact h.elim
theorem zgr{K:PySem.W.Frag}{g:Int→Int→Bool}:OpW K (rI0 fun i j=> .bl (g i j)) (zfg fun i j=> .bl (g i j)):=fun H x y wx wy S Q QW rx ry hS h hQ=>by
 cases rx<;>cases ry<;>first |exact⟨_,_,rfl,rfl,hQ _ S _ H .refl (.bl _) hS h⟩ |exact h.elim
noncomputable def zeh:W2
 | .int i, .int j,S,Q=>Q (.int (i+j)) S
 | .str x, .str y,S,Q=>x.length+y.length≤sizeLine∧Q (.str (x++y)) S
 | .tup xs, .tup ys,S,Q=>xs.length+ys.length≤sizeLine∧Q (.tup (xs++ys)) S
 | .ref a, .ref b,S,Q=>zaU S a fun xs=>zaU S b fun ys=>xs.length+ys.length≤sizeLine∧ ∀p,S p=none→Q (.ref p) (put S p (.lst (xs++ys)))
 |_,_,_,_=>False
section
variable {X:Cx}
theorem Reps.nil_r{K:PySem.W.Frag}{H:Hp}{ws:List W}(h:Reps K H ws []):ws=[]:=by cases h;rfl
theorem op_catT0:OpR X (binaryOp .Add) (fun x y H Q=>∃a b ys,x= .ref a∧y= .ref b∧SqT X.K H a []∧SqT X.K H b ys∧Q (.ref b) H):=by
 intro pins s σ H x y v u Q I rx ry h;obtain⟨a,b,ys,rfl,rfl,ha,hb,q⟩:=h;cases rx;cases ry;obtain⟨its,r1,p1,_⟩:=I.tuple ha;obtain⟨its2,r2,p2,_⟩:=I.tuple hb;cases r1;obtain⟨⟨cls,dd,data,sl⟩,ho,hc,n,hd⟩:=id p1;obtain⟨⟨cls2,dd2,data2,sl2⟩,ho2,hc2,n2,hd2⟩:=id p2;simp only at hc hd hc2 hd2;subst hc hd hc2 hd2;exact concat_meets ⟨_,ho,rfl⟩ ⟨_,ho2,rfl⟩ noFill_tuple_add seq_tuple_add PySem.F.slot_tuple_add PySem.F.entry_tuple_add (PySem.F.args_tuple_add_2 _ _)
   (tuple_addW0 a b _ _ n n2 dd dd2 sl sl2 (by simp)) ⟨ho,ho2,⟨.ref b,H,I,rfl,q⟩⟩
theorem zhz:OpR X (binaryOp .Add) (fun x y H Q=>(rI0 fun i j=> .int (i+j)) x y H Q∨(∃i j,x= .str i∧y= .str j∧i.length+j.length≤sizeLine∧Q (.str (i++j)) H)∨
  (∃a b ys,x= .ref a∧y= .ref b∧SqT X.K H a []∧SqT X.K H b ys∧Q (.ref b) H)∨zlA X.K x y H Q∨zoO x y H Q):=op_add.or (op_add_str.or (op_catT0.or (op_catT.or zim)))
theorem zkI{K:PySem.W.Frag}:OpW K (fun x y H Q=>(rI0 fun i j=> .int (i+j)) x y H Q∨(∃i j,x= .str i∧y= .str j∧i.length+j.length≤sizeLine∧Q (.str (i++j)) H)∨
  (∃a b ys,x= .ref a∧y= .ref b∧SqT K H a []∧SqT K H b ys∧Q (.ref b) H)∨zlA K x y H Q∨zoO x y H Q) zeh:=fun H x y wx wy S Q QW rx ry hS h hQ=>by
 cases rx with
 |int i=>
  cases ry with
  |int j=>exact .inl ⟨i,j,rfl,rfl,hQ _ S _ H .refl (.int _) hS h⟩
  |_=>exact h.elim
 |str i=>
  cases ry with
  |str j=>exact .inr (.inl ⟨i,j,rfl,rfl,h.1,hQ _ S _ H .refl (.str _) hS h.2⟩)
  |_=>exact h.elim
 | @tup a vs ws f hs=>
  cases ry with
  | @tup b us zs g ks=>
   cases hs with
   |nil=>exact .inr (.inr (.inl ⟨a,b,us,rfl,rfl, .of f, .of g,hQ (.tup zs) S _ H .refl (.tup g ks) hS h.2⟩))
   |cons h1 h2=>
    refine .inr (.inr (.inr (.inl ⟨a,b,_,us,rfl,rfl, .of f, .of g,by simp,?_,fun e=>?_,fun e p hp=>?_⟩)))
    ·rw [←(Reps.cons h1 h2).length,←ks.length];exact h.1
    ·subst e;have e':=ks.nil_r;subst e';have q:=h.2;rw [List.append_nil]at q;exact hQ _ S _ H .refl (.tup f (.cons h1 h2)) hS q
    ·exact hQ _ S _ _ (.new hp) (.tup zas (((Reps.cons h1 h2).append ks).ext (.new (S:=S) hp))) (hS.new hp) h.2
  |_=>exact h.elim
 |ref a=>
  cases ry with
  |ref b=>
   obtain⟨xs,ea,h⟩:=zaH h;obtain⟨ys,eb,h⟩:=zaH h;obtain⟨vs,e1,r1⟩:=hS a _ ea;obtain⟨us,e2,r2⟩:=hS b _ eb;refine .inr (.inr (.inr (.inr ⟨a,b,vs,us,rfl,rfl,e1,e2,by rw [←r1.length,←r2.length];exact h.1,fun p hp=>?_⟩)))
   exact hQ _ _ _ _ (.newS hp) (.ref p) (hS.put_lst hp ((r1.append r2).ext (.new (S:=S) hp))) (h.2 p (hS.free hp))
  |_=>exact h.elim
 |_=>exact h.elim
variable {a b:Expr}{pos:Pos}{ta tb:WE}
theorem zbG (ha:JE X a ta) (hb:JE X b tb):JE X (.BinOp a .Add b pos) (wOp zeh ta tb):=zfH zhz zkI ha hb
theorem zkl (ha:JE X a ta) (hb:JE X b tb):JE X (.BinOp a .Sub b pos) (wOp (zfg fun i j=> .int (i - j)) ta tb):=zfH znI zja ha hb
theorem zna (ha:JE X a ta) (hb:JE X b tb):JE X (.BinOp a .Mult b pos) (wOp (zcJ CMul fun i j=> .int (i*j)) ta tb):=zfH zmH zdM ha hb
theorem zcV (ha:JE X a ta) (hb:JE X b tb):JE X (.BinOp a .FloorDiv b pos) (wOp (zcJ zls fun i j=> .int (i / j)) ta tb):=zfH zkv zdM ha hb
theorem zbH (ha:JE X a ta) (hb:JE X b tb):JE X (.BinOp a .Mod b pos) (wOp (zcJ (fun _ j=>0<j) fun i j=> .int (i % j)) ta tb):=zfH znB zdM ha hb
theorem zlV (ha:JE X a ta) (hb:JE X b tb):JE X (.BinOp a .Pow b pos) (wOp (zcJ zom fun i j=> .int (i ^ j.toNat)) ta tb):=zfH zmE zdM ha hb
noncomputable def zpR (t:WE):WE:=fun E σ S Q=>t E σ S fun w S1=>match w with
 | .int i=>Q (.int (-i)) S1
 |_=>False
noncomputable def zpx (t u:WE):WL:=fun E σ S Q=>t E σ S fun x S1=>u E σ S1 fun y S2=>match x,y with
 | .ref a, .ref b=>zaU S2 a fun xs=>zaU S2 b fun ys=>xs.length+ys.length≤sizeLine∧Q (xs++ys) S2
 |_,_=>False
end
noncomputable def zdB (f:W→W→Option Bool):List W→List W→Option Bool
 | [],[]=>some true
 | [],_=>some false
 |_,[]=>some false
 |x::xs,y::ys=>match f x y,zdB f xs ys with
  |some a,some b=>some (a&&b)
  |_,_=>none
noncomputable def eqF (S:Sto):Nat→W→W→Option Bool
 |0,_,_=>none
 |n+1,w,u=>match w,u with
  | .non, .non=>some true
  | .bl a, .bl b=>some (a == b)
  | .int a, .int b=>some (a == b)
  | .str a, .str b=>some (a == b)
  | .tup _, .int _=>some false
  | .int _, .tup _=>some false
  | .tup xs, .tup ys=>zdB (eqF S n) xs ys
  | .ref a, .ref b=>match S a with
   |some (.lst xs)=>match S b with
    |some (.lst ys)=>zdB (eqF S n) xs ys
    |_=>none
   |_=>none
  |_,_=>none
theorem zfS{f:W→W→Option Bool}:∀{xs ys:List W}{b:Bool},zdB f xs ys=some b→
  (∀j,j<xs.length→j<ys.length→ ∃c,f (xs.getD j .non) (ys.getD j .non)=some c)∧
  ((List.range (min xs.length ys.length)).all (fun j=>(f (xs.getD j .non) (ys.getD j .non)).getD true)&&xs.length == ys.length)=b
 | [],[],b,h=>by
  have:true=b:=Option.some.inj h;subst this;exact⟨fun j h=>absurd h (by simp),by simp⟩
 | [],y::ys,b,h=>by
  have:false=b:=Option.some.inj h;subst this;exact⟨fun j h=>absurd h (by simp),by simp⟩
 |x::xs,[],b,h=>by
  have:false=b:=Option.some.inj h;subst this;exact⟨fun j _ h=>absurd h (by simp),by simp⟩
 |x::xs,y::ys,b,h=>by
  unfold zdB at h;split at h
  ·rename_i c d e1 e2;have hb:(c&&d)=b:=Option.some.inj h;obtain⟨h1,h2⟩:=zfS e2;refine⟨fun j j1 j2=>?_,?_⟩
   ·cases j with
    |zero=>exact⟨c,by simpa using e1⟩
    |succ j=>simpa using h1 j (by simpa using j1) (by simpa using j2)
   ·have hm:min (xs.length+1) (ys.length+1)=min xs.length ys.length+1:=by omega
    have hl:(xs.length+1 == ys.length+1)=(xs.length == ys.length):=by simp
    rw [List.length_cons,List.length_cons,hm,List.range_succ_eq_map,List.all_cons,List.all_map,hl];have q:((fun j=>(f ((x::xs).getD j .non) ((y::ys).getD j .non)).getD true)∘Nat.succ)=fun j=>(f (xs.getD j .non) (ys.getD j .non)).getD true:=by
     funext j;simp
    rw [q,Bool.and_assoc,h2];have q0:(f ((x::xs).getD 0 .non) ((y::ys).getD 0 .non)).getD true=c:=by simp [e1]
    rw [q0,hb]
  ·cases h
section
variable {X:Cx}{pins:List (Addr×Obj)}{σ:St}{H:Hp}{s:Shared}{S:Sto}
theorem zdS (I:Inv X pins σ H s):∀(n:Nat) {wx wy:W}{v:V}{b:Bool},Rep X.K H wx v→Rep X.K H wy v→RepS X.K H S→eqF S n wx wy=some b→b=true
 |0,_,_,_,_,_,_,_,h=>by cases h
 |n+1,wx,wy,v,b,rx,ry,hS,h=>by
  have list:∀{ws us:List W}{vs:List V}{b:Bool},Reps X.K H ws vs→Reps X.K H us vs→zdB (eqF S n) ws us=some b→b=true:=by
   intro ws
   induction ws with
   |nil=>
    intro us vs b r1 r2 e;cases r1;cases r2;exact(Option.some.inj e).symm
   |cons w ws ih=>
    intro us vs b r1 r2 e;cases r1 with
    |cons a1 a2=>
     cases r2 with
     |cons c1 c2=>
      unfold zdB at e;split at e
      ·rename_i c d e1 e2;have q1:=zdS I n a1 c1 hS e1;have q2:=ih a2 c2 e2;have:=Option.some.inj e;rw [q1,q2]at this;exact this.symm
      ·cases e
  cases rx with
  |non=>cases ry;exact(Option.some.inj h).symm
  |bl k=>cases ry;have:=Option.some.inj h;simpa using this.symm
  |int k=>cases ry;have:=Option.some.inj h;simpa using this.symm
  |str k=>cases ry;have:=Option.some.inj h;simpa using this.symm
  |ref a=>
   cases ry with
   |ref _=>
    have h':(match S a with
     |some (.lst xs)=>match S a with
      |some (.lst ys)=>zdB (eqF S n) xs ys
      |_=>none
     |_=>none)=some b:=h
    cases e:S a with
    |none=>rw [e]at h';cases h'
    |some o=>
     rw [e]at h';cases o with
     |lst ws=>
      obtain⟨vs,_,r⟩:=hS a _ e;exact list r r h'
     |dct _=>cases h'
     |ins _ _=>cases h'
   |scr _=>cases h
   |tup _ _=>cases h
  |scr f=>cases ry<;>cases h
  |tup f hs=>
   cases ry with
   |ref _=>cases h
   |scr _=>cases h
   |tup g ks=>
    have e:=I.tuple_inj (.of f) (.of g);subst e;exact list hs ks h
theorem ziy{A:Around}:A.in1.units=A.units+1:=rfl
theorem zhI (I:Inv X pins σ H s) (hS:RepS X.K H S):∀(n:Nat) {A:Around}{wx wy:W}{x y:V}{u v:Value}{b:Bool},A.units+n<cLine→Rep X.K H wx x→Rep X.K H wy y→RelV x u→RelV y v→eqF S n wx wy=some b→
  SeqAt.EqAt A s u v b∧SeqAt.RcAt A s u v b∧SeqAt.RcNeAt A s u v (!b)
 |0,_,_,_,_,_,_,_,_,_,_,_,_,_,h=>by cases h
 |n+1,A,wx,wy,x,y,u,v,b,hu,rx,ry,ru,rv,h=>by
  have hu0:A.units<cLine:=by omega
  have items:∀{ws zs:List W}{xs ys:List V}{us vs:List Value}{b:Bool},Reps X.K H ws xs→Reps X.K H zs ys→Vals xs us→Vals ys vs→zdB (eqF S n) ws zs=some b→
    (∀j (h1:j<us.toArray.size) (h2:j<vs.toArray.size),SeqAt.EqAt A.in1 s us.toArray[j] vs.toArray[j] ((eqF S n (ws.getD j .non) (zs.getD j .non)).getD true))∧
    ((List.range (min us.toArray.size vs.toArray.size)).all (fun j=>(eqF S n (ws.getD j .non) (zs.getD j .non)).getD true)&&us.toArray.size == vs.toArray.size)=b:=by
   intro ws zs xs ys us vs b r1 r2 q1 q2 e;obtain⟨h1,h2⟩:=zfS e;have l1:=r1.length;have l2:=r2.length;have l3:=q1.length;have l4:=q2.length;refine⟨fun j j1 j2=>?_,?_⟩
   ·rw [List.size_toArray]at j1 j2;obtain⟨c,hc⟩:=h1 j (by omega) (by omega);have jw:j<ws.length:=by omega
    have jz:j<zs.length:=by omega
    obtain⟨x',ex,rx'⟩:=r1.get (List.getElem?_eq_getElem jw);obtain⟨y',ey,ry'⟩:=r2.get (List.getElem?_eq_getElem jz);obtain⟨u',eu,ru'⟩:=q1.get ex;obtain⟨v',ev,rv'⟩:=q2.get ey;have e1:us.toArray[j]=u':=by
     obtain⟨_,e⟩:=List.getElem?_eq_some_iff.mp eu;simpa using e
    have e2:vs.toArray[j]=v':=by
     obtain⟨_,e⟩:=List.getElem?_eq_some_iff.mp ev;simpa using e
    have g1:ws.getD j .non=ws[j]:=by rw [List.getD_eq_getElem?_getD,List.getElem?_eq_getElem jw];rfl
    have g2:zs.getD j .non=zs[j]:=by rw [List.getD_eq_getElem?_getD,List.getElem?_eq_getElem jz];rfl
    rw [e1,e2,hc];rw [g1,g2]at hc;exact(zhI I hS n (by rw [ziy];omega) rx' ry' ru' rv' hc).1
   ·rw [List.size_toArray,List.size_toArray,←l3,←l4,←l1,←l2];exact h2
  cases rx with
  |non=>
   cases(show u=Value.none from ru);cases ry with
   |non=>cases(show v=Value.none from rv);cases h;exact⟨.same _, .none_none, .none_none⟩
   |_=>cases h
  |bl k=>
   cases(show u=Value.bool k from ru);cases ry with
   |bl j=>cases(show v=Value.bool j from rv);cases h;exact⟨.bool_bool _ _, .bool_bool _ _, .bool_bool _ _⟩
   |_=>cases h
  |int k=>
   obtain⟨t0,rfl⟩:=ru;cases ry with
   |int j=>obtain⟨t,rfl⟩:=rv;cases h;exact⟨.int_int _ _ _ _, .int_int _ _ _ _, .int_int _ _ _ _⟩
   |tup f hs=>cases(show v=Value.ref _ from rv);cases h;obtain⟨its,_,p,_⟩:=I.tuple (.of f);exact⟨.int_tuple _ _ p hu0, .int_tuple _ _ p hu0, .int_tuple _ _ p hu0⟩
   |_=>cases h
  |str k=>
   obtain⟨t0,rfl⟩:=ru;cases ry with
   |str j=>obtain⟨t,rfl⟩:=rv;cases h;exact⟨.str_str _ _ _ _, .str_str _ _ _ _, .str_str _ _ _ _⟩
   |_=>cases h
  | @tup a xs ws f hs=>
   cases(show u=Value.ref a from ru);obtain⟨its,q1,p,_⟩:=I.tuple (.of f);cases ry with
   |int j=>obtain⟨t,rfl⟩:=rv;cases h;exact⟨.tuple_int _ _ p hu0, .tuple_int _ _ p hu0, .tuple_int _ _ p hu0⟩
   | @tup c ys zs g ks=>
    cases(show v=Value.ref c from rv);obtain⟨its2,q2,p2,_⟩:=I.tuple (.of g);obtain⟨h1,h2⟩:=items hs ks q1 q2 h;have rc:SeqAt.RcAt A s (.ref a) (.ref c) b:=by
     have:=SeqAt.RcAt.tuples p p2 hu0 h1;rw [h2]at this;exact this
    have rn:SeqAt.RcNeAt A s (.ref a) (.ref c) (!b):=by
     have:=SeqAt.RcNeAt.tuples p p2 hu0 h1;rw [h2]at this;exact this
    refine⟨?_,rc,rn⟩;by_cases e:a=c
    ·subst e;have:=zdS I (n+1) (.tup f hs) (.tup g ks) hS h;rw [this];exact .same _
    ·exact .of_refs e rc
   |_=>cases h
  |ref a=>
   cases(show u=Value.ref a from ru);cases ry with
   |ref c=>
    cases(show v=Value.ref c from rv);have h':(match S a with
     |some (.lst xs)=>match S c with
      |some (.lst ys)=>zdB (eqF S n) xs ys
      |_=>none
     |_=>none)=some b:=h
    cases e:S a with
    |none=>rw [e]at h';cases h'
    |some o=>
     rw [e]at h';cases o with
     |dct _=>cases h'
     |ins _ _=>cases h'
     |lst ws=>
      cases e2:S c with
      |none=>rw [e2]at h';cases h'
      |some o2=>
       rw [e2]at h';cases o2 with
       |dct _=>cases h'
       |ins _ _=>cases h'
       |lst zs=>
        obtain⟨xs,f,hs⟩:=hS a _ e;obtain⟨ys,g,ks⟩:=hS c _ e2;obtain⟨its,q1,p,_⟩:=I.list (.of f);obtain⟨its2,q2,p2,_⟩:=I.list (.of g);obtain⟨h1,h2⟩:=items hs ks q1 q2 h';have both:SeqAt.RcAt A s (.ref a) (.ref c) b∧SeqAt.RcNeAt A s (.ref a) (.ref c) (!b):=by
         by_cases hz:its.toArray.size=its2.toArray.size
         ·have t1:=SeqAt.RcAt.lists p.isList p2.isList hz hu0 h1;have t2:=SeqAt.RcNeAt.lists p.isList p2.isList hz hu0 h1;rw [←hz,Nat.min_self,beq_self_eq_true,Bool.and_true]at h2;rw [h2]at t1 t2;exact⟨t1,t2⟩
         ·have hz':(its.toArray.size != its2.toArray.size)=true:=by simpa using hz
          have hz2:(its.toArray.size == its2.toArray.size)=false:=by simpa using hz
          rw [hz2,Bool.and_false]at h2;subst h2;exact⟨.lists_lengths p.isList p2.isList hz' hu0, .lists_lengths p.isList p2.isList hz' hu0⟩
        refine⟨?_,both.1,both.2⟩;by_cases ee:a=c
        ·subst ee;have:=zdS I (n+1) (.ref a) (.ref a) hS h;rw [this];exact .same _
        ·exact .of_refs ee both.1
   |_=>cases h
  |scr f=>cases ry<;>cases h
end
noncomputable def oEq (neg:Bool):W2:=fun x y S Q=>match eqF S 60 x y with
 |some b=>Q (.bl (if neg then !b else b)) S
 |none=>False
noncomputable def zpc (K:PySem.W.Frag) (neg:Bool):R2:=fun x y H Q=>∃wx wy S b,Rep K H wx x∧Rep K H wy y∧RepS K H S∧eqF S 60 wx wy=some b∧Q (.bl (if neg then !b else b)) H
section
variable {X:Cx}
theorem zkj (hu:X.A.units+60<cLine):OpR X (compareOp .Eq) (zpc X.K false):=by
 intro pins s σ H x y v u Q I rx ry h;obtain⟨wx,wy,S,b,r1,r2,hS,e,q⟩:=h;exact(zhI I hS 60 hu r1 r2 rx ry e).2.1 _ _ _ _ ⟨.bl b,H,I,rfl,q⟩
theorem zmx (hu:X.A.units+60<cLine):OpR X (compareOp .NotEq) (zpc X.K true):=by
 intro pins s σ H x y v u Q I rx ry h;obtain⟨wx,wy,S,b,r1,r2,hS,e,q⟩:=h;exact(zhI I hS 60 hu r1 r2 rx ry e).2.2 _ _ _ _ ⟨.bl (!b),H,I,rfl,q⟩
theorem zhb{K:PySem.W.Frag}{neg:Bool}:OpW K (zpc K neg) (oEq neg):=fun H x y wx wy S Q QW rx ry hS h hQ=>by
 unfold oEq at h;split at h
 ·rename_i b e;exact⟨wx,wy,S,b,rx,ry,hS,e,hQ _ S _ H .refl (.bl _) hS h⟩
 ·exact h.elim
variable {a b:Expr}{pos:Pos}{ta tb:WE}
theorem zoD{k:Nat}(hr:Room k X.A) (ha:JE X a ta) (hb:JE X b tb):JE X (.Compare a [.Eq] [b] pos) (wOp (oEq false) ta tb):=zmo (zkj (by have:=hr.units;omega)) zhb ha hb (nomark b)
theorem zep{k:Nat}(hr:Room k X.A) (ha:JE X a ta) (hb:JE X b tb):JT X (.Compare a [.Eq] [b] pos) (wTb (wOp (oEq false) ta tb)):=zeE (zkj (by have:=hr.units;omega)) zhb ha hb (nomark b)
theorem zll{k:Nat}(hr:Room k X.A) (ha:JE X a ta) (hb:JE X b tb):JT X (.Compare a [.NotEq] [b] pos) (wTb (wOp (oEq true) ta tb)):=zeE (zmx (by have:=hr.units;omega)) zhb ha hb (nomark b)
noncomputable abbrev oLt:W2:=zfg fun i j=> .bl (decide (i<j))
noncomputable abbrev oGt:W2:=zfg fun i j=> .bl (decide (j<i))
noncomputable def oLe:W2
 | .int i, .int j,S,Q=>Q (.bl (decide (i≤j))) S
 | .str i, .str j,S,Q=>Q (.bl (!decide (j.cps.toList<i.cps.toList))) S
 |_,_,_,_=>False
theorem zol (ha:JE X a ta) (hb:JE X b tb):JT X (.Compare a [.Lt] [b] pos) (wTb (wOp oLt ta tb)):=zeE zov zgr ha hb (nomark b)
theorem zjP (ha:JE X a ta) (hb:JE X b tb):JT X (.Compare a [.Gt] [b] pos) (wTb (wOp oGt ta tb)):=zeE zps zgr ha hb (nomark b)
noncomputable def oIs (neg:Bool):W2
 | .non, .non,S,Q=>Q (.bl (!neg)) S
 | .bl a, .bl b,S,Q=>Q (.bl (if neg then a != b else a == b)) S
 | .bl _, .non,S,Q=>Q (.bl neg) S
 | .int _, .non,S,Q=>Q (.bl neg) S
 | .str _, .non,S,Q=>Q (.bl neg) S
 | .tup _, .non,S,Q=>Q (.bl neg) S
 | .ref _, .non,S,Q=>Q (.bl neg) S
 |_,_,_,_=>False
theorem znr:OpR X (compareOp .Is) (fun x y H Q=>(y= .non∧Q (.bl (decide (x= .non))) H)∨ ∃a b,x= .bl a∧y= .bl b∧Q (.bl (a == b)) H):=op_isN.or (by
 intro pins s σ H x y v u Q I rx ry h;obtain⟨a,b,rfl,rfl,q⟩:=h;cases rx;cases ry;exact is_bool ⟨.bl _,H,I,rfl,q⟩)
theorem zmr{K:PySem.W.Frag}:OpW K (fun x y H Q=>(y= .non∧Q (.bl (decide (x= .non))) H)∨ ∃a b,x= .bl a∧y= .bl b∧Q (.bl (a == b)) H) (oIs false):=fun H x y wx wy S Q QW rx ry hS h hQ=>by
 cases ry with
 |non=>cases rx<;>first |exact .inl ⟨rfl,by simpa using hQ _ S _ H .refl (.bl _) hS h⟩ |exact h.elim
 |bl b=>
  cases rx with
  |bl a=>exact .inr ⟨a,b,rfl,rfl,hQ _ S _ H .refl (.bl _) hS h⟩
  |_=>exact h.elim
 |_=>cases rx<;>exact h.elim
theorem zow (ha:JE X a ta) (hb:JE X b tb):JT X (.Compare a [.Is] [b] pos) (wTb (wOp (oIs false) ta tb)):=zeE znr zmr ha hb (nomark b)
end
noncomputable def inF (S:Sto) (x:W):List W→Option Bool
 | []=>some false
 |w::ws=>match eqF S 59 w x with
  |some a=>match inF S x ws with
   |some b=>some (a || b)
   |none=>none
  |none=>none
noncomputable def oIn (neg:Bool):W2:=fun x y S Q=>match y with
 | .str j=>match x with
  | .str i=>Q (.bl (if neg then !(!(Builtin.Str.occurrences j i 0 j.length 1).isEmpty) else !(Builtin.Str.occurrences j i 0 j.length 1).isEmpty)) S
  |_=>False
 | .tup ws=>match inF S x ws with
  |some b=>Q (.bl (if neg then !b else b)) S
  |none=>False
 | .ref a=>zaU S a fun ws=>match inF S x ws with
  |some b=>Q (.bl (if neg then !b else b)) S
  |none=>False
 |_=>False
noncomputable def oIx:W2:=fun x y S Q=>match y with
 | .int i=>match x with
  | .tup ws=>match atI ws i with
   |some w=>Q w S
   |none=>False
  | .ref a=>zaU S a fun ws=>match atI ws i with
   |some w=>Q w S
   |none=>False
  | .scr ns=>match atI ns i with
   |some n=>Q (.int n) S
   |none=>False
  | .str x=>x.length≤sizeLine∧match atI x.cps.toList i with
   |some c=>Q (.str ⟨#[c]⟩) S
   |none=>False
  |_=>False
 |_=>False
theorem zfw{K:PySem.W.Frag}{H:Hp}{ws:List W}{vs:List V}{i:Int}{w:W}(r:Reps K H ws vs) (e:atI ws i=some w):∃v,atI vs i=some v∧Rep K H w v:=by
 unfold atI at e⊢;rw [←r.length];cases q:ixN ws.length i with
 |none=>rw [q]at e;cases e
 |some j=>rw [q]at e;exact r.get e
theorem zkE{α β:Type}{f:α→β}{xs:List α}{i:Int}{x:α}(e:atI xs i=some x):atI (xs.map f) i=some (f x):=by
 unfold atI at e⊢;rw [List.length_map];cases q:ixN xs.length i with
 |none=>rw [q]at e;cases e
 |some j=>
  rw [q]at e;show(xs.map f)[j]? =_;rw [List.getElem?_map,show xs[j]? =some x from e];rfl
theorem zmb{K:PySem.W.Frag}:OpW K (rIx K) oIx:=fun H x y wx wy S Q QW rx ry hS h hQ=>by
 cases ry with
 |int i=>
  cases rx with
  |tup f hs=>
   unfold oIx at h;dsimp only at h;split at h
   ·obtain⟨v,ev,r⟩:=zfw hs ‹_›;exact .inr (.inl ⟨_,_,i,v,rfl,rfl, .of f,ev,hQ _ S _ H .refl r hS h⟩)
   ·exact h.elim
  |ref a=>
   obtain⟨ws,e,h⟩:=zaH h;obtain⟨vs,f,hs⟩:=hS a _ e;split at h
   ·obtain⟨v,ev,r⟩:=zfw hs ‹_›;exact .inl ⟨_,_,i,v,rfl,rfl, .of f,ev,hQ _ S _ H .refl r hS h⟩
   ·exact h.elim
  |scr f=>
   unfold oIx at h;dsimp only at h;split at h
   ·exact .inl ⟨_,_,i,_,rfl,rfl,f.sq,zkE ‹_›,hQ _ S _ H .refl (.int _) hS h⟩
   ·exact h.elim
  |str z=>
   unfold oIx at h;dsimp only at h;obtain⟨hz,h⟩:=h;split at h
   ·exact .inr (.inr ⟨z,i,_,rfl,rfl,hz, ‹_›,hQ _ S _ H .refl (.str _) hS h⟩)
   ·exact h.elim
  |_=>exact h.elim
 |_=>exact h.elim
section
variable {X:Cx}{a b e:Expr}{pos p2:Pos}{ta tb te:WE}{lo hi:Option Expr}
theorem zax (ha:JE X a ta) (hb:JE X b tb) (hs:zfp b:=by intro _ _;rfl):JE X (.Subscript a b pos) (wOp oIx ta tb):=fun E hE=>
 (zml zka (ha E hE) (hb E hE) hs).mono fun σ H Q h=>zcK h fun H2 x y wx wy S QW rx ry hS q hQ=>zmb H2 x y wx wy S Q QW rx ry hS q hQ
noncomputable abbrev WO:=WX→WSt→Sto→(Option Int→Sto→Prop)→Prop
noncomputable def zoM (K:PySem.W.Frag) (t:WSt→Sto→(Option Int→Sto→Prop)→Prop):TO:=fun σ H Q=>∃σW S QW,RpSt K H σW σ∧RepS K H S∧t σW S QW∧ ∀b S' H',Ext H S H' S'→RepS K H' S'→QW b S'→Q b H'
noncomputable def JO (X:Cx) (e:Option Expr) (t:WO):Prop:=∀E,Hook X E→PO X e (zoM X.K (t E))
noncomputable def woN:WO:=fun _ _ S Q=>Q none S
noncomputable def woS (t:WE):WO:=fun E σ S Q=>t E σ S fun w S1=>match w with
 | .int i=>Q (some i) S1
 |_=>False
theorem PO.mono{X:Cx}{e:Option Expr}{t t':TO}(h:PO X e t) (q:∀σ H Q,t' σ H Q→t σ H Q):PO X e t':=fun pins s σ H Q I z=>h pins s σ H Q I (q σ H Q z)
theorem zbe:JO X none woN:=fun E hE=>po_none.mono fun σ H Q ⟨σW,S,QW,hσ,hS,ht,hQ⟩=>hQ none S H .refl hS ht
theorem zbl (h:JE X e te):JO X (some e) (woS te):=fun E hE=>(zlO (h E hE)).mono fun σ H Q ⟨σW,S,QW,hσ,hS,ht,hQ⟩=>⟨σW,S,_,hσ,hS,ht,fun w S1 v H1 e1 r1 hS1 h1=>by
 cases r1 with
 |int i=>exact⟨i,rfl,hQ _ S1 H1 e1 hS1 h1⟩
 |_=>exact h1.elim⟩
noncomputable def zcv {α:Type}(xs:List α) (lo hi:Option Int):List α:=(xs.drop (HT.sIx xs.length 0 lo)).take (HT.sIx xs.length xs.length hi - HT.sIx xs.length 0 lo)
theorem zdZ{K:PySem.W.Frag}{H:Hp}{ws:List W}{vs:List V}{lo hi:Option Int}(r:Reps K H ws vs):Reps K H (zcv ws lo hi) (zie vs lo hi):=by
 unfold zcv zie;rw [r.length];exact(r.drop _).take _
theorem zfR{α β:Type}{f:α→β}{xs:List α}{lo hi:Option Int}:zcv (xs.map f) lo hi=(zcv xs lo hi).map f:=by
 unfold zcv;rw [List.length_map,List.map_take,List.map_drop]
theorem zbZ{prog:Program}{w:World}{A:Around}{E:Value→Shared→Prop}{s:Shared}{t sl:Addr}{items:Array Value}{vl vu:Value}{lo hi:Option Int}{Q:Value→Shared→Prop}(ht:IsTup s.heap t items) (hs:s.heap.IsSliceOf sl vl vu .none) (pl:IsPart vl lo) (pu:IsPart vu hi)
  (hw:HT.sIx items.size 0 lo=0∧HT.sIx items.size items.size hi=items.size) (h:Q (.ref t) s):wpAny (model prog w) A (getItem (.ref t) (.ref sl)) Q E s:=by
 obtain⟨os,hos,hcs,hds⟩:=id hs;have hTs:s.TypeIs (.ref sl) "slice" :=⟨os,hos,hcs⟩;unfold getItem
 try with_reducible refine wpAny_holding ?_
 first |refine wpAny_bind (wpAny_pure ?_) |skip
 refine wpAny_bind (wpAny_sequenceKey ht.typeIs (by decide) ?_);refine wpAny_bind (wpAny_callSpecial?_slot (name:=Str.ofString "__getitem__") ht.typeIs PyProof.Rows.slot_tuple_getitem
  (wpAny_call_entry PyProof.Rows.slot_tuple_getitem ht.typeIs entry_tuple_getitem ?_ (args_tuple_getitem _ _)))
 show wpAny _ _ (Builtin.Tuple.tupleItemsOf (.ref t) >>= _) _ _ s;refine wpAny_bind (tupleItemsOf_ ht ?_);refine wpAny_bind (wpAny_typeOf hTs ?_);rw [if_pos (by decide)];refine wpAny_bind (HT.sliceApplied_gen hs pl pu ?_);show wpAny _ _ (if(((HT.sIx items.size 0 lo:Nat):Int) == 0&&(1:Int) == 1&&(HT.sIx items.size items.size hi - HT.sIx items.size 0 lo) == items.size)=true then _ else _) _ _ s;rw [hw.1,hw.2,if_pos (by simp)];unfold Builtin.Tuple.tupleIsExact;refine wpAny_bind (wpAny_bind (wpAny_typeOf ht.typeIs (wpAny_pure ?_)));rw [if_pos (by decide)];exact wpAny_bind (wpAny_rule (wpAny_pure ⟨_,rfl,wpAny_pure h⟩))
theorem sl_tupW:SlR X (fun x lo hi H Q=>∃a xs,x= .ref a∧SqT X.K H a xs∧((HT.sIx xs.length 0 lo=0∧HT.sIx xs.length xs.length hi=xs.length)∧Q (.ref a) H∨ ¬(HT.sIx xs.length 0 lo=0∧HT.sIx xs.length xs.length hi=xs.length)∧ ∀p,H p=none→Q (.ref p) (upd H p (.tup (zie xs lo hi))))):=by
 intro pins s σ H x v vl vu lo hi sl Q I rx hs pl pu h;obtain⟨a,xs,rfl,hx,⟨hw,q⟩ |⟨hw,q⟩⟩:=h
 ·cases rx;obtain⟨its,r,ht,hz⟩:=I.tuple hx;have hlen:its.toArray.size=xs.length:=by rw [List.size_toArray];exact r.length.symm
  refine⟨"tuple",_,PyProof.Rows.slot_tuple_getitem.lookup,ht.typeIs,?_⟩;exact zbZ ht hs pl pu (by rw [hlen];exact hw) ⟨.ref a,H,I,rfl,q⟩
 ·exact zmd pins s σ H _ v vl vu lo hi sl Q I rx hs pl pu ⟨a,xs,rfl,hx,hw,q⟩
noncomputable def oSl:W→Option Int→Option Int→Sto→WK→Prop
 | .tup ws,lo,hi,S,Q=>Q (.tup (zcv ws lo hi)) S
 | .str z,lo,hi,S,Q=>z.length≤sizeLine∧Q (.str (Txt.slice z lo hi)) S
 | .ref a,lo,hi,S,Q=>zaU S a fun ws=>∀p,S p=none→Q (.ref p) (put S p (.lst (zcv ws lo hi)))
 | .scr ns,lo,hi,S,Q=>∀p,S p=none→Q (.ref p) (put S p (.lst ((zcv ns lo hi).map W.int)))
 |_,_,_,_,_=>False
noncomputable def wSl (t:WE) (l h:WO):WE:=fun E σ S Q=>t E σ S fun x S1=>l E σ S1 fun lo S2=>h E σ S2 fun hi S3=>oSl x lo hi S3 Q
theorem zgD{α:Type}{xs:List α}{lo hi:Option Int}(h:HT.sIx xs.length 0 lo=0∧HT.sIx xs.length xs.length hi=xs.length):zcv xs lo hi=xs:=by
 unfold zcv;rw [h.1,h.2,List.drop_zero,Nat.sub_zero,List.take_length]
theorem zdr{tl th:WO}(he:JE X e te) (hl:JO X lo tl) (hh:JO X hi th):JE X (.Subscript e (.Slice lo hi none p2) pos) (wSl te tl th):=fun E hE=>
 (zgb (sl_tupW.or (sl_str.or zio)) (he E hE) (hl E hE) (hh E hE)).mono fun σ H Q ⟨σW,S,QW,hσ,hS,ht,hQ⟩=>
  ⟨σW,S,_,hσ,hS,ht,fun w S1 v H1 e1 r1 hS1 h1=>⟨σW,S1,_,hσ.ext e1,hS1,h1,fun lo S2 H2 e2 hS2 h2=>⟨σW,S2,_,(hσ.ext e1).ext e2,hS2,h2,fun hi S3 H3 e3 hS3 h3=>by
   have hQ':=hQ.from (e1.trans (e2.trans e3));have r3:=(r1.ext e2).ext e3;cases r3 with
   | @tup a vs ws f hs=>
    refine .inl ⟨a,vs,rfl, .of f,?_⟩;by_cases hw:HT.sIx vs.length 0 lo=0∧HT.sIx vs.length vs.length hi=vs.length
    ·refine .inl ⟨hw,hQ' (.tup ws) S3 _ H3 .refl (.tup f hs) hS3 ?_⟩;have:=zgD (xs:=ws) (lo:=lo) (hi:=hi) (by rw [hs.length];exact hw);have h3':QW (.tup (zcv ws lo hi)) S3:=h3;rw [this]at h3';exact h3'
    ·exact .inr ⟨hw,fun p hp=>hQ' _ S3 _ _ (.new hp) (.tup zas ((zdZ hs).ext (.new (S:=S3) hp))) (hS3.new hp) h3⟩
   |str z=>exact .inr (.inl ⟨z,rfl,h3.1,hQ' _ S3 _ H3 .refl (.str _) hS3 h3.2⟩)
   |ref a=>
    obtain⟨ws,ea,h⟩:=zaH h3;obtain⟨vs,f,hs⟩:=hS3 a _ ea;exact .inr (.inr ⟨a,vs,rfl, .of f,fun p hp=>hQ' _ _ _ _ (.newS hp) (.ref p) (hS3.put_lst hp ((zdZ hs).ext (.new (S:=S3) hp))) (h p (hS3.free hp))⟩)
   | @scr a ns f=>
    refine .inr (.inr ⟨a,_,rfl,f.sq,fun p hp=>hQ' _ _ _ _ (.newS hp) (.ref p) (hS3.put_lst hp ?_) (h3 p (hS3.free hp))⟩);have q:zie (ns.map V.int) lo hi=(zcv ns lo hi).map V.int:=zfR;rw [q];exact Reps.ofInts _
   |_=>exact h3.elim⟩⟩⟩
noncomputable def zoK (t:WE) (l h:WO):WL:=fun E σ S Q=>t E σ S fun x S1=>l E σ S1 fun lo S2=>h E σ S2 fun hi S3=>match x with
 | .ref a=>zaU S3 a fun ws=>Q (zcv ws lo hi) S3
 | .scr ns=>Q ((zcv ns lo hi).map W.int) S3
 |_=>False
theorem zoz{tl th:WO}(he:JE X e te) (hl:JO X lo tl) (hh:JO X hi th):JL X (.Subscript e (.Slice lo hi none p2) pos) (zoK te tl th):=fun E hE=>
 (zgb zio (he E hE) (hl E hE) (hh E hE)).mono fun σ H Q ⟨σW,S,QW,hσ,hS,ht,hQ⟩=>
  ⟨σW,S,_,hσ,hS,ht,fun w S1 v H1 e1 r1 hS1 h1=>⟨σW,S1,_,hσ.ext e1,hS1,h1,fun lo S2 H2 e2 hS2 h2=>⟨σW,S2,_,(hσ.ext e1).ext e2,hS2,h2,fun hi S3 H3 e3 hS3 h3=>by
   have e':=e1.trans (e2.trans e3);have r3:=(r1.ext e2).ext e3;cases r3 with
   |ref a=>
    obtain⟨ws,ea,h⟩:=zaH h3;obtain⟨vs,f,hs⟩:=hS3 a _ ea;exact⟨a,vs,rfl, .of f,fun p hp=>hQ _ S3 _ p _ (e'.trans (.new hp)) (e'.free hp) zas (hS3.free hp) ((zdZ hs).ext (.new (S:=S3) hp)) (hS3.new hp) h⟩
   | @scr a ns f=>
    refine⟨a,_,rfl,f.sq,fun p hp=>hQ _ S3 _ p _ (e'.trans (.new hp)) (e'.free hp) zas (hS3.free hp) ?_ (hS3.new hp) h3⟩;have q:zie (ns.map V.int) lo hi=(zcv ns lo hi).map V.int:=zfR;rw [q];exact Reps.ofInts _
   |_=>exact h3.elim⟩⟩⟩
end
noncomputable abbrev WF:=List W→Sto→WK→Prop
noncomputable def wB (f:WF) (t:WA):WE:=fun E σ S Q=>t E σ S fun ws S1=>f ws S1 Q
noncomputable def zir (K:PySem.W.Frag) (r:List V→Hp→VK→Prop) (f:WF):Prop:=∀H vs ws S (Q:VK) (QW:WK),Reps K H ws vs→RepS K H S→f ws S QW→Wish K H S QW Q→r vs H Q
noncomputable def wBL (f:WF) (t:WL):WE:=fun E σ S Q=>t E σ S fun ws S1=>f ws S1 Q
noncomputable def zjl (K:PySem.W.Frag) (r:List V→Hp→VK→Prop) (f:WF):Prop:=∀H a vs ws S (Q:VK) (QW:WK),H a=some (.lst vs)→S a=none→Reps K H ws vs→RepS K H S→f ws S QW→Wish K H S QW Q→r [.ref a] H Q
section
variable {X:Cx}{x:Str}{p pos:Pos}{e:Expr}{es:List Expr}{t:WA}{tl:WL}{id T:String}{r:List V→Hp→VK→Prop}{f:WF}
theorem znS (hc:CallR X (.builtin id) r) (hw:zir X.K r f) (hg:Gl X x) (hm:X.mg x=none) (hv:bootBuiltins x=some (.builtin id)) (ha:JA X (e::es) t) (hn:x≠ "__name__" :=by decide) (hdb:(x == ("__debug__" :Str))=false:=by decide)
  (he:starEach (e::es) X.env=(false,eval e X.env)::starEach es X.env:=by rfl) (hpl:(backTo pos (starEach es X.env)).any (·.1)=false:=by rfl):JE X (.Call (.Name x p) (e::es) [] pos) (wB f t):=fun E hE=>
 (zcn hc hg hm hv (ha E hE) hn hdb he hpl).mono fun σ H Q ⟨σW,S,QW,hσ,hS,ht,hQ⟩=>⟨σW,S,_,hσ,hS,ht,fun ws S1 vs H1 e1 r1 hS1 h1=>hw H1 vs ws S1 Q QW r1 hS1 h1 (hQ.from e1)⟩
theorem zmp (hc:CallR X (.type T) r) (hw:zir X.K r f) (hg:Gl X x) (hm:X.mg x=none) (hv:bootBuiltins x=some (.type T)) (ha:JA X (e::es) t) (hn:x≠ "__name__" :=by decide) (hdb:(x == ("__debug__" :Str))=false:=by decide)
  (he:starEach (e::es) X.env=(false,eval e X.env)::starEach es X.env:=by rfl) (hpl:(backTo pos (starEach es X.env)).any (·.1)=false:=by rfl):JE X (.Call (.Name x p) (e::es) [] pos) (wB f t):=fun E hE=>
 (zeP hc hg hm hv (ha E hE) hn hdb he hpl).mono fun σ H Q ⟨σW,S,QW,hσ,hS,ht,hQ⟩=>⟨σW,S,_,hσ,hS,ht,fun ws S1 vs H1 e1 r1 hS1 h1=>hw H1 vs ws S1 Q QW r1 hS1 h1 (hQ.from e1)⟩
theorem zlT (hc:CallR X (.builtin id) r) (hw:zjl X.K r f) (hg:Gl X x) (hm:X.mg x=none) (hv:bootBuiltins x=some (.builtin id)) (ha:JL X e tl) (hn:x≠ "__name__" :=by decide) (hdb:(x == ("__debug__" :Str))=false:=by decide)
  (he:starEach [e] X.env=(false,eval e X.env)::starEach [] X.env:=by rfl) (hpl:(backTo pos (starEach [] X.env)).any (·.1)=false:=by rfl):JE X (.Call (.Name x p) [e] [] pos) (wBL f tl):=fun E hE=>
 (zcn hc hg hm hv (zaX (ha E hE) pa_nil he) hn hdb he hpl).mono fun σ H Q ⟨σW,S,QW,hσ,hS,ht,hQ⟩=>⟨σW,S,_,hσ,hS,ht,fun ws S1 vs a H1 e1 fa ea na r1 hS1 h1=>hw H1 a vs ws S1 Q QW ea na r1 hS1 h1 (hQ.from e1)⟩
theorem zmA (hc:CallR X (.type T) r) (hw:zjl X.K r f) (hg:Gl X x) (hm:X.mg x=none) (hv:bootBuiltins x=some (.type T)) (ha:JL X e tl) (hn:x≠ "__name__" :=by decide) (hdb:(x == ("__debug__" :Str))=false:=by decide)
  (he:starEach [e] X.env=(false,eval e X.env)::starEach [] X.env:=by rfl) (hpl:(backTo pos (starEach [] X.env)).any (·.1)=false:=by rfl):JE X (.Call (.Name x p) [e] [] pos) (wBL f tl):=fun E hE=>
 (zeP hc hg hm hv (zaX (ha E hE) pa_nil he) hn hdb he hpl).mono fun σ H Q ⟨σW,S,QW,hσ,hS,ht,hQ⟩=>⟨σW,S,_,hσ,hS,ht,fun ws S1 vs a H1 e1 fa ea na r1 hS1 h1=>hw H1 a vs ws S1 Q QW ea na r1 hS1 h1 (hQ.from e1)⟩
noncomputable def ziC:WF:=fun ws S Q=>match ws with
 | [.tup us]=>Q (.int us.length) S
 | [.ref a]=>zaU S a fun us=>Q (.int us.length) S
 | [.scr ns]=>Q (.int ns.length) S
 | [.str z]=>z.length≤sizeLine∧Q (.int z.length) S
 |_=>False
theorem zhA{K:PySem.W.Frag}:zir K (fun xs H Q=>(∃p ys,xs=[.ref p]∧(SqL K H p ys∨SqT K H p ys)∧Q (.int ys.length) H)∨ ∃z,xs=[.str z]∧z.length≤sizeLine∧Q (.int z.length) H) ziC:=fun H vs ws S Q QW r hS h hQ=>by
 cases r with
 |nil=>exact h.elim
 |cons r1 r2=>
  cases r2 with
  |cons _ _=>cases r1<;>exact h.elim
  |nil=>
   cases r1 with
   |tup f hs=>exact .inl ⟨_,_,rfl, .inr (.of f),by rw [←hs.length];exact hQ _ S _ H .refl (.int _) hS h⟩
   |ref a=>
    obtain⟨us,e,h⟩:=zaH h;obtain⟨vs,f,hs⟩:=hS a _ e;exact .inl ⟨_,_,rfl, .inl (.of f),by rw [←hs.length];exact hQ _ S _ H .refl (.int _) hS h⟩
   |scr f=>exact .inl ⟨_,_,rfl, .inl f.sq,by rw [List.length_map];exact hQ _ S _ H .refl (.int _) hS h⟩
   |str z=>exact .inr ⟨z,rfl,h.1,hQ _ S _ H .refl (.int _) hS h.2⟩
   |_=>exact h.elim
theorem zgn (hg:Gl X "len") (hm:X.mg "len" =none) (ha:JA X (e::es) t) 
  (he:starEach (e::es) X.env=(false,eval e X.env)::starEach es X.env:=by rfl) (hpl:(backTo pos (starEach es X.env)).any (·.1)=false:=by rfl):JE X (.Call (.Name "len" p) (e::es) [] pos) (wB ziC t):=
 znS (call_len_seq.or zfc) zhA hg hm PySem.boot_len ha (by decide) (by decide) he hpl
noncomputable def zdD:WF:=fun ws S Q=>match ws with
 | [.tup us]=>Q (.tup us) S
 | [.ref a]=>zaU S a fun us=>Q (.tup us) S
 |_=>False
theorem zfB{K:PySem.W.Frag}:zir K (fun xs H Q=>∃p ys,xs=[.ref p]∧((SqL K H p ys∧ ∀l,H l=none→Q (.ref l) (upd H l (.tup ys)))∨(SqT K H p ys∧Q (.ref p) H))) zdD:=fun H vs ws S Q QW r hS h hQ=>by
 cases r with
 |nil=>exact h.elim
 |cons r1 r2=>
  cases r2 with
  |cons _ _=>cases r1<;>exact h.elim
  |nil=>
   cases r1 with
   |tup f hs=>exact⟨_,_,rfl, .inr ⟨.of f,hQ _ S _ H .refl (.tup f hs) hS h⟩⟩
   |ref a=>
    obtain⟨us,e,h⟩:=zaH h;obtain⟨vs,f,hs⟩:=hS a _ e;exact⟨_,_,rfl, .inl ⟨.of f,fun l hl=>hQ _ S _ _ (.new hl) (.tup zas (hs.ext (.new (S:=S) hl))) (hS.new hl) h⟩⟩
   |_=>exact h.elim
noncomputable def zdk:WF:=fun ws S Q=>Q (.tup ws) S
theorem zfv{K:PySem.W.Frag}:zjl K (fun xs H Q=>∃p ys,xs=[.ref p]∧((SqL K H p ys∧ ∀l,H l=none→Q (.ref l) (upd H l (.tup ys)))∨(SqT K H p ys∧Q (.ref p) H))) zdk:=fun H a vs ws S Q QW ea na r hS h hQ=>
 ⟨a,vs,rfl, .inl ⟨.of ea,fun l hl=>hQ _ S _ _ (.new hl) (.tup zas (r.ext (.new (S:=S) hl))) (hS.new hl) h⟩⟩
noncomputable def tyW:W→Sto→(String→Prop)→Prop
 | .non,_,Q=>Q "NoneType"
 | .bl _,_,Q=>Q "bool"
 | .int _,_,Q=>Q "int"
 | .str _,_,Q=>Q "str"
 | .tup _,_,Q=>Q "tuple"
 | .ref a,S,Q=>zaU S a fun _=>Q "list"
 | .scr _,_,_=>False
noncomputable def zaJ (A B:String):Bool:=A == B || (A == "bool" &&B == "int")
noncomputable def zlU (T:String) (t:WE):WE:=fun E σ S Q=>t E σ S fun w S1=>tyW w S1 fun A=>Q (.bl (zaJ A T)) S1
theorem zfT{a:Expr}{ta:WE}{p2:Pos}{T:Str}{T':String}(hg:Gl X "isinstance") (hm:X.mg "isinstance" =none) (hgT:Gl X T) (hmT:X.mg T=none) (hv:bootBuiltins T=some (.type T')) (ha:JE X a ta) (hn:T≠ "__name__") (hd:(T == ("__debug__" :Str))=false)
  (hk:∀A∈ ["NoneType", "bool", "int", "str", "tuple", "list"],PySem.W.kitOne X.K (.type A) (.type T')=some (zaJ A T'))
  (he:starEach [a, .Name T p2] X.env=(false,eval a X.env)::starEach [.Name T p2] X.env:=by rfl) (he2:starEach [.Name T p2] X.env=(false,eval (.Name T p2) X.env)::starEach [] X.env:=by rfl) (hpl:(backTo pos (starEach [.Name T p2] X.env)).any (·.1)=false:=by rfl) :
  JE X (.Call (.Name "isinstance" p) [a, .Name T p2] [] pos) (zlU T' ta):=fun E hE=>
 (zcn zjA hg hm PyProof.Rows.boot_isinstance (zaX (ha E hE) (zaX (zii (v:= .ty T') hgT hmT hv rfl hn hd) pa_nil he2) he) (by decide) (by decide) he hpl).mono fun σ H Q ⟨σW,S,QW,hσ,hS,ht,hQ⟩=>⟨σW,S,_,hσ,hS,ht,fun w S1 v H1 e1 r1 hS1 h1=>by
  have fin:∀{t:Value}(A:String),t= .type A→A∈ ["NoneType", "bool", "int", "str", "tuple", "list"]→TyOf X.K H1 v t→QW (.bl (zaJ A T')) S1→ ∃x t c b,[v,V.ty T']=[x, .ty c]∧TyOf X.K H1 x t∧PySem.W.kitOne X.K t (.type c)=some b∧Q (.bl b) H1:=fun A e hA ty q=>by
   subst e;exact⟨v,_,T',_,rfl,ty,hk A hA,hQ _ S1 _ H1 e1 (.bl _) hS1 q⟩
  cases r1 with
  |non=>exact fin _ rfl (by simp) .non h1
  |bl b=>exact fin _ rfl (by simp) (.bl b) h1
  |int i=>exact fin _ rfl (by simp) (.int i) h1
  |str z=>exact fin _ rfl (by simp) (.str z) h1
  |tup f hs=>exact fin _ rfl (by simp) (.tup f) h1
  |ref a=>
   obtain⟨ws,ea,h⟩:=zaH h1;obtain⟨vs,f,hs⟩:=hS1 a _ ea;exact fin _ rfl (by simp) (.lst f) h
  |scr f=>exact h1.elim⟩
end
noncomputable abbrev WMf:=W→List W→Sto→WK→Prop
noncomputable def rvL:W→Sto→Prop
 | .ref a,S=>zaU S a fun _=>True
 |_,_=>False
noncomputable def rvS:W→Sto→Prop
 | .str _,_=>True
 |_,_=>False
noncomputable def wM (rv:W→Sto→Prop) (f:WMf) (to:WE) (t:WA):WE:=fun E σ S Q=>to E σ S fun w S1=>rv w S1∧t E σ S1 fun ws S2=>f w ws S2 Q
noncomputable def wML (rv:W→Sto→Prop) (f:WMf) (to:WE) (t:WL):WE:=fun E σ S Q=>to E σ S fun w S1=>rv w S1∧t E σ S1 fun ws S2=>f w ws S2 Q
noncomputable def MtW (K:PySem.W.Frag) (r:V→List V→Hp→VK→Prop) (f:WMf):Prop:=∀H x w vs ws S (Q:VK) (QW:WK),Rep K H w x→Reps K H ws vs→RepS K H S→f w ws S QW→Wish K H S QW Q→r x vs H Q
noncomputable def MtL (K:PySem.W.Frag) (r:V→List V→Hp→VK→Prop) (f:WMf):Prop:=∀H x w a vs ws S (Q:VK) (QW:WK),Rep K H w x→H a=some (.lst vs)→S a=none→Reps K H ws vs→RepS K H S→f w ws S QW→Wish K H S QW Q→r x [.ref a] H Q
noncomputable def znd (K:PySem.W.Frag) (T:String) (rv:W→Sto→Prop):Prop:=∀H w v S,Rep K H w v→RepS K H S→rv w S→tyV K T v H
theorem zkr{K:PySem.W.Frag}:znd K "list" rvL:=fun H w v S r hS h=>by
 cases r with
 |ref a=>
  obtain⟨ws,e,_⟩:=zaH h;obtain⟨vs,f,_⟩:=hS a _ e;exact .inl ⟨rfl,vs, .of f⟩
 |_=>exact h.elim
theorem zku{K:PySem.W.Frag}:znd K "str" rvS:=fun H w v S r hS h=>by
 cases r with
 |str x=>exact rfl
 |_=>exact h.elim
section
variable {X:Cx}{o e:Expr}{es:List Expr}{to:WE}{t:WA}{tl:WL}{name:Str}{apos cpos:Pos}{id T:String}{r:V→List V→Hp→VK→Prop}{f:WMf}{rv:W→Sto→Prop}
theorem zpH (pa:PlainAttrs T) (slot:Slot T name id) (hty:typeOf (.builtin id)=pure (.type "method_descriptor")) (hrv:znd X.K T rv) (hm:MtR X id r) (hw:MtW X.K r f) (ho:JE X o to) (ha:JA X (e::es) t)
  (hbase:attributeBase o name X.env (eval o X.env)=eval o X.env:=by rfl)
  (hfew:((backTo cpos (starEach (e::es) X.env)).all (fun x=> !x.1)&&(backToKw cpos (keywordEach [] X.env)).all (fun x=>x.1.isSome)
   &&decide ((e::es).length+([]:List Keyword).length+(if([]:List Keyword).isEmpty then 0 else 1)<30))=true:=by rfl)
  (hline:(apos.endLine == cpos.line)=true:=by rfl) (hs:starEach (e::es) X.env=(false,eval e X.env)::starEach es X.env:=by rfl) (hplain:(backTo cpos (starEach es X.env)).any (·.1)=false:=by rfl) :
  JE X (.Call (.Attribute o name apos) (e::es) [] cpos) (wM rv f to t):=fun E hE=>
 (zmF pa slot hty hm (ho E hE) (ha E hE) hbase hfew hline hs hplain).mono fun σ H Q ⟨σW,S,QW,hσ,hS,ht,hQ⟩=>⟨σW,S,_,hσ,hS,ht,fun w S1 v H1 e1 r1 hS1 h1=>
  ⟨hrv H1 w v S1 r1 hS1 h1.1,σW,S1,_,hσ.ext e1,hS1,h1.2,fun ws S2 vs H2 e2 r2 hS2 h2=>hw H2 v w vs ws S2 Q QW (r1.ext e2) r2 hS2 h2 (hQ.from (e1.trans e2))⟩⟩
theorem zoB (pa:PlainAttrs T) (slot:Slot T name id) (hty:typeOf (.builtin id)=pure (.type "method_descriptor")) (hrv:znd X.K T rv) (hm:MtR X id r) (hw:MtL X.K r f) (ho:JE X o to) (ha:JL X e tl)
  (hbase:attributeBase o name X.env (eval o X.env)=eval o X.env:=by rfl)
  (hfew:((backTo cpos (starEach [e] X.env)).all (fun x=> !x.1)&&(backToKw cpos (keywordEach [] X.env)).all (fun x=>x.1.isSome)
   &&decide ([e].length+([]:List Keyword).length+(if([]:List Keyword).isEmpty then 0 else 1)<30))=true:=by rfl)
  (hline:(apos.endLine == cpos.line)=true:=by rfl) (hs:starEach [e] X.env=(false,eval e X.env)::starEach [] X.env:=by rfl) (hplain:(backTo cpos (starEach [] X.env)).any (·.1)=false:=by rfl) :
  JE X (.Call (.Attribute o name apos) [e] [] cpos) (wML rv f to tl):=fun E hE=>
 (zmF pa slot hty hm (ho E hE) (zaX (ha E hE) pa_nil hs) hbase hfew hline hs hplain).mono fun σ H Q ⟨σW,S,QW,hσ,hS,ht,hQ⟩=>⟨σW,S,_,hσ,hS,ht,fun w S1 v H1 e1 r1 hS1 h1=>
  ⟨hrv H1 w v S1 r1 hS1 h1.1,σW,S1,_,hσ.ext e1,hS1,h1.2,fun ws S2 vs a H2 e2 fa ea na r2 hS2 h2=>hw H2 v w a vs ws S2 Q QW (r1.ext e2) ea na r2 hS2 h2 (hQ.from (e1.trans e2))⟩⟩
theorem zoj (pa:PlainAttrs T) (slot:Slot T name id) (hty:typeOf (.builtin id)=pure (.type "method_descriptor")) (hrv:znd X.K T rv) (hm:MtR X id r) (hw:MtW X.K r f) (ho:JE X o to)
  (hbase:attributeBase o name X.env (eval o X.env)=eval o X.env:=by rfl) (hline:(apos.endLine == cpos.line)=true:=by rfl):JE X (.Call (.Attribute o name apos) [] [] cpos) (wM rv f to waNil):=fun E hE=>
 (znq pa slot hty hm (ho E hE) hbase hline).mono fun σ H Q ⟨σW,S,QW,hσ,hS,ht,hQ⟩=>⟨σW,S,_,hσ,hS,ht,fun w S1 v H1 e1 r1 hS1 h1=>
  ⟨hrv H1 w v S1 r1 hS1 h1.1,hw H1 v w [] [] S1 Q QW r1 .nil hS1 h1.2 (hQ.from e1)⟩⟩
noncomputable def zdg:WMf:=fun w ws S Q=>match w with
 | .ref a=>zaU S a fun xs=>match ws with
  | [y]=>xs.length<sizeLine∧Q .non (put S a (.lst (xs++[y])))
  |_=>False
 |_=>False
theorem zgP{K:PySem.W.Frag}:MtW K zhG zdg:=fun H x w vs ws S Q QW r rs hS h hQ=>by
 cases r with
 |ref a=>
  obtain⟨xs,ea,h⟩:=zaH h;obtain⟨us,f,hs⟩:=hS a _ ea;cases rs with
  |nil=>exact h.elim
  |cons r1 r2=>
   cases r2 with
   |cons _ _=>exact h.elim
   |nil=>
    obtain⟨e,hS'⟩:=hS.set_lst ea (hs.append (.one r1));exact⟨a,us,_,rfl,rfl,f,by rw [←hs.length];exact h.1,hQ _ _ _ _ e .non hS' h.2⟩
 |_=>exact h.elim
theorem zeB (ho:JE X o to) (ha:JA X (e::es) t)
  (hbase:attributeBase o "append" X.env (eval o X.env)=eval o X.env:=by rfl)
  (hfew:((backTo cpos (starEach (e::es) X.env)).all (fun x=> !x.1)&&(backToKw cpos (keywordEach [] X.env)).all (fun x=>x.1.isSome)
   &&decide ((e::es).length+([]:List Keyword).length+(if([]:List Keyword).isEmpty then 0 else 1)<30))=true:=by rfl)
  (hline:(apos.endLine == cpos.line)=true:=by rfl) (hs:starEach (e::es) X.env=(false,eval e X.env)::starEach es X.env:=by rfl) (hplain:(backTo cpos (starEach es X.env)).any (·.1)=false:=by rfl) :
  JE X (.Call (.Attribute o "append" apos) (e::es) [] cpos) (wM rvL zdg to t):=zpH PySem.F.plainAttrs_list PySem.F.slot_list_append PySem.F.type_list_append zkr zeC zgP ho ha hbase hfew hline hs hplain
noncomputable def zpN:WMf:=fun w ws S Q=>match w with
 | .ref a=>zaU S a fun xs=>match ws with
  | []=>match xs[xs.length - 1]? with
   |some y=>Q y (put S a (.lst xs.dropLast))
   |none=>False
  |_=>False
 |_=>False
noncomputable def zcX:WMf:=fun w ws S Q=>match w with
 | .ref a=>zaU S a fun xs=>match ws with
  | [.tup ys]=>xs.length+ys.length≤sizeLine∧Q .non (put S a (.lst (xs++ys)))
  | [.ref b]=>zaU S b fun ys=>xs.length+ys.length≤sizeLine∧Q .non (put S a (.lst (xs++ys)))
  |_=>False
 |_=>False
theorem zgH{K:PySem.W.Frag}:MtW K (fun x vs H Q=>zic x vs H Q∨zga K x vs H Q) zcX:=fun H x w vs ws S Q QW r rs hS h hQ=>by
 cases r with
 |ref a=>
  obtain⟨xs,ea,h⟩:=zaH h;obtain⟨us,f,hs⟩:=hS a _ ea;cases rs with
  |nil=>exact h.elim
  |cons r1 r2=>
   cases r2 with
   |cons _ _=>cases r1<;>exact h.elim
   |nil=>
    cases r1 with
    |tup g ks=>
     obtain⟨e,hS'⟩:=hS.set_lst ea (hs.append ks);exact .inr ⟨a,_,us,_,rfl,rfl,f, .of g,by rw [←hs.length,←ks.length];exact h.1,hQ _ _ _ _ e .non hS' h.2⟩
    |ref b=>
     obtain⟨ys,eb,h⟩:=zaH h;obtain⟨zs,g,ks⟩:=hS b _ eb;obtain⟨e,hS'⟩:=hS.set_lst ea (hs.append ks);exact .inl ⟨a,b,us,zs,rfl,rfl,f,g,by rw [←hs.length,←ks.length];exact h.1,hQ _ _ _ _ e .non hS' h.2⟩
    |_=>exact h.elim
 |_=>exact h.elim
theorem zhM (ho:JE X o to) (ha:JA X (e::es) t)
  (hbase:attributeBase o "extend" X.env (eval o X.env)=eval o X.env:=by rfl)
  (hfew:((backTo cpos (starEach (e::es) X.env)).all (fun x=> !x.1)&&(backToKw cpos (keywordEach [] X.env)).all (fun x=>x.1.isSome)
   &&decide ((e::es).length+([]:List Keyword).length+(if([]:List Keyword).isEmpty then 0 else 1)<30))=true:=by rfl)
  (hline:(apos.endLine == cpos.line)=true:=by rfl) (hs:starEach (e::es) X.env=(false,eval e X.env)::starEach es X.env:=by rfl) (hplain:(backTo cpos (starEach es X.env)).any (·.1)=false:=by rfl) :
  JE X (.Call (.Attribute o "extend" apos) (e::es) [] cpos) (wM rvL zcX to t):=zpH PySem.F.plainAttrs_list PySem.F.slot_list_extend PySem.F.type_list_extend zkr (MtR.or zij zgy) zgH ho ha hbase hfew hline hs hplain
noncomputable def zjF:WMf:=fun w ws S Q=>match w with
 | .ref a=>zaU S a fun xs=>xs.length+ws.length≤sizeLine∧Q .non (put S a (.lst (xs++ws)))
 |_=>False
noncomputable def zcD:List W→Option (List Str)
 | []=>some []
 | .str b::ws=>(zcD ws).map (b:: ·)
 |_=>none
theorem zgf{K:PySem.W.Frag}{H:Hp}:∀{ws:List W}{vs:List V}{bs:List Str},Reps K H ws vs→zcD ws=some bs→vs=bs.map V.str
 | [],_,_, .nil,e=>by have:=Option.some.inj e;subst this;rfl
 |w::ws,_,_, .cons r rs,e=>by
  cases r with
  |str b=>
   have e':(zcD ws).map (b:: ·)=some _:=e;cases q:zcD ws with
   |none=>rw [q]at e';cases e'
   |some cs=>
    rw [q]at e';have:=Option.some.inj e';subst this;rw [List.map_cons,zgf rs q]
  |_=>cases e
noncomputable def zeV:WMf:=fun w ws S Q=>match w with
 | .str z=>match zcD ws with
  |some ys=>(ys.map (·.length)).sum+ys.length*z.length≤16777216∧Q (.str (Str.join z ys)) S
  |none=>False
 |_=>False
theorem zjv{K:PySem.W.Frag}:MtL K (znc K) zeV:=fun H x w a vs ws S Q QW r ea na rs hS h hQ=>by
 cases r with
 |str z=>
  unfold zeV at h;dsimp only at h;split at h
  ·rename_i ys e;have:=zgf rs e;subst this;exact⟨z,a,ys,rfl,rfl, .of ea,h.1,hQ _ S _ H .refl (.str _) hS h.2⟩
  ·exact h.elim
 |_=>exact h.elim
theorem zjO (ho:JE X o to) (ha:JL X e tl)
  (hbase:attributeBase o "join" X.env (eval o X.env)=eval o X.env:=by rfl)
  (hfew:((backTo cpos (starEach [e] X.env)).all (fun x=> !x.1)&&(backToKw cpos (keywordEach [] X.env)).all (fun x=>x.1.isSome)
   &&decide ([e].length+([]:List Keyword).length+(if([]:List Keyword).isEmpty then 0 else 1)<30))=true:=by rfl)
  (hline:(apos.endLine == cpos.line)=true:=by rfl) (hs:starEach [e] X.env=(false,eval e X.env)::starEach [] X.env:=by rfl) (hplain:(backTo cpos (starEach [] X.env)).any (·.1)=false:=by rfl) :
  JE X (.Call (.Attribute o "join" apos) [e] [] cpos) (wML rvS zeV to tl):=zoB PySem.F.plainAttrs_str PySem.F.slot_str_join PySem.F.type_str_join zku zlh zjv ho ha hbase hfew hline hs hplain
noncomputable def zmK:WMf:=fun w ws S Q=>match w with
 | .str z=>match ws with
  | [.str y]=>match Builtin.Str.occurrences z y 0 z.length 1 with
   |i::_=>Q (.int i) S
   | []=>False
  |_=>False
 |_=>False
end
noncomputable def znz (i:Nat) (g:Int→Int→Int) (e:WE):WS:=fun E D σ S=>match σ[i]? with
 |some (some (.int a))=>e E σ S fun w S1=>match w with
  | .int b=>D.nx (σ.set i (some (.int (g a b)))) S1
  |_=>False
 |_=>False
section
variable {X:Cx}{e:Expr}{te:WE}{pos pos':Pos}
theorem zkm{i:Nat}{x:Str}(hN:X.N.Nodup) (hi:X.N[i]? =some x) (hx:Loc X.env.scope x) (he:JE X e te) (hf:X.fn x=true∨X.env.scope.names.lookup x=some .local:=by first |exact .inl rfl |exact .inr rfl |assumption) :
  JS X (.AugAssign (.Name x pos') .Add e pos) (znz i (fun a b=>a+b) te):=fun E hE=>
 (znR hN hi hx (he E hE) zmL hf).mono fun D σ H ⟨σW,S,DW,hσ,hS,ht,hD⟩=>by
  unfold znz at ht;split at ht
  ·rename_i a ea;obtain⟨v,ev,rv⟩:=hσ.get ea;cases rv;refine⟨_,ev,σW,S,_,hσ,hS,ht,fun w S1 v H1 e1 r1 hS1 h1=>?_⟩;cases r1 with
   |int b=>exact⟨a,b,rfl,rfl,hD.nx _ S1 _ H1 e1 ((hσ.ext e1).set (.int _) i) hS1 h1⟩
   |_=>exact h1.elim
  ·exact ht.elim
end
noncomputable def zkq (c:WT) (b:WS):WS:=fun E D σ S=>∃I:Nat→WSt→Sto→Prop,(∃m,I m σ S)∧ ∀m σ S,I m σ S→c E σ S fun k S1=>if k=true then
 b E { D with nx:=fun σ' S'=>∃m' S'',m'<m∧Sub S'' S'∧I m' σ' S'',ct:=fun σ' S'=>∃m' S'',m'<m∧Sub S'' S'∧I m' σ' S'',bk:=D.nx } σ S1 else D.nx σ S1
section
variable {X:Cx}{c:Expr}{body:List Stmt}{tc:WT}{tb:WS}{pos:Pos}
theorem zjI (hc:JT X c tc) (hb:JSs X body tb):JS X (.While c body [] pos) (zkq tc tb):=fun E hE=>
 (ziK hE.own (hc E hE) (hb E hE)).mono fun D σ H ⟨σW,S,DW,hσ,hS,⟨J,⟨n,ht⟩,step⟩,hD⟩=>by
  refine⟨fun m σ1 H1=>∃σW1 S1,Ext H S H1 S1∧RpSt X.K H1 σW1 σ1∧RepS X.K H1 S1∧J m σW1 S1,⟨n,σW,S, .refl,hσ,hS,ht⟩,?_⟩;rintro m σ1 H1 ⟨σW1,S1,e1,hσ1,hS1,h1⟩;refine⟨σW1,S1,_,hσ1,hS1,step m σW1 S1 h1,fun k S2 H2 e2 hS2 h2=>?_⟩;cases k with
  |false=>exact hD.nx σW1 S2 σ1 H2 (e1.trans e2) (hσ1.ext e2) hS2 h2
  |true=>
   rw [if_pos rfl]at h2⊢;refine⟨fun σ' H'=>∃m',m'<m∧ ∃σW1 S1,Ext H S H' S1∧RpSt X.K H' σW1 σ'∧RepS X.K H' S1∧J m' σW1 S1,fun σ' H' n'=>n',σW1,S2,_,hσ1.ext e2,hS2,h2,?_⟩;have e12:=e1.trans e2;have go:Goes X.K H2 S2 (fun σ' S'=>∃m' S'',m'<m∧Sub S'' S'∧J m' σ' S'') (fun σ' H'=>∃m',m'<m∧ ∃σW1 S1,Ext H S H' S1∧RpSt X.K H' σW1 σ'∧RepS X.K H' S1∧J m' σW1 S1):=fun σW3 S3 σ3 H3 e3 hσ3 hS3 ⟨m',S4,hm,sb,q⟩=>
    ⟨m',hm,σW3,S4,(e12.trans e3).trans (.drop sb),hσ3,hS3.sub sb,q⟩
   exact⟨go,hD.rt.from e12,hD.nx.from e12,go⟩
end
noncomputable def zdF (g:WG) (b:WS) (E:WX) (D:WEnds) (G:Sto→Prop):List W→WSt→Sto→Prop
 | [],σ,S=>D.nx σ S
 |w::ws,σ,S=>g w σ S fun σ1 S1=>b E { D with nx:=fun σ' S'=>∃S'',Sub S'' S'∧G S''∧zdF g b E D G ws σ' S'',ct:=fun σ' S'=>∃S'',Sub S'' S'∧G S''∧zdF g b E D G ws σ' S'',bk:=D.nx } σ1 S1
noncomputable def ziD (q:WI) (g:WG) (b:WS):WS:=fun E D σ S=>q E σ S fun ws G S1=>zdF g b E D G ws σ S1
section
variable {X:Cx}{tg iter:Expr}{body:List Stmt}{q:WI}{g:WG}{tb:WS}{pos:Pos}
theorem zcB (hi:JI X tg iter q) (hg:JG X tg g) (hb:JSs X body tb) (hcl:X.calm=true:=by rfl)
  (hs:∀x,foldedSetIterable iter X.env x=pure x:=by intro _;rfl):JS X (.For tg iter body [] pos) (ziD q g tb):=fun E hE=>
 (zmc hE.own hcl (hi E hE) (hg E hE) (hb E hE) hs).mono fun D σ H ⟨σW,S,DW,hσ,hS,ht,hD⟩=>by
  refine⟨σW,S,_,hσ,hS,ht,fun ws G S1 J H1 e1 hS1 hG1 hJ h1=>?_⟩;refine⟨fun i m σ2 H2=>∃σW2 S2,Ext H1 S1 H2 S2∧RpSt X.K H2 σW2 σ2∧RepS X.K H2 S2∧G S2∧m=ws.length - i∧i≤ws.length∧zdF g tb E DW G (ws.drop i) σW2 S2,
   ⟨ws.length,σW,S1, .refl,hσ.ext e1,hS1,hG1,rfl,Nat.zero_le _,h1⟩,?_⟩
  rintro i m σ2 H2 ⟨σW2,S2,e2,hσ2,hS2,hG2,rfl,hi2,h2⟩;obtain⟨ji,js⟩:=hJ i S2 H2 e2 hS2 hG2;by_cases hlt:i<ws.length
  ·obtain⟨jgo,jy⟩:=ji ws[i] (List.getElem?_eq_getElem hlt);refine .inr ⟨jgo,fun σ' H'=>∃σW2 S2,Ext H1 S1 H' S2∧RpSt X.K H' σW2 σ'∧RepS X.K H' S2∧G S2∧ws.length - (i+1)=ws.length - (i+1)∧i+1≤ws.length∧zdF g tb E DW G (ws.drop (i+1)) σW2 S2,fun σ' H' z=>⟨_,by omega,z⟩,fun x H3 y3=>?_⟩
   obtain⟨e3,hS3,r3⟩:=jy x H3 y3;rw [List.drop_eq_getElem_cons hlt]at h2;refine⟨_,σW2,S2,_,r3,hσ2.ext e3,hS3,h2,fun σW4 S4 σ4 H4 e4 hσ4 hS4 h4=>?_⟩;have e14:Ext H1 S1 H4 S4:=(e2.trans e3).trans e4;refine⟨σW4,S4,_,hσ4,hS4,h4,?_⟩;have go:Goes X.K H4 S4 (fun σ' S'=>∃S'',Sub S'' S'∧G S''∧zdF g tb E DW G (ws.drop (i+1)) σ' S'') (fun σ' H'=>∃σW2 S2,Ext H1 S1 H' S2∧RpSt X.K H' σW2 σ'∧RepS X.K H' S2∧G S2∧ws.length - (i+1)=ws.length - (i+1)∧i+1≤ws.length∧zdF g tb E DW G (ws.drop (i+1)) σW2 S2):=
    fun σW5 S5 σ5 H5 e5 hσ5 hS5 ⟨S6,sb,hG6,q⟩=>⟨σW5,S6,(e14.trans e5).trans (.drop sb),hσ5,hS5.sub sb,hG6,rfl,hlt,q⟩
   exact⟨go,hD.rt.from (e1.trans e14),hD.nx.from (e1.trans e14),go⟩
  ·have hl:i=ws.length:=by omega
   rw [List.drop_of_length_le (Nat.le_of_eq hl.symm)]at h2;exact .inl ⟨js hl,hD.nx σW2 S2 σ2 H2 (e1.trans e2) hσ2 hS2 h2⟩
end
section
variable {X:Cx}{tg:Expr}
noncomputable def zpW (K:PySem.W.Frag) (tl:TE):TI:=fun σ H R=>tl σ H fun x H1=>(∃a,x= .ref a∧(∃xs,SqL K H1 a xs)∧R (Itl K a) H1)∨(∃a,x= .ref a∧(∃xs,SqT K H1 a xs)∧R (Itt K a) H1)∨ ∃z,x= .str z∧R (Its z) H1
theorem znJ{l:Expr}{tl:TE}(hl:PE X l tl):PI X tg l (zpW X.K tl):=by
 intro pins s σ H R I h;refine thn (hl pins s σ H _ I h) fun v s1 ⟨x,H1,I1,r1,q1⟩=>?_;have fp:∀b∈ [s1.heap.objs.size],zfi X pins H1 b:=fun b hb=>by
  have e:b=s1.heap.objs.size:=by simpa using hb
  subst e;exact I1.fpOk (Nat.le_refl _) (I1.hok.fresh (Nat.le_refl _))
 rcases q1 with⟨a,e,⟨xs,hq⟩,q⟩ |⟨a,e,⟨xs,hq⟩,q⟩ |⟨z,e,q⟩
 ·subst e;cases r1;obtain⟨its,rv,p,hz⟩:=I1.list hq;refine wpAny_pyIter_list p.isList ?_;exact⟨s1.heap.objs.size,[s1.heap.objs.size],_,_,H1,rfl,I1.kept (t':=s1.toks) fun b o e=>Heap.get?_push_of_some _ e,zeF a _,⟨_,Heap.get?_push_size _ rfl,rfl,rfl⟩,fp,q⟩
 ·subst e;cases r1;obtain⟨its,rv,p,hz⟩:=I1.tuple hq;refine wpAny_pyIter_tuple (show s1.heap.IsTuple a its.toArray from p) ?_;exact⟨s1.heap.objs.size,[s1.heap.objs.size],_,_,H1,rfl,I1.kept (t':=s1.toks) fun b o e=>Heap.get?_push_of_some _ e,zgL a _,⟨_,Heap.get?_push_size _ rfl,rfl,rfl⟩,fp,q⟩
 ·subst e;obtain⟨t,rfl⟩:=r1;cases ha:z.cps.all (· <128)
  ·refine wpAny_pyIter_wide ha ?_;exact⟨s1.heap.objs.size,[s1.heap.objs.size],_,_,H1,rfl,I1.kept (t':=s1.toks) fun b o e=>Heap.get?_push_of_some _ e,
    zgh _ z t "str_iterator" (by decide) (fun A' hA=>Walks.strWide hA _ z t) (fun _ _ _ _ _ st h=>wpAny_pyIter_striter_wide st h),⟨_,Heap.get?_push_size _ rfl,rfl,rfl⟩,fp,q⟩
  ·refine wpAny_pyIter_ascii ha ?_;exact⟨s1.heap.objs.size,[s1.heap.objs.size],_,_,H1,rfl,I1.kept (t':=s1.toks) fun b o e=>Heap.get?_push_of_some _ e,
    zgh _ z t "str_ascii_iterator" (by decide) (fun A' hA=>Walks.strAscii hA _ z t) (fun _ _ _ _ _ st h=>wpAny_pyIter_striter_ascii st h),⟨_,Heap.get?_push_size _ rfl,rfl,rfl⟩,fp,q⟩
noncomputable def zfm (z:Str):List W:=z.cps.toList.map fun c=> .str ⟨#[c]⟩
noncomputable def wIv (t:WE):WI:=fun E σ S Q=>t E σ S fun w S1=>match w with
 | .tup ws=>Q ws (fun _=>True) S1
 | .ref a=>zaU S1 a fun ws=>Q ws (fun S'=>S' a=some (.lst ws)) S1
 | .scr ns=>Q (ns.map W.int) (fun _=>True) S1
 | .str z=>Q (zfm z) (fun _=>True) S1
 |_=>False
theorem zfz{K:PySem.W.Frag}{a:Addr}{ws:List W}{G:Sto→Prop}{H0:Hp}{S0:Sto}(h:∀S H,Ext H0 S0 H S→RepS K H S→G S→ ∃vs,SqL K H a vs∧Reps K H ws vs):ItW K (Itl K a) ws G H0 S0:=fun i S H e hS hG=>by
 obtain⟨vs,hq,r⟩:=h S H e hS hG;refine⟨fun w ew=>?_,fun hl=>⟨vs,hq,by rw [←r.length,hl];exact Nat.le_refl _⟩⟩
 obtain⟨v,ev,rv⟩:=r.get ew;refine⟨⟨vs,v,hq,ev⟩,fun x H' ⟨e1,e2⟩=>?_⟩;subst e1;have e3:=e2 vs hq;rw [ev]at e3;cases e3;exact⟨.refl,hS,rv⟩
theorem zlW{K:PySem.W.Frag}{a:Addr}{ws:List W}{vs:List V}{H0:Hp}{S0:Sto}(f:H0 a=some (.tup vs)) (r:Reps K H0 ws vs):ItW K (Itt K a) ws (fun _=>True) H0 S0:=fun i S H e hS hG=>by
 have f':=e.tup _ _ f;have r':=r.ext e;refine⟨fun w ew=>?_,fun hl=>⟨vs, .of f',by rw [←r'.length,hl];exact Nat.le_refl _⟩⟩
 obtain⟨v,ev,rv⟩:=r'.get ew;refine⟨⟨vs,v, .of f',ev⟩,fun x H' ⟨e1,e2⟩=>?_⟩;subst e1;have e3:=e2 vs (.of f');rw [ev]at e3;cases e3;exact⟨.refl,hS,rv⟩
theorem zmB{K:PySem.W.Frag}{z:Str}{H0:Hp}{S0:Sto}:ItW K (Its z) (zfm z) (fun _=>True) H0 S0:=fun i S H e hS hG=>by
 unfold zfm;refine⟨fun w ew=>?_,fun hl=>?_⟩
 ·rw [List.getElem?_map]at ew;cases ec:z.cps.toList[i]? with
  |none=>rw [ec]at ew;cases ew
  |some c=>
   rw [ec]at ew;have ew':=Option.some.inj ew;subst ew';have hi:i<z.cps.size:=by
    have:=(List.getElem?_eq_some_iff.mp ec).1;simpa using this
   refine⟨hi,fun x H' ⟨e1,c',e2,e3⟩=>?_⟩;subst e1 e3;have:c'=c:=by
    have q:z.cps.toList[i]? =some c':=by rw [←e2];simp
    rw [ec]at q;exact(Option.some.inj q).symm
   subst this;exact⟨.refl,hS, .str _⟩
 ·show i=z.cps.size;simpa using hl
theorem zbx{l:Expr}{tl:WE}(hl:JE X l tl):JI X tg l (wIv tl):=fun E hE=>
 (znJ (hl E hE)).mono fun σ H R ⟨σW,S,QW,hσ,hS,ht,hR⟩=>⟨σW,S,_,hσ,hS,ht,fun w S1 v H1 e1 r1 hS1 h1=>by
  cases r1 with
  |tup f hs=>exact .inr (.inl ⟨_,rfl,⟨_, .of f⟩,hR _ _ S1 _ H1 e1 hS1 trivial (zlW f hs) h1⟩)
  |ref a=>
   obtain⟨ws,ea,h⟩:=zaH h1;obtain⟨vs,f,hs⟩:=hS1 a _ ea;refine .inl ⟨_,rfl,⟨_, .of f⟩,hR _ _ S1 _ H1 e1 hS1 ea (zfz fun S2 H2 e2 hS2 g2=>?_) h⟩;obtain⟨vs2,f2,hs2⟩:=hS2 a _ g2;exact⟨vs2, .of f2,hs2⟩
  |scr f=>exact .inl ⟨_,rfl,⟨_,f.sq⟩,hR _ _ S1 _ H1 e1 hS1 trivial (zfz fun S2 H2 e2 hS2 g2=>⟨_,(e2.fz f).sq,Reps.ofInts _⟩) h1⟩
  |str z=>exact .inr (.inr ⟨z,rfl,hR _ _ S1 _ H1 e1 hS1 trivial zmB h1⟩)
  |_=>exact h1.elim⟩
noncomputable def wIl (t:WL):WI:=fun E σ S Q=>t E σ S fun ws S1=>Q ws (fun _=>True) S1
theorem zmP{l:Expr}{tl:WL}(hl:JL X l tl):JI X tg l (wIl tl):=fun E hE=>
 (zld (hl E hE)).mono fun σ H R ⟨σW,S,QW,hσ,hS,ht,hR⟩=>⟨σW,S,_,hσ,hS,ht,fun ws S1 vs a H1 e1 fa ea na r1 hS1 h1=>
  ⟨a,rfl,⟨vs, .of ea⟩,hR _ _ S1 _ H1 e1 hS1 trivial (zfz fun S2 H2 e2 hS2 g2=>⟨vs, .of (e2.fr a _ ea na).1,r1.ext e2⟩) h1⟩⟩
noncomputable def zhJ (lo:Int) (n:Nat):List W:=(List.range n).map fun(i:Nat)=> .int (lo+(i:Int))
theorem zmD{K:PySem.W.Frag}{lo:Int}{n:Nat}{H0:Hp}{S0:Sto}:ItW K (Itr lo n) (zhJ lo n) (fun _=>True) H0 S0:=fun i S H e hS hG=>by
 unfold zhJ;refine⟨fun w ew=>?_,fun hl=>by
  have:i=n:=by simpa using hl
  exact Nat.le_of_eq this.symm⟩
 rw [List.getElem?_map]at ew;by_cases hi:i<n
 ·rw [List.getElem?_range hi]at ew;have ew':=Option.some.inj ew;subst ew';refine⟨hi,fun x H' ⟨e1,e2⟩=>?_⟩;subst e1 e2;exact⟨.refl,hS, .int _⟩
 ·rw [List.getElem?_eq_none (by simpa using hi)]at ew;cases ew
noncomputable def zlR (t:WA):WI:=fun E σ S Q=>t E σ S fun ws S1=>match ws with
 | [.int j]=>(-(2 ^ 62)≤j∧j<2 ^ 62)∧Q (zhJ 0 j.toNat) (fun _=>True) S1
 |_=>False
theorem zcg{a:Expr}{ta:WA}{p pos:Pos}(hg:Gl X "range") (hm:X.mg "range" =none) (ha:JA X [a] ta) (hs:starEach [a] X.env=[(false,eval a X.env)]:=by rfl):JI X tg (.Call (.Name "range" p) [a] [] pos) (zlR ta):=fun E hE=>
 (ziw hg hm (ha E hE) hs).mono fun σ H R ⟨σW,S,QW,hσ,hS,ht,hR⟩=>⟨σW,S,_,hσ,hS,ht,fun ws S1 vs H1 e1 r1 hS1 h1=>by
  cases r1 with
  |nil=>exact h1.elim
  |cons r2 r3=>
   cases r3 with
   |cons _ _=>cases r2<;>exact h1.elim
   |nil=>
    cases r2 with
    |int j=>exact⟨j,rfl,h1.1.1,h1.1.2,hR _ _ S1 _ H1 e1 hS1 trivial zmD h1.2⟩
    |_=>exact h1.elim⟩
end
noncomputable def zfq:WT:=fun _ _ S Q=>Q true S
noncomputable def JTs (X:Cx) (ifs:List Expr) (t:WT):Prop:=∀E,Hook X E→PTs X ifs (zlw X.K (t E))
theorem zaZ{X:Cx}:JTs X [] zfq:=fun E hE pins s σ H Q I ⟨σW,S,QW,hσ,hS,ht,hQ⟩=>zkF pins s σ H Q I (hQ true S H .refl hS ht)
noncomputable def zdt (g:WG) (c:WT) (e:WE) (E:WX) (G:Sto→Prop) (Q:List W→Sto→Prop):List W→List W→WSt→Sto→Prop
 | [],acc,_,S=>Q acc S
 |w::ws,acc,σ,S=>g w σ S fun σ1 S1=>c E σ1 S1 fun b S2=>if b=true then e E σ1 S2 fun y S3=>acc.length<sizeLine∧ ∃S4,Sub S4 S3∧G S4∧zdt g c e E G Q ws (acc++[y]) σ1 S4
   else ∃S4,Sub S4 S2∧G S4∧zdt g c e E G Q ws acc σ1 S4
noncomputable abbrev noE:WX:=fun _ _ _=>False
theorem zfs{X:Cx}(h:X.xe=fun _ _=>False):Hook X noE:=⟨by rw [h];exact PassesOwn.never,fun _ _ _ _ _ _ _ _ _ _ _ _ _ _ _ _ _ _ _ _ z=>z.elim,fun _ _ _ _ _ _ _ _ _ _ _ _ _ _ _ _ z=>z.elim⟩
theorem PS.nox{X:Cx}{st:Stmt}{t:TS}(h:PS X.nox st t):PS X st t:=fun pins s σ H D I hw=>
 wpAny_mono (h pins s σ H D (I.wish _) hw) (fun _ _ q=>q.unwish) fun _ _ z=>False.elim z
noncomputable def zbV (k:Nat) (fr:List Nat) (q:WI) (g:WG) (c:WT) (e:WE):WL:=fun _ σ S Q=>q noE σ S fun ws G S1=>zdt g c e noE G Q ws [] (List.replicate k none++fr.map fun j=>(σ[j]?).join) S1
theorem zgI{K:PySem.W.Frag}{H:Hp}{σW:WSt}{σ:St}{k:Nat}{fr:List Nat}(h:RpSt K H σW σ):RpSt K H (List.replicate k none++fr.map fun j=>(σW[j]?).join) (zfM σ k fr):=by
 have one:∀j:Nat,RpO K H (σW[j]?).join (σ[j]?).join:=fun j=>by
  cases e:σW[j]? with
  |none=>exact trivial
  |some w=>
   cases w with
   |none=>exact trivial
   |some w=>
    obtain⟨v,ev,r⟩:=h.get e;rw [ev];exact r
 have go:∀fr:List Nat,RpSt K H (fr.map fun j=>(σW[j]?).join) (zcW σ fr):=by
  intro fr
  induction fr with
  |nil=>exact .nil
  |cons j fr ih=>exact .cons (one j) ih
 unfold zfM
 induction k with
 |zero=>exact go fr
 |succ k ih=>exact .cons trivial ih
section
variable {X:Cx}{scope:Scope}{N:List Str}{k:Nat}{fr:List Nat}{tg iter elt:Expr}{ifs:List Expr}{pos:Pos}{q:WI}{g:WG}{c:WT}{e:WE}
theorem Ext.loose{H H':Hp}(a:∀b xs,H b=some (.tup xs)→H' b=some (.tup xs)) (b:∀c o u,H c=some (.frz o u)→H' c=some (.frz o u)) (d:∀b o,H b=some o→ ∃o',H' b=some o'):Ext H (fun _=>some (.lst [])) H' (fun _=>some (.lst [])):=
 ⟨a,b,(fun _ _ _ g=>nomatch g),d⟩
theorem Ext.over{H H':Hp}{S S':Sto}{l:Addr}{o:HO}(e:Ext H S H' S') (h:H l=none):Ext H S (upd H' l o) S':=
 ⟨fun b xs q=>by rw [zan (zal q h)];exact e.tup b xs q,fun b ob u q=>by rw [zan (zal q h)];exact e.frz b ob u q,fun b ob q z=>by rw [zan (zal q h)];exact e.fr b ob q z,fun b ob q=>by rw [zan (zal q h)];exact e.all b ob q⟩
theorem zej (hg:∀s₀ H₀ fp pn,JG (zaB X scope N s₀ H₀ fp pn) tg g) (hc:∀s₀ H₀ fp pn,JTs (zaB X scope N s₀ H₀ fp pn) ifs c) (he:∀s₀ H₀ fp pn,JE (zaB X scope N s₀ H₀ fp pn) elt e)
  {E:WX}(σ:St) (H:Hp) (Q:VK):zmg X.K (zbV k fr q g c e E) σ H Q→zjD X scope N k fr tg ifs elt (zmf X.K (q noE)) σ H Q:=fun⟨σW,S0,QW,hσ,hS,ht,hQ⟩=>by
  refine⟨σW,S0,_,hσ,hS,ht,fun ws G S1 J H1 e1 hS1 hG1 hJ h1 l hl=>?_⟩;have upl:∀{H':Hp}{vs us:List V}{S':Sto},H' l=some (.lst vs)→S' l=none→RepS X.K H' S'→Ext H' (fun _=>some (.lst [])) (upd H' l (.lst us)) (fun _=>some (.lst []))∧RepS X.K (upd H' l (.lst us)) S':=fun {H' vs us S'} f n hS'=>by
   have x:Ext H' (fun _=>some (.lst [])) (upd H' l (.lst us)) (fun _=>some (.lst [])):= .loose (fun b xs q=>by rw [zan (zjU q f fun z=>nomatch z)];exact q) (fun b o u q=>by rw [zan (zjU q f fun z=>nomatch z)];exact q) fun b o q=>by
    by_cases hb:b=l
    ·subst hb;exact⟨_,zas⟩
    ·exact⟨o,by rw [zan hb];exact q⟩
   refine⟨x,fun a o q=>(hS' a o q).keep x fun u z=>?_⟩;have ha:a≠l:=by rintro rfl;rw [n]at q;cases q
   rw [zan ha];exact z
  refine⟨fun i m σ' H'=>∃σW' S' acc vs,Ext H1 S1 H' S'∧H' l=some (.lst vs)∧S' l=none∧Reps X.K H' acc vs∧RpSt X.K H' σW' σ'∧RepS X.K H' S'∧G S'∧m=ws.length - i∧i≤ws.length∧zdt g c e noE G QW (ws.drop i) acc σW' S',
   ⟨ws.length,_,S1,[],[], .new hl,zas,hS1.free hl, .nil,zgI (hσ.ext (e1.trans (.new (S:=S1) hl))),hS1.new hl,hG1,rfl,Nat.zero_le _,h1⟩,?_⟩
  rintro i m σ' H' ⟨σW',S',acc,vs,e2,f2,n2,ra,hσ2,hS2,hG2,rfl,hi2,h2⟩;obtain⟨ji,js⟩:=hJ i S' H' e2 hS2 hG2;by_cases hlt:i<ws.length
  ·obtain⟨jgo,jy⟩:=ji ws[i] (List.getElem?_eq_getElem hlt);refine .inr ⟨jgo,fun σ'' H''=>∃σW' S' acc vs,Ext H1 S1 H'' S'∧H'' l=some (.lst vs)∧S' l=none∧Reps X.K H'' acc vs∧RpSt X.K H'' σW' σ''∧RepS X.K H'' S'∧G S'∧ws.length - (i+1)=ws.length - (i+1)∧i+1≤ws.length∧zdt g c e noE G QW (ws.drop (i+1)) acc σW' S',
    fun σ'' H'' z=>⟨_,by omega,z⟩,fun x H3 y3=>?_⟩
   obtain⟨e3,hS3,r3⟩:=jy x H3 y3;rw [List.drop_eq_getElem_cons hlt]at h2;intro s₀ H₀ fp pn;have hk:Hook (zaB X scope N s₀ H₀ fp pn) noE:=zfs rfl;refine⟨_,_,_,hg s₀ H₀ fp pn noE hk,hc s₀ H₀ fp pn noE hk,he s₀ H₀ fp pn noE hk,?_⟩;refine⟨_,σW',S',_,r3,hσ2.ext e3,hS3,h2,fun σW4 S4 σ4 H4 e4 hσ4 hS4 h4=>?_⟩;refine⟨σW4,S4,_,hσ4,hS4,h4,fun b S5 H5 e5 hS5 h5=>?_⟩;have e15:Ext H' S' H5 S5:=(e3.trans e4).trans e5;have hσ5:=hσ4.ext e5;obtain⟨f5,n5⟩:=e15.fr l _ f2 n2;cases b with
   |false=>
    have h5:∃S4,Sub S4 S5∧G S4∧zdt g c e noE G QW (ws.drop (i+1)) acc σW4 S4:=h5;refine zpX ?_;obtain⟨S6,sb,hG6,h6⟩:=h5;have e16:=e15.trans (.drop sb);exact⟨σW4,S6,acc,vs,e2.trans e16,f5,(e16.fr l _ f2 n2).2,ra.ext e15,hσ5,hS5.sub sb,hG6,rfl,hlt,h6⟩
   |true=>
    rw [if_pos rfl]at h5;refine zpJ ?_;refine⟨σW4,S5,_,hσ5,hS5,h5,fun y S6 v H6 e6 r6 hS6 h6=>?_⟩;have e17:=e15.trans e6;obtain⟨f6,n6⟩:=e17.fr l _ f2 n2;obtain⟨hz,S7,sb,hG7,h7⟩:=h6;obtain⟨x6,hS6'⟩:=upl (us:=vs++[v]) f6 n6 hS6;have ra6:Reps X.K H6 (acc++[y]) (vs++[v]):=(ra.ext e17).append (.one r6);refine⟨vs,f6,by rw [←ra.length];exact hz,σW4,S7,acc++[y],vs++[v],?_,zas,((e17.trans (.drop sb)).fr l _ f2 n2).2,ra6.ext x6,(hσ5.ext e6).ext x6,hS6'.sub sb,hG7,rfl,hlt,h7⟩
    exact(e2.trans (e17.trans (.drop sb))).over hl
  ·have hll:i=ws.length:=by omega
   rw [List.drop_of_length_le (Nat.le_of_eq hll.symm)]at h2;exact .inl ⟨js hll,hQ acc S' vs l H' (e1.trans e2) (e1.free hl) f2 n2 ra hS2 h2⟩
theorem zbX (S:CompSc X.nox scope N k fr) (hi:JI X.nox tg iter q) (hg:∀s₀ H₀ fp pn,JG (zaB X.nox scope N s₀ H₀ fp pn) tg g) (hc:∀s₀ H₀ fp pn,JTs (zaB X.nox scope N s₀ H₀ fp pn) ifs c) (he:∀s₀ H₀ fp pn,JE (zaB X.nox scope N s₀ H₀ fp pn) elt e)
  (hs:∀x,foldedSetIterable iter X.env x=pure x:=by intro _;rfl) (hcl:X.calm=true:=by rfl):JL X (.ListComp elt [⟨tg,iter,ifs,0⟩] scope pos) (zbV k fr q g c e):=fun E hE=>
 (PE.nox (zkH rfl hcl S (hi noE (zfs rfl)) hs)).mono (zej (X:=X.nox) hg hc he)
theorem zdV{i:Nat}{x:Str}{pos' spos:Pos}(hN:X.N.Nodup) (hxi:X.N[i]? =some x) (hxl:Loc X.env.scope x) (S:CompSc X.nox scope N k fr) (hi:JI X.nox tg iter q) (hg:∀s₀ H₀ fp pn,JG (zaB X.nox scope N s₀ H₀ fp pn) tg g) (hc:∀s₀ H₀ fp pn,JTs (zaB X.nox scope N s₀ H₀ fp pn) ifs c) (he:∀s₀ H₀ fp pn,JE (zaB X.nox scope N s₀ H₀ fp pn) elt e)
  (hw:swapsWith (.ListComp elt [⟨tg,iter,ifs,0⟩] scope pos) (some (.Name x pos')) spos.line X.env=pure true:=by rfl) (hf:X.fn x=true∨X.env.scope.names.lookup x=some .local:=by first |exact .inl rfl |exact .inr rfl |assumption)
  (hs:∀x,foldedSetIterable iter X.env x=pure x:=by intro _;rfl) (hcl:X.calm=true:=by rfl):JS X (.Assign [.Name x pos'] (.ListComp elt [⟨tg,iter,ifs,0⟩] scope pos) spos) (wAsg (zdn (zbV k fr q g c e)) (wGN i)):=fun E hE=>
 (PS.nox (zly (X:=X.nox) rfl hcl S (hi noE (zfs rfl)) hN hxi hxl hw hf hs)).mono fun D σ H ⟨σW,S0,DW,hσ,hS,ht,hD⟩=>
  zej (X:=X.nox) (E:=E) hg hc he σ H _ ⟨σW,S0,_,hσ,hS,ht,fun ws S1 vs a H1 e1 fa ea na r1 hS1 h1=>by
   have ex:Ext H S0 H1 (put S1 a (.lst ws)):=⟨e1.tup,e1.frz,fun b o q g=>by
    have hb:b≠a:=by rintro rfl;rw [fa]at q;cases q
    rw [zbg hb];exact e1.fr b o q g,e1.all⟩
   refine hD.nx _ (put S1 a (.lst ws)) _ H1 ex ((hσ.ext ex).set (.ref a) i) (fun b o q=>?_) (h1 a na);by_cases hb:b=a
   ·subst hb;rw [zaj]at q;cases q;exact⟨vs,ea,r1⟩
   ·rw [zbg hb]at q;exact hS1 b o q⟩
end
section
noncomputable def zpy:W→Sto→(List W→(Sto→Prop)→Prop)→Prop
 | .tup ws,_,Q=>Q ws fun _=>True
 | .ref a,S,Q=>zaU S a fun ws=>Q ws fun S'=>S' a=some (.lst ws)
 | .scr ns,_,Q=>Q (ns.map W.int) fun _=>True
 |_,_,_=>False
end
section
noncomputable def znD (hi:Int) (n:Nat):List W:=(List.range n).map fun(i:Nat)=> .int (hi - (i:Int))
noncomputable def zqm (t:WA):WI:=fun E σ S Q=>t E σ S fun ws S1=>match ws with
 | [.int i, .int j, .int c]=>c= -1∧(-(2 ^ 62)≤i∧i<2 ^ 62∧ -(2 ^ 62)≤j∧j<2 ^ 62)∧Q (znD i (i - j).toNat) (fun _=>True) S1
 |_=>False
end
section
variable {X:Cx}{e:Expr}{es:List Expr}{t:WA}{p pos:Pos}
noncomputable def zno:WF:=fun ws S Q=>match ws with
 | [.int i]=>Q (.int i) S
 | [.bl b]=>Q (.int (if b then 1 else 0)) S
 |_=>False
theorem zhl{K:PySem.W.Frag}:zir K (fun xs H Q=>(∃i,xs=[.int i]∧Q (.int i) H)∨ ∃k,xs=[.bl k]∧Q (.int (if k then 1 else 0)) H) zno:=fun H vs ws S Q QW r hS h hQ=>by
 cases r with
 |nil=>exact h.elim
 |cons r1 r2=>
  cases r2 with
  |cons _ _=>cases r1<;>exact h.elim
  |nil=>
   cases r1 with
   |int i=>exact .inl ⟨i,rfl,hQ _ S _ H .refl (.int _) hS h⟩
   |bl b=>exact .inr ⟨b,rfl,hQ _ S _ H .refl (.int _) hS h⟩
   |_=>exact h.elim
theorem zkY (hg:Gl X "int") (hm:X.mg "int" =none) (ha:JA X (e::es) t)
  (he:starEach (e::es) X.env=(false,eval e X.env)::starEach es X.env:=by rfl) (hpl:(backTo pos (starEach es X.env)).any (·.1)=false:=by rfl):JE X (.Call (.Name "int" p) (e::es) [] pos) (wB zno t):=
 zmp zhv zhl hg hm PyProof.Rows.boot_int ha (by decide) (by decide) he hpl
noncomputable def zoU:WF:=fun ws S Q=>match ws with
 | [.int i, .int j]=>Q (.int (if j > i then j else i)) S
 |_=>False
noncomputable def zoe:WF:=fun ws S Q=>match ws with
 | [.int i, .int j]=>Q (.int (if j<i then j else i)) S
 |_=>False
theorem zeQ{tl:WL}(hg:Gl X "tuple") (hm:X.mg "tuple" =none) (ha:JL X e tl)
  (he:starEach [e] X.env=(false,eval e X.env)::starEach [] X.env:=by rfl) (hpl:(backTo pos (starEach [] X.env)).any (·.1)=false:=by rfl):JE X (.Call (.Name "tuple" p) [e] [] pos) (wBL zdk tl):=zmA zcl zfv hg hm PyProof.Rows.boot_tuple ha (by decide) (by decide) he hpl
theorem zfU (hg:Gl X "tuple") (hm:X.mg "tuple" =none) (ha:JA X (e::es) t)
  (he:starEach (e::es) X.env=(false,eval e X.env)::starEach es X.env:=by rfl) (hpl:(backTo pos (starEach es X.env)).any (·.1)=false:=by rfl):JE X (.Call (.Name "tuple" p) (e::es) [] pos) (wB zdD t):=zmp zcl zfB hg hm PyProof.Rows.boot_tuple ha (by decide) (by decide) he hpl
end
theorem znZ{K:PySem.W.Frag}:∀T∈ ["int", "bool", "str", "tuple", "list"],∀A∈ ["NoneType", "bool", "int", "str", "tuple", "list"],PySem.W.kitOne K (.type A) (.type T)=some (zaJ A T):=by
 intro T hT A hA;simp only[List.mem_cons,List.not_mem_nil,or_false]at hT hA;rcases hT with rfl |rfl |rfl |rfl |rfl<;>rcases hA with rfl |rfl |rfl |rfl |rfl |rfl<;>rfl
theorem gl0:∀(ws:List W) (σ:WSt) (S:Sto) (P:WSt→Sto→Prop),zhS ws σ S P→ws.length=0:=fun ws σ S P h=>by
 cases ws with
 |nil=>rfl
 |cons _ _=>exact h.elim
theorem glS{i n:Nat}{u:WGs}(h:∀(ws:List W) (σ:WSt) (S:Sto) (P:WSt→Sto→Prop),u ws σ S P→ws.length=n):∀(ws:List W) (σ:WSt) (S:Sto) (P:WSt→Sto→Prop),zdC (wGN i) u ws σ S P→ws.length=n+1:=fun ws σ S P q=>by
 cases ws with
 |nil=>exact q.elim
 |cons w ws=>exact congrArg (· +1) (h _ _ _ _ q)
noncomputable def zbF:WSp:=fun _ _ _ _=>False
theorem zmV{P:Program}{w:World}{K:PySem.W.Frag}{mg:Str→Option Value}{base:Heap}{f:Addr}{fd:FuncData}{ps:List Str}{k:Nat}:FnOk P w K mg base (CX1 P w) k f fd ps (zaS K zbF):=
 ⟨fun vs H Q E ⟨_,_,_,_,_,_,h,_⟩=>h.elim,fun A outer s H args us vs Q E _ _ _ _ ⟨_,_,_,_,_,_,h,_⟩=>h.elim⟩
section
variable {X:Cx}{a b:Expr}{pos:Pos}{ta tb:WE}{la lb:WL}
noncomputable def zpk (t:WL) (u:WE):WE:=fun E σ S Q=>t E σ S fun ws S1=>u E σ S1 fun y S2=>match y with
 | .int i=>match atI ws i with
  |some w=>Q w S2
  |none=>False
 |_=>False
theorem znp (ha:JL X a la) (hb:JE X b tb) (hs:zfp b:=by intro _ _;rfl):JE X (.Subscript a b pos) (zpk la tb):=fun E hE=>
 (zml zka (ha E hE) (hb E hE) hs).mono fun σ H Q ⟨σW,S,QW,hσ,hS,ht,hQ⟩=>⟨σW,S,_,hσ,hS,ht,fun ws S1 vs p H1 e1 fp ep np r1 hS1 h1=>⟨σW,S1,_,hσ.ext e1,hS1,h1,fun y S2 v2 H2 e2 r2 hS2 h2=>by
  cases r2 with
  |int i=>
   dsimp only at h2;split at h2
   ·obtain⟨v,ev,r⟩:=zfw (r1.ext e2) ‹_›;exact .inl ⟨p,vs,i,v,rfl,rfl, .of (e2.fr p _ ep np).1,ev,hQ _ S2 _ H2 (e1.trans e2) r hS2 h2⟩
   ·exact h2.elim
  |_=>exact h2.elim⟩⟩
noncomputable def zkS (t:WE) (u:WL):WL:=fun E σ S Q=>t E σ S fun x S1=>u E σ S1 fun ys S2=>match x with
 | .ref a=>zaU S2 a fun xs=>xs.length+ys.length≤sizeLine∧Q (xs++ys) S2
 |_=>False
noncomputable def zlp (t u:WL):WL:=fun E σ S Q=>t E σ S fun xs S1=>u E σ S1 fun ys S2=>xs.length+ys.length≤sizeLine∧Q (xs++ys) S2
theorem zlP (ha:JE X a ta) (hb:JL X b lb):JL X (.BinOp a .Add b pos) (zkS ta lb):=fun E hE=>
 (zln zim (ha E hE) (hb E hE)).mono fun σ H Q ⟨σW,S,QW,hσ,hS,ht,hQ⟩=>⟨σW,S,_,hσ,hS,ht,fun w1 S1 v1 H1 e1 r1 hS1 h1=>⟨σW,S1,_,hσ.ext e1,hS1,h1,fun ys S2 us q H2 e2 fq eq nq r2 hS2 h2=>by
  cases r1 with
  |ref p=>
   obtain⟨xs,ea,h⟩:=zaH h2;obtain⟨vs,f1,q1⟩:=hS2 p _ ea;exact⟨p,q,vs,us,rfl,rfl,f1,eq,by rw [←q1.length,←r2.length];exact h.1,fun p hp=>hQ _ S2 _ p _ ((e1.trans e2).trans (.new hp)) ((e1.trans e2).free hp) zas (hS2.free hp) ((q1.append r2).ext (.new (S:=S2) hp)) (hS2.new hp) h.2⟩
  |_=>exact h2.elim⟩⟩
theorem zlS (ha:JL X a la) (hb:JL X b lb):JL X (.BinOp a .Add b pos) (zlp la lb):=fun E hE=>
 (zln zim (ha E hE) (hb E hE)).mono fun σ H Q ⟨σW,S,QW,hσ,hS,ht,hQ⟩=>⟨σW,S,_,hσ,hS,ht,fun xs S1 vs p H1 e1 fp ep np r1 hS1 h1=>⟨σW,S1,_,hσ.ext e1,hS1,h1,fun ys S2 us q H2 e2 fq eq nq r2 hS2 h2=>
  ⟨p,q,vs,us,rfl,rfl,(e2.fr p _ ep np).1,eq,by rw [←r1.length,←r2.length];exact h2.1,fun z hz=>hQ _ S2 _ z _ ((e1.trans e2).trans (.new hz)) ((e1.trans e2).free hz) zas (hS2.free hz) (((r1.ext e2).append r2).ext (.new (S:=S2) hz)) (hS2.new hz) h2.2⟩⟩⟩
theorem Reps.rep{K:PySem.W.Frag}{H:Hp}{ws:List W}{vs:List V}(h:Reps K H ws vs):∀k:Nat,Reps K H (List.replicate k ws).flatten (List.replicate k vs).flatten
 |0=> .nil
 |k+1=>by
  rw [List.replicate_succ,List.replicate_succ,List.flatten_cons,List.flatten_cons];exact h.append (Reps.rep h k)
end
theorem zjf{K:PySem.W.Frag}{H:Hp}{a:Addr}{ns:List Int}{c:WSp}{E:XK}(hO:zoa H) (hS:SqL K H a (ns.map V.int)) (h:c [.scr ns] (fun _=>none) (fun w _=>w= .bl true) (fun _ _=>False)):zaS K c [.ref a] H (fun v _=>v= .bl true) E:=by
 have fz:FzL K H a (ns.map V.int):=by
  rcases hS with(hS |⟨o,hS⟩) |hS
  ·rcases hO a with z |⟨o,xs,z⟩
   ·rw [hS]at z;cases z
   ·rw [hS]at z;cases z
  ·exact .inl ⟨o,hS⟩
  ·exact .inr hS
 refine⟨[.scr ns],fun _=>none,_,fun _ _=>False, .one (.scr fz),(fun a o e=>by cases e),h,fun w S v H' e r hS' q=>?_,fun _ _ _ _ _ _ z=>z.elim⟩
 subst q;cases r;rfl
section
variable {X:Cx}{a b:Expr}{p pos:Pos}
noncomputable def ziZ:W2
 | .tup xs, .int k,S,Q=>(xs≠ []∧ -(2 ^ 63)≤k∧k<2 ^ 63∧xs.length*k.toNat≤sizeLine)∧Q (.tup (List.replicate k.toNat xs).flatten) S
 |_,_,_,_=>False
theorem zjL{K:PySem.W.Frag}:OpW K (zmN K) ziZ:=fun H x y wx wy S Q QW rx ry hS h hQ=>by
 cases rx with
 | @tup a vs ws f hs=>
  cases ry with
  |int k=>
   obtain⟨⟨h0,h1,h2,h3⟩,h⟩:=h;have hl:=hs.length;refine⟨a,k,vs,rfl,rfl, .of f,?_,h1,h2,by rw [←hl];exact h3,fun hk=>?_,fun hk p hp=>?_⟩
   ·rintro rfl;cases hs;exact h0 rfl
   ·subst hk;have:(List.replicate (Int.toNat 1) ws).flatten=ws:=by simp
    rw [this]at h;exact hQ _ S _ H .refl (.tup f hs) hS h
   ·exact hQ _ S _ _ (.new hp) (.tup zas ((hs.rep k.toNat).ext (.new (S:=S) hp))) (hS.new hp) h
  |_=>exact h.elim
 |_=>cases ry<;>exact h.elim
theorem zkA{ta tb:WE}(ha:JE X a ta) (hb:JE X b tb):JE X (.BinOp a .Mult b pos) (wOp ziZ ta tb):=zfH zlB zjL ha hb
end
noncomputable def zbq:List W→Option (List Int)
 | []=>some []
 | .int i::ws=>(zbq ws).map (i:: ·)
 |_=>none
section
variable {K:PySem.W.Frag}{H:Hp}
noncomputable abbrev RepD (K:PySem.W.Frag) (H:Hp):List (List Int×W)→List (List Key×V)→Prop:=Paired fun q p=>p.1=q.1.map Sum.inl∧Rep K H q.2 p.2
theorem RepD.length{kvs:List (List Int×W)}{ps:List (List Key×V)}(r:RepD K H kvs ps):kvs.length=ps.length:=Paired.length r
end
section
variable {X:Cx}{o e:Expr}{to:WE}{tl:WL}{apos cpos p pos:Pos}
noncomputable def zkc:V→List V→Hp→VK→Prop:=fun x vs H Q=>∃z:Str,x= .str z∧vs=[]∧z.length≤5592405∧Q (.str (Txt.upper z)) H
theorem zjd:MtR X "str.upper" zkc:=by
 intro pins s σ H x vs v us Q I rx rv h;obtain⟨z,rfl,rfl,hz,q⟩:=h;obtain⟨t,rfl⟩:=rx;cases rv;exact SCL.upper hz fun _=>⟨.str (Txt.upper z),H,I.tok _,⟨_,rfl⟩,q⟩
noncomputable def zfP:WMf:=fun w ws S Q=>match w,ws with
 | .str z,[]=>z.length≤5592405∧Q (.str (Txt.upper z)) S
 |_,_=>False
theorem zhN{K:PySem.W.Frag}:MtW K zkc zfP:=fun H x w vs ws S Q QW r rs hS h hQ=>by
 cases r with
 |str z=>
  cases rs with
  |nil=>exact⟨z,rfl,rfl,h.1,hQ _ S _ H .refl (.str _) hS h.2⟩
  |cons _ _=>exact h.elim
 |_=>exact h.elim
theorem ziX (ho:JE X o to) (hbase:attributeBase o "upper" X.env (eval o X.env)=eval o X.env:=by rfl) (hline:(apos.endLine == cpos.line)=true:=by rfl):JE X (.Call (.Attribute o "upper" apos) [] [] cpos) (wM rvS zfP to waNil):=
 zoj PySem.F.plainAttrs_str PySem.F.slot_str_upper PySem.F.type_str_upper zku zjd zhN ho hbase hline
theorem zcU:∀(ns:List Int) (n:Nat),n≤ns.length→preSum (fun i=>ns.getD i 0) n=(ns.take n).sum
 |ns,0,_=>by simp [preSum]
 |ns,n+1,h=>by
  rw [preSum,zcU ns n (by omega),List.take_succ,List.sum_append];congr 1;rw [List.getD_eq_getElem?_getD,List.getElem?_eq_getElem (by omega)];simp
theorem zho (hc:X.calm=true):CallR X (.builtin "sum") (fun xs H Q=>∃(p:Addr) (ns:List Int),xs=[.ref p]∧SqL X.K H p (ns.map V.int)∧Q (.int ns.sum) H):=by
 intro pins s σ H xs us Q I r h;obtain⟨p,ns,rfl,hq,q⟩:=h;obtain⟨u,rfl,rx⟩:=zfu r;cases rx;obtain⟨its,r',pl,hz⟩:=I.list hq;have hlen:ns.length=its.length:=by have:=r'.length;rw [List.length_map]at this;exact this
 have hp:p<s.heap.objs.size:=by obtain⟨o,n,e,_⟩:=pl;exact Heap.lt_size e
 have hd:X.A.in1.handled=none:=I.ok.hd hc;have get:∀(i:Nat) (v:Value),its.toArray[i]? =some v→ ∃t,v= .int (ns.getD i 0) t:=fun i v e=>by
  have e':its[i]? =some v:=by simpa using e
  have hi:i<ns.length:=by rw [hlen];exact(List.getElem?_eq_some_iff.mp e').1
  obtain⟨u,hu,ru⟩:=r'.get (i:=i) (x:= .int (ns.getD i 0)) (by rw [List.getElem?_map,List.getElem?_eq_getElem hi,List.getD_eq_getElem?_getD,List.getElem?_eq_getElem hi];rfl);rw [e']at hu;cases hu;exact ru
 refine call_sum_walkG (wpAny_pyIter_list pl.isList ?_);refine⟨s.heap.objs.size,_,_,_,_,_,fun i=>ns.getD i 0,rfl,Walks.list hd _ p (Nat.ne_of_lt hp) its.toArray,⟨⟨_,Heap.get?_push_size _ rfl,rfl,rfl⟩,pl.isList.push _⟩,?_,fun i v hP=>get i v hP,fun h' tk t' hk=>?_⟩
 ·intro b hb;have hsz:∀o:Obj,(s.heap.push o).objs.size=s.heap.objs.size+1:=fun o=>Heap.size_push ..;simp only[List.mem_cons,List.not_mem_nil,or_false]at hb;show b<(s.heap.push _).objs.size;rw [hsz];rcases hb with rfl |rfl
  ·exact Nat.lt_succ_self _
  ·exact Nat.lt_succ_of_lt hp
 ·have e:preSum (fun i=>ns.getD i 0) its.toArray.size=ns.sum:=by
   rw [List.size_toArray,←hlen,zcU ns _ (Nat.le_refl _),List.take_length]
  have I1:Inv X pins σ H { s with heap:=h',toks:=tk }:=I.kept fun b o e=>hk b o (fun z=>by
   have z':b=s.heap.objs.size:=by simpa using z
   rw [z']at e;exact absurd (Heap.lt_size e) (Nat.lt_irrefl _)) (Heap.get?_push_of_some _ e)
  exact⟨.int _,H,I1,⟨t',by rw [e]⟩,q⟩
noncomputable def zgJ:WF:=fun ws S Q=>match zbq ws with
 |some ns=>Q (.int ns.sum) S
 |none=>False
theorem zce{K:PySem.W.Frag}{H:Hp}:∀{ws:List W}{vs:List V}{ns:List Int},Reps K H ws vs→zbq ws=some ns→vs=ns.map V.int
 | [],_,_, .nil,e=>by cases e;rfl
 |w::ws,_,ns, .cons r rs,e=>by
  cases r with
  |int i=>
   cases q:zbq ws with
   |none=>simp [zbq,q]at e
   |some ks=>
    simp only[zbq,q,Option.map_some,Option.some.injEq]at e;subst e;rw [zce rs q];rfl
  |_=>simp [zbq]at e
theorem zhP{K:PySem.W.Frag}:zjl K (fun xs H Q=>∃(p:Addr) (ns:List Int),xs=[.ref p]∧SqL K H p (ns.map V.int)∧Q (.int ns.sum) H) zgJ:=fun H a vs ws S Q QW ea na r hS h hQ=>by
 unfold zgJ at h;split at h
 ·rename_i ns e;have:=zce r e;subst this;exact⟨a,ns,rfl, .of ea,hQ _ S _ H .refl (.int _) hS h⟩
 ·exact h.elim
theorem zha (hg:Gl X "sum") (hm:X.mg "sum" =none) (ha:JL X e tl)
  (he:starEach [e] X.env=(false,eval e X.env)::starEach [] X.env:=by rfl) (hpl:(backTo pos (starEach [] X.env)).any (·.1)=false:=by rfl) (hcl:X.calm=true:=by rfl):JE X (.Call (.Name "sum" p) [e] [] pos) (wBL zgJ tl):=fun E hE=>
 zlT (zho hcl) zhP hg hm PyProof.Rows.boot_sum ha (by decide) (by decide) he hpl E hE
end
end L2
end
section
namespace L2
open PySem PySem.Spec PyProof.Rows PySem.W PySem.Calls Builtin Builtin.ObjectAttr Builtin.Getset_descriptor
structure XcOk (K:Frag) (C:Addr):Prop where
  ga:findIn K (.ref C) "__getattribute__" =some (some (.builtin "BaseException.__getattribute__"))
  gt:findIn K (.ref C) "__getattr__" =some none
  cl:findIn K (.ref C) "__class__" =some (some (.builtin "object.__class__"))
  ob:mroIn K C (.type "object")=some true
  be:mroIn K C (.type "BaseException")=some true
section
variable {prog:Program}{w:World}{A:Around}{E:Value→Shared→Prop}{h:Heap}{g:Array GenState}{d:Drawn}{t:Nat}{os:OsState}{a C:Addr}{o:Obj}{K:Frag}
theorem zlQ{M:Model}(hx:h.get? a=some o) (hc:o.cls= .ref C):Looks M h (typeOf (.ref a)) (.ref C):=hc▸(Looks.ld hx).andThen .now
theorem znt{R:Result→Shared→Prop}(O:XcOk K C) (X:K.In h) (hx:h.get? a=some o) (hc:o.cls= .ref C) (hq:R (.ok (.ret (.ref C))) ⟨h,g,d,t,os⟩) :
  codeAny (model prog w) A (.call (.builtin "getset_descriptor.__get__") ⟨[.builtin "object.__class__", .ref a, .ref C],[]⟩) R ⟨h,g,d,t,os⟩:=by
 have L0:=zlQ (M:=model prog w) hx hc;have L1:=looks_mroIn (M:=model prog w) X O.ob;refine codeAny_call_builtin KF.slot_gs.plain KF.entry_gs (KF.slot_gs.check _ _ _ _ _ _ _ _ KF.type_class (KF.args_gs _ _ _) ?_);unfold Builtin.«getset_descriptor.__get__» descrGet;rw [dga_obj];refine wpAny_bind (wpAny_pure ?_);unfold descrGetter descrCheckInstance descrNameAndClass isInstance;simp only[KF.owner_class]
 repeat lk
 refine⟨Code.quiet_builtin _ (by decide +kernel),codeAny_builtin KF.entry_class ?_⟩;unfold Builtin.«object.__class__» shownTypeOf
 repeat lk
 exact hq
theorem zjT{tk:Tok}{Q:Fin→Shared→Prop}(O:XcOk K C) (X:K.In h) (hx:h.get? a=some o) (hc:o.cls= .ref C) (hq:Q (.done (.ret (.ref C))) ⟨h,g,d,t,os⟩) :
  wpAny (model prog w) A (Builtin.«object.__getattribute__» ⟨[.ref a, .str "__class__" tk],[]⟩) Q E ⟨h,g,d,t,os⟩:=by
 have hT5:(⟨h,g,d,t,os⟩:Shared).TypeIs (.builtin "object.__class__") "getset_descriptor" :=F.typeOf_object_class;have f5:=F.typeOf_object_class;have f6:=F.slot_gs_get.lookup;have f7:=F.slot_gs_set.lookup;have L1:=looks_findIn (M:=model prog w) X O.cl
 repeat (any_goals (first |assumption | (with_reducible refine wpAny_loadPart_at hx ?_;rw [hc]) |with_reducible refine L1.at ?_ |wp_step))
 refine znt O X hx hc ?_
 repeat (any_goals (first |assumption |wp_step))
theorem zjc{M:Model}{nameV:Value}{Q:Unit→Shared→Prop}(O:XcOk K C) (X:K.In h) (hx:h.get? a=some o) (hc:o.cls= .ref C) (hq:Q () ⟨h,g,d,t,os⟩):wpAny M A (checkBuiltinCall "BaseException.__getattribute__" ⟨[.ref a,nameV],[]⟩) Q E ⟨h,g,d,t,os⟩:=by
 have hk:builtinKind "BaseException.__getattribute__" =some .slot:=by decide +kernel
 have hsplit:splitId "BaseException.__getattribute__" =some ("BaseException", "__getattribute__"):=by decide +kernel
 have L1:=looks_mroIn (M:=M) X O.be;have ha:=F.args_bexc_ga (.ref a) nameV;simp only[checkBuiltinCall,hk,hsplit];refine wpAny_bind ?_;unfold isInstance
 repeat (first | (with_reducible refine wpAny_loadPart_at hx ?_;rw [hc]) |with_reducible refine L1.at ?_ |wp_step)
 exact hq
theorem zky{tk:Tok}{R:Result→Shared→Prop}(O:XcOk K C) (X:K.In h) (hx:h.get? a=some o) (hc:o.cls= .ref C) (hq:R (.ok (.ret (.ref C))) ⟨h,g,d,t,os⟩) :
  codeAny (model prog w) A (.call (.builtin "BaseException.__getattribute__") ⟨[.ref a, .str "__class__" tk],[]⟩) R ⟨h,g,d,t,os⟩:=
 codeAny_call_builtin F.excAttr_ValueError.ga.plain F.entry_bexc_ga (zjc O X hx hc (zjT O X hx hc hq))
theorem zoi{tk:Tok}{fill expr:Bool}{Q:Value→Shared→Prop}(O:XcOk K C) (X:K.In h) (hx:h.get? a=some o) (hc:o.cls= .ref C) (hq:Q (.ref C) ⟨h,g,d,t,os⟩) :
  wpAny (model prog w) A (getAttrBy (.ref a) (.str "__class__" tk) fill expr) Q E ⟨h,g,d,t,os⟩:=by
 have f3:=F.excAttr_ValueError.ga.bind (.ref a);have hx0:(expr&&onTheHeap (Value.builtin "BaseException.__getattribute__"))=false:=by cases expr<;>rfl
 have hx2:(Value.builtin "BaseException.__getattribute__" == Value.builtin "object.__getattribute__")=false:=by decide +kernel
 have hx1:(onTheHeap (Value.ref C)&&Value.builtin "BaseException.__getattribute__" == Value.builtin "object.__getattribute__")=false:=by rw [hx2];rfl
 have L1:=looks_findIn (M:=model prog w) X O.ga;have L2:=looks_findIn (M:=model prog w) X O.gt
 repeat (any_goals (first |assumption | (with_reducible refine wpAny_loadPart_at hx ?_;rw [hc]) |with_reducible refine L1.at ?_ |with_reducible refine L2.at ?_ |wp_step))
 refine zky O X hx hc ?_
 repeat (any_goals (first |assumption |wp_step))
theorem zlK{Q:Option Value→Shared→Prop}(O:XcOk K C) (X:K.In h) (hx:h.get? a=some o) (hc:o.cls= .ref C) (hq:Q (some (.ref C)) ⟨h,g,d,t+1,os⟩):wpAny (model prog w) A (getAttr? (.ref a) "__class__") Q E ⟨h,g,d,t,os⟩:=by
 unfold getAttr? getAttrBy?
 repeat (any_goals (first |assumption |with_reducible apply zoi O X hx hc |wp_step))
theorem zjo (O:XcOk K C):KitX K (.ref a) (.ref C) (fun h=>∃o,h.get? a=some o∧o.cls= .ref C) where
  ty:=fun _ _ _ ⟨o,hx,hc⟩=>zlQ hx hc
  it:=fun _ _ X _=>by
    obtain⟨cd,hcD,_⟩:=Option.bind_eq_some_iff.mp O.ob;unfold clsIn at hcD;split at hcD
    · rename_i c' d' cd' sl' ho;intro A' Q' E' s' k q;unfold isType loadHead;exact wpAny_bind (wpAny_loadPart (k _ _ (X _ _ ho)) (wpAny_pure q))
    · cases hcD
  ne:=fun h tp dd its n sl X htp=>by
    obtain⟨cd,hcD,_⟩:=Option.bind_eq_some_iff.mp O.ob;refine Bool.eq_false_iff.mpr fun q=>?_;have e:C=tp:=Value.ref.inj (beq_iff_eq.mp q);subst e;unfold clsIn at hcD;split at hcD
    · rename_i c' d' cd' sl' ho;have z:=(X _ _ ho).symm.trans htp;cases z
    · cases hcD
  ca:=fun {_ _ _ _ _ s} X ⟨o,hx,hc⟩ k=>by
    obtain⟨h,g,d,t,os⟩:=s;exact zlK O X hx hc k
end
noncomputable abbrev bmV:List Value:=[.type "ValueError", .type "Exception", .type "BaseException", .type "object"]
structure XcIn (K:PySem.W.Frag) (x:Str) (C:Addr):Prop where
  nm:PySem.W.nsIn K mainGlobals x=some (some (.ref C))
  ex:PySem.W.excIn K C bmV "ValueError.__new__" =true
  xc:XcOk K C
theorem XcIn.own{K:PySem.W.Frag}{x:Str}{C:Addr}{h:Heap}{mg:Str→Option Value}(O:XcIn K x C) (X:K.In h) (G:h.Ns mainGlobals mg):OwnCls x C bmV "ValueError.__new__" mg h:=by
 have q:=O.ex;refine⟨PySem.W.mg_of X G O.nm,?_⟩;unfold PySem.W.excIn at q;split at q
 ·rename_i dd cd sl ho;split at q
  ·rename_i C' bm k0 k1 k2 k3 n k5 hm hs;simp only[Bool.and_eq_true,beq_iff_eq,Bool.not_eq_true']at q;obtain⟨⟨⟨⟨⟨rfl,hnn⟩,hdel⟩,ht⟩,hok⟩,hni⟩:=q;obtain⟨nm,bs,mro,ns,qn,hd,sn,sub,ab,col,del⟩:=cd;dsimp only at hm hdel hok hni;subst hm hdel;have hsl:sl= #[k0,k1,k2,k3,some (.builtin n),k5]:=by
    obtain⟨l⟩:=sl;simp only at hs;rw [hs]
   subst hsl;subst hnn;exact⟨bm,ns,nm,qn,bs,hd,sn,sub,ab,col,dd,k0,k1,k2,k3,k5,_,X _ _ ho, .of_isNs (PySem.W.isNs_of_in X hok),PySem.W.nsMap_none_of_in X hok hni,PySem.W.tail_of_in X ht⟩
  ·cases q
 ·cases q
noncomputable def zig (x:Str) (t:WA):WS:=fun E _ σ S=>t E σ S fun ws S1=>ws.length≤sizeLine∧E x σ S1
theorem zjQ{X:Cx}{x:Str}{C:Addr}{e:Expr}{es:List Expr}{t:WA}{np cpos pos:Pos}(O:XcIn X.K x C) (hg:Gl X x) (hm:X.mg x=some (.ref C)) (ha:JA X (e::es) t) (hcl:X.calm=true:=by rfl) (hdb:(x == ("__debug__" :Str))=false:=by decide)
  (he:starEach (e::es) X.env=(false,eval e X.env)::starEach es X.env:=by rfl) (hpl:(backTo cpos (starEach es X.env)).any (·.1)=false:=by rfl) :
  JS X (.Raise (some (.Call (.Name x np) (e::es) [] cpos)) none pos) (zig x t):=fun E hE pins s σ H D I z=>by
 obtain⟨σW,S,DW,hσ,hS,ht,hD⟩:=z;have OC:=(O.own I.mod.kin I.mod.glob).keeps I.bk;obtain⟨tl,N,nm,q,bs,hdct,sn,sub,ab,col,dd,k0,k1,k2,k3,k5,mN,hC,hN,hni,T⟩:=(O.own I.mod.kin I.mod.glob).obj;refine wpAny_Raise_call_subT (C:=C) (nm:=nm) (q:=q) (N:=N) (bs:=bs) (bm:=tl) (hdct:=hdct) (sn:=sn) (sub:=sub) (ab:=ab) (col:=col) (dd:=dd) (k0:=k0) (k1:=k1) (k2:=k2) (k3:=k3) (k5:=k5)
  F.excBase_ValueError (mN:=mN) (T.hasType F.excBase_ValueError.hasBase) (I.ok.hd hcl) (by rw [he];show(false || (backTo cpos (starEach es X.env)).any (·.1))=false;rw [hpl];rfl) hni (zda I hg hm ⟨rfl,?_⟩ hdb)
 have go:=ha E hE cpos pins s σ H (fun vs H1=>∃ws S1,Reps X.K H1 ws vs∧RpSt X.K H1 σW σ∧RepS X.K H1 S1∧ws.length≤sizeLine∧E x σW S1) I ⟨σW,S,_,hσ,hS,ht,fun ws S1 vs H1 e1 r1 hS1 h1=>⟨ws,S1,r1,hσ.ext e1,hS1,h1.1,h1.2⟩⟩;rw [he]at go⊢;refine Calls.evalArgs_plain (wpAny_mono go (fun us s2 ⟨vs,H1,I1,r,ws,S1,r1,hσ1,hS1,hl,h1⟩=>?_) fun _ _ y=>y);refine⟨rfl,by rw [←r.length,←r1.length];exact hl,I1.bk _ _ hC,hN.keeps I1.bk,T.keeps I1.bk,fun h' a me=>?_⟩
 exact hE.near pins σ H1 s2 σW x C a S1 h' us I1 hσ1 O.nm me hS1 h1
noncomputable abbrev noX:WX:=fun _ _ _=>False
theorem zkK{X:Cx}(h:PassesOwn (model X.prog X.w) X.A X.env X.xe):Hook X noX:=⟨h,fun _ _ _ _ _ _ _ _ _ _ _ _ _ _ _ _ _ _ _ _ z=>z.elim,fun _ _ _ _ _ _ _ _ _ _ _ _ _ _ _ _ z=>z.elim⟩
noncomputable abbrev Cx.at (X:Cx) (pn:List (Addr×Obj)) (E:Value→Shared→Prop):Cx:={ X with pn:=pn,xe:=E }
section
variable {X:Cx}{pins pins':List (Addr×Obj)}{σ:St}{H:Hp}{s:Shared}{E:Value→Shared→Prop}
theorem Cx.Ok.at (ok:X.Ok) (pn:List (Addr×Obj)) (E:Value→Shared→Prop):(X.at pn E).Ok:=
 ⟨ok.mod,ok.kind,ok.glob,ok.blt,ok.above,ok.inj,ok.has,ok.cab,ok.hd,ok.frames,ok.stk,ok.exf,ok.bs,ok.bsz,ok.noex,ok.exfs,ok.funs,ok.frf⟩
theorem Cx.Ok.unat{pn:List (Addr×Obj)}(ok:(X.at pn E).Ok):X.Ok:=
 ⟨ok.mod,ok.kind,ok.glob,ok.blt,ok.above,ok.inj,ok.has,ok.cab,ok.hd,ok.frames,ok.stk,ok.exf,ok.bs,ok.bsz,ok.noex,ok.exfs,ok.funs,ok.frf⟩
theorem Inv.at (I:Inv X pins σ H s) (E:Value→Shared→Prop):Inv (X.at (X.pn++pins) E) [] σ H s:=⟨I.ok.at _ E,I.os,I.bare,I.base,I.loc,I.cell,I.free,I.freeC,fun p hp=>I.pin p (by simpa using hp),I.hok,I.len⟩
theorem Inv.unat (I:Inv (X.at (X.pn++pins) E) pins' σ H s):Inv X pins σ H s:=⟨I.ok.unat,I.os,I.bare,I.base,I.loc,I.cell,I.free,I.freeC,fun p hp=>I.pin p (List.mem_append_left _ hp),I.hok,I.len⟩
theorem SP.unat{D:Ends}{f:Flow}{s':Shared}(h:SP (X.at (X.pn++pins) E) [] D f s'):SP X pins D f s':=by
 cases f with
 |next=>obtain⟨σ',H',I,q⟩:=h;exact⟨σ',H',I.unat,q⟩
 |brk=>obtain⟨σ',H',I,q⟩:=h;exact⟨σ',H',I.unat,q⟩
 |cont=>obtain⟨σ',H',I,q⟩:=h;exact⟨σ',H',I.unat,q⟩
 |ret u=>obtain⟨v,σ',H',I,r,q⟩:=h;exact⟨v,σ',H',I.unat,r,q⟩
end
noncomputable def Falls (X:Cx) (pins:List (Addr×Obj)) (σ:St) (σW:WSt) (H:Hp) (S:Sto) (E:WX) (e:Value) (s':Shared):Prop:=∃(cl:Str) (C a:Addr) (H1:Hp) (s1:Shared) (H':Hp) (S':Sto),e= .ref a∧PySem.W.nsIn X.K mainGlobals cl=some (some (.ref C))∧Inv X pins σ H1 s1∧
 s'.os=s1.os∧AllBare s'.gens∧Un (frs X.stack) [] H1 H' s1.heap s'.heap∧HOk X.prog X.w H' s'.heap∧Fly s1.heap s'.heap H' a C∧Ext H S H' S'∧RepS X.K H' S'∧E cl σW S'
theorem Falls.from{X:Cx}{pins:List (Addr×Obj)}{σ:St}{σW:WSt}{H H1:Hp}{S S1:Sto}{E:WX}{v:Value}{s':Shared}(e:Ext H S H1 S1) (h:Falls X pins σ σW H1 S1 E v s'):Falls X pins σ σW H S E v s':=by
 obtain⟨cl,C,a,H2,s1,H',S',a1,a2,a3,a4,a5,a6,a7,a8,a9,a10⟩:=h;exact⟨cl,C,a,H2,s1,H',S',a1,a2,a3,a4,a5,a6,a7,a8,e.trans a9,a10⟩
noncomputable def zoT (X:Cx) (E:WX) (t:WE):TE:=fun σ H Q=>∃σW S QW,RpSt X.K H σW σ∧RepS X.K H S∧t E σW S QW∧Wish X.K H S QW Q∧ ∀pins e s',Falls X pins σ σW H S E e s'→X.xe e s'
noncomputable def zke (X:Cx) (E:WX) (t:WS):TS:=fun D σ H=>∃σW S DW,RpSt X.K H σW σ∧RepS X.K H S∧t E DW σW S∧Meets X.K H S DW D∧ ∀pins e s',Falls X pins σ σW H S E e s'→X.xe e s'
noncomputable def JXE (X:Cx) (e:Expr) (t:WE):Prop:=∀E,PassesOwn (model X.prog X.w) X.A X.env X.xe→PE X e (zoT X E t)
noncomputable def JXS (X:Cx) (st:Stmt) (t:WS):Prop:=∀E,PassesOwn (model X.prog X.w) X.A X.env X.xe→PS X st (zke X E t)
noncomputable def JXs (X:Cx) (st:List Stmt) (t:WS):Prop:=∀E,PassesOwn (model X.prog X.w) X.A X.env X.xe→PSs X st (zke X E t)
noncomputable def zgl (c:WSp) (t:WA):WE:=fun E σ S Q=>t noX σ S fun ws S1=>c ws S1 Q fun cl S2=>E cl σ S2
noncomputable def zou (c:WT) (t u:WS):WS:=fun E D σ S=>c noX σ S fun b S1=>if b=true then t E D σ S1 else u E D σ S1
section
variable {X:Cx}{k:Nat}{f:Addr}{fd:FuncData}{ps:List Str}{c:WSp}{x:Str}{p pos:Pos}{e cond:Expr}{es:List Expr}{t:WA}{te:WE}{tc:WT}{st:Stmt}{a b:List Stmt}{ta tb:WS}
theorem zhh (F:FnOk X.prog X.w X.K X.mg X.base (CX1 X.prog X.w) k f fd ps (zaS X.K c)) (hr:Room k X.A) (hg:Gl X x) (hm:X.mg x=some (.ref f)) (hk:PySem.W.keepIn X.K (.ref f)=true) (hb:Binds X.K fd ps [])
  (ha:JA X (e::es) t) (hdb:(x == ("__debug__" :Str))=false:=by decide) (he:starEach (e::es) X.env=(false,eval e X.env)::starEach es X.env:=by rfl) (hpl:(backTo pos (starEach es X.env)).any (·.1)=false:=by rfl) :
  JXE X (.Call (.Name x p) (e::es) [] pos) (zgl c t):=fun E hp pins s σ H Q I h=>by
 obtain⟨σW,S,QW,hσ,hS,ht,hQ,hF⟩:=h;refine wpAny_Call_Name_kw (zda I hg hm ?_ hdb);refine PySem.W.callWith_K (h₀:=X.base) I.ok.mod.kin hk (thn (ha noX (zkK hp) pos pins s σ H (fun vs H1=>∃ws S1,Reps X.K H1 ws vs∧RpSt X.K H1 σW σ∧RepS X.K H1 S1∧c ws S1 QW (fun cl S'=>E cl σW S')∧Wish X.K H1 S1 QW Q∧Ext H S H1 S1) I
  ⟨σW,S,_,hσ,hS,ht,fun ws S1 vs H1 e1 r1 hS1 h1=>⟨ws,S1,r1,hσ.ext e1,hS1,h1,hQ.from e1,e1⟩⟩) fun us s1 ⟨vs,H1,I1,r,ws,S1,r1,hσ1,hS1,h1,hQ1,e1⟩=>⟨I1.kIn,?_⟩) he hpl
 exact znj (E:=E) F hr hb I1 r r1 hσ1 hS1 h1 hQ1 fun cl C a H' S' s' hn os bare un ok fly ex hS' q=>hF pins _ s' ⟨cl,C,a,H1,s1,H',S',rfl,hn,I1,os,bare,un,ok,fly,e1.trans ex,hS',q⟩
theorem zkf{i:Nat}{pos':Pos}(hN:X.N.Nodup) (hi:X.N[i]? =some x) (hx:Loc X.env.scope x) (he:JXE X e te) (hs:swapsWith e (some (.Name x pos')) pos.line X.env=pure false:=by rfl)
  (hf:X.fn x=true∨X.env.scope.names.lookup x=some .local:=by first |exact .inl rfl |exact .inr rfl |assumption):JXS X (.Assign [.Name x pos'] e pos) (wAsg te (wGN i)):=fun E hp=>
 (zjX hN hi hx (he E hp) hs hf).mono fun D σ H ⟨σW,S,DW,hσ,hS,ht,hD,hF⟩=>⟨σW,S,_,hσ,hS,ht,fun w S1 v H1 e1 r1 hS1 h1=>hD.nx _ S1 _ H1 e1 ((hσ.ext e1).set r1 i) hS1 h1,hF⟩
theorem zoE (hc:JT X cond tc) (ha:JXs X a ta) (hb:JXs X b tb):JXS X (.If cond a b pos) (zou tc ta tb):=fun E hp=>
 (znu (hc noX (zkK hp)) (ha E hp) (hb E hp)).mono fun D σ H ⟨σW,S,DW,hσ,hS,ht,hD,hF⟩=>⟨σW,S,_,hσ,hS,ht,fun k S1 H1 e1 hS1 h1=>by
  cases k with
  |true=>exact⟨σW,S1,DW,hσ.ext e1,hS1,h1,hD.from e1,fun pins e s' F=>hF pins e s' (F.from e1)⟩
  |false=>exact⟨σW,S1,DW,hσ.ext e1,hS1,h1,hD.from e1,fun pins e s' F=>hF pins e s' (F.from e1)⟩⟩
theorem zhu (h:JXS X st ta):JXs X [st] ta:=fun E hp=>zhK (h E hp)
end
theorem zms{P:Program}{w:World}{base g h h3:Heap}{l:List Env}{H1 H':Hp}{a C:Addr}{hid:List Addr}(un:Un (frs l) [] H1 H' g h) (ok:HOk P w H' h) (ff0:h.FunFrames base l) (fr:∀b∈frs l,H' b=none)
  (h0:∀b∈hid,g.get? b=none∧H' b=none) (ha:a∈hid) (L:Heap.Left (PySem.W.hideAll h (hid++frs l)) l a (.ref C) h h3):Un (frs l) [] H1 H' g h3∧HOk P w H' h3∧Fly g h3 H' a C:=by
 obtain⟨st,ff,tr,sl⟩:=L;have keepB:∀b o,h.get? b=some o→b∉hid→b∉frs l→h3.get? b=some o:=fun b o e h1 h2=>st b o (PySem.W.hideAll_get _ e fun z=>(List.mem_append.mp z).elim h1 h2);have nh:∀b o,g.get? b=some o→b∉hid:=fun b o e hb=>by rw [(h0 b hb).1]at e;cases e
 have slotB:∀b o,b∈frs l→h.get? b=some o→ ∃sl,h3.get? b=some { o with slots:=sl }:=fun b o hb e=>by
  obtain⟨_,o',eo',nf⟩:=ff0.mem hb;rw [e]at eo';cases eo';exact sl b o e nf
 have nx:∀b:Addr,b∉([]:List Addr):=fun b=>by simp
 refine⟨⟨fun b o e n hb _=>keepB b o (un.keep b o e n hb (nx b)) (nh b o e) hb,fun b o e n hb _=>?_,fun b o e n _=>un.free b o e n (nx b),fun b o e _=>?_,un.tups,un.frzs,un.tbls⟩,fun b o e=>?_,(h0 a ha).1,(h0 a ha).2,?_⟩
 ·obtain⟨sl1,e1⟩:=un.slot b o e n hb (nx b);obtain⟨sl2,e2⟩:=slotB b _ hb e1;exact⟨sl2,e2⟩
 ·obtain⟨o',e1⟩:=un.there b o e (nx b);by_cases hb:b∈frs l
  ·obtain⟨sl2,e2⟩:=slotB b _ hb e1;exact⟨_,e2⟩
  ·exact⟨o',keepB b o' e1 (nh b o e) hb⟩
 ·refine(ok b o e).stay (fun c u hc q=>?_) (fun _ q=>q) fun _ _ q=>q;have tk:∃v,H' c=some v:=by
   rcases hc with z |z
   ·exact⟨o,by rw [z];exact e⟩
   ·exact⟨_,z⟩
  obtain⟨v,tk⟩:=tk;exact keepB c u q (fun z=>by rw [(h0 c z).2]at tk;cases tk) fun z=>by rw [fr c z]at tk;cases tk
 ·obtain⟨oe,vs,T,oT,ts,e1,e2,e3,e4,e5,e6,e7,e8,e9⟩:=tr;have nf:T∉frs l:=fun hb=>by
   obtain⟨_,o,eo,nf⟩:=ff.mem hb;rw [e7]at eo;cases eo;exact nf ts e8
  have both:g.get? T=none∧H' T=none:=by
   by_cases hT:T∈hid
   ·exact h0 T hT
   ·have z:h.get? T=none:=by
     cases q:h.get? T with
     |none=>rfl
     |some o=>
      rw [PySem.W.hideAll_get _ q fun z=>(List.mem_append.mp z).elim hT nf]at e5;cases e5
    constructor
    ·cases q:g.get? T with
     |none=>rfl
     |some o=>obtain⟨o',q'⟩:=un.there T o q (nx T);rw [z]at q';cases q'
    ·cases q:H' T with
     |none=>rfl
     |some u=>obtain⟨o',q'⟩:=(ok T u q).ex;rw [z]at q';cases q'
  exact⟨oe,vs,T,oT,ts,e1,e2,e3,e4,both.1,both.2,e6,e7,e8,e9⟩
theorem Heap.TracedW.tr{h base:Heap}{e:Addr}{cls a0:Value}(x:Heap.TracedW h base e cls a0):Heap.Traced h base e cls:=by
 obtain⟨oe,vs,T,oT,ts,he,⟨hcls,h0⟩,r⟩:=x;exact⟨oe,vs,T,oT,ts,he,hcls,r⟩
section
variable {X:Cx}{pins:List (Addr×Obj)}{σ:St}{H1 H':Hp}{s1 s':Shared}{a C:Addr}{M:Model}{A:Around}{E:Value→Shared→Prop}{R:Shared→Prop}
theorem zhT (I1:Inv X pins σ H1 s1) (hst:X.stack=X.env::X.outer) (hf:X.env.frame=some X.env.locals) (os:s'.os=s1.os) (bare:AllBare s'.gens) (un:Un (frs X.stack) [] H1 H' s1.heap s'.heap) (ok:HOk X.prog X.w H' s'.heap) (fly:Fly s1.heap s'.heap H' a C) (hA:A.frames=some X.stack)
  (k:∀h3,Inv X pins σ H' { s' with heap:=h3 }→Un (frs X.stack) [] H1 H' s1.heap h3→HOk X.prog X.w H' h3→Fly s1.heap h3 H' a C→R { s' with heap:=h3 }) :
  wpAny M A (noteFrame (.ref a) X.env) (fun _ s₂=>wpAny M A (setFlight (.ref a) none) (fun _ s₃=>R s₃) E s₂) E s':=by
 have I2:Inv X pins σ H' s':=I1.call' os un ok bare (fun _ z=>nomatch z);have ff:=I2.stack;have fr:=I2.stkFree;obtain⟨g1,g2,oe,vs,T,oT,ts,e1,e2,e3,e4,g3,g4,e5,e6,e7,e8⟩:=fly;have sz:1<vs.size:=(Array.getElem?_eq_some_iff.mp e4).1;have hid:∀b∈ [a,T],s1.heap.get? b=none∧H' b=none:=fun b hb=>by
  rcases List.mem_cons.mp hb with rfl |hb
  ·exact⟨g1,g2⟩
  ·rw [List.mem_singleton.mp hb];exact⟨g3,g4⟩
 have st:∀h3,Heap.Left (PySem.W.hideAll s'.heap ([a,T]++frs X.stack)) X.stack a (.ref C) s'.heap h3→R { s' with heap:=h3 }:=fun h3 L=>by
  obtain⟨u1,u2,u3⟩:=zms un ok ff fr hid (by simp) L;exact k h3 (I1.call' (s':={ s' with heap:=h3 }) os u1 u2 bare (fun _ z=>nomatch z)) u1 u2 u3
 rw [hst]at hA ff st;refine wpAny_noteFrame_onW (base:=PySem.W.hideAll s'.heap ([a,T]++frs (X.env::X.outer))) (cls:= .ref C) (a0:=vs[0]) hA (zea ff) hf ⟨oe,vs,T,oT,ts,e1,⟨e2,Array.getElem?_eq_getElem _⟩,e3,e4,PySem.W.hideAll_none _ (by simp),e5,e6,e7,e8⟩ (fun b o z=>PySem.W.of_hideAll _ z) (PySem.W.hideAll_none _ (by simp)) fun h2 N=>?_;obtain⟨n1,n2,n3,n4⟩:=N;refine wpAny_setFlight_noneW (s:={ s' with heap:=h2 }) n1 n2 n3 fun h3 k1 k2 k3 k4=>?_;exact st h3 ⟨k1,k2,Heap.TracedW.tr k3,fun b o e nf=>by
  obtain⟨sl,z⟩:=n4 b o e nf;exact⟨sl,k4 b _ z nf⟩⟩
theorem zpU (I1:Inv X pins σ H1 s1) (os:s'.os=s1.os) (bare:AllBare s'.gens) (un:Un (frs X.stack) [] H1 H' s1.heap s'.heap) (ok:HOk X.prog X.w H' s'.heap) (fly:Fly s1.heap s'.heap H' a C)
  (k:∀h3,Inv X pins σ H' { s' with heap:=h3 }→Fly s1.heap h3 H' a C→R { s' with heap:=h3 }):wpAny M A (setFlight (.ref a) none) (fun _ s₃=>R s₃) E s':=by
 have I2:Inv X pins σ H' s':=I1.call' os un ok bare (fun _ z=>nomatch z);have ff:=I2.stack;have fr:=I2.stkFree;obtain⟨g1,g2,oe,vs,T,oT,ts,e1,e2,e3,e4,g3,g4,e5,e6,e7,e8⟩:=fly;have sz:1<vs.size:=(Array.getElem?_eq_some_iff.mp e4).1;have hid:∀b∈ [a,T],s1.heap.get? b=none∧H' b=none:=fun b hb=>by
  rcases List.mem_cons.mp hb with rfl |hb
  ·exact⟨g1,g2⟩
  ·rw [List.mem_singleton.mp hb];exact⟨g3,g4⟩
 refine wpAny_setFlight_noneW (base:=PySem.W.hideAll s'.heap ([a,T]++frs X.stack)) (l:=X.stack) (cls:= .ref C) (a0:=vs[0]) (fl:= .none) (fun b o z=>PySem.W.of_hideAll _ z) (zea ff) ⟨oe,vs,T,oT,ts,e1,⟨e2,Array.getElem?_eq_getElem _⟩,e3,e4,PySem.W.hideAll_none _ (by simp),e5,e6,e7,e8⟩ fun h3 k1 k2 k3 k4=>?_;obtain⟨u1,u2,u3⟩:=zms un ok ff fr hid (by simp) ⟨k1,k2,Heap.TracedW.tr k3,fun b o e nf=>⟨o.slots,k4 b o e nf⟩⟩;exact k h3 (I1.call' (s':={ s' with heap:=h3 }) os u1 u2 bare (fun _ z=>nomatch z)) u3
end
noncomputable abbrev Cx.hot (X:Cx) (a:Addr) (pn:List (Addr×Obj)):Cx:={ X with A:=X.A.mark (some (.ref a)),calm:=false,pn:=pn,xe:=fun _ _=>False }
section
variable {X:Cx}{pins pins':List (Addr×Obj)}{σ:St}{H:Hp}{s:Shared}{a:Addr}{oa:Obj}
theorem Cx.Ok.hot (ok:X.Ok) (a:Addr) (pn:List (Addr×Obj)):(X.hot a pn).Ok:=
 ⟨ok.mod,ok.kind,ok.glob,ok.blt,ok.above,ok.inj,ok.has,ok.cab,(fun z=>nomatch z),ok.frames,ok.stk,ok.exf,ok.bs,ok.bsz,ok.noex,ok.exfs,ok.funs,ok.frf⟩
theorem Inv.hot{vs:Array Value}(I:Inv X pins σ H s) (e:s.heap.get? a=some oa) (n:H a=none) (d:oa.data= .fields vs):Inv (X.hot a (X.pn++pins++[(a,oa)])) [] σ H s:=
 ⟨I.ok.hot a _,I.os,I.bare,I.base,I.loc,I.cell,I.free,I.freeC,(fun p hp=>by
  rw [List.append_nil]at hp;rcases List.mem_append.mp hp with hp |hp
  ·exact I.pin p hp
  ·rw [List.mem_singleton.mp hp];refine⟨e,n,fun z=>?_,fun z=>?_,fun v z=>?_⟩
   ·obtain⟨m,⟨o,es,ep,ho,hd,_⟩,_⟩:=I.loc;have e':s.heap.get? X.env.locals=some oa:=by rw [←show a=X.env.locals from z];exact e
    rw [ho]at e';cases e';rw [hd]at d;cases d
   ·obtain⟨_,o,ho,nf⟩:=I.funs.mem z;have e':s.heap.get? a=some o:=ho;rw [e]at e';cases e';exact nf vs d
   ·have z':oa.data= .cell v:=z;rw [d]at z';cases z'),I.hok,I.len⟩
theorem Inv.unhot (I0:X.Ok) (I:Inv (X.hot a (X.pn++pins++[(a,oa)])) pins' σ H s):Inv X pins σ H s:=
 ⟨I0,I.os,I.bare,I.base,I.loc,I.cell,I.free,I.freeC,fun p hp=>I.pin p (List.mem_append_left _ (List.mem_append_left _ hp)),I.hok,I.len⟩
theorem zoc{M:Model}{A:Around}{E:Value→Shared→Prop}{i:Nat}{n:Str}{pos:Pos}{Q:Unit→Shared→Prop}(I:Inv X pins σ H s) (hN:X.N.Nodup) (hi:X.N[i]? =some n) (hl:X.env.scope.names.lookup n=some .local)
  (h:∀s',Inv X pins (σ.set i none) H s'→Q () s'):wpAny M A (do bindName X.env n .none;unbindBehindTheSuite X.env n pos) Q E s:=by
 obtain⟨m,hn,hlk⟩:=id I.loc;have hcls:(X.env.scope.kind == .class || (X.env.scope.kind == .module&&X.env.locals != X.env.globals))=false:=by rw [I.ok.kind];rfl
 have hiσ:i<σ.length:=by rw [I.len];exact(List.getElem?_eq_some_iff.mp hi).1
 have cne:=I.cne;refine wpAny_nameGoes_keeps (show X.env.kindOf n=some .local from hl) hn hcls fun h' v hn' hs=>?_;obtain⟨oL,_,_,hoL,_⟩:=id hn;have lt:∀b o,X.s₀.heap.get? b=some o→b≠X.env.locals:=fun b o e=>Nat.ne_of_lt (Nat.lt_of_lt_of_le (Heap.lt_size e) I.ok.above);refine h _ ⟨I.ok,I.os,I.bare,⟨fun b o e n hb hx=>?_,fun b o e n hb hx=>?_,I.base.free,fun b o e hx=>?_,I.base.tups,I.base.frzs,I.base.tbls⟩,⟨_,hn',fun j y v' e1 e2 e3=>?_⟩,fun y c e=>?_,I.free,I.freeC,fun p hp=>?_,fun b ob e=>?_,by simpa using I.len⟩
 ·exact(hs.2 b (lt b o e)).trans (I.base.keep b o e n hb hx)
 ·obtain⟨sl,e1⟩:=I.base.slot b o e n hb hx;exact⟨sl,(hs.2 b (lt b o e)).trans e1⟩
 ·obtain⟨o',e1⟩:=I.base.there b o e hx;exact⟨o',(hs.2 b (lt b o e)).trans e1⟩
 ·by_cases hj:j=i
  ·subst hj;rw [List.getElem?_set_self hiσ]at e2;cases e2
  ·rw [List.getElem?_set_ne (Ne.symm hj)]at e2;obtain⟨u',r',q⟩:=hlk j y v' e1 e2 e3;refine⟨u',r',?_⟩;rcases q with⟨k,e⟩ |⟨k,c,e,z⟩
   ·refine .inl ⟨k,?_⟩;have:y≠n:=fun e=>hj (zdP hN e1 (e▸hi));simp [this,e]
   ·exact .inr ⟨k,c,e,z.sameBut hs (cne y c e)⟩
 ·obtain⟨w',z⟩:=I.cell y c e;exact⟨w',z.sameBut hs (cne y c e)⟩
 ·obtain⟨e,n,ne,nf,d⟩:=I.pin p hp;exact⟨(hs.2 p.1 ne).trans e,n,ne,nf,d⟩
 ·refine(I.hok b ob e).stay (fun c w' hc q=>(hs.2 c ?_).trans q) (fun _ q=>q) fun _ _ q=>q;rintro rfl;rcases hc with z |hc
  ·rw [←z,I.free]at e;cases e
  ·rw [I.free]at hc;cases hc
end
theorem RpSt.setN{K:PySem.W.Frag}{H:Hp}:∀{σW:WSt}{σ:St}(i:Nat),RpSt K H σW σ→RpSt K H (σW.set i none) (σ.set i none)
 |_,_,_, .nil=> .nil
 |_,_,0, .cons _ t=> .cons trivial t
 |_,_,i+1, .cons q t=> .cons q (RpSt.setN i t)
noncomputable def zhs (i:Nat) (al:List Str) (t:WS) (u:Str→Addr→WS):WS:=fun _ D σ S=>t (fun cl σ' S'=>cl∈al∧ ∀a,u cl a noX { nx:=fun σ'' S''=>D.nx (σ''.set i none) S'',rt:=D.rt,bk:=fun σ'' S''=>D.bk (σ''.set i none) S'',ct:=fun σ'' S''=>D.ct (σ''.set i none) S'' } (σ'.set i (some (.ref a))) S') D σ S
section
variable {X:Cx}{b:List Stmt}{x n:Str}{CT:Addr}{b₀:Stmt}{suite:List Stmt}{np hpos pos:Pos}{i:Nat}{t:WS}{u:Str→Addr→WS}{v:WS}{al:List Str}
theorem zor{X:Cx}(h:X.xe=fun _ _=>False):Hook X noX:=zkK (by rw [h];exact PassesOwn.never)
theorem ziF (hb:∀pn xe,JXs (X.at pn xe) b t)
  (hal:∀cl∈al,∃C,XcIn X.K cl C∧PySem.W.exmOne X.K (.ref C) (.ref CT)=some true∧ ∀(a:Addr) (oa:Obj) (pn:List (Addr×Obj)),(a,oa)∈pn→oa.cls= .ref C→JSs (X.hot a pn) (b₀::suite) (u cl a))
  (hg:Gl X x) (hm:X.mg x=some (.ref CT)) (hN:X.N.Nodup) (hi:X.N[i]? =some n) (hl:X.env.scope.names.lookup n=some .local) (hst:X.stack=X.env::X.outer:=by rfl) (hf:X.env.frame=some X.env.locals:=by rfl) (hdb:(x == ("__debug__" :Str))=false:=by decide) :
  JS X (.Try b [.ExceptHandler (some (.Name x np)) (some n) (b₀::suite) hpos] [] [] pos) (zhs i al t u):=fun E hE pins s σ H D I z=>by
 obtain⟨σW,S,DW,hσ,hS,ht,hD⟩:=z;refine wpAny_Try_except ?_;refine wpAny_mono (hb (X.pn++pins) (fun e s₁=>wpAny (model X.prog X.w) X.A (noteFrame e X.env) (fun _ s₂=>wpAny (model X.prog X.w) X.A (setFlight e none) (fun _ s₃=>wpAny (model X.prog X.w) X.A (handleBy e X.env [.ExceptHandler (some (.Name x np)) (some n) (b₀::suite) hpos]) (SP X pins D) X.xe s₃) X.xe s₂) X.xe s₁)
  _ PassesOwn.looking [] s σ H D (I.at _) ⟨σW,S,DW,hσ,hS,ht,hD,fun pins' e s' F=>?_⟩) (fun f s1 q=>?_) fun e s1 q=>q
 ·obtain⟨cl,C,a,H1,s1,H',S',rfl,hn,I1,os,bare,un,ok,fly,ex,hS',hcl,hu⟩:=F;obtain⟨C',O,hx,hs⟩:=hal cl hcl;have hn':PySem.W.nsIn X.K mainGlobals cl=some (some (.ref C)):=hn;have eC:C'=C:=by
   have:=O.nm;rw [hn']at this;exact(Value.ref.inj (Option.some.inj (Option.some.inj this))).symm
  subst eC;refine zhT (X:=X) (pins:=pins) I1.unat hst hf os bare un ok fly I.ok.frames fun h3 I3 u3 ok3 fly3=>?_;obtain⟨g1,g2,oe,vs,_,_,_,e1,e2,e3,_⟩:=id fly3;refine wpAny_handleBy_cons (codeAny_handlers_test ?_) (by intro q;cases q);refine zda (X:=X.hot a (X.pn++pins++[(a,oe)])) (I3.hot e1 g2 e3) hg hm ?_ hdb;refine(PySem.W.exm_one I3.kIn (zlQ e1 e2) hx).here ?_;refine codeAny_handlers_suite_as ?_;refine zpU (X:=X) (pins:=pins) (s':={ s' with heap:=h3 }) I1.unat os bare u3 ok3 fly3 fun h4 I4 fly4=>?_;obtain⟨g1',g2',oe4,vs4,_,_,_,e1',e2',e3',_⟩:=id fly4;refine zcL (X:=X.hot a (X.pn++pins++[(a,oe4)])) (I4.hot e1' g2' e3') hN hi (.inl hl) (v:= .ref a) rfl (fun s5 I5=>?_) (.inr hl);have me:Meets X.K H' S' { nx:=fun σ'' S''=>DW.nx (σ''.set i none) S'',rt:=DW.rt,bk:=fun σ'' S''=>DW.bk (σ''.set i none) S'',ct:=fun σ'' S''=>DW.ct (σ''.set i none) S'' } { nx:=fun σ H=>D.nx (σ.set i none) H,rt:=D.rt,bk:=fun σ H=>D.bk (σ.set i none) H,ct:=fun σ H=>D.ct (σ.set i none) H }:=by
   have hD':=hD.from ex;exact⟨fun σW3 S3 σ3 H3 e3 r3 hS3 q=>hD'.nx _ S3 _ H3 e3 (r3.setN i) hS3 q,hD'.rt,fun σW3 S3 σ3 H3 e3 r3 hS3 q=>hD'.bk _ S3 _ H3 e3 (r3.setN i) hS3 q,fun σW3 S3 σ3 H3 e3 r3 hS3 q=>hD'.ct _ S3 _ H3 e3 (r3.setN i) hS3 q⟩
  refine wpAny_mono (hs a oe4 (X.pn++pins++[(a,oe4)]) (by simp) e2' noX (zor rfl) [] s5 (σ.set i (some (.ref a))) H' _ I5 ⟨_,S',_,(hσ.ext ex).set (.ref a) i,hS',hu a,me⟩) (fun f s6 q=>?_) fun _ _ z=>z.elim;cases f with
  |next=>obtain⟨σ',H'',I6,q⟩:=q;exact zoc (I6.unhot I.ok) hN hi hl fun s7 I7=>⟨_,H'',I7,q⟩
  |brk=>obtain⟨σ',H'',I6,q⟩:=q;exact zoc (I6.unhot I.ok) hN hi hl fun s7 I7=>⟨_,H'',I7,q⟩
  |cont=>obtain⟨σ',H'',I6,q⟩:=q;exact zoc (I6.unhot I.ok) hN hi hl fun s7 I7=>⟨_,H'',I7,q⟩
  |ret w=>obtain⟨v,σ',H'',I6,r,q⟩:=q;exact zoc (I6.unhot I.ok) hN hi hl fun s7 I7=>⟨v,_,H'',I7,r,q⟩
 ·cases f with
  |next=>exact wpAny_execs_nil q.unat
  |ret v=>exact q.unat
  |brk=>exact q.unat
  |cont=>exact q.unat
end
section
variable {X:Cx}{a C:Addr}{oa:Obj}
theorem zfO (hp:(a,oa)∈X.pn) (hc:oa.cls= .ref C) (O:XcOk X.K C):CallR X (.builtin "isinstance") (fun xs H Q=>∃c b,((∃D,xs=[.ref a, .ref D]∧c=Value.ref D)∨(∃T,xs=[.ref a, .ty T]∧c=Value.type T))∧PySem.W.kitOne X.K (.ref C) c=some b∧Q (.bl b) H):=by
 intro pins s σ H xs us Q I r h;obtain⟨c,b,hx,e,q⟩:=h;have at':=(I.pin (a,oa) (List.mem_append_left _ hp)).1;have eu:us=[.ref a,c]:=by
  rcases hx with⟨D,rfl,rfl⟩ |⟨T,rfl,rfl⟩
  ·cases r with
   |cons r1 r2=>cases r2 with
    |cons r2 r3=>cases r3;cases r1;cases r2;rfl
  ·cases r with
   |cons r1 r2=>cases r2 with
    |cons r2 r3=>cases r3;cases r1;cases r2;rfl
 subst eu;exact PySem.W.kia_one (zjo O) I.kIn ⟨oa,at',hc⟩ e (by intro z;cases z) fun tk=>⟨.bl b,H,I.tok tk,rfl,q⟩
end
noncomputable def zjm (i:Nat) (a:Addr) (b:Bool):WE:=fun _ σ S Q=>σ[i]? =some (some (.ref a))∧Q (.bl b) S
section
variable {X:Cx}{a C D:Addr}{oa:Obj}{i:Nat}{n x:Str}{b:Bool}{p p1 p2 pos:Pos}{T':String}
theorem zhH{K:PySem.W.Frag}{H:Hp}{v:V}(h:Rep K H (.ref a) v):v= .ref a:=by cases h;rfl
theorem zeR (hp:(a,oa)∈X.pn) (hc:oa.cls= .ref C) (O:XcOk X.K C) (hb:PySem.W.kitOne X.K (.ref C) (.ref D)=some b) (hg:Gl X "isinstance") (hm:X.mg "isinstance" =none) (hN:X.N[i]? =some n) (hv:Vis X.env.scope n) (hgD:Gl X x) (hmD:X.mg x=some (.ref D))
  (hd:(n == ("__debug__" :Str))=false:=by decide) (hcd:(n == ("__classdict__" :Str))=false:=by decide) (hdD:(x == ("__debug__" :Str))=false:=by decide)
  (he:starEach (.Name n p1::[.Name x p2]) X.env=(false,eval (.Name n p1) X.env)::starEach [.Name x p2] X.env:=by rfl) (hpl:(backTo pos (starEach [.Name x p2] X.env)).any (·.1)=false:=by rfl) (he2:starEach (.Name x p2::[]) X.env=(false,eval (.Name x p2) X.env)::starEach [] X.env:=by rfl) :
  JE X (.Call (.Name "isinstance" p) [.Name n p1, .Name x p2] [] pos) (zjm i a b):=fun E hE=>
 (zcn (zfO hp hc O) hg hm PyProof.Rows.boot_isinstance (zaX (zhr hN hv hd hcd) (zaX (zih (v:= .ref D) hgD hmD rfl hdD) pa_nil he2) he) (by decide) (by decide) he hpl).mono fun σ H Q ⟨σW,S,QW,hσ,hS,⟨hi,h⟩,hQ⟩=>by
  obtain⟨v,e',r⟩:=hσ.get hi;have:=zhH r;subst this;exact⟨_,e', .ref D,b, .inl ⟨D,rfl,rfl⟩,hb,hQ (.bl b) S (.bl b) H .refl (.bl b) hS h⟩
theorem zli (hp:(a,oa)∈X.pn) (hc:oa.cls= .ref C) (O:XcOk X.K C) (hb:PySem.W.kitOne X.K (.ref C) (.type T')=some b) (hg:Gl X "isinstance") (hm:X.mg "isinstance" =none) (hN:X.N[i]? =some n) (hv:Vis X.env.scope n) (hgD:Gl X x) (hmD:X.mg x=none) (hvD:bootBuiltins x=some (.type T'))
  (hd:(n == ("__debug__" :Str))=false:=by decide) (hcd:(n == ("__classdict__" :Str))=false:=by decide) (hnD:x≠ "__name__" :=by decide) (hdD:(x == ("__debug__" :Str))=false:=by decide)
  (he:starEach (.Name n p1::[.Name x p2]) X.env=(false,eval (.Name n p1) X.env)::starEach [.Name x p2] X.env:=by rfl) (hpl:(backTo pos (starEach [.Name x p2] X.env)).any (·.1)=false:=by rfl) (he2:starEach (.Name x p2::[]) X.env=(false,eval (.Name x p2) X.env)::starEach [] X.env:=by rfl) :
  JE X (.Call (.Name "isinstance" p) [.Name n p1, .Name x p2] [] pos) (zjm i a b):=fun E hE=>
 (zcn (zfO hp hc O) hg hm PyProof.Rows.boot_isinstance (zaX (zhr hN hv hd hcd) (zaX (zii (v:= .ty T') hgD hmD hvD rfl hnD hdD) pa_nil he2) he) (by decide) (by decide) he hpl).mono fun σ H Q ⟨σW,S,QW,hσ,hS,⟨hi,h⟩,hQ⟩=>by
  obtain⟨v,e',r⟩:=hσ.get hi;have:=zhH r;subst this;exact⟨_,e', .type T',b, .inr ⟨T',rfl,rfl⟩,hb,hQ (.bl b) S (.bl b) H .refl (.bl b) hS h⟩
end
noncomputable def zei (cl D:Str):Bool:=cl == D || (D == "TurnError" || D == "ValueError")
theorem aln{P:Str→Prop}:∀cl∈([]:List Str),P cl:=fun _ h=>nomatch h
theorem alc{P:Str→Prop}{c:Str}{l:List Str}(h:P c) (t:∀cl∈l,P cl):∀cl∈c::l,P cl:=fun cl m=>by
 rcases List.mem_cons.mp m with rfl |m
 ·exact h
 ·exact t cl m
noncomputable def pmx (ns:List Int):Nat→Int
 |0=>ns.getD 0 0
 |j+1=>if ns.getD (j+1) 0 > pmx ns j then ns.getD (j+1) 0 else pmx ns j
section
variable {prog:Program}{w:World}{A:Around}{R:Result→Shared→Prop}{I:Addr}{fp wr:List Addr}{n:Nat}{P:Nat→Value→Prop}{St:Nat→Heap→Prop}
theorem zid (a d:Value):argsOk "max" ⟨[a],[("default",d)]⟩:=by unfold argsOk;kernel_rfl
theorem zhk (W:Walks prog w A.in1 I fp wr n P St) {ns:List Int}{d:Value}(hv:∀i v,P i v→ ∃t,v= .int (ns.getD i 0) t) (S:Addr) (hSf:S∉fp) :
  ∀(k j:Nat) (s:Shared) (u:Tok) (c:Nat),n - (j+1)=k→j+1≤n→St (j+1) s.heap→
  s.heap.get? S=some { cls:= .type "list",dict:=none,data:= .seq #[.int (pmx ns j) u, .int (pmx ns j) u] c,slots:= #[] }→
  (∀u' h' tk,(∀b o,b∉wr→b≠S→s.heap.get? b=some o→h'.get? b=some o)→R (.ok (.ret (.int (pmx ns (n - 1)) u'))) { s with heap:=h',toks:=tk })→
  codeAny (model prog w) A (.builtin "max.loop" ⟨[.ref I, .none, .ref S],[("default",d)]⟩) R s:=by
 have hSw:S∉wr:=fun h=>hSf (W.sub _ h);have hname:(toString "max" ++toString ".loop" :String)= "max.loop" :=by decide
 intro k
 induction k with
 |zero=>
  intro j s u c hk hj hst hS hR;have hin:j+1=n:=by omega
  refine codeAny_builtin F.entry_max_loop ?_;rw [Around.under_plainId F.plain_max_loop _];show wpAny _ A.in1 (seqItems? (.ref S) >>= _) _ _ s;refine wpAny_bind (wpAny_seqItems hS rfl ?_);show wpAny _ A.in1 (tryCatch (pyNext (.ref I)) _ >>= _) _ _ s;refine wpAny_bind (wpAny_tryCatch (W.done s _ _ (hin▸hst) fun h' tk hk'=>?_));have hS':=hk' S _ hSw hS;show wpAny _ A.in1 (updateSeq S (fun _=> #[]) >>= _) _ _ _;refine wpAny_bind (wpAny_updateSeq hS' rfl (wpAny_bind (wpAny_letGo (wpAny_pure ?_))));have e:n - 1=j:=by omega
  rw [←e];exact hR u _ tk fun b o hbw hbS e=>(Heap.get?_update_other _ _ (Ne.symm hbS)).trans (hk' b o hbw e)
 |succ k ih=>
  intro j s u c hk hj hst hS hR;have hlt:j+1<n:=by omega
  refine codeAny_builtin F.entry_max_loop ?_;rw [Around.under_plainId F.plain_max_loop _];show wpAny _ A.in1 (seqItems? (.ref S) >>= _) _ _ s;refine wpAny_bind (wpAny_seqItems hS rfl ?_);show wpAny _ A.in1 (tryCatch (pyNext (.ref I)) _ >>= _) _ _ s;refine wpAny_bind (wpAny_tryCatch (W.item (j+1) s _ _ hlt hst fun v h' tk hP hst' hk'=>?_));obtain⟨t,rfl⟩:=hv _ _ hP;have hS':=hk' S _ hSw hS;show wpAny _ A.in1 (tryCatch (holding [_,_] (richCompare .Gt _ _ >>= _)) _ >>= _) _ _ _;refine wpAny_bind (wpAny_tryCatch (wpAny_holding (wpAny_bind (PyProof.Rows.gt_int ?_:wpAny _ _ (compareOp .Gt _ _) _ _ _))));refine wpAny_bind (wpAny_holding (wpAny_truthy_bool ?_));refine wpAny_bind (wpAny_letGo (wpAny_pure ?_));by_cases hb:ns.getD (j+1) 0 > pmx ns j
  ·rw [decide_eq_true hb];simp only[if_true];have ep:pmx ns (j+1)=ns.getD (j+1) 0:=by rw [pmx,if_pos hb]
   refine wpAny_bind (wpAny_updateSeq hS' rfl (wpAny_bind (wpAny_letGo ?_)));rw [hname];refine wpAny_pure ⟨plainId_quiet F.plain_max_loop _,ih (j+1) _ t _ (by omega) hlt (W.frame _ _ _ hst' fun b hbf o e=>?_) (by rw [ep];exact Heap.get?_update_self _ hS' rfl) fun u' h'' tk'' hk''=>?_⟩
   ·exact(Heap.get?_update_other _ _ (fun h:S=b=>hSf (by rw [h];exact hbf))).trans e
   ·exact hR u' h'' tk'' fun b o hbw hbS e=>hk'' b o hbw hbS ((Heap.get?_update_other _ _ (Ne.symm hbS)).trans (hk' b o hbw e))
  ·rw [decide_eq_false hb];simp only[Bool.false_eq_true,if_false];have ep:pmx ns (j+1)=pmx ns j:=by rw [pmx,if_neg hb]
   refine wpAny_bind (wpAny_letGo ?_);rw [hname];refine wpAny_pure ⟨plainId_quiet F.plain_max_loop _,ih (j+1) _ u c (by omega) hlt hst' (by rw [ep];exact hS') fun u' h'' tk'' hk''=>?_⟩;exact hR u' h'' tk'' fun b o hbw hbS e=>hk'' b o hbw hbS (hk' b o hbw e)
theorem zgA (W:Walks prog w A.in1 I fp wr n P St) {ns:List Int}{x:Int}{t0:Tok}(hv:∀i v,P i v→ ∃t,v= .int (ns.getD i 0) t) (S:Addr) (hSf:S∉fp) {s:Shared}{c:Nat}(hst:St 0 s.heap)
  (hS:s.heap.get? S=some { cls:= .type "list",dict:=none,data:= .seq #[] c,slots:= #[] })
  (hR:∀u' h' tk,(∀b o,b∉wr→b≠S→s.heap.get? b=some o→h'.get? b=some o)→R (.ok (.ret (.int (if n=0 then x else pmx ns (n - 1)) u'))) { s with heap:=h',toks:=tk }) :
  codeAny (model prog w) A (.builtin "max.loop" ⟨[.ref I, .none, .ref S],[("default", .int x t0)]⟩) R s:=by
 have hSw:S∉wr:=fun h=>hSf (W.sub _ h);have hname:(toString "max" ++toString ".loop" :String)= "max.loop" :=by decide
 refine codeAny_builtin F.entry_max_loop ?_;rw [Around.under_plainId F.plain_max_loop _];show wpAny _ A.in1 (seqItems? (.ref S) >>= _) _ _ s;refine wpAny_bind (wpAny_seqItems hS rfl ?_);show wpAny _ A.in1 (tryCatch (pyNext (.ref I)) _ >>= _) _ _ s;rcases Nat.eq_zero_or_pos n with h0 |hn
 ·refine wpAny_bind (wpAny_tryCatch (W.done s _ _ (h0▸hst) fun h' tk hk'=>?_));show wpAny _ A.in1 (rule "max.default" >>= _) _ _ _;refine wpAny_bind (wpAny_rule ?_);refine wpAny_pure ?_;have:=hR t0 h' tk fun b o hbw _ e=>hk' b o hbw e;rw [if_pos h0]at this;exact this
 ·refine wpAny_bind (wpAny_tryCatch (W.item 0 s _ _ hn hst fun v h' tk hP hst' hk'=>?_));obtain⟨t,rfl⟩:=hv _ _ hP;have hS':=hk' S _ hSw hS;show wpAny _ A.in1 (updateSeq S (fun _=> #[_,_]) >>= _) _ _ _;refine wpAny_bind (wpAny_updateSeq hS' rfl ?_);rw [hname];refine wpAny_pure ⟨plainId_quiet F.plain_max_loop _,zhk W hv S hSf _ 0 _ t _ rfl hn (W.frame _ _ _ hst' fun b hbf o e=>?_) (Heap.get?_update_self _ hS' rfl) fun u' h'' tk'' hk''=>?_⟩
  ·exact(Heap.get?_update_other _ _ (fun h:S=b=>hSf (by rw [h];exact hbf))).trans e
  ·have:=hR u' h'' tk'' fun b o hbw hbS e=>hk'' b o hbw hbS ((Heap.get?_update_other _ _ (Ne.symm hbS)).trans (hk' b o hbw e));rw [if_neg (by omega)]at this;exact this
end
section
variable {X:Cx}
theorem zgU{pins:List (Addr×Obj)}{s:Shared}{σ:St}{H:Hp}{Q:VK}{p:Addr}{ns:List Int}{x:Int}{t0:Tok}(hc:X.calm=true) (I:Inv X pins σ H s) (hq:SqL X.K H p (ns.map V.int)) (q:Q (.int (if ns=[] then x else pmx ns (ns.length - 1))) H) :
  wpAny (model X.prog X.w) X.A (call (.builtin "max") [.ref p] [("default", .int x t0)]) (EP X pins σ Q) X.xe s:=by
 obtain⟨its,r',pl,hz⟩:=I.list hq;have hlen:ns.length=its.length:=by have:=r'.length;rw [List.length_map]at this;exact this
 have hp:p<s.heap.objs.size:=by obtain⟨o,n,e,_⟩:=pl;exact Heap.lt_size e
 have hd:X.A.in1.handled=none:=I.ok.hd hc;have get:∀(i:Nat) (v:Value),its.toArray[i]? =some v→ ∃t,v= .int (ns.getD i 0) t:=fun i v e=>by
  have e':its[i]? =some v:=by simpa using e
  have hi:i<ns.length:=by rw [hlen];exact(List.getElem?_eq_some_iff.mp e').1
  obtain⟨u,hu,ru⟩:=r'.get (i:=i) (x:= .int (ns.getD i 0)) (by rw [List.getElem?_map,List.getElem?_eq_getElem hi,List.getD_eq_getElem?_getD,List.getElem?_eq_getElem hi];rfl);rw [e']at hu;cases hu;exact ru
 have hname:(toString "max" ++toString ".loop" :String)= "max.loop" :=by decide
 refine PyProof.Rows.kmk_tree F.kind_max F.plain_max F.entry_max (zid _ _) ?_;show wpAny _ X.A.in1 (Builtin.Builtins.bindParams "max" ["key", "default"] 0 ⟨[],[("default", .int x t0)]⟩ >>= _) _ _ s;refine wpAny_bind (wpAny_of_eq (show Builtin.Builtins.bindParams "max" ["key", "default"] 0 ⟨[],[("default", .int x t0)]⟩=pure [none,some (.int x t0)] from rfl) ?_);refine wpAny_bind (wpAny_pure ?_);refine wpAny_bind (wpAny_pyIter_list pl.isList ?_);refine wpAny_bind (wpAny_newList ?_ (Nat.zero_le _));rw [hname];refine wpAny_pure ⟨plainId_quiet F.plain_max_loop _,?_⟩;have hsz:∀(h:Heap) (o:Obj),(h.push o).objs.size=h.objs.size+1:=fun h o=>Heap.size_push ..;refine zgA (prog:=X.prog) (w:=X.w) (A:=X.A) (n:=its.toArray.size) (ns:=ns) (x:=x) (t0:=t0) (Walks.list hd s.heap.objs.size p (Nat.ne_of_lt hp) its.toArray) get _ (fun hm=>?_) ?_ (c:=0) ?_ fun u' h' tk hk=>?_
 ·have hm':(s.heap.push { cls:= .type "list_iterator",data:= .fields #[.ref p, .int 0 0] }).objs.size∈ [s.heap.objs.size,p]:=hm;rw [hsz]at hm';rcases List.mem_cons.mp hm' with z |z
  ·exact absurd z (Nat.succ_ne_self _)
  ·exact absurd hp (by rw [←List.mem_singleton.mp z];exact Nat.not_lt_of_le (Nat.le_succ _))
 ·exact⟨⟨_,Heap.get?_push_of_some _ (Heap.get?_push_size _ rfl),rfl,rfl⟩,(pl.isList.push _).push _⟩
 ·exact Heap.get?_push_size _ rfl
 ·have e:(if its.toArray.size=0 then x else pmx ns (its.toArray.size - 1))=(if ns=[] then x else pmx ns (ns.length - 1)):=by
   rw [List.size_toArray,←hlen];cases ns<;>simp
  rw [e];refine⟨.int _,H,I.kept fun b o e=>hk b o (fun z=>?_) (fun z=>?_) (Heap.get?_push_of_some _ (Heap.get?_push_of_some _ e)),⟨u',rfl⟩,q⟩
  ·have z':b=s.heap.objs.size:=by simpa using z
   rw [z']at e;exact absurd (Heap.lt_size e) (Nat.lt_irrefl _)
  ·have h1:=Heap.lt_size e;have z':b=s.heap.objs.size+1:=z.trans (hsz _ _);rw [z']at h1;exact absurd h1 (Nat.not_lt_of_le (Nat.le_succ _))
noncomputable def zfW (tl:WL) (td:WE):WE:=fun E σ S Q=>tl E σ S fun ws S1=>td E σ S1 fun w S2=>match zbq ws,w with
 |some ns, .int x=>Q (.int (if ns=[] then x else pmx ns (ns.length - 1))) S2
 |_,_=>False
theorem zgu{tl:WL}{td:WE}{E:WX}{σ:WSt}{S:Sto}{Q:WK}:zfW tl td E σ S Q=tl E σ S fun ws S1=>td E σ S1 fun w S2=>match zbq ws,w with
 |some ns, .int x=>Q (.int (if ns=[] then x else pmx ns (ns.length - 1))) S2
 |_,_=>False:=rfl
theorem zgj{p pos kp kp2:Pos}{e:Expr}{j:Nat}{x:Int}{tl:WL}(hg:Gl X "max") (hm:X.mg "max" =none) (ha:JL X e tl)
  (he:starEach [e] X.env=(false,eval e X.env)::starEach [] X.env:=by rfl) (hcl:X.calm=true:=by rfl):JE X (.Call (.Name "max" p) [e] [⟨some "default", .Constant (.int x) j kp,kp2⟩] pos) (zfW tl (wC (.int x))):=fun E hE=>by
 intro pins s σ H Q I h;obtain⟨σW,S,QW,hσ,hS,ht,hQ⟩:=h;refine wpAny_Call_Name_kw (zff I hg hm PyProof.Rows.boot_max ?_ (by decide) (by decide));refine callWith_kw (env:=X.env) ?_ (by rw [he];rfl) (by rw [he];rfl);refine thn (zaX (ha E hE) pa_nil he pos pins s σ H (fun vs H1=>∃a ns,vs=[.ref a]∧SqL X.K H1 a (ns.map V.int)∧Q (.int (if ns=[] then x else pmx ns (ns.length - 1))) H1) I ⟨σW,S,_,hσ,hS,ht,fun ws S1 vs a H1 e1 fa ea na r1 hS1 h1=>?_⟩) fun us s1 ⟨vs,H1,I1,r1,a,ns,hvs,hq,q1⟩=>?_
 ·have h2:(match zbq ws,W.int x with
   |some ns, .int x=>QW (.int (if ns=[] then x else pmx ns (ns.length - 1))) S1
   |_,_=>False):=h1
  cases ei:zbq ws with
  |none=>rw [ei]at h2;exact h2.elim
  |some ns=>
   rw [ei]at h2;have:=zce r1 ei;subst this;exact⟨a,ns,rfl, .of ea,hQ _ S1 _ H1 e1 (.int _) hS1 h2⟩
 ·subst hvs;obtain⟨u,rfl,rx⟩:=zfu r1;cases rx;refine kws_cons (wpAny_Constant_int (kws_nil ?_));exact zgU hcl (I1.tok _) hq q1
end
inductive Tr where
  |bl (n:Int)
  |nd (s:Str) (ts:List Tr)
noncomputable def Tr.kids:Tr→List Tr
 | .bl _=>[]
 | .nd _ ts=>ts
mutual
noncomputable def Tr.weight:Tr→Nat
 | .bl _=>1
 | .nd _ ts=>1+wts ts
noncomputable def wts:List Tr→Nat
 | []=>0
 |t::ts=>t.weight+wts ts
end
mutual
noncomputable def Tr.depth:Tr→Nat
 | .bl _=>1
 | .nd _ ts=>1+dts ts
noncomputable def dts:List Tr→Nat
 | []=>0
 |t::ts=>max t.depth (dts ts)
end
theorem zhc:wts []=0:=by unfold wts;rfl
theorem zcj (t:Tr) (ts:List Tr):wts (t::ts)=t.weight+wts ts:=by
 conv=>lhs;unfold wts
theorem zdw:∀(ts us:List Tr),wts (ts++us)=wts ts+wts us
 | [],us=>by
  show wts us=wts []+wts us;rw [zhc];omega
 |t::ts,us=>by
  show wts (t::(ts++us))=_;rw [zcj,zcj,zdw ts us];omega
theorem zgV:dts []=0:=by unfold dts;rfl
theorem zcM (t:Tr) (ts:List Tr):dts (t::ts)=max t.depth (dts ts):=by
 conv=>lhs;unfold dts
theorem zdj (t:Tr):t.weight=1+wts t.kids:=by
 cases t with
 |bl n=>
  show Tr.weight (.bl n)=1+wts [];unfold Tr.weight wts;rfl
 |nd s ts=>
  show Tr.weight (.nd s ts)=1+wts ts
  conv=>lhs;unfold Tr.weight
theorem zcx (t:Tr):t.depth=1+dts t.kids:=by
 cases t with
 |bl n=>
  show Tr.depth (.bl n)=1+dts [];unfold Tr.depth dts;rfl
 |nd s ts=>
  show Tr.depth (.nd s ts)=1+dts ts
  conv=>lhs;unfold Tr.depth
theorem zgE (t:Tr):1≤t.weight:=by rw [zdj];omega
theorem zaK (t:Tr):1≤t.depth:=by rw [zcx];omega
theorem zdx:∀(ts us:List Tr),dts (ts++us)=max (dts ts) (dts us)
 | [],us=>by
  show dts us=max (dts []) (dts us);rw [zgV];omega
 |t::ts,us=>by
  show dts (t::(ts++us))=_;rw [zcM,zcM,zdx ts us];exact(Nat.max_assoc _ _ _).symm
theorem zbu:∀(ts:List Tr),ts.length≤wts ts
 | []=>Nat.zero_le _
 |t::ts=>by
  have:=zbu ts;have:=zgE t;rw [zcj,List.length_cons];omega
theorem zbW{t:Tr}:∀{ts:List Tr},t∈ts→t.weight≤wts ts
 | [],h=>by cases h
 |u::ts,h=>by
  rw [zcj];rcases List.mem_cons.mp h with e |h
  ·rw [e];omega
  ·have:=zbW h;omega
theorem zgc:∀{ts:List Tr},ts≠ []→dts ts=1+dts (ts.flatMap Tr.kids)
 | [],h=>absurd rfl h
 | [t],_=>by
  rw [List.flatMap_cons,List.flatMap_nil,List.append_nil,zcM,zgV,zcx];omega
 |t::u::r,_=>by
  have ih:=zgc (ts:=u::r) (by simp);have e:(t::u::r).flatMap Tr.kids=t.kids++(u::r).flatMap Tr.kids:=List.flatMap_cons ..;rw [zcM,ih,e,zdx,zcx];omega
theorem zgt:∀(ts:List Tr),wts (ts.flatMap Tr.kids)+ts.length=wts ts
 | []=>by rw [List.flatMap_nil,zhc];rfl
 |t::ts=>by
  have ih:=zgt ts;rw [List.flatMap_cons,zdw,zcj,List.length_cons,zdj];omega
mutual
noncomputable def enc:Tr→W
 | .bl n=> .int n
 | .nd s ts=> .tup (.str s::encs ts)
noncomputable def encs:List Tr→List W
 | []=>[]
 |t::ts=>enc t::encs ts
end
theorem zar:∀ts:List Tr,encs ts=ts.map enc
 | []=>by simp [encs]
 |t::ts=>by simp [encs,zar ts]
theorem zck (ts:List Tr):(encs ts).length=ts.length:=by rw [zar,List.length_map]
theorem zfG:zaJ "int" "int" =true:=by decide +kernel
theorem zeq:zaJ "int" "bool" =false:=by decide +kernel
theorem zfj:zaJ "int" "str" =false:=by decide +kernel
theorem zdR:zaJ "int" "tuple" =false:=by decide +kernel
theorem zeN:zaJ "int" "list" =false:=by decide +kernel
theorem zeu:zaJ "bool" "int" =true:=by decide +kernel
theorem zdQ:zaJ "bool" "bool" =true:=by decide +kernel
theorem zeJ:zaJ "bool" "str" =false:=by decide +kernel
theorem zdp:zaJ "bool" "tuple" =false:=by decide +kernel
theorem zec:zaJ "bool" "list" =false:=by decide +kernel
theorem zfo:zaJ "str" "int" =false:=by decide +kernel
theorem zel:zaJ "str" "bool" =false:=by decide +kernel
theorem zfA:zaJ "str" "str" =true:=by decide +kernel
theorem zeb:zaJ "str" "tuple" =false:=by decide +kernel
theorem zeL:zaJ "str" "list" =false:=by decide +kernel
theorem zdL:zaJ "tuple" "int" =false:=by decide +kernel
theorem zdo:zaJ "tuple" "bool" =false:=by decide +kernel
theorem zdI:zaJ "tuple" "str" =false:=by decide +kernel
theorem sub_tuple_tuple:zaJ "tuple" "tuple" =true:=by decide +kernel
theorem sub_tuple_list:zaJ "tuple" "list" =false:=by decide +kernel
theorem zes:zaJ "list" "int" =false:=by decide +kernel
theorem zee:zaJ "list" "bool" =false:=by decide +kernel
theorem zeD:zaJ "list" "str" =false:=by decide +kernel
theorem sub_list_tuple:zaJ "list" "tuple" =false:=by decide +kernel
theorem sub_list_list:zaJ "list" "list" =true:=by decide +kernel
section
variable {α:Type}{x:α}{xs:List α}
theorem zjp (n:Nat):zcv xs (some (n:Int)) none=xs.drop n:=by
 unfold zcv;rw [HT.sIx_nat,HT.sIx_none];by_cases h:n≤xs.length
 ·rw [Nat.min_eq_left h,List.take_of_length_le (by rw [List.length_drop];omega)]
 ·rw [Nat.min_eq_right (by omega),List.drop_of_length_le (Nat.le_refl _),List.drop_of_length_le (by omega),List.take_nil]
theorem zjC (n:Nat):zcv xs none (some (n:Int))=xs.take n:=by
 unfold zcv;rw [HT.sIx_nat,HT.sIx_none,List.drop_zero,Nat.sub_zero];by_cases h:n≤xs.length
 ·rw [Nat.min_eq_left h]
 ·rw [Nat.min_eq_right (by omega),List.take_length,List.take_of_length_le (by omega)]
theorem zlz:zcv (x::xs) (some 1) none=xs:=by rw [show(1:Int)=((1:Nat):Int) from rfl,zjp];rfl
theorem zbM{n:Nat}:atI xs (n:Int)=xs[n]? :=by
 unfold atI ixN;rw [if_pos (by omega)];by_cases h:n<xs.length
 ·rw [if_pos (by omega)];simp
 ·rw [if_neg (by omega)];simp;omega
theorem zgs:atI (x::xs) 0=some x:=zbM (n:=0)
end
section
variable {S S':Sto}{a b:Addr}{o:Ob}{Q:List W→Prop}{ws:List W}
theorem zdT:zaU (put S a (.lst ws)) a Q=Q ws:=zaq zaj
theorem zcQ (h:put S a o b=none):S b=none∧b≠a:=by
 have hb:b≠a:=by rintro rfl;rw [zaj]at h;cases h
 rw [zbg hb]at h;exact⟨h,hb⟩
theorem zkZ{u:Ob}(h:S a=some u) (n:S b=none):a≠b:=by rintro rfl;rw [h]at n;cases n
theorem Sub.put (h:Sub S S') (n:S a=none):Sub S (L2.put S' a o):=fun b u e=>by rw [zbg (zkZ e n)];exact h b u e
theorem Sub.put2{u:Ob}(h:Sub S S'):Sub (L2.put S a u) (L2.put S' a u):=fun b w e=>by
 by_cases hb:b=a
 ·subst hb;rw [zaj]at e⊢;exact e
 ·rw [zbg hb]at e⊢;exact h b w e
end
theorem zmG (S:Sto) (a b:Int):eqF S 60 (.int a) (.int b)=some (a == b):=by have h:eqF S 60 (.int a) (.int b)=some (a == b):=rfl;exact h
theorem znE (S:Sto) (a b:Str):eqF S 60 (.str a) (.str b)=some (a == b):=by have h:eqF S 60 (.str a) (.str b)=some (a == b):=rfl;exact h
theorem zoN (S:Sto) (a b:Bool):eqF S 60 (.bl a) (.bl b)=some (a == b):=by have h:eqF S 60 (.bl a) (.bl b)=some (a == b):=rfl;exact h
theorem zag{n:Nat}(h:n≤16777216):n≤sizeLine:=by rw [sizeLine_eq];exact h
theorem zfl{n:Nat}(h:n<16777216):n<sizeLine:=by rw [sizeLine_eq];exact h
section
variable {S:Sto}{Q:WK}{QB:Bool→Sto→Prop}{QS:List W→(Sto→Prop)→Prop}{QT:String→Prop}
theorem zjY{a:Addr}{o:Ob}(h:S a=some o):put S a o=S:=by
 funext b;unfold put;split
 ·rename_i e;rw [e,h]
 ·rfl
theorem _root_.pz{a b:Prop}(h:a→b) (g:b→a):a=b:=propext ⟨h,g⟩
theorem zjq{b:Bool}:zjZ (.bl b) S QB=QB b S:=pz id id
theorem zhe{i:Int}:zjZ (.int i) S QB=QB (i != 0) S:=pz id id
theorem zhw{ws:List W}:zjZ (.tup ws) S QB=QB (!ws.isEmpty) S:=pz id id
theorem zhC{a:Addr}:zjZ (.ref a) S QB=zaU S a fun ws=>QB (!ws.isEmpty) S:=pz id id
theorem zhU:zjZ .non S QB=QB false S:=pz id id
theorem zgY{ws:List W}:zpy (.tup ws) S QS=QS ws fun _=>True:=pz id id
theorem ziA{a:Addr}:zpy (.ref a) S QS=zaU S a fun ws=>QS ws fun S'=>S' a=some (.lst ws):=pz id id
theorem zkU{b:Bool}:tyW (.bl b) S QT=QT "bool" :=pz id id
theorem ziP{i:Int}:tyW (.int i) S QT=QT "int" :=pz id id
theorem ziH{i:Str}:tyW (.str i) S QT=QT "str" :=pz id id
theorem zjS{i:List W}:tyW (.tup i) S QT=QT "tuple" :=pz id id
theorem zjN:tyW .non S QT=QT "NoneType" :=pz id id
theorem zjz{a:Addr}:tyW (.ref a) S QT=zaU S a fun _=>QT "list" :=pz id id
theorem zia{i j:Int}:zeh (.int i) (.int j) S Q=Q (.int (i+j)) S:=pz id id
theorem zgZ{i j:Str}:zeh (.str i) (.str j) S Q=(i.length+j.length≤sizeLine∧Q (.str (i++j)) S):=pz id id
theorem zhQ{i j:List W}:zeh (.tup i) (.tup j) S Q=(i.length+j.length≤sizeLine∧Q (.tup (i++j)) S):=pz id id
theorem zhO{a b:Addr}:zeh (.ref a) (.ref b) S Q=zaU S a fun xs=>zaU S b fun ys=>xs.length+ys.length≤sizeLine∧ ∀p,S p=none→Q (.ref p) (put S p (.lst (xs++ys))):=pz id id
theorem zoS{C:Int→Int→Prop}{g:Int→Int→W}{i j:Int}:zcJ C g (.int i) (.int j) S Q=(C i j∧Q (g i j) S):=pz id id
theorem zmk{g:Int→Int→W}{i j:Int}:zfg g (.int i) (.int j) S Q=Q (g i j) S:=pz id id
theorem zju{i j:Int}:oLe (.int i) (.int j) S Q=Q (.bl (decide (i≤j))) S:=pz id id
theorem zjR{i j:Str}:oLe (.str i) (.str j) S Q=Q (.bl (!decide (j.cps.toList<i.cps.toList))) S:=pz id id
theorem zix{us:List W}:ziC [.tup us] S Q=Q (.int us.length) S:=pz id id
theorem zhy{a:Addr}:ziC [.ref a] S Q=zaU S a fun us=>Q (.int us.length) S:=pz id id
theorem ziu{ns:List Int}:ziC [.scr ns] S Q=Q (.int ns.length) S:=pz id id
theorem zhp{z:Str}:ziC [.str z] S Q=(z.length≤sizeLine∧Q (.int z.length) S):=pz id id
theorem zjy{ws:List W}{i:Int}:oIx (.tup ws) (.int i) S Q=match atI ws i with
 |some w=>Q w S
 |none=>False:=pz id id
theorem zjk{a:Addr}{i:Int}:oIx (.ref a) (.int i) S Q=zaU S a fun ws=>match atI ws i with
 |some w=>Q w S
 |none=>False:=pz id id
theorem zjt{ns:List Int}{i:Int}:oIx (.scr ns) (.int i) S Q=match atI ns i with
 |some n=>Q (.int n) S
 |none=>False:=pz id id
theorem ziQ{x:Str}{i:Int}:oIx (.str x) (.int i) S Q=(x.length≤sizeLine∧match atI x.cps.toList i with
 |some c=>Q (.str ⟨#[c]⟩) S
 |none=>False):=pz id id
theorem ziV{ws:List W}{lo hi:Option Int}:oSl (.tup ws) lo hi S Q=Q (.tup (zcv ws lo hi)) S:=pz id id
theorem ziE{z:Str}{lo hi:Option Int}:oSl (.str z) lo hi S Q=(z.length≤sizeLine∧Q (.str (Txt.slice z lo hi)) S):=pz id id
theorem zjs{a:Addr}{lo hi:Option Int}:oSl (.ref a) lo hi S Q=zaU S a fun ws=>∀p,S p=none→Q (.ref p) (put S p (.lst (zcv ws lo hi))):=pz id id
theorem ziL{ns:List Int}{lo hi:Option Int}:oSl (.scr ns) lo hi S Q= ∀p,S p=none→Q (.ref p) (put S p (.lst ((zcv ns lo hi).map W.int))):=pz id id
theorem zfr{us:List W}:zdD [.tup us] S Q=Q (.tup us) S:=pz id id
theorem zfk{a:Addr}:zdD [.ref a] S Q=zaU S a fun us=>Q (.tup us) S:=pz id id
theorem ziR{a:Addr}{y:W}:zdg (.ref a) [y] S Q=zaU S a fun xs=>xs.length<sizeLine∧Q .non (put S a (.lst (xs++[y]))):=pz id id
theorem zpq{a:Addr}:zpN (.ref a) [] S Q=zaU S a fun xs=>match xs[xs.length - 1]? with
 |some y=>Q y (put S a (.lst xs.dropLast))
 |none=>False:=pz id id
theorem zek{a:Addr}{ys:List W}:zcX (.ref a) [.tup ys] S Q=zaU S a fun xs=>xs.length+ys.length≤sizeLine∧Q .non (put S a (.lst (xs++ys))):=pz id id
theorem zfe{a b:Addr}:zcX (.ref a) [.ref b] S Q=zaU S a fun xs=>zaU S b fun ys=>xs.length+ys.length≤sizeLine∧Q .non (put S a (.lst (xs++ys))):=pz id id
theorem zhW{a:Addr}{ws:List W}:zjF (.ref a) ws S Q=zaU S a fun xs=>xs.length+ws.length≤sizeLine∧Q .non (put S a (.lst (xs++ws))):=pz id id
theorem zon{a:Addr}:rvL (.ref a) S=zaU S a fun _=>True:=pz id id
theorem zot{x:Str}:rvS (.str x) S=True:=pz id id
theorem ziY{b:Bool}:zno [.bl b] S Q=Q (.int (if b then 1 else 0)) S:=pz id id
theorem zis{i:Int}:zno [.int i] S Q=Q (.int i) S:=pz id id
theorem zmS{i j:Int}:zoU [.int i, .int j] S Q=Q (.int (if j > i then j else i)) S:=pz id id
theorem znb{i j:Int}:zoe [.int i, .int j] S Q=Q (.int (if j<i then j else i)) S:=pz id id
theorem znP{z:Str}{ws:List W}:zeV (.str z) ws S Q=match zcD ws with
 |some ys=>(ys.map (·.length)).sum+ys.length*z.length≤16777216∧Q (.str (Str.join z ys)) S
 |none=>False:=pz id id
theorem zlD{z y:Str}:zmK (.str z) [.str y] S Q=match Builtin.Str.occurrences z y 0 z.length 1 with
 |i::_=>Q (.int i) S
 | []=>False:=pz id id
theorem ziM{neg:Bool}:oIs neg .non .non S Q=Q (.bl (!neg)) S:=pz id id
theorem zkW{neg a b:Bool}:oIs neg (.bl a) (.bl b) S Q=Q (.bl (if neg then a != b else a == b)) S:=pz id id
theorem zlJ{neg a:Bool}:oIs neg (.bl a) .non S Q=Q (.bl neg) S:=pz id id
theorem zlr{neg:Bool}{ws:List W}:oIs neg (.tup ws) .non S Q=Q (.bl neg) S:=pz id id
theorem zlf{neg:Bool}{a:Addr}:oIs neg (.ref a) .non S Q=Q (.bl neg) S:=pz id id
theorem zkR{neg:Bool}{a:Int}:oIs neg (.int a) .non S Q=Q (.bl neg) S:=pz id id
theorem zjh{neg:Bool}{x:W}{ws:List W}:oIn neg x (.tup ws) S Q=match inF S x ws with
 |some b=>Q (.bl (if neg then !b else b)) S
 |none=>False:=pz id id
theorem zjx{neg:Bool}{x:W}{a:Addr}:oIn neg x (.ref a) S Q=zaU S a fun ws=>match inF S x ws with
 |some b=>Q (.bl (if neg then !b else b)) S
 |none=>False:=pz id id
theorem ziO{neg:Bool}{i j:Str}:oIn neg (.str i) (.str j) S Q=Q (.bl (if neg then !(!(Builtin.Str.occurrences j i 0 j.length 1).isEmpty) else !(Builtin.Str.occurrences j i 0 j.length 1).isEmpty)) S:=pz id id
end
theorem zgX{g:WG}{b:WS}{E:WX}{D:WEnds}{G:Sto→Prop}(I:List W→WSt→Sto→Prop)
  (step:∀w ws σ S (N:WSt→Sto→Prop),I (w::ws) σ S→(∀σ' S' S'',Sub S'' S'→G S''→I ws σ' S''→N σ' S')→g w σ S fun σ1 S1=>b E { D with nx:=N,ct:=N,bk:=D.nx } σ1 S1)
  (done:∀σ S,I [] σ S→D.nx σ S):∀(ws:List W) (σ:WSt) (S:Sto),I ws σ S→zdF g b E D G ws σ S
 | [],σ,S,h=>done σ S h
 |w::ws,σ,S,h=>step w ws σ S _ h fun σ' S' S'' sb hG hI=>⟨S'',sb,hG,zgX I step done ws σ' S'' hI⟩
section
variable {E:WX}{σ:WSt}{S:Sto}{Q:WK}{QB:Bool→Sto→Prop}{QA:List W→Sto→Prop}{QI:List W→(Sto→Prop)→Sto→Prop}{QO:Option Int→Sto→Prop}{P:WSt→Sto→Prop}{D:WEnds}{w x y:W}{ws:List W}{EX:Str→Sto→Prop}
theorem zmU{i:Nat}:(zah i E σ S Q)=(match σ[i]? with
 |some (some w)=>Q w S
 |_=>False):=pz id id
theorem zqa{w:W}:(wC w E σ S Q)=(Q w S):=pz id id
theorem zpi{r:W2}{a b:WE}:(wOp r a b E σ S Q)=(a E σ S fun x S1=>b E σ S1 fun y S2=>r x y S2 Q):=pz id id
theorem zmq{t:WE}:(ziB t E σ S QB)=(t E σ S fun w S'=>zjZ w S' QB):=pz id id
theorem zod{t:WE}:(wTb t E σ S QB)=(t E σ S fun w S'=>match w with
 | .bl b=>QB b S'
 |_=>False):=pz id id
theorem zmO{t u:WT}:(zoy t u E σ S QB)=(t E σ S fun c S1=>if c=true then u E σ S1 QB else QB false S1):=pz id id
theorem zpj{t u:WT}:(wOr t u E σ S QB)=(t E σ S fun c S1=>if c=true then QB true S1 else u E σ S1 QB):=pz id id
theorem znC{t:WT}:(znY t E σ S QB)=(t E σ S fun c S1=>QB (!c) S1):=pz id id
theorem zmt{c:WT}{t u:WS}:(zdm c t u E D σ S)=(c E σ S fun b S1=>if b=true then t E D σ S1 else u E D σ S1):=pz id id
theorem zlG:(zby  E D σ S)=(D.nx σ S):=pz id id
theorem znm{t u:WS}:(zaL t u E D σ S)=(t E { D with nx:=u E D } σ S):=pz id id
theorem znh{e:WE}:(zbI e E D σ S)=(e E σ S D.rt):=pz id id
theorem zlH{e:WE}:(zhd e E D σ S)=(e E σ S fun _ S1=>D.nx σ S1):=pz id id
theorem zpe{i:Nat}:(wGN i w σ S P)=(P (σ.set i (some w)) S):=pz id id
theorem znU{e:WE}{g:WG}:(wAsg e g E D σ S)=(e E σ S fun w S1=>g w σ S1 D.nx):=pz id id
theorem zlq:(zhS  ws σ S P)=(match ws with
 | []=>P σ S
 |_=>False):=pz id id
theorem zjw{g:WG}{u:WGs}:(zdC g u ws σ S P)=(match ws with
 | []=>False
 |w::r=>g w σ S fun σ' S'=>u r σ' S' P):=pz id id
theorem zpt{u:WGs}:(wGT u w σ S P)=(match w with
 | .tup ws=>u ws σ S P
 |_=>False):=pz id id
theorem zkL:(waNil  E σ S QA)=(QA [] S):=pz id id
theorem zjg{t:WE}{u:WA}:(zab t u E σ S QA)=(t E σ S fun w S1=>u E σ S1 fun ws S2=>QA (w::ws) S2):=pz id id
theorem znG{t:WA}:(zbO t E σ S Q)=(t E σ S fun ws S1=>ws.length≤sizeLine∧Q (.tup ws) S1):=pz id id
theorem znT{t:WA}:(zeg t E σ S QA)=(t E σ S fun ws S1=>ws.length≤sizeLine∧QA ws S1):=pz id id
theorem zni{t:WL}:(zdn t E σ S Q)=(t E σ S fun ws S1=>∀a,S1 a=none→Q (.ref a) (put S1 a (.lst ws))):=pz id id
theorem zla{c:WSp}{t:WA}:(zaE c t E σ S Q)=(t E σ S fun ws S1=>c ws S1 Q fun cl S2=>E cl σ S2):=pz id id
theorem zkn{n k:Nat}{body:WS}:(zdq n k body ws S Q EX)=(ws.length=k∧body (fun c _ S'=>EX c S') { nx:=fun _ S'=>∃S'',Sub S'' S'∧Q .non S'',rt:=fun w S'=>∃S'',Sub S'' S'∧Q w S'' } (ws.map some++List.replicate (n - k) none) S):=pz id id
theorem zpB{t:WE}:(zpR t E σ S Q)=(t E σ S fun w S1=>match w with
 | .int i=>Q (.int (-i)) S1
 |_=>False):=pz id id
theorem zpb{t u:WE}:(zpx t u E σ S QA)=(t E σ S fun x S1=>u E σ S1 fun y S2=>match x,y with
 | .ref a, .ref b=>zaU S2 a fun xs=>zaU S2 b fun ys=>xs.length+ys.length≤sizeLine∧QA (xs++ys) S2
 |_,_=>False):=pz id id
theorem zoI{neg:Bool}:(oEq neg x y S Q)=(match eqF S 60 x y with
 |some b=>Q (.bl (if neg then !b else b)) S
 |none=>False):=pz id id
theorem zpm:(woN  E σ S QO)=(QO none S):=pz id id
theorem zoo{t:WE}:(woS t E σ S QO)=(t E σ S fun w S1=>match w with
 | .int i=>QO (some i) S1
 |_=>False):=pz id id
theorem zpr{t:WE}{l h:WO}:(wSl t l h E σ S Q)=(t E σ S fun x S1=>l E σ S1 fun lo S2=>h E σ S2 fun hi S3=>oSl x lo hi S3 Q):=pz id id
theorem zpL{f:WF}{t:WA}:(wB f t E σ S Q)=(t E σ S fun ws S1=>f ws S1 Q):=pz id id
theorem zoF{f:WF}{t:WL}:(wBL f t E σ S Q)=(t E σ S fun ws S1=>f ws S1 Q):=pz id id
theorem zgW:(zdk  ws S Q)=(Q (.tup ws) S):=pz id id
theorem zme{T:String}{t:WE}:(zlU T t E σ S Q)=(t E σ S fun w S1=>tyW w S1 fun A=>Q (.bl (zaJ A T)) S1):=pz id id
theorem zqj{rv:W→Sto→Prop}{f:WMf}{to:WE}{t:WA}:(wM rv f to t E σ S Q)=(to E σ S fun w S1=>rv w S1∧t E σ S1 fun ws S2=>f w ws S2 Q):=pz id id
theorem zoZ{rv:W→Sto→Prop}{f:WMf}{to:WE}{t:WL}:(wML rv f to t E σ S Q)=(to E σ S fun w S1=>rv w S1∧t E σ S1 fun ws S2=>f w ws S2 Q):=pz id id
theorem zmn{i:Nat}{g:Int→Int→Int}{e:WE}:(znz i g e E D σ S)=(match σ[i]? with
 |some (some (.int a))=>e E σ S fun w S1=>match w with
  | .int b=>D.nx (σ.set i (some (.int (g a b)))) S1
  |_=>False
 |_=>False):=pz id id
theorem znA{q:WI}{g:WG}{b:WS}:(ziD q g b E D σ S)=(q E σ S fun ws G S1=>zdF g b E D G ws σ S1):=pz id id
theorem zoh{t:WE}:(wIv t E σ S QI)=(t E σ S fun w S1=>match w with
 | .tup ws=>QI ws (fun _=>True) S1
 | .ref a=>zaU S1 a fun ws=>QI ws (fun S'=>S' a=some (.lst ws)) S1
 | .scr ns=>QI (ns.map W.int) (fun _=>True) S1
 | .str z=>QI (zfm z) (fun _=>True) S1
 |_=>False):=pz id id
theorem zpg{t:WL}:(wIl t E σ S QI)=(t E σ S fun ws S1=>QI ws (fun _=>True) S1):=pz id id
theorem zmm{t:WA}:(zlR t E σ S QI)=(t E σ S fun ws S1=>match ws with
 | [.int j]=>(-(2 ^ 62)≤j∧j<2 ^ 62)∧QI (zhJ 0 j.toNat) (fun _=>True) S1
 |_=>False):=pz id id
theorem zmT:(zfq  E σ S QB)=(QB true S):=pz id id
theorem zlg{k:Nat}{fr:List Nat}{q:WI}{g:WG}{c:WT}{e:WE}:(zbV k fr q g c e E σ S QA)=(q noE σ S fun ws G S1=>zdt g c e noE G QA ws [] (List.replicate k none++fr.map fun j=>(σ[j]?).join) S1):=pz id id
theorem zkw{t:WE}{l h:WO}:(zoK t l h E σ S QA)=(t E σ S fun x S1=>l E σ S1 fun lo S2=>h E σ S2 fun hi S3=>match x with
 | .ref a=>zaU S3 a fun ws=>QA (zcv ws lo hi) S3
 | .scr ns=>QA ((zcv ns lo hi).map W.int) S3
 |_=>False):=pz id id
theorem znM{t:WL}{u:WE}:(zpk t u E σ S Q)=(t E σ S fun ws S1=>u E σ S1 fun y S2=>match y with
 | .int i=>match atI ws i with
  |some w=>Q w S2
  |none=>False
 |_=>False):=pz id id
theorem zkX{t:WE}{u:WL}:(zkS t u E σ S QA)=(t E σ S fun x S1=>u E σ S1 fun ys S2=>match x with
 | .ref a=>zaU S2 a fun xs=>xs.length+ys.length≤sizeLine∧QA (xs++ys) S2
 |_=>False):=pz id id
theorem zlE{t u:WL}:(zlp t u E σ S QA)=(t E σ S fun xs S1=>u E σ S1 fun ys S2=>xs.length+ys.length≤sizeLine∧QA (xs++ys) S2):=pz id id
end
section
variable {S:Sto}{Q:WK}
theorem zmv{xs:List W}{k:Int}:ziZ (.tup xs) (.int k) S Q=((xs≠ []∧ -(2 ^ 63)≤k∧k<2 ^ 63∧xs.length*k.toNat≤sizeLine)∧Q (.tup (List.replicate k.toNat xs).flatten) S):=pz id id
theorem zlC{ws:List W}:(zgJ ws S Q)=(match zbq ws with
 |some ns=>Q (.int ns.sum) S
 |none=>False):=pz id id
theorem zlM{z:Str}:zfP (.str z) [] S Q=(z.length≤5592405∧Q (.str (Txt.upper z)) S):=pz id id
end
end L2
end
section
def L2.wZ (d:String):Lean.MacroM (Lean.TSyntax `tactic):=do
  let a:Array Lean.Term:=(("L2.zmU L2.zqa L2.zpi L2.zmq L2.zod L2.zmO L2.zpj L2.znC L2.zmt L2.zlG L2.znm L2.znh L2.zlH L2.zpe L2.znU L2.zlq L2.zjw L2.zpt L2.zkL L2.zjg L2.znG L2.znT L2.zni L2.zla L2.zkn L2.zoI L2.zpm L2.zoo L2.zpr L2.zpL L2.zoF L2.zgW L2.zme L2.zqj L2.zoZ L2.zmn L2.znA L2.zoh L2.zpg L2.zmm L2.zmT L2.zlg L2.zkw L2.znM L2.zkX L2.zlE zjJ zmR zns ziJ L2.zmv L2.zlC L2.zlM L2.zdT L2.zcd L2.zmG L2.znE L2.zoN L2.zlz L2.zgs L2.zfG L2.zeq L2.zfj L2.zdR L2.zeN L2.zeu L2.zdQ L2.zeJ L2.zdp L2.zec L2.zfo L2.zel L2.zfA L2.zeb L2.zeL L2.zdL L2.zdo L2.zdI L2.sub_tuple_tuple L2.sub_tuple_list L2.zes L2.zee L2.zeD L2.sub_list_tuple L2.sub_list_list L2.zjq L2.zhe L2.zhw L2.zhC L2.zhU L2.zgY L2.ziA L2.zkU L2.ziP L2.ziH L2.zjS L2.zjN L2.zjz L2.zia L2.zgZ L2.zhQ L2.zhO L2.zoS L2.zmk L2.zju L2.zjR L2.zix L2.zhy L2.ziu L2.zhp L2.zjy L2.zjk L2.zjt L2.ziQ L2.ziV L2.ziE L2.zjs L2.ziL L2.zfr L2.zfk L2.ziR L2.zpq L2.zek L2.zfe L2.zhW L2.zon L2.zot L2.ziY L2.zis L2.zmS L2.znb L2.znP L2.zlD L2.ziM L2.zkW L2.zlJ L2.zlr L2.zlf L2.zkR L2.zjh L2.zjx L2.ziO List.map_cons List.map_nil List.length_cons List.length_nil List.cons_append List.nil_append List.append_nil List.replicate List.getElem?_cons_zero List.getElem?_cons_succ List.getElem?_nil List.set_cons_zero List.set_cons_succ Nat.reduceAdd Nat.reduceSub true_and and_true if_true if_false Bool.false_eq_true reduceIte Bool.not_true Bool.not_false Option.join_some Option.join_none decide_eq_true_eq and_self".splitOn " ").filter (· != d)).toArray.map fun s=>Lean.mkIdent s.toName
  `(tactic| simp only [$[$a:term],*])
local macro_rules | `(tactic| walk_at "wp") => L2.wZ ""
section
namespace L2
open PySem PySem.Spec PyProof.Rows
section
variable {E:WX}{D:WEnds}{σ:WSt}{S:Sto}{Q:WK}
theorem zjJ{c:WSp}{t:WA}:(zgl c t E σ S Q)=(t noX σ S fun ws S1=>c ws S1 Q fun cl S2=>E cl σ S2):=pz id id
theorem zmR{c:WT}{t u:WS}:(zou c t u E D σ S)=(c noX σ S fun b S1=>if b=true then t E D σ S1 else u E D σ S1):=pz id id
theorem zns{i:Nat}{a:Addr}{b:Bool}:(zjm i a b E σ S Q)=(σ[i]? =some (some (.ref a))∧Q (.bl b) S):=pz id id
theorem zgw{x:Str}{t:WA}:(zig x t E D σ S)=(t E σ S fun ws S1=>ws.length≤sizeLine∧E x σ S1):=pz id id
theorem ziJ{i:Nat}{al:List Str}{t:WS}{u:Str→Addr→WS}:(zhs i al t u E D σ S)=(t (fun cl σ' S'=>cl∈al∧ ∀a,u cl a noX { nx:=fun σ'' S''=>D.nx (σ''.set i none) S'',rt:=D.rt,bk:=fun σ'' S''=>D.bk (σ''.set i none) S'',ct:=fun σ'' S''=>D.ct (σ''.set i none) S'' } (σ'.set i (some (.ref a))) S') D σ S):=pz id id
end
noncomputable def zbz:Nat→WSp
 |0=>zbF
 |r+1=>zdq 1 1 (zaL (zdm (ziB (zlU "int" (zah 0))) (zbI (zbO waNil)) zby)
  (zbI (wSl (zah 0) (woS (wC (.int 1))) woN)))
noncomputable def zaR (r:Nat) (self:WSp):WS:=(zhd (wM rvL zcX (zah 1) (zab (zaE (zbz r) (zab (zah 2) waNil)) waNil)))
noncomputable def zaG:Nat→WSp
 |0=>zbF
 |r+1=>zdq 3 1 (zaL (wAsg (zdn (zeg waNil)) (wGN 1))
  (zaL (ziD (wIv (zah 0)) (wGN 2) (zaR r zbF))
  (zbI (zah 1))))
noncomputable def zcA (r:Nat) (self:WSp):WS:=(zaL (znz 1 (fun a b=>a+b) (wB ziC (zab (zah 3) waNil)))
  (zaL (znz 2 (fun a b=>a+b) (wC (.int 1)))
  (zaL (zdm (wOr (wTb (wOp oGt (zah 1) (wC (.int 400)))) (wTb (wOp oGt (zah 2) (wC (.int 40))))) (zbI (wC (.bl false))) zby)
  (wAsg (zaE (zaG r) (zab (zah 3) waNil)) (wGN 3)))))
noncomputable def zbv:Nat→WSp
 |0=>zbF
 |r+1=>zdq 4 1 (zaL (wAsg (wC (.int 0)) (wGN 1))
  (zaL (wAsg (wC (.int 0)) (wGN 2))
  (zaL (wAsg (zdn (zeg (zab (zah 0) waNil))) (wGN 3))
  (zaL (zkq (ziB (zah 3)) (zcA r zbF))
  (zbI (wC (.bl true)))))))
noncomputable def zdE (r:Nat) (self:WSp):WE:=(zaE self (zab (zah 0) (zab (zah 1) waNil)))
noncomputable def zbC:Nat→WSp
 |0=>zbF
 |r+1=>zdq 2 2 (zaL (zdm (ziB (zlU "int" (zah 0))) (zbI (wOp oIx (zah 1) (zah 0))) zby)
  (zbI (wOp zeh (zbO (zab (wOp oIx (zah 0) (wC (.int 0))) waNil)) (wBL zdk (zbV 1 [1] (wIv (wSl (zah 0) (woS (wC (.int 1))) woN)) (wGN 0) zfq (zdE r (zbC r)))))))
noncomputable def zbP (r:Nat) (self:WSp):WS:=(zdm (wTb (wOp (oEq false) (wOp oIx (zah 2) (wC (.int 0))) (zah 1))) (zbI (zah 2)) zby)
noncomputable def zaO:Nat→WSp
 |0=>zbF
 |r+1=>zdq 3 2 (zaL (ziD (wIv (zah 0)) (wGN 2) (zbP r zbF))
  (zbI (wC .non)))
noncomputable def zaI:Nat→WSp
 |0=>zbF
 |r+1=>zdq 1 1 (zaL (zdm (znY (ziB (zaE (zbv r) (zab (zah 0) waNil)))) (zig "TooGreat" (zab (wC (.str "the shape is not small")) waNil)) zby)
  (zbI (zah 0)))
noncomputable def zbS (r:Nat) (self:WSp):WE:=(zaE self (zab (zah 1) (zab (zah 0) (zab (zah 2) waNil))))
noncomputable def zaD:Nat→WSp
 |0=>zbF
 |r+1=>zdq 5 3 (zaL (wAsg (zdn (zbV 1 [0,2] (wIv (wSl (zah 1) (woS (wC (.int 1))) woN)) (wGN 0) zfq (zbS r (zaD r)))) (wGN 3))
  (zaL (wAsg (zaE (zaO r) (zab (zah 0) (zab (wOp oIx (zah 1) (wC (.int 0))) waNil))) (wGN 4))
  (zaL (zdm (wTb (wOp (oIs false) (zah 4) (wC .non))) (zbI (wOp zeh (zbO (zab (wOp oIx (zah 1) (wC (.int 0))) waNil)) (wB zdD (zab (zah 3) waNil)))) zby)
  (zbI (zaE (zbC r) (zab (wOp oIx (zah 4) (zah 2)) (zab (zah 3) waNil)))))))
noncomputable def zcr:Nat→WSp
 |0=>zbF
 |r+1=>zdq 2 2 (zbI (zaE (zaI r) (zab (zaE (zaD r) (zab (zah 0) (zab (zah 1) (zab (wC (.int 1)) waNil)))) waNil)))
noncomputable def zeK:Nat→WSp
 |0=>zbF
 |r+1=>zdq 2 2 (zbI (zaE (zaI r) (zab (zaE (zaD r) (zab (zah 0) (zab (zah 1) (zab (wC (.int 2)) waNil)))) waNil)))
noncomputable def zav:Nat→WSp
 |0=>zbF
 |r+1=>zdq 2 2 (zaL (zdm (wTb (wOp oLt (zah 1) (wB ziC (zab (zah 0) waNil)))) (zbI (wOp oIx (zah 0) (zah 1))) zby)
  (zbI (wC (.int 0))))
noncomputable def zbU (r:Nat) (self:WSp):WE:=(wOp oIx (zah 1) (wOp (zcJ (fun _ j=>0<j) fun i j=> .int (i % j)) (wOp zeh (wOp oIx (zah 2) (zah 0)) (wOp (zcJ CMul fun i j=> .int (i*j)) (zah 3) (wB zno (zab (wOp (oEq false) (zah 0) (zah 4)) waNil)))) (wC (.int 26))))
noncomputable def zbR (r:Nat) (self:WSp):WS:=(zaL (wAsg (wML rvS zeV (wC (.str "")) (zbV 1 [3,5,6,7] (zlR (zab (wB ziC (zab (zah 5) waNil)) waNil)) (wGN 0) zfq (zbU r zbF))) (wGN 9))
  (zaL (zdm (ziB (zah 2)) (wAsg (wOp zeh (wM rvS zfP (wOp oIx (zah 9) (wC (.int 0))) waNil) (wSl (zah 9) (woS (wC (.int 1))) woN)) (wGN 9)) zby)
  (zhd (wM rvL zdg (zah 8) (zab (zah 9) waNil)))))
noncomputable def zbt (r:Nat) (self:WSp):WS:=(zaL (zhd (wM rvL zdg (zah 5) (zab (wOp (zcJ (fun _ j=>0<j) fun i j=> .int (i % j)) (zah 4) (wC (.int 26))) waNil)))
  (wAsg (wOp (zcJ zls fun i j=> .int (i / j)) (zah 4) (wC (.int 26))) (wGN 4)))
noncomputable def zaQ:Nat→WSp
 |0=>zbF
 |r+1=>zdq 10 3 (zaL (wAsg (wC (.str "abcdefghijklmnopqrstuvwxyz")) (wGN 3))
  (zaL (wAsg (wOp (zcJ (fun _ j=>0<j) fun i j=> .int (i % j)) (zah 1) (wOp (zcJ zom fun i j=> .int (i ^ j.toNat)) (wC (.int 26)) (wC (.int 8)))) (wGN 4))
  (zaL (wAsg (zdn (zeg waNil)) (wGN 5))
  (zaL (ziD (zlR (zab (wOp zeh (wC (.int 1)) (wOp (zcJ (fun _ j=>0<j) fun i j=> .int (i % j)) (zah 0) (wC (.int 8)))) waNil)) (wGN 6) (zbt r zbF))
  (zaL (wAsg (wOp (zcJ (fun _ j=>0<j) fun i j=> .int (i % j)) (wOp (zcJ zls fun i j=> .int (i / j)) (zah 0) (wC (.int 8))) (wB ziC (zab (zah 5) waNil))) (wGN 7))
  (zaL (wAsg (zdn (zeg waNil)) (wGN 8))
  (zaL (ziD (zlR (zab (wC (.int 6)) waNil)) (wGN 6) (zbR r zbF))
  (zaL (zdm (zoy (wTb (wOp (oEq false) (wOp (zcJ (fun _ j=>0<j) fun i j=> .int (i % j)) (wOp (zcJ zls fun i j=> .int (i / j)) (zah 0) (wC (.int 64))) (wC (.int 2))) (wC (.int 1)))) (znY (ziB (zah 2)))) (wAsg (zdn (zlp (zoK (zah 8) woN (woS (wC (.int 3)))) (zeg (zab (wOp oIx (zah 8) (wC (.int 2))) (zab (wOp oIx (zah 8) (wC (.int 2))) (zab (wOp oIx (zah 8) (wC (.int 5))) waNil)))))) (wGN 8)) zby)
  (zbI (zah 8))))))))))
noncomputable def zbK (r:Nat) (self:WSp):WE:=(zaE self (zab (zah 0) (zab (zah 1) waNil)))
noncomputable def zaz:Nat→WSp
 |0=>zbF
 |r+1=>zdq 2 2 (zaL (zdm (ziB (zlU "int" (zah 0))) (zbI (wOp oIx (zah 1) (zah 0))) zby)
  (zbI (wOp zeh (wSl (zah 0) woN (woS (wC (.int 1)))) (wBL zdk (zbV 1 [1] (wIv (wSl (zah 0) (woS (wC (.int 1))) woN)) (wGN 0) zfq (zbK r (zaz r)))))))
noncomputable def zci (r:Nat) (self:WSp):WS:=(zdm (wTb (wOp (oEq false) (wOp oIx (zah 4) (wC (.int 0))) (wOp oIx (zah 1) (wC (.int 0))))) (zbI (zaE (zaz r) (zab (wOp oIx (zah 4) (zah 2)) (zab (zah 3) waNil)))) zby)
noncomputable def zcm (r:Nat) (self:WSp):WE:=(zaE self (zab (zah 1) (zab (zah 0) (zab (zah 2) waNil))))
noncomputable def zaN:Nat→WSp
 |0=>zbF
 |r+1=>zdq 5 3 (zaL (wAsg (zdn (zbV 1 [0,2] (wIv (wSl (zah 1) (woS (wC (.int 1))) woN)) (wGN 0) zfq (zcm r (zaN r)))) (wGN 3))
  (zaL (ziD (wIv (zah 0)) (wGN 4) (zci r zbF))
  (zbI (wOp zeh (wSl (zah 1) woN (woS (wC (.int 1)))) (wB zdD (zab (zah 3) waNil))))))
noncomputable def zcs (r:Nat) (self:WSp):WE:=(wOp oIx (zah 0) (wC (.int 0)))
noncomputable def zct (r:Nat) (self:WSp):WE:=(wOp oIx (zah 0) (wC (.int 1)))
noncomputable def zcp (r:Nat) (self:WSp):WE:=(zaE self (zab (zah 0) (zab (zah 1) waNil)))
noncomputable def zaC:Nat→WSp
 |0=>zbF
 |r+1=>zdq 3 2 (zaL (zdm (ziB (zlU "int" (zah 0))) (zbI (zah 1)) zby)
  (zaL (wAsg (zdn (zbV 1 [1] (wIv (wSl (zah 0) (woS (wC (.int 1))) woN)) (wGN 0) zfq (zcp r (zaC r)))) (wGN 2))
  (zbI (zbO (zab (wOp zeh (wC (.int 1)) (wBL zgJ (zbV 1 [] (wIv (zah 2)) (wGN 0) zfq (zcs r zbF)))) (zab (wOp zeh (wC (.int 1)) (zfW (zbV 1 [] (wIv (zah 2)) (wGN 0) zfq (zct r zbF)) (wC (.int 0)))) waNil))))))
noncomputable def zbb:Nat→WSp
 |0=>zbF
 |r+1=>zdq 4 2 (zaL (wAsg (wOp oIx (zah 1) (wC (.int 0))) (wGN 2))
  (zaL (wAsg (zbO (zab (wOp oIx (zah 1) (wC (.int 2))) waNil)) (wGN 3))
  (zaL (zdm (wTb (wOp (oEq false) (zah 0) (wC (.int 0)))) (zbI (zbO (zab (wC (.str "A")) (zab (zbO (zab (zah 2) (zab (wC (.int 0)) waNil))) (zab (zbO (zab (wOp oIx (zah 1) (wC (.int 4))) (zab (wC (.int 0)) (zab (wC (.int 0)) waNil)))) waNil))))) zby)
  (zaL (zdm (wTb (wOp (oEq false) (zah 0) (wC (.int 1)))) (zbI (zbO (zab (wC (.str "A")) (zab (zbO (zab (zah 2) (zab (wC (.int 0)) waNil))) (zab (zbO (zab (wOp oIx (zah 1) (wC (.int 3))) (zab (zbO (zab (wOp oIx (zah 1) (wC (.int 3))) (zab (zbO (zab (wOp oIx (zah 1) (wC (.int 3))) (zab (wC (.int 0)) waNil))) waNil))) waNil))) waNil))))) zby)
  (zaL (zdm (wTb (wOp (oEq false) (zah 0) (wC (.int 2)))) (zbI (zbO (zab (wC (.str "A")) (zab (zbO (zab (zah 2) (zab (wC (.int 0)) (zab (zbO (zab (wOp oIx (zah 1) (wC (.int 4))) (zab (zah 3) (zab (zah 3) waNil)))) waNil)))) (zab (zbO (zab (wOp oIx (zah 1) (wC (.int 3))) (zab (wC (.int 0)) waNil))) waNil))))) zby)
  (zbI (zbO (zab (wC (.str "A")) (zab (zbO (zab (zah 2) (zab (zbO (zab (wOp oIx (zah 1) (wC (.int 4))) (zab (zah 3) (zab (zah 3) (zab (zah 3) (zab (zah 3) (zab (zah 3) (zab (zah 3) (zab (zah 3) (zab (zah 3) (zab (zah 3) waNil))))))))))) (zab (wC (.int 0)) waNil)))) (zab (zbO (zab (wOp oIx (zah 1) (wC (.int 5))) waNil)) waNil))))))))))
noncomputable def zbT (r:Nat) (self:WSp):WS:=(wAsg (zbO (zab (wOp oIx (zah 1) (wC (.int 3))) (zab (zah 3) waNil))) (wGN 3))
noncomputable def zaP:Nat→WSp
 |0=>zbF
 |r+1=>zdq 5 3 (zaL (zdm (wTb (wOp (oEq false) (wOp (zcJ (fun _ j=>0<j) fun i j=> .int (i % j)) (zah 0) (wC (.int 3))) (wC (.int 0)))) (zaL (wAsg (zbO (zab (wOp oIx (zah 1) (wC (.int 2))) waNil)) (wGN 3))
  (zaL (ziD (zlR (zab (wOp (zcJ (fun _ j=>0<j) fun i j=> .int (i % j)) (wOp (zcJ zls fun i j=> .int (i / j)) (zah 0) (wC (.int 3))) (wOp (zfg fun i j=> .int (i - j)) (wC (.int 40)) (zah 2))) waNil)) (wGN 4) (zbT r zbF))
  (zbI (zah 3)))) zby)
  (zbI (wOp zeh (zbO (zab (wOp oIx (zah 1) (wC (.int 5))) waNil)) (wOp ziZ (zbO (zab (zbO (zab (wOp oIx (zah 1) (wC (.int 2))) waNil)) waNil)) (wOp (zcJ (fun _ j=>0<j) fun i j=> .int (i % j)) (wOp (zcJ zls fun i j=> .int (i / j)) (zah 0) (wC (.int 3))) (wOp (zfg fun i j=> .int (i - j)) (wC (.int 400)) (zah 2)))))))
noncomputable def zba:Nat→WSp
 |0=>zbF
 |r+1=>zdq 6 3 (zaL (wAsg (wC .non) (wGN 3))
  (zaL (wAsg (zdn (zeg waNil)) (wGN 4))
  (zaL (zhs 5 ["TooGreat"] (zou (wTb (wOp (oEq false) (zah 0) (wC (.int 1)))) (wAsg (zgl (zcr r) (zab (zah 1) (zab (zah 2) waNil))) (wGN 3)) (wAsg (zgl (zeK r) (zab (zah 1) (zab (zah 2) waNil))) (wGN 3))) (fun cl a=>(zaL (wAsg (zdn (zeg (zab (zjm 5 a (zei cl "TooGreat")) (zab (zjm 5 a (zei cl "ValueError")) (zab (zjm 5 a (zei cl "Apart")) (zab (zjm 5 a (zei cl "NoUse")) waNil)))))) (wGN 4))
  (wAsg (zdn (zkS (zah 4) (zeg (zab (zjm 5 a (zei cl "NoWay")) (zab (zjm 5 a (zei cl "NoPlace")) waNil))))) (wGN 4)))))
  (zbI (zbO (zab (zah 4) (zab (zah 3) waNil)))))))
noncomputable def zbc (r:Nat) (self:WSp):WE:=(wOp oIx (zah 0) (wC (.int 0)))
noncomputable def zbh (r:Nat) (self:WSp):WE:=(wOp oIx (zah 0) (wC (.int 1)))
noncomputable def zbd (r:Nat) (self:WSp):WE:=(zaE self (zab (zah 0) waNil))
noncomputable def zao:Nat→WSp
 |0=>zbF
 |r+1=>zdq 2 1 (zaL (wAsg (zdn (zbV 1 [] (wIv (wSl (zah 0) (woS (wC (.int 1))) woN)) (wGN 0) zfq (zbd r (zao r)))) (wGN 1))
  (zbI (zbO (zab (wOp zeh (wC (.int 1)) (wBL zgJ (zbV 1 [] (wIv (zah 1)) (wGN 0) zfq (zbc r zbF)))) (zab (wOp zeh (wC (.int 1)) (zfW (zbV 1 [] (wIv (zah 1)) (wGN 0) zfq (zbh r zbF)) (wC (.int 0)))) waNil)))))
noncomputable def zbE (r:Nat):WS:=(zbI (wC (.bl true)))
noncomputable def zbn (r:Nat):WS:=(zdm (wOr (wTb (wOp oGt (wOp oIx (wOp oIx (zah 5) (zah 7)) (wC (.int 0))) (wC (.int 400)))) (wTb (wOp oGt (wOp oIx (wOp oIx (zah 5) (zah 7)) (wC (.int 1))) (wC (.int 40))))) (zdm (wTb (wOp (oEq true) (zah 8) (zdn (zeg (zab (wC (.bl true)) (zab (wC (.bl true)) (zab (wC (.bl false)) (zab (wC (.bl false)) (zab (wC (.bl false)) (zab (wC (.bl false)) waNil)))))))))) (zbI (wC (.bl false))) zby) (zdm (wOr (wTb (wOp (oEq true) (zah 8) (zdn (zeg waNil)))) (wTb (wOp (oEq true) (zah 9) (zaE (zaN r) (zab (zdn (zeg (zab (zah 2) waNil))) (zab (zah 4) (zab (zah 7) waNil))))))) (zbI (wC (.bl false))) zby))
noncomputable def zbo (r:Nat) (T:WS):WS:=(zaL (wAsg (zaE (zba r) (zab (zah 7) (zab (zdn (zeg (zab (zah 2) waNil))) (zab (zah 4) waNil)))) (wGT (zdC (wGN 8) (zdC (wGN 9) zhS)))) T)
noncomputable def zbA (r:Nat) (self:WSp):WS:=(zbo r (zbn r))
noncomputable def zbi (r:Nat) (T:WS):WS:=(zaL (ziD (wIl (zeg (zab (wC (.int 1)) (zab (wC (.int 2)) waNil)))) (wGN 7) (zbA r zbF)) T)
noncomputable def zbp (r:Nat):WS:=(wAsg (zdn (zeg (zab (zbO (zab (wC (.int 1)) (zab (wC (.int 1)) waNil))) (zab (zaE (zaC r) (zab (wOp oIx (zah 2) (wC (.int 1))) (zab (wOp oIx (zah 5) (wC (.int 1))) waNil))) (zab (zaE (zaC r) (zab (wOp oIx (zah 2) (wC (.int 2))) (zab (wOp oIx (zah 5) (wC (.int 2))) waNil))) waNil))))) (wGN 5))
noncomputable def zbs (r:Nat) (T:WS):WS:=(zaL (wAsg (zbO (zab (wC (.str "A")) (zab (zah 4) waNil))) (wGN 4)) T)
noncomputable def zcc (r:Nat) (self:WSp):WS:=(zbs r (zbp r))
noncomputable def zaV (r:Nat) (T:WS):WS:=(zaL (ziD (zlR (zab (zah 3) waNil)) (wGN 6) (zcc r zbF)) T)
noncomputable def zbj (r:Nat) (T:WS):WS:=(zaL (wAsg (zdn (zeg (zab (zbO (zab (wC (.int 1)) (zab (wC (.int 1)) waNil))) (zab (zaE (zao r) (zab (zah 4) waNil)) (zab (zaE (zao r) (zab (zah 4) waNil)) waNil))))) (wGN 5)) T)
noncomputable def zaY (r:Nat) (T:WS):WS:=(zaL (wAsg (zaE (zaP r) (zab (zaE (zav r) (zab (zah 0) (zab (wC (.int 5)) waNil))) (zab (zah 1) (zab (zah 3) waNil)))) (wGN 4)) T)
noncomputable def zbf (r:Nat) (T:WS):WS:=(zaL (wAsg (wOp (zcJ (fun _ j=>0<j) fun i j=> .int (i % j)) (zaE (zav r) (zab (zah 0) (zab (wC (.int 3)) waNil))) (zpk (zeg (zab (wC (.int 39)) (zab (wC (.int 9)) (zab (wC (.int 16)) waNil)))) (wOp (zcJ (fun _ j=>0<j) fun i j=> .int (i % j)) (zaE (zav r) (zab (zah 0) (zab (wC (.int 4)) waNil))) (wC (.int 3))))) (wGN 3)) T)
noncomputable def zbk (r:Nat) (T:WS):WS:=(zaL (wAsg (zaE (zbb r) (zab (wOp (zcJ (fun _ j=>0<j) fun i j=> .int (i % j)) (zaE (zav r) (zab (zah 0) (zab (wC (.int 2)) waNil))) (wC (.int 4))) (zab (zah 1) waNil))) (wGN 2)) T)
noncomputable def zaW (r:Nat) (T:WS):WS:=(zaL (wAsg (zaE (zaQ r) (zab (zaE (zav r) (zab (zah 0) (zab (wC (.int 0)) waNil))) (zab (zaE (zav r) (zab (zah 0) (zab (wC (.int 1)) waNil))) (zab (wC (.bl false)) waNil)))) (wGN 1)) T)
noncomputable def zbw:Nat→WSp
 |0=>zbF
 |r+1=>zdq 10 1 (zaW r (zbk r (zbf r (zaY r (zbj r (zaV r (zbi r (zbE r))))))))
theorem ziN{r:Nat}{t:Tr}{S:Sto}{Q:WK}{E:Str→Sto→Prop}(h:Q (.tup (encs t.kids)) S):zbz (r+1) [enc t] S Q E:=by
 rw [zbz];cases t with
 |bl n=>
  simp only[enc];walk_at "wp";exact⟨Nat.zero_le _,S, .refl,h⟩
 |nd s ts=>
  simp only[enc];walk_at "wp";exact⟨S, .refl,h⟩
noncomputable def Low (c:Nat):Prop:=97≤c∧c≤122
noncomputable def zcb (x:Str):Prop:=1≤x.cps.toList.length∧x.cps.toList.length≤8∧ ∀c∈x.cps.toList,Low c
noncomputable def zco (x:Str):Prop:=∃c r,x.cps.toList=c::r∧65≤c∧c≤90∧r.length≤7∧ ∀d∈r,Low d
theorem zkz:(Str.ofString "abcdefghijklmnopqrstuvwxyz").cps.toList=List.range' 97 26:=by decide +kernel
theorem zmh:(Str.ofString "abcdefghijklmnopqrstuvwxyz").length=26:=by decide +kernel
theorem zeM:∀cs:List Nat,(Str.join (Str.ofString "") (cs.map fun c=>(⟨#[c]⟩:Str))).cps.toList=cs
 | []=>rfl
 | [c]=>rfl
 |c::d::r=>by
  have ih:=zeM (d::r);show((⟨#[c]⟩:Str)++Str.ofString "" ++Str.join (Str.ofString "") ((d::r).map fun c=>(⟨#[c]⟩:Str))).cps.toList=_;show(#[c]++(Str.ofString "").cps++(Str.join (Str.ofString "") ((d::r).map fun c=>(⟨#[c]⟩:Str))).cps).toList=_;rw [Array.toList_append,Array.toList_append,ih];rfl
theorem ziI (cs:List Nat):((cs.map fun c=>(⟨#[c]⟩:Str)).map (·.length)).sum=cs.length:=by
 induction cs with
 |nil=>rfl
 |cons c r ih=>
  rw [List.map_cons,List.map_cons,List.sum_cons,ih,List.length_cons];show 1+r.length=r.length+1;omega
theorem zdi:∀cs:List Nat,zcD (cs.map fun c=>W.str ⟨#[c]⟩)=some (cs.map fun c=>(⟨#[c]⟩:Str))
 | []=>rfl
 |c::cs=>by rw [List.map_cons,zcD,zdi cs];rfl
theorem zhX (cs:List Nat) (h:cs.length≤1000):(List.map (fun x=>x.length) (cs.map fun c=>(⟨#[c]⟩:Str))).sum+(cs.map fun c=>(⟨#[c]⟩:Str)).length*(Str.ofString "").length≤16777216:=by
 have e:=ziI cs;have z:(Str.ofString "").length=0:=by decide +kernel
 rw [e,z];omega
theorem zfY{lo:Int}{n:Nat}:(zhJ lo n).length=n:=by simp [zhJ]
theorem zfC (ts us:List Tr):encs (ts++us)=encs ts++encs us:=by rw [zar,zar,zar,List.map_append]
mutual
noncomputable def Tr.plt (p:List Int):Tr→List (List Int×Tr)
 | .bl n=>[(p, .bl n)]
 | .nd s ts=>(p, .nd s ts)::zpC p 0 ts
noncomputable def zpC (p:List Int) (i:Nat):List Tr→List (List Int×Tr)
 | []=>[]
 |t::ts=>t.plt (p++[(i:Int)])++zpC p (i+1) ts
end
theorem keep{S:Sto}{a p:Addr}{o x:Ob}(f:S a=some o) (h:S p=none):put S p x a=some o:=by rw [zbg (zkZ f h)];exact f
theorem zbL{u:Tr}:∀{ts:List Tr},u∈ts→u.depth≤dts ts
 |t::ts,h=>by
  rcases List.mem_cons.mp h with rfl |h
  ·simp [dts];omega
  ·have:=zbL h;simp [dts];omega
theorem zaA{α:Type}{g:WG}{e:WE}{E:WX}{G:Sto→Prop}{Q:List W→Sto→Prop}{S:Sto}(I:WSt→Prop) (k f:α→W) (hG:G S):∀(xs:List α) (acc:List W) (σ:WSt),I σ→acc.length+xs.length≤1000000→
  (∀x∈xs,∀σ (R:WSt→W→Sto→Prop),I σ→(∀σ1 S3,I σ1→Sub S S3→R σ1 (f x) S3)→g (k x) σ S fun σ1 S1=>e E σ1 S1 fun y S3=>R σ1 y S3)→
  Q (acc++xs.map f) S→zdt g zfq e E G Q (xs.map k) acc σ S
 | [],acc,σ,hI,hl,step,hQ=>by simpa [zdt]using hQ
 |x::xs,acc,σ,hI,hl,step,hQ=>by
  simp only[List.map_cons,zdt,zfq,if_true];simp only[List.length_cons]at hl;refine step x List.mem_cons_self σ _ hI fun σ1 S3 hI1 sb=>⟨zfl (by omega),S,sb,hG,zaA I k f hG xs (acc++[f x]) σ1 hI1 (by simp;omega) (fun y hy=>step y (List.mem_cons_of_mem _ hy)) ?_⟩;simpa using hQ
noncomputable def Tr.isBl:Tr→Bool
 | .bl _=>true
 | .nd _ _=>false
noncomputable def Tr.bls (t:Tr):List (List Int×Tr):=(t.plt []).filter fun x=>x.2.isBl
mutual
noncomputable def Tr.fill (us:List Tr):Tr→Tr
 | .bl n=>us.getD n.toNat (.bl n)
 | .nd s ts=> .nd s (zcz us ts)
noncomputable def zcz (us:List Tr):List Tr→List Tr
 | []=>[]
 |t::ts=>t.fill us::zcz us ts
end
mutual
noncomputable def Tr.fits (m:Nat):Tr→Prop
 | .bl n=>0≤n∧n<m
 | .nd _ ts=>zcF m ts
noncomputable def zcF (m:Nat):List Tr→Prop
 | []=>True
 |t::ts=>t.fits m∧zcF m ts
end
theorem zdc (us:List Tr):∀ts:List Tr,zcz us ts=ts.map (Tr.fill us)
 | []=>by simp [zcz]
 |t::ts=>by simp [zcz,zdc us ts]
theorem zch{m:Nat}{t:Tr}:∀{ts:List Tr},zcF m ts→t∈ts→t.fits m
 |u::ts,h,hm=>by
  simp only[zcF]at h;rcases List.mem_cons.mp hm with rfl |hm
  ·exact h.1
  ·exact zch h.2 hm
theorem zfa{us:List Tr}{a:Addr}:∀(d:Nat) {t:Tr}{r:Nat}{S:Sto}{Q:WK}{E:Str→Sto→Prop},t.depth≤d→d≤r+1→S a=some (.lst (encs us))→t.fits us.length→t.weight≤90000→Q (enc (t.fill us)) S→zbC (r+1) [enc t, .ref a] S Q E
 |0,t,r,S,Q,E,hd,hr,ha,hf,hw,h=>by have:=zaK t;omega
 |d+1, .bl n,r,S,Q,E,hd,hr,ha,hf,hw,h=>by
  simp only[Tr.fits]at hf;simp only[Tr.fill]at h;rw [zbC];simp only[enc];walk_at "wp";have e:atI (encs us) n=some (enc (us.getD n.toNat (.bl n))):=by
   have q:=zbM (xs:=encs us) (n:=n.toNat);rw [Int.toNat_of_nonneg hf.1]at q;rw [q,zar,List.getElem?_map,List.getD_eq_getElem?_getD,List.getElem?_eq_getElem (by omega)];rfl
  rw [zaq ha,e];exact⟨S, .refl,h⟩
 |d+1, .nd s ts,r,S,Q,E,hd,hr,ha,hf,hw,h=>by
  simp only[Tr.fits]at hf;simp only[Tr.fill]at h;simp only[Tr.depth]at hd;simp only[Tr.weight]at hw;have hk:=zbu ts;rw [zbC];simp only[enc]at h⊢;walk_at "wp";refine⟨zag (by decide),?_⟩;rw [zar];refine zaA (fun σ=>∃x,σ=[x,some (.ref a)]) enc (fun t=>enc (t.fill us)) trivial ts [] _ ⟨none,rfl⟩ (by simp;omega) (fun x hx σ R hI hR=>?_) ?_
  ·obtain⟨y,rfl⟩:=hI;have hdx:=zbL hx;have hwx:=zbW hx;have:=zaK x;obtain⟨r,rfl⟩:∃r',r=r'+1:=⟨r - 1,by omega⟩
   simp only[zdE];walk_at "wp";exact zfa d (t:=x) (r:=r) (by omega) (by omega) ha (zch hf hx) (by omega) (hR _ _ ⟨_,rfl⟩ .refl)
  ·rw [List.nil_append];refine⟨zag (by simp;omega),S, .refl,?_⟩;have e:encs (zcz us ts)=ts.map fun t=>enc (t.fill us):=by rw [zar,zdc,List.map_map];rfl
   rw [e]at h;exact h
mutual
noncomputable def Tr.same:Tr→Tr→Bool
 | .bl n, .bl m=>n == m
 | .nd s ts, .nd z us=>s == z&&zcI ts us
 |_,_=>false
noncomputable def zcI:List Tr→List Tr→Bool
 | [],[]=>true
 |t::ts,u::us=>t.same u&&zcI ts us
 |_,_=>false
end
mutual
theorem zgd:∀(t u:Tr),t.same u=true↔t=u
 | .bl n, .bl m=>by simp [Tr.same]
 | .nd s ts, .nd z us=>by simp [Tr.same,zfb ts us]
 | .bl n, .nd z us=>by simp [Tr.same]
 | .nd s ts, .bl m=>by simp [Tr.same]
theorem zfb:∀(ts us:List Tr),zcI ts us=true↔ts=us
 | [],[]=>by simp [zcI]
 |t::ts,u::us=>by simp [zcI,zgd t u,zfb ts us]
 | [],u::us=>by simp [zcI]
 |t::ts,[]=>by simp [zcI]
end
theorem zhj (t:Tr):t.same t=true:=(zgd t t).mpr rfl
theorem znV{S:Sto}{n:Nat}{xs ys:List W}:eqF S (n+1) (.tup xs) (.tup ys)=zdB (eqF S n) xs ys:=Eq.trans (b:=zdB (eqF S n) xs ys) rfl rfl
theorem zne{S:Sto}{n:Nat}{x y:Str}:eqF S (n+1) (.str x) (.str y)=some (x == y):=Eq.trans (b:=some (x == y)) rfl rfl
theorem znH{S:Sto}{n:Nat}{x y:Int}:eqF S (n+1) (.int x) (.int y)=some (x == y):=Eq.trans (b:=some (x == y)) rfl rfl
theorem znO{S:Sto}{n:Nat}{x:Int}{ys:List W}:eqF S (n+1) (.int x) (.tup ys)=some false:=Eq.trans (b:=some false) rfl rfl
theorem zmw{S:Sto}{n:Nat}{x:Int}{ys:List W}:eqF S (n+1) (.tup ys) (.int x)=some false:=Eq.trans (b:=some false) rfl rfl
mutual
theorem zmJ{S:Sto}:∀(n:Nat) (t u:Tr),t.depth<n→eqF S n (enc t) (enc u)=some (t.same u)
 |0,t,u,h=>by omega
 |n+1, .bl k, .bl m,h=>by simp only[enc,znH,Tr.same]
 |n+1, .nd s ts, .nd z us,h=>by
  simp only[Tr.depth]at h;obtain⟨n,rfl⟩:∃m,n=m+1:=⟨n - 1,by omega⟩
  simp only[enc,znV,zdB,zne,Tr.same];rw [zkb (n+1) ts us (by omega)]
 |n+1, .bl k, .nd z us,h=>by simp only[enc,znO,Tr.same]
 |n+1, .nd s ts, .bl m,h=>by simp only[enc,zmw,Tr.same]
theorem zkb{S:Sto}:∀(n:Nat) (ts us:List Tr),dts ts<n→zdB (eqF S n) (encs ts) (encs us)=some (zcI ts us)
 |n,[],[],h=>by simp only[encs,zdB,zcI]
 |n,[],u::us,h=>by simp only[encs,zdB,zcI]
 |n,t::ts,[],h=>by simp only[encs,zdB,zcI]
 |n,t::ts,u::us,h=>by
  simp only[dts]at h;simp only[encs,zdB,zcI,zmJ n t u (by omega),zkb n ts us (by omega)]
end
theorem zex (j:Int) (m:Nat):zhJ j (m+1)= .int j::zhJ (j+1) m:=by
 unfold zhJ;rw [List.range_succ_eq_map,List.map_cons,List.map_map];congr 1
 ·simp
 ·apply List.map_congr_left;intro i _;simp only[Function.comp,W.int.injEq];omega
theorem zin{α:Type}{xs:List α}{i:Int}(h0:0≤i) (h1:i<xs.length):∃x,atI xs i=some x∧x∈xs:=by
 have q:=zbM (xs:=xs) (n:=i.toNat);rw [Int.toNat_of_nonneg h0,List.getElem?_eq_getElem (by omega)]at q;exact⟨_,q,List.getElem_mem ..⟩
theorem zfF{g:WG}{b:WS}{E:WX}{D:WEnds}(I:Nat→WSt→Sto→Prop) (n:Nat)
  (step:∀i,i<n→ ∀σ S (N:WSt→Sto→Prop),I i σ S→(∀σ' S' S'',Sub S'' S'→I (i+1) σ' S''→N σ' S')→g (.int i) σ S fun σ1 S1=>b E { D with nx:=N,ct:=N,bk:=D.nx } σ1 S1)
  (done:∀σ S,I n σ S→D.nx σ S) {σ:WSt}{S:Sto}(h:I 0 σ S):zdF g b E D (fun _=>True) (zhJ 0 n) σ S:=by
 refine zgX (fun ws σ S=>∃i,i≤n∧ws=zhJ (i:Int) (n - i)∧I i σ S) ?_ ?_ _ _ _ ⟨0,Nat.zero_le _,rfl,h⟩
 ·rintro w ws σ S N ⟨i,hi,e,hI⟩ hN;obtain⟨m,hm⟩:∃m,n - i=m+1:=by
   rcases Nat.eq_zero_or_pos (n - i) with z |z
   ·rw [z]at e;cases e
   ·exact⟨n - i - 1,by omega⟩
  rw [hm,zex]at e;cases e;exact step i (by omega) σ S N hI fun σ' S' S'' sb h'=>hN σ' S' S'' sb trivial ⟨i+1,by omega,by rw [show n - (i+1)=m by omega];push_cast;rfl,h'⟩
 ·rintro σ S ⟨i,hi,e,hI⟩;have:n - i=0:=by
   rcases Nat.eq_zero_or_pos (n - i) with z |z
   ·exact z
   ·obtain⟨m,hm⟩:∃m,n - i=m+1:=⟨n - i - 1,by omega⟩
    rw [hm,zex]at e;cases e
  rw [show i=n by omega]at hI
  exact done σ S hI
theorem zcO{g:WG}{b:WS}{E:WX}{D:WEnds}{G:Sto→Prop}{w:W}{ws:List W}{σ:WSt}{S:Sto}(h:∀N:WSt→Sto→Prop,(∀σ S S',Sub S' S→G S'→zdF g b E D G ws σ S'→N σ S)→g w σ S fun σ1 S1=>b E { D with nx:=N,ct:=N,bk:=D.nx } σ1 S1):zdF g b E D G (w::ws) σ S:=h _ fun σ S S' a c d=>⟨S',a,c,d⟩
mutual
noncomputable def Tr.mt:Tr→Tr→Option (List Tr)
 | .bl _,t=>some [t]
 | .nd s ls, .nd z us=>if s == z&&ls.length == us.length then mts ls us else none
 | .nd _ _, .bl _=>none
noncomputable def mts:List Tr→List Tr→Option (List Tr)
 | [],_=>some []
 |_::_,[]=>some []
 |l::ls,u::us=>match l.mt u with
  |none=>none
  |some xs=>match mts ls us with
   |none=>none
   |some ys=>some (xs++ys)
end
noncomputable def znn (c:Nat):Bool:=decide (97≤c)&&decide (c≤122)
noncomputable def small (xs:List Nat):Bool:=xs.all znn
theorem zgo (x:Str):(Txt.slice x (some 1) none).cps.toList=x.cps.toList.drop 1:=by
 rw [zhE];unfold zob;rw [HT.sIx_none];have ez:HT.sIx x.cps.toList.length 0 (some 1)=min 1 x.cps.toList.length:=HT.sIx_nat x.cps.toList.length 0 1;rw [ez];by_cases h:1≤x.cps.toList.length
 ·rw [Nat.min_eq_left h,List.take_of_length_le (by rw [List.length_drop];exact Nat.le_refl _)]
 ·have:x.cps.toList=[]:=List.eq_nil_of_length_eq_zero (by omega);rw [this];rfl
theorem zfJ (x:Str):x.length=x.cps.toList.length:=by simp [Str.length]
theorem zed{α:Type}{g:WG}{b:WS}{E:WX}{D:WEnds}{G:Sto→Prop}{S:Sto}(hG:G S) (I:WSt→Prop) (key:α→W) (f:α→Option W):∀(xs:List α) (σ:WSt),I σ→
  (∀x∈xs,∀σ (N:WSt→Sto→Prop),I σ→(f x=none→ ∀σ' S',I σ'→Sub S S'→N σ' S')→(∀w,f x=some w→ ∀S',Sub S S'→D.rt w S')→g (key x) σ S fun σ1 S1=>b E { D with nx:=N,ct:=N,bk:=D.nx } σ1 S1)→
  (xs.findSome? f=none→ ∀σ,I σ→D.nx σ S)→(∀w,xs.findSome? f=some w→ ∀S',Sub S S'→D.rt w S')→zdF g b E D G (xs.map key) σ S
 | [],σ,hI,step,done,ret=>by
  have:=done rfl σ hI;simpa [zdF]using this
 |x::xs,σ,hI,step,done,ret=>by
  rw [List.map_cons];refine zcO fun N hN=>?_;refine step x List.mem_cons_self σ N hI (fun e σ' S' hI' sb=>?_) fun w e S' sb=>ret w (by rw [List.findSome?_cons,e]) S' sb;refine hN _ _ S sb hG (zed hG I key f xs σ' hI' (fun y hy=>step y (List.mem_cons_of_mem _ hy)) (fun e2=>done (by rw [List.findSome?_cons,e];exact e2)) fun w e2=>ret w (by rw [List.findSome?_cons,e];exact e2))
noncomputable abbrev Tn:=Str×Tr×Tr
noncomputable def zcf (t:Tn):W:= .tup [.str t.1,enc t.2.1,enc t.2.2]
noncomputable def Tn0:Tn:=("", .bl 0, .bl 0)
noncomputable def lf (ts:List Tn) (j:Nat):Tr:=(ts.getD j Tn0).2.1
noncomputable def Tr.small (t:Tr):Bool:=decide (t.weight≤400)&&decide (t.depth≤40)
theorem zcw{ns:List Int}{k:Int}{r:Nat}{S:Sto}{Q:WK}{E:Str→Sto→Prop}(h0:0≤k) (h:∀n:Int,Q (.int n) S):zav (r+1) [.scr ns, .int k] S Q E:=by
 rw [zav];walk_at "wp";split
 ·obtain⟨x,e,_⟩:=zin (xs:=ns) (i:=k) h0 (by omega);rw [e];exact⟨S, .refl,h _⟩
 ·exact⟨S, .refl,h _⟩
noncomputable def lt (rs:List Int) (pos:Int) (k j:Nat):Nat:=97+((rs.getD j 0+(k:Int)*(if(0+(j:Int) == pos)=true then 1 else 0)) % 26).toNat
noncomputable def zcq (rs:List Int) (pos:Int) (k:Nat):List Nat:=(List.range rs.length).map (lt rs pos k)
noncomputable def wd0 (rs:List Int) (pos:Int) (k:Nat):Str:=Str.join (Str.ofString "") ((zcq rs pos k).map fun c=>(⟨#[c]⟩:Str))
noncomputable def wd1 (rs:List Int) (pos:Int) (k:Nat):Str:=Txt.upper ⟨#[lt rs pos k 0]⟩++Txt.slice (wd0 rs pos k) (some 1) none
noncomputable def wd (great:Bool) (rs:List Int) (pos:Int) (k:Nat):Str:=if great then wd1 rs pos k else wd0 rs pos k
theorem zeG (rs:List Int) (pos:Int) (k j:Nat):Low (lt rs pos k j):=by
 have h0:=Int.emod_nonneg (rs.getD j 0+(k:Int)*(if(0+(j:Int) == pos)=true then 1 else 0)) (show(26:Int)≠0 by decide)
 have h1:=Int.emod_lt_of_pos (rs.getD j 0+(k:Int)*(if(0+(j:Int) == pos)=true then 1 else 0)) (show(0:Int)<26 by decide)
 unfold lt Low;omega
theorem zmW{n:Int}(h0:0≤n) (h1:n<26):atI (Str.ofString "abcdefghijklmnopqrstuvwxyz").cps.toList n=some (97+n.toNat):=by
 have e:=zbM (xs:=(Str.ofString "abcdefghijklmnopqrstuvwxyz").cps.toList) (n:=n.toNat);rw [Int.toNat_of_nonneg h0]at e;rw [e,zkz,List.getElem?_range' (by omega)];simp
theorem zcP (rs:List Int) (pos:Int) (k:Nat):(wd0 rs pos k).cps.toList=zcq rs pos k:=zeM _
theorem zer (rs:List Int) (pos:Int) (k:Nat):(zcq rs pos k).length=rs.length:=by simp [zcq]
theorem zhZ{rs:List Int}{pos:Int}{k c:Nat}(h:c∈zcq rs pos k):Low c:=by
 obtain⟨j,_,rfl⟩:=List.mem_map.mp h;exact zeG rs pos k j
theorem zgN{rs:List Int}(pos:Int) (k:Nat) (h:1≤rs.length):zcq rs pos k=lt rs pos k 0::(zcq rs pos k).drop 1:=by
 unfold zcq;obtain⟨n,hn⟩:∃n,rs.length=n+1:=⟨rs.length - 1,by omega⟩
 rw [hn,List.range_succ_eq_map];simp
theorem zeS{c:Nat}(h:Low c):Txt.upper ⟨#[c]⟩=⟨#[c - 32]⟩:=by
 unfold Low at h;rw [PySem.W.KOpn.upper_one (by omega),if_pos h]
theorem zji{rs:List Int}(pos:Int) (k:Nat):(wd1 rs pos k).cps.toList=(lt rs pos k 0 - 32)::(zcq rs pos k).drop 1:=by
 unfold wd1;rw [zeS (zeG _ _ _ _)];show((#[lt rs pos k 0 - 32]:Array Nat)++(Txt.slice (wd0 rs pos k) (some 1) none).cps).toList=_;rw [Array.toList_append,zgo,zcP];rfl
structure Base (rs:List Int) (pos:Int):Prop where
  l1:1≤rs.length
  l8:rs.length≤8
  p0:0≤pos
  p1:pos<rs.length
theorem zgq{rs:List Int}{pos:Int}(b:Base rs pos) (k:Nat):zcb (wd0 rs pos k):=by
 unfold zcb;rw [zcP,zer];exact⟨b.l1,b.l8,fun c hc=>zhZ hc⟩
theorem zoq{rs:List Int}{pos:Int}(b:Base rs pos) {k m:Nat}(hk:k<26) (hm:m<26) (h:k≠m):lt rs pos k pos.toNat≠lt rs pos m pos.toNat:=by
 have p0:=b.p0;have e:(0+((pos.toNat:Nat):Int) == pos)=true:=by rw [beq_iff_eq];omega
 unfold lt;rw [e,if_pos rfl];omega
theorem zoH{great:Bool}{rs:List Int}{pos:Int}(b:Base rs pos) {k m:Nat}(hk:k<26) (hm:m<26) (h:k≠m):wd great rs pos k≠wd great rs pos m:=by
 have hn:=zoq b hk hm h;have p0:=b.p0;have p1:=b.p1;intro e;have e':=congrArg (fun x:Str=>x.cps.toList) e;cases great with
 |false=>
  simp only[wd,Bool.false_eq_true,if_false,zcP]at e';have e2:=congrArg (fun l=>l[pos.toNat]?) e';simp only[zcq,List.getElem?_map,List.getElem?_range (show pos.toNat<rs.length by omega),Option.map_some,Option.some.injEq]at e2
  exact hn e2
 |true=>
  simp only[wd,if_true,zji]at e';have e2:=congrArg (fun l=>l[pos.toNat]?) e';cases hp:pos.toNat with
  |zero=>
   rw [hp]at hn;have h1:=zeG rs pos k 0;have h2:=zeG rs pos m 0;unfold Low at h1 h2;simp only[hp,List.getElem?_cons_zero,Option.some.injEq]at e2;omega
  |succ n=>
   rw [hp]at hn;simp only[hp,List.getElem?_cons_succ,List.getElem?_drop,zcq,List.getElem?_map]at e2;rw [show 1+n=n+1 by omega,List.getElem?_range (show n+1<rs.length by omega)]at e2
   simp only[Option.map_some,Option.some.injEq]at e2;exact hn e2
noncomputable def zik (great:Bool) (ws:List Str):Prop:=∃rs pos,Base rs pos∧(ws=(List.range 6).map (wd great rs pos)∨(great=false∧ws=[wd0 rs pos 0,wd0 rs pos 1,wd0 rs pos 2,wd0 rs pos 2,wd0 rs pos 2,wd0 rs pos 5]))
structure Signs (w0 w1 w2 w3 w4 w5:Str):Prop where
  ok:∀x∈ [w0,w1,w2,w3,w4,w5],zcb x
  n0:∀x∈ [w1,w2,w3,w4,w5],w0≠x
  n1:∀x∈ [w2,w3,w4,w5],w1≠x
  n5:∀x∈ [w2,w3,w4],w5≠x
theorem zft{ws:List Str}(h:zik false ws):∃w0 w1 w2 w3 w4 w5,ws=[w0,w1,w2,w3,w4,w5]∧Signs w0 w1 w2 w3 w4 w5:=by
 obtain⟨rs,pos,b,h⟩:=h;have hs:=fun k=>zgq b k;have hn:∀k m:Nat,k<26→m<26→k≠m→wd0 rs pos k≠wd0 rs pos m:=fun k m h1 h2 h3=>zoH (great:=false) b h1 h2 h3;rcases h with rfl |⟨_,rfl⟩
 ·refine⟨_,_,_,_,_,_,rfl,⟨?_,?_,?_,?_⟩⟩
  ·simp only[List.mem_cons,List.not_mem_nil,or_false,forall_eq_or_imp,forall_eq];exact⟨hs 0,hs 1,hs 2,hs 3,hs 4,hs 5⟩
  ·simp only[List.mem_cons,List.not_mem_nil,or_false,forall_eq_or_imp,forall_eq];exact⟨hn 0 1 (by decide) (by decide) (by decide),hn 0 2 (by decide) (by decide) (by decide),hn 0 3 (by decide) (by decide) (by decide),hn 0 4 (by decide) (by decide) (by decide),hn 0 5 (by decide) (by decide) (by decide)⟩
  ·simp only[List.mem_cons,List.not_mem_nil,or_false,forall_eq_or_imp,forall_eq];exact⟨hn 1 2 (by decide) (by decide) (by decide),hn 1 3 (by decide) (by decide) (by decide),hn 1 4 (by decide) (by decide) (by decide),hn 1 5 (by decide) (by decide) (by decide)⟩
  ·simp only[List.mem_cons,List.not_mem_nil,or_false,forall_eq_or_imp,forall_eq];exact⟨hn 5 2 (by decide) (by decide) (by decide),hn 5 3 (by decide) (by decide) (by decide),hn 5 4 (by decide) (by decide) (by decide)⟩
 ·refine⟨_,_,_,_,_,_,rfl,⟨?_,?_,?_,?_⟩⟩
  ·simp only[List.mem_cons,List.not_mem_nil,or_false,forall_eq_or_imp,forall_eq];exact⟨hs 0,hs 1,hs 2,hs 2,hs 2,hs 5⟩
  ·simp only[List.mem_cons,List.not_mem_nil,or_false,forall_eq_or_imp,forall_eq];exact⟨hn 0 1 (by decide) (by decide) (by decide),hn 0 2 (by decide) (by decide) (by decide),hn 0 2 (by decide) (by decide) (by decide),hn 0 2 (by decide) (by decide) (by decide),hn 0 5 (by decide) (by decide) (by decide)⟩
  ·simp only[List.mem_cons,List.not_mem_nil,or_false,forall_eq_or_imp,forall_eq];exact⟨hn 1 2 (by decide) (by decide) (by decide),hn 1 2 (by decide) (by decide) (by decide),hn 1 2 (by decide) (by decide) (by decide),hn 1 5 (by decide) (by decide) (by decide)⟩
  ·simp only[List.mem_cons,List.not_mem_nil,or_false,forall_eq_or_imp,forall_eq];exact⟨hn 5 2 (by decide) (by decide) (by decide),hn 5 2 (by decide) (by decide) (by decide),hn 5 2 (by decide) (by decide) (by decide)⟩
theorem zeW:∀(ws:List W) {rs:List Int}{sp:Int}{a:Addr}{r:Nat}{S:Sto}{E:WX}{D:WEnds}{x0 x1 x2 x3 x6 x7 x8 x9:Option W},S a=some (.lst (rs.map W.int))→rs.length+ws.length≤1000→
  (∀(rs':List Int) sp' x6',rs'.length=rs.length+ws.length→D.nx [x0,x1,x2,x3,some (.int sp'),some (.ref a),x6',x7,x8,x9] (put S a (.lst (rs'.map W.int))))→
  zdF (wGN 6) (zbt r zbF) E D (fun _=>True) ws [x0,x1,x2,x3,some (.int sp),some (.ref a),x6,x7,x8,x9] S
 | [],rs,sp,a,r,S,E,D,x0,x1,x2,x3,x6,x7,x8,x9,ha,hl,h=>by
  simp only[zdF];have:=h rs sp x6 (by simp);rw [zjY ha]at this;exact this
 |w::ws,rs,sp,a,r,S,E,D,x0,x1,x2,x3,x6,x7,x8,x9,ha,hl,h=>by
  simp only[zdF,zbt];walk_at "wp";simp only[List.length_cons]at hl h;simp only[zaq ha,true_and];refine⟨by decide,zfl (by simp;omega),⟨by decide,by decide⟩,_, .refl,?_⟩
  refine zeW (r:=r) ws (rs:=rs++[sp % 26]) (by rw [zaj];simp) (by simp;omega) fun rs' sp' x6' h1=>?_;rw [zcd];exact h rs' sp' x6' (by simp at h1;omega)
theorem zjH{one two:Int}{great:Bool}{r:Nat}{S:Sto}{Q:WK}{E:Str→Sto→Prop}(h:∀(a:Addr) (ws:List Str),S a=none→zik great ws→Q (.ref a) (put S a (.lst (ws.map W.str)))):zaQ (r+1) [.int one, .int two, .bl great] S Q E:=by
 rw [zaQ];walk_at "wp";have o0:0≤one % 8:=Int.emod_nonneg _ (by decide);have o1:one % 8<8:=Int.emod_lt_of_pos _ (by decide);refine⟨⟨by decide,by decide,by decide⟩,by decide,Nat.zero_le _,fun a ha=>⟨by decide,⟨by omega,by omega⟩,?_⟩⟩
 refine zeW _ (rs:=[]) zaj (by simp [zfY];omega) fun rs sp x6 hl=>?_;rw [zcd];simp only[List.length_nil,zfY,Nat.zero_add]at hl;have hl':(rs.length:Int)=1+one % 8:=by rw [hl];omega
 have p0:0≤one / 8 % (rs.length:Int):=Int.emod_nonneg _ (by omega);have p1:one / 8 % (rs.length:Int)<(rs.length:Int):=Int.emod_lt_of_pos _ (by omega);have B:Base rs (one / 8 % (rs.length:Int)):=⟨by omega,by omega,p0,p1⟩
 walk_at "wp";simp only[List.length_map];refine⟨⟨by decide,by decide⟩,by omega,Nat.zero_le _,fun b hb=>⟨⟨by decide,by decide⟩,?_⟩⟩
 obtain⟨hb1,hb2⟩:=zcQ hb;generalize hpos:one / 8 % (rs.length:Int)=pos at B p0 p1⊢;refine zfF (fun i σ S'=>∃x6 x9,S'=put (put S a (.lst (rs.map W.int))) b (.lst (((List.range i).map (wd great rs pos)).map W.str))∧σ=[some (.int one),some (.int two),some (.bl great),some (.str (Str.ofString "abcdefghijklmnopqrstuvwxyz")),some (.int sp),some (.ref a),x6,some (.int pos),some (.ref b),x9]) 6 ?_ ?_ ⟨x6,none,rfl,rfl⟩
 ·rintro k hk σ S' N ⟨x6,x9,rfl,rfl⟩ hN;have ea:put (put S a (Ob.lst (rs.map W.int))) b (Ob.lst (((List.range k).map (wd great rs pos)).map W.str)) a=some (.lst (rs.map W.int)):=by rw [zbg (Ne.symm hb2),zaj]
  simp only[zbR];walk_at "wp";rw [zaq ea];simp only[List.length_map];refine⟨⟨by omega,by omega⟩,?_⟩
  rw [Int.toNat_natCast];refine zaA (fun σ=>∃x,σ=[x,some (.str (Str.ofString "abcdefghijklmnopqrstuvwxyz")),some (.ref a),some (.int (k:Int)),some (.int pos)]) (fun i:Nat=>W.int (0+(i:Int))) (fun i=>W.str ⟨#[lt rs pos k i]⟩) trivial (List.range rs.length) [] _ ⟨none,rfl⟩ (by simp;omega) (fun i hi σ R hI hR=>?_) ?_
  ·obtain⟨x,rfl⟩:=hI;have hi:=List.mem_range.mp hi;simp only[zbU];walk_at "wp";have e:=zbM (xs:=rs.map W.int) (n:=i);rw [show(i:Int)=0+(i:Int) by omega,List.getElem?_map,List.getElem?_eq_getElem hi]at e
   rw [zaq ea,e];dsimp only[Option.map];walk_at "wp";have ec:=zmW (n:=(rs[i]+(k:Int)*(if(0+(i:Int) == pos)=true then 1 else 0)) % 26) (Int.emod_nonneg _ (by decide)) (Int.emod_lt_of_pos _ (by decide));rw [ec];have el:lt rs pos k i=97+((rs[i]+(k:Int)*(if(0+(i:Int) == pos)=true then 1 else 0)) % 26).toNat:=by
    unfold lt;rw [List.getD_eq_getElem?_getD,List.getElem?_eq_getElem hi];rfl
   rw [←el];exact⟨.inl ⟨by omega,by omega⟩,by decide,zag (by rw [zmh];decide),hR _ _ ⟨_,rfl⟩ .refl⟩
  ·have es:(List.range rs.length).map (fun i=>W.str ⟨#[lt rs pos k i]⟩)=(zcq rs pos k).map fun c=>W.str ⟨#[c]⟩:=by
    unfold zcq;rw [List.map_map];rfl
   have hw:=zgq B k;rw [List.nil_append,es,zdi];refine⟨zhX _ (by rw [zer];omega),?_⟩;show _;have ew:Str.join (Str.ofString "") ((zcq rs pos k).map fun c=>(⟨#[c]⟩:Str))=wd0 rs pos k:=rfl;rw [ew];have hl8:(wd0 rs pos k).length≤8:=by rw [zfJ];exact hw.2.1
   have fin:∀z:Str,z=wd great rs pos k→ ∀x9:Option W,N [some (.int one),some (.int two),some (.bl great),some (.str (Str.ofString "abcdefghijklmnopqrstuvwxyz")),some (.int sp),some (.ref a),some (.int (k:Int)),some (.int pos),some (.ref b),x9] (put (put S a (.lst (rs.map W.int))) b (.lst (((List.range k).map (wd great rs pos)).map W.str++[.str z]))):=fun z hz x9=>by
    subst hz;refine hN _ _ _ .refl ⟨_,_,?_,rfl⟩;rw [List.range_succ,List.map_append,List.map_append];rfl
   have hxl:(((List.range k).map (wd great rs pos)).map W.str).length<sizeLine:=zfl (by simp;omega);cases great with
   |false=>
    try walk_at "wp"
    try simp only[zdT,zcd,true_and]
    exact⟨hxl,fin _ rfl _⟩
   |true=>
    walk_at "wp";rw [zcP,zgN pos k B.l1,zgs];dsimp only
    try walk_at "wp"
    try simp only[zdT,zcd,true_and]
    refine⟨zag (by omega),?_⟩;have h1:(⟨#[lt rs pos k 0]⟩:Str).length=1:=rfl;have h2:(Txt.upper ⟨#[lt rs pos k 0]⟩).length=1:=by rw [zeS (zeG _ _ _ _)];rfl
    have h3:(Txt.slice (wd0 rs pos k) (some 1) none).length≤8:=by
     rw [zfJ,zgo,List.length_drop,←zfJ];omega
    exact⟨by omega,zag (by omega),zag (by omega),hxl,fin _ rfl _⟩
 ·rintro σ S' ⟨x6,x9,rfl,rfl⟩;have eb:put (put S a (Ob.lst (rs.map W.int))) b (Ob.lst (((List.range 6).map (wd great rs pos)).map W.str)) b=some (.lst (((List.range 6).map (wd great rs pos)).map W.str)):=zaj;walk_at "wp";cases great with
  |true=>
   walk_at "wp";refine⟨⟨by decide,by decide⟩,by decide,?_⟩
   split
   ·exact⟨_, .put2 (.put .refl ha),h b _ hb1 ⟨rs,pos,B, .inl rfl⟩⟩
   ·exact⟨_, .put2 (.put .refl ha),h b _ hb1 ⟨rs,pos,B, .inl rfl⟩⟩
  |false=>
   walk_at "wp";refine⟨⟨by decide,by decide⟩,by decide,?_⟩
   split
   ·have e6:((List.range 6).map (wd false rs pos)).map W.str=[.str (wd0 rs pos 0), .str (wd0 rs pos 1), .str (wd0 rs pos 2), .str (wd0 rs pos 3), .str (wd0 rs pos 4), .str (wd0 rs pos 5)]:=rfl;simp only[e6]
    try walk_at "wp"
    have c3:zcv [W.str (wd0 rs pos 0), .str (wd0 rs pos 1), .str (wd0 rs pos 2), .str (wd0 rs pos 3), .str (wd0 rs pos 4), .str (wd0 rs pos 5)] none (some 3)=[.str (wd0 rs pos 0), .str (wd0 rs pos 1), .str (wd0 rs pos 2)]:=rfl;have a2:atI [W.str (wd0 rs pos 0), .str (wd0 rs pos 1), .str (wd0 rs pos 2), .str (wd0 rs pos 3), .str (wd0 rs pos 4), .str (wd0 rs pos 5)] 2=some (.str (wd0 rs pos 2)):=rfl;have a5:atI [W.str (wd0 rs pos 0), .str (wd0 rs pos 1), .str (wd0 rs pos 2), .str (wd0 rs pos 3), .str (wd0 rs pos 4), .str (wd0 rs pos 5)] 5=some (.str (wd0 rs pos 5)):=rfl;simp only[c3,a2,a5]
    try walk_at "wp"
    refine⟨zag (by decide),zag (by decide),fun c hc=>?_⟩;obtain⟨hc1,hc2⟩:=zcQ hc;obtain⟨hc1,hc3⟩:=zcQ hc1;exact⟨_, .put2 (.put (.put .refl ha) hb1),h c _ hc1 ⟨rs,pos,B, .inr ⟨rfl,rfl⟩⟩⟩
   ·exact⟨_, .put2 (.put .refl ha),h b _ hb1 ⟨rs,pos,B, .inl rfl⟩⟩
mutual
noncomputable def Tr.nb:Tr→Nat
 | .bl _=>1
 | .nd _ ts=>nbs ts
noncomputable def nbs:List Tr→Nat
 | []=>0
 |t::ts=>t.nb+nbs ts
end
theorem zfN{w:W}{ws:List W}:zcv (w::ws) none (some 1)=[w]:=by
 rw [show(1:Int)=((1:Nat):Int) from rfl,zjC];rfl
theorem zdG{us:List Tr}{a:Addr}:∀(d:Nat) {t:Tr}{r:Nat}{S:Sto}{Q:WK}{E:Str→Sto→Prop},t.depth≤d→d≤r+1→S a=some (.lst (encs us))→t.fits us.length→t.weight≤90000→Q (enc (t.fill us)) S→zaz (r+1) [enc t, .ref a] S Q E
 |0,t,r,S,Q,E,hd,hr,ha,hf,hw,h=>by have:=zaK t;omega
 |d+1, .bl n,r,S,Q,E,hd,hr,ha,hf,hw,h=>by
  simp only[Tr.fits]at hf;simp only[Tr.fill]at h;rw [zaz];simp only[enc];walk_at "wp";have e:atI (encs us) n=some (enc (us.getD n.toNat (.bl n))):=by
   have q:=zbM (xs:=encs us) (n:=n.toNat);rw [Int.toNat_of_nonneg hf.1]at q;rw [q,zar,List.getElem?_map,List.getD_eq_getElem?_getD,List.getElem?_eq_getElem (by omega)];rfl
  rw [zaq ha,e];exact⟨S, .refl,h⟩
 |d+1, .nd s ts,r,S,Q,E,hd,hr,ha,hf,hw,h=>by
  simp only[Tr.fits]at hf;simp only[Tr.fill]at h;simp only[Tr.depth]at hd;simp only[Tr.weight]at hw;have hk:=zbu ts;rw [zaz];simp only[enc]at h⊢;walk_at "wp";rw [zfN];rw [zar];refine zaA (fun σ=>∃x,σ=[x,some (.ref a)]) enc (fun t=>enc (t.fill us)) trivial ts [] _ ⟨none,rfl⟩ (by simp;omega) (fun x hx σ R hI hR=>?_) ?_
  ·obtain⟨y,rfl⟩:=hI;have hdx:=zbL hx;have hwx:=zbW hx;have:=zaK x;obtain⟨r,rfl⟩:∃r',r=r'+1:=⟨r - 1,by omega⟩
   simp only[zbK];walk_at "wp";exact zdG d (t:=x) (r:=r) (by omega) (by omega) ha (zch hf hx) (by omega) (hR _ _ ⟨_,rfl⟩ .refl)
  ·rw [List.nil_append];walk_at "wp";refine⟨zag (by simp;omega),S, .refl,?_⟩;have e:encs (zcz us ts)=ts.map fun t=>enc (t.fill us):=by rw [zar,zdc,List.map_map];rfl
   rw [e]at h;exact h
noncomputable def zdz (n:Nat) (h c d:Str):List Tr:=
 match n with
 |0=>[.nd h [.bl 0]]
 |1=>[.nd h [.bl 0, .bl 1]]
 |2=>[.nd h [.nd c []], .nd h [.nd d [.bl 0]]]
 |3=>[.nd h [.nd c [], .bl 0], .nd h [.nd d [.bl 0], .bl 1]]
 |4=>[.nd h [.nd d [.nd d [.bl 0]], .bl 1, .bl 2], .nd h [.nd d [.nd c []], .bl 0, .bl 1]]
 |_=>[.nd h []]
section
variable {w0 w1 w2 w3 w4 w5:Str}
noncomputable abbrev six (w0 w1 w2 w3 w4 w5:Str):List W:=[.str w0, .str w1, .str w2, .str w3, .str w4, .str w5]
theorem zpK:atI (six w0 w1 w2 w3 w4 w5) 0=some (.str w0):=rfl
theorem zpV:atI (six w0 w1 w2 w3 w4 w5) 1=some (.str w1):=rfl
theorem zpo:atI (six w0 w1 w2 w3 w4 w5) 2=some (.str w2):=rfl
theorem six3:atI (six w0 w1 w2 w3 w4 w5) 3=some (.str w3):=rfl
theorem zpO:atI (six w0 w1 w2 w3 w4 w5) 4=some (.str w4):=rfl
theorem zpz:atI (six w0 w1 w2 w3 w4 w5) 5=some (.str w5):=rfl
end
theorem zgG{x y:Str}(h:zcb x) (g:zco y):x≠y:=by
 rintro rfl;obtain⟨c,r,e,h1,h2,_⟩:=g;have:=h.2.2 c (by rw [e];exact List.mem_cons_self);unfold Low at this;omega
mutual
noncomputable def Tr.hd (P:Str→Prop):Tr→Prop
 | .bl _=>False
 | .nd s ts=>P s∧hds P ts
noncomputable def hds (P:Str→Prop):List Tr→Prop
 | []=>True
 |t::ts=>t.hd P∧hds P ts
end
mutual
noncomputable def Tr.hb (P:Str→Prop):Tr→Prop
 | .bl _=>True
 | .nd s ts=>P s∧hbs P ts
noncomputable def hbs (P:Str→Prop):List Tr→Prop
 | []=>True
 |t::ts=>t.hb P∧hbs P ts
end
theorem hds_iff{P:Str→Prop}:∀{ts:List Tr},hds P ts↔ ∀t∈ts,t.hd P
 | []=>by simp [hds]
 |t::ts=>by simp [hds,hds_iff (ts:=ts)]
mutual
theorem zhg{P P':Str→Prop}(h:∀s,P s→P' s):∀(t:Tr),t.hd P→t.hd P'
 | .bl _,q=>by simp [Tr.hd]at q
 | .nd s ts,q=>by
  simp only[Tr.hd]at q⊢;exact⟨h s q.1,zgk h ts q.2⟩
theorem zgk{P P':Str→Prop}(h:∀s,P s→P' s):∀(ts:List Tr),hds P ts→hds P' ts
 | [],_=>by simp [hds]
 |t::ts,q=>by
  simp only[hds]at q⊢;exact⟨zhg h t q.1,zgk h ts q.2⟩
end
structure RightW (ws:List Str) (m:Nat) (t:Tr):Prop where
  dp:t.depth≤4
  fits:t.fits m
  hb:∀{P:Str→Prop},(∀x∈ws,P x)→t.hb P
  wt:t.weight≤7
structure BookOk (w0 w1 w2 w3 w4 w5:Str) (tt:List Str) (B:List Tn):Prop where
  lf:∃n m:Nat,B.map (fun t=>t.2.1)=zdz n w0 w2 w3++zdz m w1 w2 w3
  ti:B.map (fun t=>t.1)=tt.take B.length
  ri:∀t∈B,RightW [w0,w1,w2,w3,w4,w5] t.2.1.nb t.2.2
structure LeftT (P:Str→Prop) (L:Tr):Prop where
  hb:L.hb P
  fits:L.fits L.nb
  wt:L.weight≤L.nb+3
  dp:L.depth≤4
  nb:L.nb≤3
  nd:∃s ts,L= .nd s ts
  fw:∀us:List Tr,us.length=L.nb→(L.fill us).weight≤3+wts us
  fw0:L.nb=0→(L.fill []).weight≤2
noncomputable def zaF (B:List Tn) (s:Str):Option Tn:=B.find? fun t=>t.1 == s
theorem zfX:∀{B:List Tn}{t:Tn},(B.map fun t=>t.1).Nodup→t∈B→zaF B t.1=some t
 |u::B,t,hn,ht=>by
  unfold zaF;rw [List.map_cons,List.nodup_cons]at hn;rw [List.find?_cons];rcases List.mem_cons.mp ht with rfl |ht
  ·simp
  ·have hne:u.1≠t.1:=fun z=>hn.1 (by rw [z];exact List.mem_map.mpr ⟨t,ht,rfl⟩);have:(u.1 == t.1)=false:=by simpa using hne
   rw [this];exact zfX hn.2 ht
theorem zhR{B:List Tn}{s:Str}(h:∀t∈B,t.1≠s):zaF B s=none:=by
 unfold zaF;rw [List.find?_eq_none];intro t ht;simpa using h t ht
inductive Pl where
  |nd (k bits:Int) (head:Str) (ps:List Pl)
structure BkOk (ws hs:List Str) (B:List Tn):Prop where
  ti:∀t∈B,zco t.1
  nd:(B.map fun t=>t.1).Nodup
  sg:∀x∈ws,zcb x
  sb:∀x∈hs,x∈ws
  lf:∀t∈B,LeftT zcb t.2.1
  ri:∀t∈B,RightW ws t.2.1.nb t.2.2
mutual
noncomputable def Tr.mk (B:List Tn) (g:Tn→Tr):Tr→Tr
 | .bl n=> .bl n
 | .nd s ts=>match zaF B s with
  |none=> .nd s (mks B g ts)
  |some t=>(g t).fill (mks B g ts)
noncomputable def mks (B:List Tn) (g:Tn→Tr):List Tr→List Tr
 | []=>[]
 |t::ts=>t.mk B g::mks B g ts
end
theorem zfx (B:List Tn) (g:Tn→Tr):∀ts:List Tr,mks B g ts=ts.map (Tr.mk B g)
 | []=>by simp [mks]
 |t::ts=>by simp [mks,zfx B g ts]
theorem zhB{B:List Tn}{g:Tn→Tr}{s:Str}{ts:List Tr}(h:zaF B s=none):(Tr.nd s ts).mk B g= .nd s (ts.map (Tr.mk B g)):=by
 rw [Tr.mk,h,zfx]
theorem zfI{B:List Tn}{g:Tn→Tr}{s:Str}{ts:List Tr}{t:Tn}(h:zaF B s=some t):(Tr.nd s ts).mk B g=(g t).fill (ts.map (Tr.mk B g)):=by
 rw [Tr.mk,h,zfx]
theorem zeX{B:List Tn}(hB:∀t∈B,zco t.1) {s:Str}(h:zcb s):zaF B s=none:=zhR fun t ht=>(zgG h (hB t ht)).symm
mutual
theorem zgm{B:List Tn}{g:Tn→Tr}(hB:∀t∈B,zco t.1):∀t:Tr,t.hd zcb→t.mk B g=t
 | .bl n,h=>by simp [Tr.hd]at h
 | .nd s ts,h=>by
  simp only[Tr.hd]at h;rw [Tr.mk,zeX hB h.1,zfd hB ts h.2]
theorem zfd{B:List Tn}{g:Tn→Tr}(hB:∀t∈B,zco t.1):∀ts:List Tr,hds zcb ts→mks B g ts=ts
 | [],h=>by simp [mks]
 |t::ts,h=>by
  simp only[hds]at h;rw [mks,zgm hB t h.1,zfd hB ts h.2]
end
mutual
inductive Mv (B:List Tn):Nat→Tr→Tr→Tr→Prop
 |nn {n:Nat}{s z:Str}{ts us cs:List Tr}:zaF B s=none→zaF B z=none→Mvs B n ts us cs→Mv B (n+1) (.nd s ts) (.nd z us) (.nd s cs)
 |ns {n:Nat}{s z:Str}{ts us cs ms:List Tr}{t:Tn}:zaF B s=none→zaF B z=some t→t.2.1.mt (.nd s ts)=some ms→cs.length=t.2.1.nb→Mvs B n ms us cs→Mv B (n+1) (.nd s ts) (.nd z us) (t.2.2.fill cs)
 |sn {n:Nat}{s z:Str}{ts us cs ms:List Tr}{t:Tn}:zaF B s=some t→zaF B z=none→t.2.1.mt (.nd z us)=some ms→Mvs B n ts ms cs→Mv B (n+1) (.nd s ts) (.nd z us) (.nd s cs)
 |ss {n:Nat}{s z:Str}{ts us cs:List Tr}{t t':Tn}:zaF B s=some t'→zaF B z=some t→cs.length=t.2.1.nb→Mvs B n ts us cs→Mv B (n+1) (.nd s ts) (.nd z us) (t.2.2.fill cs)
inductive Mvs (B:List Tn):Nat→List Tr→List Tr→List Tr→Prop
 |nil {n:Nat}:Mvs B n [] [] []
 |cons {n:Nat}{a b c:Tr}{as bs cs:List Tr}:Mv B n a b c→Mvs B n as bs cs→Mvs B n (a::as) (b::bs) (c::cs)
end
noncomputable def pad (w:Str):Pl:= .nd (-1) 0 w []
noncomputable def zfZ (need:Nat) (w:Str) (ps:List Pl):List Pl:=List.replicate (need - ps.length) (pad w)++ps
noncomputable def push (need:Nat) (w:Str) (k b:Int) (h:Str) (ps:List Pl):List Pl:=
 (zfZ need w ps).take ((zfZ need w ps).length - need)++[.nd k b h ((zfZ need w ps).drop ((zfZ need w ps).length - need))]
section
variable {r:Nat}{S:Sto}{Q:WK}{E:Str→Sto→Prop}{a:Addr}{B:List Tn}
noncomputable def zoY:Option Tn→W
 |some t=>zcf t
 |none=> .non
theorem zeO (B:List Tn) (s:Str):B.findSome? (fun t=>if t.1 == s then some (zcf t) else none)=(zaF B s).map zcf:=by
 unfold zaF
 induction B with
 |nil=>rfl
 |cons t B ih=>
  rw [List.findSome?_cons,List.find?_cons];cases e:t.1 == s with
  |true=>rfl
  |false=>simpa using ih
theorem zhV{s:Str}(ha:S a=some (.lst (B.map zcf))) (h:Q (zoY (zaF B s)) S):zaO (r+1) [.ref a, .str s] S Q E:=by
 rw [zaO];walk_at "wp";rw [zaq ha];refine zed (S:=S) ?_ (fun σ=>∃x,σ=[some (.ref a),some (.str s),x]) zcf (fun t=>if t.1 == s then some (zcf t) else none) B _ ⟨_,rfl⟩ (fun t ht σ N hI hno hret=>?_) (fun e σ hI=>?_) fun w e S' sb=>?_
 ·exact ha
 ·obtain⟨x,rfl⟩:=hI;simp only[zbP];have ee:zcf t= .tup [.str t.1,enc t.2.1,enc t.2.2]:=rfl;rw [ee];walk_at "wp";cases e:t.1 == s with
  |true=>
   rw [e]at hret;exact hret _ rfl _ .refl
  |false=>
   rw [e]at hno;exact hno rfl _ _ ⟨_,rfl⟩ .refl
 ·obtain⟨x,rfl⟩:=hI;walk_at "wp";rw [zeO]at e;have:zaF B s=none:=by
   cases q:zaF B s with
   |none=>rfl
   |some t=>rw [q]at e;cases e
  rw [this]at h;exact⟨_, .refl,h⟩
 ·rw [zeO]at e;cases q:zaF B s with
  |none=>rw [q]at e;cases e
  |some t=>
   rw [q]at e h;cases e;exact⟨_,sb,h⟩
end
noncomputable def byC (f:Int):Int→Nat:=fun b=>if b / f % 2=1 then 1 else 0
section
theorem zjj{P:Str→Prop}{w:Str}(h:P w) (n:Nat):hds P (List.replicate n (.nd w [])):=hds_iff.mpr fun t ht=>by rw [(List.mem_replicate.mp ht).2];simp [Tr.hd,hds,h]
end
noncomputable def zaf (n:Int) (t:Tn):Tr:=if n=1 then t.2.1 else t.2.2
mutual
noncomputable def Tr.ar (B:List Tn):Tr→Prop
 | .bl _=>False
 | .nd s ts=>(∀t,zaF B s=some t→ts.length=t.2.1.nb)∧ars B ts
noncomputable def ars (B:List Tn):List Tr→Prop
 | []=>True
 |t::ts=>t.ar B∧ars B ts
end
theorem ars_iff{B:List Tn}:∀{ts:List Tr},ars B ts↔ ∀t∈ts,t.ar B
 | []=>by simp [ars]
 |t::ts=>by simp [ars,ars_iff (ts:=ts)]
section
variable {n:Int}
theorem zhf (t:Tn) (h:n=1∨n=2):atI [W.str t.1,enc t.2.1,enc t.2.2] n=some (enc (zaf n t)):=by
 rcases h with rfl |rfl<;>rfl
end
section
variable {B:List Tn}
theorem Mv.nd{n:Nat}{x y z:Tr}:Mv B n x y z→ ∃s ts z' us,x= .nd s ts∧y= .nd z' us
 | .nn _ _ _=>⟨_,_,_,_,rfl,rfl⟩
 | .ns _ _ _ _ _=>⟨_,_,_,_,rfl,rfl⟩
 | .sn _ _ _ _=>⟨_,_,_,_,rfl,rfl⟩
 | .ss _ _ _ _=>⟨_,_,_,_,rfl,rfl⟩
end
section
variable {B:List Tn}
theorem zeT (B:List Tn) (s:Str) (g:Tn→W):B.findSome? (fun t=>if t.1 == s then some (g t) else none)=(zaF B s).map g:=by
 unfold zaF
 induction B with
 |nil=>rfl
 |cons t B ih=>
  rw [List.findSome?_cons,List.find?_cons];cases e:t.1 == s with
  |true=>rfl
  |false=>simpa using ih
end
noncomputable def pps (B:List Tn) (s:Str) (n:Nat):List (List Int):=match zaF B s with
 |none=>(List.range n).map fun(i:Nat)=>[(i:Int)]
 |some t=>t.2.1.bls.map fun x=>x.1
mutual
noncomputable def Tr.us (B:List Tn) (p:List Int):Tr→List (List Int×Str)
 | .bl _=>[]
 | .nd s ts=>(match zaF B s with
  |none=>[]
  |some _=>[(p,s)])++usz B p (pps B s ts.length) ts
noncomputable def usz (B:List Tn) (p:List Int):List (List Int)→List Tr→List (List Int×Str)
 |q::qs,t::ts=>t.us B (p++q)++usz B p qs ts
 |_,_=>[]
end
noncomputable def ppl (B:List Tn) (k:Int) (n:Nat):List (List Int):=if k<0 then(List.range n).map fun(i:Nat)=>[(i:Int)] else(B.getD k.toNat (⟨#[]⟩, .bl 0, .bl 0)).2.1.bls.map fun x=>x.1
mutual
noncomputable def Pl.ns (B:List Tn) (p:List Int):Pl→List (List Int×Int×Str)
 | .nd k b h ps=>(if k<0 then [] else [(p,b,(B.getD k.toNat (⟨#[]⟩, .bl 0, .bl 0)).1)])++nsz B p (ppl B k ps.length) ps
noncomputable def nsz (B:List Tn) (p:List Int):List (List Int)→List Pl→List (List Int×Int×Str)
 |q::qs,t::ts=>t.ns B (p++q)++nsz B p qs ts
 |_,_=>[]
end
noncomputable def zpZ (c:Int→Nat) (xs:List (List Int×Int×Str)):List (List Int×Str):=(xs.filter fun x=>c x.2.1 == 1).map fun x=>(x.1,x.2.2)
noncomputable def zpd (B:List Tn) (t:Tr):Option Tn:=B.find? fun u=>(u.2.1.mt t).isSome
mutual
noncomputable def Tr.op (B:List Tn) (p:List Int):Tr→List (List Int×Str)
 | .bl _=>[]
 | .nd s ts=>(match zpd B (.nd s ts) with
  |none=>[]
  |some t=>[(p,t.1)])++ops B p 0 ts
noncomputable def ops (B:List Tn) (p:List Int) (i:Nat):List Tr→List (List Int×Str)
 | []=>[]
 |t::ts=>t.op B (p++[(i:Int)])++ops B p (i+1) ts
end
theorem zdy{n:Nat}{h c d:Str}{L:Tr}(hL:L∈zdz n h c d):∃ts,L= .nd h ts:=by
 unfold zdz at hL;split at hL<;>simp only[List.mem_cons,List.not_mem_nil,or_false]at hL
 all_goals first
  | (subst hL;exact⟨_,rfl⟩)
  | (rcases hL with rfl |rfl<;>exact⟨_,rfl⟩)
section
variable {w0 w1 w2 w3 w4 w5:Str}{tt:List Str}{B:List Tn}
theorem zcT (n:Nat) (h c d:Str):(zdz n h c d).Nodup:=by
 unfold zdz;split<;>simp
theorem BookOk.inj (b:BookOk w0 w1 w2 w3 w4 w5 tt B) (G:Signs w0 w1 w2 w3 w4 w5):(B.map fun t=>t.2.1).Nodup:=by
 obtain⟨n,m,e⟩:=b.lf;rw [e,List.nodup_append];refine⟨zcT ..,zcT ..,fun x hx y hy=>?_⟩;obtain⟨ts,rfl⟩:=zdy hx;obtain⟨us,rfl⟩:=zdy hy;intro z;cases z;exact G.n0 _ (by simp) rfl
end
noncomputable def Apart (qs:List (List Int)):Prop:=qs.Pairwise fun a b=>¬a <+:b∧ ¬b <+:a
theorem zht{S:Sto}{n:Nat}{a b:Addr}{xs:List W}(ha:S a=some (.lst xs)) (hb:S b=some (.lst xs)) (h:zdB (eqF S n) xs xs=some true):eqF S (n+1) (.ref a) (.ref b)=some true:=by
 show(match S a with
  |some (.lst xs)=>match S b with
   |some (.lst ys)=>zdB (eqF S n) xs ys
   |_=>none
  |_=>none)=some true
 rw [ha,hb];exact h
noncomputable def u1 (B:List Tn) (p:Pl):List (List Int×Str):=zpZ (byC 1) (p.ns B [])
mutual
noncomputable def Tr.wd:Tr→Prop
 | .bl _=>True
 | .nd _ ts=>ts.length≤1000∧wds ts
noncomputable def wds:List Tr→Prop
 | []=>True
 |t::ts=>t.wd∧wds ts
end
theorem wds_iff:∀{ts:List Tr},wds ts↔ ∀t∈ts,t.wd
 | []=>by simp [wds]
 |t::ts=>by simp [wds,wds_iff (ts:=ts)]
theorem zkG{t:Tr}(h:t.wd):t.kids.length≤1000:=by
 cases t with
 |bl n=>simp [Tr.kids]
 |nd s ts=>simpa [Tr.kids]using h.1
theorem zkQ{ts:List Tr}(h:∀x∈ts,x.wd):∀x∈ts.flatMap Tr.kids,x.wd:=fun x hx=>by
 obtain⟨t,ht,hk⟩:=List.mem_flatMap.mp hx;have:=h t ht;cases t with
 |bl n=>simp [Tr.kids]at hk
 |nd s us=>exact wds_iff.mp this.2 x (by simpa [Tr.kids]using hk)
theorem zcR{r:Nat}{a b:Addr}{ps:List W}{E:WX}{D:WEnds}{x0:Option W}(hba:b≠a):∀(ts:List Tr) {S:Sto}{us:List Tr}{x2:Option W},S a=some (.lst (encs us))→S b=some (.lst ps)→(∀t∈ts,t.kids.length≤1000)→us.length+1000*ts.length≤500000→
  (∀x2,D.nx [x0,some (.ref a),x2] (put S a (.lst (encs (us++ts.flatMap Tr.kids)))))→
  zdF (wGN 2) (zaR (r+1) zbF) E D (fun S'=>S' b=some (.lst ps)) (encs ts) [x0,some (.ref a),x2] S
 | [],S,us,x2,ha,hb,hA,hl,h=>by
  have:=h x2;simp only[List.flatMap_nil,List.append_nil,zjY ha]at this;simpa [encs,zdF]using this
 |t::ts,S,us,x2,ha,hb,hA,hl,h=>by
  simp only[List.length_cons]at hl;have hk:=hA t List.mem_cons_self;simp only[encs];refine zcO fun N hN=>?_;simp only[zaR];walk_at "wp";simp only[zaq ha,true_and];refine ziN ?_;walk_at "wp";rw [zaq ha];refine⟨zag (by rw [zck,zck];omega),hN _ _ _ .refl (by rw [zbg hba];exact hb) ?_⟩;rw [←zfC];refine zcR hba ts zaj (by rw [zbg hba];exact hb) (fun u hu=>hA u (List.mem_cons_of_mem _ hu)) (by rw [List.length_append];omega) fun x2=>?_;rw [zcd];have:=h x2;rw [List.flatMap_cons,←List.append_assoc]at this;exact this
theorem zeI{ts:List Tr}{b:Addr}{r:Nat}{S:Sto}{Q:WK}{E:Str→Sto→Prop}(hb:S b=some (.lst (encs ts))) (hA:∀t∈ts,t.kids.length≤1000) (hw:ts.length≤400) (h:∀a,S a=none→Q (.ref a) (put S a (.lst (encs (ts.flatMap Tr.kids))))):zaG (r+2) [.ref b] S Q E:=by
 rw [zaG];walk_at "wp";refine⟨Nat.zero_le _,fun a ha=>?_⟩;have hba:=zkZ hb ha;rw [zaq (keep hb ha)];refine zcR (us:=[]) hba ts (by simp [zaj,encs]) (keep hb ha) hA (by simp;omega) fun x2=>?_;rw [zcd];walk_at "wp";exact⟨_, .refl,h a ha⟩
theorem zdb{t:Tr}{r:Nat}{S:Sto}{Q:WK}{E:Str→Sto→Prop}(hA:t.wd) (h:Q (.bl t.small) S):zbv (r+3) [enc t] S Q E:=by
 rw [zbv];walk_at "wp";refine⟨zag (by decide),fun a ha=>?_⟩;refine⟨fun m σ S'=>∃(ts:List Tr) (k d:Nat) (b:Addr),m=wts ts∧(∀x∈ts,x.wd)∧k+wts ts=t.weight∧d+dts ts=t.depth∧k≤400∧d≤40∧S b=none∧S'=put S b (.lst (encs ts))∧σ=[some (enc t),some (.int k),some (.int d),some (.ref b)],⟨_,[t],0,0,a,rfl,(fun x hx=>by rw [List.mem_singleton.mp hx];exact hA),by simp [wts],by simp [dts],by decide,by decide,ha,by simp [encs],rfl⟩,?_⟩
 rintro m σ S' ⟨ts,k,d,b,rfl,hds,hwt,hk,hk4,hd4,hb,rfl,rfl⟩;walk_at "wp";cases ts with
 |nil=>
  simp only[encs,List.isEmpty_nil];walk_at "wp";simp only[dts,wts,Nat.add_zero]at hk hwt;have e:t.small=true:=by unfold Tr.small;rw [decide_eq_true (by omega),decide_eq_true (by omega)];rfl
  rw [e]at h;exact⟨_, .put .refl hb,h⟩
 |cons u us=>
  have hne:(encs (u::us)).isEmpty=false:=by simp [encs]
  rw [hne];have hfl:=zgt (u::us);have hdf:=zgc (ts:=u::us) (by simp);have hlw:=zbu (u::us);simp only[zcA];walk_at "wp";rw [zck];have no:400<t.weight∨40<t.depth→ ∃S'',Sub S'' (put S b (Ob.lst (encs (u::us))))∧Q (W.bl false) S'':=fun z=>by
   have e:t.small=false:=by
    unfold Tr.small;rcases z with z |z
    ·rw [decide_eq_false (by omega)];rfl
    ·rw [decide_eq_false (p:=t.depth≤40) (by omega),Bool.and_false]
   rw [e]at h;exact⟨_, .put .refl hb,h⟩
  split
  ·exact no (.inl (by omega))
  ·split
   ·exact no (.inr (by omega))
   ·refine zeI zaj (fun x hx=>zkG (hds x hx)) (by omega) fun c hc=>?_;obtain⟨hc1,hc2⟩:=zcQ hc;refine⟨wts ((u::us).flatMap Tr.kids),put S c (.lst (encs ((u::us).flatMap Tr.kids))),by simp only[List.length_cons]at hfl;omega, .put2 (.put .refl hb),_,k+(u::us).length,d+1,c,rfl,zkQ hds,by omega,by omega,by omega,by omega,hc1,rfl,?_⟩
    push_cast
    rfl
structure SidesW (g:Tn→Tr) (B:List Tn):Prop where
  fits:∀t∈B,(g t).fits t.2.1.nb
  dp:∀t∈B,(g t).depth≤4
  wt:∀t∈B,(g t).weight≤20
section
variable {S:Sto}{a:Addr}{B:List Tn}{n:Int}
theorem zcY (ha:S a=some (.lst (B.map zcf))) (hn:n=1∨n=2) (hg:SidesW (zaf n) B):∀(d:Nat) {t:Tr}{r:Nat}{Q:WK}{E:Str→Sto→Prop},t.depth≤d→d+10≤r→t.ar B→t.weight≤1000→Q (enc (t.mk B (zaf n))) S→zaD (r+1) [.ref a,enc t, .int n] S Q E
 |0,t,r,Q,E,hd,hr,hh,hw,h=>by have:=zaK t;omega
 |d+1, .bl k,r,Q,E,hd,hr,hh,hw,h=>by simp [Tr.ar]at hh
 |d+1, .nd s ts,r,Q,E,hd,hr,hh,hw,h=>by
  simp only[Tr.depth]at hd;simp only[Tr.weight]at hw;simp only[Tr.ar]at hh;have hk:=zbu ts;obtain⟨r,rfl⟩:∃r',r=r'+1:=⟨r - 1,by omega⟩
  rw [zaD];simp only[enc];walk_at "wp";rw [zar];refine zaA (fun σ=>∃x,σ=[x,some (.ref a),some (.int n)]) enc (fun t=>enc (t.mk B (zaf n))) trivial ts [] _ ⟨none,rfl⟩ (by simp;omega) (fun x hx σ R hI hR=>?_) ?_
  ·obtain⟨y,rfl⟩:=hI;have hdx:=zbL hx;have hwx:=zbW hx;simp only[zbS];walk_at "wp";exact zcY ha hn hg d (by omega) (by omega) (ars_iff.mp hh.2 x hx) (by omega) (hR _ _ ⟨_,rfl⟩ .refl)
  ·rw [List.nil_append];intro q hq;have eu:(ts.map fun t=>enc (t.mk B (zaf n)))=encs (ts.map (Tr.mk B (zaf n))):=by rw [zar,List.map_map];rfl
   rw [eu];have fq:put S q (Ob.lst (encs (ts.map (Tr.mk B (zaf n))))) q=some (.lst (encs (ts.map (Tr.mk B (zaf n))))):=zaj;have fa:=keep (x:=Ob.lst (encs (ts.map (Tr.mk B (zaf n))))) ha hq;have sub:Sub S (put S q (Ob.lst (encs (ts.map (Tr.mk B (zaf n)))))):= .put .refl hq;generalize put S q (Ob.lst (encs (ts.map (Tr.mk B (zaf n)))))=S1 at fq fa sub⊢;refine zhV fa ?_;cases e:zaF B s with
   |none=>
    rw [zhB e]at h;simp only[zoY]
    try walk_at "wp"
    try rw [zaq fq]
    rw [zck,List.length_map];simp only[enc]at h;exact⟨zag (by decide),zag (by omega),_,sub,h⟩
   |some t=>
    have ht:t∈B:=List.mem_of_find?_eq_some e;have ee:zoY (some t)= .tup [.str t.1,enc t.2.1,enc t.2.2]:=rfl;rw [zfI e]at h;rw [ee]
    try walk_at "wp"
    rw [zhf t hn];dsimp only;have hgw:=hg.wt t ht;exact zfa 4 (hg.dp t ht) (by omega) fq (by rw [List.length_map,hh.1 t e];exact hg.fits t ht) (by omega) ⟨_,sub,h⟩
theorem zfQ (hnd:(B.map fun t=>t.1).Nodup) (ha:S a=some (.lst (B.map zcf))) (hn:n=1∨n=2) (hg:SidesW (zaf n) B):∀(d:Nat) {t:Tr}{r:Nat}{Q:WK}{E:Str→Sto→Prop},t.depth≤d→d+10≤r→t.ar B→t.weight≤1000→Q (enc (t.mk B (zaf n))) S→zaN (r+1) [.ref a,enc t, .int n] S Q E
 |0,t,r,Q,E,hd,hr,hh,hw,h=>by have:=zaK t;omega
 |d+1, .bl k,r,Q,E,hd,hr,hh,hw,h=>by simp [Tr.ar]at hh
 |d+1, .nd s ts,r,Q,E,hd,hr,hh,hw,h=>by
  simp only[Tr.depth]at hd;simp only[Tr.weight]at hw;simp only[Tr.ar]at hh;have hk:=zbu ts;obtain⟨r,rfl⟩:∃r',r=r'+1:=⟨r - 1,by omega⟩
  rw [zaN];simp only[enc];walk_at "wp";rw [zar];refine zaA (fun σ=>∃x,σ=[x,some (.ref a),some (.int n)]) enc (fun t=>enc (t.mk B (zaf n))) trivial ts [] _ ⟨none,rfl⟩ (by simp;omega) (fun x hx σ R hI hR=>?_) ?_
  ·obtain⟨y,rfl⟩:=hI;have hdx:=zbL hx;have hwx:=zbW hx;simp only[zcm];walk_at "wp";exact zfQ hnd ha hn hg d (by omega) (by omega) (ars_iff.mp hh.2 x hx) (by omega) (hR _ _ ⟨_,rfl⟩ .refl)
  ·rw [List.nil_append];intro q hq;have eu:(ts.map fun t=>enc (t.mk B (zaf n)))=encs (ts.map (Tr.mk B (zaf n))):=by rw [zar,List.map_map];rfl
   rw [eu,←zar];have fq:put S q (Ob.lst (encs (ts.map (Tr.mk B (zaf n))))) q=some (.lst (encs (ts.map (Tr.mk B (zaf n))))):=zaj;have fa:=keep (x:=Ob.lst (encs (ts.map (Tr.mk B (zaf n))))) ha hq;have sub:Sub S (put S q (Ob.lst (encs (ts.map (Tr.mk B (zaf n)))))):= .put .refl hq;generalize put S q (Ob.lst (encs (ts.map (Tr.mk B (zaf n)))))=S1 at fq fa sub⊢
   try walk_at "wp"
   rw [zaq fa];refine zed (S:=S1) ?_ (fun σ=>∃x,σ=[some (.ref a),some (.tup (.str s::encs ts)),some (.int n),some (.ref q),x]) zcf (fun t=>if t.1 == s then some (enc ((zaf n t).fill (ts.map (Tr.mk B (zaf n))))) else none) B _ ⟨_,rfl⟩ (fun t ht σ N hI hno hret=>?_) (fun e σ hI=>?_) fun w e S' sb=>?_
   ·exact fa
   ·obtain⟨x,rfl⟩:=hI;simp only[zci];have ee:zcf t= .tup [.str t.1,enc t.2.1,enc t.2.2]:=rfl;rw [ee];walk_at "wp";cases e:t.1 == s with
    |true=>
     rw [e]at hret
     try walk_at "wp"
     rw [zhf t hn];dsimp only;have et:t.1=s:=by simpa using e
     have hgw:=hg.wt t ht;refine zdG 4 (hg.dp t ht) (by omega) fq ?_ (by omega) (hret _ rfl _ .refl);rw [List.length_map,hh.1 t (by rw [←et];exact zfX hnd ht)];exact hg.fits t ht
    |false=>
     rw [e]at hno;exact hno rfl _ _ ⟨_,rfl⟩ .refl
   ·obtain⟨x,rfl⟩:=hI;rw [zeT]at e;have e0:zaF B s=none:=by
     cases z:zaF B s with
     |none=>rfl
     |some t=>rw [z]at e;cases e
    rw [zhB e0]at h
    try walk_at "wp"
    rw [zfN]
    try rw [zaq fq]
    try walk_at "wp"
    simp only[enc]at h;refine⟨zag ?_,_,sub,h⟩;rw [zck,List.length_map];omega
   ·rw [zeT]at e;cases z:zaF B s with
    |none=>rw [z]at e;cases e
    |some t=>
     rw [z]at e;rw [zfI z]at h;cases e;exact⟨_,sub.trans sb,h⟩
theorem zgM{t:Tr}{r:Nat}{Q:WK}{E:Str→Sto→Prop}(ha:S a=some (.lst (B.map zcf))) (hg:SidesW (zaf 1) B) (hd:t.depth≤40) (hr:60≤r) (hh:t.ar B) (hw:t.weight≤1000) (hwd:(t.mk B (zaf 1)).wd)
  (h1:(t.mk B (zaf 1)).small=true→Q (enc (t.mk B (zaf 1))) S) (h2:(t.mk B (zaf 1)).small=false→E "TooGreat" S):zcr (r+1) [.ref a,enc t] S Q E:=by
 obtain⟨r,rfl⟩:∃r',r=r'+5:=⟨r - 5,by omega⟩
 rw [zcr];walk_at "wp";refine zcY ha (.inl rfl) hg 40 (r:=r+4) hd (by omega) hh hw ?_;rw [zaI];walk_at "wp";refine zdb (r:=r+1) hwd ?_;cases e:(t.mk B (zaf 1)).small with
 |true=>
  try walk_at "wp"
  exact⟨_, .refl,_, .refl,h1 e⟩
 |false=>
  try walk_at "wp"
  try rw [zgw]
  try walk_at "wp"
  exact⟨zag (by decide),h2 e⟩
theorem zjE{t:Tr}{r:Nat}{Q:WK}{E:Str→Sto→Prop}(ha:S a=some (.lst (B.map zcf))) (hg:SidesW (zaf 2) B) (hd:t.depth≤40) (hr:60≤r) (hh:t.ar B) (hw:t.weight≤1000) (hwd:(t.mk B (zaf 2)).wd)
  (h1:(t.mk B (zaf 2)).small=true→Q (enc (t.mk B (zaf 2))) S) (h2:(t.mk B (zaf 2)).small=false→E "TooGreat" S):zeK (r+1) [.ref a,enc t] S Q E:=by
 obtain⟨r,rfl⟩:∃r',r=r'+5:=⟨r - 5,by omega⟩
 rw [zeK];walk_at "wp";refine zcY ha (.inr rfl) hg 40 (r:=r+4) hd (by omega) hh hw ?_;rw [zaI];walk_at "wp";refine zdb (r:=r+1) hwd ?_;cases e:(t.mk B (zaf 2)).small with
 |true=>
  try walk_at "wp"
  exact⟨_, .refl,_, .refl,h1 e⟩
 |false=>
  try walk_at "wp"
  try rw [zgw]
  try walk_at "wp"
  exact⟨zag (by decide),h2 e⟩
end
noncomputable def szW (t:Tr):W:= .tup [.int t.weight, .int t.depth]
theorem zdh{α:Type}(f:α→Int):∀xs:List α,zbq (xs.map fun x=>W.int (f x))=some (xs.map f)
 | []=>rfl
 |x::xs=>by rw [List.map_cons,zbq,zdh f xs];rfl
theorem zfE:∀ts:List Tr,(ts.map fun t=>(t.weight:Int)).sum=(wts ts:Int)
 | []=>rfl
 |t::ts=>by rw [List.map_cons,List.sum_cons,zfE ts,wts];push_cast;rfl
theorem zkp (ns:List Int):∀(k j:Nat),j≤k→ns.getD j 0≤pmx ns k
 |0,j,h=>by
  rw [Nat.le_zero.mp h,pmx];exact Int.le_refl _
 |k+1,j,h=>by
  rw [pmx];rcases Nat.lt_or_ge j (k+1) with z |z
  ·have:=zkp ns k j (by omega);split<;>omega
  ·have e:j=k+1:=by omega
   subst e;split<;>omega
theorem zkd (ns:List Int):∀k:Nat,∃j,j≤k∧pmx ns k=ns.getD j 0
 |0=>⟨0,Nat.le_refl _,rfl⟩
 |k+1=>by
  rw [pmx];split
  ·exact⟨k+1,Nat.le_refl _,rfl⟩
  ·obtain⟨j,h1,h2⟩:=zkd ns k;exact⟨j,by omega,h2⟩
theorem zjW:∀{ts:List Tr},ts≠ []→ ∃t∈ts,t.depth=dts ts
 | [],h=>absurd rfl h
 | [t],_=>⟨t,by simp,by simp [dts]⟩
 |t::u::ts,_=>by
  obtain⟨x,hx,e⟩:=zjW (ts:=u::ts) (by simp);rcases Nat.le_total t.depth (dts (u::ts)) with z |z
  ·exact⟨x,List.mem_cons_of_mem _ hx,e.trans (Nat.max_eq_right z).symm⟩
  ·exact⟨t,List.mem_cons_self,(Nat.max_eq_left z).symm⟩
theorem zgR (ts:List Tr):(if(ts.map fun t=>(t.depth:Int))=[] then(0:Int) else pmx (ts.map fun t=>(t.depth:Int)) ((ts.map fun t=>(t.depth:Int)).length - 1))=(dts ts:Int):=by
 by_cases h:ts=[]
 ·subst h;rfl
 ·have hl:0<ts.length:=List.length_pos_iff.mpr h;rw [if_neg (by simpa using h),List.length_map];have g:∀j,j<ts.length→(ts.map fun t=>(t.depth:Int)).getD j 0=((ts[j]?.getD (.bl 0)).depth:Int):=fun j hj=>by simp [hj]
  apply Int.le_antisymm
  ·obtain⟨j,h1,h2⟩:=zkd (ts.map fun t=>(t.depth:Int)) (ts.length - 1);rw [h2,g j (by omega),List.getElem?_eq_getElem (by omega)];have:=zbL (List.getElem_mem (l:=ts) (n:=j) (by omega));simp only[Option.getD_some];omega
  ·obtain⟨t,ht,e⟩:=zjW h;obtain⟨j,hj,ej⟩:=List.mem_iff_getElem.mp ht;have:=zkp (ts.map fun t=>(t.depth:Int)) (ts.length - 1) j (by omega);rw [g j hj,List.getElem?_eq_getElem hj,ej]at this;simp only[Option.getD_some]at this;omega
theorem zcu (us:List Tr):∀ts:List Tr,zcz us ts=ts.map (Tr.fill us)
 | []=>by simp [zcz]
 |t::ts=>by rw [zcz,zcu us ts];rfl
section
variable {u:Tr}
theorem zfD:∀(d:Nat) {t:Tr}{r:Nat}{S:Sto}{Q:WK}{E:Str→Sto→Prop},t.depth≤d→d≤r→t.fits 1→t.weight≤1000→Q (szW (t.fill [u])) S→zaC (r+1) [enc t,szW u] S Q E
 |0,t,r,S,Q,E,hd,hr,hf,hw,h=>by have:=zaK t;omega
 |d+1, .bl n,r,S,Q,E,hd,hr,hf,hw,h=>by
  rw [zaC];have e0:enc (.bl n)= .int n:=by simp only[enc]
  rw [e0];walk_at "wp";have en:(Tr.bl n).fill [u]=u:=by
   simp only[Tr.fits]at hf;have:n=0:=by omega
   subst this;simp [Tr.fill]
  rw [en]at h;exact⟨_, .refl,h⟩
 |d+1, .nd s ts,r,S,Q,E,hd,hr,hf,hw,h=>by
  simp only[Tr.depth]at hd;simp only[Tr.weight]at hw;simp only[Tr.fits]at hf;have hk:=zbu ts;obtain⟨r,rfl⟩:∃r',r=r'+1:=⟨r - 1,by omega⟩
  have en:enc (.nd s ts)= .tup (.str s::encs ts):=by simp [enc]
  rw [zaC,en];walk_at "wp";rw [zar];refine zaA (fun σ=>∃x,σ=[x,some (szW u)]) enc (fun t=>szW (t.fill [u])) trivial ts [] _ ⟨none,rfl⟩ (by simp;omega) (fun x hx σ R hI hR=>?_) ?_
  ·obtain⟨y,rfl⟩:=hI;simp only[zcp];walk_at "wp";exact zfD d (by have:=zbL hx;omega) (by omega) (zch hf hx) (by have:=zbW hx;omega) (hR _ _ ⟨_,rfl⟩ .refl)
  ·rw [List.nil_append];intro q hq;have fq:put S q (Ob.lst (ts.map fun t=>szW (t.fill [u]))) q=some (.lst (ts.map fun t=>szW (t.fill [u]))):=zaj;have sub:Sub S (put S q (Ob.lst (ts.map fun t=>szW (t.fill [u])))):= .put .refl hq;generalize put S q (Ob.lst (ts.map fun t=>szW (t.fill [u])))=S1 at fq sub⊢;refine zaA (fun σ=>∃x,σ=[x]) (fun t:Tr=>szW (t.fill [u])) (fun t=>W.int ((t.fill [u]).weight:Int)) fq ts [] _ ⟨none,rfl⟩ (by simp;omega) (fun x hx σ R hI hR=>?_) ?_
   ·obtain⟨y,rfl⟩:=hI;simp only[zcs,szW];walk_at "wp";exact hR _ _ ⟨_,rfl⟩ .refl
   ·rw [List.nil_append,zdh fun t:Tr=>((t.fill [u]).weight:Int)];dsimp only;rw [zgu];walk_at "wp"
    try rw [zaq fq]
    refine zaA (fun σ=>∃x,σ=[x]) (fun t:Tr=>szW (t.fill [u])) (fun t=>W.int ((t.fill [u]).depth:Int)) fq ts [] _ ⟨none,rfl⟩ (by simp;omega) (fun x hx σ R hI hR=>?_) ?_
    ·obtain⟨y,rfl⟩:=hI;simp only[zct,szW];walk_at "wp";exact hR _ _ ⟨_,rfl⟩ .refl
    ·rw [List.nil_append,zdh fun t:Tr=>((t.fill [u]).depth:Int)]
     try walk_at "wp"
     have em:∀f:Tr→Int,(ts.map fun t=>f (t.fill [u]))=(ts.map (Tr.fill [u])).map f:=fun f=>by rw [List.map_map];rfl
     have e1:=zfE (ts.map (Tr.fill [u]));have e2:=zgR (ts.map (Tr.fill [u]));rw [←em fun t=>(t.weight:Int)]at e1;rw [←em fun t=>(t.depth:Int)]at e2;rw [e1,e2];refine⟨zag (by decide),_,sub,?_⟩;have ef:szW ((Tr.nd s ts).fill [u])= .tup [.int (1+(wts (ts.map (Tr.fill [u])):Int)), .int (1+(dts (ts.map (Tr.fill [u])):Int))]:=by
      unfold szW;rw [Tr.fill,zcu,Tr.weight,Tr.depth]
      push_cast
      rfl
     rw [←ef];exact h
theorem zef:∀(d:Nat) {t:Tr}{r:Nat}{S:Sto}{Q:WK}{E:Str→Sto→Prop},t.depth≤d→d≤r→t.hd (fun _=>True)→t.weight≤1000→Q (szW t) S→zao (r+1) [enc t] S Q E
 |0,t,r,S,Q,E,hd,hr,hf,hw,h=>by have:=zaK t;omega
 |d+1, .bl n,r,S,Q,E,hd,hr,hf,hw,h=>by simp [Tr.hd]at hf
 |d+1, .nd s ts,r,S,Q,E,hd,hr,hf,hw,h=>by
  simp only[Tr.depth]at hd;simp only[Tr.weight]at hw;simp only[Tr.hd]at hf;have hk:=zbu ts;obtain⟨r,rfl⟩:∃r',r=r'+1:=⟨r - 1,by omega⟩
  have en:enc (.nd s ts)= .tup (.str s::encs ts):=by simp [enc]
  rw [zao,en];walk_at "wp";rw [zar];refine zaA (fun σ=>∃x,σ=[x]) enc (fun t=>szW t) trivial ts [] _ ⟨none,rfl⟩ (by simp;omega) (fun x hx σ R hI hR=>?_) ?_
  ·obtain⟨y,rfl⟩:=hI;simp only[zbd];walk_at "wp";exact zef d (by have:=zbL hx;omega) (by omega) (hds_iff.mp hf.2 x hx) (by have:=zbW hx;omega) (hR _ _ ⟨_,rfl⟩ .refl)
  ·rw [List.nil_append];intro q hq;have fq:put S q (Ob.lst (ts.map fun t=>szW t)) q=some (.lst (ts.map fun t=>szW t)):=zaj;have sub:Sub S (put S q (Ob.lst (ts.map fun t=>szW t))):= .put .refl hq;generalize put S q (Ob.lst (ts.map fun t=>szW t))=S1 at fq sub⊢;refine zaA (fun σ=>∃x,σ=[x]) (fun t:Tr=>szW t) (fun t=>W.int (t.weight:Int)) fq ts [] _ ⟨none,rfl⟩ (by simp;omega) (fun x hx σ R hI hR=>?_) ?_
   ·obtain⟨y,rfl⟩:=hI;simp only[zbc,szW];walk_at "wp";exact hR _ _ ⟨_,rfl⟩ .refl
   ·rw [List.nil_append,zdh fun t:Tr=>(t.weight:Int)];dsimp only;rw [zgu];walk_at "wp"
    try rw [zaq fq]
    refine zaA (fun σ=>∃x,σ=[x]) (fun t:Tr=>szW t) (fun t=>W.int (t.depth:Int)) fq ts [] _ ⟨none,rfl⟩ (by simp;omega) (fun x hx σ R hI hR=>?_) ?_
    ·obtain⟨y,rfl⟩:=hI;simp only[zbh,szW];walk_at "wp";exact hR _ _ ⟨_,rfl⟩ .refl
    ·rw [List.nil_append,zdh fun t:Tr=>(t.depth:Int)]
     try walk_at "wp"
     rw [zfE,zgR];refine⟨zag (by decide),_,sub,?_⟩;have ef:szW (Tr.nd s ts)= .tup [.int (1+(wts ts:Int)), .int (1+(dts ts:Int))]:=by
      unfold szW;rw [Tr.weight,Tr.depth]
      push_cast
      rfl
     rw [←ef];exact h
end
noncomputable def tiA:Str:=Str.ofString "A"
theorem zje:zco tiA:=⟨65,[],by decide +kernel,by decide,by decide,by decide,fun _ h=>nomatch h⟩
structure KindT (t:Tn):Prop where
  ti:t.1=tiA
  nb:t.2.1.nb=1
  f1:t.2.1.fits 1
  f2:t.2.2.fits 1
  d1:t.2.1.depth≤4
  d2:t.2.2.depth≤4
  v1:t.2.1.weight≤20
  v2:t.2.2.weight≤20
section
variable {w0 w1 w2 w3 w4 w5:Str}{a:Addr}{r:Nat}{S:Sto}{Q:WK}{E:Str→Sto→Prop}
theorem zlI{n:Int}(ha:S a=some (.lst (six w0 w1 w2 w3 w4 w5))) (h:∀t,KindT t→Q (zcf t) S):zbb (r+1) [.int n, .ref a] S Q E:=by
 have l1:1≤sizeLine:=zag (by decide);have l2:2≤sizeLine:=zag (by decide);have l3:3≤sizeLine:=zag (by decide);have l10:10≤sizeLine:=zag (by decide);have c:Tr:= .nd w2 [];have q0:=h (tiA, .nd w0 [.bl 0], .nd w4 [.bl 0, .bl 0]) ⟨rfl,by simp [Tr.nb,nbs],by simp [Tr.fits,zcF],by simp [Tr.fits,zcF],by simp [Tr.depth,dts],by simp [Tr.depth,dts],by simp [Tr.weight,wts],by simp [Tr.weight,wts]⟩
 have q1:=h (tiA, .nd w0 [.bl 0], .nd w3 [.nd w3 [.nd w3 [.bl 0]]]) ⟨rfl,by simp [Tr.nb,nbs],by simp [Tr.fits,zcF],by simp [Tr.fits,zcF],by simp [Tr.depth,dts],by simp [Tr.depth,dts],by simp [Tr.weight,wts],by simp [Tr.weight,wts]⟩
 have q2:=h (tiA, .nd w0 [.bl 0, .nd w4 [.nd w2 [], .nd w2 []]], .nd w3 [.bl 0]) ⟨rfl,by simp [Tr.nb,nbs],by simp [Tr.fits,zcF],by simp [Tr.fits,zcF],by simp [Tr.depth,dts],by simp [Tr.depth,dts],by simp [Tr.weight,wts],by simp [Tr.weight,wts]⟩
 have q3:=h (tiA, .nd w0 [.nd w4 [.nd w2 [], .nd w2 [], .nd w2 [], .nd w2 [], .nd w2 [], .nd w2 [], .nd w2 [], .nd w2 [], .nd w2 []], .bl 0], .nd w5 []) ⟨rfl,by simp [Tr.nb,nbs],by simp [Tr.fits,zcF],by simp [Tr.fits,zcF],by simp [Tr.depth,dts],by simp [Tr.depth,dts],by simp [Tr.weight,wts],by simp [Tr.weight,wts]⟩
 simp only[zcf,enc,encs]at q0 q1 q2 q3;rw [zbb];walk_at "wp";simp only[zaq ha,zpK,zpV,zpo,six3,zpO,zpz,l1,l2,l3,l10,true_and];split
 ·exact⟨_, .refl,q0⟩
 ·split
  ·exact⟨_, .refl,q1⟩
  ·split
   ·exact⟨_, .refl,q2⟩
   ·exact⟨_, .refl,q3⟩
end
noncomputable def tow (x:Tr):Nat→Tr
 |0=>x
 |k+1=> .nd tiA [tow x k]
theorem ziq (x:Tr):∀k,(tow x k).weight=k+x.weight
 |0=>by simp [tow]
 |k+1=>by rw [tow,Tr.weight,wts,wts,ziq x k];omega
theorem zhF (x:Tr):∀k,(tow x k).depth=k+x.depth
 |0=>by simp [tow]
 |k+1=>by rw [tow,Tr.depth,dts,dts,zhF x k];have:=zaK x;omega
mutual
theorem zgp{B:List Tn}(hB:∀t∈B,zco t.1):∀t:Tr,t.hd zcb→t.ar B
 | .bl n,h=>by simp [Tr.hd]at h
 | .nd s ts,h=>by
  simp only[Tr.hd]at h;simp only[Tr.ar];exact⟨fun t ht=>(by rw [zeX hB h.1]at ht;cases ht),zeU hB ts h.2⟩
theorem zeU{B:List Tn}(hB:∀t∈B,zco t.1):∀ts:List Tr,hds zcb ts→ars B ts
 | [],h=>by simp [ars]
 |t::ts,h=>by
  simp only[hds]at h;simp only[ars];exact⟨zgp hB t h.1,zeU hB ts h.2⟩
end
mutual
theorem zlY:∀t:Tr,t.weight≤1000→t.wd
 | .bl n,h=>trivial
 | .nd s ts,h=>by
  rw [Tr.weight]at h;have:=zbu ts;exact⟨by omega,zks ts (by omega)⟩
theorem zks:∀ts:List Tr,wts ts≤1000→wds ts
 | [],h=>trivial
 |t::ts,h=>by
  rw [wts]at h;exact⟨zlY t (by omega),zks ts (by omega)⟩
end
mutual
theorem zif{u:Tr}(hu:u.wd):∀t:Tr,t.weight≤1000→(t.fill [u]).wd
 | .bl n,h=>by
  rw [Tr.fill];rcases Nat.eq_zero_or_pos n.toNat with z |z
  ·rw [z];exact hu
  ·obtain⟨m,hm⟩:∃m,n.toNat=m+1:=⟨n.toNat - 1,by omega⟩
   rw [hm];exact trivial
 | .nd s ts,h=>by
  rw [Tr.weight]at h;have:=zbu ts;rw [Tr.fill];refine⟨?_,zfL hu ts (by omega)⟩;rw [zcu,List.length_map];omega
theorem zfL{u:Tr}(hu:u.wd):∀ts:List Tr,wts ts≤1000→wds (zcz [u] ts)
 | [],h=>by rw [zcz];exact trivial
 |t::ts,h=>by
  rw [wts]at h;rw [zcz];exact⟨zif hu t (by omega),zfL hu ts (by omega)⟩
end
structure Inn (x:Tr) (m:Nat):Prop where
  hd:x.hd zcb
  wt:x.weight+m≤400
  dp:x.depth+m≤40
section
variable {t:Tn}{x:Tr}{m:Nat}
theorem KindT.tB (k:KindT t):∀u∈ [t],zco u.1:=fun u hu=>by rw [List.mem_singleton.mp hu,k.ti];exact zje
theorem KindT.tu (k:KindT t):zaF [t] tiA=some t:=by
 unfold zaF;rw [List.find?_cons,k.ti];simp
theorem KindT.mk0 (k:KindT t) (hx:Inn x m) (g:Tn→Tr):(tow x 0).mk [t] g=x:=zgm k.tB x hx.hd
theorem KindT.mkS (k:KindT t) (g:Tn→Tr) (j:Nat):(tow x (j+1)).mk [t] g=(g t).fill [(tow x j).mk [t] g]:=by
 rw [tow,zfI k.tu];rfl
theorem KindT.ar (k:KindT t) (hx:Inn x m):∀j,(tow x j).ar [t]
 |0=>zgp k.tB x hx.hd
 |j+1=>by
  rw [tow];simp only[Tr.ar,ars,and_true];exact⟨fun u hu=>(by rw [k.tu]at hu;cases hu;rw [k.nb];rfl),KindT.ar k hx j⟩
theorem KindT.wd (k:KindT t) (hx:Inn x m) {g:Tn→Tr}(hg:(g t).weight≤20):∀j,((tow x j).mk [t] g).wd
 |0=>by
  rw [k.mk0 hx];have:=hx.wt;exact zlY x (by omega)
 |j+1=>by
  rw [k.mkS];exact zif (KindT.wd k hx hg j) _ (by omega)
theorem KindT.s1 (k:KindT t):SidesW (zaf 1) [t]:=⟨fun u hu=>by rw [List.mem_singleton.mp hu,k.nb];exact k.f1,fun u hu=>by rw [List.mem_singleton.mp hu];exact k.d1,fun u hu=>by rw [List.mem_singleton.mp hu];exact k.v1⟩
theorem KindT.s2 (k:KindT t):SidesW (zaf 2) [t]:=⟨fun u hu=>by rw [List.mem_singleton.mp hu,k.nb];exact k.f2,fun u hu=>by rw [List.mem_singleton.mp hu];exact k.d2,fun u hu=>by rw [List.mem_singleton.mp hu];exact k.v2⟩
end
section
variable {t:Tn}{x:Tr}{j:Nat}{a:Addr}{r:Nat}{S:Sto}{Q:WK}{E:Str→Sto→Prop}
theorem zlj{n:Int}(k:KindT t) (hx:Inn x j) (ha:S a=some (.lst ([t].map zcf))) (hn:n=1∨n=2) (hr:70≤r)
  (h1:((tow x j).mk [t] (zaf n)).small=true→ ∀S' q,Sub S S'→S' q=some (.lst [])→Q (.tup [.ref q,enc ((tow x j).mk [t] (zaf n))]) S')
  (h2:((tow x j).mk [t] (zaf n)).small=false→ ∀S' q,Sub S S'→S' q=some (.lst [.bl true, .bl true, .bl false, .bl false, .bl false, .bl false])→Q (.tup [.ref q, .non]) S'):zba (r+1) [.int n, .ref a,enc (tow x j)] S Q E:=by
 have hdp:(tow x j).depth≤40:=by rw [zhF];have:=hx.dp;omega
 have hwt:(tow x j).weight≤1000:=by rw [ziq];have:=hx.wt;omega
 have q0:zei "TooGreat" "TooGreat" =true:=by decide
 have q1:zei "TooGreat" "ValueError" =true:=by decide
 have q2:zei "TooGreat" "Apart" =false:=by decide
 have q3:zei "TooGreat" "NoUse" =false:=by decide
 have q4:zei "TooGreat" "NoWay" =false:=by decide
 have q5:zei "TooGreat" "NoPlace" =false:=by decide
 obtain⟨r,rfl⟩:∃r',r=r'+1:=⟨r - 1,by omega⟩
 rw [zba];walk_at "wp";refine⟨Nat.zero_le _,fun q hq=>?_⟩;have sb:Sub S (put S q (.lst [])):= .put .refl hq;have fq:put S q (Ob.lst []) q=some (.lst []):=zaj;generalize put S q (.lst [])=S1 at sb fq⊢;have fa:=sb _ _ ha;rcases hn with rfl |rfl
 ·rw [if_pos (by decide)];refine zgM fa k.s1 hdp (by omega) (k.ar hx j) hwt (k.wd hx k.v1 j) (fun e=>?_) fun e=>?_
  ·exact⟨zag (by decide),_, .refl,h1 e _ _ sb fq⟩
  ·rw [q0,q1,q2,q3,q4,q5];exact⟨by simp,fun _=>⟨zag (by decide),fun b hb=>⟨zag (by decide),zag (by decide),fun d hd=>⟨zag (by decide),_, .refl,h2 e _ _ ((sb.trans (.put .refl hb)).trans (.put .refl hd)) zaj⟩⟩⟩⟩
 ·rw [if_neg (by decide)];refine zjE fa k.s2 hdp (by omega) (k.ar hx j) hwt (k.wd hx k.v2 j) (fun e=>?_) fun e=>?_
  ·exact⟨zag (by decide),_, .refl,h1 e _ _ sb fq⟩
  ·rw [q0,q1,q2,q3,q4,q5];exact⟨by simp,fun _=>⟨zag (by decide),fun b hb=>⟨zag (by decide),zag (by decide),fun d hd=>⟨zag (by decide),_, .refl,h2 e _ _ ((sb.trans (.put .refl hb)).trans (.put .refl hd)) zaj⟩⟩⟩⟩
end
noncomputable def chn (w2 w3:Str):Nat→Tr
 |0=> .nd w2 []
 |k+1=> .nd w3 [chn w2 w3 k]
theorem zkh{w2 w3:Str}(h2:zcb w2) (h3:zcb w3):∀k,(chn w2 w3 k).hd zcb∧(chn w2 w3 k).weight=k+1∧(chn w2 w3 k).depth=k+1
 |0=>by simp [chn,Tr.hd,hds,Tr.weight,wts,Tr.depth,dts,h2]
 |k+1=>by
  obtain⟨a,b,c⟩:=zkh h2 h3 k;rw [chn];refine⟨⟨h3,a,trivial⟩,?_,?_⟩
  ·rw [Tr.weight,wts,wts,b];omega
  ·rw [Tr.depth,dts,dts,c];omega
section
variable {w0 w1 w2 w3 w4 w5:Str}{a:Addr}{r:Nat}{S:Sto}{Q:WK}{E:Str→Sto→Prop}
theorem zjB{c:Int}{m:Nat}(hm:m≤38) (G:Signs w0 w1 w2 w3 w4 w5) (ha:S a=some (.lst (six w0 w1 w2 w3 w4 w5))) (h:∀x,Inn x m→Q (enc x) S):zaP (r+1) [.int c, .ref a, .int m] S Q E:=by
 have l1:1≤sizeLine:=zag (by decide);have g2:=G.ok w2 (by simp);have g3:=G.ok w3 (by simp);have g5:=G.ok w5 (by simp);rw [zaP];walk_at "wp";refine⟨by decide,?_⟩;split
 ·simp only[zaq ha,zpo];have p0:(0:Int)<40 - (m:Int):=by omega
  have h0:=Int.emod_nonneg (c / 3) (Int.ne_of_gt p0);have h1:=Int.emod_lt_of_pos (c / 3) p0;refine⟨l1,⟨by decide,by decide⟩,p0,⟨by omega,by omega⟩,?_⟩
  refine zfF (fun i σ S'=>S'=S∧ ∃x4,σ=[some (.int c),some (.ref a),some (.int m),some (enc (chn w2 w3 i)),x4]) (c / 3 % (40 - (m:Int))).toNat ?_ ?_ ⟨rfl,none,by simp [chn,enc,encs]⟩
  ·rintro i hi σ S' N ⟨rfl,x4,rfl⟩ hN;simp only[zbT];walk_at "wp";simp only[zaq ha,six3];refine⟨zag (by decide),hN _ _ _ .refl ⟨rfl,some (.int i),by simp [chn,enc,encs]⟩⟩
  ·rintro σ S' ⟨rfl,x4,rfl⟩;walk_at "wp";obtain⟨e1,e2,e3⟩:=zkh g2 g3 (c / 3 % (40 - (m:Int))).toNat;exact⟨_, .refl,h _ ⟨e1,by omega,by omega⟩⟩
 ·simp only[zaq ha,zpo,zpz];have p0:(0:Int)<400 - (m:Int):=by omega
  have h0:=Int.emod_nonneg (c / 3) (Int.ne_of_gt p0);have h1:=Int.emod_lt_of_pos (c / 3) p0;have ef:(List.replicate (c / 3 % (400 - (m:Int))).toNat [W.tup [.str w2]]).flatten=List.replicate (c / 3 % (400 - (m:Int))).toNat (W.tup [.str w2]):=by
   generalize (c / 3 % (400 - (m:Int))).toNat=n
   induction n with
   |zero=>rfl
   |succ n ih=>rw [List.replicate_succ,List.flatten_cons,ih,List.replicate_succ];rfl
  rw [ef];have he:W.tup (.str w5::List.replicate (c / 3 % (400 - (m:Int))).toNat (W.tup [.str w2]))=enc (.nd w5 (List.replicate (c / 3 % (400 - (m:Int))).toNat (.nd w2 []))):=by
   rw [show enc (.nd w5 (List.replicate (c / 3 % (400 - (m:Int))).toNat (.nd w2 [])))= .tup (.str w5::encs (List.replicate (c / 3 % (400 - (m:Int))).toNat (.nd w2 []))) by simp [enc],zar,List.map_replicate]
   simp [enc,encs]
  rw [he,List.length_replicate];refine⟨l1,l1,l1,⟨by decide,by decide⟩,p0,⟨by simp,by omega,by omega,zag (by omega)⟩,zag (by omega),_, .refl,h _ ⟨⟨g5,zjj g2 _⟩,?_,?_⟩⟩
  ·rw [Tr.weight];have:∀n:Nat,wts (List.replicate n (.nd w2 []))=n:=fun n=>by
    induction n with
    |zero=>rfl
    |succ n ih=>rw [List.replicate_succ,wts,ih,Tr.weight,wts];omega
   rw [this];omega
  ·rw [Tr.depth];have:∀n:Nat,dts (List.replicate n (.nd w2 []))≤1:=fun n=>by
    induction n with
    |zero=>simp [dts]
    |succ n ih=>rw [List.replicate_succ,dts,Tr.depth,dts];omega
   have:=this (c / 3 % (400 - (m:Int))).toNat;omega
end
section
variable {S:Sto}{aw sz:Addr}{w0 w1 w2 w3 w4 w5:Str}{t:Tn}{x:Tr}{m:Nat}{E:WX}{D:WEnds}{T:WS}{ns:List Int}{a1 a2 a3 a4 a5 a6 a7 a8 a9:Option W}
theorem zpf (h:∀S' aw w0 w1 w2 w3 w4 w5,Signs w0 w1 w2 w3 w4 w5→S' aw=some (.lst (six w0 w1 w2 w3 w4 w5))→T E D [some (.scr ns),some (.ref aw),a2,a3,a4,a5,a6,a7,a8,a9] S'):zaW 199 T E D [some (.scr ns),a1,a2,a3,a4,a5,a6,a7,a8,a9] S:=by
 rw [zaW];walk_at "wp";refine zcw (by decide) fun c0=>zcw (by decide) fun c1=>zjH fun aw ws hw0 hws=>?_;obtain⟨w0,w1,w2,w3,w4,w5,rfl,G⟩:=zft hws;exact h _ aw w0 w1 w2 w3 w4 w5 G zaj
theorem zpu (fw:S aw=some (.lst (six w0 w1 w2 w3 w4 w5))) (h:∀t,KindT t→T E D [some (.scr ns),some (.ref aw),some (zcf t),a3,a4,a5,a6,a7,a8,a9] S):zbk 199 T E D [some (.scr ns),some (.ref aw),a2,a3,a4,a5,a6,a7,a8,a9] S:=by
 rw [zbk];walk_at "wp";refine zcw (by decide) fun c=>?_
 try walk_at "wp"
 refine⟨by decide,zlI (r:=198) fw fun t k=>h t k⟩
theorem zpn (h:∀m:Nat,m≤38→T E D [some (.scr ns),a1,a2,some (.int m),a4,a5,a6,a7,a8,a9] S):zbf 199 T E D [some (.scr ns),a1,a2,a3,a4,a5,a6,a7,a8,a9] S:=by
 rw [zbf];walk_at "wp";refine zcw (by decide) fun c=>?_
 try walk_at "wp"
 refine⟨zag (by decide),zcw (by decide) fun c2=>?_⟩
 try walk_at "wp"
 refine⟨by decide,?_⟩;have h3:c2 % 3=0∨c2 % 3=1∨c2 % 3=2:=by omega
 have fin:∀v:Int,0<v→v≤39→T E D [some (.scr ns),a1,a2,some (.int (c % v)),a4,a5,a6,a7,a8,a9] S:=fun v h0 h1=>by
  have b1:=Int.emod_nonneg c (Int.ne_of_gt h0);have b2:=Int.emod_lt_of_pos c h0;have:=h (c % v).toNat (by omega);rwa [show(((c % v).toNat:Nat):Int)=c % v by omega]at this
 rcases h3 with e |e |e
 ·rw [e];exact⟨(by decide:(0:Int)<39),fin 39 (by decide) (by decide)⟩
 ·rw [e];exact⟨(by decide:(0:Int)<9),fin 9 (by decide) (by decide)⟩
 ·rw [e];exact⟨(by decide:(0:Int)<16),fin 16 (by decide) (by decide)⟩
theorem zoW (hm:m≤38) (G:Signs w0 w1 w2 w3 w4 w5) (fw:S aw=some (.lst (six w0 w1 w2 w3 w4 w5))) (h:∀x,Inn x m→T E D [some (.scr ns),some (.ref aw),a2,some (.int m),some (enc x),a5,a6,a7,a8,a9] S):zaY 199 T E D [some (.scr ns),some (.ref aw),a2,some (.int m),a4,a5,a6,a7,a8,a9] S:=by
 rw [zaY];walk_at "wp";refine zcw (by decide) fun c=>?_;exact zjB (r:=198) hm G fw fun x hx=>h x hx
theorem zop (hx:Inn x m) (h:∀sz,S sz=none→T E D [some (.scr ns),a1,a2,a3,some (enc x),some (.ref sz),a6,a7,a8,a9] (put S sz (.lst [.tup [.int 1, .int 1],szW x,szW x]))):zbj 199 T E D [some (.scr ns),a1,a2,a3,some (enc x),a5,a6,a7,a8,a9] S:=by
 have hd:=zhg (P':=fun _=>True) (fun _ _=>trivial) x hx.hd;have h1:=hx.dp;have h2:=hx.wt;rw [zbj];walk_at "wp";refine⟨zag (by decide),?_⟩;refine zef (r:=198) 40 (by omega) (by omega) hd (by omega) ?_;refine zef (r:=198) 40 (by omega) (by omega) hd (by omega) ?_;exact⟨zag (by decide),fun sz hz=>h sz hz⟩
theorem zok (k:KindT t) (hx:Inn x m) (fs:S sz=some (.lst [.tup [.int 1, .int 1],szW x,szW x])) (h:∀S' sz x6,Sub S S'→S' sz=some (.lst [.tup [.int 1, .int 1],szW ((tow x m).mk [t] (zaf 1)),szW ((tow x m).mk [t] (zaf 2))])→T E D [some (.scr ns),a1,some (zcf t),some (.int m),some (enc (tow x m)),some (.ref sz),x6,a7,a8,a9] S') :
  zaV 199 T E D [some (.scr ns),a1,some (zcf t),some (.int m),some (enc x),some (.ref sz),a6,a7,a8,a9] S:=by
 have hm:=hx.wt;rw [zaV];walk_at "wp";refine⟨⟨by omega,by omega⟩,?_⟩
 rw [show((m:Int)).toNat=m by omega]
 refine zfF (fun i σ S'=>∃sz x6,Sub S S'∧S' sz=some (.lst [.tup [.int 1, .int 1],szW ((tow x i).mk [t] (zaf 1)),szW ((tow x i).mk [t] (zaf 2))])∧σ=[some (.scr ns),a1,some (zcf t),some (.int m),some (enc (tow x i)),some (.ref sz),x6,a7,a8,a9]) m ?_ ?_ ⟨sz,a6, .refl,by rw [k.mk0 hx,k.mk0 hx];exact fs,rfl⟩
 ·rintro i hi σ S' N ⟨sz,x6,sb,fz,rfl⟩ hN;simp only[zcc,zbs,zbp,zcf];walk_at "wp";refine⟨zag (by decide),zag (by decide),?_⟩;rw [show atI [W.str t.1,enc t.2.1,enc t.2.2] 1=some (enc t.2.1) from rfl];dsimp only;rw [zaq fz];rw [show atI [W.tup [.int 1, .int 1],szW ((tow x i).mk [t] (zaf 1)),szW ((tow x i).mk [t] (zaf 2))] 1=some (szW ((tow x i).mk [t] (zaf 1))) from rfl];dsimp only;refine zfD (r:=198) 4 k.d1 (by omega) k.f1 (by have:=k.v1;omega) ?_;rw [show atI [W.str t.1,enc t.2.1,enc t.2.2] 2=some (enc t.2.2) from rfl];dsimp only;rw [zaq fz];rw [show atI [W.tup [.int 1, .int 1],szW ((tow x i).mk [t] (zaf 1)),szW ((tow x i).mk [t] (zaf 2))] 2=some (szW ((tow x i).mk [t] (zaf 2))) from rfl];dsimp only;refine zfD (r:=198) 4 k.d2 (by omega) k.f2 (by have:=k.v2;omega) ?_;refine⟨zag (by decide),fun b hb=>hN _ _ _ .refl ⟨b,some (.int i),sb.trans (.put .refl hb),?_,?_⟩⟩
  ·rw [k.mkS,k.mkS,zaj];rfl
  ·rw [show enc (tow x (i+1))=W.tup [.str (Str.ofString "A"),enc (tow x i)] by simp [tow,enc,encs,tiA]]
   rfl
 ·rintro σ S' ⟨sz,x6,sb,fz,rfl⟩;exact h S' sz x6 sb fz
theorem zdA (t:Tr):t.small=false↔((400:Int)<t.weight∨(40:Int)<t.depth):=by
 unfold Tr.small;rw [Bool.and_eq_false_iff,decide_eq_false_iff_not,decide_eq_false_iff_not];omega
theorem znx{n:Int}(k:KindT t) (hx:Inn x m) (hn:n=1∨n=2) (fs:S sz=some (.lst [.tup [.int 1, .int 1],szW ((tow x m).mk [t] (zaf 1)),szW ((tow x m).mk [t] (zaf 2))])) (h:∀S' x8 x9,Sub S S'→D.nx [a1,a2,some (zcf t),a3,some (enc (tow x m)),some (.ref sz),a6,some (.int n),x8,x9] S') :
  zbA 199 zbF E D [a1,a2,some (zcf t),a3,some (enc (tow x m)),some (.ref sz),a6,some (.int n),a8,a9] S:=by
 have l1:1≤sizeLine:=zag (by decide);unfold zbA zbo zbn;walk_at "wp";refine⟨zag (by decide),fun b hb=>?_⟩;have sb:Sub S (put S b (Ob.lst [zcf t])):= .put .refl hb;have fb:put S b (Ob.lst [zcf t]) b=some (.lst ([t].map zcf)):=zaj;generalize put S b (Ob.lst [zcf t])=S1 at sb fb⊢;refine zlj (r:=198) k hx fb hn (by omega) (fun e S2 q s2 fq=>?_) fun e S2 q s2 fq=>?_
 ·have fz:=s2 _ _ (sb _ _ fs);have ea:atI [W.tup [.int 1, .int 1],szW ((tow x m).mk [t] (zaf 1)),szW ((tow x m).mk [t] (zaf 2))] n=some (szW ((tow x m).mk [t] (zaf n))):=by rcases hn with rfl |rfl<;>rfl
  have ns:¬((400:Int)<((tow x m).mk [t] (zaf n)).weight∨(40:Int)<((tow x m).mk [t] (zaf n)).depth):=fun z=>by
   rw [(zdA _).mpr z]at e;cases e
  dsimp only;rw [zaq fz,ea];unfold szW;walk_at "wp";rw [if_neg (fun z=>ns (.inl z)),zaq fz,ea];unfold szW;walk_at "wp";rw [show atI [W.int (((tow x m).mk [t] (zaf n)).weight:Int),W.int (((tow x m).mk [t] (zaf n)).depth:Int)] 1=some (W.int (((tow x m).mk [t] (zaf n)).depth:Int)) from rfl];walk_at "wp";rw [if_neg (fun z=>ns (.inr z))];refine⟨Nat.zero_le _,fun c hc=>?_⟩;rw [zht (n:=59) (xs:=[]) (keep fq hc) zaj rfl]
  try walk_at "wp"
  refine⟨zag (by decide),fun d hd=>?_⟩;have hdp:(tow x m).depth≤40:=by rw [zhF];have:=hx.dp;omega
  have hwt:(tow x m).weight≤1000:=by rw [ziq];have:=hx.wt;omega
  have hg:SidesW (zaf n) [t]:=by rcases hn with rfl |rfl;exact k.s1;exact k.s2
  have hnd:([t].map fun t=>t.1).Nodup:=by simp
  have sub:=((sb.trans s2).trans (.put (o:= .lst []) .refl hc)).trans (.put (o:= .lst [zcf t]) .refl hd);refine zfQ (r:=198) hnd zaj hn hg 40 hdp (by omega) (k.ar hx m) hwt ?_;rw [zmJ 60 _ _ (by omega),zhj]
  try walk_at "wp"
  exact h _ _ _ sub
 ·have fz:=s2 _ _ (sb _ _ fs);have ea:atI [W.tup [.int 1, .int 1],szW ((tow x m).mk [t] (zaf 1)),szW ((tow x m).mk [t] (zaf 2))] n=some (szW ((tow x m).mk [t] (zaf n))):=by rcases hn with rfl |rfl<;>rfl
  have ys:=(zdA _).mp e;dsimp only;rw [zaq fz,ea];unfold szW;walk_at "wp";have fin:∀c,S2 c=none→eqF (put S2 c (Ob.lst [W.bl true,W.bl true,W.bl false,W.bl false,W.bl false,W.bl false])) 60 (W.ref q) (W.ref c)=some true:=fun c hc=>zht (n:=59) (keep fq hc) zaj rfl;by_cases z:(400:Int)<((tow x m).mk [t] (zaf n)).weight
  ·rw [if_pos z];refine⟨zag (by decide),fun c hc=>?_⟩;rw [fin c hc]
   try walk_at "wp"
   exact h _ _ _ ((sb.trans s2).trans (.put .refl hc))
  ·rw [if_neg z,zaq fz,ea];unfold szW;walk_at "wp";rw [show atI [W.int (((tow x m).mk [t] (zaf n)).weight:Int),W.int (((tow x m).mk [t] (zaf n)).depth:Int)] 1=some (W.int (((tow x m).mk [t] (zaf n)).depth:Int)) from rfl];walk_at "wp";rw [if_pos (ys.resolve_left z)];refine⟨zag (by decide),fun c hc=>?_⟩;rw [fin c hc]
   try walk_at "wp"
   exact h _ _ _ ((sb.trans s2).trans (.put .refl hc))
theorem zpl (k:KindT t) (hx:Inn x m) (fs:S sz=some (.lst [.tup [.int 1, .int 1],szW ((tow x m).mk [t] (zaf 1)),szW ((tow x m).mk [t] (zaf 2))])) (h:∀S' x7 x8 x9,Sub S S'→T E D [a1,a2,some (zcf t),a3,some (enc (tow x m)),some (.ref sz),a6,x7,x8,x9] S') :
  zbi 199 T E D [a1,a2,some (zcf t),a3,some (enc (tow x m)),some (.ref sz),a6,a7,a8,a9] S:=by
 rw [zbi];walk_at "wp";refine⟨zag (by decide),zcO fun N hN=>?_⟩;refine znx k hx (.inl rfl) fs fun S1 x8 x9 s1=>hN _ _ _ .refl trivial (zcO fun N2 hN2=>?_);refine znx k hx (.inr rfl) (s1 _ _ fs) fun S2 y8 y9 s2=>hN2 _ _ _ .refl trivial ?_;simp only[zdF];exact h _ _ _ _ (s1.trans s2)
end
theorem zlX (ns:List Int) (hl:ns.length≤63):zbw 200 [.scr ns] (fun _=>none) (fun w _=>w= .bl true) (fun _ _=>False):=by
 rw [show(200:Nat)=199+1 from rfl,zbw,zkn];refine⟨rfl,?_⟩;refine zpf fun S1 aw w0 w1 w2 w3 w4 w5 G fw=>zpu fw fun t k=>zpn fun m hm=>zoW hm G fw fun x hx=>zop hx fun sz hz=>zok k hx zaj fun S2 sz2 x6 s2 fs=>zpl k hx fs fun S3 x7 x8 x9 s3=>?_;rw [zbE];walk_at "wp"
 first |exact⟨_, .refl,rfl⟩ |exact⟨_, .refl⟩
end L2
end
end
section
namespace K16
open PySem L2 PyProof.Rows
noncomputable def top (i:Nat):Stmt:=PySem.Challenge.pw_turnweave_k16_too_great.main.body.getD i (.Pass ⟨0,0,0,0⟩)
structure Cal (P:Program) (w:World) (K:PySem.W.Frag) (mg:Str→Option Value) (base:Heap) (nm:Str) (ps:List Str) (c:Nat→WSp) where
  zf:Addr
  zd:FuncData
  zg:∀r,FnOk P w K mg base (CX1 P w) r zf zd ps (zaS K (c r))
  zb:Binds K zd ps []
  zk:PySem.W.keepIn K (.ref zf)=true
  zm:mg nm=some (.ref zf)
noncomputable def mkC {P:Program}{w:World}{K:PySem.W.Frag}{h:Heap}{mg:Str→Option Value}{base:Heap}{nm:Str}{st:Stmt}{ps:List Str}{c:Nat→WSp}{f:Addr}{d:FuncData}(X:K.In h) (G:h.Ns mainGlobals mg) (F:Fun K nm nm st f d) (a:PySem.W.nsIn K mainGlobals nm=some (some (.ref f))) (g:∀r,FnOk P w K mg base (CX1 P w) r f d ps (zaS K (c r))) (b:Binds K d ps []):Cal P w K mg base nm ps c:=⟨f,d,g,b,F.kp,PySem.W.mg_of X G a⟩
noncomputable def Dfn (K:PySem.W.Frag) (nm:Str) (st:Stmt):Prop:=∃f d,PySem.W.nsIn K mainGlobals nm=some (some (.ref f))∧Fun K nm nm st f d
theorem dfn{K:PySem.W.Frag}{x:Str}{st:Stmt}{f:Addr}{oc:Value}{od an:Option Addr}{osl:Array (Option Value)}{kV doc pm cdv ct:Value}(a:PySem.W.nsIn K mainGlobals x=some (some (.ref f))) (l:K.lookup f=some ⟨oc,od, .func (PySem.W.fnOf x x (zdd st) (zcy st) (zak st) .none kV doc pm an cdv ct),osl⟩) (c:PySem.W.codeIn K cdv x=true) (k:PySem.W.keepIn K (.ref f)=true):Dfn K x st:=⟨f,_,a,znw l c k⟩
theorem nC{p:List Value→Prop}{k:Nat}(h:∀a us,us.length=k→p (a::us)):∀us,us.length=k+1→p us:=fun us e=>by
 cases us with
 |nil=>cases e
 |cons a us=>exact h a us (Nat.succ.inj e)
theorem n0{p:List Value→Prop}(h:p []):∀us,us.length=0→p us:=fun us e=>by
 cases us with
 |nil=>exact h
 |cons a us=>cases e
theorem n1{p:List Value→Prop}(h:∀a,p [a]):∀us,us.length=1→p us:=nC fun a=>n0 (p:=fun us=>p (a::us)) (h a)
theorem n2{p:List Value→Prop}(h:∀a b,p [a,b]):∀us,us.length=2→p us:=nC fun a=>n1 (p:=fun us=>p (a::us)) (h a)
theorem n3{p:List Value→Prop}(h:∀a b c,p [a,b,c]):∀us,us.length=3→p us:=nC fun a=>n2 (p:=fun us=>p (a::us)) (h a)
theorem n4{p:List Value→Prop}(h:∀a b c d,p [a,b,c,d]):∀us,us.length=4→p us:=nC fun a=>n3 (p:=fun us=>p (a::us)) (h a)
theorem n5{p:List Value→Prop}(h:∀a b c d e,p [a,b,c,d,e]):∀us,us.length=5→p us:=nC fun a=>n4 (p:=fun us=>p (a::us)) (h a)
theorem n6{p:List Value→Prop}(h:∀a b c d e f,p [a,b,c,d,e,f]):∀us,us.length=6→p us:=nC fun a=>n5 (p:=fun us=>p (a::us)) (h a)
local macro_rules | `(tactic| walk_at "sc") => `(tactic| (refine ⟨rfl, rfl, rfl, ?_, rfl, ?_, ?_⟩ <;> decide +kernel))
noncomputable abbrev Ok (P:Program) (w:World) (K:PySem.W.Frag) (mg:Str→Option Value) (base:Heap) (f:Addr) (d:FuncData) (ps:List Str) (c:Nat→WSp):Prop:=∀r,FnOk P w K mg base (CX1 P w) r f d ps (zaS K (c r))
theorem zdJ{P:Program}{w:World}{K:PySem.W.Frag}{mg:Str→Option Value}{base:Heap}{f:Addr}{d:FuncData}{ps:List Str}{c:Nat→WSp}(h0:c 0=zbF) (h:∀r,FnOk P w K mg base (CX1 P w) r f d ps (zaS K (c r))→FnOk P w K mg base (CX1 P w) (r+1) f d ps (zaS K (c (r+1)))):Ok P w K mg base f d ps c:=fun r=>by
 induction r with
 |zero=>rw [h0];exact zmV
 |succ r ih=>exact h r ih
structure Ncl (mg:Str→Option Value) (x:Str) where
  xC:Addr
  xm:mg x=some (.ref xC)
theorem zcZ:bootBuiltins "ValueError" =some (.type "ValueError"):=by first |rfl |decide +kernel | (unfold bootBuiltins;decide +kernel)
noncomputable abbrev s0:Stmt:=top 10
theorem sc0:FnScope ["t"] ["t"] (zak s0):=by walk_at "sc"
noncomputable abbrev s1:Stmt:=top 11
theorem sc1:FnScope ["things", "found", "thing"] ["things"] (zak s1):=by walk_at "sc"
noncomputable abbrev s2:Stmt:=top 12
theorem sc2:FnScope ["t", "heavy", "deep", "level"] ["t"] (zak s2):=by walk_at "sc"
noncomputable abbrev s3:Stmt:=top 14
theorem sc3:FnScope ["side", "things"] ["side", "things"] (zak s3):=by walk_at "sc"
noncomputable abbrev s4:Stmt:=top 18
theorem sc4:FnScope ["book", "title", "turning"] ["book", "title"] (zak s4):=by walk_at "sc"
noncomputable abbrev s5:Stmt:=top 22
theorem sc5:FnScope ["shape"] ["shape"] (zak s5):=by walk_at "sc"
noncomputable abbrev s6:Stmt:=top 23
theorem sc6:FnScope ["book", "way", "side", "parts", "turning"] ["book", "way", "side"] (zak s6):=by walk_at "sc"
noncomputable abbrev s7:Stmt:=top 20
theorem sc7:FnScope ["book", "way"] ["book", "way"] (zak s7):=by walk_at "sc"
noncomputable abbrev s8:Stmt:=top 21
theorem sc8:FnScope ["book", "way"] ["book", "way"] (zak s8):=by walk_at "sc"
noncomputable abbrev s9:Stmt:=top 25
theorem sc9:FnScope ["script", "k"] ["script", "k"] (zak s9):=by walk_at "sc"
noncomputable abbrev s10:Stmt:=top 26
theorem sc10:FnScope ["one", "two", "great", "signs", "rest", "base", "k", "at", "words", "word"] ["one", "two", "great"] (zak s10):=by walk_at "sc"
noncomputable abbrev s11:Stmt:=top 28
theorem zqp:FnScope ["side", "things"] ["side", "things"] (zak s11):=by walk_at "sc"
noncomputable abbrev s12:Stmt:=top 27
theorem sc12:FnScope ["book", "way", "which", "parts", "turning"] ["book", "way", "which"] (zak s12):=by walk_at "sc"
noncomputable abbrev s13:Stmt:=top 29
theorem sc13:FnScope ["side", "inner", "sizes"] ["side", "inner"] (zak s13):=by walk_at "sc"
noncomputable abbrev s14:Stmt:=top 30
theorem sc14:FnScope ["way", "w", "h", "c"] ["way", "w"] (zak s14):=by walk_at "sc"
noncomputable abbrev s15:Stmt:=top 31
theorem sc15:FnScope ["cell", "w", "many", "shape", "k"] ["cell", "w", "many"] (zak s15):=by walk_at "sc"
noncomputable abbrev s16:Stmt:=top 32
theorem sc16:FnScope ["which", "book", "way", "found", "kinds", "e"] ["which", "book", "way"] (zak s16):=by walk_at "sc"
noncomputable abbrev s17:Stmt:=top 33
theorem sc17:FnScope ["way", "sizes"] ["way"] (zak s17):=by walk_at "sc"
noncomputable abbrev s18:Stmt:=top 34
theorem sc18:FnScope ["script", "w", "turning", "many", "way", "sizes", "k", "which", "kinds", "found"] ["script"] (zak s18):=by walk_at "sc"
section
variable (P:Program) (w:World) (K:PySem.W.Frag) (mg:Str→Option Value) (base:Heap)
noncomputable abbrev C0:=Cal P w K mg base "parts_of" ["t"] zbz
noncomputable abbrev C1:=Cal P w K mg base "parts_of_all" ["things"] zaG
noncomputable abbrev C2:=Cal P w K mg base "is_small" ["t"] zbv
noncomputable abbrev C3:=Cal P w K mg base "filled" ["side", "things"] zbC
noncomputable abbrev C4:=Cal P w K mg base "turning_of" ["book", "title"] zaO
noncomputable abbrev C5:=Cal P w K mg base "only_small" ["shape"] zaI
noncomputable abbrev C6:=Cal P w K mg base "with_sides" ["book", "way", "side"] zaD
noncomputable abbrev C7:=Cal P w K mg base "source" ["book", "way"] zcr
noncomputable abbrev C8:=Cal P w K mg base "goal" ["book", "way"] zeK
noncomputable abbrev C9:=Cal P w K mg base "_law_cell" ["script", "k"] zav
noncomputable abbrev C10:=Cal P w K mg base "_law_words" ["one", "two", "great"] zaQ
noncomputable abbrev C11:=Cal P w K mg base "_law_filled" ["side", "things"] zaz
noncomputable abbrev C12:=Cal P w K mg base "_law_made" ["book", "way", "which"] zaN
noncomputable abbrev C13:=Cal P w K mg base "_law_size" ["side", "inner"] zaC
noncomputable abbrev C14:=Cal P w K mg base "_law_kind" ["way", "w"] zbb
noncomputable abbrev C15:=Cal P w K mg base "_law_inner" ["cell", "w", "many"] zaP
noncomputable abbrev C16:=Cal P w K mg base "_law_told" ["which", "book", "way"] zba
noncomputable abbrev C17:=Cal P w K mg base "_law_inner_size" ["way"] zao
end
section
variable {P:Program}{w:World}{K:PySem.W.Frag}{mg:Str→Option Value}{base:Heap}
theorem o0{f:Addr}{d:FuncData}(F:Fun K "parts_of" "parts_of" s0 f d) (n_i:mg "isinstance" =none) (n_n:mg "int" =none):Ok P w K mg base f d ["t"] zbz:=zdJ rfl fun r ih=>zbD F sc0 rfl rfl fun _ _ _ _ _ _ hr=>(zae (zbB (zcC (zfT rfl n_i rfl n_n PyProof.Rows.boot_int (jv 0) (by decide) (by decide) (znZ _ (by simp)))) (zai (zap (zat zad))) zaM)
  (zai (zap (zdr (jv 0) (zbl zac) zbe))))
theorem o1{f:Addr}{d:FuncData}(F:Fun K "parts_of_all" "parts_of_all" s1 f d) (x0:C0 P w K mg base):Ok P w K mg base f d ["things"] zaG:=zdJ rfl fun r ih=>zbD F sc1 rfl rfl fun _ _ _ _ _ _ hr=>(zae (zau (i:=1) sc1.nd rfl (Or.inl rfl) (zbm (zaT zad)))
  (zae (zcB (zbx (jv 0)) (zaw (i:=2) sc1.nd rfl (Or.inl rfl)) (zai (zfK (zhM (jv 1) (zaa (zam (x0.zg r) hr rfl x0.zm x0.zk x0.zb (zaa (jv 2) zad)) zad)))))
  (zai (zap (jv 1)))))
theorem o2{f:Addr}{d:FuncData}(F:Fun K "is_small" "is_small" s2 f d) (x1:C1 P w K mg base) (n_l:mg "len" =none) {t_MOST_HEAVY:Tok}(g_MOST_HEAVY:mg "MOST_HEAVY" =some (.int 400 t_MOST_HEAVY)) {t_MOST_DEEP:Tok}(g_MOST_DEEP:mg "MOST_DEEP" =some (.int 40 t_MOST_DEEP)):Ok P w K mg base f d ["t"] zbv:=zdJ rfl fun r ih=>zbD F sc2 rfl rfl fun _ _ _ _ _ _ hr=>(zae (zau (i:=1) sc2.nd rfl (Or.inl rfl) zac)
  (zae (zau (i:=2) sc2.nd rfl (Or.inl rfl) zac)
  (zae (zau (i:=3) sc2.nd rfl (Or.inl rfl) (zbm (zaT (zaa (jv 0) zad))))
  (zae (zjI (zcC (jv 3)) (zae (zkm (i:=1) sc2.nd rfl (Or.inl rfl) (zgn rfl n_l (zaa (jv 3) zad)))
  (zae (zkm (i:=2) sc2.nd rfl (Or.inl rfl) zac)
  (zae (zbB (JW.jt (zlN (zjP (jv 1) (zdK rfl g_MOST_HEAVY)) (zhD (zjP (jv 2) (zdK rfl g_MOST_DEEP))))) (zai (zap zcG)) zaM)
  (zai (zau (i:=3) sc2.nd rfl (Or.inl rfl) (zam (x1.zg r) hr rfl x1.zm x1.zk x1.zb (zaa (jv 3) zad))))))))
  (zai (zap zcG))))))
theorem o3{f:Addr}{d:FuncData}(F:Fun K "filled" "filled" s3 f d) (b:Binds K d ["side", "things"] []) (m:mg "filled" =some (.ref f)) (n_i:mg "isinstance" =none) (n_n:mg "int" =none) (n_t:mg "tuple" =none):Ok P w K mg base f d ["side", "things"] zbC:=zdJ rfl fun r ih=>zbD F sc3 rfl rfl fun _ _ _ _ _ _ hr=>(zae (zbB (zcC (zfT rfl n_i rfl n_n PyProof.Rows.boot_int (jv 0) (by decide) (by decide) (znZ _ (by simp)))) (zai (zap (zax (jv 1) (jv 0)))) zaM)
  (zai (zap (zbG (zat (zaa (zax (jv 0) zac) zad)) (zeQ rfl n_t (zbX (N:=["inner", "things"]) (k:=1) (fr:=[1]) ⟨rfl,by decide +kernel,rfl,rfl,rfl,rfl,rfl,rfl,rfl⟩ (zbx (zdr (jv 0) (zbl zac) zbe)) (fun _ _ _ _=>(zaw (i:=0) (show List.Nodup [("inner" :Str),("things" :Str)] from by decide +kernel) rfl (Or.inl rfl))) (fun _ _ _ _=>zaZ) (fun _ _ _ _=>(zam ih hr rfl m F.kp b (zaa (jv 0) (zaa (jv 1) zad))))))))))
theorem o4{f:Addr}{d:FuncData}(F:Fun K "turning_of" "turning_of" s4 f d):Ok P w K mg base f d ["book", "title"] zaO:=zdJ rfl fun r ih=>zbD F sc4 rfl rfl fun _ _ _ _ _ _ hr=>(zae (zcB (zbx (jv 0)) (zaw (i:=2) sc4.nd rfl (Or.inl rfl)) (zai (zbB (zep hr (zax (jv 2) zac) (jv 1)) (zai (zap (jv 2))) zaM)))
  (zai (zap zit)))
theorem o5{f:Addr}{d:FuncData}(F:Fun K "only_small" "only_small" s5 f d) (x2:C2 P w K mg base) (y_TooGreat:Ncl mg "TooGreat") (v_TooGreat:XcIn K "TooGreat" y_TooGreat.xC):Ok P w K mg base f d ["shape"] zaI:=zdJ rfl fun r ih=>zbD F sc5 rfl rfl fun _ _ _ _ _ _ hr=>(zae (zbB (zki (zcC (zam (x2.zg r) hr rfl x2.zm x2.zk x2.zb (zaa (jv 0) zad)))) (zai (zjQ v_TooGreat rfl y_TooGreat.xm (zaa zcE zad))) zaM)
  (zai (zap (jv 0))))
theorem o6{f:Addr}{d:FuncData}(F:Fun K "with_sides" "with_sides" s6 f d) (x4:C4 P w K mg base) (x3:C3 P w K mg base) (b:Binds K d ["book", "way", "side"] []) (m:mg "with_sides" =some (.ref f)) (n_t:mg "tuple" =none):Ok P w K mg base f d ["book", "way", "side"] zaD:=zdJ rfl fun r ih=>zbD F sc6 rfl rfl fun _ _ _ _ _ _ hr=>(zae (zdV (i:=3) (N:=["inner", "book", "side"]) (k:=1) (fr:=[0,2]) sc6.nd rfl (Or.inl rfl) ⟨rfl,by decide +kernel,rfl,rfl,rfl,rfl,rfl,rfl,rfl⟩ (zbx (zdr (jv 1) (zbl zac) zbe)) (fun _ _ _ _=>(zaw (i:=0) (show List.Nodup [("inner" :Str),("book" :Str),("side" :Str)] from by decide +kernel) rfl (Or.inl rfl))) (fun _ _ _ _=>zaZ) (fun _ _ _ _=>(zam ih hr rfl m F.kp b (zaa (jv 1) (zaa (jv 0) (zaa (jv 2) zad))))))
  (zae (zau (i:=4) sc6.nd rfl (Or.inl rfl) (zam (x4.zg r) hr rfl x4.zm x4.zk x4.zb (zaa (jv 0) (zaa (zax (jv 1) zac) zad))))
  (zae (zbB (zow (jv 4) zit) (zai (zap (zbG (zat (zaa (zax (jv 1) zac) zad)) (zfU rfl n_t (zaa (jv 3) zad))))) zaM)
  (zai (zap (zam (x3.zg r) hr rfl x3.zm x3.zk x3.zb (zaa (zax (jv 4) (jv 2)) (zaa (jv 3) zad))))))))
theorem o7{f:Addr}{d:FuncData}(F:Fun K "source" "source" s7 f d) (x5:C5 P w K mg base) (x6:C6 P w K mg base) {t_LEFT:Tok}(g_LEFT:mg "LEFT" =some (.int 1 t_LEFT)):Ok P w K mg base f d ["book", "way"] zcr:=zdJ rfl fun r ih=>zbD F sc7 rfl rfl fun _ _ _ _ _ _ hr=>(zai (zap (zam (x5.zg r) hr rfl x5.zm x5.zk x5.zb (zaa (zam (x6.zg r) hr rfl x6.zm x6.zk x6.zb (zaa (jv 0) (zaa (jv 1) (zaa (zdK rfl g_LEFT) zad)))) zad))))
theorem o8{f:Addr}{d:FuncData}(F:Fun K "goal" "goal" s8 f d) (x5:C5 P w K mg base) (x6:C6 P w K mg base) {t_RIGHT:Tok}(g_RIGHT:mg "RIGHT" =some (.int 2 t_RIGHT)):Ok P w K mg base f d ["book", "way"] zeK:=zdJ rfl fun r ih=>zbD F sc8 rfl rfl fun _ _ _ _ _ _ hr=>(zai (zap (zam (x5.zg r) hr rfl x5.zm x5.zk x5.zb (zaa (zam (x6.zg r) hr rfl x6.zm x6.zk x6.zb (zaa (jv 0) (zaa (jv 1) (zaa (zdK rfl g_RIGHT) zad)))) zad))))
theorem o9{f:Addr}{d:FuncData}(F:Fun K "_law_cell" "_law_cell" s9 f d) (n_l:mg "len" =none):Ok P w K mg base f d ["script", "k"] zav:=zdJ rfl fun r ih=>zbD F sc9 rfl rfl fun _ _ _ _ _ _ hr=>(zae (zbB (zol (jv 1) (zgn rfl n_l (zaa (jv 0) zad))) (zai (zap (zax (jv 0) (jv 1)))) zaM)
  (zai (zap zac)))
theorem o10{f:Addr}{d:FuncData}(F:Fun K "_law_words" "_law_words" s10 f d) (n_r:mg "range" =none) (n_l:mg "len" =none) (n_n:mg "int" =none):Ok P w K mg base f d ["one", "two", "great"] zaQ:=zdJ rfl fun r ih=>zbD F sc10 rfl rfl fun _ _ _ _ _ _ hr=>(zae (zau (i:=3) sc10.nd rfl (Or.inr rfl) zcE)
  (zae (zau (i:=4) sc10.nd rfl (Or.inl rfl) (zbH (jv 1) (zlV zac zac)))
  (zae (zau (i:=5) sc10.nd rfl (Or.inr rfl) (zbm (zaT zad)))
  (zae (zcB (zcg rfl n_r (zaa (zbG zac (zbH (jv 0) zac)) zad)) (zaw (i:=6) sc10.nd rfl (Or.inr rfl)) (zae (zfK (zeB (jv 5) (zaa (zbH (jv 4) zac) zad)))
  (zai (zau (i:=4) sc10.nd rfl (Or.inl rfl) (zcV (jv 4) zac)))))
  (zae (zau (i:=7) sc10.nd rfl (Or.inr rfl) (zbH (zcV (jv 0) zac) (zgn rfl n_l (zaa (jv 5) zad))))
  (zae (zau (i:=8) sc10.nd rfl (Or.inl rfl) (zbm (zaT zad)))
  (zae (zcB (zcg rfl n_r (zaa zac zad)) (zaw (i:=6) sc10.nd rfl (Or.inr rfl)) (zae (zau (i:=9) sc10.nd rfl (Or.inl rfl) (zjO zcE (zbX (N:=["j", "signs", "base", "k", "at"]) (k:=1) (fr:=[3,5,6,7]) ⟨rfl,by decide +kernel,rfl,rfl,rfl,rfl,rfl,rfl,rfl⟩ (zcg rfl n_r (zaa (zgn rfl n_l (zaa (jv 5) zad)) zad)) (fun _ _ _ _=>(zaw (i:=0) (show List.Nodup [("j" :Str),("signs" :Str),("base" :Str),("k" :Str),("at" :Str)] from by decide +kernel) rfl (Or.inl rfl))) (fun _ _ _ _=>zaZ) (fun _ _ _ _=>(zax (jv 1) (zbH (zbG (zax (jv 2) (jv 0)) (zna (jv 3) (zkY rfl n_n (zaa (zoD hr (jv 0) (jv 4)) zad)))) zac))))))
  (zae (zbB (zcC (jv 2)) (zai (zau (i:=9) sc10.nd rfl (Or.inl rfl) (zbG (ziX (zax (jv 9) zac)) (zdr (jv 9) (zbl zac) zbe)))) zaM)
  (zai (zfK (zeB (jv 8) (zaa (jv 9) zad)))))))
  (zae (zbB (JW.jt (zmZ (zep hr (zbH (zcV (jv 0) zac) zac) zac) (zkJ (zki (zcC (jv 2)))))) (zai (zau (i:=8) sc10.nd rfl (Or.inl rfl) (zbm (zlS (zoz (jv 8) zbe (zbl zac)) (zaT (zaa (zax (jv 8) zac) (zaa (zax (jv 8) zac) (zaa (zax (jv 8) zac) zad)))))))) zaM)
  (zai (zap (jv 8)))))))))))
theorem o11{f:Addr}{d:FuncData}(F:Fun K "_law_filled" "_law_filled" s11 f d) (b:Binds K d ["side", "things"] []) (m:mg "_law_filled" =some (.ref f)) (n_i:mg "isinstance" =none) (n_n:mg "int" =none) (n_t:mg "tuple" =none):Ok P w K mg base f d ["side", "things"] zaz:=zdJ rfl fun r ih=>zbD F zqp rfl rfl fun _ _ _ _ _ _ hr=>(zae (zbB (zcC (zfT rfl n_i rfl n_n PyProof.Rows.boot_int (jv 0) (by decide) (by decide) (znZ _ (by simp)))) (zai (zap (zax (jv 1) (jv 0)))) zaM)
  (zai (zap (zbG (zdr (jv 0) zbe (zbl zac)) (zeQ rfl n_t (zbX (N:=["one", "things"]) (k:=1) (fr:=[1]) ⟨rfl,by decide +kernel,rfl,rfl,rfl,rfl,rfl,rfl,rfl⟩ (zbx (zdr (jv 0) (zbl zac) zbe)) (fun _ _ _ _=>(zaw (i:=0) (show List.Nodup [("one" :Str),("things" :Str)] from by decide +kernel) rfl (Or.inl rfl))) (fun _ _ _ _=>zaZ) (fun _ _ _ _=>(zam ih hr rfl m F.kp b (zaa (jv 0) (zaa (jv 1) zad))))))))))
theorem o12{f:Addr}{d:FuncData}(F:Fun K "_law_made" "_law_made" s12 f d) (b:Binds K d ["book", "way", "which"] []) (m:mg "_law_made" =some (.ref f)) (x11:C11 P w K mg base) (n_t:mg "tuple" =none):Ok P w K mg base f d ["book", "way", "which"] zaN:=zdJ rfl fun r ih=>zbD F sc12 rfl rfl fun _ _ _ _ _ _ hr=>(zae (zdV (i:=3) (N:=["one", "book", "which"]) (k:=1) (fr:=[0,2]) sc12.nd rfl (Or.inl rfl) ⟨rfl,by decide +kernel,rfl,rfl,rfl,rfl,rfl,rfl,rfl⟩ (zbx (zdr (jv 1) (zbl zac) zbe)) (fun _ _ _ _=>(zaw (i:=0) (show List.Nodup [("one" :Str),("book" :Str),("which" :Str)] from by decide +kernel) rfl (Or.inl rfl))) (fun _ _ _ _=>zaZ) (fun _ _ _ _=>(zam ih hr rfl m F.kp b (zaa (jv 1) (zaa (jv 0) (zaa (jv 2) zad))))))
  (zae (zcB (zbx (jv 0)) (zaw (i:=4) sc12.nd rfl (Or.inl rfl)) (zai (zbB (zep hr (zax (jv 4) zac) (zax (jv 1) zac)) (zai (zap (zam (x11.zg r) hr rfl x11.zm x11.zk x11.zb (zaa (zax (jv 4) (jv 2)) (zaa (jv 3) zad))))) zaM)))
  (zai (zap (zbG (zdr (jv 1) zbe (zbl zac)) (zfU rfl n_t (zaa (jv 3) zad)))))))
theorem o13{f:Addr}{d:FuncData}(F:Fun K "_law_size" "_law_size" s13 f d) (b:Binds K d ["side", "inner"] []) (m:mg "_law_size" =some (.ref f)) (n_i:mg "isinstance" =none) (n_n:mg "int" =none) (n_u:mg "sum" =none) (n_x:mg "max" =none):Ok P w K mg base f d ["side", "inner"] zaC:=zdJ rfl fun r ih=>zbD F sc13 rfl rfl fun _ _ _ _ _ _ hr=>(zae (zbB (zcC (zfT rfl n_i rfl n_n PyProof.Rows.boot_int (jv 0) (by decide) (by decide) (znZ _ (by simp)))) (zai (zap (jv 1))) zaM)
  (zae (zdV (i:=2) (N:=["one", "inner"]) (k:=1) (fr:=[1]) sc13.nd rfl (Or.inl rfl) ⟨rfl,by decide +kernel,rfl,rfl,rfl,rfl,rfl,rfl,rfl⟩ (zbx (zdr (jv 0) (zbl zac) zbe)) (fun _ _ _ _=>(zaw (i:=0) (show List.Nodup [("one" :Str),("inner" :Str)] from by decide +kernel) rfl (Or.inl rfl))) (fun _ _ _ _=>zaZ) (fun _ _ _ _=>(zam ih hr rfl m F.kp b (zaa (jv 0) (zaa (jv 1) zad)))))
  (zai (zap (zat (zaa (zbG zac (zha rfl n_u (zbX (N:=["one"]) (k:=1) (fr:=[]) ⟨rfl,by decide +kernel,rfl,rfl,rfl,rfl,rfl,rfl,rfl⟩ (zbx (jv 2)) (fun _ _ _ _=>(zaw (i:=0) (show List.Nodup [("one" :Str)] from by decide +kernel) rfl (Or.inl rfl))) (fun _ _ _ _=>zaZ) (fun _ _ _ _=>(zax (jv 0) zac))))) (zaa (zbG zac (zgj rfl n_x (zbX (N:=["one"]) (k:=1) (fr:=[]) ⟨rfl,by decide +kernel,rfl,rfl,rfl,rfl,rfl,rfl,rfl⟩ (zbx (jv 2)) (fun _ _ _ _=>(zaw (i:=0) (show List.Nodup [("one" :Str)] from by decide +kernel) rfl (Or.inl rfl))) (fun _ _ _ _=>zaZ) (fun _ _ _ _=>(zax (jv 0) zac))))) zad)))))))
theorem o14{f:Addr}{d:FuncData}(F:Fun K "_law_kind" "_law_kind" s14 f d):Ok P w K mg base f d ["way", "w"] zbb:=zdJ rfl fun r ih=>zbD F sc14 rfl rfl fun _ _ _ _ _ _ hr=>(zae (zau (i:=2) sc14.nd rfl (Or.inl rfl) (zax (jv 1) zac))
  (zae (zau (i:=3) sc14.nd rfl (Or.inl rfl) (zat (zaa (zax (jv 1) zac) zad)))
  (zae (zbB (zep hr (jv 0) zac) (zai (zap (zat (zaa zcE (zaa (zat (zaa (jv 2) (zaa zac zad))) (zaa (zat (zaa (zax (jv 1) zac) (zaa zac (zaa zac zad)))) zad)))))) zaM)
  (zae (zbB (zep hr (jv 0) zac) (zai (zap (zat (zaa zcE (zaa (zat (zaa (jv 2) (zaa zac zad))) (zaa (zat (zaa (zax (jv 1) zac) (zaa (zat (zaa (zax (jv 1) zac) (zaa (zat (zaa (zax (jv 1) zac) (zaa zac zad))) zad))) zad))) zad)))))) zaM)
  (zae (zbB (zep hr (jv 0) zac) (zai (zap (zat (zaa zcE (zaa (zat (zaa (jv 2) (zaa zac (zaa (zat (zaa (zax (jv 1) zac) (zaa (jv 3) (zaa (jv 3) zad)))) zad)))) (zaa (zat (zaa (zax (jv 1) zac) (zaa zac zad))) zad)))))) zaM)
  (zai (zap (zat (zaa zcE (zaa (zat (zaa (jv 2) (zaa (zat (zaa (zax (jv 1) zac) (zaa (jv 3) (zaa (jv 3) (zaa (jv 3) (zaa (jv 3) (zaa (jv 3) (zaa (jv 3) (zaa (jv 3) (zaa (jv 3) (zaa (jv 3) zad))))))))))) (zaa zac zad)))) (zaa (zat (zaa (zax (jv 1) zac) zad)) zad)))))))))))
theorem o15{f:Addr}{d:FuncData}(F:Fun K "_law_inner" "_law_inner" s15 f d) (n_r:mg "range" =none):Ok P w K mg base f d ["cell", "w", "many"] zaP:=zdJ rfl fun r ih=>zbD F sc15 rfl rfl fun _ _ _ _ _ _ hr=>(zae (zbB (zep hr (zbH (jv 0) zac) zac) (zae (zau (i:=3) sc15.nd rfl (Or.inl rfl) (zat (zaa (zax (jv 1) zac) zad)))
  (zae (zcB (zcg rfl n_r (zaa (zbH (zcV (jv 0) zac) (zkl zac (jv 2))) zad)) (zaw (i:=4) sc15.nd rfl (Or.inl rfl)) (zai (zau (i:=3) sc15.nd rfl (Or.inl rfl) (zat (zaa (zax (jv 1) zac) (zaa (jv 3) zad))))))
  (zai (zap (jv 3))))) zaM)
  (zai (zap (zbG (zat (zaa (zax (jv 1) zac) zad)) (zkA (zat (zaa (zat (zaa (zax (jv 1) zac) zad)) zad)) (zbH (zcV (jv 0) zac) (zkl zac (jv 2))))))))
theorem o16{f:Addr}{d:FuncData}(F:Fun K "_law_told" "_law_told" s16 f d) (x7:C7 P w K mg base) (x8:C8 P w K mg base) (n_i:mg "isinstance" =none) (n_ValueError:mg "ValueError" =none) (y_Apart:Ncl mg "Apart") (y_NoPlace:Ncl mg "NoPlace") (y_NoUse:Ncl mg "NoUse") (y_NoWay:Ncl mg "NoWay") (y_TooGreat:Ncl mg "TooGreat") (y_TurnError:Ncl mg "TurnError") (e_TooGreat_TurnError:PySem.W.exmOne K (.ref y_TooGreat.xC) (.ref y_TurnError.xC)=some true) (q_TooGreat_Apart:PySem.W.kitOne K (.ref y_TooGreat.xC) (.ref y_Apart.xC)=some (zei "TooGreat" "Apart")) (q_TooGreat_NoPlace:PySem.W.kitOne K (.ref y_TooGreat.xC) (.ref y_NoPlace.xC)=some (zei "TooGreat" "NoPlace")) (q_TooGreat_NoUse:PySem.W.kitOne K (.ref y_TooGreat.xC) (.ref y_NoUse.xC)=some (zei "TooGreat" "NoUse")) (q_TooGreat_NoWay:PySem.W.kitOne K (.ref y_TooGreat.xC) (.ref y_NoWay.xC)=some (zei "TooGreat" "NoWay")) (q_TooGreat_TooGreat:PySem.W.kitOne K (.ref y_TooGreat.xC) (.ref y_TooGreat.xC)=some (zei "TooGreat" "TooGreat")) (q_TooGreat_ValueError:PySem.W.kitOne K (.ref y_TooGreat.xC) (.type "ValueError")=some (zei "TooGreat" "ValueError")) (v_TooGreat:XcIn K "TooGreat" y_TooGreat.xC):Ok P w K mg base f d ["which", "book", "way"] zba:=zdJ rfl fun r ih=>zbD F sc16 rfl rfl fun _ _ _ _ _ _ hr=>(zae (zau (i:=3) sc16.nd rfl (Or.inl rfl) zit)
  (zae (zau (i:=4) sc16.nd rfl (Or.inl rfl) (zbm (zaT zad)))
  (zae (ziF (fun _ _=>(zhu (zoE (zep hr (jv 0) zac) (zhu (zkf (i:=3) sc16.nd rfl (Or.inl rfl) (zhh (x7.zg r) hr rfl x7.zm x7.zk x7.zb (zaa (jv 1) (zaa (jv 2) zad))))) (zhu (zkf (i:=3) sc16.nd rfl (Or.inl rfl) (zhh (x8.zg r) hr rfl x8.zm x8.zk x8.zb (zaa (jv 1) (zaa (jv 2) zad)))))))) (alc ⟨y_TooGreat.xC,v_TooGreat,e_TooGreat_TurnError,fun a oa pn hp hc=>(zae (zau (i:=4) sc16.nd rfl (Or.inl rfl) (zbm (zaT (zaa (zeR hp hc v_TooGreat.xc q_TooGreat_TooGreat rfl n_i (i:=5) rfl (Or.inl rfl) rfl y_TooGreat.xm) (zaa (zli hp hc v_TooGreat.xc q_TooGreat_ValueError rfl n_i (i:=5) rfl (Or.inl rfl) rfl n_ValueError zcZ) (zaa (zeR hp hc v_TooGreat.xc q_TooGreat_Apart rfl n_i (i:=5) rfl (Or.inl rfl) rfl y_Apart.xm) (zaa (zeR hp hc v_TooGreat.xc q_TooGreat_NoUse rfl n_i (i:=5) rfl (Or.inl rfl) rfl y_NoUse.xm) zad)))))))
  (zai (zau (i:=4) sc16.nd rfl (Or.inl rfl) (zbm (zlP (jv 4) (zaT (zaa (zeR hp hc v_TooGreat.xc q_TooGreat_NoWay rfl n_i (i:=5) rfl (Or.inl rfl) rfl y_NoWay.xm) (zaa (zeR hp hc v_TooGreat.xc q_TooGreat_NoPlace rfl n_i (i:=5) rfl (Or.inl rfl) rfl y_NoPlace.xm) zad))))))))⟩ aln) rfl y_TurnError.xm sc16.nd rfl rfl)
  (zai (zap (zat (zaa (jv 4) (zaa (jv 3) zad))))))))
theorem o17{f:Addr}{d:FuncData}(F:Fun K "_law_inner_size" "_law_inner_size" s17 f d) (b:Binds K d ["way"] []) (m:mg "_law_inner_size" =some (.ref f)) (n_u:mg "sum" =none) (n_x:mg "max" =none):Ok P w K mg base f d ["way"] zao:=zdJ rfl fun r ih=>zbD F sc17 rfl rfl fun _ _ _ _ _ _ hr=>(zae (zdV (i:=1) (N:=["one"]) (k:=1) (fr:=[]) sc17.nd rfl (Or.inl rfl) ⟨rfl,by decide +kernel,rfl,rfl,rfl,rfl,rfl,rfl,rfl⟩ (zbx (zdr (jv 0) (zbl zac) zbe)) (fun _ _ _ _=>(zaw (i:=0) (show List.Nodup [("one" :Str)] from by decide +kernel) rfl (Or.inl rfl))) (fun _ _ _ _=>zaZ) (fun _ _ _ _=>(zam ih hr rfl m F.kp b (zaa (jv 0) zad))))
  (zai (zap (zat (zaa (zbG zac (zha rfl n_u (zbX (N:=["one"]) (k:=1) (fr:=[]) ⟨rfl,by decide +kernel,rfl,rfl,rfl,rfl,rfl,rfl,rfl⟩ (zbx (jv 1)) (fun _ _ _ _=>(zaw (i:=0) (show List.Nodup [("one" :Str)] from by decide +kernel) rfl (Or.inl rfl))) (fun _ _ _ _=>zaZ) (fun _ _ _ _=>(zax (jv 0) zac))))) (zaa (zbG zac (zgj rfl n_x (zbX (N:=["one"]) (k:=1) (fr:=[]) ⟨rfl,by decide +kernel,rfl,rfl,rfl,rfl,rfl,rfl,rfl⟩ (zbx (jv 1)) (fun _ _ _ _=>(zaw (i:=0) (show List.Nodup [("one" :Str)] from by decide +kernel) rfl (Or.inl rfl))) (fun _ _ _ _=>zaZ) (fun _ _ _ _=>(zax (jv 0) zac))))) zad))))))
theorem o18{f:Addr}{d:FuncData}(F:Fun K "law" "law" s18 f d) (x10:C10 P w K mg base) (x14:C14 P w K mg base) (x15:C15 P w K mg base) (x9:C9 P w K mg base) (x17:C17 P w K mg base) (x16:C16 P w K mg base) (x13:C13 P w K mg base) (x12:C12 P w K mg base) (n_r:mg "range" =none):Ok P w K mg base f d ["script"] zbw:=zdJ rfl fun r ih=>by
  refine zbD F sc18 rfl rfl fun _ _ _ _ _ _ hr=>?_;delta zbE zbn zbo zbi zbp zbs zaV zbj zaY zbf zbk zaW;delta zbA zcc;delta zbE zbn zbo zbi zbp zbs zaV zbj zaY zbf zbk zaW;exact(zae (zau (i:=1) sc18.nd rfl (Or.inl rfl) (zam (x10.zg r) hr rfl x10.zm x10.zk x10.zb (zaa (zam (x9.zg r) hr rfl x9.zm x9.zk x9.zb (zaa (jv 0) (zaa zac zad))) (zaa (zam (x9.zg r) hr rfl x9.zm x9.zk x9.zb (zaa (jv 0) (zaa zac zad))) (zaa zcG zad)))))
  (zae (zau (i:=2) sc18.nd rfl (Or.inl rfl) (zam (x14.zg r) hr rfl x14.zm x14.zk x14.zb (zaa (zbH (zam (x9.zg r) hr rfl x9.zm x9.zk x9.zb (zaa (jv 0) (zaa zac zad))) zac) (zaa (jv 1) zad))))
  (zae (zau (i:=3) sc18.nd rfl (Or.inl rfl) (zbH (zam (x9.zg r) hr rfl x9.zm x9.zk x9.zb (zaa (jv 0) (zaa zac zad))) (znp (zaT (zaa zac (zaa zac (zaa zac zad)))) (zbH (zam (x9.zg r) hr rfl x9.zm x9.zk x9.zb (zaa (jv 0) (zaa zac zad))) zac))))
  (zae (zau (i:=4) sc18.nd rfl (Or.inl rfl) (zam (x15.zg r) hr rfl x15.zm x15.zk x15.zb (zaa (zam (x9.zg r) hr rfl x9.zm x9.zk x9.zb (zaa (jv 0) (zaa zac zad))) (zaa (jv 1) (zaa (jv 3) zad)))))
  (zae (zau (i:=5) sc18.nd rfl (Or.inl rfl) (zbm (zaT (zaa (zat (zaa zac (zaa zac zad))) (zaa (zam (x17.zg r) hr rfl x17.zm x17.zk x17.zb (zaa (jv 4) zad)) (zaa (zam (x17.zg r) hr rfl x17.zm x17.zk x17.zb (zaa (jv 4) zad)) zad))))))
  (zae (zcB (zcg rfl n_r (zaa (jv 3) zad)) (zaw (i:=6) sc18.nd rfl (Or.inl rfl)) (zae (zau (i:=4) sc18.nd rfl (Or.inl rfl) (zat (zaa zcE (zaa (jv 4) zad))))
  (zai (zau (i:=5) sc18.nd rfl (Or.inl rfl) (zbm (zaT (zaa (zat (zaa zac (zaa zac zad))) (zaa (zam (x13.zg r) hr rfl x13.zm x13.zk x13.zb (zaa (zax (jv 2) zac) (zaa (zax (jv 5) zac) zad))) (zaa (zam (x13.zg r) hr rfl x13.zm x13.zk x13.zb (zaa (zax (jv 2) zac) (zaa (zax (jv 5) zac) zad))) zad)))))))))
  (zae (zcB (zmP (zaT (zaa zac (zaa zac zad)))) (zaw (i:=7) sc18.nd rfl (Or.inl rfl)) (zae (zmM (zam (x16.zg r) hr rfl x16.zm x16.zk x16.zb (zaa (jv 7) (zaa (zbm (zaT (zaa (jv 2) zad))) (zaa (jv 4) zad)))) (zmu (zgv (zaw (i:=8) sc18.nd rfl (Or.inl rfl)) (zgv (zaw (i:=9) sc18.nd rfl (Or.inl rfl)) zkM)) (glS (glS gl0))))
  (zai (zbB (JW.jt (zlN (zjP (zax (zax (jv 5) (jv 7)) zac) zac) (zhD (zjP (zax (zax (jv 5) (jv 7)) zac) zac)))) (zai (zbB (zll hr (jv 8) (zbm (zaT (zaa zcG (zaa zcG (zaa zcG (zaa zcG (zaa zcG (zaa zcG zad))))))))) (zai (zap zcG)) zaM)) (zai (zbB (JW.jt (zlN (zll hr (jv 8) (zbm (zaT zad))) (zhD (zll hr (jv 9) (zam (x12.zg r) hr rfl x12.zm x12.zk x12.zb (zaa (zbm (zaT (zaa (jv 2) zad))) (zaa (jv 4) (zaa (jv 7) zad)))))))) (zai (zap zcG)) zaM))))))
  (zai (zap zcG)))))))))
end
theorem all_mk{l:PySem.W.OpenLaw}{w:World}{K:PySem.W.Frag}{h:Heap}{mg:Str→Option Value}{fa:Addr}(X:K.In h) (G:h.Ns mainGlobals mg) (hfa:mg "law" =some (.ref fa))
  (D0:Dfn K "parts_of" s0)
  (D1:Dfn K "parts_of_all" s1)
  (D2:Dfn K "is_small" s2)
  (D3:Dfn K "filled" s3)
  (D4:Dfn K "turning_of" s4)
  (D7:Dfn K "source" s7)
  (D8:Dfn K "goal" s8)
  (D5:Dfn K "only_small" s5)
  (D6:Dfn K "with_sides" s6)
  (D9:Dfn K "_law_cell" s9)
  (D10:Dfn K "_law_words" s10)
  (D12:Dfn K "_law_made" s12)
  (D11:Dfn K "_law_filled" s11)
  (D13:Dfn K "_law_size" s13)
  (D14:Dfn K "_law_kind" s14)
  (D15:Dfn K "_law_inner" s15)
  (D16:Dfn K "_law_told" s16)
  (D17:Dfn K "_law_inner_size" s17)
  (D18:Dfn K "law" s18)
  (z_ValueError:PySem.W.nsIn K mainGlobals "ValueError" =some none)
  (z_n:PySem.W.nsIn K mainGlobals "int" =some none)
  (z_i:PySem.W.nsIn K mainGlobals "isinstance" =some none)
  (z_l:PySem.W.nsIn K mainGlobals "len" =some none)
  (z_x:PySem.W.nsIn K mainGlobals "max" =some none)
  (z_r:PySem.W.nsIn K mainGlobals "range" =some none)
  (z_u:PySem.W.nsIn K mainGlobals "sum" =some none)
  (z_t:PySem.W.nsIn K mainGlobals "tuple" =some none)
  {t_MOST_HEAVY:Tok}(z_MOST_HEAVY:PySem.W.nsIn K mainGlobals "MOST_HEAVY" =some (some (.int 400 t_MOST_HEAVY)))
  {t_MOST_DEEP:Tok}(z_MOST_DEEP:PySem.W.nsIn K mainGlobals "MOST_DEEP" =some (some (.int 40 t_MOST_DEEP)))
  {t_LEFT:Tok}(z_LEFT:PySem.W.nsIn K mainGlobals "LEFT" =some (some (.int 1 t_LEFT)))
  {t_RIGHT:Tok}(z_RIGHT:PySem.W.nsIn K mainGlobals "RIGHT" =some (some (.int 2 t_RIGHT)))
  {C_Apart:Addr}(z_Apart:PySem.W.nsIn K mainGlobals "Apart" =some (some (.ref C_Apart)))
  {C_NoPlace:Addr}(z_NoPlace:PySem.W.nsIn K mainGlobals "NoPlace" =some (some (.ref C_NoPlace)))
  {C_NoUse:Addr}(z_NoUse:PySem.W.nsIn K mainGlobals "NoUse" =some (some (.ref C_NoUse)))
  {C_NoWay:Addr}(z_NoWay:PySem.W.nsIn K mainGlobals "NoWay" =some (some (.ref C_NoWay)))
  {C_TooGreat:Addr}(z_TooGreat:PySem.W.nsIn K mainGlobals "TooGreat" =some (some (.ref C_TooGreat)))
  {C_TurnError:Addr}(z_TurnError:PySem.W.nsIn K mainGlobals "TurnError" =some (some (.ref C_TurnError)))
  (ze_TooGreat_TurnError:PySem.W.exmOne K (.ref C_TooGreat) (.ref C_TurnError)=some true)
  (zq_TooGreat_Apart:PySem.W.kitOne K (.ref C_TooGreat) (.ref C_Apart)=some (false))
  (zq_TooGreat_NoPlace:PySem.W.kitOne K (.ref C_TooGreat) (.ref C_NoPlace)=some (false))
  (zq_TooGreat_NoUse:PySem.W.kitOne K (.ref C_TooGreat) (.ref C_NoUse)=some (false))
  (zq_TooGreat_NoWay:PySem.W.kitOne K (.ref C_TooGreat) (.ref C_NoWay)=some (false))
  (zq_TooGreat_TooGreat:PySem.W.kitOne K (.ref C_TooGreat) (.ref C_TooGreat)=some (true))
  (zq_TooGreat_ValueError:PySem.W.kitOne K (.ref C_TooGreat) (.type "ValueError")=some (true))
  (za_TooGreat:PySem.W.excIn K C_TooGreat bmV "ValueError.__new__" =true) (zb_TooGreat:PySem.W.findIn K (.ref C_TooGreat) "__getattribute__" =some (some (.builtin "BaseException.__getattribute__"))) (zc_TooGreat:PySem.W.findIn K (.ref C_TooGreat) "__getattr__" =some none) (zd_TooGreat:PySem.W.findIn K (.ref C_TooGreat) "__class__" =some (some (.builtin "object.__class__"))) (ze_TooGreat:PySem.W.mroIn K C_TooGreat (.type "object")=some true) (zf_TooGreat:PySem.W.mroIn K C_TooGreat (.type "BaseException")=some true)
  :∃fd:FuncData,(∀(s:Shared) (v:Value),BindsTo s fd ⟨[v],[]⟩ [("script",v)])∧ ∀base:Heap,K.In base→base.Ns mainGlobals mg→FnOk l.prog w K mg base (CX1 l.prog w) 200 fa fd ["script"] (zaS K (zbw 200)):=by
 obtain⟨f18,d18,a18,F18⟩:=D18;have e:=hfa.symm.trans (PySem.W.mg_of X G a18);cases e;have n_ValueError:=PySem.W.mg_none_of X G z_ValueError;have n_n:=PySem.W.mg_none_of X G z_n;have n_i:=PySem.W.mg_none_of X G z_i;have n_l:=PySem.W.mg_none_of X G z_l;have n_x:=PySem.W.mg_none_of X G z_x;have n_r:=PySem.W.mg_none_of X G z_r;have n_u:=PySem.W.mg_none_of X G z_u;have n_t:=PySem.W.mg_none_of X G z_t;have g_MOST_HEAVY:=PySem.W.mg_of X G z_MOST_HEAVY;have g_MOST_DEEP:=PySem.W.mg_of X G z_MOST_DEEP;have g_LEFT:=PySem.W.mg_of X G z_LEFT;have g_RIGHT:=PySem.W.mg_of X G z_RIGHT;refine⟨d18,fun s v=>?_,fun base _ _=>?_⟩
 ·obtain⟨oc,od,kV,doc,pm,an,cdv,ct,osl,rfl,lk,hcd⟩:=F18.ex;exact .of_eq rfl
 obtain⟨f,d,a,F⟩:=D0;have x0:=mkC (base:=base) X G F a (o0 (P:=l.prog) (w:=w) F n_i n_n) (F.binds fun _ _ _ _ _ _=>n1 fun _=>rfl);obtain⟨f,d,a,F⟩:=D1;have x1:=mkC (base:=base) X G F a (o1 (P:=l.prog) (w:=w) F x0) (F.binds fun _ _ _ _ _ _=>n1 fun _=>rfl);obtain⟨f,d,a,F⟩:=D2;have x2:=mkC (base:=base) X G F a (o2 (P:=l.prog) (w:=w) F x1 n_l g_MOST_HEAVY g_MOST_DEEP) (F.binds fun _ _ _ _ _ _=>n1 fun _=>rfl);obtain⟨f,d,a,F⟩:=D3;have x3:=mkC (base:=base) X G F a (o3 (P:=l.prog) (w:=w) F (F.binds fun _ _ _ _ _ _=>n2 fun _ _=>rfl) (PySem.W.mg_of X G a) n_i n_n n_t) (F.binds fun _ _ _ _ _ _=>n2 fun _ _=>rfl);obtain⟨f,d,a,F⟩:=D4;have x4:=mkC (base:=base) X G F a (o4 (P:=l.prog) (w:=w) F) (F.binds fun _ _ _ _ _ _=>n2 fun _ _=>rfl);obtain⟨f,d,a,F⟩:=D5;have x5:=mkC (base:=base) X G F a (o5 (P:=l.prog) (w:=w) F x2 ⟨C_TooGreat,PySem.W.mg_of X G z_TooGreat⟩ ⟨z_TooGreat,za_TooGreat,⟨zb_TooGreat,zc_TooGreat,zd_TooGreat,ze_TooGreat,zf_TooGreat⟩⟩) (F.binds fun _ _ _ _ _ _=>n1 fun _=>rfl);obtain⟨f,d,a,F⟩:=D6;have x6:=mkC (base:=base) X G F a (o6 (P:=l.prog) (w:=w) F x4 x3 (F.binds fun _ _ _ _ _ _=>n3 fun _ _ _=>rfl) (PySem.W.mg_of X G a) n_t) (F.binds fun _ _ _ _ _ _=>n3 fun _ _ _=>rfl);obtain⟨f,d,a,F⟩:=D7;have x7:=mkC (base:=base) X G F a (o7 (P:=l.prog) (w:=w) F x5 x6 g_LEFT) (F.binds fun _ _ _ _ _ _=>n2 fun _ _=>rfl);obtain⟨f,d,a,F⟩:=D8;have x8:=mkC (base:=base) X G F a (o8 (P:=l.prog) (w:=w) F x5 x6 g_RIGHT) (F.binds fun _ _ _ _ _ _=>n2 fun _ _=>rfl);obtain⟨f,d,a,F⟩:=D9;have x9:=mkC (base:=base) X G F a (o9 (P:=l.prog) (w:=w) F n_l) (F.binds fun _ _ _ _ _ _=>n2 fun _ _=>rfl);obtain⟨f,d,a,F⟩:=D10;have x10:=mkC (base:=base) X G F a (o10 (P:=l.prog) (w:=w) F n_r n_l n_n) (F.binds fun _ _ _ _ _ _=>n3 fun _ _ _=>rfl);obtain⟨f,d,a,F⟩:=D11;have x11:=mkC (base:=base) X G F a (o11 (P:=l.prog) (w:=w) F (F.binds fun _ _ _ _ _ _=>n2 fun _ _=>rfl) (PySem.W.mg_of X G a) n_i n_n n_t) (F.binds fun _ _ _ _ _ _=>n2 fun _ _=>rfl);obtain⟨f,d,a,F⟩:=D12;have x12:=mkC (base:=base) X G F a (o12 (P:=l.prog) (w:=w) F (F.binds fun _ _ _ _ _ _=>n3 fun _ _ _=>rfl) (PySem.W.mg_of X G a) x11 n_t) (F.binds fun _ _ _ _ _ _=>n3 fun _ _ _=>rfl);obtain⟨f,d,a,F⟩:=D13;have x13:=mkC (base:=base) X G F a (o13 (P:=l.prog) (w:=w) F (F.binds fun _ _ _ _ _ _=>n2 fun _ _=>rfl) (PySem.W.mg_of X G a) n_i n_n n_u n_x) (F.binds fun _ _ _ _ _ _=>n2 fun _ _=>rfl);obtain⟨f,d,a,F⟩:=D14;have x14:=mkC (base:=base) X G F a (o14 (P:=l.prog) (w:=w) F) (F.binds fun _ _ _ _ _ _=>n2 fun _ _=>rfl);obtain⟨f,d,a,F⟩:=D15;have x15:=mkC (base:=base) X G F a (o15 (P:=l.prog) (w:=w) F n_r) (F.binds fun _ _ _ _ _ _=>n3 fun _ _ _=>rfl);obtain⟨f,d,a,F⟩:=D16;have x16:=mkC (base:=base) X G F a (o16 (P:=l.prog) (w:=w) F x7 x8 n_i n_ValueError ⟨C_Apart,PySem.W.mg_of X G z_Apart⟩ ⟨C_NoPlace,PySem.W.mg_of X G z_NoPlace⟩ ⟨C_NoUse,PySem.W.mg_of X G z_NoUse⟩ ⟨C_NoWay,PySem.W.mg_of X G z_NoWay⟩ ⟨C_TooGreat,PySem.W.mg_of X G z_TooGreat⟩ ⟨C_TurnError,PySem.W.mg_of X G z_TurnError⟩ ze_TooGreat_TurnError (zq_TooGreat_Apart.trans (congrArg some (by decide))) (zq_TooGreat_NoPlace.trans (congrArg some (by decide))) (zq_TooGreat_NoUse.trans (congrArg some (by decide))) (zq_TooGreat_NoWay.trans (congrArg some (by decide))) (zq_TooGreat_TooGreat.trans (congrArg some (by decide))) (zq_TooGreat_ValueError.trans (congrArg some (by decide))) ⟨z_TooGreat,za_TooGreat,⟨zb_TooGreat,zc_TooGreat,zd_TooGreat,ze_TooGreat,zf_TooGreat⟩⟩) (F.binds fun _ _ _ _ _ _=>n3 fun _ _ _=>rfl);obtain⟨f,d,a,F⟩:=D17;have x17:=mkC (base:=base) X G F a (o17 (P:=l.prog) (w:=w) F (F.binds fun _ _ _ _ _ _=>n1 fun _=>rfl) (PySem.W.mg_of X G a) n_u n_x) (F.binds fun _ _ _ _ _ _=>n1 fun _=>rfl);exact o18 F18 x10 x14 x15 x9 x17 x16 x13 x12 n_r 200
theorem walk{l:PySem.W.OpenLaw}{q:Program}{loose:List Str}{XP:(Str→Option Value)→Heap→Prop}{YP:World→Heap→Prop}{d:DefRec}{K:Params→PySem.W.Frag}(hn:l.most=some 63) (hdf:d.params.defaults=[])
  (hY:∀(w:World) (h:Heap),YP w h→(K w.params).In h)
  (F:∀(w:World) (mg:Str→Option Value) (fa:Addr) (h:Heap),(K w.params).In h→h.Ns mainGlobals mg→mg d.name=some (.ref fa)→
   ∃fd:FuncData,(∀(s:Shared) (u:Value),BindsTo s fd ⟨[u],[]⟩ [("script",u)])∧ ∀base:Heap,(K w.params).In base→base.Ns mainGlobals mg→FnOk l.prog w (K w.params) mg base (CX1 l.prog w) 200 fa fd ["script"] (zaS (K w.params) (zbw 200))) :
  PySem.W.WalkO q loose XP YP l.row.toRowW d [] (fun f vs=>PySem.call f vs):=
 L2.zkC (n:=63) (k:=200) (x:= "script") (CX:=fun w=>CX1 l.prog w) (sp:=fun w=>zaS (K w.params) (zbw 200)) hn (by decide) hdf ⟨rfl,by decide,by decide⟩ hY F (fun w H a ns hl hO hS=>zjf hO hS (zlX ns hl)) fun _ _ _ _ _ ⟨_,_,_,_,_,_,_,_,_,z⟩=>z
end K16
noncomputable def PySem.W.Fast.tw8446724579374746050:Nat:=0
noncomputable def PySem.W.Fast.tw6630428456228653007:Nat:=0
noncomputable def PySem.W.Fast.tw9494367359679012669:Nat:=0
noncomputable def PySem.W.Fast.tw3256984380817262796:Nat:=0
noncomputable def PySem.W.Fast.tw5930245053068478915:Nat:=0
noncomputable def PySem.W.Fast.tw7361270993662062791:Nat:=0
noncomputable def PySem.W.Fast.tw6781874534415608619:Nat:=0
noncomputable def PySem.W.Fast.tw16726124305891845288:Nat:=0
noncomputable def PySem.W.Fast.tw16498611156633271236:Nat:=0
noncomputable def PySem.W.Fast.tw5568579373490539821:Nat:=0
noncomputable def PySem.W.Fast.tw9497579231137023610:Nat:=0
noncomputable def PySem.W.Fast.tw3875851227012569523:Nat:=0
open PySem PySem.W PyProof.Rows
set_option maxRecDepth 100000 in
set_option maxHeartbeats 0 in
theorem PySem.Challenge.cw_turnweave_k16_too_great_holds : PySem.Challenge.rw_turnweave_k16_too_great.Holds := by
 w_on;o_law;k_head;(case hw=>w_witness2)
 k_fill
 refine K16.walk (l:=PySem.Challenge.rw_turnweave_k16_too_great) rfl rfl (fun w h Y=>PySem.W.kIn_of Y) ?F
 case F=>
  intro w mg fa h KX G hmg
  refine' K16.all_mk KX G hmg (K16.dfn ?_ ?_ ?_ ?_) (K16.dfn ?_ ?_ ?_ ?_) (K16.dfn ?_ ?_ ?_ ?_) (K16.dfn ?_ ?_ ?_ ?_) (K16.dfn ?_ ?_ ?_ ?_) (K16.dfn ?_ ?_ ?_ ?_) (K16.dfn ?_ ?_ ?_ ?_) (K16.dfn ?_ ?_ ?_ ?_) (K16.dfn ?_ ?_ ?_ ?_) (K16.dfn ?_ ?_ ?_ ?_) (K16.dfn ?_ ?_ ?_ ?_) (K16.dfn ?_ ?_ ?_ ?_) (K16.dfn ?_ ?_ ?_ ?_) (K16.dfn ?_ ?_ ?_ ?_) (K16.dfn ?_ ?_ ?_ ?_) (K16.dfn ?_ ?_ ?_ ?_) (K16.dfn ?_ ?_ ?_ ?_) (K16.dfn ?_ ?_ ?_ ?_) (K16.dfn ?_ ?_ ?_ ?_) ?_ ?_ ?_ ?_ ?_ ?_ ?_ ?_ ?_ ?_ ?_ ?_ ?_ ?_ ?_ ?_ ?_ ?_ ?_ ?_ ?_ ?_ ?_ ?_ ?_ ?_ ?_ ?_ ?_ ?_ ?_<;>first |k_is |kit_is | (dsimp only[List.map];kit_is) |kts_exm | (delta L2.bmV;k_exc) |skip
end
