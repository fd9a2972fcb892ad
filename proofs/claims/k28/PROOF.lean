import PyProof.Rows.All
import Wide.All
import OpenK.AllK
import Wide.FinOn
import Lean
import PyProof.EqAt
import PyProof.EqKinds
import PyProof.TupleCall
import PyProof.NeKinds
import PyProof.ListMulRoad
import PyProof.AttrMissHeap
import KE.KDictOf
import KE.KRevIter
import PyProof.ListRange
import PySem.Challenge.RW_turnweave_k28_grid
set_option Elab.async false
set_option compiler.extract_closed false
set_option linter.all false
set_option maxRecDepth 100000
set_option maxHeartbeats 4000000
section
namespace L2
open PySem PySem.Spec PyProof.Rows
noncomputable abbrev Key:=Sum Int Str
noncomputable def znh:Key→Value→Bool
 | .inl k,v=>Value.isInt k v
 | .inr x,v=>Value.isStrOf x v
noncomputable def zzK (w:World):Key→Int
 | .inl k=>hashInt k
 | .inr x=>hashStr w x
theorem zbl:∀{k:Key}{v:Value},znh k v=true→(∃i t,k=Sum.inl i∧v=Value.int i t)∨(∃x t,k=Sum.inr x∧v=Value.str x t)
 | .inl i,v,h=>by
  obtain⟨t,e⟩:=Value.isInt_shape (k:=i) (v:=v) h;exact .inl ⟨i,t,rfl,e⟩
 | .inr x,v,h=>by
  obtain⟨t,e⟩:=Value.isStrOf_shape (x:=x) (v:=v) h;exact .inr ⟨x,t,rfl,e⟩
theorem zpf (i:Int) (t:Tok):znh (.inl i) (.int i t)=true:=by simp [znh,Value.isInt]
theorem zoY (x:Str) (t:Tok):znh (.inr x) (.str x t)=true:=by simp [znh,Value.isStrOf]
theorem zuz (a b:Int):decide ((Sum.inl a:Key)=Sum.inl b)=(a == b):=by
 by_cases e:a=b
 ·subst e;simp
 ·have h:¬(Sum.inl a:Key)=Sum.inl b:=fun q=>e (Sum.inl.inj q);rw [decide_eq_false h];exact(beq_eq_false_iff_ne.mpr e).symm
theorem zwg (a b:Str):decide ((Sum.inr a:Key)=Sum.inr b)=decide (a=b):=by
 by_cases e:a=b
 ·subst e;simp
 ·have h:¬(Sum.inr a:Key)=Sum.inr b:=fun q=>e (Sum.inr.inj q);rw [decide_eq_false h,decide_eq_false e]
theorem zuS (a:Int) (b:Str):decide ((Sum.inl a:Key)=Sum.inr b)=false:=decide_eq_false (fun q=>nomatch q)
theorem zvM (a:Str) (b:Int):decide ((Sum.inr a:Key)=Sum.inl b)=false:=decide_eq_false (fun q=>nomatch q)
noncomputable def zbs (prog:Program) (w:World):PySem.KeyKind prog w Key where
  is:=znh
  hash:=zzK w
  inj:=fun v a b ha hb=>by
    rcases zbl ha with⟨i,t,rfl,rfl⟩ |⟨x,t,rfl,rfl⟩
    · rcases zbl hb with⟨j,u,rfl,e⟩ |⟨y,u,rfl,e⟩
      · injection e with e1 _;rw [e1]
      · exact nomatch e
    · rcases zbl hb with⟨j,u,rfl,e⟩ |⟨y,u,rfl,e⟩
      · exact nomatch e
      · injection e with e1 _;rw [e1]
  byValue:=fun k v h=>by
    rcases zbl h with⟨i,t,rfl,rfl⟩ |⟨x,t,rfl,rfl⟩<;>rfl
  pyHash:=fun hv h=>by
    rcases zbl hv with⟨i,t,rfl,rfl⟩ |⟨x,t,rfl,rfl⟩
    · exact wpAny_pyHash_int h
    · exact wpAny_pyHash_str h
  eqBool:=fun hu hv h=>by
    rcases zbl hu with⟨i,t,rfl,rfl⟩ |⟨x,t,rfl,rfl⟩
    · rcases zbl hv with⟨j,u,rfl,rfl⟩ |⟨y,u,rfl,rfl⟩
      · rw [zuz]at h;exact wpAny_eqBool_int h
      · rw [zuS]at h;exact SeqAt.EqAt.int_str i t y u _ _ _ _ h
    · rcases zbl hv with⟨j,u,rfl,rfl⟩ |⟨y,u,rfl,rfl⟩
      · rw [zvM]at h;exact SeqAt.EqAt.str_int x t j u _ _ _ _ h
      · rw [zwg]at h;exact wpAny_eqBool_str h
  «strs» :=fun k x t v h=>by
    rcases zbl h with⟨i,u,rfl,e⟩ |⟨y,u,rfl,e⟩
    · exact nomatch e
    · injection e with e1 _;subst e1;cases v<;>rfl
theorem zkL (prog:Program) (w:World) (i:Int) (t:Tok):(zbs prog w).is (.inl i) (.int i t)=true:=zpf i t
theorem zln (prog:Program) (w:World) (x:Str) (t:Tok):(zbs prog w).is (.inr x) (.str x t)=true:=zoY x t
inductive V where
  |non |bl (b:Bool) |int (i:Int) |str (x:Str) |byt (b:Array UInt8) |flt (b:UInt64) |ref (a:Addr) |ty (n:String)
  deriving DecidableEq
noncomputable def RelV:V→Value→Prop
 | .non,u=>u=Value.none
 | .bl b,u=>u=Value.bool b
 | .int i,u=>∃t,u=Value.int i t
 | .str x,u=>∃t,u=Value.str x t
 | .byt b,u=>∃t,u=Value.bytes b t
 | .flt b,u=>∃t,u=Value.float b t
 | .ref a,u=>u=Value.ref a
 | .ty n,u=>u=Value.type n
noncomputable abbrev Vals:List V→List Value→Prop:=Paired RelV
theorem Vals.length{xs:List V}{us:List Value}(r:Vals xs us):xs.length=us.length:=Paired.length r
theorem Vals.get:∀{xs:List V}{us:List Value}{i:Nat}{x:V},Vals xs us→xs[i]? =some x→ ∃u,us[i]? =some u∧RelV x u
 |_,_,_,_, .nil,e=>by simp at e
 |_,_,0,_, .cons r _,e=>by simp at e;subst e;exact⟨_,rfl,r⟩
 |_,_,i+1,x, .cons _ t,e=>by
  obtain⟨u,h1,h2⟩:=Vals.get (i:=i) (x:=x) t (by simpa using e);exact⟨u,by simpa using h1,h2⟩
theorem Vals.append:∀{xs ys:List V}{us ws:List Value},Vals xs us→Vals ys ws→Vals (xs++ys) (us++ws)
 |_,_,_,_, .nil,s=>s
 |_,_,_,_, .cons r t,s=> .cons r (Vals.append t s)
theorem Vals.take:∀{xs:List V}{us:List Value}(n:Nat),Vals xs us→Vals (xs.take n) (us.take n)
 |_,_,0,_=> .nil
 |_,_,_+1, .nil=> .nil
 |_,_,n+1, .cons r t=> .cons r (Vals.take n t)
theorem Vals.drop:∀{xs:List V}{us:List Value}(n:Nat),Vals xs us→Vals (xs.drop n) (us.drop n)
 |_,_,0,r=>r
 |_,_,_+1, .nil=> .nil
 |_,_,n+1, .cons _ t=>Vals.drop n t
noncomputable def RelO:Option V→Option Value→Prop
 |some v,some u=>RelV v u
 |none,none=>True
 |_,_=>False
noncomputable def KV {κ:Type}:List (κ×V)→List (κ×Value)→Prop:=Paired fun(p:κ×V) (q:κ×Value)=>p.1=q.1∧RelV p.2 q.2
noncomputable def kV:Key→V
 | .inl i=> .int i
 | .inr x=> .str x
inductive HO where
    |lst (xs:List V)
    |tup (xs:List V)
    |dK (kvs:List (Key×V)) |dT (kvs:List (List Key×V))
    |set (S:Int→Bool) (n:Nat)
    |ins (C dx:Addr) (fs:List (Str×V))
    |own (x:Addr)
    |xd (fs:List (Str×V))
    |met (f x:Addr)
    |rng (lo hi:Int)
    |frz (o:Obj) (u:HO)
    |tbl (ps:Array Value)
    |ext (φ:Heap→Prop)
noncomputable abbrev Hp:=Addr→Option HO
noncomputable def upd (H:Hp) (a:Addr) (o:HO):Hp:=fun b=>if b=a then some o else H b
theorem zax{H:Hp}{a:Addr}{o:HO}:upd H a o a=some o:=by unfold upd;rw [if_pos rfl]
theorem zaw{H:Hp}{a b:Addr}{o:HO}(h:b≠a):upd H a o b=H b:=by unfold upd;rw [if_neg h]
theorem zqG{H:Hp}{a b:Addr}{o u:HO}(h:H a=some o) (h':H b=some u) (d:o≠u):a≠b:=by
 intro e;subst e;rw [h]at h';exact d (Option.some.inj h')
theorem zas{H:Hp}{a b:Addr}{o:HO}(h:H a=some o) (h':H b=none):a≠b:=by
 intro e;subst e;rw [h]at h';cases h'
section
variable (P:Program) (w:World)
noncomputable def ObjOk (H:Hp) (h:Heap) (a:Addr):HO→Prop
 | .lst xs=>xs.length≤sizeLine∧ ∃(its:List Value) (n:Nat),Vals xs its∧h.get? a=some { cls:= .type "list",data:= .seq its.toArray n }
 | .tup xs=>xs.length≤sizeLine∧ ∃its:List Value,Vals xs its∧IsTup h a its.toArray
 | .dK kvs=>kvs.length≤sizeLine∧(a == sysModules)=false∧ ∃vs,KV kvs vs∧h.DictOf (zbs P w) a vs
 | .dT kvs=>kvs.length≤sizeLine∧(a == sysModules)=false∧ ∃xs:List (List Key×Addr×Value),
   Paired (fun(p:List Key×V) (q:List Key×Addr×Value)=>p.1=q.1∧H q.2.1=some (.tup (p.1.map kV))∧RelV p.2 q.2.2) kvs xs∧
   ∃o es ep,h.get? a=some o∧o.ExactDict∧o.data= .dict es ep∧es.toList=xs.map (entryOfKey (tupleKind (zbs P w)))∧(xs.map (·.1)).Nodup
 | .set S n=>h.SetOf (intKind P w) a S n
 | .ins C dx fs=>H dx=some (.own a)∧fs.length≤1000∧dx≠a∧h.get? a=some (PySem.W.instObj C dx)∧
   ∃mA,h.Ns1 dx mA∧(∀f,RelO (fs.lookup f) (mA f))∧PySem.Within mA (fs.map (·.1))
 | .own _=>∃o,h.get? a=some o
 | .xd fs=>∃mA,h.Ns1 a mA∧ ∀f,RelO (fs.lookup f) (mA f)
 | .rng lo hi=>∃t u v,h.get? a=some { cls:= .type "range",data:= .fields #[.int lo t, .int hi u, .int 1 v] }
 | .frz o u=>h.get? a=some o∧ObjOk H h a u
 | .tbl ps=>h.get? a=some { cls:= .none,data:= .fields ps }
 | .met f x=>h.get? a=some (PySem.W.methodObj (.ref f) (.ref x))
 | .ext φ=>φ h∧(∃o,h.get? a=some o)∧ ∀h1 h2:Heap,φ h1→(∀o,h1.get? a=some o→h2.get? a=some o)→φ h2
noncomputable def HOk (H:Hp) (h:Heap):Prop:=∀a o,H a=some o→ObjOk P w H h a o
end
section
variable {P:Program}{w:World}{H H':Hp}{h h':Heap}{a:Addr}{o:HO}
theorem ObjOk.lt (x:ObjOk P w H h a o):a<h.objs.size:=by
 cases o with
 |lst xs=>obtain⟨_,_,_,_,e⟩:=x;exact Heap.lt_size e
 |tup xs=>obtain⟨_,_,_,p⟩:=x;exact p.lt
 |dK kvs=>obtain⟨_,_,_,_,o,_,_,e,_⟩:=x;exact Heap.lt_size e
 |dT kvs=>obtain⟨_,_,_,_,o,_,_,e,_⟩:=x;exact Heap.lt_size e
 |set S n=>obtain⟨o,_,_,_,e,_⟩:=x;exact Heap.lt_size e
 |ins C dx fs=>obtain⟨_,_,_,e,_⟩:=x;exact Heap.lt_size e
 |own y=>obtain⟨_,e⟩:=x;exact Heap.lt_size e
 |xd fs=>obtain⟨_,⟨_,_,_,e,_⟩,_⟩:=x;exact Heap.lt_size e
 |rng lo hi=>obtain⟨_,_,_,e⟩:=x;exact Heap.lt_size e
 |frz ob u=>obtain⟨e,_⟩:=x;exact Heap.lt_size e
 |tbl ps=>exact Heap.lt_size (show h.get? a=some _ from x)
 |met f y=>exact Heap.lt_size (show h.get? a=some _ from x)
 |ext φ=>obtain⟨_,⟨_,e⟩,_⟩:=x;exact Heap.lt_size e
theorem Paired.mapP{α β:Type}{F G:α→β→Prop}:∀{l₁:List α}{l₂:List β},Paired F l₁ l₂→(∀a b,F a b→G a b)→Paired G l₁ l₂
 |_,_, .nil,_=> .nil
 |_,_, .cons r t,f=> .cons (f _ _ r) (Paired.mapP t f)
theorem ObjOk.stay (x:ObjOk P w H h a o) (k:∀b u,(b=a∨H b=some (.own a))→h.get? b=some u→h'.get? b=some u)
  (ho:∀b,H b=some (.own a)→H' b=some (.own a)) (ht:∀b xs,H b=some (.tup xs)→H' b=some (.tup xs)):ObjOk P w H' h' a o:=by
 induction o with
 |lst xs=>obtain⟨z,its,n,r,e⟩:=x;exact⟨z,its,n,r,k _ _ (.inl rfl) e⟩
 |tup xs=>obtain⟨z,its,r,ob,e,c⟩:=x;exact⟨z,its,r,ob,k _ _ (.inl rfl) e,c⟩
 |dK kvs=>obtain⟨z,y,vs,r,ob,es,ep,e,c⟩:=x;exact⟨z,y,vs,r,ob,es,ep,k _ _ (.inl rfl) e,c⟩
 |dT kvs=>
  obtain⟨z,y,xs,r,ob,es,ep,e,c⟩:=x;exact⟨z,y,xs,Paired.mapP r fun p q z=>⟨z.1,ht _ _ z.2.1,z.2.2⟩,ob,es,ep,k _ _ (.inl rfl) e,c⟩
 |set S n=>obtain⟨ob,es,ep,t,e,c⟩:=x;exact⟨ob,es,ep,t,k _ _ (.inl rfl) e,c⟩
 |ins C dx fs=>
  obtain⟨d,z,ne,e,mA,⟨od,es,ep,e2,c⟩,r⟩:=x;exact⟨ho _ d,z,ne,k _ _ (.inl rfl) e,mA,⟨od,es,ep,k _ _ (.inr d) e2,c⟩,r⟩
 |own y=>obtain⟨ob,e⟩:=x;exact⟨ob,k _ _ (.inl rfl) e⟩
 |xd fs=>obtain⟨mA,⟨od,es,ep,e,c⟩,r⟩:=x;exact⟨mA,⟨od,es,ep,k _ _ (.inl rfl) e,c⟩,r⟩
 |rng lo hi=>obtain⟨t,u,v,e⟩:=x;exact⟨t,u,v,k _ _ (.inl rfl) e⟩
 |frz ob u ih=>obtain⟨e,q⟩:=x;exact⟨k _ _ (.inl rfl) e,ih q⟩
 |tbl ps=>
  have e:h.get? a=some { cls:= .none,data:= .fields ps }:=x;show h'.get? a=some { cls:= .none,data:= .fields ps };exact k a _ (.inl rfl) e
 |met f y=>
  have e:h.get? a=some (PySem.W.methodObj (.ref f) (.ref y)):=x;show h'.get? a=some (PySem.W.methodObj (.ref f) (.ref y));exact k a _ (.inl rfl) e
 |ext φ=>obtain⟨p,⟨o,e⟩,st⟩:=x;exact⟨st _ _ p fun o q=>k _ _ (.inl rfl) q,⟨o,k _ _ (.inl rfl) e⟩,st⟩
theorem HOk.lt (x:HOk P w H h) (e:H a=some o):a<h.objs.size:=(x a o e).lt
theorem HOk.fresh (x:HOk P w H h) (e:h.objs.size≤a):H a=none:=by
 cases q:H a with
 |none=>rfl
 |some u=>exact absurd (Nat.lt_of_lt_of_le (x.lt q) e) (Nat.lt_irrefl _)
theorem HOk.kept (x:HOk P w H h) (k:∀b u,h.get? b=some u→h'.get? b=some u):HOk P w H h':=fun a o e=>
 (x a o e).stay (fun b u _ q=>k b u q) (fun _ q=>q) fun _ _ q=>q
theorem HOk.laid (x:HOk P w H h) (k:∀b u,h.get? b=some u→h'.get? b=some u) (hp:h.objs.size≤a) (new:ObjOk P w (upd H a o) h' a o):HOk P w (upd H a o) h':=fun b u e=>by
 have hn:=x.fresh hp;by_cases hb:b=a
 ·subst hb;rw [zax]at e;cases e;exact new
 ·rw [zaw hb]at e;exact(x b u e).stay (fun c v _ q=>k c v q) (fun c q=>by rw [zaw (zas q hn)];exact q) fun c xs q=>by rw [zaw (zas q hn)];exact q
end
noncomputable def Rd (H:Hp) (a:Addr) (u:HO):Prop:=H a=some u∨ ∃o,H a=some (.frz o u)
theorem Rd.ok{P:Program}{w:World}{H:Hp}{h:Heap}{a:Addr}{u:HO}(r:Rd H a u) (x:HOk P w H h):ObjOk P w H h a u:=by
 rcases r with r |⟨o,r⟩
 ·exact x a u r
 ·obtain⟨_,q⟩:=x a _ r;exact q
noncomputable def Mut:Option HO→Prop
 |some (.lst _)=>True
 |some (.dK _)=>True
 |some (.dT _)=>True
 |some (.set _ _)=>True
 |some (.ins _ _ _)=>True
 |some (.ext _)=>True
 |_=>False
section
variable {P:Program}{w:World}{H:Hp}{h h':Heap}{x e:Addr}{o':HO}
theorem HOk.write (ok:HOk P w H h) (mu:Mut (H x)) (he:e=x∨H e=some (.own x)) (k:∀b u,b≠e→h.get? b=some u→h'.get? b=some u) (heo:∃u,h'.get? e=some u)
  (new:ObjOk P w (upd H x o') h' x o'):HOk P w (upd H x o') h':=fun b u q=>by
 have nown:∀c y,H c=some (.own y)→c≠x:=fun c y r z=>by subst z;rw [r]at mu;exact mu
 have ntup:∀c xs,H c=some (.tup xs)→c≠x:=fun c xs r z=>by subst z;rw [r]at mu;exact mu
 by_cases hb:b=x
 ·subst hb;rw [zax]at q;cases q;exact new
 ·rw [zaw hb]at q;by_cases hbe:b=e
  ·have q':H b=some (.own x):=by
    rcases he with z |z
    ·exact absurd (hbe.trans z) hb
    ·rw [hbe];exact z
   rw [q]at q';cases q';obtain⟨v,hv⟩:=heo;exact⟨v,by rw [hbe];exact hv⟩
  ·refine(ok b u q).stay (fun c v hc r=>k c v ?_ r) (fun c r=>by rw [zaw (nown c b r)];exact r) fun c xs r=>by rw [zaw (ntup c xs r)];exact r
   rcases hc with rfl |hc
   ·exact hbe
   ·rintro rfl;rcases he with z |z
    ·exact nown c b hc z
    ·rw [hc]at z;cases z;exact hb rfl
end
structure Un (fs ex:List Addr) (H H':Hp) (h h':Heap):Prop where
  keep:∀b o,h.get? b=some o→H b=none→b∉fs→b∉ex→h'.get? b=some o
  slot:∀b o,h.get? b=some o→H b=none→b∈fs→b∉ex→ ∃sl,h'.get? b=some { o with slots:=sl }
  free:∀b o,h.get? b=some o→H b=none→b∉ex→H' b=none
  there:∀b o,h.get? b=some o→b∉ex→ ∃o',h'.get? b=some o'
  tups:∀b xs,H b=some (.tup xs)→H' b=some (.tup xs)
  frzs:∀b o u,H b=some (.frz o u)→H' b=some (.frz o u)
  tbls:∀b ps,H b=some (.tbl ps)→ ∃more,H' b=some (.tbl (ps++more))
section
variable {fs ex:List Addr}{H H1 H2:Hp}{h h1 h2 h':Heap}{a x e:Addr}{o:HO}
theorem Un.any (u:Un fs ex H H1 h h1) {b:Addr}{ob:Obj}(q:h.get? b=some ob) (n:H b=none) (hx:b∉ex):∃sl,h1.get? b=some { ob with slots:=sl }:=by
 by_cases hb:b∈fs
 ·exact u.slot b ob q n hb hx
 ·exact⟨ob.slots,u.keep b ob q n hb hx⟩
theorem Un.trans (a:Un fs ex H H1 h h1) (b:Un fs ex H1 H2 h1 h2):Un fs ex H H2 h h2 where
  keep:=fun c ob q n hc hx=>b.keep c ob (a.keep c ob q n hc hx) (a.free c ob q n hx) hc hx
  slot:=fun c ob q n hc hx=>by
    obtain⟨sl,e1⟩:=a.slot c ob q n hc hx;obtain⟨sl',e2⟩:=b.slot c _ e1 (a.free c ob q n hx) hc hx;exact⟨sl',e2⟩
  free:=fun c ob q n hx=>by
    obtain⟨o',e1⟩:=a.there c ob q hx;exact b.free c o' e1 (a.free c ob q n hx) hx
  there:=fun c ob q hx=>by
    obtain⟨o',e1⟩:=a.there c ob q hx;exact b.there c o' e1 hx
  tups:=fun c xs q=>b.tups c xs (a.tups c xs q)
  frzs:=fun c ob xs q=>b.frzs c ob xs (a.frzs c ob xs q)
  tbls:=fun c ps q=>by
    obtain⟨m1,e1⟩:=a.tbls c ps q;obtain⟨m2,e2⟩:=b.tbls c _ e1;exact⟨m1++m2,by rw [e2,Array.append_assoc]⟩
theorem Un.kept (k:∀b u,h.get? b=some u→h'.get? b=some u):Un fs ex H H h h':=
 ⟨fun b ob q _ _ _=>k b ob q,fun b ob q _ _ _=>⟨ob.slots,k b ob q⟩,fun _ _ _ n _=>n,fun b ob q _=>⟨ob,k b ob q⟩,fun _ _ q=>q,fun _ _ _ q=>q,fun _ ps q=>⟨#[],by rw [q];simp⟩⟩
theorem Un.refl:Un fs ex H H h h:=Un.kept fun _ _ q=>q
theorem Un.laid (k:∀b u,h.get? b=some u→h'.get? b=some u) (hp:h.objs.size≤a) (hn:H a=none):Un fs ex H (upd H a o) h h' where
  keep:=fun b u q _ _ _=>k b u q
  slot:=fun b u q _ _ _=>⟨u.slots,k b u q⟩
  free:=fun b u q n _=>by rw [zaw (Nat.ne_of_lt (Nat.lt_of_lt_of_le (Heap.lt_size q) hp))];exact n
  there:=fun b u q _=>⟨u,k b u q⟩
  tups:=fun b xs q=>by rw [zaw (zas q hn)];exact q
  frzs:=fun b u xs q=>by rw [zaw (zas q hn)];exact q
  tbls:=fun b ps q=>⟨#[],by rw [zaw (zas q hn),q];simp⟩
theorem Un.write (mu:Mut (H x)) (he:e=x∨H e=some (.own x)) (k:∀b u,b≠e→h.get? b=some u→h'.get? b=some u) (heo:∃u,h'.get? e=some u):Un fs ex H (upd H x o) h h':=by
 have hx:∀b,H b=none→b≠x:=fun b n z=>by subst z;rw [n]at mu;exact mu
 have hb:∀b,H b=none→b≠e:=fun b n z=>by
  subst z;rcases he with r |r
  ·exact hx b n r
  ·rw [n]at r;cases r
 have hm:∀b u,H b=some u→ ¬Mut (some u)→b≠x:=fun b u q nm z=>by subst z;rw [q]at mu;exact nm mu
 refine⟨fun b u q n _ _=>k b u (hb b n) q,fun b u q n _ _=>⟨u.slots,k b u (hb b n) q⟩,fun b u q n _=>by rw [zaw (hx b n)];exact n,fun b u q _=>?_,
  fun b xs q=>by rw [zaw (hm b _ q fun z=>z)];exact q,fun b u xs q=>by rw [zaw (hm b _ q fun z=>z)];exact q,fun b ps q=>⟨#[],by rw [zaw (hm b _ q fun z=>z),q];simp⟩⟩
 by_cases hbe:b=e
 ·subst hbe;exact heo
 ·exact⟨u,k b u hbe q⟩
end
noncomputable def trk (h:Heap) (H:Hp):List Addr:=(List.range h.objs.size).filter fun a=>(H a).isSome
noncomputable def zqS (h:Heap) (H:Hp):Heap:=PySem.W.hideAll h (trk h H)
theorem zoI (h:Heap) (H:Hp):(zqS h H).objs.size=h.objs.size:=PySem.W.hideAll_size _ _
theorem zqn{h:Heap}{H:Hp}{b:Addr}{o:Obj}(e:h.get? b=some o) (n:H b=none):(zqS h H).get? b=some o:=
 PySem.W.hideAll_get _ e fun hm=>by
  have q:(H b).isSome=true:=(List.mem_filter.mp hm).2;rw [n]at q;simp at q
theorem zsO{h:Heap}{H:Hp}{b:Addr}{o:Obj}(e:(zqS h H).get? b=some o):h.get? b=some o∧H b=none:=by
 have e':h.get? b=some o:=PySem.W.of_hideAll (trk h H) e;refine⟨e',?_⟩;cases q:H b with
 |none=>rfl
 |some x=>
  have hm:b∈trk h H:=List.mem_filter.mpr ⟨List.mem_range.mpr (Heap.lt_size e'),by simp [q]⟩
  have z:(zqS h H).get? b=none:=PySem.W.hideAll_none (trk h H) hm;rw [z]at e;cases e
noncomputable def zsJ (g h:Heap) (L:Addr):List (Addr×Obj):=(List.range h.objs.size).filterMap fun a=>if a=L∨(g.get? a).isSome=true then none else(h.get? a).map fun o=>(a,o)
noncomputable def rest (g h:Heap) (L d:Addr):List (Addr×Obj):=(zsJ g h L).filter fun p=>decide (p.1≠d)
structure Mod (K:PySem.W.Frag) (mg:Str→Option Value) (base:Heap):Prop where
  kin:K.In base
  glob:base.Ns mainGlobals mg
  blt:∃mb,base.Ns builtinsNs mb∧ ∀x:Str,x≠ "__name__" →mb x=bootBuiltins x
  nolimit:base.NoLimit
structure Cx where
  prog:Program
  w:World
  K:PySem.W.Frag
  mg:Str→Option Value
  base:Heap
  A:Around
  N:List Str
  s₀:Shared
  H₀:Hp
  env:Env
  outer:List Env
  stack:List Env
  ex:List Addr
  fn:Str→Bool
  calm:Bool
  pn:List (Addr×Obj)
  xe:Value→Shared→Prop
noncomputable def frs (l:List Env):List Addr:=l.filterMap (·.frame)
noncomputable abbrev Cx.fs (X:Cx):List Addr:=frs X.outer
noncomputable def Vis (sc:Scope) (x:Str):Prop:=sc.names.lookup x=some .local∨sc.names.lookup x=some .cell∨sc.names.lookup x=some .free
noncomputable def Loc (sc:Scope) (x:Str):Prop:=sc.names.lookup x=some .local∨sc.names.lookup x=some .cell
noncomputable def zzR (env:Env) (h:Heap) (m:Str→Option Value) (x:Str) (u:Value):Prop:=
 (env.kindOf x=some .local∧m x=some u)∨((env.kindOf x=some .cell∨env.kindOf x=some .free)∧ ∃c,env.cells.lookup x=some c∧h.IsCell c (some u))
structure Cx.Ok (X:Cx):Prop where
  mod:Mod X.K X.mg X.base
  kind:X.env.scope.kind= .function
  glob:X.env.globals=mainGlobals
  blt:X.env.builtins=builtinsNs
  above:X.s₀.heap.objs.size≤X.env.locals
  inj:∀x y c,X.env.cells.lookup x=some c→X.env.cells.lookup y=some c→x=y
  has:∀x,(X.env.kindOf x=some .cell∨X.env.kindOf x=some .free)→ ∃c,X.env.cells.lookup x=some c
  cab:∀x c,X.fn x=true→X.env.cells.lookup x=some c→X.s₀.heap.objs.size≤c
  hd:X.calm=true→X.A.handled=none
  frames:X.A.frames=some X.stack
  stk:X.stack=X.outer∨(X.stack=X.env::X.outer∧X.env.frame=some X.env.locals)
  exf:∀b∈X.ex,b≠X.env.locals∧ ∀x c,X.env.cells.lookup x=some c→c≠b
  bs:∀b o,X.base.get? b=some o→X.s₀.heap.get? b=some o∧X.H₀ b=none
  bsz:X.base.objs.size≤X.s₀.heap.objs.size
  noex:∀b o,X.base.get? b=some o→b∉X.ex
  exfs:∀b∈X.ex,b∉X.fs
  funs:X.s₀.heap.FunFrames X.base X.outer
  frf:∀b∈X.fs,X.H₀ b=none
structure Inv (X:Cx) (pins:List (Addr×Obj)) (σ:List (Option V)) (H:Hp) (s:Shared):Prop where
  ok:X.Ok
  os:s.os=X.s₀.os
  bare:AllBare s.gens
  base:Un X.fs X.ex X.H₀ H X.s₀.heap s.heap
  loc:∃m,s.heap.Ns X.env.locals m∧ ∀(i:Nat) (x:Str) (v:V),X.N[i]? =some x→σ[i]? =some (some v)→Vis X.env.scope x→ ∃u,RelV v u∧zzR X.env s.heap m x u
  cell:∀x c,X.env.cells.lookup x=some c→ ∃v,s.heap.IsCell c v
  free:H X.env.locals=none
  freeC:∀x c,X.env.cells.lookup x=some c→H c=none
  pin:∀p∈X.pn++pins,s.heap.get? p.1=some p.2∧H p.1=none∧p.1≠X.env.locals∧p.1∉X.fs∧ ∀v,p.2.data≠ .cell v
  hok:HOk X.prog X.w H s.heap
  len:σ.length=X.N.length
section
variable {X:Cx}{pins:List (Addr×Obj)}{σ:List (Option V)}{H H':Hp}{s:Shared}{h':Heap}
theorem Cx.Ok.nofr (ok:X.Ok) {b:Addr}{o:Obj}(e:X.base.get? b=some o):b∉X.fs:=fun hb=>by
 have:=(ok.funs.mem hb).1;rw [e]at this;cases this
theorem Inv.bs (I:Inv X pins σ H s):∀b o,X.base.get? b=some o→s.heap.get? b=some o∧H b=none:=fun b o e=>
 ⟨I.base.keep b o (I.ok.bs b o e).1 (I.ok.bs b o e).2 (I.ok.nofr e) (I.ok.noex b o e),I.base.free b o (I.ok.bs b o e).1 (I.ok.bs b o e).2 (I.ok.noex b o e)⟩
theorem Inv.bk (I:Inv X pins σ H s):∀b o,X.base.get? b=some o→s.heap.get? b=some o:=fun b o e=>(I.bs b o e).1
theorem Inv.mod (I:Inv X pins σ H s):Mod X.K X.mg X.base:=I.ok.mod
theorem Inv.kIn (I:Inv X pins σ H s):X.K.In s.heap:=I.ok.mod.kin.keeps I.bk
theorem Inv.lt (I:Inv X pins σ H s):X.env.locals<s.heap.objs.size:=let ⟨_,hn,_⟩:=I.loc;hn.lt
theorem Inv.sz (I:Inv X pins σ H s):X.s₀.heap.objs.size≤s.heap.objs.size:=Nat.le_trans I.ok.above (Nat.le_of_lt I.lt)
theorem Inv.nofs (I:Inv X pins σ H s) {a:Addr}(h:s.heap.objs.size≤a):a∉X.fs:=fun hb=>by
 obtain⟨_,o,ho,_⟩:=I.ok.funs.mem hb;exact absurd (Nat.lt_of_lt_of_le (Heap.lt_size ho) (Nat.le_trans I.sz h)) (Nat.lt_irrefl _)
theorem Inv.cne (I:Inv X pins σ H s):∀x c,X.env.cells.lookup x=some c→c≠X.env.locals:=fun x c e z=>by
 obtain⟨v,o,ho,hd⟩:=I.cell x c e;obtain⟨m,⟨o',es,ep,ho',hd',_⟩,_⟩:=I.loc;rw [z,ho']at ho;cases ho;rw [hd']at hd;cases hd
theorem Inv.funs (I:Inv X pins σ H s):s.heap.FunFrames X.base X.outer:=by
 have all:∀(l:List Env),(∀b∈frs l,b∈X.fs)→X.s₀.heap.FunFrames X.base l→s.heap.FunFrames X.base l:=by
  intro l
  induction l with
  |nil=>intro _ _;trivial
  |cons env r ih=>
   intro hs hl;obtain⟨hk,⟨L,o,hf,hn,ho,hd⟩,hr⟩:=hl;have hL:L∈X.fs:=hs L (by unfold frs;rw [List.filterMap_cons,hf];exact List.mem_cons_self);obtain⟨sl,e⟩:=I.base.slot L o ho (I.ok.frf L hL) hL fun z=>I.ok.exfs L z hL;exact⟨hk,⟨L,_,hf,hn,e,hd⟩,ih (fun b hb=>hs b (by unfold frs;rw [List.filterMap_cons,hf];exact List.mem_cons_of_mem _ hb)) hr⟩
 exact all X.outer (fun _ hb=>hb) I.ok.funs
theorem Inv.stack (I:Inv X pins σ H s):s.heap.FunFrames X.base X.stack:=by
 rcases I.ok.stk with e |⟨e,hf⟩
 ·rw [e];exact I.funs
 ·rw [e];obtain⟨m,hn,_⟩:=I.loc;refine .cons (by rw [I.ok.kind];decide) hf hn ?_ I.funs;exact Heap.get?_none_of_le (Nat.le_trans I.ok.bsz I.ok.above)
theorem Inv.stkSub (I:Inv X pins σ H s):∀b∈frs X.stack,b∈X.env.locals::X.fs:=fun b hb=>by
 rcases I.ok.stk with e |⟨e,hf⟩
 ·rw [e]at hb;exact List.mem_cons_of_mem _ hb
 ·rw [e]at hb;unfold frs at hb;rw [List.filterMap_cons,hf]at hb;exact hb
theorem Inv.stkFree (I:Inv X pins σ H s):∀b∈frs X.stack,H b=none:=fun b hb=>by
 rcases List.mem_cons.mp (I.stkSub b hb) with e |hb
 ·rw [e];exact I.free
 ·obtain⟨_,o,ho,_⟩:=I.ok.funs.mem hb;exact I.base.free b o ho (I.ok.frf b hb) fun z=>I.ok.exfs b z hb
theorem Inv.step{g':Array GenState}{t':Nat}{d':Drawn}{ch:List Addr}(I:Inv X pins σ H s)
  (hch:∀b∈ch,(b∈X.ex∨X.s₀.heap.objs.size≤b)∧b≠X.env.locals∧(∀x c,X.env.cells.lookup x=some c→c≠b)∧ ∀p∈X.pn++pins,p.1≠b)
  (keep:∀b o,b≠X.env.locals→b∉X.fs→b∉ch→s.heap.get? b=some o→H b=none→h'.get? b=some o)
  (slot:∀b o,b≠X.env.locals→b∈X.fs→b∉ch→s.heap.get? b=some o→H b=none→ ∃sl,h'.get? b=some { o with slots:=sl }) (free:∀b o,b∉ch→s.heap.get? b=some o→H b=none→H' b=none)
  (there:∀b o,b∉ch→s.heap.get? b=some o→ ∃o',h'.get? b=some o')
  (tups:∀b xs,H b=some (.tup xs)→H' b=some (.tup xs)) (frzs:∀b o u,H b=some (.frz o u)→H' b=some (.frz o u)) (tbls:∀b ps,H b=some (.tbl ps)→ ∃more,H' b=some (.tbl (ps++more)))
  (ns:∀m,s.heap.Ns X.env.locals m→h'.Ns X.env.locals m) (hok:HOk X.prog X.w H' h') (hg:AllBare g') :
  Inv X pins σ H' { s with heap:=h',gens:=g',drawn:=d',toks:=t' }:=by
 have neL:∀b o,X.s₀.heap.get? b=some o→b≠X.env.locals:=fun b o e=>Nat.ne_of_lt (Nat.lt_of_lt_of_le (Heap.lt_size e) I.ok.above);have neC:∀b o,X.s₀.heap.get? b=some o→b∉X.ex→b∉ch:=fun b o e hx hb=>by
  rcases(hch b hb).1 with z |z
  ·exact hx z
  ·exact absurd (Nat.lt_of_lt_of_le (Heap.lt_size e) z) (Nat.lt_irrefl _)
 have cellK:∀x c,X.env.cells.lookup x=some c→ ∀v,s.heap.IsCell c v→h'.IsCell c v:=fun x c e v ⟨o,ho,hd⟩=>by
  have nch:c∉ch:=fun z=>(hch c z).2.2.1 x c e rfl;by_cases hc:c∈X.fs
  ·obtain⟨sl,q⟩:=slot c o (I.cne x c e) hc nch ho (I.freeC x c e);exact⟨_,q,hd⟩
  ·exact⟨o,keep c o (I.cne x c e) hc nch ho (I.freeC x c e),hd⟩
 refine⟨I.ok,I.os,hg,⟨fun b o e n hb hx=>?_,fun b o e n hb hx=>?_,fun b o e n hx=>?_,fun b o e hx=>?_,fun b xs e=>tups b xs (I.base.tups b xs e),fun b o xs e=>frzs b o xs (I.base.frzs b o xs e),fun b ps e=>?_⟩,?_,fun x c e=>?_,?_,fun x c e=>?_,fun p hp=>?_,hok,I.len⟩
 ·exact keep b o (neL b o e) hb (neC b o e hx) (I.base.keep b o e n hb hx) (I.base.free b o e n hx)
 ·obtain⟨sl,e1⟩:=I.base.slot b o e n hb hx;obtain⟨sl',e2⟩:=slot b _ (neL b o e) hb (neC b o e hx) e1 (I.base.free b o e n hx);exact⟨sl',e2⟩
 ·obtain⟨o',e1⟩:=I.base.there b o e hx;exact free b o' (neC b o e hx) e1 (I.base.free b o e n hx)
 ·obtain⟨o',e1⟩:=I.base.there b o e hx;exact there b o' (neC b o e hx) e1
 ·obtain⟨m1,e1⟩:=I.base.tbls b ps e;obtain⟨m2,e2⟩:=tbls b _ e1;exact⟨m1++m2,by rw [e2,Array.append_assoc]⟩
 ·obtain⟨m,hn,hl⟩:=I.loc;refine⟨m,ns m hn,fun i x v e1 e2 e3=>?_⟩;obtain⟨u,r,l⟩:=hl i x v e1 e2 e3;refine⟨u,r,?_⟩;rcases l with l |⟨k,c,e,z⟩
  ·exact .inl l
  ·exact .inr ⟨k,c,e,cellK x c e _ z⟩
 ·obtain⟨v,z⟩:=I.cell x c e;exact⟨v,cellK x c e v z⟩
 ·obtain⟨m,⟨o,_,_,ho,_⟩,_⟩:=I.loc;exact free _ o (fun z=>(hch _ z).2.1 rfl) ho I.free
 ·obtain⟨v,o,ho,hd⟩:=I.cell x c e;exact free c o (fun z=>(hch c z).2.2.1 x c e rfl) ho (I.freeC x c e)
 ·obtain⟨e,n,ne,nf,d⟩:=I.pin p hp;have nch:p.1∉ch:=fun z=>(hch p.1 z).2.2.2 p hp rfl;exact⟨keep p.1 p.2 ne nf nch e n,free p.1 p.2 nch e n,ne,nf,d⟩
theorem Inv.un{t':Nat}(I:Inv X pins σ H s) (u:Un X.fs [] H H' s.heap h') (hok:HOk X.prog X.w H' h'):Inv X pins σ H' { s with heap:=h',toks:=t' }:=by
 obtain⟨m,⟨o,es,ep,ho,r⟩,_⟩:=id I.loc;obtain⟨sl,hL⟩:=u.any ho I.free (by simp);exact I.step (g':=s.gens) (d':=s.drawn) (ch:=[]) (fun _ z=>nomatch z) (fun b o _ hb _ e n=>u.keep b o e n hb (by simp)) (fun b o _ hb _ e n=>u.slot b o e n hb (by simp)) (fun b o _ e n=>u.free b o e n (by simp)) (fun b o _ e=>u.there b o e (by simp)) u.tups u.frzs u.tbls (fun m' hm=>by
  obtain⟨o',es',ep',ho',r'⟩:=hm;rw [ho]at ho';cases ho';exact⟨_,es',ep',hL,r'⟩) hok I.bare
theorem Inv.call{g':Array GenState}{t':Nat}{d':Drawn}{ch:List Addr}(I:Inv X pins σ H s) (u:Un (frs X.stack) ch H H' s.heap h') (hok:HOk X.prog X.w H' h') (hg:AllBare g')
  (hch:∀b∈ch,(b∈X.ex∨X.s₀.heap.objs.size≤b)∧b≠X.env.locals∧(∀x c,X.env.cells.lookup x=some c→c≠b)∧ ∀p∈X.pn++pins,p.1≠b) :
  Inv X pins σ H' { s with heap:=h',gens:=g',drawn:=d',toks:=t' }:=by
 obtain⟨m,⟨o,es,ep,ho,r⟩,_⟩:=id I.loc;obtain⟨sl,hL⟩:=u.any ho I.free fun z=>(hch _ z).2.1 rfl;exact I.step (ch:=ch) hch (fun b o hL hb hc e n=>u.keep b o e n (fun z=>(List.mem_cons.mp (I.stkSub b z)).elim hL hb) hc) (fun b o _ _ hc e n=>u.any e n hc) (fun b o hc e n=>u.free b o e n hc) (fun b o hc e=>u.there b o e hc) u.tups u.frzs u.tbls (fun m' hm=>by
  obtain⟨o',es',ep',ho',r'⟩:=hm;rw [ho]at ho';cases ho';exact⟨_,es',ep',hL,r'⟩) hok hg
theorem Inv.turned{t':Nat}{it:Addr}(I:Inv X pins σ H s) (k:∀b o,b≠it→s.heap.get? b=some o→h'.get? b=some o) (hn:H it=none) (hL:it≠X.env.locals)
  (h1:it∈X.ex∨X.s₀.heap.objs.size≤it) (h2:∀x c,X.env.cells.lookup x=some c→c≠it) (h3:∀p∈X.pn++pins,p.1≠it):Inv X pins σ H { s with heap:=h',toks:=t' }:=by
 have nit:∀b u,H b=some u→b≠it:=fun b u e z=>by rw [z,hn]at e;cases e
 refine I.step (g':=s.gens) (d':=s.drawn) (ch:=[it]) (fun b hb=>?_) (fun b o _ _ hc e _=>k b o (fun z=>hc (by simp [z])) e) (fun b o _ _ hc e _=>⟨o.slots,k b o (fun z=>hc (by simp [z])) e⟩) (fun _ _ _ _ n=>n)
  (fun b o hc e=>⟨o,k b o (fun z=>hc (by simp [z])) e⟩) (fun _ _ e=>e) (fun _ _ _ e=>e) (fun b ps e=>⟨#[],by rw [e];simp⟩) (fun m hm=>?_) (fun b u e=>?_) I.bare
 ·have e:b=it:=by simpa using hb
  subst e;exact⟨h1,hL,h2,h3⟩
 ·obtain⟨o,es,ep,ho,r⟩:=hm;exact⟨o,es,ep,k _ o (Ne.symm hL) ho,r⟩
 ·refine(I.hok b u e).stay (fun c v hc q=>k c v ?_ q) (fun _ q=>q) fun _ _ q=>q;rcases hc with z |z
  ·rw [z];exact nit b u e
  ·exact nit c _ z
theorem Inv.tok (I:Inv X pins σ H s) (t:Nat):Inv X pins σ H { s with toks:=t }:=I.un (h':=s.heap) (t':=t) Un.refl I.hok
theorem Inv.kept{t':Nat}(I:Inv X pins σ H s) (k:∀b u,s.heap.get? b=some u→h'.get? b=some u):Inv X pins σ H { s with heap:=h',toks:=t' }:=I.un (Un.kept k) (I.hok.kept k)
theorem Inv.laid{a:Addr}{o:HO}{t':Nat}(I:Inv X pins σ H s) (k:∀b u,s.heap.get? b=some u→h'.get? b=some u) (hp:s.heap.objs.size≤a) (new:ObjOk X.prog X.w (upd H a o) h' a o) :
  Inv X pins σ (upd H a o) { s with heap:=h',toks:=t' }:=I.un (Un.laid k hp (I.hok.fresh hp)) (I.hok.laid k hp new)
theorem Inv.write{x e:Addr}{o:HO}{t':Nat}(I:Inv X pins σ H s) (mu:Mut (H x)) (he:e=x∨H e=some (.own x)) (k:∀b u,b≠e→s.heap.get? b=some u→h'.get? b=some u) (heo:∃u,h'.get? e=some u)
  (new:ObjOk X.prog X.w (upd H x o) h' x o):Inv X pins σ (upd H x o) { s with heap:=h',toks:=t' }:=I.un (Un.write mu he k heo) (I.hok.write mu he k heo new)
theorem Inv.pins_of{pins':List (Addr×Obj)}(I:Inv X pins σ H s) (h:∀p∈pins',s.heap.get? p.1=some p.2∧H p.1=none∧p.1≠X.env.locals∧p.1∉X.fs∧ ∀v,p.2.data≠ .cell v):Inv X pins' σ H s:=
 ⟨I.ok,I.os,I.bare,I.base,I.loc,I.cell,I.free,I.freeC,fun p hp=>(List.mem_append.mp hp).elim (fun z=>I.pin p (List.mem_append_left _ z)) (h p),I.hok,I.len⟩
theorem zmI{N:List Str}(hN:N.Nodup) {i j:Nat}{x:Str}(a:N[i]? =some x) (b:N[j]? =some x):i=j:=by
 obtain⟨h1,e1⟩:=List.getElem?_eq_some_iff.mp a;obtain⟨h2,e2⟩:=List.getElem?_eq_some_iff.mp b;exact(List.getElem_inj hN).mp (e1.trans e2.symm)
theorem zjX{M:Model}{A:Around}{E:Value→Shared→Prop}{i:Nat}{x:Str}{v:V}{u:Value}{Q:Unit→Shared→Prop}(I:Inv X pins σ H s) (hN:X.N.Nodup) (hi:X.N[i]? =some x) (hx:Loc X.env.scope x) (r:RelV v u)
  (h:∀s',Inv X pins (σ.set i (some v)) H s'→(∃a,Heap.SameBut a s.heap s'.heap∧(a=X.env.locals∨X.env.cells.lookup x=some a))→Q () s') (hf:X.fn x=true∨X.env.scope.names.lookup x=some .local:=by first |exact .inl rfl |exact .inr rfl |assumption):wpAny M A (storeName X.env x u) Q E s:=by
 obtain⟨m,hn,hl⟩:=id I.loc;have hcls:(X.env.scope.kind == .class || (X.env.scope.kind == .module&&X.env.locals != X.env.globals))=false:=by rw [I.ok.kind];rfl
 have hiσ:i<σ.length:=by rw [I.len];exact(List.getElem?_eq_some_iff.mp hi).1
 have cne:=I.cne;have tracked:∀{a:Addr}{h':Heap},(∃o,s.heap.get? a=some o∧H a=none)→Heap.SameBut a s.heap h'→HOk X.prog X.w H h':=fun {a h'} ha hs b ob e=>by
  obtain⟨_,_,hfree⟩:=ha;refine(I.hok b ob e).stay (fun c w' hc q=>(hs.2 c ?_).trans q) (fun _ q=>q) fun _ _ q=>q;rintro rfl;rcases hc with rfl |hc
  ·rw [hfree]at e;cases e
  ·rw [hfree]at hc;cases hc
 rcases hx with hk |hk
 ·refine wpAny_storeName_local hk hn (fun h' hn' hs=>?_) hcls;obtain⟨oL,_,_,hoL,_⟩:=id hn;refine h _ ⟨I.ok,I.os,I.bare,⟨fun b o e n hb hx=>?_,fun b o e n hb hx=>?_,I.base.free,fun b o e hx=>?_,I.base.tups,I.base.frzs,I.base.tbls⟩,⟨_,hn',fun j y v' e1 e2 e3=>?_⟩,fun y c e=>?_,I.free,I.freeC,fun p hp=>?_,tracked ⟨oL,hoL,I.free⟩ hs,by simpa using I.len⟩ ⟨_,hs, .inl rfl⟩
  ·exact(hs.2 b (Nat.ne_of_lt (Nat.lt_of_lt_of_le (Heap.lt_size e) I.ok.above))).trans (I.base.keep b o e n hb hx)
  ·obtain⟨sl,e1⟩:=I.base.slot b o e n hb hx;exact⟨sl,(hs.2 b (Nat.ne_of_lt (Nat.lt_of_lt_of_le (Heap.lt_size e) I.ok.above))).trans e1⟩
  ·obtain⟨o',e1⟩:=I.base.there b o e hx;exact⟨o',(hs.2 b (Nat.ne_of_lt (Nat.lt_of_lt_of_le (Heap.lt_size e) I.ok.above))).trans e1⟩
  ·by_cases hj:j=i
   ·subst hj;rw [hi]at e1;cases e1;rw [List.getElem?_set_self hiσ]at e2;cases e2;exact⟨u,r, .inl ⟨hk,by simp⟩⟩
   ·rw [List.getElem?_set_ne (Ne.symm hj)]at e2;obtain⟨u',r',q⟩:=hl j y v' e1 e2 e3;refine⟨u',r',?_⟩;rcases q with⟨k,e⟩ |⟨k,c,e,z⟩
    ·refine .inl ⟨k,?_⟩;have:y≠x:=fun e=>hj (zmI hN e1 (e▸hi));simp [this,e]
    ·exact .inr ⟨k,c,e,z.sameBut hs (cne y c e)⟩
  ·obtain⟨w',z⟩:=I.cell y c e;exact⟨w',z.sameBut hs (cne y c e)⟩
  ·obtain⟨e,n,ne,nf,d⟩:=I.pin p hp;exact⟨(hs.2 p.1 ne).trans e,n,ne,nf,d⟩
 ·have hfn:X.fn x=true:=by
   rcases hf with z |z
   ·exact z
   ·rw [z]at hk;cases hk
  obtain⟨c,hc⟩:=I.ok.has x (.inl hk);obtain⟨w',z⟩:=I.cell x c hc;refine wpAny_storeName_cell I.ok.kind hk hc z (fun h' hc' hs=>?_);obtain⟨oc,hoc,hocd⟩:=id z;refine h { s with heap:=h' } ⟨I.ok,I.os,I.bare,⟨fun b o e n hb hx=>?_,fun b o e n hb hx=>?_,I.base.free,fun b o e hx=>?_,I.base.tups,I.base.frzs,I.base.tbls⟩,⟨m,hn.sameBut hs (Ne.symm (cne x c hc)),fun j y v' e1 e2 e3=>?_⟩,fun y c' e=>?_,I.free,I.freeC,fun p hp=>?_,tracked ⟨oc,hoc,I.freeC x c hc⟩ hs,by simpa using I.len⟩ ⟨c,hs, .inr hc⟩
  ·exact(hs.2 b (Nat.ne_of_lt (Nat.lt_of_lt_of_le (Heap.lt_size e) (I.ok.cab x c hfn hc)))).trans (I.base.keep b o e n hb hx)
  ·obtain⟨sl,e1⟩:=I.base.slot b o e n hb hx;exact⟨sl,(hs.2 b (Nat.ne_of_lt (Nat.lt_of_lt_of_le (Heap.lt_size e) (I.ok.cab x c hfn hc)))).trans e1⟩
  ·obtain⟨o',e1⟩:=I.base.there b o e hx;exact⟨o',(hs.2 b (Nat.ne_of_lt (Nat.lt_of_lt_of_le (Heap.lt_size e) (I.ok.cab x c hfn hc)))).trans e1⟩
  ·by_cases hj:j=i
   ·subst hj;rw [hi]at e1;cases e1;rw [List.getElem?_set_self hiσ]at e2;cases e2;exact⟨u,r, .inr ⟨.inl hk,c,hc,hc'⟩⟩
   ·rw [List.getElem?_set_ne (Ne.symm hj)]at e2;obtain⟨u',r',q⟩:=hl j y v' e1 e2 e3;refine⟨u',r',?_⟩;rcases q with q |⟨k,c',e,z'⟩
    ·exact .inl q
    ·refine .inr ⟨k,c',e,z'.sameBut hs ?_⟩;rintro rfl;exact hj (zmI hN e1 (I.ok.inj _ _ _ e hc▸hi))
  ·by_cases hcc:c'=c
   ·subst hcc;exact⟨_,hc'⟩
   ·obtain⟨w2,z2⟩:=I.cell y c' e;exact⟨w2,z2.sameBut hs hcc⟩
  ·obtain⟨e,n,ne,nf,d⟩:=I.pin p hp;refine⟨(hs.2 p.1 ?_).trans e,n,ne,nf,d⟩;intro q;rw [q,hoc]at e;have q':oc=p.2:=Option.some.inj e;exact d w' (by rw [←q'];exact hocd)
theorem zii{M:Model}{A:Around}{E:Value→Shared→Prop}{i:Nat}{x:Str}{v:V}{u:Value}{Q:Unit→Shared→Prop}(I:Inv X pins σ H s) (hN:X.N.Nodup) (hi:X.N[i]? =some x) (hx:Loc X.env.scope x) (r:RelV v u)
  (h:∀s',Inv X pins (σ.set i (some v)) H s'→Q () s') (hf:X.fn x=true∨X.env.scope.names.lookup x=some .local:=by first |exact .inl rfl |exact .inr rfl |assumption):wpAny M A (storeName X.env x u) Q E s:=
 zjX I hN hi hx r (fun s' I' _=>h s' I') hf
theorem Inv.call'{s':Shared}{ch:List Addr}(I:Inv X pins σ H s) (ho:s'.os=s.os) (u:Un (frs X.stack) ch H H' s.heap s'.heap) (hok:HOk X.prog X.w H' s'.heap) (hg:AllBare s'.gens)
  (hch:∀b∈ch,(b∈X.ex∨X.s₀.heap.objs.size≤b)∧b≠X.env.locals∧(∀x c,X.env.cells.lookup x=some c→c≠b)∧ ∀p∈X.pn++pins,p.1≠b):Inv X pins σ H' s':=by
 obtain⟨h',g',d',t',o'⟩:=s';have e:o'=s.os:=ho;subst e;exact I.call (g':=g') (t':=t') (d':=d') u hok hg hch
end
noncomputable abbrev XK:=Value→Option Addr→Hp→Prop
noncomputable abbrev St:=List (Option V)
noncomputable abbrev VK:=V→Hp→Prop
noncomputable abbrev TE:=St→Hp→VK→Prop
noncomputable abbrev TT:=St→Hp→(Bool→Hp→Prop)→Prop
noncomputable abbrev TA:=St→Hp→(List V→Hp→Prop)→Prop
structure Ends where
  nx:St→Hp→Prop
  rt:VK
  bk:St→Hp→Prop:=fun _ _=>False
  ct:St→Hp→Prop:=fun _ _=>False
noncomputable abbrev TS:=Ends→St→Hp→Prop
noncomputable def EP (X:Cx) (pins:List (Addr×Obj)) (σ:St) (Q:VK) (u:Value) (s':Shared):Prop:=∃v H',Inv X pins σ H' s'∧RelV v u∧Q v H'
noncomputable def TP (X:Cx) (pins:List (Addr×Obj)) (σ:St) (Q:Bool→Hp→Prop) (b:Bool) (s':Shared):Prop:=∃H',Inv X pins σ H' s'∧Q b H'
noncomputable def AP (X:Cx) (pins:List (Addr×Obj)) (σ:St) (Q:List V→Hp→Prop) (us:List Value) (s':Shared):Prop:=∃vs H',Inv X pins σ H' s'∧Vals vs us∧Q vs H'
noncomputable def SP (X:Cx) (pins:List (Addr×Obj)) (D:Ends) (f:Flow) (s':Shared):Prop:=
 match f with
 | .next=>∃σ' H',Inv X pins σ' H' s'∧D.nx σ' H'
 | .brk=>∃σ' H',Inv X pins σ' H' s'∧D.bk σ' H'
 | .cont=>∃σ' H',Inv X pins σ' H' s'∧D.ct σ' H'
 | .ret u=>∃v σ' H',Inv X pins σ' H' s'∧RelV v u∧D.rt v H'
noncomputable def PE (X:Cx) (e:Expr) (t:TE):Prop:=
 ∀(pins:List (Addr×Obj)) (s:Shared) (σ:St) (H:Hp) (Q:VK),Inv X pins σ H s→t σ H Q→wpAny (model X.prog X.w) X.A (eval e X.env) (EP X pins σ Q) X.xe s
noncomputable def PT (X:Cx) (e:Expr) (t:TT):Prop:=
 ∀(pins:List (Addr×Obj)) (s:Shared) (σ:St) (H:Hp) (Q:Bool→Hp→Prop),Inv X pins σ H s→t σ H Q→wpAny (model X.prog X.w) X.A (isTrue e X.env (eval e X.env)) (TP X pins σ Q) X.xe s
noncomputable def PW (X:Cx) (e:Expr) (t:TT):Prop:=
 ∀(whole:Sem Value) (pins:List (Addr×Obj)) (s:Shared) (σ:St) (H:Hp) (Q:Bool→Hp→Prop),Inv X pins σ H s→t σ H Q→wpAny (model X.prog X.w) X.A (isTrue e X.env whole) (TP X pins σ Q) X.xe s
theorem PW.pt{X:Cx}{e:Expr}{t:TT}(h:PW X e t):PT X e t:=h _
noncomputable def PA (X:Cx) (es:List Expr) (t:TA):Prop:=
 ∀(pos:Pos) (pins:List (Addr×Obj)) (s:Shared) (σ:St) (H:Hp) (Q:List V→Hp→Prop),Inv X pins σ H s→t σ H Q→wpAny (model X.prog X.w) X.A (spliced (backTo pos (starEach es X.env))) (AP X pins σ Q) X.xe s
noncomputable def PS (X:Cx) (st:Stmt) (t:TS):Prop:=
 ∀(pins:List (Addr×Obj)) (s:Shared) (σ:St) (H:Hp) (D:Ends),Inv X pins σ H s→t D σ H→wpAny (model X.prog X.w) X.A (exec st X.env) (SP X pins D) X.xe s
noncomputable def PSs (X:Cx) (st:List Stmt) (t:TS):Prop:=
 ∀(pins:List (Addr×Obj)) (s:Shared) (σ:St) (H:Hp) (D:Ends),Inv X pins σ H s→t D σ H→wpAny (model X.prog X.w) X.A (execs st X.env) (SP X pins D) X.xe s
theorem thn{α:Type}{t:Sem α}{Q Q':α→Shared→Prop}{M:Model}{A:Around}{E:Value→Shared→Prop}{s:Shared}(h:wpAny M A t Q E s) (hQ:∀a s,Q a s→Q' a s):wpAny M A t Q' E s:=wpAny_mono h hQ fun _ _ x=>x
section
variable {X:Cx}
noncomputable def zzP (i:Nat):TE:=fun σ H Q=>∃v,σ[i]? =some (some v)∧Q v H
noncomputable def tC (v:V):TE:=fun _ H Q=>Q v H
theorem zwh{i:Nat}{x:Str}{pos:Pos}(hN:X.N[i]? =some x) (hv:Vis X.env.scope x) (hd:(x == ("__debug__" :Str))=false:=by decide) (hcd:(x == ("__classdict__" :Str))=false:=by decide):PE X (.Name x pos) (zzP i):=by
 intro pins s σ H Q I h;obtain⟨v,e,h⟩:=h;obtain⟨m,hn,hl⟩:=I.loc;obtain⟨u,r,l⟩:=hl i x v hN e hv;have fin:EP X pins σ Q u s:=⟨v,H,I,r,h⟩;rcases l with⟨hk,hm⟩ |⟨hk,c,hc,hcell⟩
 ·exact wpAny_Name (wpAny_loadName_local I.ok.kind hk hn hm fin) hd
 ·rcases hk with hk |hk
  ·exact wpAny_Name (wpAny_loadName_cell I.ok.kind hk hc hcell fin) hd
  ·exact wpAny_Name (wpAny_loadName_free I.ok.kind hk hc hcell fin hcd) hd
theorem zvo{i j pos}:PE X (.Constant (.int i) j pos) (tC (.int i)):=fun _ _ _ H _ I h=>wpAny_Constant_int ⟨.int i,H,I.tok _,⟨_,rfl⟩,h⟩
theorem zyI{b j pos}:PE X (.Constant (.bool b) j pos) (tC (.bl b)):=fun _ _ _ H _ I h=>Constant_bool ⟨.bl b,H,I,rfl,h⟩
theorem zvb{j pos}:PE X (.Constant .none j pos) (tC .non):=fun _ _ _ H _ I h=>Constant_none ⟨.non,H,I,rfl,h⟩
theorem zwq{x j pos}:PE X (.Constant (.str x) j pos) (tC (.str x)):=fun _ _ _ H _ I h=>Calls.Constant_str ⟨.str x,H,I.tok _,⟨_,rfl⟩,h⟩
noncomputable def Gl (X:Cx) (x:Str):Prop:=X.env.kindOf x=some .globalImplicit
theorem zoy{E:Value→Shared→Prop}{pins:List (Addr×Obj)}{s:Shared}{σ:St}{H:Hp}{x:Str}{u:Value}{pos:Pos}{Q:Value→Shared→Prop}(I:Inv X pins σ H s) (hg:Gl X x) (hm:X.mg x=some u) (h:Q u s)
  (hd:(x == ("__debug__" :Str))=false:=by decide):wpAny (model X.prog X.w) X.A (eval (.Name x pos) X.env) Q E s:=
 Calls.Name_function_global I.ok.kind hg (Calls.loadGlobal_global (by rw [I.ok.glob];exact I.mod.glob.keeps I.bk) hm h) hd
theorem zhQ{E:Value→Shared→Prop}{pins:List (Addr×Obj)}{s:Shared}{σ:St}{H:Hp}{x:Str}{u:Value}{pos:Pos}{Q:Value→Shared→Prop}(I:Inv X pins σ H s) (hg:Gl X x) (hm:X.mg x=none) (hv:bootBuiltins x=some u) (h:Q u s)
  (hn:x≠ "__name__" :=by decide) (hd:(x == ("__debug__" :Str))=false:=by decide):wpAny (model X.prog X.w) X.A (eval (.Name x pos) X.env) Q E s:=by
 obtain⟨mb,h1,h2⟩:=I.mod.blt;exact Calls.Name_function_global I.ok.kind hg (Calls.loadGlobal_builtin (by rw [I.ok.glob];exact I.mod.glob.keeps I.bk) hm (by rw [I.ok.blt];exact h1.keeps I.bk) ((h2 x hn).trans hv) h) hd
theorem zsP{x:Str}{v:V}{u:Value}{pos:Pos}(hg:Gl X x) (hm:X.mg x=some u) (r:RelV v u) (hd:(x == ("__debug__" :Str))=false:=by decide):PE X (.Name x pos) (tC v):=
 fun _ _ _ H _ I h=>zoy I hg hm ⟨v,H,I,r,h⟩ hd
theorem ztE{x:Str}{v:V}{u:Value}{pos:Pos}(hg:Gl X x) (hm:X.mg x=none) (hv:bootBuiltins x=some u) (r:RelV v u) (hn:x≠ "__name__" :=by decide) (hd:(x == ("__debug__" :Str))=false:=by decide):PE X (.Name x pos) (tC v):=
 fun _ _ _ H _ I h=>zhQ I hg hm hv ⟨v,H,I,r,h⟩ hn hd
variable {a b:Expr}{ta tb:TE}{pos:Pos}
variable {tA tB':TT}{rest:List Expr}
noncomputable def zzo (t u:TT):TT:=fun σ H Q=>t σ H fun c H1=>if c=true then u σ H1 Q else Q false H1
noncomputable def tOr (t u:TT):TT:=fun σ H Q=>t σ H fun c H1=>if c=true then Q true H1 else u σ H1 Q
noncomputable def zzu (t:TT):TT:=fun σ H Q=>t σ H fun c H1=>Q (!c) H1
theorem zsv (ha:PT X a tA):PW X (.BoolOp .And [a] pos) tA:=by
 intro wh pins s σ H Q I h;refine isTrue_and (thn (ha pins s σ H Q I h) fun c s1 e=>?_);cases c with
 |true=>exact isTrue_and_nil e
 |false=>exact e
theorem zvn (ha:PT X a tA):PW X (.BoolOp .Or [a] pos) tA:=by
 intro wh pins s σ H Q I h;refine isTrue_or (thn (ha pins s σ H Q I h) fun c s1 e=>?_);cases c with
 |false=>exact isTrue_or_nil e
 |true=>exact e
theorem zwz (ha:PT X a tA) (hb:PW X (.BoolOp .And (b::rest) pos) tB'):PW X (.BoolOp .And (a::b::rest) pos) (zzo tA tB'):=by
 intro wh pins s σ H Q I h;refine isTrue_and (thn (ha pins s σ H _ I h) fun c s1 ⟨H1,I1,q1⟩=>?_);cases c with
 |true=>exact hb wh pins s1 σ H1 Q I1 q1
 |false=>exact⟨H1,I1,q1⟩
theorem zxc (ha:PT X a tA) (hb:PW X (.BoolOp .Or (b::rest) pos) tB'):PW X (.BoolOp .Or (a::b::rest) pos) (tOr tA tB'):=by
 intro wh pins s σ H Q I h;refine isTrue_or (thn (ha pins s σ H _ I h) fun c s1 ⟨H1,I1,q1⟩=>?_);cases c with
 |true=>exact⟨H1,I1,q1⟩
 |false=>exact hb wh pins s1 σ H1 Q I1 q1
theorem zwF (ha:PT X a tA):PT X (.UnaryOp .Not a pos) (zzu tA):=by
 intro pins s σ H Q I h;exact isTrue_not (ha pins s σ H (fun c H1=>Q (!c) H1) I h)
noncomputable def zyp (ta tb:TE):TE:=fun σ H Q=>ta σ H fun x H1=>∃c,x= .bl c∧if c=true then tb σ H1 Q else Q (.bl false) H1
theorem zwc{op}{t:TE}(h:PE X a t):PE X (.BoolOp op [a] pos) t:=fun pins s σ H Q I hw=>BoolOp_one (h pins s σ H Q I hw)
theorem zuA (ha:PE X a ta) (hb:PE X (.BoolOp .And (b::rest) pos) tb):PE X (.BoolOp .And (a::b::rest) pos) (zyp ta tb):=by
 intro pins s σ H Q I h;refine BoolOp_and (thn (ha pins s σ H _ I h) fun v s1 ⟨x,H1,I1,r1,q1⟩=>?_);obtain⟨c,rfl,q1⟩:=q1;cases r1;refine wpAny_truthy_bool ?_;cases c with
 |true=>exact hb pins s1 σ H1 Q I1 q1
 |false=>exact⟨.bl false,H1,I1,rfl,q1⟩
noncomputable def tIf (t:TT) (ta tb:TE):TE:=fun σ H Q=>t σ H fun c H1=>if c=true then ta σ H1 Q else tb σ H1 Q
theorem zrD{c:Expr}(hc:PT X c tA) (ha:PE X a ta) (hb:PE X b tb):PE X (.IfExp c a b pos) (tIf tA ta tb):=by
 intro pins s σ H Q I h;refine wpAny_IfExp (thn (hc pins s σ H _ I h) fun d s1 ⟨H1,I1,q1⟩=>?_);cases d with
 |true=>exact ha pins s1 σ H1 Q I1 q1
 |false=>exact hb pins s1 σ H1 Q I1 q1
end
noncomputable def SqL (K:PySem.W.Frag) (H:Hp) (a:Addr) (xs:List V):Prop:=
 Rd H a (.lst xs)∨
  ∃(o:Obj) (its:Array Value) (n:Nat),K.lookup a=some o∧o.cls= .type "list" ∧o.dict=none∧o.data= .seq its n∧its.size≤sizeLine∧Vals xs its.toList
noncomputable def SqT (K:PySem.W.Frag) (H:Hp) (a:Addr) (xs:List V):Prop:=
 Rd H a (.tup xs)∨
  ∃(o:Obj) (its:Array Value) (n:Nat),K.lookup a=some o∧o.cls= .type "tuple" ∧o.data= .seq its n∧its.size≤sizeLine∧Vals xs its.toList
noncomputable def zzS:Value→Option V
 | .none=>some .non
 | .bool b=>some (.bl b)
 | .int i _=>some (.int i)
 | .str x _=>some (.str x)
 | .bytes b _=>some (.byt b)
 | .float b _=>some (.flt b)
 | .ref a=>some (.ref a)
 | .type n=>some (.ty n)
 |_=>none
theorem RelV.abs{x:V}{u:Value}(r:RelV x u):zzS u=some x:=by
 cases x with
 |non=>cases r;rfl
 |bl _=>cases r;rfl
 |int _=>obtain⟨t,rfl⟩:=r;rfl
 |str _=>obtain⟨t,rfl⟩:=r;rfl
 |byt _=>obtain⟨t,rfl⟩:=r;rfl
 |flt _=>obtain⟨t,rfl⟩:=r;rfl
 |ref _=>cases r;rfl
 |ty _=>cases r;rfl
theorem RelV.inj{x y:V}{u:Value}(r:RelV x u) (q:RelV y u):x=y:=Option.some.inj (r.abs.symm.trans q.abs)
theorem Vals.inj:∀{xs ys:List V}{us:List Value},Vals xs us→Vals ys us→xs=ys
 |_,_,_, .nil, .nil=>rfl
 |_,_,_, .cons r t, .cons r' t'=>by rw [r.inj r',Vals.inj t t']
section
variable {X:Cx}{pins:List (Addr×Obj)}{σ:St}{H:Hp}{s:Shared}{a:Addr}{xs ys:List V}
theorem SqL.of{K:PySem.W.Frag}(h:H a=some (.lst xs)):SqL K H a xs:= .inl (.inl h)
theorem SqT.of{K:PySem.W.Frag}(h:H a=some (.tup xs)):SqT K H a xs:= .inl (.inl h)
theorem Inv.list (I:Inv X pins σ H s) (h:SqL X.K H a xs):∃its:List Value,Vals xs its∧PlainL s.heap a its.toArray∧xs.length≤sizeLine:=by
 rcases h with h |⟨o,its,n,hk,hc,hd,hs,hz,r⟩
 ·obtain⟨z,its,n,r,e⟩:=h.ok I.hok;exact⟨its,r,⟨_,n,e,rfl,rfl,rfl⟩,z⟩
 ·refine⟨its.toList,r,⟨o,n,I.kIn a o hk,hc,hd,by simpa using hs⟩,?_⟩
  have e:=r.length;simp only[Array.length_toList]at e;omega
theorem Inv.tuple (I:Inv X pins σ H s) (h:SqT X.K H a xs):∃its:List Value,Vals xs its∧IsTup s.heap a its.toArray∧xs.length≤sizeLine:=by
 rcases h with h |⟨o,its,n,hk,hc,hs,hz,r⟩
 ·obtain⟨z,its,r,p⟩:=h.ok I.hok;exact⟨its,r,p,z⟩
 ·refine⟨its.toList,r,⟨o,I.kIn a o hk,hc,n,by simpa using hs⟩,?_⟩
  have e:=r.length;simp only[Array.length_toList]at e;omega
theorem Inv.list_inj (I:Inv X pins σ H s) (h:SqL X.K H a xs) (h':SqL X.K H a ys):xs=ys:=by
 obtain⟨its,r,⟨o,n,e,_,_,d⟩,_⟩:=I.list h;obtain⟨its',r',⟨o',n',e',_,_,d'⟩,_⟩:=I.list h';rw [e]at e';cases e';rw [d]at d';injection d' with d1 _;have:its=its':=by simpa using congrArg Array.toList d1
 subst this;exact r.inj r'
theorem Inv.tuple_inj (I:Inv X pins σ H s) (h:SqT X.K H a xs) (h':SqT X.K H a ys):xs=ys:=by
 obtain⟨its,r,⟨o,e,_,n,d⟩,_⟩:=I.tuple h;obtain⟨its',r',⟨o',e',_,n',d'⟩,_⟩:=I.tuple h';rw [e]at e';cases e';rw [d]at d';injection d' with d1 _;have:its=its':=by simpa using congrArg Array.toList d1
 subst this;exact r.inj r'
end
noncomputable abbrev Cx.wish (X:Cx) (E:Value→Shared→Prop):Cx:={ X with xe:=E }
noncomputable abbrev Cx.nox (X:Cx):Cx:=X.wish fun _ _=>False
theorem Cx.Ok.wish{X:Cx}(ok:X.Ok) (E:Value→Shared→Prop):(X.wish E).Ok:=
 ⟨ok.mod,ok.kind,ok.glob,ok.blt,ok.above,ok.inj,ok.has,ok.cab,ok.hd,ok.frames,ok.stk,ok.exf,ok.bs,ok.bsz,ok.noex,ok.exfs,ok.funs,ok.frf⟩
theorem Cx.Ok.unwish{X:Cx}{E:Value→Shared→Prop}(ok:(X.wish E).Ok):X.Ok:=
 ⟨ok.mod,ok.kind,ok.glob,ok.blt,ok.above,ok.inj,ok.has,ok.cab,ok.hd,ok.frames,ok.stk,ok.exf,ok.bs,ok.bsz,ok.noex,ok.exfs,ok.funs,ok.frf⟩
section
variable {X:Cx}{pins:List (Addr×Obj)}{σ:St}{H:Hp}{s:Shared}{E:Value→Shared→Prop}
theorem Inv.wish (I:Inv X pins σ H s) (E:Value→Shared→Prop):Inv (X.wish E) pins σ H s:=⟨I.ok.wish E,I.os,I.bare,I.base,I.loc,I.cell,I.free,I.freeC,I.pin,I.hok,I.len⟩
theorem Inv.unwish (I:Inv (X.wish E) pins σ H s):Inv X pins σ H s:=⟨I.ok.unwish,I.os,I.bare,I.base,I.loc,I.cell,I.free,I.freeC,I.pin,I.hok,I.len⟩
theorem SP.unwish{D:Ends}{f:Flow}{s':Shared}(h:SP (X.wish E) pins D f s'):SP X pins D f s':=by
 cases f with
 |next=>obtain⟨σ',H',I,q⟩:=h;exact⟨σ',H',I.unwish,q⟩
 |brk=>obtain⟨σ',H',I,q⟩:=h;exact⟨σ',H',I.unwish,q⟩
 |cont=>obtain⟨σ',H',I,q⟩:=h;exact⟨σ',H',I.unwish,q⟩
 |ret u=>obtain⟨v,σ',H',I,r,q⟩:=h;exact⟨v,σ',H',I.unwish,r,q⟩
theorem PSs.nox{st:List Stmt}{t:TS}(h:PSs X.nox st t):PSs X st t:=fun pins s σ H D I hw=>
 wpAny_mono (h pins s σ H D (I.wish _) hw) (fun _ _ q=>q.unwish) fun _ _ z=>False.elim z
end
section
variable {X:Cx}{st:Stmt}{rest:List Stmt}{t u:TS}{e:Expr}{te:TE}{pos:Pos}
noncomputable def zxs:TS:=fun D σ H=>D.nx σ H
noncomputable def zzq (t u:TS):TS:=fun D σ H=>t { D with nx:=u D } σ H
theorem pss_nil:PSs X [] zxs:=fun _ _ σ H _ I h=>wpAny_execs_nil ⟨σ,H,I,h⟩
theorem zri (h1:PS X st t) (h2:PSs X rest u):PSs X (st::rest) (zzq t u):=by
 intro pins s σ H D I h;refine wpAny_execs_cons (thn (h1 pins s σ H { D with nx:=u D } I h) fun f s1 q=>?_);cases f with
 |next=>
  obtain⟨σ',H',I',q⟩:=q;exact h2 pins s1 σ' H' D I' q
 |ret v=>exact q
 |brk=>exact q
 |cont=>exact q
theorem ztQ (h1:PS X st t):PSs X [st] t:=by
 intro pins s σ H D I h;refine wpAny_execs_cons (thn (h1 pins s σ H D I h) fun f s1 q=>?_);cases f with
 |next=>exact wpAny_execs_nil q
 |ret v=>exact q
 |brk=>exact q
 |cont=>exact q
theorem Inv.quiet{pins:List (Addr×Obj)}{σ:St}{H:Hp}{s:Shared}(I:Inv X pins σ H s):interactive X.env=false:=by simp [interactive,I.ok.kind]
noncomputable def zxr (te:TE):TS:=fun D σ H=>te σ H fun _ H1=>D.nx σ H1
theorem zsE (he:PE X e te) (hs:swapsWith e none pos.line X.env=pure false:=by rfl):PS X (.Expr e pos) (zxr te):=by
 intro pins s σ H D I h;exact wpAny_Expr_any (thn (he pins s σ H _ I h) fun v s1 ⟨x,H1,I1,r1,q1⟩=>⟨σ,H1,I1,q1⟩) I.quiet hs
noncomputable def zzD (te:TE):TS:=fun D σ H=>te σ H D.rt
theorem zwR (he:PE X e te):PS X (.Return (some e) pos) (zzD te):=by
 intro pins s σ H D I h;exact wpAny_Return_some (thn (he pins s σ H _ I h) fun v s1 ⟨x,H1,I1,r1,q1⟩=>⟨x,σ,H1,I1,r1,q1⟩)
noncomputable def zyV (c:TT) (t u:TS):TS:=fun D σ H=>c σ H fun b H1=>if b=true then t D σ H1 else u D σ H1
theorem zxT{c:Expr}{a b:List Stmt}{tc:TT}(hc:PT X c tc) (ha:PSs X a t) (hb:PSs X b u):PS X (.If c a b pos) (zyV tc t u):=by
 intro pins s σ H D I h;refine wpAny_If (thn (hc pins s σ H _ I h) fun d s1 ⟨H1,I1,q1⟩=>?_);cases d with
 |true=>exact ha pins s1 σ H1 D I1 q1
 |false=>exact hb pins s1 σ H1 D I1 q1
noncomputable def zvp:TS:=fun _ _ _=>False
theorem ps_never:PS X st zvp:=fun _ _ _ _ _ _ h=>h.elim
end
noncomputable abbrev TG:=V→St→Hp→(St→Hp→Prop)→Prop
noncomputable abbrev TGs:=List V→St→Hp→(St→Hp→Prop)→Prop
noncomputable def PG (X:Cx) (target:Expr) (t:TG):Prop:=
 ∀(pins:List (Addr×Obj)) (s:Shared) (σ:St) (H:Hp) (v:V) (u:Value) (Q:St→Hp→Prop),Inv X pins σ H s→RelV v u→t v σ H Q→
  wpAny (model X.prog X.w) X.A (assign target X.env u) (fun _ s'=>∃σ' H',Inv X pins σ' H' s'∧Q σ' H') X.xe s
noncomputable def PGs (X:Cx) (ts:List Expr) (t:TGs):Prop:=
 ∀(pins:List (Addr×Obj)) (s:Shared) (σ:St) (H:Hp) (vs:List V) (us:List Value) (Q:St→Hp→Prop),Inv X pins σ H s→Vals vs us→t vs σ H Q→
  wpAny (model X.prog X.w) X.A (assignInOrder ((assignEach ts X.env).map (·.2)) us) (fun _ s'=>∃σ' H',Inv X pins σ' H' s'∧Q σ' H') X.xe s
noncomputable abbrev TIp:=V→V→Hp→VK→Prop
noncomputable def PIp (X:Cx) (op:Operator) (t:TIp):Prop:=
 ∀(pins:List (Addr×Obj)) (s:Shared) (σ:St) (H:Hp) (x y:V) (v u:Value) (Q:VK),Inv X pins σ H s→RelV x v→RelV y u→t x y H Q→
  wpAny (model X.prog X.w) X.A (inplaceOp op v u) (EP X pins σ Q) X.xe s
section
variable {X:Cx}{pos:Pos}
noncomputable def ztu (i:Nat):TG:=fun v σ H Q=>Q (σ.set i (some v)) H
theorem zsH{i:Nat}{x:Str}(hN:X.N.Nodup) (hi:X.N[i]? =some x) (hx:Loc X.env.scope x) (hf:X.fn x=true∨X.env.scope.names.lookup x=some .local:=by first |exact .inl rfl |exact .inr rfl |assumption):PG X (.Name x pos) (ztu i):=by
 intro pins s σ H v u Q I r h;exact wpAny_assign_Name (zii I hN hi hx r (fun s' I'=>⟨_,H,I',h⟩) hf)
noncomputable def zzl:TGs:=fun vs σ H Q=>vs=[]∧Q σ H
noncomputable def zyl (t:TG) (u:TGs):TGs:=fun vs σ H Q=>∃v r,vs=v::r∧t v σ H fun σ' H'=>u r σ' H' Q
theorem ztC:PGs X [] zzl:=by
 intro pins s σ H vs us Q I r h;obtain⟨e,h⟩:=h;subst e;cases r;exact assignInOrder_nil ⟨σ,H,I,h⟩
theorem zqX{e:Expr}{es:List Expr}{t:TG}{u:TGs}(h1:PG X e t) (h2:PGs X es u)
  (hs:(assignEach (e::es) X.env).map (·.2)=assign e X.env::(assignEach es X.env).map (·.2):=by rfl):PGs X (e::es) (zyl t u):=by
 intro pins s σ H vs us Q I r h;obtain⟨v,vr,e1,h⟩:=h;subst e1;cases r with
 |cons r rr=>
  rw [hs];refine assignInOrder_cons (thn (h1 pins s σ H _ _ _ I r h) fun _ s1 ⟨σ1,H1,I1,q1⟩=>?_);exact h2 pins s1 σ1 H1 _ _ Q I1 rr q1
noncomputable def zzp (K:PySem.W.Frag) (n:Nat) (t:TGs):TG:=fun v σ H Q=>∃a xs,v= .ref a∧SqT K H a xs∧xs.length=n∧t xs σ H Q
theorem zuY{es:List Expr}{k:Nat}{t:TGs}{n:Nat}(hc:X.calm=true) (h:PGs X es t)
  (hn:(assignEach es X.env).length=n:=by rfl) (hst:(assignEach es X.env).findIdx? (·.1)=none:=by rfl):PG X (.Tuple es k pos) (zzp X.K n t):=by
 intro pins s σ H v u Q I r hw;obtain⟨a,xs,e1,hq,hl,hw⟩:=hw;subst e1;cases r;obtain⟨its,rv,ht,hz⟩:=I.tuple hq;refine assign_Tuple_tuple (I.ok.hd hc) ht (by simp [hn,←hl,rv.length]) hst fun h' hx=>?_;have I1:Inv X pins σ H { s with heap:=h' }:=I.kept (t':=s.toks) fun b o e=>hx b o (Nat.ne_of_lt (Heap.lt_size e)) e;exact h pins _ σ H xs _ Q I1 (by simpa using rv) hw
noncomputable def zxm (te:TE) (g:TG):TS:=fun D σ H=>te σ H fun x H1=>g x σ H1 D.nx
theorem zve{tg e:Expr}{te:TE}{g:TG}(he:PE X e te) (hg:PG X tg g) (hs:swapsWithSole [tg] e pos.line X.env=pure false:=by rfl) (hw:swappedStores [tg] e X.env=pure none:=by rfl)
  (h1:(assignEach [tg] X.env).map (·.2)=[assign tg X.env]:=by rfl):PS X (.Assign [tg] e pos) (zxm te g):=by
 intro pins s σ H D I h;refine wpAny_Assign_stores (thn (he pins s σ H _ I h) fun v s1 ⟨x,H1,I1,r1,q1⟩=>?_) hs hw;rw [h1];exact thn (hg pins s1 σ H1 x v _ I1 r1 q1) fun _ s2 q=>q
theorem zvY{i:Nat}{x:Str}{e:Expr}{te:TE}{pos':Pos}(hN:X.N.Nodup) (hi:X.N[i]? =some x) (hx:Loc X.env.scope x) (he:PE X e te) (hs:swapsWith e (some (.Name x pos')) pos.line X.env=pure false:=by rfl) (hf:X.fn x=true∨X.env.scope.names.lookup x=some .local:=by first |exact .inl rfl |exact .inr rfl |assumption) :
  PS X (.Assign [.Name x pos'] e pos) (zxm te (ztu i)):=by
 intro pins s σ H D I h;refine wpAny_Assign_Name (thn (he pins s σ H _ I h) fun v s1 ⟨y,H1,I1,r1,q1⟩=>?_) hs;exact zii I1 hN hi hx r1 (fun s2 I2=>⟨_,H1,I2,q1⟩) hf
noncomputable def zzA (i:Nat) (te:TE) (ti:TIp):TS:=fun D σ H=>∃x,σ[i]? =some (some x)∧te σ H fun y H1=>ti x y H1 fun z H2=>D.nx (σ.set i (some z)) H2
theorem zwx{i:Nat}{x:Str}{e:Expr}{te:TE}{op:Operator}{ti:TIp}{pos':Pos}(hN:X.N.Nodup) (hi:X.N[i]? =some x) (hx:Loc X.env.scope x) (he:PE X e te) (ho:PIp X op ti) (hf:X.fn x=true∨X.env.scope.names.lookup x=some .local:=by first |exact .inl rfl |exact .inr rfl |assumption) :
  PS X (.AugAssign (.Name x pos') op e pos) (zzA i te ti):=by
 intro pins s σ H D I h;obtain⟨v,e1,h⟩:=h;obtain⟨m,hn,hl⟩:=I.loc;have vis:Vis X.env.scope x:=by rcases hx with k |k;exact .inl k;exact .inr (.inl k)
 obtain⟨u,r,l⟩:=hl i x v hi e1 vis;refine wpAny_AugAssign_Name ?_;have go:wpAny (model X.prog X.w) X.A (eval e X.env) (fun w s₂=>wpAny (model X.prog X.w) X.A (inplaceOp op u w) (fun r s₃=>wpAny (model X.prog X.w) X.A (storeName X.env x r) (fun _=>SP X pins D .next) X.xe s₃) X.xe s₂) X.xe s:=by
  refine thn (he pins s σ H _ I h) fun w s1 ⟨y,H1,I1,r1,q1⟩=>?_;refine thn (ho pins s1 σ H1 v y u w _ I1 r r1 q1) fun z s2 ⟨zv,H2,I2,r2,q2⟩=>?_;exact zii I2 hN hi hx r2 (fun s3 I3=>⟨_,H2,I3,q2⟩) hf
 rcases l with⟨hk,hm⟩ |⟨hk,c,hc,hcell⟩
 ·exact wpAny_loadName_local I.ok.kind hk hn hm go
 ·rcases hk with hk |hk
  ·exact wpAny_loadName_cell I.ok.kind hk hc hcell go
  ·rcases hx with k |k
   ·have:X.env.scope.names.lookup x=some .free:=hk;rw [k]at this;cases this
   ·have:X.env.scope.names.lookup x=some .free:=hk;rw [k]at this;cases this
noncomputable def ipI (f:Int→Int→Int):TIp:=fun x y H Q=>∃i j,x= .int i∧y= .int j∧Q (.int (f i j)) H
theorem zuB:PIp X .Add (ipI fun i j=>i+j):=by
 intro pins s σ H x y v u Q I r1 r2 h;obtain⟨i,j,e1,e2,q⟩:=h;subst e1;subst e2;obtain⟨t,rfl⟩:=r1;obtain⟨t',rfl⟩:=r2;exact iadd_int ⟨.int _,H,I.tok _,⟨_,rfl⟩,q⟩
end
section
variable {X:Cx}{pos:Pos}
noncomputable def zuW (c:TT) (tb:TS):TS:=fun D σ H=>∃W:Nat→St→Hp→Prop,(∃m,W m σ H)∧ ∀m σ H,W m σ H→
 c σ H fun b H1=>if b=true then ∃N:St→Hp→Prop,(∀σ' H',N σ' H'→ ∃m',m'<m∧W m' σ' H')∧tb { D with nx:=N,ct:=N,bk:=D.nx } σ H1 else D.nx σ H1
theorem zqD{c:Expr}{body:List Stmt}{tc:TT}{tb:TS}(hp:PassesOwn (model X.prog X.w) X.A X.env X.xe) (hc:PT X c tc) (hb:PSs X body tb):PS X (.While c body [] pos) (zuW tc tb):=by
 intro pins s σ H D I h;obtain⟨W,⟨m0,w0⟩,turn⟩:=h;refine wpAny_While (codeAny_whileLoop (fun n s'=>∃σ' H',Inv X pins σ' H' s'∧W n σ' H') ?_ m0 ⟨σ,H,I,w0⟩);rintro n s1 ⟨σ1,H1,I1,w1⟩;refine wpAny_passesOwn hp (thn (hc pins s1 σ1 H1 _ I1 (turn n σ1 H1 w1)) fun b s2 ⟨H2,I2,q2⟩=>?_);cases b with
 |true=>
  obtain⟨N,hN,q2⟩:=q2;rw [if_pos rfl];refine wpAny_passesOwn hp (thn (hb pins s2 σ1 H2 _ I2 q2) fun f s3 q3=>?_);cases f with
  |next=>
   obtain⟨σ3,H3,I3,n3⟩:=q3;obtain⟨m',hm,w3⟩:=hN σ3 H3 n3;exact⟨m',hm,σ3,H3,I3,w3⟩
  |cont=>
   obtain⟨σ3,H3,I3,n3⟩:=q3;obtain⟨m',hm,w3⟩:=hN σ3 H3 n3;exact⟨m',hm,σ3,H3,I3,w3⟩
  |brk=>exact q3
  |ret v=>exact q3
 |false=>
  rw [if_neg Bool.false_ne_true];exact wpAny_execs_nil ⟨σ1,H2,I2,q2⟩
end
structure It where
  go:Nat→Hp→Prop
  yld:Nat→Hp→V→Hp→Prop
  stop:Nat→Hp→Prop
noncomputable def ziY (X:Cx) (pins:List (Addr×Obj)) (H:Hp) (b:Addr):Prop:=
 H b=none∧b≠X.env.locals∧b∉X.fs∧(b∈X.ex∨X.s₀.heap.objs.size≤b)∧(∀x c,X.env.cells.lookup x=some c→c≠b)∧ ∀p∈X.pn++pins,p.1≠b
theorem Inv.fpOk{X:Cx}{pins:List (Addr×Obj)}{σ:St}{H H':Hp}{s:Shared}{b:Addr}(I:Inv X pins σ H s) (hb:s.heap.objs.size≤b) (hn:H' b=none):ziY X pins H' b:=by
 refine⟨hn,Nat.ne_of_gt (Nat.lt_of_lt_of_le I.lt hb),I.nofs hb, .inr (Nat.le_trans I.sz hb),fun x c e z=>?_,fun p hp z=>?_⟩
 ·obtain⟨v,q⟩:=I.cell x c e;exact absurd (Nat.lt_of_lt_of_le q.lt (by rw [z];exact hb)) (Nat.lt_irrefl _)
 ·exact absurd (Nat.lt_of_lt_of_le (Heap.lt_size (I.pin p hp).1) (by rw [z];exact hb)) (Nat.lt_irrefl _)
structure Turn (P:Program) (w:World) (K:PySem.W.Frag) (tg:Expr) (J:It) (fp:List Addr) (it:Addr) (tn:Nat→Heap→Prop):Prop where
  mem:it∈fp
  obj:∀i h,tn i h→ ∀b∈fp,∃o,h.get? b=some o∧ ∀v,o.data≠ .cell v
  keep:∀i h h',tn i h→(∀b∈fp,∀o,h.get? b=some o→h'.get? b=some o)→tn i h'
  item:∀(X:Cx),X.prog=P→X.w=w→X.K=K→X.calm=true→ ∀(i:Nat) (pins:List (Addr×Obj)) (s:Shared) (σ:St) (H:Hp) (E:Value→Shared→Prop),Inv X pins σ H s→(∀b∈fp,ziY X pins H b)→tn i s.heap→J.go i H→
    wpAny (model P w) X.A (pyNext (.ref it)) (fun r s1=>∃u,r=some u∧
      wpAny (model P w) X.A (letOwnedTupleGo tg (.ref it) u) (fun _ s2=>∃x H',Inv X pins σ H' s2∧RelV x u∧J.yld i H x H'∧tn (i+1) s2.heap∧ ∀b∈fp,H' b=none) E s1) E s
  done:∀(X:Cx),X.prog=P→X.w=w→X.K=K→X.calm=true→ ∀(i:Nat) (pins:List (Addr×Obj)) (s:Shared) (σ:St) (H:Hp) (E:Value→Shared→Prop),Inv X pins σ H s→(∀b∈fp,ziY X pins H b)→tn i s.heap→J.stop i H→
    wpAny (model P w) X.A (pyNext (.ref it)) (fun r s1=>r=none∧Inv X pins σ H s1) E s
  self:∀(A:Around) (i:Nat) (s:Shared) (Q:Value→Shared→Prop) (E:Value→Shared→Prop),tn i s.heap→Q (.ref it) s→wpAny (model P w) A (pyIter (.ref it)) Q E s
noncomputable abbrev TI:=St→Hp→(It→Hp→Prop)→Prop
noncomputable def PIE (X:Cx) (pins:List (Addr×Obj)) (σ:St) (tg:Expr) (R:It→Hp→Prop) (itv:Value) (s2:Shared):Prop:=
 ∃(it:Addr) (fp:List Addr) (tn:Nat→Heap→Prop) (J:It) (H':Hp),itv= .ref it∧Inv X pins σ H' s2∧Turn X.prog X.w X.K tg J fp it tn∧tn 0 s2.heap∧(∀b∈fp,ziY X pins H' b)∧R J H'
noncomputable def PI (X:Cx) (tg iter:Expr) (wi:TI):Prop:=
 ∀(pins:List (Addr×Obj)) (s:Shared) (σ:St) (H:Hp) (R:It→Hp→Prop),Inv X pins σ H s→wi σ H R→
  wpAny (model X.prog X.w) X.A (eval iter X.env) (fun v s1=>wpAny (model X.prog X.w) X.A (pyIter v) (PIE X pins σ tg R) X.xe s1) X.xe s
theorem zqw{M:Model}{A:Around}{E:Value→Shared→Prop}{s:Shared}{tg:Expr}{it:Addr}{u:Value}{o:Obj}{n:String}{vs:Array Value}{Q:Unit→Shared→Prop}(ho:s.heap.get? it=some o) (hc:o.cls= .type n) (hd:o.data= .fields vs)
    (hn: ["enumerate", "zip", "dict_itemiterator", "dict_reverseitemiterator", "odict_iterator", "itertools.zip_longest", "itertools.pairwise"].contains n=false) (hQ:Q () s):wpAny M A (letOwnedTupleGo tg (.ref it) u) Q E s:=by
  unfold letOwnedTupleGo;cases tg<;>first
    |exact wpAny_pure hQ
    | (cases u<;>first
        |exact wpAny_pure hQ
        | (refine wpAny_bind (wpAny_load ho ?_)
           rw [hc,hd];show wpAny M A (if(["enumerate", "zip", "dict_itemiterator", "dict_reverseitemiterator", "odict_iterator", "itertools.zip_longest", "itertools.pairwise"].contains n&&vs[0]? == some (rawInt _))=true then _ else _) Q E s;rw [if_neg (by intro h;rw [hn,Bool.false_and]at h;cases h)];exact wpAny_pure hQ))
noncomputable def Itl (K:PySem.W.Frag) (a:Addr):It:=
 ⟨fun i H=>∃xs x,SqL K H a xs∧xs[i]? =some x,fun i H x H'=>H'=H∧ ∀xs,SqL K H a xs→xs[i]? =some x,fun i H=>∃xs,SqL K H a xs∧xs.length≤i⟩
noncomputable def Itt (K:PySem.W.Frag) (a:Addr):It:=
 ⟨fun i H=>∃xs x,SqT K H a xs∧xs[i]? =some x,fun i H x H'=>H'=H∧ ∀xs,SqT K H a xs→xs[i]? =some x,fun i H=>∃xs,SqT K H a xs∧xs.length≤i⟩
noncomputable def Itr (lo:Int) (n:Nat):It:=⟨fun i _=>i<n,fun i H x H'=>H'=H∧x= .int (lo+i),fun i _=>n≤i⟩
theorem znT{P:Program}{w:World}{K:PySem.W.Frag}{tg:Expr}(a it:Addr):Turn P w K tg (Itl K a) [it] it (fun i h=>h.IsListIter it a i) where
  mem:=by simp
  obj:=fun i h st b hb=>by
    have e:b=it:=by simpa using hb
    subst e;obtain⟨o,e,c,d⟩:=st;exact⟨o,e,fun v z=>by rw [d]at z;cases z⟩
  keep:=fun i h h' st k=>st.at fun o e=>k it (by simp) o e
  item:=by
    intro X hP hw hK hc i pins s σ H E I hf st hg;subst hP hw hK;obtain⟨xs,x,hq,hx⟩:=hg;obtain⟨its,rv,p,hz⟩:=I.list hq;obtain⟨u,hu,ru⟩:=rv.get hx;obtain⟨f0,f1,f2,f3,f4,f5⟩:=hf it (by simp);refine wpAny_pyNext_list_item st p.isList (x:=u) (by simpa using hu) fun h' st' sb=>?_;have I1:Inv X pins σ H { s with heap:=h' }:=I.turned (t':=s.toks) (fun b o hb e=>(sb.2 b hb).trans e) f0 f1 f3 f4 f5;obtain⟨o,e,c,d⟩:=id st';exact⟨u,rfl,zqw (s:={ s with heap:=h' }) e c d (by decide) ⟨x,H,I1,ru,⟨rfl,fun ys hy=>by rw [I.list_inj hy hq];exact hx⟩,st',fun b hb=>(hf b hb).1⟩⟩
  done:=by
    intro X hP hw hK hc i pins s σ H E I hf st hg;subst hP hw hK;obtain⟨xs,hq,hx⟩:=hg;obtain⟨its,rv,p,hz⟩:=I.list hq;obtain⟨f0,f1,f2,f3,f4,f5⟩:=hf it (by simp);have hl:=rv.length;exact wpAny_pyNext_list_end (I.ok.hd hc) st p.isList (by simp;omega) fun h' eb=>⟨rfl,I.turned (t':=s.toks) (fun b o hb e=>eb b o hb e) f0 f1 f3 f4 f5⟩
  self:=fun _ _ _ _ _ st h=>wpAny_pyIter_listiter st h
theorem znb{P:Program}{w:World}{K:PySem.W.Frag}{tg:Expr}(a it:Addr):Turn P w K tg (Itt K a) [it] it (fun i h=>h.IsTupleIter it a i) where
  mem:=by simp
  obj:=fun i h st b hb=>by
    have e:b=it:=by simpa using hb
    subst e;obtain⟨o,e,c,d⟩:=st;exact⟨o,e,fun v z=>by rw [d]at z;cases z⟩
  keep:=fun i h h' st k=>st.at fun o e=>k it (by simp) o e
  item:=by
    intro X hP hw hK hc i pins s σ H E I hf st hg;subst hP hw hK;obtain⟨xs,x,hq,hx⟩:=hg;obtain⟨its,rv,p,hz⟩:=I.tuple hq;obtain⟨u,hu,ru⟩:=rv.get hx;obtain⟨f0,f1,f2,f3,f4,f5⟩:=hf it (by simp);refine wpAny_pyNext_tuple_item st (show s.heap.IsTuple a its.toArray from p) (x:=u) (by simpa using hu) fun h' st' sb=>?_;have I1:Inv X pins σ H { s with heap:=h' }:=I.turned (t':=s.toks) (fun b o hb e=>(sb.2 b hb).trans e) f0 f1 f3 f4 f5;obtain⟨o,e,c,d⟩:=id st';exact⟨u,rfl,zqw (s:={ s with heap:=h' }) e c d (by decide) ⟨x,H,I1,ru,⟨rfl,fun ys hy=>by rw [I.tuple_inj hy hq];exact hx⟩,st',fun b hb=>(hf b hb).1⟩⟩
  done:=by
    intro X hP hw hK hc i pins s σ H E I hf st hg;subst hP hw hK;obtain⟨xs,hq,hx⟩:=hg;obtain⟨its,rv,p,hz⟩:=I.tuple hq;obtain⟨f0,f1,f2,f3,f4,f5⟩:=hf it (by simp);have hl:=rv.length;exact wpAny_pyNext_tuple_end (I.ok.hd hc) st (show s.heap.IsTuple a its.toArray from p) (by simp;omega) fun h' eb=>⟨rfl,I.turned (t':=s.toks) (fun b o hb e=>eb b o hb e) f0 f1 f3 f4 f5⟩
  self:=fun _ _ _ _ _ st h=>wpAny_pyIter_tupleiter st h
theorem znp{P:Program}{w:World}{K:PySem.W.Frag}{tg:Expr}(it:Addr) (lo:Int) (n:Nat):Turn P w K tg (Itr lo n) [it] it (fun i h=>IsRangeIter h it (lo+(i:Nat)*1) ((n:Int) - (i:Nat)) 1) where
  mem:=by simp
  obj:=fun i h st b hb=>by
    have e:b=it:=by simpa using hb
    subst e;exact⟨_,st,fun v z=>by
      have z':Data.fields _=Data.cell v:=z;cases z'⟩
  keep:=fun i h h' st k=>k it (by simp) _ st
  item:=by
    intro X hP hw hK hc i pins s σ H E I hf st hg;subst hP hw hK;obtain⟨f0,f1,f2,f3,f4,f5⟩:=hf it (by simp);have W:=Walks.range (prog:=X.prog) (w:=X.w) (I.ok.hd hc) it lo 1 n;refine W.item i s _ _ hg st fun v h' tk hv st' kk=>?_;obtain⟨t,rfl⟩:=hv;have I1:Inv X pins σ H { s with heap:=h',toks:=tk }:=I.turned (fun b o hb e=>kk b o (by simpa using hb) e) f0 f1 f3 f4 f5;refine⟨_,rfl,zqw (s:={ s with heap:=h',toks:=tk }) (n:= "range_iterator") st' rfl rfl (by decide) ⟨.int (lo+i),H,I1,⟨t,?_⟩,⟨rfl,rfl⟩,st',fun b hb=>(hf b hb).1⟩⟩;rw [Int.mul_one]
  done:=by
    intro X hP hw hK hc i pins s σ H E I hf st hg;subst hP hw hK;obtain⟨f0,f1,f2,f3,f4,f5⟩:=hf it (by simp);exact wpAny_pyNext_range_end (I.ok.hd hc) st (by have:n≤i:=hg;omega) fun h' eb=>⟨rfl,I.turned (t':=s.toks) (fun b o hb e=>eb b o hb e) f0 f1 f3 f4 f5⟩
  self:=fun _ _ _ _ _ st h=>wpAny_pyIter_rangeiter st h
section
variable {X:Cx}{tg:Expr}
theorem zqm{pins:List (Addr×Obj)}{σ:St}{H:Hp}{s:Shared}{R:It→Hp→Prop}{E:Value→Shared→Prop}{lo hi:Int}{t u v:Tok}{tk:Nat}(I:Inv X pins σ H s) (h1: -(2 ^ 62)≤lo) (h2:lo<2 ^ 62) (h3: -(2 ^ 62)≤hi) (h4:hi<2 ^ 62)
  (q:R (Itr lo (hi - lo).toNat) H):wpAny (model X.prog X.w) X.A (pyIter (.ref s.heap.objs.size)) (PIE X pins σ tg R) E { s with heap:=s.heap.push { cls:= .type "range",data:= .fields #[.int lo t, .int hi u, .int 1 v] },toks:=tk }:=by
 refine wpAny_pyIter_range (IsRange.new ..) (small_one h1 h2 h3 h4) ?_;have I1:Inv X pins σ H { s with heap:=s.heap.push { cls:= .type "range",data:= .fields #[.int lo t, .int hi u, .int 1 v] },toks:=tk }:=I.kept fun b o e=>Heap.get?_push_of_some _ e;refine⟨(s.heap.push { cls:= .type "range",data:= .fields #[.int lo t, .int hi u, .int 1 v] }).objs.size,[(s.heap.push { cls:= .type "range",data:= .fields #[.int lo t, .int hi u, .int 1 v] }).objs.size],_,_,H,rfl,
  I1.kept (t':=tk) fun b o e=>Heap.get?_push_of_some _ e,znp _ lo (hi - lo).toNat,?_,fun b hb=>?_,q⟩
 ·have e1:lo+((0:Nat):Int)*1=lo:=by simp
  have e2:(((hi - lo).toNat:Nat):Int) - ((0:Nat):Int)=Builtin.Range.rangeSize lo hi 1:=by rw [rangeSize_one];split<;>omega
  show IsRangeIter _ _ (lo+((0:Nat):Int)*1) ((((hi - lo).toNat:Nat):Int) - ((0:Nat):Int)) 1;rw [e1,e2];exact Heap.get?_push_size _ rfl
 ·have e:b=(s.heap.push { cls:= .type "range",data:= .fields #[.int lo t, .int hi u, .int 1 v] }).objs.size:=by simpa using hb
  subst e;exact I1.fpOk (Nat.le_refl _) (I1.hok.fresh (Nat.le_refl _))
noncomputable def zxk (ta:TA):TI:=fun σ H R=>ta σ H fun vs H1=>∃j:Int,vs=[.int j]∧ -(2 ^ 62)≤j∧j<2 ^ 62∧R (Itr 0 j.toNat) H1
theorem zoJ{a:Expr}{ta:TA}{p pos:Pos}(hg:Gl X "range") (hm:X.mg "range" =none) (ha:PA X [a] ta) (hs:starEach [a] X.env=[(false,eval a X.env)]:=by rfl):PI X tg (.Call (.Name "range" p) [a] [] pos) (zxk ta):=by
 intro pins s σ H R I h;refine Call_ (zhQ I hg hm boot_range (PyProof.Rows.callWith_type1 (thn (ha pos pins s σ H _ I h) fun us s1 ⟨vs,H1,I1,r1,q1⟩=>?_) hs rfl));obtain⟨j,e,q1,q2,q⟩:=q1;subst e;cases r1 with
 |cons r rr=>
  cases rr;obtain⟨t,rfl⟩:=r;exact call_range_1 (zqm I1 (by omega) (by omega) q1 q2 (by simpa using q))
noncomputable def zzk (wi:TI) (g:TG) (tb:TS):TS:=fun D σ H=>wi σ H fun J H1=>∃W:Nat→Nat→St→Hp→Prop,(∃m,W 0 m σ H1)∧ ∀i m σ H,W i m σ H→
 (J.stop i H∧D.nx σ H)∨(J.go i H∧ ∃N:St→Hp→Prop,(∀σ' H',N σ' H'→ ∃m',m'<m∧W (i+1) m' σ' H')∧ ∀x H',J.yld i H x H'→g x σ H' fun σ2 H2=>tb { D with nx:=N,ct:=N,bk:=D.nx } σ2 H2)
noncomputable def zkA (fp:List Addr) (h:Heap):List (Addr×Obj):=fp.filterMap fun b=>(h.get? b).map fun o=>(b,o)
theorem zev{fp:List Addr}{h:Heap}{b:Addr}{o:Obj}(hb:b∈fp) (e:h.get? b=some o):(b,o)∈zkA fp h:=List.mem_filterMap.mpr ⟨b,hb,by rw [e];rfl⟩
theorem zor{fp:List Addr}{h:Heap}{p:Addr×Obj}(hp:p∈zkA fp h):p.1∈fp∧h.get? p.1=some p.2:=by
 obtain⟨b,hb,e⟩:=List.mem_filterMap.mp hp;cases q:h.get? b with
 |none=>rw [q]at e;cases e
 |some o=>
  rw [q]at e;have e':(b,o)=p:=Option.some.inj e;subst e';exact⟨hb,q⟩
theorem Inv.pinned{pins:List (Addr×Obj)}{σ:St}{H:Hp}{s:Shared}{fp:List Addr}(I:Inv X pins σ H s) (hf:∀b∈fp,ziY X pins H b) (ho:∀b∈fp,∃o,s.heap.get? b=some o∧ ∀v,o.data≠ .cell v):Inv X (pins++zkA fp s.heap) σ H s:=
 I.pins_of fun p hp=>(List.mem_append.mp hp).elim (fun z=>I.pin p (List.mem_append_right _ z)) fun z=>by
  obtain⟨hb,e⟩:=zor z;obtain⟨f0,f1,f2,_⟩:=hf p.1 hb;obtain⟨o,e',d⟩:=ho p.1 hb;rw [e]at e';cases e';exact⟨e,f0,f1,f2,d⟩
theorem Inv.unpinned{pins pl:List (Addr×Obj)}{σ:St}{H:Hp}{s:Shared}(I:Inv X (pins++pl) σ H s):Inv X pins σ H s:=I.pins_of fun p hp=>I.pin p (List.mem_append_right _ (List.mem_append_left _ hp))
theorem zvj{iter:Expr}{body:List Stmt}{wi:TI}{g:TG}{tb:TS}{pos:Pos}(hp:PassesOwn (model X.prog X.w) X.A X.env X.xe) (hc:X.calm=true) (hi:PI X tg iter wi) (hg:PG X tg g) (hb:PSs X body tb)
  (hs:∀x,foldedSetIterable iter X.env x=pure x:=by intro _;rfl):PS X (.For tg iter body [] pos) (zzk wi g tb):=by
 intro pins s σ H D I h;refine wpAny_For (thn (hi pins s σ H _ I h) fun v s1 h1=>thn h1 fun itv s2 h2=>?_) hs;obtain⟨it,fp,tn,J,H2,e,I2,T,st2,f2,W,⟨m0,w0⟩,turn⟩:=h2;subst e;have stat:∀{H':Hp},(∀b∈fp,H' b=none)→ ∀b∈fp,ziY X pins H' b:=fun hn b hb=>⟨hn b hb,(f2 b hb).2⟩;refine codeAny_forLoop_any (fun n s'=>∃i σ' H',Inv X pins σ' H' s'∧tn i s'.heap∧(∀b∈fp,H' b=none)∧W i n σ' H') ?_ m0 ⟨0,σ,H2,I2,st2,fun b hb=>(f2 b hb).1,w0⟩;rintro n s3 ⟨i,σ3,H3,I3,st3,fr3,w3⟩;rcases turn i n σ3 H3 w3 with⟨stop,qn⟩ |⟨go,N,hN,step⟩
 ·refine wpAny_passesOwn hp (thn (T.done X rfl rfl rfl hc i pins s3 σ3 H3 X.xe I3 (stat fr3) st3 stop) fun r s4 ⟨hr,I4⟩=>?_);subst hr;exact wpAny_execs_nil ⟨σ3,H3,I4,qn⟩
 ·refine wpAny_passesOwn hp (thn (T.item X rfl rfl rfl hc i pins s3 σ3 H3 X.xe I3 (stat fr3) st3 go) fun r s4 ⟨u,hr,h4⟩=>?_);subst hr;refine wpAny_passesOwn hp (thn h4 fun _ s5 ⟨x,H5,I5,r5,y5,st5,fr5⟩=>?_);have I5':=I5.pinned (stat fr5) (T.obj _ _ st5);refine wpAny_passesOwn hp (thn (hg _ s5 σ3 H5 x u _ I5' r5 (step x H5 y5)) fun _ s6 ⟨σ6,H6,I6,q6⟩=>?_);refine wpAny_passesOwn hp (thn (hb _ s6 σ6 H6 _ I6 q6) fun f s7 q7=>?_);have again:∀{σ7:St}{H7:Hp},Inv X (pins++zkA fp s5.heap) σ7 H7 s7→N σ7 H7→ ∃m,m<n∧ ∃i σ' H',Inv X pins σ' H' s7∧tn i s7.heap∧(∀b∈fp,H' b=none)∧W i m σ' H':=fun {σ7 H7} I7 n7=>by
   obtain⟨m',hm,w7⟩:=hN σ7 H7 n7;refine⟨m',hm,i+1,σ7,H7,I7.unpinned,T.keep _ _ _ st5 fun b hb o e=>(I7.pin (b,o) (List.mem_append_right _ (List.mem_append_right _ (zev hb e)))).1,fun b hb=>?_,w7⟩;obtain⟨o,e,d⟩:=T.obj _ _ st5 b hb;exact(I7.pin (b,o) (List.mem_append_right _ (List.mem_append_right _ (zev hb e)))).2.1
  cases f with
  |next=>obtain⟨σ7,H7,I7,n7⟩:=q7;exact again I7 n7
  |cont=>obtain⟨σ7,H7,I7,n7⟩:=q7;exact again I7 n7
  |brk=>obtain⟨σ7,H7,I7,q7⟩:=q7;exact⟨σ7,H7,I7.unpinned,q7⟩
  |ret v=>obtain⟨x7,σ7,H7,I7,r7,q7⟩:=q7;exact⟨x7,σ7,H7,I7.unpinned,r7,q7⟩
end
noncomputable abbrev R2:=V→V→Hp→VK→Prop
noncomputable def OpR (X:Cx) (f:Value→Value→Sem Value) (r:R2):Prop:=
 ∀(pins:List (Addr×Obj)) (s:Shared) (σ:St) (H:Hp) (x y:V) (v u:Value) (Q:VK),Inv X pins σ H s→RelV x v→RelV y u→r x y H Q→
  wpAny (model X.prog X.w) X.A (f v u) (EP X pins σ Q) X.xe s
noncomputable def UnR (X:Cx) (f:Value→Sem Value) (r:V→Hp→VK→Prop):Prop:=
 ∀(pins:List (Addr×Obj)) (s:Shared) (σ:St) (H:Hp) (x:V) (v:Value) (Q:VK),Inv X pins σ H s→RelV x v→r x H Q→
  wpAny (model X.prog X.w) X.A (f v) (EP X pins σ Q) X.xe s
noncomputable def CallR (X:Cx) (f:Value) (r:List V→Hp→VK→Prop):Prop:=
 ∀(pins:List (Addr×Obj)) (s:Shared) (σ:St) (H:Hp) (xs:List V) (us:List Value) (Q:VK),Inv X pins σ H s→Vals xs us→r xs H Q→
  wpAny (model X.prog X.w) X.A (call f us) (EP X pins σ Q) X.xe s
noncomputable def zzz (X:Cx) (r:V→Hp→(Bool→Hp→Prop)→Prop):Prop:=
 ∀(pins:List (Addr×Obj)) (s:Shared) (σ:St) (H:Hp) (x:V) (v:Value) (Q:Bool→Hp→Prop),Inv X pins σ H s→RelV x v→r x H Q→
  wpAny (model X.prog X.w) X.A (truthy v) (TP X pins σ Q) X.xe s
noncomputable def tOp (r:R2) (ta tb:TE):TE:=fun σ H Q=>ta σ H fun x H1=>tb σ H1 fun y H2=>r x y H2 Q
noncomputable def tUn (r:V→Hp→VK→Prop) (ta:TE):TE:=fun σ H Q=>ta σ H fun x H1=>r x H1 Q
noncomputable def rI (C:Int→Int→Prop) (g:Int→Int→V):R2:=fun x y H Q=>∃i j,x= .int i∧y= .int j∧C i j∧Q (g i j) H
noncomputable def rI0 (g:Int→Int→V):R2:=fun x y H Q=>∃i j,x= .int i∧y= .int j∧Q (g i j) H
noncomputable def rU (g:Int→V):V→Hp→VK→Prop:=fun x H Q=>∃i,x= .int i∧Q (g i) H
section
variable {X:Cx}{a b:Expr}{ta tb:TE}{pos:Pos}
theorem zxw (ha:PE X a ta) (hb:PE X b tb) {pins:List (Addr×Obj)}{s:Shared}{σ:St}{H:Hp}{R:V→V→Hp→Prop}(I:Inv X pins σ H s)
  (h:ta σ H fun x H1=>tb σ H1 fun y H2=>R x y H2) {Q:Value→Shared→Prop}{f:Value→Value→Sem Value}
  (hf:∀v u s2 x y H2,Inv X pins σ H2 s2→RelV x v→RelV y u→R x y H2→wpAny (model X.prog X.w) X.A (f v u) Q X.xe s2) :
  wpAny (model X.prog X.w) X.A (eval a X.env) (fun v s₁=>wpAny (model X.prog X.w) X.A (eval b X.env) (fun u s₂=>wpAny (model X.prog X.w) X.A (f v u) Q X.xe s₂) X.xe s₁) X.xe s:=by
 refine thn (ha pins s σ H _ I h) fun v s1 ⟨x,H1,I1,r1,q1⟩=>?_;refine thn (hb pins s1 σ H1 _ I1 q1) fun u s2 ⟨y,H2,I2,r2,q2⟩=>?_;exact hf v u s2 x y H2 I2 r1 r2 q2
theorem zoj{op:Operator}{r:R2}(ho:OpR X (binaryOp op) r) (ha:PE X a ta) (hb:PE X b tb):PE X (.BinOp a op b pos) (tOp r ta tb):=by
 intro pins s σ H Q I h;exact wpAny_BinOp (zxw ha hb I h fun v u s2 x y H2 I2 rx ry q=>ho pins s2 σ H2 x y v u Q I2 rx ry q)
theorem zxb{op:UnaryOp}{r:V→Hp→VK→Prop}(ho:UnR X (unaryOp op) r) (ha:PE X a ta):PE X (.UnaryOp op a pos) (tUn r ta):=by
 intro pins s σ H Q I h;exact UnaryOp_ (thn (ha pins s σ H _ I h) fun v s1 ⟨x,H1,I1,r1,q1⟩=>ho pins s1 σ H1 x v Q I1 r1 q1)
theorem opI{f:Value→Value→Sem Value}{C:Int→Int→Prop}{g:Int→Int→Int}
  (rule:∀(i j:Int) (t u:Tok) (s:Shared) (Q:Value→Shared→Prop) (E:Value→Shared→Prop),C i j→Q (.int (g i j) s.toks) { s with toks:=s.toks+1 }→wpAny (model X.prog X.w) X.A (f (.int i t) (.int j u)) Q E s) :
  OpR X f (rI C fun i j=> .int (g i j)):=by
 intro pins s σ H x y v u Q I rx ry h;obtain⟨i,j,rfl,rfl,hc,q⟩:=h;obtain⟨t,rfl⟩:=rx;obtain⟨t',rfl⟩:=ry;exact rule i j t t' s _ _ hc ⟨.int (g i j),H,I.tok _,⟨_,rfl⟩,q⟩
theorem zyO{f:Value→Value→Sem Value}{g:Int→Int→Int}
  (rule:∀(i j:Int) (t u:Tok) (s:Shared) (Q:Value→Shared→Prop) (E:Value→Shared→Prop),Q (.int (g i j) s.toks) { s with toks:=s.toks+1 }→wpAny (model X.prog X.w) X.A (f (.int i t) (.int j u)) Q E s) :
  OpR X f (rI0 fun i j=> .int (g i j)):=by
 intro pins s σ H x y v u Q I rx ry h;obtain⟨i,j,rfl,rfl,q⟩:=h;obtain⟨t,rfl⟩:=rx;obtain⟨t',rfl⟩:=ry;exact rule i j t t' s _ _ ⟨.int (g i j),H,I.tok _,⟨_,rfl⟩,q⟩
theorem zwV{f:Value→Value→Sem Value}{g:Int→Int→Bool}
  (rule:∀(i j:Int) (t u:Tok) (s:Shared) (Q:Value→Shared→Prop) (E:Value→Shared→Prop),Q (.bool (g i j)) s→wpAny (model X.prog X.w) X.A (f (.int i t) (.int j u)) Q E s) :
  OpR X f (rI0 fun i j=> .bl (g i j)):=by
 intro pins s σ H x y v u Q I rx ry h;obtain⟨i,j,rfl,rfl,q⟩:=h;obtain⟨t,rfl⟩:=rx;obtain⟨t',rfl⟩:=ry;exact rule i j t t' s _ _ ⟨.bl (g i j),H,I,rfl,q⟩
noncomputable def ziZ (i j:Int):Prop:=0<j∧j<1073741824
noncomputable def zxU (i j:Int):Prop:=0≤j∧j≤1000000∧i.natAbs<2 ^ 64
noncomputable def CMul (i j:Int):Prop:=(-(2 ^ 64)<i∧i<2 ^ 64)∨(-(2 ^ 64)<j∧j<2 ^ 64)
theorem CMul.ok{i j:Int}(h:CMul i j):IntMulOk i j:=by
 rcases h with⟨h1,h2⟩ |⟨h1,h2⟩
 ·exact .of_left (intBits_le_64 h1 h2)
 ·exact .of_right (intBits_le_64 h1 h2)
theorem op_add:OpR X (binaryOp .Add) (rI0 fun i j=> .int (i+j)):=zyO fun _ _ _ _ _ _ _ q=>add_int q
theorem zwm:OpR X (binaryOp .Sub) (rI0 fun i j=> .int (i - j)):=zyO fun _ _ _ _ _ _ _ q=>sub_int q
theorem zvm:OpR X (binaryOp .Mult) (rI CMul fun i j=> .int (i*j)):=opI fun _ _ _ _ _ _ _ hc q=>mul_int q hc.ok
theorem zsL:OpR X (binaryOp .FloorDiv) (rI ziZ fun i j=> .int (i / j)):=opI fun i j _ _ _ _ _ hc q=>by
 have h1:(0:Int)<j:=hc.1;have h2:j<1073741824:=hc.2;exact floordiv_int (by omega) (by rw [Int.fdiv_eq_ediv_of_nonneg i (by omega)];exact q) (.inl (PyProof.noPylong_small (by omega)))
theorem zwr:OpR X (binaryOp .Mod) (rI (fun _ j=>0<j) fun i j=> .int (i % j)):=opI fun i j _ _ _ _ _ hc q=>by
 have h1:(0:Int)<j:=hc;exact mod_int' (by omega) (by rw [Int.fmod_eq_emod_of_nonneg i (by omega)];exact q)
theorem zwl:OpR X (binaryOp .Pow) (rI zxU fun i j=> .int (i ^ j.toNat)):=opI fun _ _ _ _ _ _ _ hc q=>pow_int_small hc.1 hc.2.1 hc.2.2 q
theorem unI{f:Value→Sem Value}{g:Int→Int}
  (rule:∀(i:Int) (t:Tok) (s:Shared) (Q:Value→Shared→Prop) (E:Value→Shared→Prop),Q (.int (g i) s.toks) { s with toks:=s.toks+1 }→wpAny (model X.prog X.w) X.A (f (.int i t)) Q E s) :
  UnR X f (rU fun i=> .int (g i)):=by
 intro pins s σ H x v Q I rx h;obtain⟨i,rfl,q⟩:=h;obtain⟨t,rfl⟩:=rx;exact rule i t s _ _ ⟨.int (g i),H,I.tok _,⟨_,rfl⟩,q⟩
theorem zwO:UnR X (unaryOp .USub) (rU fun i=> .int (-i)):=unI fun _ _ _ _ _ q=>neg_int q
end
section
variable {X:Cx}{a b c:Expr}{ta tb:TE}{pos:Pos}
theorem zmg{pins:List (Addr×Obj)}{σ:St}{H:Hp}{s:Shared}{Q:VK}{k k':Bool}(I:Inv X pins σ H s) (q:Q (.bl k) H) (e:k=k'):EP X pins σ Q (.bool k') s:=by
 subst e;exact⟨.bl k,H,I,rfl,q⟩
theorem zxO:OpR X (compareOp .Lt) (rI0 fun i j=> .bl (decide (i<j))):=zwV fun _ _ _ _ _ _ _ q=>lt_int q
theorem op_le:OpR X (compareOp .LtE) (rI0 fun i j=> .bl (decide (i≤j))):=zwV fun _ _ _ _ _ _ _ q=>le_int q
theorem zxY:OpR X (compareOp .Gt) (rI0 fun i j=> .bl (decide (j<i))):=zwV fun _ _ _ _ _ _ _ q=>gt_int q
theorem zyB:OpR X (compareOp .GtE) (rI0 fun i j=> .bl (decide (j≤i))):=zwV fun _ _ _ _ _ _ _ q=>ge_int q
theorem op_isN:OpR X (compareOp .Is) (fun x y H Q=>y= .non∧Q (.bl (decide (x= .non))) H):=by
 intro pins s σ H x y v u Q I rx ry h;obtain⟨rfl,q⟩:=h;cases ry;refine is_none_gen (zmg I q ?_);cases x<;>first
  | (cases rx;rfl)
  | (obtain⟨t,rfl⟩:=rx;rfl)
theorem op_notN:OpR X (compareOp .IsNot) (fun x y H Q=>y= .non∧Q (.bl (!decide (x= .non))) H):=by
 intro pins s σ H x y v u Q I rx ry h;obtain⟨rfl,q⟩:=h;cases ry;refine isnot_none_gen (zmg I q ?_);cases x<;>first
  | (cases rx;rfl)
  | (obtain⟨t,rfl⟩:=rx;rfl)
theorem op_notin_str:OpR X (compareOp .NotIn) (fun x y H Q=>∃i j,x= .str i∧y= .str j∧Q (.bl (!(!(Builtin.Str.occurrences j i 0 j.length 1).isEmpty))) H):=by
 intro pins s σ H x y v u Q I rx ry h;obtain⟨i,j,rfl,rfl,q⟩:=h;obtain⟨t,rfl⟩:=rx;obtain⟨t',rfl⟩:=ry;exact notIn_str (zmg I q rfl)
theorem OpR.or{f:Value→Value→Sem Value}{r r':R2}(h:OpR X f r) (h':OpR X f r'):OpR X f (fun x y H Q=>r x y H Q∨r' x y H Q):=by
 intro pins s σ H x y v u Q I rx ry q;rcases q with q |q
 ·exact h pins s σ H x y v u Q I rx ry q
 ·exact h' pins s σ H x y v u Q I rx ry q
theorem nomark (b:Expr) {op:CmpOp}(h:op≠ .In:=by decide) (h2:op≠ .NotIn:=by decide):behindInMarks op b=false:=by
 have e1:(op == CmpOp.In)=false:=by cases op<;>first |rfl |exact absurd rfl h
 have e2:(op == CmpOp.NotIn)=false:=by cases op<;>first |rfl |exact absurd rfl h2
 cases b<;>simp [behindInMarks,e1,e2]
theorem zuf{op:CmpOp}{r:R2}(ho:OpR X (compareOp op) r) (ha:PE X a ta) (hb:PE X b tb) (hm:behindInMarks op b=false):PE X (.Compare a [op] [b] pos) (tOp r ta tb):=by
 intro pins s σ H Q I h;exact wpAny_Compare1 (zxw ha hb I h fun v u s2 x y H2 I2 rx ry q=>ho pins s2 σ H2 x y v u Q I2 rx ry q) hm
noncomputable def zyz (t:TE):TT:=fun σ H Q=>t σ H fun x H'=>∃k,x= .bl k∧Q k H'
theorem zti{op:CmpOp}{r:R2}(ho:OpR X (compareOp op) r) (ha:PE X a ta) (hb:PE X b tb) (hm:behindInMarks op b=false):PT X (.Compare a [op] [b] pos) (zyz (tOp r ta tb)):=by
 intro pins s σ H Q I h;refine wpAny_isTrue_Compare1 (thn (ha pins s σ H _ I h) fun v s1 ⟨x,H1,I1,r1,q1⟩=>thn (hb pins s1 σ H1 _ I1 q1) fun u s2 ⟨y,H2,I2,r2,q2⟩=>
  thn (ho pins s2 σ H2 x y v u _ I2 r1 r2 q2) fun c s3 ⟨z,H3,I3,r3,k,e,q3⟩=>?_) hm
 subst e;cases r3;exact wpAny_truthy_bool ⟨H3,I3,q3⟩
noncomputable def zyJ (K:PySem.W.Frag) (x:V) (H:Hp) (k:Bool):Prop:=
 match x with
 | .non=>k=false
 | .bl b=>k=b
 | .int i=>k=(i != 0)
 | .str y=>y.length≤sizeLine∧k=((y.length:Int) != 0)
 | .byt y=>y.size≤sizeLine∧k=((y.size:Int) != 0)
 | .ref p=>(∃xs,SqL K H p xs∧k= !xs.isEmpty)∨(∃xs,SqT K H p xs∧k= !xs.isEmpty)∨ ∃kvs,H p=some (.dK kvs)∧k= !kvs.isEmpty
 |_=>False
theorem zny{κ:Type}{kvs:List (κ×V)}{vs:List (κ×Value)}(r:KV kvs vs):(!vs.isEmpty)= !kvs.isEmpty:=by
 cases r<;>rfl
theorem zia{xs:List V}{its:List Value}(r:Vals xs its):(!its.toArray.isEmpty)= !xs.isEmpty:=by
 cases r<;>simp
theorem zhL:(sizeLine:Nat)<2 ^ 63:=by rw [sizeLine_eq];decide
theorem zwL:zzz X (fun x H Q=>∃k,zyJ X.K x H k∧Q k H):=by
 intro pins s σ H x v Q I rx h;obtain⟨k,e,q⟩:=h;have hl:=zhL;have hs:sizeLine=16777216:=sizeLine_eq;cases x with
 |non=>
  cases rx;have e':k=false:=e;subst e';exact truthy_none ⟨H,I,q⟩
 |bl b=>
  cases rx;have e':k=b:=e;subst e';exact wpAny_truthy_bool ⟨H,I,q⟩
 |int i=>
  obtain⟨t,rfl⟩:=rx;have e':k=(i != 0):=e;subst e';exact PySem.P.truthy_int ⟨H,I,q⟩
 |str y=>
  obtain⟨t,rfl⟩:=rx;obtain⟨hy,e'⟩:y.length≤sizeLine∧k=((y.length:Int) != 0):=e;subst e';exact PySem.P.truthy_str (by omega) ⟨H,I.tok _,q⟩
 |byt y=>
  obtain⟨t,rfl⟩:=rx;obtain⟨hy,e'⟩:y.size≤sizeLine∧k=((y.size:Int) != 0):=e;subst e';exact PySem.W.truthy_bytes (by omega) ⟨H,I.tok _,q⟩
 |ref p=>
  cases rx;have e':(∃xs,SqL X.K H p xs∧k= !xs.isEmpty)∨(∃xs,SqT X.K H p xs∧k= !xs.isEmpty)∨ ∃kvs,H p=some (.dK kvs)∧k= !kvs.isEmpty:=e;rcases e' with⟨xs,hx,e'⟩ |⟨xs,hx,e'⟩ |⟨kvs,hx,e'⟩
  ·subst e';obtain⟨its,r,pl,hz⟩:=I.list hx;have hlen:=r.length;exact wpAny_truthy_list pl.isList (by simp only[List.size_toArray];omega) ⟨H,I.tok _,by rw [zia r];exact q⟩
  ·subst e';obtain⟨its,r,pl,hz⟩:=I.tuple hx;have hlen:=r.length;exact truthy_tuple pl (by simp only[List.size_toArray];omega) ⟨H,I.tok _,by rw [zia r];exact q⟩
  ·subst e';obtain⟨hz,hS,vs,r,m⟩:kvs.length≤sizeLine∧(p == sysModules)=false∧ ∃vs,KV kvs vs∧s.heap.DictOf (zbs X.prog X.w) p vs:=I.hok p _ hx;have hlen:kvs.length=vs.length:=Paired.length r;exact wpAny_truthy_dict hS m (by omega) ⟨H,I.tok _,by rw [zny r];exact q⟩
 |_=>exact(show False from e).elim
theorem zrc (ha:PE X a ta) (he:∀whole,isTrue a X.env whole=(do let v ←whole;standAt a.pos;holding [v] (truthy v))) :
  PT X a (fun σ H Q=>ta σ H fun x H'=>∃k,zyJ X.K x H' k∧Q k H'):=by
 intro pins s σ H Q I h;exact isTrue_plain (thn (ha pins s σ H _ I h) fun v s1 ⟨x,H1,I1,r1,q1⟩=>zwL pins s1 σ H1 x v Q I1 r1 q1) (he _)
theorem op_add_str:OpR X (binaryOp .Add) (fun x y H Q=>∃i j,x= .str i∧y= .str j∧i.length+j.length≤sizeLine∧Q (.str (i++j)) H):=by
 intro pins s σ H x y v u Q I rx ry h;obtain⟨i,j,rfl,rfl,hz,q⟩:=h;obtain⟨t,rfl⟩:=rx;obtain⟨t',rfl⟩:=ry;exact add_str (fun t' tk=>⟨.str (i++j),H,I.tok _,⟨_,rfl⟩,q⟩) hz
theorem ziD{x:V}{us:List Value}(r:Vals [x] us):∃u,us=[u]∧RelV x u:=by
 cases r with
 |cons r1 r2=>cases r2;exact⟨_,rfl,r1⟩
theorem zwM{x y:V}{us:List Value}(r:Vals [x,y] us):∃u w',us=[u,w']∧RelV x u∧RelV y w':=by
 cases r with
 |cons r1 r2=>
  cases r2 with
  |cons r3 r4=>cases r4;exact⟨_,_,rfl,r1,r3⟩
theorem zoo (hc:X.calm=true):CallR X (.builtin "min") (fun xs H Q=>∃i j,xs=[.int i, .int j]∧Q (.int (if j<i then j else i)) H):=by
 intro pins s σ H xs us Q I r h;obtain⟨i,j,rfl,q⟩:=h;obtain⟨u,w',rfl,⟨t,rfl⟩,⟨t',rfl⟩⟩:=zwM r;refine min_two_ints (I.ok.hd hc) fun h' tk k=>⟨_,H,I.kept k,?_,q⟩;by_cases hj:j<i
 ·rw [if_pos hj,if_pos hj];exact⟨_,rfl⟩
 ·rw [if_neg hj,if_neg hj];exact⟨_,rfl⟩
theorem zpW:CallR X (.type "int") (fun xs H Q=>(∃i,xs=[.int i]∧Q (.int i) H)∨ ∃k,xs=[.bl k]∧Q (.int (if k then 1 else 0)) H):=by
 intro pins s σ H xs us Q I r h;rcases h with⟨i,rfl,q⟩ |⟨k,rfl,q⟩
 ·obtain⟨u,rfl,t,rfl⟩:=ziD r;exact call_int_int ⟨.int i,H,I,⟨_,rfl⟩,q⟩
 ·obtain⟨u,rfl,r1⟩:=ziD r;cases r1;exact call_int_bool ⟨.int (if k then 1 else 0),H,I.tok _,⟨_,rfl⟩,q⟩
end
structure ObjM (h:Heap) (x dx C:Addr) (mA:Str→Option Value):Prop where
  obj:h.get? x=some (PySem.W.instObj C dx)
  ns:h.Ns1 dx mA
  ne:dx≠x
theorem zoz{h:Heap}{dx:Addr}{mA:Str→Option Value}(n:h.Ns1 dx mA):∃od,h.get? dx=some od∧ ∀name,PySem.W.lookIn name od=some (mA name):=by
 obtain⟨o,es,ep,ho,hd,hk,_,hm⟩:=n;refine⟨o,ho,fun name=>?_⟩;have e:=hm name;unfold nsFind findBy at e;rw [←Array.find?_toList]at e;unfold PySem.W.lookIn;rw [hd];dsimp only;split
 ·rename_i y q;rw [q]at e;exact congrArg some e
 ·rename_i q;rw [q]at e;have a:es.toList.any (·.refKey)=false:=by
   rw [List.any_eq_false];intro y hy;obtain⟨z,t,hkey⟩:=hk y (Array.mem_toList_iff.mp hy);simp [DictEntry.refKey,hkey]
  have a':¬es.toList.any (·.refKey)=true:=by rw [a];exact Bool.false_ne_true
  rw [if_neg a'];exact congrArg some e
theorem ObjM.look{h:Heap}{x dx C:Addr}{mA:Str→Option Value}(I:ObjM h x dx C mA):∃od,PySem.W.InstAt h x (PySem.W.instObj C dx) C (some od)∧ ∀name,PySem.W.lookIn name od=some (mA name):=
 let ⟨od,ho,hl⟩:=zoz I.ns
 ⟨od,⟨I.obj,rfl,rfl,ho⟩,hl⟩
section
variable {P:Program}{w:World}{H:Hp}{h:Heap}{a C dx:Addr}{fs:List (Str×V)}
theorem zte (hok:HOk P w H h) (e:H a=some (.ins C dx fs)):∃mA,ObjM h a dx C mA∧(∀f,RelO (fs.lookup f) (mA f))∧PySem.Within mA (fs.map (·.1))∧fs.length≤1000∧H dx=some (.own a):=by
 obtain⟨d,z,ne,ob,mA,n,r,q⟩:=(show ObjOk P w H h a (.ins C dx fs) from hok a _ e);exact⟨mA,⟨ob,n,ne⟩,r,q,z,d⟩
end
structure Cls (K:PySem.W.Frag) (C:Addr):Prop where
  pg:PySem.W.plainGet K C Str.empty=true
  hd:PySem.W.hasDictIn K C=true
  po:PySem.W.plainOver K C=true
  sa:PySem.W.findIn K (.ref C) "__setattr__" =some (some (.builtin "object.__setattr__"))
theorem Cls.get{K:PySem.W.Frag}{C:Addr}(c:Cls K C) (f:Str):PySem.W.plainGet K C f=true:=c.pg
section
variable {X:Cx}{pins:List (Addr×Obj)}{σ:St}{H:Hp}{s:Shared}{A:Around}{E:Value→Shared→Prop}{Q:Value→Shared→Prop}{c:Value}{b:Bool}
inductive TyOf (K:PySem.W.Frag) (H:Hp):V→Value→Prop where
  |non:TyOf K H .non (.type "NoneType")
  |bl (x:Bool):TyOf K H (.bl x) (.type "bool")
  |int (i:Int):TyOf K H (.int i) (.type "int")
  |str (x:Str):TyOf K H (.str x) (.type "str")
  |flt (x:UInt64):TyOf K H (.flt x) (.type "float")
  |lst {a:Addr}{xs:List V}(e:H a=some (.lst xs)):TyOf K H (.ref a) (.type "list")
  |frz {a:Addr}{o:Obj}{xs:List V}(e:H a=some (.frz o (.lst xs))):TyOf K H (.ref a) (.type "list")
  |tup {a:Addr}{xs:List V}(e:H a=some (.tup xs)):TyOf K H (.ref a) (.type "tuple")
  |dK {a:Addr}{kvs:List (Key×V)}(e:H a=some (.dK kvs)):TyOf K H (.ref a) (.type "dict")
  |dT {a:Addr}{kvs:List (List Key×V)}(e:H a=some (.dT kvs)):TyOf K H (.ref a) (.type "dict")
  |ins {a C dx:Addr}{fs:List (Str×V)}(e:H a=some (.ins C dx fs)) (cl:Cls K C) (ha:PySem.W.findIn K (.ref C) "__class__" =some (some (.builtin "object.__class__")))
      (hn:PySem.W.specialIn K (.builtin "object.__class__") "__get__" =some (some (.builtin "getset_descriptor.__get__"))) (htk:PySem.W.takesIn K (.builtin "object.__class__")=some true)
      (hm:PySem.W.mroIn K C (.type "object")=some true):TyOf K H (.ref a) (.ref C)
theorem zoA{x:V}{u t:Value}(I:Inv X pins σ H s) (rx:RelV x u) (ty:TyOf X.K H x t) (e:PySem.W.kitOne X.K t c=some b) (h:∀tk,Q (.bool b) { s with toks:=tk }) :
  wpAny (model X.prog X.w) A (call (.builtin "isinstance") [u,c]) Q E s:=by
 cases ty with
 |non=>cases(show u=Value.none from rx);exact PySem.W.kia_one PySem.W.kitx_none I.kIn True.intro e (fun z=>nomatch z) h
 |bl y=>cases(show u=Value.bool y from rx);exact PySem.W.kia_one PySem.W.kitx_bool I.kIn True.intro e (fun z=>nomatch z) h
 |int i=>obtain⟨t,q⟩:=(show ∃t,u=Value.int i t from rx);cases q;exact PySem.W.kia_one PySem.W.kitx_int I.kIn True.intro e (fun z=>nomatch z) h
 |str y=>obtain⟨t,q⟩:=(show ∃t,u=Value.str y t from rx);cases q;exact PySem.W.kia_one PySem.W.kitx_str I.kIn True.intro e (fun z=>nomatch z) h
 |flt y=>obtain⟨t,q⟩:=(show ∃t,u=Value.float y t from rx);cases q;exact PySem.W.kia_one PySem.W.kitx_float I.kIn True.intro e (fun z=>nomatch z) h
 | @lst a xs ea=>
  cases(show u=Value.ref a from rx);obtain⟨_,_,n,_,h1⟩:=(show ObjOk X.prog X.w H s.heap a (.lst xs) from I.hok a _ ea);exact PySem.W.kia_one PySem.W.kitx_list I.kIn ⟨_,h1,rfl⟩ e (fun z=>nomatch z) h
 | @frz a ob xs ea=>
  cases(show u=Value.ref a from rx);obtain⟨_,_,_,n,_,h1⟩:=(show ObjOk X.prog X.w H s.heap a (.frz ob (.lst xs)) from I.hok a _ ea);exact PySem.W.kia_one PySem.W.kitx_list I.kIn ⟨_,h1,rfl⟩ e (fun z=>nomatch z) h
 | @tup a xs ea=>
  cases(show u=Value.ref a from rx);obtain⟨_,_,_,p⟩:=(show ObjOk X.prog X.w H s.heap a (.tup xs) from I.hok a _ ea);obtain⟨o,h1,h2,_⟩:=p;exact PySem.W.kia_one PySem.W.kitx_tuple I.kIn ⟨o,h1,h2⟩ e (fun z=>nomatch z) h
 | @dK a kvs ea=>
  cases(show u=Value.ref a from rx);obtain⟨_,_,vs,_,p⟩:=(show ObjOk X.prog X.w H s.heap a (.dK kvs) from I.hok a _ ea);obtain⟨o,es,ep,h1,h2,_⟩:=p;exact PySem.W.kia_one PySem.W.kitx_dict I.kIn ⟨o,h1,h2.1⟩ e (fun z=>nomatch z) h
 | @dT a kvs ea=>
  cases(show u=Value.ref a from rx);obtain⟨_,_,xs,_,o,es,ep,h1,h2,_⟩:=(show ObjOk X.prog X.w H s.heap a (.dT kvs) from I.hok a _ ea);exact PySem.W.kia_one PySem.W.kitx_dict I.kIn ⟨o,h1,h2.1⟩ e (fun z=>nomatch z) h
 | @ins a C dx fs ea cl ha hn htk hm=>
  cases(show u=Value.ref a from rx);obtain⟨mA,O,_⟩:=zte I.hok ea;obtain⟨od,J,_⟩:=O.look;exact PySem.W.kia_one (PySem.W.kitx_own (cl.get _) cl.hd ha hn htk hm) I.kIn J e (fun z=>nomatch z) h
end
structure Room (k:Nat) (A:Around):Prop where
  hd:A.handled=none
  dp:A.depth+3*k+5<recursionLimit
  un:A.units+16*k+200<cLine
theorem Room.deeper{k:Nat}{A:Around}(r:Room (k+1) A) (env:Env):Room k (A.deeper env):=
 ⟨r.hd,by have:=r.dp;show A.depth+1+3*k+5<_;omega,by have:=r.un;show A.units+3+16*k+200<_;omega⟩
theorem Room.depth{k:Nat}{A:Around}(r:Room k A):A.depth<recursionLimit:=by have:=r.dp;omega
theorem Room.units{k:Nat}{A:Around}(r:Room k A):A.units+64<cLine:=by have:=r.un;omega
noncomputable def zzs:TA:=fun _ H Q=>Q [] H
noncomputable def zyi (ta:TE) (tr:TA):TA:=fun σ H Q=>ta σ H fun x H1=>tr σ H1 fun xs H2=>Q (x::xs) H2
section
variable {X:Cx}{e:Expr}{es:List Expr}{te:TE}{t:TA}{pos:Pos}
theorem pa_nil:PA X [] zzs:=fun _ _ _ _ H Q I h=>Calls.spliced_nil ⟨[],H,I, .nil,h⟩
theorem zdu (ha:PE X e te) (hr:PA X es t) (hs:starEach (e::es) X.env=(false,eval e X.env)::starEach es X.env:=by rfl):PA X (e::es) (zyi te t):=by
 intro pos pins s σ H Q I h;rw [hs];show wpAny _ _ (spliced ((false,eval e X.env)::backTo pos (starEach es X.env))) _ _ s;refine Calls.spliced_cons (thn (ha pins s σ H _ I h) fun u s1 ⟨x,H1,I1,r1,q1⟩=>?_);exact thn (hr pos pins s1 σ H1 _ I1 q1) fun us s2 ⟨xs,H2,I2,r2,q2⟩=>⟨x::xs,H2,I2, .cons r1 r2,q2⟩
noncomputable def zzf (t:TA):TE:=fun σ H Q=>t σ H fun xs H1=>xs.length≤sizeLine∧ ∀p,H1 p=none→Q (.ref p) (upd H1 p (.tup xs))
noncomputable def zyS (t:TA):TE:=fun σ H Q=>t σ H fun xs H1=>xs.length≤sizeLine∧ ∀p,H1 p=none→Q (.ref p) (upd H1 p (.lst xs))
theorem zwf{x1}(h:PA X es t):PE X (.Tuple es x1 pos) (zzf t):=by
 intro pins s σ H Q I hq;refine wpAny_Tuple_spliced (thn (h pos pins s σ H _ I hq) fun us s1 ⟨xs,H1,I1,r,z,q⟩=>⟨by rw [←r.length];exact z,?_⟩);have hf:H1 s1.heap.objs.size=none:=I1.hok.fresh (Nat.le_refl _);refine⟨.ref s1.heap.objs.size,upd H1 s1.heap.objs.size (.tup xs),I1.laid (t':=s1.toks) (fun b u e=>Heap.get?_push_of_some _ e) (Nat.le_refl _) ?_,rfl,q _ hf⟩;exact⟨z,us,r,⟨_,Heap.get?_push_size _ rfl,rfl,_,rfl⟩⟩
theorem zvu (h:PA X es t):PE X (.List es pos) (zyS t):=by
 intro pins s σ H Q I hq;refine wpAny_List_spliced (thn (h pos pins s σ H _ I hq) fun us s1 ⟨xs,H1,I1,r,z,q⟩=>⟨by rw [←r.length];exact z,?_⟩);have hf:H1 s1.heap.objs.size=none:=I1.hok.fresh (Nat.le_refl _);refine⟨.ref s1.heap.objs.size,upd H1 s1.heap.objs.size (.lst xs),I1.laid (t':=s1.toks) (fun b u e=>Heap.get?_push_of_some _ e) (Nat.le_refl _) ?_,rfl,q _ hf⟩;exact⟨z,us,0,r,Heap.get?_push_size _ rfl⟩
end
noncomputable abbrev Sp:=List V→Hp→VK→XK→Prop
noncomputable abbrev CXT:=List Env→Hp→Shared→XK→Value→Shared→Prop
structure Env0 (P:Program) (w:World) (K:PySem.W.Frag) (mg:Str→Option Value) (base:Heap) (A:Around) (outer:List Env) (s:Shared) (H:Hp):Prop where
  frames:A.frames=some outer
  mod:Mod K mg base
  bs:∀b o,base.get? b=some o→s.heap.get? b=some o∧H b=none
  bsz:base.objs.size≤s.heap.objs.size
  funs:s.heap.FunFrames base outer
  frf:∀b∈frs outer,H b=none
  hok:HOk P w H s.heap
  bare:AllBare s.gens
noncomputable def CE (outer:List Env) (P:Program) (w:World) (H:Hp) (s:Shared) (Q:VK) (u:Value) (s':Shared):Prop:=
 ∃v H',s'.os=s.os∧AllBare s'.gens∧Un (frs outer) [] H H' s.heap s'.heap∧HOk P w H' s'.heap∧RelV v u∧Q v H'
noncomputable def CR (CX:CXT) (outer:List Env) (P:Program) (w:World) (H:Hp) (s:Shared) (Q:VK) (E:XK) (r:Result) (s':Shared):Prop:=
 match r with
 | .ok (.ret u)=>CE outer P w H s Q u s'
 | .ok _=>False
 | .error e=>CX outer H s E e s'
structure FnOk (P:Program) (w:World) (K:PySem.W.Frag) (mg:Str→Option Value) (base:Heap) (CX:CXT) (k:Nat) (f:Addr) (fd:FuncData) (ps:List Str) (sp:Sp):Prop where
  len:∀vs H Q E,sp vs H Q E→vs.length=ps.length
  run:∀(A:Around) (outer:List Env) (s:Shared) (H:Hp) (args:Args) (us:List Value) (vs:List V) (Q:VK) (E:XK),Room k A→Env0 P w K mg base A outer s H→BindsTo s fd args (ps.zip us)→Vals vs us→sp vs H Q E→
    codeAny (model P w) A (.call (.ref f) args) (CR CX outer P w H s Q E) s
section
variable {X:Cx}{pins:List (Addr×Obj)}{σ:St}{H:Hp}{s s':Shared}
theorem Inv.env0 (I:Inv X pins σ H s):Env0 X.prog X.w X.K X.mg X.base X.A X.stack s H:=
 ⟨I.ok.frames,I.ok.mod,I.bs,Nat.le_trans I.ok.bsz I.sz,I.stack,I.stkFree,I.hok,I.bare⟩
theorem Inv.after{Q:VK}{u:Value}(I:Inv X pins σ H s) (h:CE X.stack X.prog X.w H s Q u s'):EP X pins σ Q u s':=by
 obtain⟨v,H',os,bare,un,hok,r,q⟩:=h;obtain⟨hh,g,d,t,os'⟩:=s';obtain rfl:os'=s.os:=os;exact⟨v,H',I.call (h':=hh) (g':=g) (d':=d) (t':=t) (ch:=[]) un hok bare (fun b z=>absurd z (by simp)),r,q⟩
end
noncomputable def zyD (sp:Sp) (dvs:List V) (E:XK) (t:TA):TE:=fun σ H Q=>t σ H fun vs H1=>sp (vs++dvs) H1 Q E
noncomputable def Binds (K:PySem.W.Frag) (fd:FuncData) (ps:List Str) (ds:List Value):Prop:=
 ∀(s:Shared) (us:List Value),K.In s.heap→(us++ds).length=ps.length→BindsTo s fd ⟨us,[]⟩ (ps.zip (us++ds))
theorem Binds.all{K:PySem.W.Frag}{fd:FuncData}{ps:List Str}(h:∀us:List Value,us.length=ps.length→bindArgs fd ⟨us,[]⟩=pure (ps.zip us)):Binds K fd ps []:=fun s us _ hl=>by
 rw [List.append_nil]at hl⊢;exact .of_eq (h us hl)
noncomputable def zoT (CX:CXT) (X:Cx) (E:XK):Prop:=∀(pins:List (Addr×Obj)) (σ:St) (H:Hp) (s:Shared) (e:Value) (s':Shared),Inv X pins σ H s→CX X.stack H s E e s'→X.xe e s'
section
variable {X:Cx}{CX:CXT}{k:Nat}{f:Addr}{fd:FuncData}{ps:List Str}{sp:Sp}{dvs:List V}{ds:List Value}{E:XK}{x:Str}{p pos:Pos}{e:Expr}{es:List Expr}{t:TA}
theorem zwB{pins:List (Addr×Obj)}{σ:St}{H:Hp}{s:Shared}{Q:VK}{us:List Value}{vs:List V}(F:FnOk X.prog X.w X.K X.mg X.base CX k f fd ps sp) (hr:Room k X.A) (hb:Binds X.K fd ps ds) (hd:Vals dvs ds) (hx:zoT CX X E)
  (I:Inv X pins σ H s) (r:Vals vs us) (h:sp (vs++dvs) H Q E):wpAny (model X.prog X.w) X.A (call (.ref f) us) (EP X pins σ Q) X.xe s:=by
 have r2:Vals (vs++dvs) (us++ds):=r.append hd;have hl:(us++ds).length=ps.length:=by rw [←r2.length];exact F.len _ _ _ _ h
 refine wpAny_call (codeAny_mono (F.run X.A X.stack s H ⟨us,[]⟩ (us++ds) (vs++dvs) Q E hr I.env0 (hb s us I.kIn hl) r2 h) fun r s' hq=>?_);cases r with
 |error e=>exact hx pins σ H s e s' I hq
 |ok fl=>
  cases fl with
  |ret u=>exact I.after hq
  |next=>exact False.elim hq
  |brk=>exact False.elim hq
  |cont=>exact False.elim hq
theorem zsy (F:FnOk X.prog X.w X.K X.mg X.base CX k f fd ps sp) (hr:Room k X.A) (hg:Gl X x) (hm:X.mg x=some (.ref f)) (hk:PySem.W.keepIn X.K (.ref f)=true) (hb:Binds X.K fd ps ds) (hd:Vals dvs ds) (hx:zoT CX X E)
  (ha:PA X (e::es) t) (hdb:(x == ("__debug__" :Str))=false:=by decide) (he:starEach (e::es) X.env=(false,eval e X.env)::starEach es X.env:=by rfl) (hpl:(backTo pos (starEach es X.env)).any (·.1)=false:=by rfl) :
  PE X (.Call (.Name x p) (e::es) [] pos) (zyD sp dvs E t):=by
 intro pins s σ H Q I h;refine wpAny_Call_Name_kw (zoy I hg hm ?_ hdb);refine PySem.W.callWith_K (h₀:=X.base) I.ok.mod.kin hk (thn (ha pos pins s σ H _ I h) fun us s1 ⟨vs,H1,I1,r,q⟩=>⟨I1.kIn,?_⟩) he hpl;exact zwB F hr hb hd hx I1 r q
end
structure FnScope (N P:List Str) (sc:Scope):Prop where
  kind:sc.kind= .function
  co:sc.isCoroutine=false
  gen:sc.isGenerator=false
  nd:N.Nodup
  pre:N.take P.length=P
  par:∀x∈P,sc.names.lookup x=some .local∨sc.names.lookup x=some .cell
  nofree:∀y∈sc.names,y.2≠ .free
theorem zkg{kindOf:Str→Option NameKind}{x:Str}:∀{binds:List (Str×Value)}{m:Str→Option Value},(∀v,(x,v)∉binds)→bindL kindOf binds m x=m x
 | [],_,_=>rfl
 | (n,v)::r,m,h=>by
  unfold bindL;rw [zkg fun w hw=>h w (List.mem_cons_of_mem _ hw)];split
  ·have:x≠n:=by rintro rfl;exact h v List.mem_cons_self
   simp [this]
  ·rfl
theorem zjK{kindOf:Str→Option NameKind}{x:Str}:∀{binds:List (Str×Value)}{m:Str→Option Value},(∀v,(x,v)∉binds)→bindC kindOf binds m x=m x
 | [],_,_=>rfl
 | (n,v)::r,m,h=>by
  unfold bindC;rw [zjK fun w hw=>h w (List.mem_cons_of_mem _ hw)];split
  ·rfl
  ·have:x≠n:=by rintro rfl;exact h v List.mem_cons_self
   simp [this]
theorem zjT{kindOf:Str→Option NameKind}{x:Str}{v:Value}:∀{P:List Str}{vs:List Value}{i:Nat}{m:Str→Option Value},P.Nodup→P[i]? =some x→vs[i]? =some v→kindOf x=some .local→
  bindL kindOf (P.zip vs) m x=some v
 | [],_,_,_,_,h,_,_=>by simp at h
 |_::_,[],_,_,_,_,h,_=>by simp at h
 |p::P,w::vs,0,m,nd,h1,h2,hk=>by
  simp at h1 h2;subst h1;subst h2;show bindL kindOf ((p,w)::P.zip vs) m p=_;unfold bindL;rw [zkg fun v hv=>(List.nodup_cons.mp nd).1 (List.of_mem_zip hv).1,if_pos hk];simp
 |p::P,w::vs,i+1,m,nd,h1,h2,hk=>by
  show bindL kindOf ((p,w)::P.zip vs) m x=_;unfold bindL;exact zjT (i:=i) (List.nodup_cons.mp nd).2 (by simpa using h1) (by simpa using h2) hk
theorem zkv{kindOf:Str→Option NameKind}{x:Str}{v:Value}:∀{P:List Str}{vs:List Value}{i:Nat}{m:Str→Option Value},P.Nodup→P[i]? =some x→vs[i]? =some v→kindOf x≠some .local→
  bindC kindOf (P.zip vs) m x=some v
 | [],_,_,_,_,h,_,_=>by simp at h
 |_::_,[],_,_,_,_,h,_=>by simp at h
 |p::P,w::vs,0,m,nd,h1,h2,hk=>by
  simp at h1 h2;subst h1;subst h2;show bindC kindOf ((p,w)::P.zip vs) m p=_;unfold bindC;rw [zjK fun v hv=>(List.nodup_cons.mp nd).1 (List.of_mem_zip hv).1,if_neg hk];simp
 |p::P,w::vs,i+1,m,nd,h1,h2,hk=>by
  show bindC kindOf ((p,w)::P.zip vs) m x=_;unfold bindC;exact zkv (i:=i) (List.nodup_cons.mp nd).2 (by simpa using h1) (by simpa using h2) hk
noncomputable def start (N:List Str) (vs:List V):St:=vs.map some++List.replicate (N.length - vs.length) none
noncomputable def ztt (CX:CXT) (P:Program) (w:World) (K:PySem.W.Frag) (mg:Str→Option Value) (base:Heap) (N:List Str) (qual:Str) (scope:Scope) (f:Addr) (cd:Value) (A:Around) (outer:List Env) (s:Shared) (H:Hp) (E:XK):Cx where
  prog:=P
  w:=w
  K:=K
  mg:=mg
  base:=base
  A:=A.deeper (envOfC qual scope s.heap.objs.size f cd)
  N:=N
  s₀:=s
  H₀:=H
  env:=envOfC qual scope s.heap.objs.size f cd
  outer:=outer
  stack:=envOfC qual scope s.heap.objs.size f cd::outer
  ex:=[]
  calm:=true
  fn:=fun _=>true
  pn:=[]
  xe:=fun e s'=>wpAny (model P w) (A.deeper (envOfC qual scope s.heap.objs.size f cd)) (leaving (envOfC qual scope s.heap.objs.size f cd) e) (fun _ s''=>CX outer H s E e s'') (fun e' s''=>CX outer H s E e' s'') s'
theorem zlL{sc:Scope}{n:Nat}{x:Str}(h:sc.names.lookup x=some .cell):∃c,(cellsFrom n sc.names []).lookup x=some c:=by
 have q:=PySem.W.cellsFrom_some sc.names n [] (.inl h);exact Option.isSome_iff_exists.mp q
theorem zpv{CX:CXT}{P:Program}{w:World}{K:PySem.W.Frag}{mg:Str→Option Value}{base:Heap}{N ps:List Str}{qual:Str}{scope:Scope}{f:Addr}{cd:Value}{A:Around}{outer:List Env}{s s1:Shared}{H:Hp}{E:XK}{us:List Value}{vs:List V}
  (S:FnScope N ps scope) (hd:A.handled=none) (e0:Env0 P w K mg base A outer s H) (hl:vs.length=ps.length) (r:Vals vs us)
  (x:InCallC s s.heap.objs.size (bindL (envOfC qual scope s.heap.objs.size f cd).kindOf (ps.zip us) fun _=>none) (cellsFrom (s.heap.objs.size+1) scope.names []) (bindC (envOfC qual scope s.heap.objs.size f cd).kindOf (ps.zip us) fun _=>none) s1) :
  Inv (ztt CX P w K mg base N qual scope f cd A outer s H E) [] (start N vs) H s1:=by
 have hpl:ps.length≤N.length:=by have:=congrArg List.length S.pre;rw [List.length_take]at this;omega
 obtain⟨h1,tk,rfl,hk⟩:=x.done;have noA:∀b:Addr,b∉(ztt CX P w K mg base N qual scope f cd A outer s H E).ex:=fun b z=>absurd (show b∈([]:List Addr) from z) (by simp);refine⟨⟨e0.mod,S.kind,rfl,rfl,Nat.le_refl _,fun y z c h1 h2=>?_,fun y hy=>?_,fun y c _ h=>?_,fun _=>hd,Around.frames_deeper e0.frames, .inr ⟨rfl,rfl⟩,fun b z=>absurd z (noA b),e0.bs,e0.bsz,fun b _ _=>noA b,fun b z=>absurd z (noA b),e0.funs,e0.frf⟩,
  rfl,e0.bare,Un.kept hk,⟨_,x.toInCall.ns,fun i y v h1 h2 h3=>?_⟩,fun y c h=>⟨_,x.cell y c h⟩,e0.hok.fresh (Nat.le_refl _),fun y c h=>?_,fun p hp=>absurd (show p∈([]:List (Addr×Obj)) from hp) (by simp),e0.hok.kept hk,?_⟩
 ·exact name_of_addr x.apart (PySem.mem_of_lookup h1) (PySem.mem_of_lookup h2)
 ·have hy:scope.names.lookup y=some .cell∨scope.names.lookup y=some .free:=hy;rcases hy with hy |hy
  ·exact zlL hy
  ·exact absurd rfl (S.nofree _ (PySem.mem_of_lookup hy))
 ·exact Nat.le_of_lt (x.above y c (PySem.mem_of_lookup h))
 ·have hi:i<vs.length:=by
   unfold start at h2;by_cases hi:i<vs.length
   ·exact hi
   ·rw [List.getElem?_append_right (by simpa using hi)]at h2;rw [List.getElem?_replicate]at h2;split at h2<;>cases h2
  have ha:vs[i]? =some v:=by
   unfold start at h2;rw [List.getElem?_append_left (by simpa using hi),List.getElem?_map]at h2;cases e:vs[i]? with
   |none=>rw [e]at h2;cases h2
   |some a=>rw [e]at h2;cases h2;rfl
  obtain⟨u,hu,rv⟩:=r.get ha;have hp:ps[i]? =some y:=by
   rw [←S.pre,List.getElem?_take_of_lt (by omega)];exact h1
  have ndP:ps.Nodup:=by rw [←S.pre];exact S.nd.sublist (List.take_sublist _ _)
  refine⟨u,rv,?_⟩;rcases S.par y (List.mem_of_getElem? hp) with k |k
  ·exact .inl ⟨k,zjT ndP hp hu k⟩
  ·obtain⟨c,e⟩:=zlL (n:=s.heap.objs.size+1) k;refine .inr ⟨.inl k,c,e,?_⟩;have q:=x.cell y c e;rw [zkv ndP hp hu (by show scope.names.lookup y≠_;rw [k];decide)]at q;exact q
 ·exact e0.hok.fresh (Nat.le_of_lt (x.above y c (PySem.mem_of_lookup h)))
 ·unfold start;show _=N.length;rw [List.length_append,List.length_map,List.length_replicate];omega
theorem zxy{CX:CXT}{P:Program}{w:World}{K:PySem.W.Frag}{mg:Str→Option Value}{base:Heap}{k:Nat}{f:Addr}{name qual:Str}{params:Arguments}{body:List Stmt}{scope:Scope}{dV kV doc pm cdv ct oc:Value}{an od:Option Addr}
  {osl:Array (Option Value)}{N ps:List Str}{sp:Sp}(lk:K.lookup f=some ⟨oc,od, .func (PySem.W.fnOf name qual params body scope dV kV doc pm an cdv ct),osl⟩) (hcd:PySem.W.codeIn K cdv qual=true) (S:FnScope N ps scope)
  (len:∀vs H Q E,sp vs H Q E→vs.length=ps.length)
  (hbody:∀(A:Around) (outer:List Env) (s:Shared) (H:Hp) (vs:List V) (Q:VK) (E:XK),Room k (A.deeper (envOfC qual scope s.heap.objs.size f cdv))→sp vs H Q E→
   ∃t,PSs (ztt CX P w K mg base N qual scope f cdv A outer s H E) body t∧t { nx:=fun _ H'=>Q .non H',rt:=Q } (start N vs) H) :
  FnOk P w K mg base CX (k+1) f (PySem.W.fnOf name qual params body scope dV kV doc pm an cdv ct) ps sp:=by
 refine⟨len,fun A outer s H args us vs Q E hr e0 hb r hsp=>?_⟩;have hl:=len _ _ _ _ hsp;have KX:K.In s.heap:=e0.mod.kin.keeps fun b o e=>(e0.bs b o e).1;have lim:s.heap.NoLimit:=e0.mod.nolimit.keeps fun b o e=>(e0.bs b o e).1;have hkind:∀y∈ps.zip us,scope.names.lookup y.1=some .local∨(scope.names.lookup y.1=some .cell∧((cellsFrom (s.heap.objs.size+1) scope.names []).lookup y.1).isSome=true):=fun⟨n,v⟩ hy=>by
  rcases S.par n (List.of_mem_zip hy).1 with q |q
  ·exact .inl q
  ·exact .inr ⟨q,PySem.W.cellsFrom_some _ _ _ (.inl q)⟩
 refine codeAny_call_function hr.depth (KX _ _ lk) rfl S.co S.gen rfl (PySem.W.codeRec_of KX hcd) (hb _ _ _ _ ?_);refine wpAny_newFunctionEnv_cells S.kind hkind fun env he s1 x=>?_;subst he;refine⟨lim.keeps x.toInCall.keep,codeAny_func ?_⟩;obtain⟨t,ht,hq⟩:=hbody A outer s H vs Q E (hr.deeper _) hsp;have I:Inv (ztt CX P w K mg base N qual scope f cdv A outer s H E) [] (start N vs) H s1:=zpv S hr.hd e0 hl r x;refine wpAny_mono (ht [] s1 (start N vs) H _ I hq) (fun fl s' hs=>?_) fun e s' hs=>hs;have fin:∀{σ':St}{H':Hp}{v:V}{u:Value},Inv (ztt CX P w K mg base N qual scope f cdv A outer s H E) [] σ' H' s'→RelV v u→Q v H'→CE outer P w H s Q u s':=
  fun {σ' H' v u} J rv q=>⟨v,H',J.os,J.bare,J.base,J.hok,rv,q⟩
 cases fl with
 |ret u=>
  obtain⟨v,σ',H',J,rv,q⟩:=hs;exact fin J rv q
 |next=>
  obtain⟨σ',H',J,q⟩:=hs;exact fin (v:=V.non) (u:=Value.none) J rfl q
 |brk=>
  obtain⟨_,_,_,q⟩:=hs;exact False.elim q
 |cont=>
  obtain⟨_,_,_,q⟩:=hs;exact False.elim q
section
variable {X:Cx}{x:Str}{p pos:Pos}{e:Expr}{es:List Expr}{t:TA}{id T:String}{r:List V→Hp→VK→Prop}
noncomputable def tCB (r:List V→Hp→VK→Prop) (t:TA):TE:=fun σ H Q=>t σ H fun vs H1=>r vs H1 Q
theorem ziM (hc:CallR X (.builtin id) r) (hg:Gl X x) (hm:X.mg x=none) (hv:bootBuiltins x=some (.builtin id)) (ha:PA X (e::es) t) (hn:x≠ "__name__" :=by decide) (hdb:(x == ("__debug__" :Str))=false:=by decide)
  (he:starEach (e::es) X.env=(false,eval e X.env)::starEach es X.env:=by rfl) (hpl:(backTo pos (starEach es X.env)).any (·.1)=false:=by rfl):PE X (.Call (.Name x p) (e::es) [] pos) (tCB r t):=by
 intro pins s σ H Q I h;refine wpAny_Call_Name_kw (zhQ I hg hm hv ?_ hn hdb);exact PyProof.Rows.callWith_builtin1 (thn (ha pos pins s σ H _ I h) fun us s1 ⟨vs,H1,I1,r1,q1⟩=>hc pins s1 σ H1 vs us Q I1 r1 q1) he hpl
theorem zgJ (hc:CallR X (.type T) r) (hg:Gl X x) (hm:X.mg x=none) (hv:bootBuiltins x=some (.type T)) (ha:PA X (e::es) t) (hn:x≠ "__name__" :=by decide) (hdb:(x == ("__debug__" :Str))=false:=by decide)
  (he:starEach (e::es) X.env=(false,eval e X.env)::starEach es X.env:=by rfl) (hpl:(backTo pos (starEach es X.env)).any (·.1)=false:=by rfl):PE X (.Call (.Name x p) (e::es) [] pos) (tCB r t):=by
 intro pins s σ H Q I h;refine wpAny_Call_Name_kw (zhQ I hg hm hv ?_ hn hdb);exact PyProof.Rows.callWith_type1 (thn (ha pos pins s σ H _ I h) fun us s1 ⟨vs,H1,I1,r1,q1⟩=>hc pins s1 σ H1 vs us Q I1 r1 q1) he hpl
end
end L2
namespace HT
open PySem PyProof.Rows
section
variable {prog:Program}{w:World}{A:Around}{E:Value→Shared→Prop}{s:Shared}
theorem cat_tup{t b:Addr}{vs ws:List Value}{Q:Value→Shared→Prop}(ht:IsTup s.heap t vs.toArray) (hb:IsTup s.heap b ws.toArray) (hv:vs≠ [])
  (h1:ws=[]→Q (.ref t) s) (h2:ws≠ []→Q (.ref s.heap.objs.size) { s with heap:=s.heap.push { cls:= .type "tuple",data:= .seq (vs++ws).toArray } })
  (hsz:vs.length+ws.length≤sizeLine):wpAny (model prog w) A (binaryOp .Add (.ref t) (.ref b)) Q E s:=by
 obtain⟨⟨cls,dd,data,sl⟩,ho,hc,n,hd⟩:=id ht;obtain⟨⟨cls2,dd2,data2,sl2⟩,ho2,hc2,n2,hd2⟩:=id hb;simp only at hc hd hc2 hd2;subst hc hd hc2 hd2;have e:vs.toArray++ws.toArray=(vs++ws).toArray:=by simp
 by_cases hw:ws=[]
 ·exact concat_meets ⟨_,ho,rfl⟩ ⟨_,ho2,rfl⟩ noFill_tuple_add seq_tuple_add PySem.F.slot_tuple_add PySem.F.entry_tuple_add (PySem.F.args_tuple_add_2 _ _)
   (tuple_addW1 t b vs.toArray ws.toArray n n2 dd dd2 sl sl2 (by simpa using hv) (by simp [hw])) ⟨ho,ho2,h1 hw⟩
 ·refine concat_meets ⟨_,ho,rfl⟩ ⟨_,ho2,rfl⟩ noFill_tuple_add seq_tuple_add PySem.F.slot_tuple_add PySem.F.entry_tuple_add (PySem.F.args_tuple_add_2 _ _)
   (tuple_addW2 t b vs.toArray ws.toArray n n2 dd dd2 sl sl2 (by simpa using hv) (by simpa using hw) (by rw [List.size_toArray,List.size_toArray];exact hsz)) ⟨ho,ho2,?_⟩
  rw [e];exact h2 hw
noncomputable def sIx (n d:Nat):Option Int→Nat
 |none=>d
 |some v=>if v<0 then(v+(n:Int)).toNat else min v.toNat n
theorem sIx_none (n d:Nat):sIx n d none=d:=rfl
theorem sIx_nat (n d k:Nat):sIx n d (some (k:Int))=min k n:=by
 show(if(k:Int)<0 then((k:Int)+(n:Int)).toNat else min (k:Int).toNat n)=min k n;rw [if_neg (by omega),Int.toNat_natCast]
theorem sIx_le (n d:Nat) (hd:d≤n) (o:Option Int):sIx n d o≤n:=by
 cases o with
 |none=>exact hd
 |some v=>
  show(if v<0 then(v+(n:Int)).toNat else min v.toNat n)≤n;by_cases hv:v<0
  ·rw [if_pos hv];omega
  ·rw [if_neg hv];exact Nat.min_le_right _ _
theorem zph (v:Int) (n d:Nat):(if v<0 then max (v+(n:Int)) 0 else min v (n:Int))=((sIx n d (some v):Nat):Int):=by
 show(if v<0 then max (v+(n:Int)) 0 else min v (n:Int))=(((if v<0 then(v+(n:Int)).toNat else min v.toNat n):Nat):Int);by_cases hv:v<0
 ·simp only[if_pos hv];omega
 ·simp only[if_neg hv];omega
theorem znB (lo hi:Option Int) (n:Nat):Builtin.Slice.sliceAdjust lo hi 1 (n:Int)=(((sIx n 0 lo:Nat):Int),((sIx n n hi:Nat):Int)):=by
 have h1:¬((1:Int)<0):=by omega
 unfold Builtin.Slice.sliceAdjust;simp only[h1,if_false];refine Prod.ext ?_ ?_
 ·cases lo with
  |none=>rfl
  |some v=>exact zph v n 0
 ·cases hi with
  |none=>rfl
  |some v=>exact zph v n n
theorem znk (i j:Nat):Builtin.Slice.slicePlaces (i:Int) (j:Int) 1=j - i:=by
 unfold Builtin.Slice.slicePlaces;have h1:(1:Int) > 0:=by omega
 simp only[h1,if_true,Int.ediv_one];split<;>omega
theorem zhW{v:Value}{o:Option Int}{Q:Option Int→Shared→Prop}(p:IsPart v o) (h:Q o s):wpAny (model prog w) A (Builtin.Slice.slicePartIndex v) Q E s:=by
 cases p with
 |none=>exact slicePart_none h
 |int i t=>exact slicePart_int h
theorem sliceApplied_gen{sl:Addr}{vl vu:Value}{lo hi:Option Int}{n:Nat}{Q:Int×Int×Nat→Shared→Prop}(hs:s.heap.IsSliceOf sl vl vu .none) (pl:IsPart vl lo) (pu:IsPart vu hi)
  (h:Q (((sIx n 0 lo:Nat):Int),1,sIx n n hi - sIx n 0 lo) s):wpAny (model prog w) A (Builtin.Slice.sliceApplied (.ref sl) (pure (n:Int))) Q E s:=by
 obtain⟨os,hos,hcs,hds⟩:=id hs;unfold Builtin.Slice.sliceApplied Builtin.Slice.sliceFields;refine wpAny_bind (wpAny_bind (wpAny_field hos hds (x:=vl) rfl (wpAny_bind (wpAny_field hos hds (x:=vu) rfl (wpAny_bind (wpAny_field hos hds (x:= .none) rfl (wpAny_pure ?_)))))));refine wpAny_bind (slicePart_none ?_);show wpAny _ _ (if((1:Int) == 0)=true then _ else _) _ _ s;rw [if_neg (by decide)];refine wpAny_bind (zhW pl (wpAny_bind (zhW pu (wpAny_bind (wpAny_pure ?_)))));show wpAny _ _ (match Builtin.Slice.sliceAdjust lo hi 1 (n:Int) with | (lo,hi)=>pure (lo,(1:Int),Builtin.Slice.slicePlaces lo hi 1)) _ _ s;rw [znB lo hi n];show wpAny _ _ (pure (((sIx n 0 lo:Nat):Int),(1:Int),Builtin.Slice.slicePlaces ((sIx n 0 lo:Nat):Int) ((sIx n n hi:Nat):Int) 1)) _ _ s;rw [znk];exact wpAny_pure h
theorem zrs (xs:Array Value) (i k:Nat):((List.range k).filterMap fun(m:Nat)=>xs[((i:Int)+(m:Int)*1).toNat]?).toArray=((xs.toList.drop i).take k).toArray:=by
 have e:(fun(m:Nat)=>xs[((i:Int)+(m:Int)*1).toNat]?)=fun m=>xs[i+m]? :=by
  funext m;have:((i:Int)+(m:Int)*1).toNat=i+m:=by omega
  rw [this]
 rw [e];have:=pick_run xs i k;rw [List.filterMap_map]at this;have e2:((fun x=>xs[x]?)∘fun x=>i+x)=fun m=>xs[i+m]? :=rfl;rw [e2]at this;rw [this]
theorem getItem_tuple_cut{t sl:Addr}{items:Array Value}{vl vu:Value}{lo hi:Option Int}{Q:Value→Shared→Prop}(ht:IsTup s.heap t items) (hs:s.heap.IsSliceOf sl vl vu .none) (pl:IsPart vl lo) (pu:IsPart vu hi)
  (hw:¬(sIx items.size 0 lo=0∧sIx items.size items.size hi=items.size))
  (h:Q (.ref s.heap.objs.size) { s with heap:=s.heap.push { cls:= .type "tuple",data:= .seq ((items.toList.drop (sIx items.size 0 lo)).take (sIx items.size items.size hi - sIx items.size 0 lo)).toArray } })
  (hsz:items.size≤sizeLine):wpAny (model prog w) A (getItem (.ref t) (.ref sl)) Q E s:=by
 have htake:sizeOk (.seq ((items.toList.drop (sIx items.size 0 lo)).take (sIx items.size items.size hi - sIx items.size 0 lo)).toArray):=by
  show((items.toList.drop (sIx items.size 0 lo)).take (sIx items.size items.size hi - sIx items.size 0 lo)).toArray.size≤sizeLine;rw [List.size_toArray,List.length_take,List.length_drop,Array.length_toList];omega
 have hj:sIx items.size items.size hi≤items.size:=sIx_le _ _ (Nat.le_refl _) hi;obtain⟨os,hos,hcs,hds⟩:=id hs;have hTs:s.TypeIs (.ref sl) "slice" :=⟨os,hos,hcs⟩;unfold getItem
 try with_reducible refine wpAny_holding ?_
 first |refine wpAny_bind (wpAny_pure ?_) |skip
 refine wpAny_bind (wpAny_sequenceKey ht.typeIs (by decide) ?_);refine wpAny_bind (wpAny_callSpecial?_slot (name:=Str.ofString "__getitem__") ht.typeIs PyProof.Rows.slot_tuple_getitem
  (wpAny_call_entry PyProof.Rows.slot_tuple_getitem ht.typeIs entry_tuple_getitem ?_ (args_tuple_getitem _ _)))
 show wpAny _ _ (Builtin.Tuple.tupleItemsOf (.ref t) >>= _) _ _ s;refine wpAny_bind (tupleItemsOf_ ht ?_);refine wpAny_bind (wpAny_typeOf hTs ?_);rw [if_pos (by decide)];refine wpAny_bind (sliceApplied_gen hs pl pu ?_);have hno:¬((((sIx items.size 0 lo:Nat):Int) == 0&&(1:Int) == 1&&(sIx items.size items.size hi - sIx items.size 0 lo) == items.size)=true):=by
  intro q;rw [Bool.and_eq_true,Bool.and_eq_true]at q;have q1:((sIx items.size 0 lo:Nat):Int)=0:=eq_of_beq q.1.1;have q2:sIx items.size items.size hi - sIx items.size 0 lo=items.size:=eq_of_beq q.2;exact hw ⟨by omega,by omega⟩
 show wpAny _ _ (if(((sIx items.size 0 lo:Nat):Int) == 0&&(1:Int) == 1&&(sIx items.size items.size hi - sIx items.size 0 lo) == items.size)=true then _ else _) _ _ s;rw [if_neg hno,zrs]
 first
  |exact wpAny_bind (m:=Builtin.Tuple.tupleExact _) (wpAny_newObj_type (wpAny_pure ⟨_,rfl,wpAny_pure h⟩) htake)
  |exact wpAny_bind (m:=Builtin.Tuple.tupleExact _) (wpAny_newObj_type (wpAny_bind (wpAny_pure (wpAny_pure ⟨_,rfl,wpAny_pure h⟩))) htake)
  |exact wpAny_bind (wpAny_bind (m:=Builtin.Tuple.tupleExact _) (wpAny_newObj_type (wpAny_pure (wpAny_pure ⟨_,rfl,wpAny_pure h⟩)) htake))
  |exact wpAny_bind (wpAny_bind (m:=Builtin.Tuple.tupleExact _) (wpAny_newObj_type (wpAny_pure ⟨_,rfl,wpAny_pure h⟩) htake))
end
end HT
namespace L2
open PySem PySem.Spec PyProof.Rows
noncomputable abbrev TO:=St→Hp→(Option Int→Hp→Prop)→Prop
noncomputable def PO (X:Cx) (e:Option Expr) (t:TO):Prop:=
 ∀(pins:List (Addr×Obj)) (s:Shared) (σ:St) (H:Hp) (Q:Option Int→Hp→Prop),Inv X pins σ H s→t σ H Q→
  wpAny (model X.prog X.w) X.A (evalPart e X.env) (fun u s'=>∃o H',Inv X pins σ H' s'∧IsPart u o∧Q o H') X.xe s
noncomputable def ztl:TO:=fun _ H Q=>Q none H
noncomputable def zyc (t:TE):TO:=fun σ H Q=>t σ H fun x H1=>∃i,x= .int i∧Q (some i) H1
section
variable {X:Cx}{e:Expr}{te:TE}{lo hi:Option Expr}{tl th:TO}{pos p2:Pos}
theorem po_none:PO X none ztl:=by
 intro pins s σ H Q I h;rw [evalPart_none];exact wpAny_pure ⟨none,H,I, .none,h⟩
theorem zty (h:PE X e te):PO X (some e) (zyc te):=by
 intro pins s σ H Q I hw;rw [evalPart_some];refine thn (h pins s σ H _ I hw) fun u s1 ⟨x,H1,I1,r1,q1⟩=>?_;obtain⟨i,rfl,q⟩:=q1;obtain⟨t,rfl⟩:=r1;exact⟨some i,H1,I1, .int i t,q⟩
noncomputable def SlR (X:Cx) (r:V→Option Int→Option Int→Hp→VK→Prop):Prop:=
 ∀(pins:List (Addr×Obj)) (s:Shared) (σ:St) (H:Hp) (x:V) (v vl vu:Value) (lo hi:Option Int) (sl:Addr) (Q:VK),Inv X pins σ H s→RelV x v→s.heap.IsSliceOf sl vl vu .none→IsPart vl lo→IsPart vu hi→r x lo hi H Q→
  ∃T id,typeLookup (.type T) "__getitem__" =pure (some (.builtin id))∧s.TypeIs v T∧wpAny (model X.prog X.w) X.A (getItem v (.ref sl)) (EP X pins σ Q) X.xe s
theorem SlR.or{r r':V→Option Int→Option Int→Hp→VK→Prop}(h:SlR X r) (h':SlR X r'):SlR X (fun x lo hi H Q=>r x lo hi H Q∨r' x lo hi H Q):=by
 intro pins s σ H x v vl vu lo hi sl Q I rx hs pl pu q;rcases q with q |q
 ·exact h pins s σ H x v vl vu lo hi sl Q I rx hs pl pu q
 ·exact h' pins s σ H x v vl vu lo hi sl Q I rx hs pl pu q
noncomputable def tSl (r:V→Option Int→Option Int→Hp→VK→Prop) (te:TE) (tl th:TO):TE:=fun σ H Q=>te σ H fun x H1=>tl σ H1 fun l H2=>th σ H2 fun u H3=>r x l u H3 Q
theorem zlJ{r:V→Option Int→Option Int→Hp→VK→Prop}(hr:SlR X r) (he:PE X e te) (hl:PO X lo tl) (hu:PO X hi th):PE X (.Subscript e (.Slice lo hi none p2) pos) (tSl r te tl th):=by
 intro pins s σ H Q I h;refine Subscript_ (thn (he pins s σ H _ I h) fun v s1 ⟨x,H1,I1,r1,q1⟩=>?_);refine wpAny_Slice (thn (hl pins s1 σ H1 _ I1 q1) fun vl s2 ⟨l,H2,I2,pl,q2⟩=>thn (hu pins s2 σ H2 _ I2 q2) fun vu s3 ⟨u,H3,I3,pu,q3⟩=>?_);rw [evalPart_none];refine wpAny_pure ?_;have I4:Inv X pins σ H3 { s3 with heap:=s3.heap.push { cls:= .type "slice",data:= .fields #[vl,vu, .none] } }:=I3.kept (t':=s3.toks) fun b ob q=>Heap.get?_push_of_some _ q;obtain⟨T,id,hT,ht,hg⟩:=hr pins { s3 with heap:=s3.heap.push { cls:= .type "slice",data:= .fields #[vl,vu, .none] } } σ H3 x v vl vu l u s3.heap.objs.size Q I4 r1 (Heap.IsSliceOf.new ..) pl pu q3;show wpAny (model X.prog X.w) X.A (subscriptTail e (.Slice lo hi none p2) v (.ref s3.heap.objs.size)) (EP X pins σ Q) X.xe { s3 with heap:=s3.heap.push { cls:= .type "slice",data:= .fields #[vl,vu, .none] } };exact tail_any (ops:=[.ref s3.heap.objs.size,v]) ht hT hg (by with_unfolding_all rfl)
noncomputable def zqg (xs:List V) (lo hi:Option Int):List V:=(xs.drop (HT.sIx xs.length 0 lo)).take (HT.sIx xs.length xs.length hi - HT.sIx xs.length 0 lo)
theorem zhx (xs:List V) (lo hi:Option Int):(zqg xs lo hi).length≤xs.length:=by
 unfold zqg;rw [List.length_take,List.length_drop];omega
noncomputable def zzI (K:PySem.W.Frag):V→Option Int→Option Int→Hp→VK→Prop:=fun x lo hi H Q=>∃a xs,x= .ref a∧SqT K H a xs∧
 ¬(HT.sIx xs.length 0 lo=0∧HT.sIx xs.length xs.length hi=xs.length)∧ ∀p,H p=none→Q (.ref p) (upd H p (.tup (zqg xs lo hi)))
theorem zuK:SlR X (zzI X.K):=by
 intro pins s σ H x v vl vu lo hi sl Q I rx hs pl pu h;obtain⟨a,xs,rfl,hx,hw,q⟩:=h;cases rx;obtain⟨its,r,ht,hz⟩:=I.tuple hx;have hlen:its.toArray.size=xs.length:=by rw [List.size_toArray];exact r.length.symm
 refine⟨"tuple",_,PyProof.Rows.slot_tuple_getitem.lookup,ht.typeIs,?_⟩;refine HT.getItem_tuple_cut ht hs pl pu (by rw [hlen];exact hw) ?_ (by rw [hlen];exact hz);rw [hlen];refine⟨.ref s.heap.objs.size,_,I.laid (t':=s.toks) (o:= .tup (zqg xs lo hi)) (fun b ob q=>Heap.get?_push_of_some _ q) (Nat.le_refl _) ?_,rfl,q _ (I.hok.fresh (Nat.le_refl _))⟩;exact⟨Nat.le_trans (zhx xs lo hi) hz,_,(r.drop (HT.sIx xs.length 0 lo)).take (HT.sIx xs.length xs.length hi - HT.sIx xs.length 0 lo),IsTup.new _ _⟩
noncomputable def zuh (K:PySem.W.Frag):R2:=fun x y H Q=>∃a b xs ys,x= .ref a∧y= .ref b∧SqT K H a xs∧SqT K H b ys∧xs≠ []∧xs.length+ys.length≤sizeLine∧
 (ys=[]→Q (.ref a) H)∧(ys≠ []→ ∀p,H p=none→Q (.ref p) (upd H p (.tup (xs++ys))))
theorem Vals.nil_iff{xs:List V}{us:List Value}(r:Vals xs us):us=[]↔xs=[]:=by
 cases r with
 |nil=>simp
 |cons _ _=>simp
theorem op_catT:OpR X (binaryOp .Add) (zuh X.K):=by
 intro pins s σ H x y v u Q I rx ry h;obtain⟨a,b,xs,ys,rfl,rfl,ha,hb,hx,hz,q1,q2⟩:=h;cases rx;cases ry;obtain⟨its,r1,p1,_⟩:=I.tuple ha;obtain⟨its2,r2,p2,_⟩:=I.tuple hb;refine HT.cat_tup p1 p2 (fun z=>hx (r1.nil_iff.mp z)) (fun z=>⟨.ref a,H,I,rfl,q1 (r2.nil_iff.mp z)⟩) (fun z=>?_) (by rw [←r1.length,←r2.length];exact hz);refine⟨.ref s.heap.objs.size,_,I.laid (t':=s.toks) (o:= .tup (xs++ys)) (fun b ob q=>Heap.get?_push_of_some _ q) (Nat.le_refl _) ?_,rfl,q2 (fun w=>z (r2.nil_iff.mpr w)) _ (I.hok.fresh (Nat.le_refl _))⟩;exact⟨by rw [List.length_append];exact hz,_,r1.append r2,IsTup.new _ _⟩
end
noncomputable def ixN (n:Nat) (i:Int):Option Nat:=if 0≤i then(if i<n then some i.toNat else none) else if -(n:Int)≤i then some (i+n).toNat else none
noncomputable def atI {α:Type}(xs:List α) (i:Int):Option α:=(ixN xs.length i).bind fun j=>xs[j]?
theorem zsW{n:Nat}{i:Int}{j:Nat}(h:ixN n i=some j):seqIndex? i n=some j∧j<n∧ -(n:Int)≤i∧i<n:=by
 unfold ixN at h;by_cases h0:0≤i
 ·rw [if_pos h0]at h;by_cases h1:i<n
  ·rw [if_pos h1]at h;have e:i.toNat=j:=Option.some.inj h;exact⟨by rw [seqIndex_of h0 h1,e],by omega,by omega,h1⟩
  ·rw [if_neg h1]at h;cases h
 ·rw [if_neg h0]at h;by_cases h1: -(n:Int)≤i
  ·rw [if_pos h1]at h;have e:(i+n).toNat=j:=Option.some.inj h;exact⟨by rw [seqIndex_neg (by omega) h1,e],by omega,h1,by omega⟩
  ·rw [if_neg h1]at h;cases h
theorem zkR{α:Type}{xs:List α}{i:Int}{v:α}(h:atI xs i=some v):∃j,seqIndex? i xs.length=some j∧xs[j]? =some v∧j<xs.length∧ -(xs.length:Int)≤i∧i<xs.length:=by
 unfold atI at h;cases e:ixN xs.length i with
 |none=>rw [e]at h;cases h
 |some j=>
  rw [e]at h;obtain⟨h1,h2,h3,h4⟩:=zsW e;exact⟨j,h1,h,h2,h3,h4⟩
theorem zoP{α:Type}{xs:List α}{j:Nat}{v:α}(h:xs[j]? =some v):atI xs (j:Int)=some v:=by
 have hj:j<xs.length:=(List.getElem?_eq_some_iff.mp h).1;have e:ixN xs.length (j:Int)=some j:=by
  unfold ixN;rw [if_pos (by omega),if_pos (by omega)];simp
 unfold atI;rw [e];exact h
noncomputable def zkY (b:Expr):Prop:=∀o i,subscripted b false o i=operate [o,i] (getItem o i)
noncomputable def IxR (X:Cx) (r:R2):Prop:=
 ∀(value slice:Expr) (pins:List (Addr×Obj)) (s:Shared) (σ:St) (H:Hp) (x y:V) (v u:Value) (Q:VK),Inv X pins σ H s→RelV x v→RelV y u→r x y H Q→
  subscripted slice false v u=operate [v,u] (getItem v u)→wpAny (model X.prog X.w) X.A (subscriptTail value slice v u) (EP X pins σ Q) X.xe s
noncomputable def MtR (X:Cx) (id:String) (r:V→List V→Hp→VK→Prop):Prop:=
 ∀(pins:List (Addr×Obj)) (s:Shared) (σ:St) (H:Hp) (x:V) (xs:List V) (v:Value) (us:List Value) (Q:VK),Inv X pins σ H s→RelV x v→Vals xs us→r x xs H Q→
  wpAny (model X.prog X.w) X.A (call (.builtin id) (v::us)) (EP X pins σ Q) X.xe s
section
variable {X:Cx}{a b:Expr}{ta tb:TE}{pos:Pos}
theorem IxR.or{r r':R2}(h:IxR X r) (h':IxR X r'):IxR X (fun x y H Q=>r x y H Q∨r' x y H Q):=by
 intro value slice pins s σ H x y v u Q I rx ry q hs;rcases q with q |q
 ·exact h value slice pins s σ H x y v u Q I rx ry q hs
 ·exact h' value slice pins s σ H x y v u Q I rx ry q hs
theorem MtR.or{id:String}{r r':V→List V→Hp→VK→Prop}(h:MtR X id r) (h':MtR X id r'):MtR X id (fun x xs H Q=>r x xs H Q∨r' x xs H Q):=by
 intro pins s σ H x xs v us Q I rx rs q;rcases q with q |q
 ·exact h pins s σ H x xs v us Q I rx rs q
 ·exact h' pins s σ H x xs v us Q I rx rs q
theorem zvz{r:R2}(hr:IxR X r) (ha:PE X a ta) (hb:PE X b tb) (hs:zkY b):PE X (.Subscript a b pos) (tOp r ta tb):=by
 intro pins s σ H Q I h;exact Subscript_ (zxw ha hb I h fun v u s2 x y H2 I2 rx ry q=>hr a b pins s2 σ H2 x y v u Q I2 rx ry q (hs _ _))
noncomputable def zyK (K:PySem.W.Frag):R2:=fun x y H Q=>∃p xs i v,x= .ref p∧y= .int i∧SqL K H p xs∧atI xs i=some v∧Q v H
noncomputable def zyQ (K:PySem.W.Frag):R2:=fun x y H Q=>∃p xs i v,x= .ref p∧y= .int i∧SqT K H p xs∧atI xs i=some v∧Q v H
noncomputable def zyL:R2:=fun x y H Q=>∃z i c,x= .str z∧y= .int i∧z.length≤sizeLine∧atI z.cps.toList i=some c∧Q (.str ⟨#[c]⟩) H
theorem ix_list:IxR X (zyK X.K):=by
 intro value slice pins s σ H x y v u Q I rx ry h hs;obtain⟨p,xs,i,z,rfl,rfl,hq,he,q⟩:=h;cases rx;obtain⟨t,rfl⟩:=ry;obtain⟨its,r,pl,hz⟩:=I.list hq;obtain⟨j,h1,h2,h3,h4,h5⟩:=zkR he;obtain⟨w,ew,rw'⟩:=r.get h2;have hl:=r.length;have hn:=zhL;have fin:EP X pins σ Q w s:=⟨z,H,I,rw',q⟩;by_cases h0:0≤i
 ·have hj:i.toNat=j:=by
   rw [seqIndex_of h0 h5]at h1;exact Option.some.inj h1
  exact item_listR pl.isList h0 (by omega) (by rw [hj];simpa using ew) fin hs
 ·have hj:(i+(its.toArray.size:Int)).toNat=j:=by
   rw [seqIndex_neg (by omega) h4]at h1;rw [List.size_toArray,←hl];exact Option.some.inj h1
  exact subscriptTail_builtinR (x:=w) pl.isList.typeIs slot_list_getitem.lookup
   (wpAny_getItem_list_neg (Q:=fun r s'=>r=w∧EP X pins σ Q r s') pl.isList (by omega) (by rw [List.size_toArray]<;>omega) (by omega) (by rw [hj];simpa using ew) ⟨rfl,fin⟩) hs
theorem ix_tup:IxR X (zyQ X.K):=by
 intro value slice pins s σ H x y v u Q I rx ry h hs;obtain⟨p,xs,i,z,rfl,rfl,hq,he,q⟩:=h;cases rx;obtain⟨t,rfl⟩:=ry;obtain⟨its,r,pl,hz⟩:=I.tuple hq;obtain⟨j,h1,h2,h3,h4,h5⟩:=zkR he;obtain⟨w,ew,rw'⟩:=r.get h2;have hl:=r.length;have hn:=zhL;have fin:EP X pins σ Q w s:=⟨z,H,I,rw',q⟩;exact subscriptTail_builtinR (x:=w) pl.typeIs slot_tuple_getitem.lookup
  (getItem_tuple (j:=j) (Q:=fun r s'=>r=w∧EP X pins σ Q r s') pl (by omega) (by omega) (by rw [List.size_toArray,←hl];exact h1) (by simpa using ew) ⟨rfl,fin⟩) hs
theorem zwk:IxR X zyL:=by
 intro value slice pins s σ H x y v u Q I rx ry h hs;obtain⟨z,i,c,rfl,rfl,hz,he,q⟩:=h;obtain⟨t,rfl⟩:=rx;obtain⟨t',rfl⟩:=ry;obtain⟨j,h1,h2,h3,h4,h5⟩:=zkR he;have hl:z.cps.toList.length=z.length:=by simp [Str.length]
 rw [hl]at h1 h4 h5;have hn:=zhL;exact tail_any (typeIs_str s z t) slot_str_getitem.lookup (getItem_str (c:=c) (by
  have e1:decide (i< -(2 ^ 63:Int))=false:=decide_eq_false (by omega);have e2:decide (i≥2 ^ 63)=false:=decide_eq_false (by omega);rw [e1,e2,Bool.or_false]) (by rw [h1];simpa using h2) ⟨.str ⟨#[c]⟩,H,I.tok _,⟨_,rfl⟩,q⟩) hs
noncomputable def rIx (K:PySem.W.Frag):R2:=fun x y H Q=>zyK K x y H Q∨zyQ K x y H Q∨zyL x y H Q
theorem zrT:IxR X (rIx X.K):=ix_list.or (ix_tup.or zwk)
theorem zjI (lo hi:Option Int) (n:Nat):(sliceBounds lo hi none n).1=((HT.sIx n 0 lo:Nat):Int)∧(sliceBounds lo hi none n).2.1=((HT.sIx n n hi:Nat):Int)∧(sliceBounds lo hi none n).2.2=1:=by
 refine⟨?_,?_,rfl⟩
 ·cases lo with
  |none=>simp [sliceBounds,HT.sIx]
  |some i=>
   simp only[sliceBounds,HT.sIx,Option.getD_none,show(1:Int) > 0 by decide,if_true]
   by_cases h:i<0
   ·simp only[h,if_true]<;>omega
   ·simp only[h,if_false]<;>omega
 ·cases hi with
  |none=>simp [sliceBounds,HT.sIx]
  |some i=>
   simp only[sliceBounds,HT.sIx,Option.getD_none,show(1:Int) > 0 by decide,if_true]
   by_cases h:i<0
   ·simp only[h,if_true]<;>omega
   ·simp only[h,if_false]<;>omega
theorem ziV (its:List Value) (lo hi:Option Int):slicePick its.toArray lo hi none=((its.drop (HT.sIx its.length 0 lo)).take (HT.sIx its.length its.length hi - HT.sIx its.length 0 lo)).toArray:=by
 obtain⟨h1,h2,h3⟩:=zjI lo hi its.toArray.size;unfold slicePick;rw [h1,h2,h3];simp only[sliceRange_one,pick_run,List.size_toArray]<;>rfl
noncomputable def zzZ (K:PySem.W.Frag):V→Option Int→Option Int→Hp→VK→Prop:=fun x lo hi H Q=>∃a xs,x= .ref a∧SqL K H a xs∧ ∀p,H p=none→Q (.ref p) (upd H p (.lst (zqg xs lo hi)))
theorem zoB:SlR X (zzZ X.K):=by
 intro pins s σ H x v vl vu lo hi sl Q I rx hs pl pu h;obtain⟨a,xs,rfl,hx,q⟩:=h;cases rx;obtain⟨its,r,ht,hz⟩:=I.list hx;have hlen:=r.length;refine⟨"list",_,slot_list_getitem.lookup,ht.isList.typeIs,?_⟩;refine wpAny_getItem_list_slice ht.isList hs pl pu .none (by simp) ?_ (by rw [List.size_toArray]<;>omega);rw [ziV,←hlen];refine⟨.ref s.heap.objs.size,_,I.laid (t':=s.toks) (o:= .lst (zqg xs lo hi)) (fun b ob q=>Heap.get?_push_of_some _ q) (Nat.le_refl _) ?_,rfl,q _ (I.hok.fresh (Nat.le_refl _))⟩;exact⟨Nat.le_trans (zhx xs lo hi) hz,_,0,(r.drop (HT.sIx xs.length 0 lo)).take (HT.sIx xs.length xs.length hi - HT.sIx xs.length 0 lo),Heap.get?_push_size _ rfl⟩
theorem call_len_seq:CallR X (.builtin "len") (fun xs H Q=>∃p ys,xs=[.ref p]∧(SqL X.K H p ys∨SqT X.K H p ys)∧Q (.int ys.length) H):=by
 intro pins s σ H xs us Q I r h;obtain⟨p,ys,rfl,hq,q⟩:=h;obtain⟨u,rfl,rx⟩:=ziD r;cases rx;have hn:=zhL;rcases hq with hq |hq
 ·obtain⟨its,r',pl,hz⟩:=I.list hq;have hlen:=r'.length;exact Calls.call_len_list pl.isList (by simp only[List.size_toArray]<;>omega) ⟨.int ys.length,H,I.tok _,⟨s.toks+1,by rw [List.size_toArray,hlen]⟩,q⟩
 ·obtain⟨its,r',pl,hz⟩:=I.tuple hq;have hlen:=r'.length;exact len_tuple pl (by simp only[List.size_toArray]<;>omega) ⟨.int ys.length,H,I.tok _,⟨s.toks+1,by rw [List.size_toArray,hlen]⟩,q⟩
theorem zky:CallR X (.builtin "len") (fun xs H Q=>∃z,xs=[.str z]∧z.length≤sizeLine∧Q (.int z.length) H):=by
 intro pins s σ H xs us Q I r h;obtain⟨z,rfl,hz,q⟩:=h;obtain⟨u,rfl,t,rfl⟩:=ziD r;have hn:=zhL;exact len_str (by omega) ⟨.int z.length,H,I.tok _,⟨_,rfl⟩,q⟩
theorem CallR.or{f:Value}{r r':List V→Hp→VK→Prop}(h:CallR X f r) (h':CallR X f r'):CallR X f (fun xs H Q=>r xs H Q∨r' xs H Q):=by
 intro pins s σ H xs us Q I rs q;rcases q with q |q
 ·exact h pins s σ H xs us Q I rs q
 ·exact h' pins s σ H xs us Q I rs q
theorem zkp:CallR X (.type "list") (fun xs H Q=>∃p ys,xs=[.ref p]∧(SqL X.K H p ys∨SqT X.K H p ys)∧ ∀l,H l=none→Q (.ref l) (upd H l (.lst ys))):=by
 intro pins s σ H xs us Q I r h;obtain⟨p,ys,rfl,hq,q⟩:=h;obtain⟨u,rfl,rx⟩:=ziD r;cases rx;have fin:∀(its:List Value),Vals ys its→ys.length≤sizeLine→ ∀(h':Heap) (c':Nat),(∀b o',s.heap.get? b=some o'→h'.get? b=some o')→
   h'.get? s.heap.objs.size=some { cls:= .type "list",dict:=none,data:= .seq its.toArray c',slots:= #[] }→EP X pins σ Q (.ref s.heap.objs.size) { s with heap:=h' }:=fun its r' hz h' c' kp e=>
  ⟨.ref s.heap.objs.size,_,I.laid (t':=s.toks) kp (Nat.le_refl _) (show ObjOk X.prog X.w _ h' _ (.lst ys) from⟨hz,its,c',r',e⟩),rfl,q _ (I.hok.fresh (Nat.le_refl _))⟩
 rcases hq with hq |hq
 ·obtain⟨its,r',pl,hz⟩:=I.list hq;have hlen:=r'.length;obtain⟨o,ho,hc,n,hd⟩:=pl.isList;exact call_list_seq p (.inl rfl) ho hc hd (fun h' c' kp e=>fin its r' hz h' c' kp e) (by simp only[List.size_toArray]<;>omega)
 ·obtain⟨its,r',pl,hz⟩:=I.tuple hq;have hlen:=r'.length;obtain⟨o,ho,hc,n,hd⟩:=pl;exact call_list_seq p (.inr rfl) ho hc hd (fun h' c' kp e=>fin its r' hz h' c' kp e) (by simp only[List.size_toArray]<;>omega)
theorem zfn:CallR X (.type "tuple") (fun xs H Q=>∃p ys,xs=[.ref p]∧((SqL X.K H p ys∧ ∀l,H l=none→Q (.ref l) (upd H l (.tup ys)))∨(SqT X.K H p ys∧Q (.ref p) H))):=by
 intro pins s σ H xs us Q I r h;obtain⟨p,ys,rfl,h⟩:=h;obtain⟨u,rfl,rx⟩:=ziD r;cases rx;rcases h with⟨hq,q⟩ |⟨hq,q⟩
 ·obtain⟨its,r',pl,hz⟩:=I.list hq;have hlen:=r'.length;refine call_tuple_list pl.isList (fun h' kp=>?_) (by simp only[List.size_toArray]<;>omega);have I1:Inv X pins σ H { s with heap:=h' }:=I.kept (t':=s.toks) kp;have I2:Inv X pins σ (upd H h'.objs.size (.tup ys)) { s with heap:=h'.push { cls:= .type "tuple",data:= .seq its.toArray } }:=
   I1.laid (t':=s.toks) (fun b o e=>Heap.get?_push_of_some _ e) (Nat.le_refl _) (show ObjOk X.prog X.w _ _ _ (.tup ys) from⟨hz,its,r',IsTup.new _ _⟩)
  exact⟨.ref h'.objs.size,_,I2,rfl,q _ (I1.hok.fresh (Nat.le_refl _))⟩
 ·obtain⟨its,r',pl,hz⟩:=I.tuple hq;exact call_tuple_same pl ⟨.ref p,H,I,rfl,q⟩
noncomputable def tyV (K:PySem.W.Frag) (T:String) (x:V) (H:Hp):Prop:=match x with
 | .str _=>T= "str"
 | .int _=>T= "int"
 | .ref p=>(T= "list" ∧ ∃xs,SqL K H p xs)∨(T= "tuple" ∧ ∃o,K.lookup p=some o∧o.cls= .type "tuple" ∧o.dict=none)∨
   (T= "dict" ∧((∃kvs,H p=some (.dK kvs))∨ ∃kvs,H p=some (.dT kvs)))∨(T= "set" ∧ ∃S n,H p=some (.set S n))
 |_=>False
theorem zrU{pins:List (Addr×Obj)}{σ:St}{H:Hp}{s:Shared}{T:String}{x:V}{v:Value}(I:Inv X pins σ H s) (r:RelV x v) (ty:tyV X.K T x H) :
  s.TypeIs v T∧ ∀a,v= .ref a→ ∃ob,s.heap.get? a=some ob∧ob.dict=none:=by
 cases x with
 |str z=>
  obtain⟨t,rfl⟩:=r;cases(show T= "str" from ty);exact⟨typeIs_str s z t,fun _ e=>nomatch e⟩
 |int i=>
  obtain⟨t,rfl⟩:=r;cases(show T= "int" from ty);exact⟨typeIs_int s i t,fun _ e=>nomatch e⟩
 |ref p=>
  cases r;rcases ty with⟨rfl,xs,hq⟩ |⟨rfl,o,hk,hc,hd⟩ |⟨rfl,hk⟩ |⟨rfl,S,n,hk⟩
  ·obtain⟨its,_,pl,_⟩:=I.list hq;refine⟨pl.isList.typeIs,fun a e=>?_⟩;cases e;obtain⟨o,n,e,c,hd,_⟩:=pl;exact⟨o,e,hd⟩
  ·refine⟨⟨o,I.kIn p o hk,hc⟩,fun a e=>?_⟩;cases e;exact⟨o,I.kIn _ o hk,hd⟩
  ·have z:∃o,s.heap.get? p=some o∧o.ExactDict:=by
    rcases hk with⟨kvs,hk⟩ |⟨kvs,hk⟩
    ·obtain⟨_,_,_,_,o,_,_,e,ex,_⟩:=I.hok p _ hk;exact⟨o,e,ex⟩
    ·obtain⟨_,_,_,_,o,_,_,e,ex,_⟩:=I.hok p _ hk;exact⟨o,e,ex⟩
   obtain⟨o,e,ex⟩:=z;refine⟨⟨o,e,ex.1⟩,fun a e2=>?_⟩;cases e2;exact⟨o,e,ex.2.1⟩
  ·obtain⟨o,_,_,_,e,ex,_⟩:=I.hok p _ hk;refine⟨⟨o,e,ex.1⟩,fun a e2=>?_⟩;cases e2;exact⟨o,e,ex.2.1⟩
 |_=>exact False.elim ty
noncomputable def zzh (K:PySem.W.Frag) (T:String) (r:V→List V→Hp→VK→Prop) (to:TE):TE:=fun σ H Q=>to σ H fun x H1=>tyV K T x H1∧r x [] H1 Q
noncomputable def tBM (K:PySem.W.Frag) (T:String) (r:V→List V→Hp→VK→Prop) (to:TE) (t:TA):TE:=fun σ H Q=>to σ H fun x H1=>tyV K T x H1∧t σ H1 fun xs H2=>r x xs H2 Q
variable {o e:Expr}{es:List Expr}{to:TE}{t:TA}{name:Str}{apos cpos:Pos}{T id:String}{r:V→List V→Hp→VK→Prop}
theorem zwC (pa:PlainAttrs T) (slot:Slot T name id) (hty:typeOf (.builtin id)=pure (.type "method_descriptor")) (hm:MtR X id r) (ho:PE X o to)
  (hbase:attributeBase o name X.env (eval o X.env)=eval o X.env:=by rfl) (hline:(apos.endLine == cpos.line)=true:=by rfl):PE X (.Call (.Attribute o name apos) [] [] cpos) (zzh X.K T r to):=by
 intro pins s σ H Q I h;refine wpAny_Call_method0_late hbase hline (thn (ho pins s σ H _ I h) fun v s1 ⟨x,H1,I1,r1,ty,q1⟩=>?_);obtain⟨h1,h2⟩:=zrU I1 r1 ty;exact⟨T,id,pa,slot,hty,h1,h2,Calls.callWith_builtin rfl (PySem.evalArgs_none (hm pins s1 σ H1 x [] v [] Q I1 r1 .nil q1))⟩
theorem zvi (pa:PlainAttrs T) (slot:Slot T name id) (hty:typeOf (.builtin id)=pure (.type "method_descriptor")) (hm:MtR X id r) (ho:PE X o to) (ha:PA X (e::es) t)
  (hbase:attributeBase o name X.env (eval o X.env)=eval o X.env:=by rfl)
  (hfew:((backTo cpos (starEach (e::es) X.env)).all (fun x=> !x.1)&&(backToKw cpos (keywordEach [] X.env)).all (fun x=>x.1.isSome)
   &&decide ((e::es).length+([]:List Keyword).length+(if([]:List Keyword).isEmpty then 0 else 1)<30))=true:=by rfl)
  (hline:(apos.endLine == cpos.line)=true:=by rfl) (hs:starEach (e::es) X.env=(false,eval e X.env)::starEach es X.env:=by rfl) (hplain:(backTo cpos (starEach es X.env)).any (·.1)=false:=by rfl) :
  PE X (.Call (.Attribute o name apos) (e::es) [] cpos) (tBM X.K T r to t):=by
 intro pins s σ H Q I h;refine wpAny_Call_method_late hbase hfew hline rfl (thn (ho pins s σ H _ I h) fun v s1 ⟨x,H1,I1,r1,ty,q1⟩=>?_);obtain⟨h1,h2⟩:=zrU I1 r1 ty;refine⟨T,id,pa,slot,hty,h1,h2,?_⟩;have hA:=ha cpos pins s1 σ H1 _ I1 q1;rw [hs]at hA⊢;refine Calls.callWith_builtin (by show(false || (backTo cpos (starEach es X.env)).any (·.1))=false;rw [hplain]<;>rfl) (Calls.evalArgs_plain ?_)
 exact thn hA fun us s2 ⟨vs,H2,I2,r2,q2⟩=>hm pins s2 σ H2 x vs v us Q I2 r1 r2 q2
end
noncomputable def MtM (X:Cx) (id:String) (r:V→List V→Hp→VK→Prop):Prop:=
 ∀(pins:List (Addr×Obj)) (s:Shared) (σ:St) (H:Hp) (x:V) (xs:List V) (v:Value) (us:List Value) (Q:VK),Inv X pins σ H s→RelV x v→Vals xs us→r x xs H Q→
  wpAny (model X.prog X.w) X.A (call (.builtin id) (v::us)) (EP X pins σ Q) X.xe s
theorem Vals.one:∀{x:V}{us:List Value},Vals [x] us→ ∃u,us=[u]∧RelV x u
 |_,_, .cons r .nil=>⟨_,rfl,r⟩
theorem Vals.rep{xs:List V}{us:List Value}(h:Vals xs us):∀k:Nat,Vals (List.replicate k xs).flatten (List.replicate k us).flatten
 |0=> .nil
 |k+1=>by
  rw [List.replicate_succ,List.replicate_succ,List.flatten_cons,List.flatten_cons];exact Vals.append h (Vals.rep h k)
theorem zjG (its:List Value):∀(k:Nat) (acc:List Value),
  List.foldl (fun x1 x2=>x1++x2) acc.toArray (List.replicate k its.toArray)=(acc++(List.replicate k its).flatten).toArray
 |0,acc=>by simp
 |k+1,acc=>by
  have e:acc.toArray++its.toArray=(acc++its).toArray:=by simp
  have e2:(acc++its)++(List.replicate k its).flatten=acc++(List.replicate (k+1) its).flatten:=by
   rw [List.replicate_succ,List.flatten_cons,List.append_assoc]
  rw [←e2,←zjG its k (acc++its),←e,List.replicate_succ,List.foldl_cons]
section
variable {X:Cx}{pins:List (Addr×Obj)}{σ:St}{H:Hp}{s:Shared}{l:Addr}{xs ys:List V}
theorem Inv.lset{its its':List Value}{n:Nat}{f:Array Value→Array Value}{t':Nat}(I:Inv X pins σ H s) (hH:H l=some (.lst xs))
  (e:s.heap.get? l=some { cls:= .type "list",data:= .seq its.toArray n }) (hf:f its.toArray=its'.toArray) (hv:Vals ys its') (hz:ys.length≤sizeLine) :
  Inv X pins σ (upd H l (.lst ys)) { s with heap:=s.heap.update l (Obj.mapSeq f),toks:=t' }:=by
 have q:=PySem.IsL.update e f;rw [hf]at q;refine I.write (x:=l) (e:=l) (by rw [hH];exact trivial) (.inl rfl) (fun b' u hb hu=>(Heap.get?_update_other s.heap (Obj.mapSeq f) (Ne.symm hb)).trans hu) ⟨_,q⟩ ?_;exact⟨hz,its',_,hv,q⟩
theorem Inv.lnew{its:List Value}{t':Nat}(I:Inv X pins σ H s) (hv:Vals ys its) (hz:ys.length≤sizeLine) :
  Inv X pins σ (upd H s.heap.objs.size (.lst ys)) { s with heap:=s.heap.push { cls:= .type "list",data:= .seq its.toArray },toks:=t' }:=
 I.laid (fun _ _ q=>Heap.get?_push_of_some _ q) (Nat.le_refl _) ⟨hz,its,0,hv,Heap.get?_push_size _ rfl⟩
theorem Inv.fresh (I:Inv X pins σ H s):H s.heap.objs.size=none:=I.hok.fresh (Nat.le_refl _)
theorem Inv.lstM (I:Inv X pins σ H s) (hH:H l=some (.lst xs)):xs.length≤sizeLine∧ ∃(its:List Value) (n:Nat),Vals xs its∧xs.length=its.length∧s.heap.get? l=some { cls:= .type "list",data:= .seq its.toArray n }:=by
 obtain⟨z,its,n,r,e⟩:=I.hok l _ hH;exact⟨z,its,n,r,r.length,e⟩
theorem ziN{n:Nat}(h:n≤sizeLine):Builtin.List.listTooLong n=false:=by
 unfold Builtin.List.listTooLong;exact decide_eq_false (by omega)
end
section
variable {X:Cx}
noncomputable def zpz:V→List V→Hp→VK→Prop:=fun x vs H Q=>∃l xs y,x= .ref l∧vs=[y]∧H l=some (.lst xs)∧xs.length<sizeLine∧Q .non (upd H l (.lst (xs++[y])))
theorem zjj:MtM X "list.append" zpz:=by
 intro pins s σ H x vs v us Q I rx rv h;obtain⟨l,xs,y,rfl,rfl,hH,hz,q⟩:=h;cases rx;obtain⟨u,rfl,ru⟩:=rv.one;obtain⟨z,its,n,r,hl,e⟩:=I.lstM hH;refine call_meets F.slot_list_append ⟨_,e,rfl⟩ F.entry_list_append (F.args_list_append_2 _ _) (PySem.list_append l its.toArray n u (by rw [List.size_toArray];omega)) ⟨e,?_⟩;refine⟨.non,_,I.lset (its':=its++[u]) hH e (by simp) (r.append (.cons ru .nil)) ?_,rfl,q⟩;rw [List.length_append,List.length_singleton];omega
noncomputable def zpl:V→List V→Hp→VK→Prop:=fun x vs H Q=>∃l b xs zs,x= .ref l∧vs=[.ref b]∧H l=some (.lst xs)∧H b=some (.lst zs)∧xs.length+zs.length≤sizeLine∧Q .non (upd H l (.lst (xs++zs)))
theorem zpj:MtM X "list.extend" zpl:=by
 intro pins s σ H x vs v us Q I rx rv h;obtain⟨l,b,xs,zs,rfl,rfl,hH,hB,hz,q⟩:=h;cases rx;obtain⟨u,rfl,ru⟩:=rv.one;cases ru;obtain⟨z,its,n,r,hl,e⟩:=I.lstM hH;obtain⟨z2,its2,n2,r2,hl2,e2⟩:=I.lstM hB;have hsz:its.toArray.size+its2.toArray.size≤sizeLine:=by rw [List.size_toArray,List.size_toArray];omega
 have hlong:¬(!its.toArray.isEmpty&&Builtin.List.listTooLong (its.toArray.size+its2.toArray.size))=true:=by
  rw [ziN hsz,Bool.and_false];exact Bool.false_ne_true
 refine call_meets F.slot_list_extend ⟨_,e,rfl⟩ F.entry_list_extend (F.args_list_extend_2 _ _)
  (AutoSeq1.list_extend_list_list_0 l its.toArray n b its2.toArray n2 hlong (by rw [List.size_toArray];omega) (by omega)) ⟨e,e2,?_⟩
 refine⟨.non,_,I.lset (its':=its++its2) hH e (by simp) (r.append r2) ?_,rfl,q⟩;rw [List.length_append];omega
noncomputable def zyf:R2:=fun x y H Q=>∃l b xs zs,x= .ref l∧y= .ref b∧H l=some (.lst xs)∧H b=some (.lst zs)∧xs.length+zs.length≤sizeLine∧ ∀p,H p=none→Q (.ref p) (upd H p (.lst (xs++zs)))
theorem zmp:OpR X (binaryOp .Add) zyf:=by
 intro pins s σ H x y v u Q I rx ry h;obtain⟨l,b,xs,zs,rfl,rfl,hH,hB,hz,q⟩:=h;cases rx;cases ry;obtain⟨z,its,n,r,hl,e⟩:=I.lstM hH;obtain⟨z2,its2,n2,r2,hl2,e2⟩:=I.lstM hB;refine PySem.P.add_list e e2 ?_ (by rw [List.size_toArray,List.size_toArray];omega);have ea:its.toArray++its2.toArray=(its++its2).toArray:=by simp
 rw [ea];exact⟨.ref _,_,I.lnew (t':=s.toks) (r.append r2) (by rw [List.length_append];omega),rfl,q _ I.fresh⟩
noncomputable def zzH:R2:=fun x y H Q=>∃l k xs,x= .ref l∧y= .int k∧H l=some (.lst xs)∧ -(2 ^ 63)≤k∧k<2 ^ 63∧xs.length*k.toNat≤sizeLine∧
 ∀p,H p=none→Q (.ref p) (upd H p (.lst (List.replicate k.toNat xs).flatten))
theorem ztf{α:Type}(xs:List α) (k:Nat):(List.replicate k xs).flatten.length=k*xs.length:=by
 induction k with
 |zero=>simp
 |succ k ih=>rw [List.replicate_succ,List.flatten_cons,List.length_append,ih,Nat.succ_mul,Nat.add_comm]
theorem zvx:OpR X (binaryOp .Mult) zzH:=by
 intro pins s σ H x y v u Q I rx ry h;obtain⟨l,k,xs,rfl,rfl,hH,h1,h2,hz,q⟩:=h;cases rx;obtain⟨t,rfl⟩:=ry;obtain⟨z,its,n,r,hl,e⟩:=I.lstM hH;have hlen:its.toArray.size*k.toNat≤sizeLine:=by rw [List.size_toArray,←hl];exact hz
 have hcap:¬its.toArray.size*k.toNat > (2 ^ 63 - 1) / 8:=by
  have:(sizeLine:Nat)≤(2 ^ 63 - 1) / 8:=by decide
  omega
 have hfit:¬(!Builtin.List.listFitsIndex k)=true:=by
  rw [fitsIndex_both h1 h2];exact Bool.false_ne_true
 have hlong:¬Builtin.List.listTooLong (its.toArray.size*k.toNat)=true:=by
  rw [ziN hlen];exact Bool.false_ne_true
 have hnew:List.foldl (fun x1 x2=>x1++x2) #[] (List.replicate (if its.toArray.isEmpty=true then 0 else k.toNat) its.toArray)=(List.replicate k.toNat its).flatten.toArray:=by
  have f0:∀m:Nat,List.foldl (fun x1 x2=>x1++x2) #[] (List.replicate m its.toArray)=(List.replicate m its).flatten.toArray:=fun m=>by
   have:=zjG its m [];rw [List.nil_append]at this;exact this
  rw [f0];cases its with
  |nil=>simp
  |cons a r'=>rw [if_neg (by simp)]
 refine wpAny_binaryOp_repeat_ref (T:= "list") (U:= "int") (by decide) ⟨_,e,rfl⟩ (fun s'=>typeIs_int s' k t) noFill_list_mul F.fills_int_mul F.slot_int_rmul repeat_list F.slot_int_index.lookup
  (call_meets F.slot_int_rmul (typeIs_int s k t) F.entry_int_rmul (F.args_int_rmul_2 _ _) (int___rmul___int_list k t l its.toArray n)
   ⟨e,rfl,⟨_,e,rfl⟩,call_meets F.slot_list_mul ⟨_,e,rfl⟩ F.entry_list_mul (F.args_list_mul_2 _ _) (AutoListH.list___mul___list_int_3 l its.toArray n k t hfit hcap hlong) ⟨e,?_⟩⟩)
 rw [hnew];exact⟨.ref _,_,I.lnew (t':=s.toks) (r.rep k.toNat) (by rw [ztf,Nat.mul_comm];exact hz),rfl,q _ I.fresh⟩
end
end L2
namespace Att
open PySem PySem.W PySem.Calls PyProof.Rows
theorem zgM{P:Params}{h:Heap}:∀(ns:List Int) (vs:List Value),WellAll P h vs (ns.map WData.int)→IntsAre vs ns:=by
 intro ns
 induction ns with
 |nil=>
  intro vs w;rw [List.map_nil]at w;cases w;exact .nil
 |cons n ns ih=>
  intro vs w;rw [List.map_cons]at w;cases w with
  |cons a b=>
   cases a;exact .cons _ _ (ih _ b)
theorem zon{l:OpenLaw}{n:Nat}(hn:l.most=some n) {P:Params}{h:Heap}{args:List WData}{vals:List Value}
  (hpre:l.row.toRowW.claim.pre args=true) (hwl:WellAll P h vals args) :
  ∃a vs ns,vals=[Value.ref a]∧args=[WData.list (ns.map WData.int)]∧h.get? a=some { cls:= .type "list",data:= .seq vs.toArray }∧IntsAre vs ns∧ns.length≤n:=by
 have hsh:WShape.hasAll [] args [.list .int]=true:=(pre_splitW hpre).1;have hc:l.pre.holds [] { args:=args }=true:=(pre_splitW hpre).2;obtain⟨d,r,rfl,h1,h2⟩:=hasAllW_cons hsh;obtain rfl:=hasAllW_nil h2;obtain⟨xs,rfl,h3⟩:=hasW_list h1;obtain⟨ns,rfl⟩:=items_int h3;have hlen:ns.length≤n:=by
  unfold OpenLaw.pre at hc;have h4:(WTm.not (.lt (.lit (.int (n:Int))) (.len (.arg 0)))).holds [] { args:=[.list (ns.map .int)] }=true:=by
   have h4:=(holds_andW hc).1;rw [hn]at h4;exact h4
  have h5:=condW_of h4 (w_not (w_lt w_lit (w_len_list (w_arg rfl))));rw [List.length_map]at h5;refine Nat.le_of_not_lt fun q=>?_;have q':(n:Int)<((ns.length:Nat):Int):=by omega
  first
   | (rw [decide_eq_true q']at h5;exact absurd h5 (by decide))
   | (simp at h5;omega)
 cases hwl with
 |cons w1 w2=>
  cases w2;cases w1 with
  |list ho hall=>exact⟨_,_,ns,rfl,rfl,ho,zgM ns _ hall,hlen⟩
theorem zqe (l:OpenLaw) (args:List WData):l.row.toRowW.claim.post args (.bool true) args=true:=
 postW_of (r:=l.row.toRowW) (X:=(true == true))
  (show WShape.has [] (.bool true) .bool=true by first |rfl |decide |simp [WShape.has,WShape.arms,WShape.armsAll])
  (show(WTm.eq .res (.lit (.bool true))).value [] { args:=args,res:=some (.bool true),after:=args }=some (.bool (true == true)) from w_eq_bool (w_res rfl) w_lit) rfl
theorem attach_call{l:OpenLaw}{n:Nat}{q:Program}{loose:List Str}{XP:(Str→Option Value)→Heap→Prop}{YP:World→Heap→Prop}{d:DefRec}
  (hn:l.most=some n) (hdf:d.params.defaults=[])
  (call:∀(w:World) (s₀ s₁:Shared) (mg mb:Str→Option Value) (fa:Addr) (o:Obj) (pm cd doc:Value) (a:Addr) (vs:List Value) (ns:List Int),
   Ground q loose [] XP w s₀ mg mb s₁.heap→YP w s₁.heap→
   s₁.heap.get? fa=some o→o.data= .func (docDef d.name d.params d.body d.scope pm cd doc)→s₁.heap.CodeRec cd d.name→mg d.name=some (.ref fa)→
   s₁.heap.get? a=some { cls:= .type "list",data:= .seq vs.toArray }→IntsAre vs ns→ns.length≤n→s₁.gens= #[]→
   codeAny (model l.prog w) callerA (.call (.ref fa) ⟨[.ref a],[]⟩) (fun r s'=>r= .ok (.ret (.bool true))∧OldK s₁.heap s'.heap∧s'.os=s₁.os∧AllBare s'.gens) s₁) :
  WalkO q loose XP YP l.row.toRowW d [] (fun f vs=>PySem.call f vs):=by
 intro w s₀ s₁ mg mb G Y fa o pm cd doc dV kV ho hd hcd hD hmg hg args vals as hpre hlay hrd hwl hlo;obtain rfl:dV= .none:=Dflts.none hD hdf;obtain rfl:kV= .none:=Dflts.noKw hD;obtain⟨a,vs,ns,rfl,rfl,hobj,hints,hlen⟩:=zon hn hpre hwl;refine enter_call (codeAny_mono (call w s₀ s₁ mg mb fa o pm cd doc a vs ns G Y ho (fd_plain hd) hcd hmg hobj hints hlen hg) fun r s' hq=>?_);obtain⟨rfl,h2,h3,h4⟩:=hq;exact⟨.inl ⟨.bool true, .bool true,[],rfl,fun _=>rfl, .bool true,zqe l _,fun _=>⟨List.Pairwise.nil,fun _ hm=>(nomatch hm)⟩⟩,h2,h3,h4⟩
end Att
namespace L2
open PySem PySem.Spec PyProof.Rows
theorem zjB:∀{vs:List Value}{ns:List Int},IntsAre vs ns→Vals (ns.map V.int) vs
 |_,_, .nil=> .nil
 |_,_, .cons n t h=> .cons ⟨t,rfl⟩ (zjB h)
noncomputable def zwU (H:Hp):Prop:=∀b,H b=none∨ ∃o xs,H b=some (.frz o (.lst xs))
theorem zqR{P:Program}{w:World}{K:PySem.W.Frag}{mg mb:Str→Option Value}{CX:CXT}{k:Nat}{fa a:Addr}{fd:FuncData}{x:Str}{sp:Sp}{s₁:Shared}{vs:List Value}{ns:List Int}
  (KX:K.In s₁.heap) (hns:s₁.heap.Ns mainGlobals mg) (hb:s₁.heap.Ns builtinsNs mb) (hbb:∀x:Str,x≠ "__name__" →mb x=bootBuiltins x) (hlim:s₁.heap.NoLimit) (hg:s₁.gens= #[])
  (ha:s₁.heap.get? a=some { cls:= .type "list",data:= .seq vs.toArray }) (hi:IntsAre vs ns) (hl:ns.length≤sizeLine) (hr:Room k callerA)
  (F:∀base:Heap,K.In base→base.Ns mainGlobals mg→FnOk P w K mg base CX k fa fd [x] sp) (hbind:∀(s:Shared) (u:Value),BindsTo s fd ⟨[u],[]⟩ [(x,u)])
  (hsp:∀H:Hp,zwU H→SqL K H a (ns.map V.int)→sp [.ref a] H (fun v _=>v= .bl true) fun _ _ _=>False)
  (hCX:∀H e s',CX [] H s₁ (fun _ _ _=>False) e s'→False) :
  codeAny (model P w) callerA (.call (.ref fa) ⟨[.ref a],[]⟩) (fun r s'=>r= .ok (.ret (.bool true))∧OldK s₁.heap s'.heap∧s'.os=s₁.os∧AllBare s'.gens) s₁:=by
 have rv:=zjB hi;have lenV:=hi.length;have core:∀H:Hp,zwU H→SqL K H a (ns.map V.int)→HOk P w H s₁.heap→(∀b,H b≠none→b=a)→(H a≠none→K.lookup a=none)→
   codeAny (model P w) callerA (.call (.ref fa) ⟨[.ref a],[]⟩) (fun r s'=>r= .ok (.ret (.bool true))∧OldK s₁.heap s'.heap∧s'.os=s₁.os∧AllBare s'.gens) s₁:=by
  intro H hO hS hok hA hK;have base_of:∀{b:Addr}{o:Obj},s₁.heap.get? b=some o→H b=none→(zqS s₁.heap H).get? b=some o:=fun e n=>zqn e n;have noA:∀{b:Addr}{o:Obj}{es:Array DictEntry}{ep:Nat},s₁.heap.get? b=some o→o.data= .dict es ep→H b=none:=fun {b o es ep} e d=>by
   cases q:H b with
   |none=>rfl
   |some u=>
    have e':b=a:=hA b (by rw [q];simp);subst e';rw [ha]at e;cases e;have d':Data.seq vs.toArray _=Data.dict es ep:=d;cases d'
  have nsK:∀{b:Addr}{m:Str→Option Value},s₁.heap.Ns b m→(zqS s₁.heap H).Ns b m:=fun {b m} ⟨o,es,ep,e,d,r⟩=>⟨o,es,ep,base_of e (noA e d),d,r⟩;have hKb:K.In (zqS s₁.heap H):=fun b o e=>base_of (KX b o e) (by
   cases q:H b with
   |none=>rfl
   |some u=>
    have e':b=a:=hA b (by rw [q];simp);subst e';rw [hK (by rw [q];simp)]at e;cases e)
  have hM:Mod K mg (zqS s₁.heap H):=⟨hKb,nsK hns,⟨mb,nsK hb,hbb⟩,let ⟨mc,h1,h2⟩:=hlim;⟨mc,nsK h1,h2⟩⟩;have e0:Env0 P w K mg (zqS s₁.heap H) callerA [] s₁ H:=⟨rfl,hM,fun b o e=>zsO e,Nat.le_of_eq (zoI _ _),trivial,fun b hb=>absurd (show b∈([]:List Addr) from hb) (by simp),hok, .of_eq hg⟩;refine codeAny_mono ((F _ hKb (nsK hns)).run callerA [] s₁ H ⟨[.ref a],[]⟩ [.ref a] [.ref a] _ _ hr e0 (hbind s₁ (.ref a)) (.cons rfl .nil) (hsp H hO hS)) fun r s' h=>?_;cases r with
  |error e=>exact(hCX H e s' h).elim
  |ok fl=>
   cases fl with
   |next=>exact False.elim h
   |brk=>exact False.elim h
   |cont=>exact False.elim h
   |ret u=>
    obtain⟨v,H',os,bare,un,hok',r',q⟩:=h;have q':v= .bl true:=q;subst q';obtain rfl:u=Value.bool true:=r';refine⟨rfl,OldK.of_keep fun b o e=>?_,os,bare⟩;cases q:H b with
    |none=>exact un.keep b o e q (by intro z;exact absurd (show b∈([]:List Addr) from z) (by simp)) (by simp)
    |some u=>
     rcases hO b with z |⟨ob,xs,z⟩
     ·rw [q]at z;cases z
     ·have z2:=un.frzs b ob _ z;obtain⟨e1,_⟩:=hok b _ z;obtain⟨e2,_⟩:=hok' b _ z2;rw [e]at e1;cases e1;exact e2
 cases hk:K.lookup a with
 |some o=>
  have e:=KX a o hk;rw [ha]at e;cases e;refine core (fun _=>none) (fun _=> .inl rfl) (.inr ⟨_,vs.toArray,_,hk,rfl,rfl,rfl,by rw [List.size_toArray,lenV];exact hl,by simpa using rv⟩) (fun b u z=>by have z':(none:Option HO)=some u:=z;cases z') (fun b z=>absurd rfl z) fun z=>absurd rfl z
 |none=>
  refine core (fun b=>if b=a then some (.frz { cls:= .type "list",data:= .seq vs.toArray } (.lst (ns.map V.int))) else none) (fun b=>?_) (.inl (.inr ⟨{ cls:= .type "list",data:= .seq vs.toArray },if_pos rfl⟩)) (fun b u z=>?_) (fun b z=>?_) fun _=>hk
  ·by_cases hb:b=a
   ·exact .inr ⟨_,_,if_pos hb⟩
   ·exact .inl (if_neg hb)
  ·by_cases hb:b=a
   ·have z':=(if_pos hb).symm.trans z;cases z';subst hb;exact⟨ha,by rw [List.length_map];exact hl,vs,_,rv,ha⟩
   ·have z':=(if_neg hb).symm.trans z;cases z'
  ·by_cases hb:b=a
   ·exact hb
   ·exact absurd (if_neg hb) z
theorem ztX{l:PySem.W.OpenLaw}{n k:Nat}{q:Program}{loose:List Str}{XP:(Str→Option Value)→Heap→Prop}{YP:World→Heap→Prop}{d:DefRec}{K:Params→PySem.W.Frag}{CX:World→CXT}{sp:World→Sp}{x:Str}
  (hn:l.most=some n) (hn2:n≤sizeLine) (hdf:d.params.defaults=[]) (hr:Room k callerA)
  (hY:∀(w:World) (h:Heap),YP w h→(K w.params).In h)
  (F:∀(w:World) (mg:Str→Option Value) (fa:Addr) (h:Heap),(K w.params).In h→h.Ns mainGlobals mg→mg d.name=some (.ref fa)→
   ∃fd:FuncData,(∀(s:Shared) (u:Value),BindsTo s fd ⟨[u],[]⟩ [(x,u)])∧
    ∀base:Heap,(K w.params).In base→base.Ns mainGlobals mg→FnOk l.prog w (K w.params) mg base (CX w) k fa fd [x] (sp w))
  (hsp:∀(w:World) (H:Hp) (a:Addr) (ns:List Int),ns.length≤n→zwU H→SqL (K w.params) H a (ns.map V.int)→sp w [.ref a] H (fun v _=>v= .bl true) fun _ _ _=>False)
  (hCX:∀(w:World) (H:Hp) (s:Shared) (e:Value) (s':Shared),CX w [] H s (fun _ _ _=>False) e s'→False) :
  PySem.W.WalkO q loose XP YP l.row.toRowW d [] (fun f vs=>PySem.call f vs):=by
 refine Att.attach_call hn hdf fun w s₀ s₁ mg mb fa o pm cd doc a vs ns G Y ho hd hcd hmg hobj hints hlen hg=>?_;have KX:=hY w _ Y;obtain⟨fd,hb,hF⟩:=F w mg fa _ KX G.T.g hmg;exact zqR KX G.T.g G.T.b G.T.builtins G.T.nolimit hg hobj hints (Nat.le_trans hlen hn2) hr hF hb (fun H hO hS=>hsp w H a ns hlen hO hS) fun H e s'=>hCX w H s₁ e s'
noncomputable def zhk (s:Stmt):Arguments:=match s with
 | .FunctionDef _ a _ _ _ _ _ _ _ _=>a
 |_=>{ posonlyargs:=[],args:=[],vararg:=none,kwonlyargs:=[],kw_defaults:=[],kwarg:=none,defaults:=[] }
noncomputable def zeQ (s:Stmt):List Stmt:=match s with
 | .FunctionDef _ _ b _ _ _ _ _ _ _=>b
 |_=>[]
noncomputable def zak (s:Stmt):Scope:=match s with
 | .FunctionDef _ _ _ _ _ _ sc _ _ _=>sc
 |_=>{ kind:= .function,names:=[],isGenerator:=false,isCoroutine:=false }
noncomputable abbrev CX0:CXT:=fun _ _ _ _ _ _=>False
noncomputable abbrev E0:XK:=fun _ _ _=>False
theorem zxR{X:Cx}:zoT CX0 X E0:=fun _ _ _ _ _ _ _ h=>h.elim
structure Fun (K:PySem.W.Frag) (x qual:Str) (st:Stmt) (f:Addr) (fd:FuncData):Prop where
  ex:∃(oc:Value) (od:Option Addr) (kV doc pm:Value) (an:Option Addr) (cdv ct:Value) (osl:Array (Option Value)),
    fd=PySem.W.fnOf x qual (zhk st) (zeQ st) (zak st) .none kV doc pm an cdv ct∧K.lookup f=some ⟨oc,od, .func fd,osl⟩∧PySem.W.codeIn K cdv qual=true
  kp:PySem.W.keepIn K (.ref f)=true
section
variable {P:Program}{w:World}{K:PySem.W.Frag}{mg:Str→Option Value}{base:Heap}
theorem Fun.ok{x qual:Str}{st:Stmt}{f:Addr}{fd:FuncData}{N ps:List Str}{k:Nat}{sp:Sp}(F:Fun K x qual st f fd) (S:FnScope N ps (zak st)) (len:∀vs H Q E,sp vs H Q E→vs.length=ps.length)
  (hbody:∀(cdv:Value) (A:Around) (outer:List Env) (s:Shared) (H:Hp) (vs:List V) (Q:VK) (E:XK),Room k (A.deeper (envOfC qual (zak st) s.heap.objs.size f cdv))→sp vs H Q E→
   ∃t,PSs (ztt CX0 P w K mg base N qual (zak st) f cdv A outer s H E).nox (zeQ st) t∧t { nx:=fun _ H'=>Q .non H',rt:=Q } (start N vs) H):FnOk P w K mg base CX0 (k+1) f fd ps sp:=by
 obtain⟨oc,od,kV,doc,pm,an,cdv,ct,osl,rfl,lk,hcd⟩:=F.ex;refine zxy lk hcd S len fun A outer s H vs Q E hr hsp=>?_;obtain⟨t,h,q⟩:=hbody cdv A outer s H vs Q E hr hsp;exact⟨t,h.nox,q⟩
theorem Fun.binds{x qual:Str}{st:Stmt}{f:Addr}{fd:FuncData}{ps:List Str}(F:Fun K x qual st f fd)
  (h:∀(kV doc pm:Value) (an:Option Addr) (cdv ct:Value) (us:List Value),us.length=ps.length→bindArgs (PySem.W.fnOf x qual (zhk st) (zeQ st) (zak st) .none kV doc pm an cdv ct) ⟨us,[]⟩=pure (ps.zip us)):Binds K fd ps []:=by
 obtain⟨oc,od,kV,doc,pm,an,cdv,ct,osl,rfl,lk,hcd⟩:=F.ex;exact .all (h kV doc pm an cdv ct)
theorem zvt{x qual:Str}{st:Stmt}{f:Addr}{oc:Value}{od an:Option Addr}{osl:Array (Option Value)}{kV doc pm cdv ct:Value}(l:K.lookup f=some ⟨oc,od, .func (PySem.W.fnOf x qual (zhk st) (zeQ st) (zak st) .none kV doc pm an cdv ct),osl⟩)
  (c:PySem.W.codeIn K cdv qual=true) (k:PySem.W.keepIn K (.ref f)=true):Fun K x qual st f (PySem.W.fnOf x qual (zhk st) (zeQ st) (zak st) .none kV doc pm an cdv ct):=⟨⟨oc,od,kV,doc,pm,an,cdv,ct,osl,rfl,l,c⟩,k⟩
end
theorem zzE{A B:Prop}(h:B):if false=true then A else B:=by
 rw [if_neg Bool.false_ne_true];exact h
theorem zyT{A B:Prop}(h:A):if true=true then A else B:=by
 rw [if_pos rfl];exact h
noncomputable def Same (H H':Hp):Prop:=∀b o,H b=some o→H' b=some o
theorem Same.trans{H H1 H2:Hp}(a:Same H H1) (b:Same H1 H2):Same H H2:=fun c o h=>b c o (a c o h)
section
variable {κ:Type} [DecidableEq κ]
noncomputable def zmK (kvs:List (κ×V)) (k:κ):Option V:=(kvs.find? fun kv=>decide (kv.1=k)).map (·.2)
noncomputable def zqi (kvs:List (κ×V)) (k:κ) (v:V):List (κ×V):=
 if(kvs.any fun kv=>decide (kv.1=k))=true then kvs.map (fun kv=>if kv.1=k then(kv.1,v) else kv) else kvs++[(k,v)]
theorem zgu{p:κ×V}{r:List (κ×V)}{k:κ}(e:p.1=k):zmK (p::r) k=some p.2:=by simp [zmK,List.find?_cons,e]
theorem zgq{p:κ×V}{r:List (κ×V)}{k:κ}(e:¬p.1=k):zmK (p::r) k=zmK r k:=by simp [zmK,List.find?_cons,e]
theorem zms (k:κ):∀kvs:List (κ×V),(kvs.any fun kv=>decide (kv.1=k))=(zmK kvs k).isSome
 | []=>rfl
 |p::r=>by
  rw [List.any_cons];by_cases e:p.1=k
  ·simp only[zgu e,decide_eq_true e,Bool.true_or,Option.isSome_some]
  ·rw [zgq e,decide_eq_false e,Bool.false_or];exact zms k r
theorem zla (kvs:List (κ×V)) (k:κ) (v:V):(zqi kvs k v).length≤kvs.length+1:=by
 unfold zqi;split
 ·rw [List.length_map];omega
 ·rw [List.length_append,List.length_cons,List.length_nil];omega
theorem RelO.isSome_eq{o:Option V}{u:Option Value}(r:RelO o u):o.isSome=u.isSome:=by
 cases o with
 |none=>cases u with
  |none=>rfl
  |some _=>exact(show False from r).elim
 |some _=>cases u with
  |none=>exact(show False from r).elim
  |some _=>rfl
theorem RelO.getD{o:Option V}{u:Option Value}{d:V}{d':Value}(r:RelO o u) (rd:RelV d d'):RelV (o.getD d) (u.getD d'):=by
 cases o with
 |none=>cases u with
  |none=>exact rd
  |some _=>exact(show False from r).elim
 |some _=>cases u with
  |none=>exact(show False from r).elim
  |some _=>exact r
theorem KV.val{kvs:List (κ×V)}{vs:List (κ×Value)}(r:KV kvs vs) (k:κ):RelO (zmK kvs k) (valueAt vs k):=by
 unfold KV at r
 induction r with
 |nil=>exact True.intro
 | @cons p q ps qs h t ih=>
  obtain⟨h1,h2⟩:=h;by_cases e:p.1=k
  ·have e':q.1=k:=h1.symm.trans e;have b:valueAt (q::qs) k=some q.2:=by simp [valueAt,List.find?_cons,e']
   rw [zgu e,b];exact h2
  ·have e':¬q.1=k:=fun z=>e (h1.trans z);have b:valueAt (q::qs) k=valueAt qs k:=by simp [valueAt,List.find?_cons,e']
   rw [zgq e,b];exact ih
theorem KV.length{kvs:List (κ×V)}{vs:List (κ×Value)}(r:KV kvs vs):kvs.length=vs.length:=Paired.length r
end
theorem zwN{P:Program}{w:World}{k:Key}{u:Value}(r:RelV (kV k) u):(zbs P w).is k u=true:=by
 cases k with
 |inl i=>obtain⟨t,e⟩:=(show ∃t,u=Value.int i t from r);subst e;exact zkL P w i t
 |inr x=>obtain⟨t,e⟩:=(show ∃t,u=Value.str x t from r);subst e;exact zln P w x t
theorem zjy{P:Program}{w:World}:∀{ks:List Key}{us:List Value},Vals (ks.map kV) us→ItemsAre (zbs P w) ks us
 | [],_,r=>by rw [List.map_nil]at r;cases r;exact .nil
 |k::ks,_,r=>by
  rw [List.map_cons]at r;cases r with
  |cons h t=>exact .cons (zwN h) (zjy t)
noncomputable abbrev KT (H:Hp):List (List Key×V)→List (List Key×Addr×Value)→Prop:=Paired fun p q=>p.1=q.1∧H q.2.1=some (.tup (p.1.map kV))∧RelV p.2 q.2.2
theorem KT.val{H:Hp}{kvs:List (List Key×V)}{xs:List (List Key×Addr×Value)}(r:KT H kvs xs) (k:List Key):RelO (zmK kvs k) ((atKey xs k).map (·.2)):=by
 induction r with
 |nil=>exact True.intro
 | @cons p q ps qs h t ih=>
  obtain⟨h1,_,h2⟩:=h;by_cases e:p.1=k
  ·have e':q.1=k:=h1.symm.trans e;have b:atKey (q::qs) k=some q.2:=by simp [atKey,List.find?_cons,e']
   rw [zgu e,b];exact h2
  ·have e':¬q.1=k:=fun z=>e (h1.trans z);have b:atKey (q::qs) k=atKey qs k:=by simp [atKey,List.find?_cons,e']
   rw [zgq e,b];exact ih
theorem KT.repl{H:Hp}{kvs:List (List Key×V)}{xs:List (List Key×Addr×Value)}(r:KT H kvs xs) (k:List Key) {y:V}{u:Value}(ry:RelV y u) :
  KT H (kvs.map fun kv=>if kv.1=k then(kv.1,y) else kv) (xs.map (putAt k u)):=by
 induction r with
 |nil=>exact .nil
 | @cons p q ps qs h t ih=>
  rw [List.map_cons,List.map_cons];refine .cons ?_ ih;obtain⟨h1,h2,h3⟩:=h;unfold putAt;by_cases e:p.1=k
  ·rw [if_pos e,if_pos (h1.symm.trans e)];exact⟨h1,h2,ry⟩
  ·rw [if_neg e,if_neg (fun z=>e (h1.trans z))];exact⟨h1,h2,h3⟩
theorem KT.put{H:Hp}{kvs:List (List Key×V)}{xs:List (List Key×Addr×Value)}(r:KT H kvs xs) (k:List Key) {b:Addr}{y:V}{u:Value}(hb:H b=some (.tup (k.map kV))) (ry:RelV y u) :
  KT H (zqi kvs k y) (storedH xs k b u):=by
 have e:(kvs.any fun kv=>decide (kv.1=k))=(atKey xs k).isSome:=by
  rw [zms,(r.val k).isSome_eq,Option.isSome_map]
 unfold zqi storedH;rw [e];by_cases q:(atKey xs k).isSome=true
 ·rw [if_pos q,if_pos q];exact r.repl k ry
 ·rw [if_neg q,if_neg q];exact Paired.snoc r ⟨rfl,hb,ry⟩
theorem KT.keeps{H H':Hp}{kvs:List (List Key×V)}{xs:List (List Key×Addr×Value)}(r:KT H kvs xs) (ht:∀b ys,H b=some (.tup ys)→H' b=some (.tup ys)):KT H' kvs xs:=
 Paired.mapP r fun _ _ z=>⟨z.1,ht _ _ z.2.1,z.2.2⟩
section
variable {P:Program}{w:World}{H:Hp}{h:Heap}{a:Addr}
theorem zwd{u:HO}(ok:HOk P w H h) (e:Rd H a u):ObjOk P w H h a u:=e.ok ok
theorem zxB{kvs:List (Key×V)}(ok:HOk P w H h) (e:Rd H a (.dK kvs)):kvs.length≤sizeLine∧(a == sysModules)=false∧ ∃vs,KV kvs vs∧h.DictOf (zbs P w) a vs:=
 show ObjOk P w H h a (.dK kvs) from zwd ok e
theorem zoq{ks:List Key}(ok:HOk P w H h) (e:H a=some (.tup (ks.map kV))):(tupleKind (zbs P w)).is h ks a:=by
 obtain⟨_,its,r,o,h1,h2,n,h3⟩:=(show ObjOk P w H h a (.tup (ks.map kV)) from ok a _ e);exact⟨o,its.toArray,n,h1,h2,h3,by simpa using zjy r⟩
theorem zyg{kvs:List (List Key×V)}(ok:HOk P w H h) (e:Rd H a (.dT kvs)):kvs.length≤sizeLine∧(a == sysModules)=false∧
  ∃xs,KT H kvs xs∧h.DictOfH (tupleKind (zbs P w)) a xs:=by
 obtain⟨z,y,xs,r,o,es,ep,h1,h2,h3,h4,h5⟩:=(show ObjOk P w H h a (.dT kvs) from zwd ok e);refine⟨z,y,xs,r,o,es,ep,h1,h2,h3,h4,fun x hx=>?_,h5⟩;have all:∀{l:List (List Key×V)}{m:List (List Key×Addr×Value)},KT H l m→ ∀x∈m,(tupleKind (zbs P w)).is h x.1 x.2.1:=by
  intro l m q
  induction q with
  |nil=>intro x hx;exact nomatch hx
  | @cons p q ps qs hq t ih=>
   intro x hx;rcases List.mem_cons.mp hx with e |hx
   ·subst e;exact zoq ok (by rw [←hq.1];exact hq.2.1)
   ·exact ih x hx
 exact all r x hx
end
noncomputable def DGet (H:Hp) (a:Addr) (y:V) (r:Option V):Prop:=
 (∃kvs k,Rd H a (.dK kvs)∧y=kV k∧r=zmK kvs k)∨ ∃kvs k b,Rd H a (.dT kvs)∧y= .ref b∧H b=some (.tup (k.map kV))∧r=zmK kvs k
theorem DGet.t{H:Hp}{a b:Addr}{kvs:List (List Key×V)}{k:List Key}(e:H a=some (.dT kvs)) (eb:H b=some (.tup (k.map kV))):DGet H a (.ref b) (zmK kvs k):= .inr ⟨kvs,k,b, .inl e,rfl,eb,rfl⟩
section
variable {X:Cx}{pins:List (Addr×Obj)}{σ:St}{H:Hp}{s:Shared}{a:Addr}{y:V}{u:Value}{o:Option V}{A:Around}{E:Value→Shared→Prop}
theorem Inv.big (I:Inv X pins σ H s):sysModules<s.heap.objs.size:=by
 have h:mainGlobals<s.heap.objs.size:=(I.mod.glob.keeps I.bk).lt;exact Nat.lt_trans (by decide) h
theorem zzT{Q:Value→Shared→Prop}(hu:A.units+1<cLine) (I:Inv X pins σ H s) (g:DGet H a y o) (ry:RelV y u) (h:∀s',Inv X pins σ H s'→Q (.bool o.isSome) s') :
  wpAny (model X.prog X.w) A (compareOp .In u (.ref a)) Q E s:=by
 rcases g with⟨kvs,k,e,ey,l⟩ |⟨kvs,k,b,e,ey,eb,l⟩
 ·subst ey;obtain⟨z,hd,vs,rel,dd⟩:=zxB I.hok e;refine wpAny_in_of (zwN ry) hd dd.mapOf ?_;rw [←(rel.val k).isSome_eq,←l];exact h _ (I.tok _)
 ·subst ey;cases(show u=Value.ref b from ry);obtain⟨z,hd,xs,rel,dd⟩:=zyg I.hok e;refine wpAny_in_heap (tupleKind_room_in1 hu) (zoq I.hok eb) hd dd ?_;have q:=(rel.val k).isSome_eq;rw [Option.isSome_map]at q;rw [←q,←l];exact h _ (I.tok _)
end
end L2
namespace Att
open PySem PySem.W PySem.Calls PyProof.Rows
end Att
namespace L2
open PySem PySem.Spec PyProof.Rows
section
variable {prog:Program}{w:World}{A:Around}{R:Result→Shared→Prop}{s:Shared}
theorem zjD{elt target iter:Expr}{ifs:List Expr}{scope:Scope}{pos:Pos}{it acc:Value}{env:Env}(I:Nat→Shared→Prop)
  (turn:∀n s,I n s→wpAny (model prog w) A (pyNext it) (fun r s₁=>match r with
   |none=>R (.ok .next) s₁
   |some v=>wpAny (model prog w) A (letOwnedTupleGo target it v) (fun _ s₀=>wpAny (model prog w) A (assign target env v) (fun _ s₂=>
     wpAny (model prog w) A (forIn ifs true fun c r=>if r=true then do let ok ←isTrue c env (eval c env);pure (ForInStep.yield ok) else pure (ForInStep.yield r)) (fun ok s₃=>
      if ok=true then wpAny (model prog w) A (eval elt env) (fun x s₄=>
       wpAny (model prog w) A (call (.builtin "list.append") [acc,x]) (fun _ s₅=>∃m,m<n∧I m s₅) (fun _ _=>False) s₄) (fun _ _=>False) s₃
      else ∃m,m<n∧I m s₃) (fun _ _=>False) s₂) (fun _ _=>False) s₀) (fun _ _=>False) s₁) (fun _ _=>False) s)
  (n:Nat) (h:I n s) :
  codeAny (model prog w) A (.compLoop (.ListComp elt [⟨target,iter,ifs,0⟩] scope pos) 0 it acc env) R s:=by
 refine codeAny_loop rfl I (fun n s hI=>?_) n h;show wpAny _ A ((compTurn (.ListComp elt [⟨target,iter,ifs,0⟩] scope pos) 0 it acc env).onRaise (fun x=>do noteFrame x env;theTreesLotGoes x)) _ _ s;refine wpAny_noted ?_;rw [compTurn_list];refine wpAny_bind (wpAny_standAt (wpAny_bind (wpAny_mono (turn n s hI) (fun r s₁ h₁=>?_) fun _ _ h'=>h'.elim)));cases r with
 |none=>exact wpAny_pure h₁
 |some v=>
  refine wpAny_bind (wpAny_mono h₁ (fun _ s₀ h₀=>?_) fun _ _ h'=>h'.elim);refine wpAny_bind (wpAny_mono h₀ (fun _ s₂ h₂=>wpAny_bind (wpAny_mono h₂ (fun ok s₃ h₃=>?_) fun _ _ h'=>h'.elim)) fun _ _ h'=>h'.elim);cases ok with
  |false=>exact wpAny_pure ⟨rfl,h₃⟩
  |true=>
   exact wpAny_bind (wpAny_bind (wpAny_mono h₃ (fun x s₄ h₄=>wpAny_bind (wpAny_mono h₄ (fun _ s₅ h₅=>wpAny_pure (wpAny_pure ⟨rfl,h₅⟩)) fun _ _ h'=>h'.elim)) fun _ _ h'=>h'.elim))
end
noncomputable def zhB (cells:List (Str×Addr)):List (Str×NameKind)→List (Str×Addr)→List (Str×Addr)
 | [],acc=>acc
 | (n,k)::r,acc=>if(k == NameKind.free)=true then zhB cells r ((n,(cells.lookup n).getD 0)::acc) else zhB cells r acc
theorem zna{scope:Scope}{env:Env}(h:∀y∈scope.names,y.2= .free→ ∃c,env.cells.lookup y.1=some c) :
  closureFor scope env=pure (zhB env.cells scope.names []):=by
 have go:∀(l:List (Str×NameKind)) (acc:List (Str×Addr)),(∀y∈l,y.2= .free→ ∃c,env.cells.lookup y.1=some c)→
   (forIn l acc fun(x:Str×NameKind) (cs:List (Str×Addr))=>(if(x.2 == NameKind.free)=true then(do let a ←cellOf env x.1;pure (ForInStep.yield ((x.1,a)::cs))) else pure (ForInStep.yield cs):Sem (ForInStep (List (Str×Addr)))))=(pure (zhB env.cells l acc):Sem (List (Str×Addr))):=by
  intro l
  induction l with
  |nil=>intro acc _;rfl
  |cons x l ih=>
   intro acc hl;obtain⟨n,k⟩:=x;have hr:=fun y hy=>hl y (List.mem_cons_of_mem _ hy);rw [List.forIn_cons];by_cases hk:k= .free
   ·subst hk;obtain⟨c,hc⟩:=hl (n, .free) List.mem_cons_self rfl;have hc':env.cells.lookup n=some c:=hc;have e:cellOf env n=pure c:=by unfold cellOf;rw [hc']
    have e2:zhB env.cells ((n,NameKind.free)::l) acc=zhB env.cells l ((n,c)::acc):=by
     show(if(NameKind.free == NameKind.free)=true then zhB env.cells l ((n,(env.cells.lookup n).getD 0)::acc) else zhB env.cells l acc)=_;rw [if_pos (by rfl),hc'];rfl
    dsimp only;rw [if_pos (by rfl),e,pure_bind,pure_bind,e2];exact ih _ hr
   ·have hb:¬(k == NameKind.free)=true:=by simpa using hk
    have e2:zhB env.cells ((n,k)::l) acc=zhB env.cells l acc:=by
     show(if(k == NameKind.free)=true then zhB env.cells l ((n,(env.cells.lookup n).getD 0)::acc) else zhB env.cells l acc)=_;rw [if_neg hb]
    dsimp only;rw [if_neg hb,pure_bind,e2];exact ih _ hr
 have q:=go scope.names [] h;unfold closureFor
 first
  |exact(bind_pure _).trans q
  | (simp only[bind_pure];exact q)
  | (simp only[pure_bind,bind_assoc,bind_pure];exact q)
theorem ziS{cells:List (Str×Addr)}{x:Str}{c:Addr}:∀(l:List (Str×NameKind)) (acc:List (Str×Addr)),(∀y∈l,y.2= .free→ ∃c,cells.lookup y.1=some c)→
  (zhB cells l acc).lookup x=some c→acc.lookup x=some c∨cells.lookup x=some c
 | [],acc,_,h=> .inl h
 | (n,k)::r,acc,hl,h=>by
  have hr:=fun y hy=>hl y (List.mem_cons_of_mem (n,k) hy);by_cases hk:k= .free
  ·subst hk;have h':(zhB cells r ((n,(cells.lookup n).getD 0)::acc)).lookup x=some c:=h;rcases ziS r _ hr h' with q |q
   ·rw [List.lookup_cons]at q;cases e:x == n with
    |true=>
     rw [e]at q;obtain⟨d,hd⟩:=hl (n, .free) List.mem_cons_self rfl;have hd':cells.lookup n=some d:=hd;have e1:x=n:=eq_of_beq e;rw [hd']at q;have q':d=c:=Option.some.inj q;exact .inr (by rw [e1,hd',q'])
    |false=>
     rw [e]at q;exact .inl q
   ·exact .inr q
  ·have hb:¬(k == NameKind.free)=true:=by simpa using hk
   have h':(if(k == NameKind.free)=true then zhB cells r ((n,(cells.lookup n).getD 0)::acc) else zhB cells r acc).lookup x=some c:=h;rw [if_neg hb]at h';exact ziS r acc hr h'
theorem zgs{cells:List (Str×Addr)}{x:Str}:∀(l:List (Str×NameKind)) (acc:List (Str×Addr)),((x,NameKind.free)∈l∨ ∃c,acc.lookup x=some c)→ ∃c,(zhB cells l acc).lookup x=some c
 | [],acc,h=>by
  rcases h with h |h
  ·cases h
  ·exact h
 | (n,k)::r,acc,h=>by
  by_cases hk:k= .free
  ·subst hk;refine zgs r ((n,(cells.lookup n).getD 0)::acc) ?_;cases e:x == n with
   |true=>exact .inr ⟨_,by rw [List.lookup_cons,e]⟩
   |false=>
    rcases h with h |⟨c,h⟩
    ·rcases List.mem_cons.mp h with q |q
     ·have:x=n:=congrArg Prod.fst q;rw [this]at e;simp at e
     ·exact .inl q
    ·exact .inr ⟨c,by rw [List.lookup_cons,e];exact h⟩
  ·have hb:¬(k == NameKind.free)=true:=by simpa using hk
   show ∃c,(if(k == NameKind.free)=true then zhB cells r ((n,(cells.lookup n).getD 0)::acc) else zhB cells r acc).lookup x=some c;rw [if_neg hb];refine zgs r acc ?_;rcases h with h |h
   ·rcases List.mem_cons.mp h with q |q
    ·exact absurd (congrArg Prod.snd q).symm hk
    ·exact .inl q
   ·exact .inr h
theorem zdo{env:Env}{x:Str}{k:NameKind}:∀{names:List (Str×NameKind)},(∀y∈names,y.2≠ .cell)→
  (names.map fun(n,k)=>if(k == NameKind.free&&env.scope.kind == .function&&env.kindOf n == some .cell) then(n,NameKind.cell) else(n,k)).lookup x=some k→(k= .cell∨k= .free)→(x,NameKind.free)∈names
 | [],_,h,_=>by simp at h
 | (n,j)::r,hc,h,hk=>by
  have h':List.lookup x ((if(j == NameKind.free&&env.scope.kind == .function&&env.kindOf n == some .cell)=true then(n,NameKind.cell) else(n,j)) ::
   (r.map fun(n,k)=>if(k == NameKind.free&&env.scope.kind == .function&&env.kindOf n == some .cell) then(n,NameKind.cell) else(n,k)))=some k:=h
  have hr:=fun y hy=>hc y (List.mem_cons_of_mem (n,j) hy);have hj:j≠ .cell:=hc (n,j) List.mem_cons_self;cases e:x == n with
  |true=>
   have e1:x=n:=eq_of_beq e;subst e1;by_cases c:(j == NameKind.free&&env.scope.kind == .function&&env.kindOf x == some .cell)=true
   ·have c1:(j == NameKind.free)=true:=by
     cases q:(j == NameKind.free) with
     |true=>rfl
     |false=>rw [q]at c;simp at c
    have c2:j= .free:=by simpa using c1
    rw [c2];exact List.mem_cons_self
   ·rw [if_neg c]at h';simp only[List.lookup_cons,beq_self_eq_true]at h';have h2:j=k:=Option.some.inj h';rcases hk with z |z
    ·exact absurd (h2.trans z) hj
    ·rw [h2,z];exact List.mem_cons_self
  |false=>
   by_cases c:(j == NameKind.free&&env.scope.kind == .function&&env.kindOf n == some .cell)=true
   ·rw [if_pos c]at h';simp only[List.lookup_cons,e]at h';exact List.mem_cons_of_mem _ (zdo hr h' hk)
   ·rw [if_neg c]at h';simp only[List.lookup_cons,e]at h';exact List.mem_cons_of_mem _ (zdo hr h' hk)
theorem zef{env:Env}{x:Str}:∀{names:List (Str×NameKind)},names.lookup x=some .free→
  (names.map fun(n,k)=>if(k == NameKind.free&&env.scope.kind == .function&&env.kindOf n == some .cell) then(n,NameKind.cell) else(n,k)).lookup x=some .cell∨
  (names.map fun(n,k)=>if(k == NameKind.free&&env.scope.kind == .function&&env.kindOf n == some .cell) then(n,NameKind.cell) else(n,k)).lookup x=some .free
 | [],h=>by simp at h
 | (n,j)::r,h=>by
  show List.lookup x ((if(j == NameKind.free&&env.scope.kind == .function&&env.kindOf n == some .cell)=true then(n,NameKind.cell) else(n,j)) ::
   (r.map fun(n,k)=>if(k == NameKind.free&&env.scope.kind == .function&&env.kindOf n == some .cell) then(n,NameKind.cell) else(n,k)))=_∨
   List.lookup x ((if(j == NameKind.free&&env.scope.kind == .function&&env.kindOf n == some .cell)=true then(n,NameKind.cell) else(n,j)) ::
   (r.map fun(n,k)=>if(k == NameKind.free&&env.scope.kind == .function&&env.kindOf n == some .cell) then(n,NameKind.cell) else(n,k)))=_
  cases e:x == n with
  |true=>
   simp only[List.lookup_cons,e]at h;have h2:j= .free:=Option.some.inj h;subst h2;by_cases c:(NameKind.free == NameKind.free&&env.scope.kind == .function&&env.kindOf n == some .cell)=true
   ·rw [if_pos c];simp only[List.lookup_cons,e];exact .inl trivial
   ·rw [if_neg c];simp only[List.lookup_cons,e];exact .inr trivial
  |false=>
   simp only[List.lookup_cons,e]at h;by_cases c:(j == NameKind.free&&env.scope.kind == .function&&env.kindOf n == some .cell)=true
   ·rw [if_pos c];simp only[List.lookup_cons,e];exact zef h
   ·rw [if_neg c];simp only[List.lookup_cons,e];exact zef h
noncomputable def zbt (X:Cx) (scope:Scope) (N:List Str) (s:Shared) (H:Hp) (fp:List Addr) (pins:List (Addr×Obj)):Cx:=
 { X with N:=N,s₀:=s,H₀:=H,env:=compEnvC scope (zhB X.env.cells scope.names []) s.heap.objs.size X.env,outer:=X.stack,stack:=X.stack,ex:=fp,fn:=fun _=>false,pn:=X.pn++pins,xe:=fun _ _=>False }
structure CompSc (X:Cx) (scope:Scope) (N:List Str) (k:Nat) (fr:List Nat):Prop where
  kind:scope.kind= .function
  nd:N.Nodup
  len:N.length=k+fr.length
  cell:(scope.names.all fun y=>y.2 != NameKind.cell)=true
  loc:(scope.names.all fun y=>y.2 != NameKind.local || scope.names.lookup y.1 == some NameKind.local)=true
  free:(scope.names.all fun y=>y.2 != NameKind.free || X.env.kindOf y.1 == some NameKind.cell || X.env.kindOf y.1 == some NameKind.free)=true
  frs:((N.drop k).all fun x=>scope.names.lookup x == some NameKind.free)=true
  pl:N.drop k=fr.map fun j=>X.N.getD j Str.empty
  plen:(fr.all fun j=>decide (j<X.N.length))=true
noncomputable def zgR (σ:St) (fr:List Nat):St:=fr.map fun j=>(σ[j]?).join
noncomputable def zlU (σ:St) (k:Nat) (fr:List Nat):St:=List.replicate k none++zgR σ fr
section
variable {X:Cx}{scope:Scope}{N:List Str}{k:Nat}{fr:List Nat}
theorem CompSc.cell' (S:CompSc X scope N k fr):∀y∈scope.names,y.2≠ .cell:=fun y hy=>by
 have q:=List.all_eq_true.mp S.cell y hy;simpa using q
theorem CompSc.loc' (S:CompSc X scope N k fr):∀y∈scope.names,y.2= .local→scope.names.lookup y.1=some .local:=fun y hy e=>by
 have q:=List.all_eq_true.mp S.loc y hy;rw [e]at q;simpa using q
theorem CompSc.kinds (S:CompSc X scope N k fr):∀y∈scope.names,y.2= .free→X.env.kindOf y.1=some .cell∨X.env.kindOf y.1=some .free:=fun y hy e=>by
 have q:=List.all_eq_true.mp S.free y hy;rw [e]at q;simpa using q
theorem CompSc.hasCell (S:CompSc X scope N k fr) (ok:X.Ok):∀y∈scope.names,y.2= .free→ ∃c,X.env.cells.lookup y.1=some c:=fun y hy e=>ok.has y.1 (S.kinds y hy e)
theorem CompSc.sub (S:CompSc X scope N k fr) (ok:X.Ok) {x:Str}{c:Addr}(h:(zhB X.env.cells scope.names []).lookup x=some c):X.env.cells.lookup x=some c:=by
 rcases ziS scope.names [] (S.hasCell ok) h with q |q
 ·simp at q
 ·exact q
end
section
variable {X:Cx}{pins:List (Addr×Obj)}{σ:St}{H:Hp}{s:Shared}{scope:Scope}{N:List Str}{k:Nat}{fr:List Nat}{fp:List Addr}
theorem zug (I:Inv X pins σ H s) (S:CompSc X scope N k fr) (hfp:∀b∈fp,ziY X pins H b) (hob:∀b∈fp,∃o,s.heap.get? b=some o):(zbt X scope N s H fp pins).Ok where
  mod:=I.ok.mod
  kind:=S.kind
  glob:=I.ok.glob
  blt:=I.ok.blt
  above:=Nat.le_refl _
  inj:=fun x y c h1 h2=>I.ok.inj x y c (S.sub I.ok h1) (S.sub I.ok h2)
  has:=fun x hx=>zgs scope.names [] (.inl (by
    rcases hx with hx |hx
    · exact zdo S.cell' hx (.inl rfl)
    · exact zdo S.cell' hx (.inr rfl)))
  cab:=fun x c h _=>absurd h (by show ¬(false=true);decide)
  hd:=I.ok.hd
  frames:=I.ok.frames
  stk:= .inl rfl
  exf:=fun b hb=>⟨by
    obtain⟨o,e⟩:=hob b hb;exact Nat.ne_of_lt (Heap.lt_size e),fun x c h=>(hfp b hb).2.2.2.2.1 x c (S.sub I.ok h)⟩
  bs:=I.bs
  bsz:=Nat.le_trans I.ok.bsz I.sz
  noex:=fun b o e hb=>by
    rcases(hfp b hb).2.2.2.1 with z |z
    · exact I.ok.noex b o e z
    · exact absurd (Nat.lt_of_lt_of_le (Heap.lt_size (I.ok.bs b o e).1) z) (Nat.lt_irrefl _)
  exfs:=fun b hb z=>by
    rcases List.mem_cons.mp (I.stkSub b z) with q |q
    · exact(hfp b hb).2.1 q
    · exact(hfp b hb).2.2.1 q
  funs:=I.stack
  frf:=I.stkFree
theorem zua (I:Inv X pins σ H s) (S:CompSc X scope N k fr) {H':Hp}{b:Addr}(hb:b∈fp) (hf:ziY X pins H b) (hob:∃o,s.heap.get? b=some o) (hn:H' b=none):ziY (zbt X scope N s H fp pins) [] H' b:=by
 refine⟨hn,?_,fun z=>?_, .inl hb,fun x c h=>hf.2.2.2.2.1 x c (S.sub I.ok h),fun p hp=>?_⟩
 ·obtain⟨o,e⟩:=hob;exact Nat.ne_of_lt (Heap.lt_size e)
 ·rcases List.mem_cons.mp (I.stkSub b z) with q |q
  ·exact hf.2.1 q
  ·exact hf.2.2.1 q
 ·rcases List.mem_append.mp hp with z |z
  ·exact hf.2.2.2.2.2 p z
  ·cases z
theorem znA{j:Nat}{v:V}(h:(zgR σ fr)[j]? =some (some v)):∃i,fr[j]? =some i∧σ[i]? =some (some v):=by
 unfold zgR at h;rw [List.getElem?_map]at h;cases e:fr[j]? with
 |none=>rw [e]at h;cases h
 |some i=>
  rw [e]at h;have h':(σ[i]?).join=some v:=Option.some.inj h;refine⟨i,rfl,?_⟩;cases q:σ[i]? with
  |none=>rw [q]at h';cases h'
  |some o=>
   rw [q]at h';have h2:o=some v:=h';rw [h2]
theorem zrb (I:Inv X pins σ H s) (S:CompSc X scope N k fr) (hfp:∀b∈fp,ziY X pins H b) (hob:∀b∈fp,∃o,s.heap.get? b=some o) {h1:Heap}{tk:Nat}{m:Str→Option Value}
    (hns:h1.Ns s.heap.objs.size m) (hk:∀b o,s.heap.get? b=some o→h1.get? b=some o):Inv (zbt X scope N s H fp pins) [] (zlU σ k fr) H { s with heap:=h1,toks:=tk } where
  ok:=zug I S hfp hob
  os:=rfl
  bare:=I.bare
  base:=Un.kept hk
  loc:=⟨m,hns,fun i x v e1 e2 e3=>by
    have e2':(List.replicate k (none:Option V)++zgR σ fr)[i]? =some (some v):=e2;have hi:k≤i:=by
      refine Nat.le_of_not_lt fun z=>?_;rw [List.getElem?_append_left (by simpa using z),List.getElem?_replicate]at e2';split at e2'<;>cases e2'
    rw [List.getElem?_append_right (by simpa using hi),List.length_replicate]at e2';obtain⟨j,f1,f2⟩:=znA e2';have e1':N[i]? =some x:=e1;have d1:(N.drop k)[i - k]? =some x:=by
      rw [List.getElem?_drop];have:k+(i - k)=i:=by omega
      rw [this];exact e1'
    have d2:=d1;rw [S.pl,List.getElem?_map,f1]at d2;have d3:X.N.getD j Str.empty=x:=Option.some.inj d2;have jl:j<X.N.length:=of_decide_eq_true (List.all_eq_true.mp S.plen j (List.mem_of_getElem? f1));have d4:X.N[j]? =some x:=by
      rw [List.getD_eq_getElem?_getD,List.getElem?_eq_getElem jl]at d3;rw [List.getElem?_eq_getElem jl];exact congrArg some d3
    have fk:scope.names.lookup x=some .free:=by
      have q:=List.all_eq_true.mp S.frs x (List.mem_of_getElem? d1);simpa using q
    have hmem:(x,NameKind.free)∈scope.names:=PySem.mem_of_lookup fk;have kd:=S.kinds _ hmem rfl;have vis:Vis X.env.scope x:=by
      rcases kd with z |z
      · exact .inr (.inl z)
      · exact .inr (.inr z)
    obtain⟨m0,_,hl⟩:=I.loc;obtain⟨u,ru,lk⟩:=hl j x v d4 f2 vis;refine⟨u,ru, .inr ⟨zef fk,?_⟩⟩;have kd':X.env.kindOf x=some .cell∨X.env.kindOf x=some .free:=kd;rcases lk with⟨z,_⟩ |⟨_,c,hc,hcell⟩
    · rcases kd' with q |q<;>(rw [z]at q;cases q)
    · obtain⟨c',hc'⟩:=zgs (cells:=X.env.cells) scope.names [] (.inl hmem);have e:=S.sub I.ok hc';rw [hc]at e;cases e;exact⟨c,hc',hcell.keeps hk⟩⟩
  cell:=fun x c h=>by
    obtain⟨v,z⟩:=I.cell x c (S.sub I.ok h);exact⟨v,z.keeps hk⟩
  free:=I.hok.fresh (Nat.le_refl _)
  freeC:=fun x c h=>I.freeC x c (S.sub I.ok h)
  pin:=fun p hp=>by
    have hp':p∈X.pn++pins:=by
      rcases List.mem_append.mp hp with z |z
      · exact z
      · cases z
    obtain⟨e,n,ne,nf,d⟩:=I.pin p hp';refine⟨hk _ _ e,n,Nat.ne_of_lt (Heap.lt_size e),fun z=>?_,d⟩;rcases List.mem_cons.mp (I.stkSub p.1 z) with q |q
    · exact ne q
    · exact nf q
  hok:=I.hok.kept hk
  len:=by
    show(List.replicate k (none:Option V)++zgR σ fr).length=N.length;rw [List.length_append,List.length_replicate,S.len];unfold zgR;rw [List.length_map]
theorem zjs{σ':St}{H':Hp}{s':Shared}{h':Heap}(I:Inv X pins σ H s) (hfp:∀b∈fp,ziY X pins H b) (J:Inv (zbt X scope N s H fp pins) [] σ' H' s') (sb:Heap.SameBut s.heap.objs.size s'.heap h'):Inv X pins σ H' { s' with heap:=h' }:=by
 have neC:∀b o,s.heap.get? b=some o→b≠s.heap.objs.size:=fun b o e=>Nat.ne_of_lt (Heap.lt_size e);have frC:H' s.heap.objs.size=none:=J.free;refine Inv.call' (s':={ s' with heap:=h' }) (ch:=fp) I J.os ⟨fun b o e n hf hx=>?_,fun b o e n hf hx=>?_,fun b o e n hx=>J.base.free b o e n hx,fun b o e hx=>?_,J.base.tups,J.base.frzs,J.base.tbls⟩ (fun b o e=>?_) J.bare fun b hb=>⟨(hfp b hb).2.2.2.1,(hfp b hb).2.1,(hfp b hb).2.2.2.2.1,(hfp b hb).2.2.2.2.2⟩
 ·exact(sb.2 b (neC b o e)).trans (J.base.keep b o e n hf hx)
 ·obtain⟨sl,q⟩:=J.base.slot b o e n hf hx;exact⟨sl,(sb.2 b (neC b o e)).trans q⟩
 ·obtain⟨o',q⟩:=J.base.there b o e hx;exact⟨o',(sb.2 b (neC b o e)).trans q⟩
 ·refine(J.hok b o e).stay (fun c v hc q=>(sb.2 c ?_).trans q) (fun _ q=>q) fun _ _ q=>q;rintro rfl;rcases hc with rfl |hc
  ·rw [frC]at e;cases e
  ·rw [frC]at hc;cases hc
end
noncomputable def PTs (X:Cx) (ifs:List Expr) (t:TT):Prop:=
 ∀(pins:List (Addr×Obj)) (s:Shared) (σ:St) (H:Hp) (Q:Bool→Hp→Prop),Inv X pins σ H s→t σ H Q→
  wpAny (model X.prog X.w) X.A (forIn ifs true fun c r=>if r=true then do let ok ←isTrue c X.env (eval c X.env);pure (ForInStep.yield ok) else pure (ForInStep.yield r)) (TP X pins σ Q) X.xe s
noncomputable def zzy:TT:=fun _ H Q=>Q true H
theorem ztU{X:Cx}:PTs X [] zzy:=fun _ _ _ H _ I h=>wpAny_tests_nil ⟨H,I,h⟩
theorem ztw{X:Cx}{c:Expr}{t:TT}(h:PT X c t):PTs X [c] t:=fun pins s σ H Q I q=>wpAny_tests_one (h pins s σ H Q I q)
noncomputable def zya (X:Cx) (scope:Scope) (N:List Str) (tg:Expr) (ifs:List Expr) (elt:Expr) (l:Addr) (x:V) (σ:St) (H:Hp) (M:St→Hp→Prop):Prop:=
 ∀(s₀:Shared) (H₀:Hp) (fp:List Addr) (pn:List (Addr×Obj)),∃(g:TG) (tt:TT) (te:TE),PG (zbt X scope N s₀ H₀ fp pn) tg g∧PTs (zbt X scope N s₀ H₀ fp pn) ifs tt∧PE (zbt X scope N s₀ H₀ fp pn) elt te∧
  g x σ H fun σ2 H2=>tt σ2 H2 fun b H3=>if b=true then te σ2 H3 fun y H4=>∃ys,H4 l=some (.lst ys)∧ys.length<sizeLine∧M σ2 (upd H4 l (.lst (ys++[y]))) else M σ2 H3
noncomputable def zsV (X:Cx) (scope:Scope) (N:List Str) (k:Nat) (fr:List Nat) (tg:Expr) (ifs:List Expr) (elt:Expr) (σ:St) (Q:VK) (J:It) (H1:Hp):Prop:=∀l,H1 l=none→
 ∃W:Nat→Nat→St→Hp→Prop,(∃m,W 0 m (zlU σ k fr) (upd H1 l (.lst [])))∧ ∀i m σ' H',W i m σ' H'→
  (J.stop i H'∧Q (.ref l) H')∨(J.go i H'∧ ∃M:St→Hp→Prop,(∀σ'' H'',M σ'' H''→ ∃m',m'<m∧W (i+1) m' σ'' H'')∧ ∀x H2,J.yld i H' x H2→zya X scope N tg ifs elt l x σ' H2 M)
noncomputable def zre (X:Cx) (scope:Scope) (N:List Str) (k:Nat) (fr:List Nat) (tg:Expr) (ifs:List Expr) (elt:Expr) (wi:TI):TE:=fun σ H Q=>wi σ H fun J H1=>zsV X scope N k fr tg ifs elt σ Q J H1
theorem zjq{X:Cx}{use:Option (Value→Sem Unit)}{Qf:Value→Shared→Prop}{pins:List (Addr×Obj)}{s:Shared}{σ:St}{H:Hp}{Q:VK}{scope:Scope}{N:List Str}{k:Nat}{fr:List Nat}{tg iter elt:Expr}{ifs:List Expr}{wi:TI}{pos:Pos}(hx:X.xe=fun _ _=>False) (hc:X.calm=true) (S:CompSc X scope N k fr) (hi:PI X tg iter wi) (I:Inv X pins σ H s)
  (fin:∀{s3 s6:Shared}{H3 H5:Hp}{fp:List Addr}{σ5:St}{l:Addr}{a:Flow},Inv X pins σ H3 s3→(∀b∈fp,ziY X pins H3 b)→Inv (zbt X scope N s3 H3 fp pins) [] σ5 H5 s6→Q (.ref l) H5→compPost (model X.prog X.w) X.A X.xe use Qf (.ref l) s3.heap.objs.size (.ok a) s6)
  (h:zre X scope N k fr tg ifs elt wi σ H Q)
  (hs:∀x,foldedSetIterable iter X.env x=pure x:=by intro _;rfl):wpAny (model X.prog X.w) X.A (comprehension (.ListComp elt [⟨tg,iter,ifs,0⟩] scope pos) scope X.env (firstIterPos [⟨tg,iter,ifs,0⟩] pos) (newList []) (firstAsync [⟨tg,iter,ifs,0⟩]) (firstIter [⟨tg,iter,ifs,0⟩] X.env) use) Qf X.xe s:=by
 refine wpAny_comprehension_free (use:=use) rfl hs (zna (S.hasCell I.ok)) S.kind S.loc' (thn (hi pins s σ H _ I h) fun v s1 h1=>thn h1 fun itv s2 h2=>?_);obtain⟨it,fp,tn,J,H2,e,I2,T,st2,f2,h2⟩:=h2;subst e;have fr2:H2 s2.heap.objs.size=none:=I2.hok.fresh (Nat.le_refl _);obtain⟨W,⟨m0,w0⟩,turn⟩:=h2 s2.heap.objs.size fr2;refine wpAny_newList ?_ (by show 0≤sizeLine;exact Nat.zero_le _);have I3:Inv X pins σ (upd H2 s2.heap.objs.size (.lst [])) { s2 with heap:=s2.heap.push { cls:= .type "list",data:= .seq ([]:List Value).toArray } }:=I2.lnew (t':=s2.toks) (ys:=[]) .nil (Nat.zero_le _);have old:∀b o,s2.heap.get? b=some o→(s2.heap.push { cls:= .type "list",data:= .seq ([]:List Value).toArray }).get? b=some o:=fun b o e=>Heap.get?_push_of_some _ e;have fpo2:∀b∈fp,∃o,s2.heap.get? b=some o:=fun b hb=>by
  obtain⟨o,e,_⟩:=T.obj _ _ st2 b hb;exact⟨o,e⟩
 have fpo:∀b∈fp,∃o,(s2.heap.push { cls:= .type "list",data:= .seq ([]:List Value).toArray }).get? b=some o:=fun b hb=>by
  obtain⟨o,e⟩:=fpo2 b hb;exact⟨o,old b o e⟩
 have f3:∀b∈fp,ziY X pins (upd H2 s2.heap.objs.size (.lst [])) b:=fun b hb=>by
  obtain⟨o,e⟩:=fpo2 b hb;refine⟨?_,(f2 b hb).2⟩;rw [zaw (Nat.ne_of_lt (Heap.lt_size e))];exact(f2 b hb).1
 generalize hs3:({ s2 with heap:=s2.heap.push { cls:= .type "list",data:= .seq ([]:List Value).toArray } }:Shared)=s3 at I3⊢;have st3:tn 0 s3.heap:=by
  rw [←hs3];exact T.keep _ _ _ st2 fun b _ o e=>old b o e
 have fpo3:∀b∈fp,∃o,s3.heap.get? b=some o:=by rw [←hs3];exact fpo
 clear fpo old hs3;refine wpAny_newFunctionEnv S.cell' (by intro y hy;simp at hy) (fun h1 hns1 hsb1=>?_) S.kind;have hk1:∀b o,s3.heap.get? b=some o→h1.get? b=some o:=fun b o e=>hsb1.extBut b o (Nat.ne_of_lt (Heap.lt_size e)) (Heap.get?_push_of_some _ e);have I4:=zrb (tk:=s3.toks+([]:List (Str×Value)).length) I3 S f3 fpo3 hns1 hk1;have st4:tn 0 h1:=T.keep _ _ _ st3 fun b _ o e=>hk1 b o e;have stat:∀{H':Hp},(∀b∈fp,H' b=none)→ ∀b∈fp,ziY (zbt X scope N s3 (upd H2 s2.heap.objs.size (.lst [])) fp pins) [] H' b:=fun hn b hb=>zua I3 S hb (f3 b hb) (fpo3 b hb) (hn b hb);have loop:∀s4:Shared,s4={ s3 with heap:=h1,toks:=s3.toks+([]:List (Str×Value)).length }→
   codeAny (model X.prog X.w) X.A (.compLoop (.ListComp elt [⟨tg,iter,ifs,0⟩] scope pos) 0 (.ref it) (.ref s2.heap.objs.size) (compEnvC scope (zhB X.env.cells scope.names []) s3.heap.objs.size X.env))
    (compPost (model X.prog X.w) X.A X.xe use Qf (.ref s2.heap.objs.size) s3.heap.objs.size) s4:=by
  rintro s4 rfl;refine zjD (fun n s'=>∃i σ' H',Inv (zbt X scope N s3 (upd H2 s2.heap.objs.size (.lst [])) fp pins) [] σ' H' s'∧tn i s'.heap∧(∀b∈fp,H' b=none)∧W i n σ' H') ?_ m0 ⟨0,_,_,I4,st4,fun b hb=>(f3 b hb).1,w0⟩;rintro n s5 ⟨i,σ5,H5,I5,st5,fr5,w5⟩;rcases turn i n σ5 H5 w5 with⟨stop,qn⟩ |⟨go,M,hM,step⟩
  ·refine thn (T.done (zbt X scope N s3 (upd H2 s2.heap.objs.size (.lst [])) fp pins) rfl rfl rfl hc i [] s5 σ5 H5 _ I5 (stat fr5) st5 stop) fun r s6 ⟨hr,I6⟩=>?_;subst hr;exact fin I3 f3 I6 qn
  ·refine thn (T.item (zbt X scope N s3 (upd H2 s2.heap.objs.size (.lst [])) fp pins) rfl rfl rfl hc i [] s5 σ5 H5 _ I5 (stat fr5) st5 go) fun r s6 ⟨u,hr,h6⟩=>?_;subst hr;refine thn h6 fun _ s7 ⟨x,H7,I7,r7,y7,st7,fr7⟩=>?_;have I7':=I7.pinned (stat fr7) (T.obj _ _ st7);obtain⟨g,tt,te,hg,ht,he,q⟩:=step x H7 y7 s3 (upd H2 s2.heap.objs.size (.lst [])) fp pins;have again:∀{s8:Shared}{σ8:St}{H8:Hp},Inv (zbt X scope N s3 (upd H2 s2.heap.objs.size (.lst [])) fp pins) ([]++zkA fp s7.heap) σ8 H8 s8→M σ8 H8→
     ∃m,m<n∧ ∃i σ' H',Inv (zbt X scope N s3 (upd H2 s2.heap.objs.size (.lst [])) fp pins) [] σ' H' s8∧tn i s8.heap∧(∀b∈fp,H' b=none)∧W i m σ' H':=fun {s8 σ8 H8} I8 n8=>by
    obtain⟨m',hm,w8⟩:=hM σ8 H8 n8;refine⟨m',hm,i+1,σ8,H8,I8.unpinned,T.keep _ _ _ st7 fun b hb o e=>(I8.pin (b,o) (List.mem_append_right _ (List.mem_append_right _ (zev hb e)))).1,fun b hb=>?_,w8⟩;obtain⟨o,e,d⟩:=T.obj _ _ st7 b hb;exact(I8.pin (b,o) (List.mem_append_right _ (List.mem_append_right _ (zev hb e)))).2.1
   refine thn (hg _ s7 σ5 H7 x u _ I7' r7 q) fun _ s8 ⟨σ8,H8,I8,q8⟩=>?_;refine thn (ht _ s8 σ8 H8 _ I8 q8) fun b s9 ⟨H9,I9,q9⟩=>?_;cases b with
   |false=>exact again I9 q9
   |true=>
    refine thn (he _ s9 σ8 H9 _ I9 q9) fun y s10 ⟨yv,H10,I10,r10,ys,hl,hz,qM⟩=>?_;exact thn (zjj _ s10 σ8 H10 (.ref s2.heap.objs.size) [yv] (.ref s2.heap.objs.size) [y] (fun _ H'=>M σ8 H') I10 rfl (.cons r10 .nil) ⟨_,ys,yv,rfl,rfl,hl,hz,qM⟩) fun _ s11 ⟨_,H11,I11,_,q11⟩=>again I11 q11
 exact codeAny_compStart_list (loop _ rfl) (T.self _ 0 _ _ _ st4 (loop _ rfl))
theorem zub{X:Cx}{scope:Scope}{N:List Str}{k:Nat}{fr:List Nat}{tg iter elt:Expr}{ifs:List Expr}{wi:TI}{pos:Pos}(hx:X.xe=fun _ _=>False) (hc:X.calm=true) (S:CompSc X scope N k fr) (hi:PI X tg iter wi)
  (hs:∀x,foldedSetIterable iter X.env x=pure x:=by intro _;rfl):PE X (.ListComp elt [⟨tg,iter,ifs,0⟩] scope pos) (zre X scope N k fr tg ifs elt wi):=by
 intro pins s σ H Q I h;rw [eval_ListComp];refine zjq hx hc S hi I (fun {s3 s6 H3 H5 fp σ5 l a} I3 f3 I6 qn=>?_) h hs;obtain⟨m6,ns6,_⟩:=I6.loc;exact⟨m6,ns6,fun h' sb=>⟨.ref l,H5,zjs I3 f3 I6 sb,rfl,qn⟩⟩
theorem zsG{X:Cx}{scope:Scope}{N:List Str}{k:Nat}{fr:List Nat}{tg iter elt:Expr}{ifs:List Expr}{wi:TI}{pos spos pos':Pos}{i:Nat}{x:Str}(hx:X.xe=fun _ _=>False) (hc:X.calm=true) (S:CompSc X scope N k fr) (hi:PI X tg iter wi)
  (hN:X.N.Nodup) (hxi:X.N[i]? =some x) (hxl:Loc X.env.scope x) (hw:swapsWith (.ListComp elt [⟨tg,iter,ifs,0⟩] scope pos) (some (.Name x pos')) spos.line X.env=pure true) (hf:X.fn x=true∨X.env.scope.names.lookup x=some .local)
  (hs:∀x,foldedSetIterable iter X.env x=pure x:=by intro _;rfl):PS X (.Assign [.Name x pos'] (.ListComp elt [⟨tg,iter,ifs,0⟩] scope pos) spos) (zxm (zre X scope N k fr tg ifs elt wi) (ztu i)):=by
 intro pins s σ H D I h;rw [exec_Assign_Name_used x pos' _ spos hw];refine wpAny_bind (wpAny_standAt (wpAny_bind ?_));rw [arm_evalThenUse_ListComp];refine wpAny_bind ?_;refine zjq (Qf:=fun _ s'=>wpAny (model X.prog X.w) X.A (pure ()) (fun _ s2=>wpAny (model X.prog X.w) X.A (pure Flow.next) (SP X pins D) X.xe s2) X.xe s') hx hc S hi I (fun {s3 s6 H3 H5 fp σ5 l a} I3 f3 I6 qn=>?_) h hs;have IX:Inv X pins σ H5 s6:=zjs (h':=s6.heap) I3 f3 I6 ⟨rfl,fun _ _=>rfl⟩;obtain⟨m6,ns6,_⟩:=I6.loc;have ns6:s6.heap.Ns s3.heap.objs.size m6:=ns6;have frC:H5 s3.heap.objs.size=none:=I6.free;have fC:ziY X pins H5 s3.heap.objs.size:=I3.fpOk (Nat.le_refl _) frC;refine wpAny_assign_Name (zjX IX hN hxi hxl (v:= .ref l) rfl (fun s7 I7 ⟨b,sb,hb⟩=>?_) hf);have hbC:s3.heap.objs.size≠b:=by
  rcases hb with rfl |hb
  ·exact fC.2.1
  ·exact Ne.symm (fC.2.2.2.2.1 _ _ hb)
 refine⟨m6,ns6.sameBut sb hbC,fun h' sb2=>wpAny_pure (wpAny_pure ⟨_,H5,?_,qn⟩)⟩;refine Inv.call' (s':={ s7 with heap:=h' }) (ch:=[s3.heap.objs.size]) I7 rfl ⟨fun c o e n hfs hex=>?_,fun c o e n hfs hex=>?_,fun c o e n _=>n,fun c o e hex=>?_,fun _ _ q=>q,fun _ _ _ q=>q,fun _ ps q=>⟨#[],by simpa using q⟩⟩ (fun c o e=>?_) I7.bare fun c hcm=>?_
 ·exact(sb2.2 c (fun z=>hex (by simp [z]))).trans e
 ·exact⟨o.slots,(sb2.2 c (fun z=>hex (by simp [z]))).trans e⟩
 ·exact⟨o,(sb2.2 c (fun z=>hex (by simp [z]))).trans e⟩
 ·refine(I7.hok c o e).stay (fun d v hd q=>(sb2.2 d ?_).trans q) (fun _ q=>q) fun _ _ q=>q;rintro rfl;rcases hd with rfl |hd
  ·rw [frC]at e;cases e
  ·rw [frC]at hd;cases hd
 ·rw [List.mem_singleton.mp hcm];exact⟨fC.2.2.2.1,fC.2.1,fC.2.2.2.2.1,fC.2.2.2.2.2⟩
noncomputable def Its (x:Str):It:=⟨fun i _=>i<x.cps.size,fun i H v H'=>H'=H∧ ∃c,x.cps[i]? =some c∧v= .str ⟨#[c]⟩,fun i _=>i=x.cps.size⟩
theorem zlD{P:Program}{w:World}{K:PySem.W.Frag}{tg:Expr}(it:Addr) (x:Str) (t:Tok) (ty:String)
    (hn: ["enumerate", "zip", "dict_itemiterator", "dict_reverseitemiterator", "odict_iterator", "itertools.zip_longest", "itertools.pairwise"].contains ty=false)
    (hW:∀A':Around,A'.handled=none→Walks P w A' it [it] [it] x.cps.size (SignAt x) (fun i h=>h.IsStrIter it ty x t i))
    (hself:∀(A:Around) (i:Nat) (s:Shared) (Q:Value→Shared→Prop) (E:Value→Shared→Prop),s.heap.IsStrIter it ty x t i→Q (.ref it) s→wpAny (model P w) A (pyIter (.ref it)) Q E s) :
    Turn P w K tg (Its x) [it] it (fun i h=>h.IsStrIter it ty x t i) where
  mem:=by simp
  obj:=fun i h st b hb=>by
    have e:b=it:=by simpa using hb
    subst e;obtain⟨o,e,c,d⟩:=st;exact⟨o,e,fun v z=>by rw [d]at z;cases z⟩
  keep:=fun i h h' st k=>by
    obtain⟨o,e,r⟩:=st;exact⟨o,k it (by simp) o e,r⟩
  item:=by
    intro X hP hw hK hc i pins s σ H E I hf st hg;subst hP hw hK;obtain⟨f0,f1,f2,f3,f4,f5⟩:=hf it (by simp);refine(hW X.A (I.ok.hd hc)).item i s _ _ hg st fun v h' tk hv st' kk=>?_;obtain⟨c,u,hc',rfl⟩:=hv;have I1:Inv X pins σ H { s with heap:=h',toks:=tk }:=I.turned (fun b o hb e=>kk b o (by simpa using hb) e) f0 f1 f3 f4 f5;obtain⟨o,e,c',d⟩:=id st';exact⟨_,rfl,zqw (s:={ s with heap:=h',toks:=tk }) e c' d hn ⟨.str ⟨#[c]⟩,H,I1,⟨u,rfl⟩,⟨rfl,c,hc',rfl⟩,st',fun b hb=>(hf b hb).1⟩⟩
  done:=by
    intro X hP hw hK hc i pins s σ H E I hf st hg;subst hP hw hK;obtain⟨f0,f1,f2,f3,f4,f5⟩:=hf it (by simp);have hi:i=x.cps.size:=hg;subst hi;exact(hW X.A (I.ok.hd hc)).done s _ _ st fun h' tk kk=>⟨rfl,I.turned (fun b o hb e=>kk b o (by simpa using hb) e) f0 f1 f3 f4 f5⟩
  self:=hself
noncomputable def TupsOn (H H':Hp):Prop:=∀b xs,H b=some (.tup xs)→H' b=some (.tup xs)
theorem TupsOn.trans{H H1 H2:Hp}(a:TupsOn H H1) (b:TupsOn H1 H2):TupsOn H H2:=fun c xs h=>b c xs (a c xs h)
section
variable {X:Cx}
theorem zqa:OpR X (compareOp .LtE) (fun x y H Q=>∃i j,x= .str i∧y= .str j∧Q (.bl (!decide (j.cps.toList<i.cps.toList))) H):=by
 intro pins s σ H x y v u Q I rx ry h;obtain⟨i,j,rfl,rfl,q⟩:=h;obtain⟨t,rfl⟩:=rx;obtain⟨t',rfl⟩:=ry;exact PySem.P.le_str (zmg I q rfl)
noncomputable def zzW:V→Option Int→Option Int→Hp→VK→Prop:=fun x lo hi H Q=>∃z,x= .str z∧z.length≤sizeLine∧Q (.str (Txt.slice z lo hi)) H
theorem sl_str:SlR X zzW:=by
 intro pins s σ H x v vl vu lo hi sl Q I rx hs pl pu h;obtain⟨z,rfl,hz,q⟩:=h;obtain⟨t,rfl⟩:=rx;refine⟨"str",_,F.slot_str_getitem.lookup,typeIs_str _ _ _,?_⟩;obtain⟨o,ho,hc,hd⟩:=hs;have fin:∀t' k,EP X pins σ Q (.str (Txt.slice z lo hi) t') { s with toks:=k }:=fun t' k=>⟨.str _,H,I.tok _,⟨t',rfl⟩,q⟩;have le:=Nat.le_trans (Txt.slice_le z lo hi) hz;cases pl with
 |none=>
  cases pu with
  |none=>exact wpAny_getItem_str_slice (l:=none) (u:=none) (st:=none) ⟨o,ho,hc,hd⟩ rfl (post_val_or_str ⟨le,fin⟩)
  |int j u=>exact wpAny_getItem_str_slice (l:=none) (u:=some (j,u)) (st:=none) ⟨o,ho,hc,hd⟩ rfl (post_val_or_str ⟨le,fin⟩)
 |int i w=>
  cases pu with
  |none=>exact wpAny_getItem_str_slice (l:=some (i,w)) (u:=none) (st:=none) ⟨o,ho,hc,hd⟩ rfl (post_val_or_str ⟨le,fin⟩)
  |int j u=>exact wpAny_getItem_str_slice (l:=some (i,w)) (u:=some (j,u)) (st:=none) ⟨o,ho,hc,hd⟩ rfl (post_val_or_str ⟨le,fin⟩)
noncomputable def zxa (xs:List Nat) (lo hi:Option Int):List Nat:=(xs.drop (HT.sIx xs.length 0 lo)).take (HT.sIx xs.length xs.length hi - HT.sIx xs.length 0 lo)
theorem zrX (lo hi:Option Int) (n:Nat):Builtin.Str.strSliceIndices lo hi 1 n=sliceRange ((HT.sIx n 0 lo:Nat):Int) ((HT.sIx n n hi:Nat):Int) 1:=by
 have one:(1:Int) > 0:=by decide
 have a:∀(v:Option Int) (d:Nat),(match v with |none=>(d:Int) |some i=>(if(1:Int) > 0 then max 0 (min (if i<0 then i+(n:Int) else i) (n:Int)) else max (-1) (min (if i<0 then i+(n:Int) else i) ((n:Int) - 1))))=((HT.sIx n d v:Nat):Int):=by
  intro v d;cases v with
  |none=>rfl
  |some i=>
   simp only[HT.sIx,one,if_true];by_cases h:i<0
   ·simp only[h,if_true];omega
   ·simp only[h,if_false];omega
 have l:=a lo 0;have u:=a hi n;unfold Builtin.Str.strSliceIndices;simp only[one,if_true]at l u⊢
 first
  |rw [l,u]
  | (cases lo<;>cases hi<;>simp_all)
theorem zoH (z:Str) (lo hi:Option Int):(Txt.slice z lo hi).cps.toList=zxa z.cps.toList lo hi:=by
 have hn:z.length=z.cps.toList.length:=by simp [Str.length]
 have hp:(Builtin.Str.strSliceIndices lo hi 1 z.length).filterMap (z.cps[·]?)=zxa z.cps.toList lo hi:=by
  rw [zrX,sliceRange_one,pick_run,hn];rfl
 unfold Txt.slice;split
 ·rename_i h;have h1:(Builtin.Str.strSliceIndices lo hi 1 z.length).length=z.length:=by simpa using h
  rw [zrX,sliceRange_one,List.length_map,List.length_range]at h1;have le1:=HT.sIx_le z.length z.length (Nat.le_refl _) hi;unfold zxa;rw [←hn];have e0:HT.sIx z.length 0 lo=0∨z.length=0:=by omega
  have hz:z.cps.toList.length=z.length:=hn.symm;rcases e0 with e0 |e0
  ·rw [e0,List.drop_zero,List.take_of_length_le (by omega)]
  ·have:z.cps.toList=[]:=List.eq_nil_of_length_eq_zero (by omega);rw [this];simp
 ·show(List.filterMap _ _).toArray.toList=_;rw [hp]
theorem zrn (hc:X.calm=true):CallR X (.builtin "all") (fun xs H Q=>∃(p:Addr) (bs:List Bool),xs=[.ref p]∧SqL X.K H p (bs.map V.bl)∧Q (.bl (bs.all id)) H):=by
 intro pins s σ H xs us Q I r h;obtain⟨p,bs,rfl,hq,q⟩:=h;obtain⟨u,rfl,rx⟩:=ziD r;cases rx;obtain⟨its,r',pl,hz⟩:=I.list hq;have hlen:bs.length=its.length:=by have:=r'.length;rw [List.length_map]at this;exact this
 have hp:p<s.heap.objs.size:=by obtain⟨o,n,e,_⟩:=pl;exact Heap.lt_size e
 have hd:X.A.in1.handled=none:=I.ok.hd hc;have get:∀(i:Nat) (v:Value),its.toArray[i]? =some v→v= .bool (bs.getD i false):=fun i v e=>by
  have e':its[i]? =some v:=by simpa using e
  have hi:i<bs.length:=by rw [hlen];exact(List.getElem?_eq_some_iff.mp e').1
  obtain⟨u,hu,ru⟩:=r'.get (i:=i) (x:= .bl (bs.getD i false)) (by rw [List.getElem?_map,List.getElem?_eq_getElem hi,List.getD_eq_getElem?_getD,List.getElem?_eq_getElem hi];rfl);rw [e']at hu;cases hu;exact ru
 refine call_all_walk (wpAny_pyIter_list pl.isList ?_);refine⟨s.heap.objs.size,_,_,_,_,_,fun i=>bs.getD i false,rfl,Walks.list hd _ p (Nat.ne_of_lt hp) its.toArray,⟨⟨_,Heap.get?_push_size _ rfl,rfl,rfl⟩,pl.isList.push _⟩,fun i v s' Q' E' hP hQ=>?_,fun h' tk hk=>?_⟩
 ·rw [get i v hP];exact wpAny_truthy_bool hQ
 ·have e:(List.range its.toArray.size).all (fun i=>bs.getD i false)=bs.all id:=by
   rw [List.size_toArray,←hlen];have:bs=(List.range bs.length).map fun i=>bs.getD i false:=by
    apply List.ext_getElem?;intro i;rw [List.getElem?_map];by_cases hi:i<bs.length
    ·rw [List.getElem?_range hi,List.getElem?_eq_getElem hi];show some bs[i]=some (bs.getD i false);rw [List.getD_eq_getElem?_getD,List.getElem?_eq_getElem hi];rfl
    ·rw [List.getElem?_eq_none (by omega),List.getElem?_eq_none (by simpa using hi)];rfl
   conv=>rhs;rw [this]
   rw [List.all_map];rfl
  have I1:Inv X pins σ H { s with heap:=h',toks:=tk }:=I.kept fun b o e=>hk b o (fun z=>by
   have z':b=s.heap.objs.size:=by simpa using z
   rw [z']at e;exact absurd (Heap.lt_size e) (Nat.lt_irrefl _)) (Heap.get?_push_of_some _ e)
  exact⟨.bl _,H,I1,by rw [e];exact rfl,q⟩
theorem zqt:CallR X (.builtin "isinstance") (fun xs H Q=>∃x t c b,xs=[x, .ty c]∧TyOf X.K H x t∧PySem.W.kitOne X.K t (.type c)=some b∧Q (.bl b) H):=by
 intro pins s σ H xs us Q I r h;obtain⟨x,t,c,b,rfl,ty,e,q⟩:=h;obtain⟨u,v,rfl,rx,ry⟩:=zwM r;cases(show v=Value.type c from ry);exact zoA I rx ty e fun tk=>⟨.bl b,H,I.tok _,rfl,q⟩
end
section
variable {X:Cx}
theorem zeO (l:Addr) (items:Array Value) (n:Nat) (b:Addr) (items2:Array Value) (n2:Nat) (dd:Option Addr) (sl:Array (Option Value)) (hs0:¬(!items.isEmpty&&Builtin.List.listTooLong (items.size+items2.size))=true) (hs1:items.size≤sizeLine) (hs2:items.size+items2.size≤sizeLine+1) :
  Meets (Builtin.«list.extend» ⟨[.ref l, .ref b],[]⟩) (fun _ R s=>s.heap.get? l=some { cls:= .type "list",dict:=none,data:= .seq items n,slots:= #[] }∧s.heap.get? b=some { cls:= .type "tuple",dict:=dd,data:= .seq items2 n2,slots:=sl }∧R (.ok (.ret Value.none)) { s with heap:=s.heap.update l (Obj.mapSeq fun x=>x++items2),toks:=s.toks }):=
 .of_wp fun prog w A R s h=>by
  obtain⟨hp,g,d,tk,os⟩:=s;obtain⟨hl,hb,h⟩:=h;have f1:=AutoSeq1.idx_int;have f2:=AutoSeq1.sub_tuple_tuple;have f3:=AutoSeq1.sub_list_list;have f4:=AutoSeq1.sub_tuple_list;have f5:=AutoSeq1.sub_list_tuple;have hz':(items++items2).size≤sizeLine+1:=by rw [Array.size_append];exact hs2
  wp_walk using(wpAny_updateSeq hl rfl (hz:=hs1) (_hz':=hz')),AutoSeq1.wpAny_loadPart' hl,AutoSeq1.wpAny_loadPart' hb;exact⟨_,rfl,h⟩
noncomputable def zmL (K:PySem.W.Frag):V→List V→Hp→VK→Prop:=fun x vs H Q=>∃l b xs zs,x= .ref l∧vs=[.ref b]∧H l=some (.lst xs)∧SqT K H b zs∧xs.length+zs.length≤sizeLine∧Q .non (upd H l (.lst (xs++zs)))
theorem zns:MtM X "list.extend" (zmL X.K):=by
 intro pins s σ H x vs v us Q I rx rv h;obtain⟨l,b,xs,zs,rfl,rfl,hH,hB,hz,q⟩:=h;cases rx;obtain⟨u,rfl,ru⟩:=rv.one;cases ru;obtain⟨z,its,n,r,hl,e⟩:=I.lstM hH;obtain⟨its2,r2,ht,hz2⟩:=I.tuple hB;obtain⟨⟨cls,dd,data,sl⟩,e2,hc,n2,hd⟩:=ht;simp only at hc hd;subst hc hd;have hl2:=r2.length;have hsz:its.toArray.size+its2.toArray.size≤sizeLine:=by rw [List.size_toArray,List.size_toArray];omega
 have hlong:¬(!its.toArray.isEmpty&&Builtin.List.listTooLong (its.toArray.size+its2.toArray.size))=true:=by
  rw [ziN hsz,Bool.and_false];exact Bool.false_ne_true
 refine call_meets F.slot_list_extend ⟨_,e,rfl⟩ F.entry_list_extend (F.args_list_extend_2 _ _)
  (zeO l its.toArray n b its2.toArray n2 dd sl hlong (by rw [List.size_toArray];omega) (by omega)) ⟨e,e2,?_⟩
 refine⟨.non,_,I.lset (its':=its++its2) hH e (by simp) (r.append r2) ?_,rfl,q⟩;rw [List.length_append];omega
noncomputable def zuH (K:PySem.W.Frag):V→List V→Hp→VK→Prop:=fun x vs H Q=>∃(z:Str) (b:Addr) (ys:List Str),x= .str z∧vs=[.ref b]∧SqL K H b (ys.map V.str)∧(ys.map (·.length)).sum+ys.length*z.length≤16777216∧Q (.str (Str.join z ys)) H
theorem ztS{ys:List Str}:∀{us:List Value},Vals (ys.map V.str) us→StrsAre us ys:=by
 induction ys with
 |nil=>
  intro us r;cases r;exact .nil
 |cons y ys ih=>
  intro us r;cases r with
  |cons a b=>
   obtain⟨t,rfl⟩:=a;exact .cons y t (ih b)
theorem zsK:MtM X "str.join" (zuH X.K):=by
 intro pins s σ H x vs v us Q I rx rv h;obtain⟨z,b,ys,rfl,rfl,hB,hz,q⟩:=h;obtain⟨t,rfl⟩:=rx;obtain⟨u,rfl,ru⟩:=rv.one;cases ru;obtain⟨its,r,pl,_⟩:=I.list hB;refine join_list pl.isList (by simpa using ztS r) hz fun t' k=>⟨.str (Str.join z ys),H,I.tok _,⟨t',?_⟩,q⟩;show Value.str (Builtin.Str.glued z ys) t'=_;rw [StrLaws.glued_eq_join]
end
inductive W where
  |non |bl (b:Bool) |int (i:Int) |str (x:Str) |tup (ws:List W) |ref (a:Addr) |scr (ns:List Int)
inductive Ob where
  |lst (ws:List W)
  |dct (kvs:List (List Int×W))
  |ins (C:Addr) (fs:List (Str×W))
noncomputable abbrev Sto:=Addr→Option Ob
noncomputable def put (S:Sto) (a:Addr) (o:Ob):Sto:=fun b=>if b=a then some o else S b
noncomputable def FzL (K:PySem.W.Frag) (H:Hp) (a:Addr) (xs:List V):Prop:=
 (∃o,H a=some (.frz o (.lst xs)))∨
  ∃(o:Obj) (its:Array Value) (n:Nat),K.lookup a=some o∧o.cls= .type "list" ∧o.dict=none∧o.data= .seq its n∧its.size≤sizeLine∧Vals xs its.toList
mutual
inductive Rep (K:PySem.W.Frag) (H:Hp):W→V→Prop
 |non:Rep K H .non .non
 |bl (b:Bool):Rep K H (.bl b) (.bl b)
 |int (i:Int):Rep K H (.int i) (.int i)
 |str (x:Str):Rep K H (.str x) (.str x)
 |ref (a:Addr):Rep K H (.ref a) (.ref a)
 |scr {a:Addr}{ns:List Int}:FzL K H a (ns.map V.int)→Rep K H (.scr ns) (.ref a)
 |tup {a:Addr}{vs:List V}{ws:List W}:H a=some (.tup vs)→Reps K H ws vs→Rep K H (.tup ws) (.ref a)
inductive Reps (K:PySem.W.Frag) (H:Hp):List W→List V→Prop
 |nil:Reps K H [] []
 |cons {w:W}{v:V}{ws:List W}{vs:List V}:Rep K H w v→Reps K H ws vs→Reps K H (w::ws) (v::vs)
end
structure Ext (H:Hp) (S:Sto) (H':Hp) (S':Sto):Prop where
  tup:∀b xs,H b=some (.tup xs)→H' b=some (.tup xs)
  frz:∀b o u,H b=some (.frz o u)→H' b=some (.frz o u)
  fr:∀b o,H b=some o→S b=none→H' b=some o∧S' b=none
  all:∀b o,H b=some o→ ∃o',H' b=some o'
noncomputable def Sub (S S':Sto):Prop:=∀a o,S a=some o→S' a=some o
section
variable {K:PySem.W.Frag}{H H' H1 H2:Hp}{S S' S1 S2:Sto}
theorem zah{a:Addr}{o:Ob}:put S a o a=some o:=by unfold put;rw [if_pos rfl]
theorem zaD{a b:Addr}{o:Ob}(h:b≠a):put S a o b=S b:=by unfold put;rw [if_neg h]
theorem zbg{a:Addr}{o o':Ob}:put (put S a o) a o'=put S a o':=by funext b;unfold put;split<;>rfl
theorem Ext.refl:Ext H S H S:=⟨fun _ _ h=>h,fun _ _ _ h=>h,fun _ _ h g=>⟨h,g⟩,fun _ o h=>⟨o,h⟩⟩
theorem Ext.trans (a:Ext H S H1 S1) (b:Ext H1 S1 H2 S2):Ext H S H2 S2:=⟨fun c xs h=>b.tup c xs (a.tup c xs h),fun c o u h=>b.frz c o u (a.frz c o u h),
 fun c o h g=>by
  obtain⟨h1,g1⟩:=a.fr c o h g;exact b.fr c o h1 g1,fun c o h=>by
  obtain⟨o1,h1⟩:=a.all c o h;exact b.all c o1 h1⟩
theorem Ext.new{p:Addr}{o:HO}(h:H p=none):Ext H S (upd H p o) S:=
  ⟨fun b xs e=>by rw [zaw (zas e h)];exact e,fun b ob u e=>by rw [zaw (zas e h)];exact e,
   fun b ob e g=>⟨by rw [zaw (zas e h)];exact e,g⟩,fun b ob e=>⟨ob,by rw [zaw (zas e h)];exact e⟩⟩
theorem Ext.newS{p:Addr}{o:HO}{ob:Ob}(h:H p=none):Ext H S (upd H p o) (put S p ob):=
  ⟨fun b xs e=>by rw [zaw (zas e h)];exact e,fun b ob u e=>by rw [zaw (zas e h)];exact e,
   fun b ob e g=>⟨by rw [zaw (zas e h)];exact e,by rw [zaD (zas e h)];exact g⟩,fun b ob e=>⟨ob,by rw [zaw (zas e h)];exact e⟩⟩
theorem Ext.mut{p:Addr}{o u:HO}{ob ob0:Ob}(h:H p=some u) (hs:S p=some ob0) (ht:∀xs,u≠ .tup xs) (hf:∀ob q,u≠ .frz ob q):Ext H S (upd H p o) (put S p ob):=
  ⟨fun b xs e=>by rw [zaw (zqG e h fun z=>ht xs z.symm)];exact e,fun b ob q e=>by rw [zaw (zqG e h fun z=>hf ob q z.symm)];exact e,
   fun b ob e g=>by
     have hb:b≠p:=by rintro rfl;rw [hs]at g;cases g
     exact⟨by rw [zaw hb];exact e,by rw [zaD hb];exact g⟩,fun b ob e=>by
     by_cases hb:b=p
     · subst hb;exact⟨o,zax⟩
     · exact⟨ob,by rw [zaw hb];exact e⟩⟩
theorem Ext.lst{p:Addr}{o:HO}{ob ob0:Ob}{xs:List V}(h:H p=some (.lst xs)) (hs:S p=some ob0):Ext H S (upd H p o) (put S p ob):= .mut h hs (fun _ z=>nomatch z) fun _ _ z=>nomatch z
theorem Ext.drop (h:Sub S' S):Ext H S H S':=⟨fun _ _ h=>h,fun _ _ _ h=>h,fun b o e g=>⟨e,by
 cases q:S' b with
 |none=>rfl
 |some z=>rw [h b z q]at g;cases g⟩,fun _ o h=>⟨o,h⟩⟩
theorem Ext.free (e:Ext H S H' S') {p:Addr}(h:H' p=none):H p=none:=by
 cases q:H p with
 |none=>rfl
 |some o=>obtain⟨o',z⟩:=e.all p o q;rw [h]at z;cases z
theorem Ext.fz{a:Addr}{xs:List V}(e:Ext H S H' S') (h:FzL K H a xs):FzL K H' a xs:=by
 rcases h with⟨o,h⟩ |h
 ·exact .inl ⟨o,e.frz _ _ _ h⟩
 ·exact .inr h
theorem FzL.sq{a:Addr}{xs:List V}(h:FzL K H a xs):SqL K H a xs:=by
 rcases h with⟨o,h⟩ |h
 ·exact .inl (.inr ⟨o,h⟩)
 ·exact .inr h
mutual
theorem Rep.ext (e:Ext H S H' S') {w:W}{v:V}:Rep K H w v→Rep K H' w v
 | .non=> .non
 | .bl b=> .bl b
 | .int i=> .int i
 | .str x=> .str x
 | .ref a=> .ref a
 | .scr h=> .scr (e.fz h)
 | .tup h hs=> .tup (e.tup _ _ h) (Reps.ext e hs)
theorem Reps.ext (e:Ext H S H' S') {ws:List W}{vs:List V}:Reps K H ws vs→Reps K H' ws vs
 | .nil=> .nil
 | .cons h hs=> .cons (Rep.ext e h) (Reps.ext e hs)
end
theorem Reps.length:∀{ws:List W}{vs:List V},Reps K H ws vs→ws.length=vs.length
 |_,_, .nil=>rfl
 |_,_, .cons _ hs=>congrArg (· +1) (Reps.length hs)
theorem Reps.get:∀{ws:List W}{vs:List V}{i:Nat}{w:W},Reps K H ws vs→ws[i]? =some w→ ∃v,vs[i]? =some v∧Rep K H w v
 |_,_,_,_, .nil,e=>by simp at e
 |_,_,0,_, .cons h _,e=>by simp at e;subst e;exact⟨_,rfl,h⟩
 |_,_,i+1,w, .cons _ hs,e=>by
  obtain⟨v,h1,h2⟩:=Reps.get (i:=i) (w:=w) hs (by simpa using e);exact⟨v,by simpa using h1,h2⟩
theorem Reps.append:∀{ws us:List W}{vs xs:List V},Reps K H ws vs→Reps K H us xs→Reps K H (ws++us) (vs++xs)
 |_,_,_,_, .nil,h=>h
 |_,_,_,_, .cons r t,h=> .cons r (Reps.append t h)
theorem Reps.take:∀{ws:List W}{vs:List V}(n:Nat),Reps K H ws vs→Reps K H (ws.take n) (vs.take n)
 |_,_,0,_=> .nil
 |_,_,_+1, .nil=> .nil
 |_,_,n+1, .cons r t=> .cons r (Reps.take n t)
theorem Reps.drop:∀{ws:List W}{vs:List V}(n:Nat),Reps K H ws vs→Reps K H (ws.drop n) (vs.drop n)
 |_,_,0,r=>r
 |_,_,_+1, .nil=> .nil
 |_,_,n+1, .cons _ t=>Reps.drop n t
theorem Reps.one{w:W}{v:V}(h:Rep K H w v):Reps K H [w] [v]:= .cons h .nil
theorem Reps.ofInts:∀(ns:List Int),Reps K H (ns.map W.int) (ns.map V.int)
 | []=> .nil
 |n::ns=> .cons (.int n) (Reps.ofInts ns)
end
noncomputable def RepO (K:PySem.W.Frag) (H:Hp) (a:Addr):Ob→Prop
 | .lst ws=>∃vs,H a=some (.lst vs)∧Reps K H ws vs
 | .dct kvs=>∃ps:List (List Key×V),H a=some (.dT ps)∧Paired (fun q p=>p.1=q.1.map Sum.inl∧Rep K H q.2 p.2) kvs ps
 | .ins C fs=>False
noncomputable def RepS (K:PySem.W.Frag) (H:Hp) (S:Sto):Prop:=∀a o,S a=some o→RepO K H a o
section
variable {K:PySem.W.Frag}{H H':Hp}{S S' S0 S0':Sto}{a b p:Addr}{o:Ob}
theorem Sub.refl:Sub S S:=fun _ _ h=>h
theorem Sub.trans{S1 S2 S3:Sto}(h:Sub S1 S2) (g:Sub S2 S3):Sub S1 S3:=fun a o e=>g a o (h a o e)
theorem RepS.sub (h:RepS K H S') (q:Sub S S'):RepS K H S:=fun a o e=>h a o (q a o e)
theorem RepO.some (h:RepO K H a o):∃u,H a=some u:=by
 cases o with
 |lst ws=>obtain⟨vs,e,_⟩:=h;exact⟨_,e⟩
 |dct kvs=>obtain⟨vs,e,_⟩:=h;exact⟨_,e⟩
 |ins C fs=>exact h.elim
theorem RepS.free (h:RepS K H S) (e:H p=none):S p=none:=by
 cases q:S p with
 |none=>rfl
 |some o=>obtain⟨u,z⟩:=(h p o q).some;rw [e]at z;cases z
theorem RepO.keep (e:Ext H S0 H' S0') (k:∀u,H a=Option.some u→H' a=Option.some u) (h:RepO K H a o):RepO K H' a o:=by
 cases o with
 |lst ws=>obtain⟨vs,e1,r⟩:=h;exact⟨vs,k _ e1,r.ext e⟩
 |dct kvs=>obtain⟨vs,e1,r⟩:=h;exact⟨vs,k _ e1,Paired.mapP r fun _ _ z=>⟨z.1,z.2.ext e⟩⟩
 |ins C fs=>exact h.elim
theorem RepS.new{u:HO}(h:RepS K H S) (e:H p=none):RepS K (upd H p u) S:=fun a o q=>
 (h a o q).keep (.new (S:=S) e) fun v z=>by rw [zaw (zas z e)];exact z
theorem RepS.put_lst{ws:List W}{vs:List V}(h:RepS K H S) (e:H p=none) (r:Reps K (upd H p (.lst vs)) ws vs):RepS K (upd H p (.lst vs)) (put S p (.lst ws)):=fun a o q=>by
 by_cases ha:a=p
 ·subst ha;rw [zah]at q;cases q;exact⟨vs,zax,r⟩
 ·rw [zaD ha]at q;exact h.new e a o q
theorem RepS.set_lst{ws0 ws:List W}{vs:List V}(h:RepS K H S) (e:S a=some (.lst ws0)) (r:Reps K H ws vs):Ext H S (upd H a (.lst vs)) (put S a (.lst ws))∧RepS K (upd H a (.lst vs)) (put S a (.lst ws)):=by
 obtain⟨vs0,e0,_⟩:=h a _ e;have x:Ext H S (upd H a (.lst vs)) (put S a (.lst ws)):= .lst e0 e;refine⟨x,fun b o q=>?_⟩;by_cases hb:b=a
 ·subst hb;rw [zah]at q;cases q;exact⟨vs,zax,r.ext x⟩
 ·rw [zaD hb]at q;exact(h b o q).keep x fun u z=>by rw [zaw hb];exact z
end
noncomputable abbrev WSt:=List (Option W)
noncomputable abbrev WK:=W→Sto→Prop
noncomputable abbrev WX:=Str→WSt→Sto→Prop
noncomputable abbrev WE:=WX→WSt→Sto→WK→Prop
noncomputable abbrev WT:=WX→WSt→Sto→(Bool→Sto→Prop)→Prop
noncomputable abbrev WA:=WX→WSt→Sto→(List W→Sto→Prop)→Prop
structure WEnds where
  nx:WSt→Sto→Prop
  rt:WK
  bk:WSt→Sto→Prop:=fun _ _=>False
  ct:WSt→Sto→Prop:=fun _ _=>False
noncomputable abbrev WS:=WX→WEnds→WSt→Sto→Prop
noncomputable abbrev WG:=W→WSt→Sto→(WSt→Sto→Prop)→Prop
noncomputable abbrev WSp:=List W→Sto→WK→(Str→Sto→Prop)→Prop
noncomputable abbrev WI:=WX→WSt→Sto→(List W→(Sto→Prop)→Sto→Prop)→Prop
noncomputable abbrev WL:=WX→WSt→Sto→(List W→Sto→Prop)→Prop
noncomputable def RpO (K:PySem.W.Frag) (H:Hp):Option W→Option V→Prop
 |none,_=>True
 |some w,some v=>Rep K H w v
 |some _,none=>False
noncomputable def RpSt (K:PySem.W.Frag) (H:Hp) (σW:WSt) (σ:St):Prop:=Paired (RpO K H) σW σ
section
variable {K:PySem.W.Frag}{H H':Hp}{S S':Sto}
theorem RpO.ext (e:Ext H S H' S'):∀{w:Option W}{v:Option V},RpO K H w v→RpO K H' w v
 |none,_,_=>trivial
 |some _,some _,h=>Rep.ext e h
 |some _,none,h=>h.elim
theorem RpSt.ext (e:Ext H S H' S') {σW:WSt}{σ:St}(h:RpSt K H σW σ):RpSt K H' σW σ:=Paired.mapP h fun _ _ r=>RpO.ext e r
theorem RpSt.get:∀{σW:WSt}{σ:St}{i:Nat}{w:W},RpSt K H σW σ→σW[i]? =some (some w)→ ∃v,σ[i]? =some (some v)∧Rep K H w v
 |_,_,_,_, .nil,e=>by simp at e
 |_,_,0,_, .cons (b:=b) h _,e=>by
  simp at e;subst e;cases b with
  |none=>exact(show False from h).elim
  |some v=>exact⟨v,rfl,h⟩
 |_,_,i+1,w, .cons _ hs,e=>by
  obtain⟨v,h1,h2⟩:=RpSt.get (i:=i) (w:=w) hs (by simpa using e);exact⟨v,by simpa using h1,h2⟩
theorem RpSt.set{w:W}{v:V}(h:Rep K H w v):∀{σW:WSt}{σ:St}(i:Nat),RpSt K H σW σ→RpSt K H (σW.set i (some w)) (σ.set i (some v))
 |_,_,_, .nil=> .nil
 |_,_,0, .cons _ t=> .cons h t
 |_,_,i+1, .cons q t=> .cons q (RpSt.set h i t)
end
noncomputable def Wish (K:PySem.W.Frag) (H:Hp) (S:Sto) (QW:WK) (Q:VK):Prop:=∀w S' v H',Ext H S H' S'→Rep K H' w v→RepS K H' S'→QW w S'→Q v H'
noncomputable def zwZ (K:PySem.W.Frag) (t:WSt→Sto→WK→Prop):TE:=fun σ H Q=>∃σW S QW,RpSt K H σW σ∧RepS K H S∧t σW S QW∧Wish K H S QW Q
noncomputable def zsM (K:PySem.W.Frag) (t:WSt→Sto→(Bool→Sto→Prop)→Prop):TT:=fun σ H Q=>∃σW S QW,RpSt K H σW σ∧RepS K H S∧t σW S QW∧ ∀b S' H',Ext H S H' S'→RepS K H' S'→QW b S'→Q b H'
noncomputable def zyr (K:PySem.W.Frag) (t:WSt→Sto→(List W→Sto→Prop)→Prop):TA:=fun σ H Q=>∃σW S QW,RpSt K H σW σ∧RepS K H S∧t σW S QW∧ ∀ws S' vs H',Ext H S H' S'→Reps K H' ws vs→RepS K H' S'→QW ws S'→Q vs H'
noncomputable def Goes (K:PySem.W.Frag) (H:Hp) (S:Sto) (P:WSt→Sto→Prop) (Q:St→Hp→Prop):Prop:=∀σW S' σ H',Ext H S H' S'→RpSt K H' σW σ→RepS K H' S'→P σW S'→Q σ H'
structure Meets (K:PySem.W.Frag) (H:Hp) (S:Sto) (DW:WEnds) (D:Ends):Prop where
  nx:Goes K H S DW.nx D.nx
  rt:Wish K H S DW.rt D.rt
  bk:Goes K H S DW.bk D.bk
  ct:Goes K H S DW.ct D.ct
noncomputable def zwJ (K:PySem.W.Frag) (t:WEnds→WSt→Sto→Prop):TS:=fun D σ H=>∃σW S DW,RpSt K H σW σ∧RepS K H S∧t DW σW S∧Meets K H S DW D
noncomputable def zys (K:PySem.W.Frag) (t:WG):TG:=fun v σ H Q=>∃w σW S P,Rep K H w v∧RpSt K H σW σ∧RepS K H S∧t w σW S P∧Goes K H S P Q
noncomputable def ItW (K:PySem.W.Frag) (J:It) (ws:List W) (G:Sto→Prop) (H0:Hp) (S0:Sto):Prop:=∀i S H,Ext H0 S0 H S→RepS K H S→G S→
 (∀w,ws[i]? =some w→J.go i H∧ ∀x H',J.yld i H x H'→Ext H S H' S∧RepS K H' S∧Rep K H' w x)∧(i=ws.length→J.stop i H)
noncomputable def zvC (K:PySem.W.Frag) (t:WSt→Sto→(List W→(Sto→Prop)→Sto→Prop)→Prop):TI:=fun σ H R=>∃σW S QW,RpSt K H σW σ∧RepS K H S∧t σW S QW∧
 ∀ws G S' J H',Ext H S H' S'→RepS K H' S'→G S'→ItW K J ws G H' S'→QW ws G S'→R J H'
noncomputable def zwD (K:PySem.W.Frag) (t:WSt→Sto→(List W→Sto→Prop)→Prop):TE:=fun σ H Q=>∃σW S QW,RpSt K H σW σ∧RepS K H S∧t σW S QW∧
 ∀ws S' vs a H',Ext H S H' S'→H a=none→H' a=some (.lst vs)→S' a=none→Reps K H' ws vs→RepS K H' S'→QW ws S'→Q (.ref a) H'
noncomputable def zdZ (K:PySem.W.Frag) (sp:WSp):Sp:=fun vs H Q _=>∃ws S QW,Reps K H ws vs∧RepS K H S∧sp ws S QW (fun _ _=>False)∧Wish K H S QW Q
structure Hook (X:Cx) (E:WX):Prop where
  no:E=fun _ _ _=>False
  xe:X.xe=fun _ _=>False
  calm:X.calm=true
noncomputable def JE (X:Cx) (e:Expr) (t:WE):Prop:=∀E,Hook X E→PE X e (zwZ X.K (t E))
noncomputable def JT (X:Cx) (e:Expr) (t:WT):Prop:=∀E,Hook X E→PT X e (zsM X.K (t E))
noncomputable def JW (X:Cx) (e:Expr) (t:WT):Prop:=∀E,Hook X E→PW X e (zsM X.K (t E))
noncomputable def JA (X:Cx) (es:List Expr) (t:WA):Prop:=∀E,Hook X E→PA X es (zyr X.K (t E))
noncomputable def JS (X:Cx) (st:Stmt) (t:WS):Prop:=∀E,Hook X E→PS X st (zwJ X.K (t E))
noncomputable def JSs (X:Cx) (st:List Stmt) (t:WS):Prop:=∀E,Hook X E→PSs X st (zwJ X.K (t E))
noncomputable def JG (X:Cx) (tg:Expr) (t:WG):Prop:=∀E,Hook X E→PG X tg (zys X.K t)
noncomputable def JI (X:Cx) (tg iter:Expr) (t:WI):Prop:=∀E,Hook X E→PI X tg iter (zvC X.K (t E))
noncomputable def JL (X:Cx) (e:Expr) (t:WL):Prop:=∀E,Hook X E→PE X e (zwD X.K (t E))
theorem PE.mono{X:Cx}{e:Expr}{t t':TE}(h:PE X e t) (q:∀σ H Q,t' σ H Q→t σ H Q):PE X e t':=fun pins s σ H Q I z=>h pins s σ H Q I (q σ H Q z)
theorem PT.mono{X:Cx}{e:Expr}{t t':TT}(h:PT X e t) (q:∀σ H Q,t' σ H Q→t σ H Q):PT X e t':=fun pins s σ H Q I z=>h pins s σ H Q I (q σ H Q z)
theorem PW.mono{X:Cx}{e:Expr}{t t':TT}(h:PW X e t) (q:∀σ H Q,t' σ H Q→t σ H Q):PW X e t':=fun wh pins s σ H Q I z=>h wh pins s σ H Q I (q σ H Q z)
theorem PA.mono{X:Cx}{e:List Expr}{t t':TA}(h:PA X e t) (q:∀σ H Q,t' σ H Q→t σ H Q):PA X e t':=fun pos pins s σ H Q I z=>h pos pins s σ H Q I (q σ H Q z)
theorem PS.mono{X:Cx}{e:Stmt}{t t':TS}(h:PS X e t) (q:∀D σ H,t' D σ H→t D σ H):PS X e t':=fun pins s σ H D I z=>h pins s σ H D I (q D σ H z)
theorem PSs.mono{X:Cx}{e:List Stmt}{t t':TS}(h:PSs X e t) (q:∀D σ H,t' D σ H→t D σ H):PSs X e t':=fun pins s σ H D I z=>h pins s σ H D I (q D σ H z)
theorem PG.mono{X:Cx}{e:Expr}{t t':TG}(h:PG X e t) (q:∀v σ H Q,t' v σ H Q→t v σ H Q):PG X e t':=fun pins s σ H v u Q I r z=>h pins s σ H v u Q I r (q v σ H Q z)
theorem PI.mono{X:Cx}{tg e:Expr}{t t':TI}(h:PI X tg e t) (q:∀σ H R,t' σ H R→t σ H R):PI X tg e t':=fun pins s σ H R I z=>h pins s σ H R I (q σ H R z)
noncomputable def zad (i:Nat):WE:=fun _ σ S Q=>match σ[i]? with
 |some (some w)=>Q w S
 |_=>False
noncomputable def wC (w:W):WE:=fun _ _ S Q=>Q w S
section
variable {X:Cx}
theorem jv (i:Nat) {x:Str}{pos:Pos}(hN:X.N[i]? =some x:=by rfl) (hv:Vis X.env.scope x:=by first |exact Or.inl rfl |exact Or.inr (Or.inl rfl) |exact Or.inr (Or.inr rfl)) (hd:(x == ("__debug__" :Str))=false:=by decide)
  (hcd:(x == ("__classdict__" :Str))=false:=by decide):JE X (.Name x pos) (zad i):=fun E hE=>(zwh hN hv hd hcd).mono fun σ H Q ⟨σW,S,QW,hσ,hS,ht,hQ⟩=>by
 unfold zad at ht;split at ht
 ·rename_i w e;obtain⟨v,e',r⟩:=hσ.get e;exact⟨v,e',hQ w S v H .refl r hS ht⟩
 ·exact ht.elim
theorem zoQ{e:Expr}{v:V}{w:W}(h:PE X e (tC v)) (r:∀K H,Rep K H w v):JE X e (wC w):=fun E hE=>h.mono fun σ H Q ⟨σW,S,QW,hσ,hS,ht,hQ⟩=>hQ w S v H .refl (r _ _) hS ht
theorem zaf{i j pos}:JE X (.Constant (.int i) j pos) (wC (.int i)):=zoQ zvo fun _ _=> .int i
theorem zem{b j pos}:JE X (.Constant (.bool b) j pos) (wC (.bl b)):=zoQ zyI fun _ _=> .bl b
theorem zdX{j pos}:JE X (.Constant .none j pos) (wC .non):=zoQ zvb fun _ _=> .non
theorem zoL{x j pos}:JE X (.Constant (.str x) j pos) (wC (.str x)):=zoQ zwq fun _ _=> .str x
theorem zds{x:Str}{i:Int}{u:Tok}{pos:Pos}(hg:Gl X x) (hm:X.mg x=some (.int i u)) (hd:(x == ("__debug__" :Str))=false:=by decide):JE X (.Name x pos) (wC (.int i)):=zoQ (v:= .int i) (zsP hg hm ⟨u,rfl⟩ hd) fun _ _=> .int i
end
noncomputable abbrev W2:=W→W→Sto→WK→Prop
noncomputable def wOp (r:W2) (a b:WE):WE:=fun E σ S Q=>a E σ S fun x S1=>b E σ S1 fun y S2=>r x y S2 Q
noncomputable def OpW (K:PySem.W.Frag) (r:R2) (wr:W2):Prop:=∀H x y wx wy S (Q:VK) (QW:WK),Rep K H wx x→Rep K H wy y→RepS K H S→wr wx wy S QW→Wish K H S QW Q→r x y H Q
theorem Wish.from{K:PySem.W.Frag}{H H':Hp}{S S':Sto}{QW:WK}{Q:VK}(h:Wish K H S QW Q) (e:Ext H S H' S'):Wish K H' S' QW Q:=fun w S v H'' e' r hS q=>h w S v H'' (e.trans e') r hS q
theorem Goes.from{K:PySem.W.Frag}{H H':Hp}{S S':Sto}{P:WSt→Sto→Prop}{Q:St→Hp→Prop}(h:Goes K H S P Q) (e:Ext H S H' S'):Goes K H' S' P Q:=fun σW S σ H'' e' r hS q=>h σW S σ H'' (e.trans e') r hS q
theorem Meets.from{K:PySem.W.Frag}{H H':Hp}{S S':Sto}{DW:WEnds}{D:Ends}(h:Meets K H S DW D) (e:Ext H S H' S'):Meets K H' S' DW D:=⟨h.nx.from e,h.rt.from e,h.bk.from e,h.ct.from e⟩
section
variable {X:Cx}{a b:Expr}{pos:Pos}
theorem zgA{K:PySem.W.Frag}{ta tb:WSt→Sto→WK→Prop}{wr:W→W→Sto→WK→Prop}{σ:St}{H:Hp}{Q:VK}{R:V→V→Hp→Prop}
  (h:zwZ K (fun σ S Q=>ta σ S fun x S1=>tb σ S1 fun y S2=>wr x y S2 Q) σ H Q)
  (hR:∀H2 x y wx wy S (QW:WK),Rep K H2 wx x→Rep K H2 wy y→RepS K H2 S→wr wx wy S QW→Wish K H2 S QW Q→R x y H2) :
  zwZ K ta σ H fun x H1=>zwZ K tb σ H1 fun y H2=>R x y H2:=by
 obtain⟨σW,S,QW,hσ,hS,ht,hQ⟩:=h;refine⟨σW,S,_,hσ,hS,ht,fun w1 S1 v1 H1 e1 r1 hS1 h1=>?_⟩;refine⟨σW,S1,_,hσ.ext e1,hS1,h1,fun w2 S2 v2 H2 e2 r2 hS2 h2=>?_⟩;exact hR H2 v1 v2 w1 w2 S2 QW (r1.ext e2) r2 hS2 h2 (hQ.from (e1.trans e2))
theorem zno{op:Operator}{r:R2}{wr:W2}{ta tb:WE}(ho:OpR X (binaryOp op) r) (hw:OpW X.K r wr) (ha:JE X a ta) (hb:JE X b tb):JE X (.BinOp a op b pos) (wOp wr ta tb):=fun E hE=>
 (zoj ho (ha E hE) (hb E hE)).mono fun σ H Q h=>zgA h fun H2 x y wx wy S QW rx ry hS q hQ=>hw H2 x y wx wy S Q QW rx ry hS q hQ
theorem zrP{op:CmpOp}{r:R2}{wr:W2}{ta tb:WE}(ho:OpR X (compareOp op) r) (hw:OpW X.K r wr) (ha:JE X a ta) (hb:JE X b tb) (hm:behindInMarks op b=false):JE X (.Compare a [op] [b] pos) (wOp wr ta tb):=fun E hE=>
 (zuf ho (ha E hE) (hb E hE) hm).mono fun σ H Q h=>zgA h fun H2 x y wx wy S QW rx ry hS q hQ=>hw H2 x y wx wy S Q QW rx ry hS q hQ
end
noncomputable def zco (S:Sto) (a:Addr) (Q:List W→Prop):Prop:=match S a with
 |some (.lst ws)=>Q ws
 |_=>False
theorem zag{S:Sto}{a:Addr}{Q:List W→Prop}{ws:List W}(h:S a=some (.lst ws)):zco S a Q=Q ws:=by unfold zco;rw [h]
theorem zbf{S:Sto}{a:Addr}{Q:List W→Prop}(h:zco S a Q):∃ws,S a=some (.lst ws)∧Q ws:=by
 unfold zco at h;split at h
 ·exact⟨_, ‹_›,h⟩
 ·exact h.elim
noncomputable def zrL:W→Sto→(Bool→Sto→Prop)→Prop
 | .non,S,Q=>Q false S
 | .bl b,S,Q=>Q b S
 | .int i,S,Q=>Q (i != 0) S
 | .str x,S,Q=>x.length≤sizeLine∧Q ((x.length:Int) != 0) S
 | .tup ws,S,Q=>Q (!ws.isEmpty) S
 | .ref a,S,Q=>zco S a fun ws=>Q (!ws.isEmpty) S
 | .scr ns,S,Q=>Q (!ns.isEmpty) S
noncomputable def zib (t:WE):WT:=fun E σ S Q=>t E σ S fun w S'=>zrL w S' Q
noncomputable def wTb (t:WE):WT:=fun E σ S Q=>t E σ S fun w S'=>match w with
 | .bl b=>Q b S'
 |_=>False
noncomputable def zpD (t u:WT):WT:=fun E σ S Q=>t E σ S fun c S1=>if c=true then u E σ S1 Q else Q false S1
noncomputable def wOr (t u:WT):WT:=fun E σ S Q=>t E σ S fun c S1=>if c=true then Q true S1 else u E σ S1 Q
noncomputable def zpP (t:WT):WT:=fun E σ S Q=>t E σ S fun c S1=>Q (!c) S1
noncomputable def znn (t u:WE):WE:=fun E σ S Q=>t E σ S fun w S1=>match w with
 | .bl true=>u E σ S1 Q
 | .bl false=>Q (.bl false) S1
 |_=>False
noncomputable def wIf (c:WT) (t u:WE):WE:=fun E σ S Q=>c E σ S fun b S1=>if b=true then t E σ S1 Q else u E σ S1 Q
noncomputable def zcn (c:WT) (t u:WS):WS:=fun E D σ S=>c E σ S fun b S1=>if b=true then t E D σ S1 else u E D σ S1
noncomputable def zaF:WS:=fun _ D σ S=>D.nx σ S
noncomputable def zar (t u:WS):WS:=fun E D σ S=>t E { D with nx:=u E D } σ S
noncomputable def zbd (e:WE):WS:=fun E D σ S=>e E σ S D.rt
noncomputable def zcw (e:WE):WS:=fun E D σ S=>e E σ S fun _ S1=>D.nx σ S1
noncomputable def zhM:WS:=fun _ _ _ _=>False
noncomputable def wGN (i:Nat):WG:=fun w σ S Q=>Q (σ.set i (some w)) S
noncomputable def wAsg (e:WE) (g:WG):WS:=fun E D σ S=>e E σ S fun w S1=>g w σ S1 D.nx
noncomputable abbrev WGs:=List W→WSt→Sto→(WSt→Sto→Prop)→Prop
noncomputable def zdw:WGs:=fun ws σ S Q=>match ws with
 | []=>Q σ S
 |_=>False
noncomputable def zaA (g:WG) (u:WGs):WGs:=fun ws σ S Q=>match ws with
 | []=>False
 |w::r=>g w σ S fun σ' S'=>u r σ' S' Q
noncomputable def wGT (u:WGs):WG:=fun w σ S Q=>match w with
 | .tup ws=>u ws σ S Q
 |_=>False
section
variable {X:Cx}{a b c e:Expr}{pos:Pos}{ta tb:WE}{tc tA tB':WT}{st:Stmt}{rest:List Stmt}{t u:WS}
theorem ztA{K:PySem.W.Frag}{H:Hp}{w:W}{v:V}{S:Sto}{QW:Bool→Sto→Prop}(r:Rep K H w v) (hS:RepS K H S) (h:zrL w S QW):∃k,zyJ K v H k∧QW k S:=by
 cases r with
 |non=>exact⟨false,rfl,h⟩
 |bl b=>exact⟨b,rfl,h⟩
 |int i=>exact⟨_,rfl,h⟩
 |str x=>exact⟨_,⟨h.1,rfl⟩,h.2⟩
 |ref a=>
  obtain⟨ws,e,h⟩:=zbf h;obtain⟨vs,e1,r1⟩:=hS a _ e;refine⟨_, .inl ⟨vs, .of e1,rfl⟩,?_⟩;have q:vs.isEmpty=ws.isEmpty:=by cases r1<;>rfl
  rw [q];exact h
 | @scr a ns f=>
  refine⟨_, .inl ⟨_,f.sq,rfl⟩,?_⟩;have q:(ns.map V.int).isEmpty=ns.isEmpty:=by cases ns<;>rfl
  rw [q];exact h
 | @tup a vs ws f hs=>
  refine⟨_, .inr (.inl ⟨vs, .of f,rfl⟩),?_⟩;have q:vs.isEmpty=ws.isEmpty:=by cases hs<;>rfl
  rw [q];exact h
theorem zcp (ha:JE X a ta) (he:∀whole,isTrue a X.env whole=(do let v ←whole;standAt a.pos;holding [v] (truthy v)):=by intro _;rfl):JT X a (zib ta):=fun E hE=>
 (zrc (ha E hE) he).mono fun σ H Q ⟨σW,S,QW,hσ,hS,ht,hQ⟩=>⟨σW,S,_,hσ,hS,ht,fun w S1 v H1 e1 r1 hS1 h1=>by
  obtain⟨k,hk,q⟩:=ztA r1 hS1 h1;exact⟨k,hk,hQ k S1 H1 e1 hS1 q⟩⟩
theorem zfx{op:CmpOp}{r:R2}{wr:W2}(ho:OpR X (compareOp op) r) (hw:OpW X.K r wr) (ha:JE X a ta) (hb:JE X b tb) (hm:behindInMarks op b=false):JT X (.Compare a [op] [b] pos) (wTb (wOp wr ta tb)):=fun E hE=>
 (zti ho (ha E hE) (hb E hE) hm).mono fun σ H Q ⟨σW,S,QW,hσ,hS,ht,hQ⟩=>by
  refine zgA (Q:=fun v H1=>∃k,v= .bl k∧Q k H1) ⟨σW,S,fun w S'=>match w with
   | .bl b=>QW b S'
   |_=>False,hσ,hS,ht,fun w S1 v H1 e1 r1 hS1 h1=>?_⟩ fun H2 x y wx wy S QW rx ry hS q hQ=>hw H2 x y wx wy S _ QW rx ry hS q hQ
  cases r1 with
  |bl k=>exact⟨k,rfl,hQ k S1 H1 e1 hS1 h1⟩
  |_=>exact h1.elim
theorem zff (ha:JT X a tA):JT X (.UnaryOp .Not a pos) (zpP tA):=fun E hE=>
 (zwF (ha E hE)).mono fun σ H Q ⟨σW,S,QW,hσ,hS,ht,hQ⟩=>⟨σW,S,_,hσ,hS,ht,fun b S1 H1 e1 hS1 h1=>hQ _ S1 H1 e1 hS1 h1⟩
theorem JW.jt (h:JW X a tA):JT X a tA:=fun E hE=>(h E hE).pt
theorem zfX (ha:JT X a tA):JW X (.BoolOp .And [a] pos) tA:=fun E hE=>zsv (ha E hE)
theorem zgN (ha:JT X a tA):JW X (.BoolOp .Or [a] pos) tA:=fun E hE=>zvn (ha E hE)
theorem zhV{rest:List Expr}(ha:JT X a tA) (hb:JW X (.BoolOp .And (b::rest) pos) tB'):JW X (.BoolOp .And (a::b::rest) pos) (zpD tA tB'):=fun E hE=>
 (zwz (ha E hE) (hb E hE)).mono fun σ H Q ⟨σW,S,QW,hσ,hS,ht,hQ⟩=>⟨σW,S,_,hσ,hS,ht,fun b S1 H1 e1 hS1 h1=>by
  cases b with
  |true=>exact⟨σW,S1,_,hσ.ext e1,hS1,h1,fun b S2 H2 e2 hS2 h2=>hQ b S2 H2 (e1.trans e2) hS2 h2⟩
  |false=>exact hQ _ S1 H1 e1 hS1 h1⟩
theorem zkf{rest:List Expr}(ha:JT X a tA) (hb:JW X (.BoolOp .Or (b::rest) pos) tB'):JW X (.BoolOp .Or (a::b::rest) pos) (wOr tA tB'):=fun E hE=>
 (zxc (ha E hE) (hb E hE)).mono fun σ H Q ⟨σW,S,QW,hσ,hS,ht,hQ⟩=>⟨σW,S,_,hσ,hS,ht,fun b S1 H1 e1 hS1 h1=>by
  cases b with
  |false=>exact⟨σW,S1,_,hσ.ext e1,hS1,h1,fun b S2 H2 e2 hS2 h2=>hQ b S2 H2 (e1.trans e2) hS2 h2⟩
  |true=>exact hQ _ S1 H1 e1 hS1 h1⟩
theorem zmz{op}(h:JE X a ta):JE X (.BoolOp op [a] pos) ta:=fun E hE=>zwc (h E hE)
theorem zmv{rest:List Expr}(ha:JE X a ta) (hb:JE X (.BoolOp .And (b::rest) pos) tb):JE X (.BoolOp .And (a::b::rest) pos) (znn ta tb):=fun E hE=>
 (zuA (ha E hE) (hb E hE)).mono fun σ H Q ⟨σW,S,QW,hσ,hS,ht,hQ⟩=>⟨σW,S,_,hσ,hS,ht,fun w S1 v H1 e1 r1 hS1 h1=>by
  cases r1 with
  |bl k=>
   refine⟨k,rfl,?_⟩;cases k with
   |true=>exact⟨σW,S1,_,hσ.ext e1,hS1,h1,hQ.from e1⟩
   |false=>exact hQ _ S1 _ H1 e1 (.bl false) hS1 h1
  |_=>exact h1.elim⟩
theorem zyH (hc:JT X c tc) (ha:JE X a ta) (hb:JE X b tb):JE X (.IfExp c a b pos) (wIf tc ta tb):=fun E hE=>
 (zrD (hc E hE) (ha E hE) (hb E hE)).mono fun σ H Q ⟨σW,S,QW,hσ,hS,ht,hQ⟩=>⟨σW,S,_,hσ,hS,ht,fun k S1 H1 e1 hS1 h1=>by
  cases k with
  |true=>exact⟨σW,S1,_,hσ.ext e1,hS1,h1,hQ.from e1⟩
  |false=>exact⟨σW,S1,_,hσ.ext e1,hS1,h1,hQ.from e1⟩⟩
theorem zav:JSs X [] zaF:=fun E hE=>pss_nil.mono fun D σ H ⟨σW,S,DW,hσ,hS,ht,hD⟩=>hD.nx σW S σ H .refl hσ hS ht
theorem zae (h1:JS X st t) (h2:JSs X rest u):JSs X (st::rest) (zar t u):=fun E hE=>
 (zri (h1 E hE) (h2 E hE)).mono fun D σ H ⟨σW,S,DW,hσ,hS,ht,hD⟩=>
  ⟨σW,S,{ DW with nx:=u E DW },hσ,hS,ht,⟨fun σW' S' σ' H' e r hS' q=>⟨σW',S',DW,r,hS',q,hD.from e⟩,hD.rt,hD.bk,hD.ct⟩⟩
theorem zaj (h1:JS X st t):JSs X [st] t:=fun E hE=>ztQ (h1 E hE)
theorem zfp:JS X st zhM:=fun E hE=>ps_never.mono fun D σ H ⟨σW,S,DW,hσ,hS,ht,hD⟩=>ht
theorem zaN (he:JE X e ta) (hs:swapsWith e none pos.line X.env=pure false:=by rfl):JS X (.Expr e pos) (zcw ta):=fun E hE=>
 (zsE (he E hE) hs).mono fun D σ H ⟨σW,S,DW,hσ,hS,ht,hD⟩=>⟨σW,S,_,hσ,hS,ht,fun w S1 v H1 e1 r1 hS1 h1=>hD.nx σW S1 σ H1 e1 (hσ.ext e1) hS1 h1⟩
theorem zam (he:JE X e ta):JS X (.Return (some e) pos) (zbd ta):=fun E hE=>
 (zwR (he E hE)).mono fun D σ H ⟨σW,S,DW,hσ,hS,ht,hD⟩=>⟨σW,S,_,hσ,hS,ht,hD.rt⟩
theorem zaM{a b:List Stmt}(hc:JT X c tc) (ha:JSs X a t) (hb:JSs X b u):JS X (.If c a b pos) (zcn tc t u):=fun E hE=>
 (zxT (hc E hE) (ha E hE) (hb E hE)).mono fun D σ H ⟨σW,S,DW,hσ,hS,ht,hD⟩=>⟨σW,S,_,hσ,hS,ht,fun k S1 H1 e1 hS1 h1=>by
  cases k with
  |true=>exact⟨σW,S1,DW,hσ.ext e1,hS1,h1,hD.from e1⟩
  |false=>exact⟨σW,S1,DW,hσ.ext e1,hS1,h1,hD.from e1⟩⟩
theorem zap{i:Nat}{x:Str}(hN:X.N.Nodup) (hi:X.N[i]? =some x) (hx:Loc X.env.scope x) (hf:X.fn x=true∨X.env.scope.names.lookup x=some .local:=by first |exact .inl rfl |exact .inr rfl |assumption):JG X (.Name x pos) (wGN i):=fun E hE=>
 (zsH hN hi hx hf).mono fun v σ H Q ⟨w,σW,S,P,r,hσ,hS,ht,hP⟩=>hP _ S _ H .refl (hσ.set r i) hS ht
noncomputable def JGs (X:Cx) (tgs:List Expr) (t:WGs):Prop:=∀E,Hook X E→PGs X tgs (fun vs σ H Q=>∃ws σW S P,Reps X.K H ws vs∧RpSt X.K H σW σ∧RepS X.K H S∧t ws σW S P∧Goes X.K H S P Q)
theorem zdM:JGs X [] zdw:=fun E hE pins s σ H vs us Q I r h=>by
 obtain⟨ws,σW,S,P,rs,hσ,hS,ht,hP⟩:=h;unfold zdw at ht;split at ht
 ·cases rs;exact ztC pins s σ H [] us Q I r ⟨rfl,hP σW S σ H .refl hσ hS ht⟩
 ·exact ht.elim
theorem zaK{es:List Expr}{g:WG}{gs:WGs}(h1:JG X e g) (h2:JGs X es gs)
  (hs:(assignEach (e::es) X.env).map (·.2)=assign e X.env::(assignEach es X.env).map (·.2):=by rfl):JGs X (e::es) (zaA g gs):=fun E hE pins s σ H vs us Q I r h=>by
 obtain⟨ws,σW,S,P,rs,hσ,hS,ht,hP⟩:=h;unfold zaA at ht;split at ht
 ·exact ht.elim
 ·cases rs with
  |cons r1 r2=>
   refine zqX (h1 E hE) (h2 E hE) hs pins s σ H _ us Q I r ⟨_,_,rfl,⟨_,σW,S,_,r1,hσ,hS,ht,fun σW' S' σ' H' e' rr hS' q=>?_⟩⟩;exact⟨_,σW',S',P,r2.ext e',rr,hS',q,hP.from e'⟩
theorem zfl{es:List Expr}{k n:Nat}{gs:WGs}(h:JGs X es gs) (hlen:∀ws σ S P,gs ws σ S P→ws.length=n)
  (hn:(assignEach es X.env).length=n:=by rfl) (hst:(assignEach es X.env).findIdx? (·.1)=none:=by rfl):JG X (.Tuple es k pos) (wGT gs):=fun E hE=>
 (zuY hE.calm (h E hE) hn hst).mono fun v σ H Q ⟨w,σW,S,P,r,hσ,hS,ht,hP⟩=>by
  cases r with
  |tup f hs=>exact⟨_,_,rfl, .of f,by rw [←hs.length];exact hlen _ _ _ _ ht,⟨_,σW,S,P,hs,hσ,hS,ht,hP⟩⟩
  |_=>exact ht.elim
theorem zrN{tg:Expr}{g:WG}(he:JE X e ta) (hg:JG X tg g) (hs:swapsWithSole [tg] e pos.line X.env=pure false:=by rfl) (hw:swappedStores [tg] e X.env=pure none:=by rfl)
  (h1:(assignEach [tg] X.env).map (·.2)=[assign tg X.env]:=by rfl):JS X (.Assign [tg] e pos) (wAsg ta g):=fun E hE=>
 (zve (he E hE) (hg E hE) hs hw h1).mono fun D σ H ⟨σW,S,DW,hσ,hS,ht,hD⟩=>⟨σW,S,_,hσ,hS,ht,fun w S1 v H1 e1 r1 hS1 h1=>⟨w,σW,S1,_,r1,hσ.ext e1,hS1,h1,hD.nx.from e1⟩⟩
theorem zao{i:Nat}{x:Str}{pos':Pos}(hN:X.N.Nodup) (hi:X.N[i]? =some x) (hx:Loc X.env.scope x) (he:JE X e ta) (hs:swapsWith e (some (.Name x pos')) pos.line X.env=pure false:=by rfl)
  (hf:X.fn x=true∨X.env.scope.names.lookup x=some .local:=by first |exact .inl rfl |exact .inr rfl |assumption):JS X (.Assign [.Name x pos'] e pos) (wAsg ta (wGN i)):=fun E hE=>
 (zvY hN hi hx (he E hE) hs hf).mono fun D σ H ⟨σW,S,DW,hσ,hS,ht,hD⟩=>⟨σW,S,_,hσ,hS,ht,fun w S1 v H1 e1 r1 hS1 h1=>hD.nx _ S1 _ H1 e1 ((hσ.ext e1).set r1 i) hS1 h1⟩
end
noncomputable def waNil:WA:=fun _ _ S Q=>Q [] S
noncomputable def zab (t:WE) (u:WA):WA:=fun E σ S Q=>t E σ S fun w S1=>u E σ S1 fun ws S2=>Q (w::ws) S2
noncomputable def zbR (t:WA):WE:=fun E σ S Q=>t E σ S fun ws S1=>ws.length≤sizeLine∧Q (.tup ws) S1
noncomputable def zdJ (t:WA):WL:=fun E σ S Q=>t E σ S fun ws S1=>ws.length≤sizeLine∧Q ws S1
noncomputable def zcD (t:WL):WE:=fun E σ S Q=>t E σ S fun ws S1=>∀a,S1 a=none→Q (.ref a) (put S1 a (.lst ws))
section
variable {X:Cx}{e:Expr}{es:List Expr}{te:WE}{ta:WA}{tl:WL}{pos:Pos}
theorem zac:JA X [] waNil:=fun E hE=>pa_nil.mono fun σ H Q ⟨σW,S,QW,hσ,hS,ht,hQ⟩=>hQ [] S [] H .refl .nil hS ht
theorem zaa (ha:JE X e te) (hr:JA X es ta) (hs:starEach (e::es) X.env=(false,eval e X.env)::starEach es X.env:=by rfl):JA X (e::es) (zab te ta):=fun E hE=>
 (zdu (ha E hE) (hr E hE) hs).mono fun σ H Q ⟨σW,S,QW,hσ,hS,ht,hQ⟩=>⟨σW,S,_,hσ,hS,ht,fun w S1 v H1 e1 r1 hS1 h1=>⟨σW,S1,_,hσ.ext e1,hS1,h1,fun ws S2 vs H2 e2 r2 hS2 h2=>
  hQ (w::ws) S2 (v::vs) H2 (e1.trans e2) (.cons (r1.ext e2) r2) hS2 h2⟩⟩
theorem zau{x1}(h:JA X es ta):JE X (.Tuple es x1 pos) (zbR ta):=fun E hE=>
 (zwf (h E hE)).mono fun σ H Q ⟨σW,S,QW,hσ,hS,ht,hQ⟩=>⟨σW,S,_,hσ,hS,ht,fun ws S1 vs H1 e1 r1 hS1 h1=>by
  refine⟨by rw [←r1.length];exact h1.1,fun p hp=>hQ (.tup ws) S1 _ _ (e1.trans (.new hp)) (.tup zax (r1.ext (.new (S:=S1) hp))) (hS1.new hp) h1.2⟩⟩
theorem zaP (h:JA X es ta):JL X (.List es pos) (zdJ ta):=fun E hE=>
 (zvu (h E hE)).mono fun σ H Q ⟨σW,S,QW,hσ,hS,ht,hQ⟩=>⟨σW,S,_,hσ,hS,ht,fun ws S1 vs H1 e1 r1 hS1 h1=>by
  refine⟨by rw [←r1.length];exact h1.1,fun p hp=>hQ ws S1 vs p _ (e1.trans (.new hp)) (e1.free hp) zax (hS1.free hp) (r1.ext (.new (S:=S1) hp)) (hS1.new hp) h1.2⟩⟩
theorem zaB (h:JL X e tl):JE X e (zcD tl):=fun E hE=>
 (h E hE).mono fun σ H Q ⟨σW,S,QW,hσ,hS,ht,hQ⟩=>⟨σW,S,_,hσ,hS,ht,fun ws S1 vs a H1 e1 fa ea na r1 hS1 h1=>by
  refine hQ (.ref a) (put S1 a (.lst ws)) (.ref a) H1 ⟨e1.tup,e1.frz,fun b o q g=>by
   have hb:b≠a:=by rintro rfl;rw [fa]at q;cases q
   rw [zaD hb];exact e1.fr b o q g,e1.all⟩ (.ref a) (fun b o q=>?_) (h1 a na)
  by_cases hb:b=a
  ·subst hb;rw [zah]at q;cases q;exact⟨vs,ea,r1⟩
  ·rw [zaD hb]at q;exact hS1 b o q⟩
end
noncomputable def zal (c:WSp) (t:WA):WE:=fun E σ S Q=>t E σ S fun ws S1=>c ws S1 Q fun cl S2=>E cl σ S2
noncomputable def zcK (n k:Nat) (body:WS):WSp:=fun ws S Q E=>ws.length=k∧body (fun c _ S'=>E c S') { nx:=fun _ S'=>∃S'',Sub S'' S'∧Q .non S'',rt:=fun w S'=>∃S'',Sub S'' S'∧Q w S'' } (ws.map some++List.replicate (n - k) none) S
section
variable {X:Cx}{k:Nat}{f:Addr}{fd:FuncData}{ps:List Str}{c:WSp}{x:Str}{p pos:Pos}{e:Expr}{es:List Expr}{t:WA}
theorem zai (F:FnOk X.prog X.w X.K X.mg X.base CX0 k f fd ps (zdZ X.K c)) (hr:Room k X.A) (hg:Gl X x) (hm:X.mg x=some (.ref f)) (hk:PySem.W.keepIn X.K (.ref f)=true) (hb:Binds X.K fd ps [])
  (ha:JA X (e::es) t) (hdb:(x == ("__debug__" :Str))=false:=by decide) (he:starEach (e::es) X.env=(false,eval e X.env)::starEach es X.env:=by rfl) (hpl:(backTo pos (starEach es X.env)).any (·.1)=false:=by rfl) :
  JE X (.Call (.Name x p) (e::es) [] pos) (zal c t):=fun E hE=>
 (zsy (E:=E0) (dvs:=[]) F hr hg hm hk hb .nil zxR (ha E hE) hdb he hpl).mono fun σ H Q ⟨σW,S,QW,hσ,hS,ht,hQ⟩=>⟨σW,S,_,hσ,hS,ht,fun ws S1 vs H1 e1 r1 hS1 h1=>by
  rw [hE.no]at h1;refine⟨ws,S1,QW,by rw [List.append_nil];exact r1,hS1,h1,hQ.from e1⟩⟩
theorem zpo{K:PySem.W.Frag}{H:Hp}{N:List Str}{ws:List W}{vs:List V}(h:Reps K H ws vs):RpSt K H (ws.map some++List.replicate (N.length - ws.length) none) (start N vs):=by
 have go:∀{ws:List W}{vs:List V}(m:Nat),Reps K H ws vs→RpSt K H (ws.map some++List.replicate m none) (vs.map some++List.replicate m none):=by
  intro ws
  induction ws with
  |nil=>
   intro vs m h;cases h
   induction m with
   |zero=>exact .nil
   |succ m ih=>exact .cons trivial ih
  |cons w ws ih=>
   intro vs m h;cases h with
   |cons r rs=>exact .cons r (ih m rs)
 unfold start;rw [←h.length];exact go _ h
theorem zaV{P:Program}{w:World}{K:PySem.W.Frag}{mg:Str→Option Value}{base:Heap}{x qual:Str}{st:Stmt}{f:Addr}{fd:FuncData}{N ps:List Str}{r n k:Nat}{body:WS}(F:Fun K x qual st f fd) (S:FnScope N ps (zak st)) (hn:N.length=n) (hk:ps.length=k)
  (hbody:∀(cdv:Value) (A:Around) (outer:List Env) (s:Shared) (H:Hp) (E:XK),Room r (A.deeper (envOfC qual (zak st) s.heap.objs.size f cdv))→
   JSs (ztt CX0 P w K mg base N qual (zak st) f cdv A outer s H E).nox (zeQ st) body):FnOk P w K mg base CX0 (r+1) f fd ps (zdZ K (zcK n k body)):=by
 refine F.ok S (fun vs H Q E h=>?_) fun cdv A outer s H vs Q E hr h=>?_
 ·obtain⟨ws,S,QW,rs,_,h,_⟩:=h;rw [←rs.length,h.1,hk]
 ·obtain⟨ws,S',QW,rs,hS,h,hQ⟩:=h;refine⟨_,hbody cdv A outer s H E hr (fun _ _ _=>False) ⟨rfl,rfl,rfl⟩,?_⟩;refine⟨_,S',{ nx:=fun _ S'=>∃S'',Sub S'' S'∧QW .non S'',rt:=fun w S'=>∃S'',Sub S'' S'∧QW w S'' },zpo (N:=N) rs,hS,by rw [hn,h.1];exact h.2,⟨fun σW S1 σ H1 e1 rr hS1 q=>?_,fun w S1 v H1 e1 rr hS1 q=>?_,fun _ _ _ _ _ _ _ q=>q,fun _ _ _ _ _ _ _ q=>q⟩⟩
  ·obtain⟨S2,sb,q⟩:=q;exact hQ .non S2 .non H1 (e1.trans (.drop sb)) .non (hS1.sub sb) q
  ·obtain⟨S2,sb,q⟩:=q;exact hQ w S2 v H1 (e1.trans (.drop sb)) rr (hS1.sub sb) q
end
noncomputable def zcZ (C:Int→Int→Prop) (g:Int→Int→W):W2
 | .int i, .int j,S,Q=>C i j∧Q (g i j) S
 |_,_,_,_=>False
noncomputable def zej (g:Int→Int→W):W2
 | .int i, .int j,S,Q=>Q (g i j) S
 |_,_,_,_=>False
theorem ziq{K:PySem.W.Frag}{C:Int→Int→Prop}{g:Int→Int→Int}:OpW K (rI C fun i j=> .int (g i j)) (zcZ C fun i j=> .int (g i j)):=fun H x y wx wy S Q QW rx ry hS h hQ=>by
 cases rx<;>cases ry<;>first |exact⟨_,_,rfl,rfl,h.1,hQ _ S _ H .refl (.int _) hS h.2⟩ |exact h.elim
theorem zqP{K:PySem.W.Frag}{g:Int→Int→Int}:OpW K (rI0 fun i j=> .int (g i j)) (zej fun i j=> .int (g i j)):=fun H x y wx wy S Q QW rx ry hS h hQ=>by
 cases rx<;>cases ry<;>first |exact⟨_,_,rfl,rfl,hQ _ S _ H .refl (.int _) hS h⟩ |exact h.elim
theorem zix{K:PySem.W.Frag}{g:Int→Int→Bool}:OpW K (rI0 fun i j=> .bl (g i j)) (zej fun i j=> .bl (g i j)):=fun H x y wx wy S Q QW rx ry hS h hQ=>by
 cases rx<;>cases ry<;>first |exact⟨_,_,rfl,rfl,hQ _ S _ H .refl (.bl _) hS h⟩ |exact h.elim
noncomputable def zda:W2
 | .int i, .int j,S,Q=>Q (.int (i+j)) S
 | .str x, .str y,S,Q=>x.length+y.length≤sizeLine∧Q (.str (x++y)) S
 | .tup xs, .tup ys,S,Q=>xs.length+ys.length≤sizeLine∧Q (.tup (xs++ys)) S
 | .ref a, .ref b,S,Q=>zco S a fun xs=>zco S b fun ys=>xs.length+ys.length≤sizeLine∧ ∀p,S p=none→Q (.ref p) (put S p (.lst (xs++ys)))
 |_,_,_,_=>False
section
variable {X:Cx}
theorem Reps.nil_r{K:PySem.W.Frag}{H:Hp}{ws:List W}(h:Reps K H ws []):ws=[]:=by cases h;rfl
theorem op_catT0:OpR X (binaryOp .Add) (fun x y H Q=>∃a b ys,x= .ref a∧y= .ref b∧SqT X.K H a []∧SqT X.K H b ys∧Q (.ref b) H):=by
 intro pins s σ H x y v u Q I rx ry h;obtain⟨a,b,ys,rfl,rfl,ha,hb,q⟩:=h;cases rx;cases ry;obtain⟨its,r1,p1,_⟩:=I.tuple ha;obtain⟨its2,r2,p2,_⟩:=I.tuple hb;cases r1;obtain⟨⟨cls,dd,data,sl⟩,ho,hc,n,hd⟩:=id p1;obtain⟨⟨cls2,dd2,data2,sl2⟩,ho2,hc2,n2,hd2⟩:=id p2;simp only at hc hd hc2 hd2;subst hc hd hc2 hd2;exact concat_meets ⟨_,ho,rfl⟩ ⟨_,ho2,rfl⟩ noFill_tuple_add seq_tuple_add PySem.F.slot_tuple_add PySem.F.entry_tuple_add (PySem.F.args_tuple_add_2 _ _)
   (tuple_addW0 a b _ _ n n2 dd dd2 sl sl2 (by simp)) ⟨ho,ho2,⟨.ref b,H,I,rfl,q⟩⟩
theorem zpu:OpR X (binaryOp .Add) (fun x y H Q=>(rI0 fun i j=> .int (i+j)) x y H Q∨(∃i j,x= .str i∧y= .str j∧i.length+j.length≤sizeLine∧Q (.str (i++j)) H)∨
  (∃a b ys,x= .ref a∧y= .ref b∧SqT X.K H a []∧SqT X.K H b ys∧Q (.ref b) H)∨zuh X.K x y H Q∨zyf x y H Q):=op_add.or (op_add_str.or (op_catT0.or (op_catT.or zmp)))
theorem zsQ{K:PySem.W.Frag}:OpW K (fun x y H Q=>(rI0 fun i j=> .int (i+j)) x y H Q∨(∃i j,x= .str i∧y= .str j∧i.length+j.length≤sizeLine∧Q (.str (i++j)) H)∨
  (∃a b ys,x= .ref a∧y= .ref b∧SqT K H a []∧SqT K H b ys∧Q (.ref b) H)∨zuh K x y H Q∨zyf x y H Q) zda:=fun H x y wx wy S Q QW rx ry hS h hQ=>by
 cases rx with
 |int i=>
  cases ry with
  |int j=>exact .inl ⟨i,j,rfl,rfl,hQ _ S _ H .refl (.int _) hS h⟩
  |_=>exact h.elim
 |str i=>
  cases ry with
  |str j=>exact .inr (.inl ⟨i,j,rfl,rfl,h.1,hQ _ S _ H .refl (.str _) hS h.2⟩)
  |_=>exact h.elim
 | @tup a vs ws f hs=>
  cases ry with
  | @tup b us zs g ks=>
   cases hs with
   |nil=>exact .inr (.inr (.inl ⟨a,b,us,rfl,rfl, .of f, .of g,hQ (.tup zs) S _ H .refl (.tup g ks) hS h.2⟩))
   |cons h1 h2=>
    refine .inr (.inr (.inr (.inl ⟨a,b,_,us,rfl,rfl, .of f, .of g,by simp,?_,fun e=>?_,fun e p hp=>?_⟩)))
    ·rw [←(Reps.cons h1 h2).length,←ks.length];exact h.1
    ·subst e;have e':=ks.nil_r;subst e';have q:=h.2;rw [List.append_nil]at q;exact hQ _ S _ H .refl (.tup f (.cons h1 h2)) hS q
    ·exact hQ _ S _ _ (.new hp) (.tup zax (((Reps.cons h1 h2).append ks).ext (.new (S:=S) hp))) (hS.new hp) h.2
  |_=>exact h.elim
 |ref a=>
  cases ry with
  |ref b=>
   obtain⟨xs,ea,h⟩:=zbf h;obtain⟨ys,eb,h⟩:=zbf h;obtain⟨vs,e1,r1⟩:=hS a _ ea;obtain⟨us,e2,r2⟩:=hS b _ eb;refine .inr (.inr (.inr (.inr ⟨a,b,vs,us,rfl,rfl,e1,e2,by rw [←r1.length,←r2.length];exact h.1,fun p hp=>?_⟩)))
   exact hQ _ _ _ _ (.newS hp) (.ref p) (hS.put_lst hp ((r1.append r2).ext (.new (S:=S) hp))) (h.2 p (hS.free hp))
  |_=>exact h.elim
 |_=>exact h.elim
variable {a b:Expr}{pos:Pos}{ta tb:WE}
theorem zaT (ha:JE X a ta) (hb:JE X b tb):JE X (.BinOp a .Add b pos) (wOp zda ta tb):=zno zpu zsQ ha hb
theorem zka (ha:JE X a ta) (hb:JE X b tb):JE X (.BinOp a .Sub b pos) (wOp (zej fun i j=> .int (i - j)) ta tb):=zno zwm zqP ha hb
theorem zsi (ha:JE X a ta) (hb:JE X b tb):JE X (.BinOp a .Mult b pos) (wOp (zcZ CMul fun i j=> .int (i*j)) ta tb):=zno zvm ziq ha hb
theorem zcJ (ha:JE X a ta) (hb:JE X b tb):JE X (.BinOp a .FloorDiv b pos) (wOp (zcZ ziZ fun i j=> .int (i / j)) ta tb):=zno zsL ziq ha hb
theorem zcb (ha:JE X a ta) (hb:JE X b tb):JE X (.BinOp a .Mod b pos) (wOp (zcZ (fun _ j=>0<j) fun i j=> .int (i % j)) ta tb):=zno zwr ziq ha hb
theorem zwt (ha:JE X a ta) (hb:JE X b tb):JE X (.BinOp a .Pow b pos) (wOp (zcZ zxU fun i j=> .int (i ^ j.toNat)) ta tb):=zno zwl ziq ha hb
noncomputable def znJ (t:WE):WE:=fun E σ S Q=>t E σ S fun w S1=>match w with
 | .int i=>Q (.int (-i)) S1
 |_=>False
theorem zgl (ha:JE X a ta):JE X (.UnaryOp .USub a pos) (znJ ta):=fun E hE=>
 (zxb zwO (ha E hE)).mono fun σ H Q ⟨σW,S,QW,hσ,hS,ht,hQ⟩=>⟨σW,S,_,hσ,hS,ht,fun w S1 v H1 e1 r1 hS1 h1=>by
  cases r1 with
  |int i=>exact⟨i,rfl,hQ _ S1 _ H1 e1 (.int _) hS1 h1⟩
  |_=>exact h1.elim⟩
noncomputable def zxE (t u:WE):WL:=fun E σ S Q=>t E σ S fun x S1=>u E σ S1 fun y S2=>match x,y with
 | .ref a, .ref b=>zco S2 a fun xs=>zco S2 b fun ys=>xs.length+ys.length≤sizeLine∧Q (xs++ys) S2
 |_,_=>False
end
noncomputable def zdI (f:W→W→Option Bool):List W→List W→Option Bool
 | [],[]=>some true
 | [],_=>some false
 |_,[]=>some false
 |x::xs,y::ys=>match f x y,zdI f xs ys with
  |some a,some b=>some (a&&b)
  |_,_=>none
noncomputable def eqF (S:Sto):Nat→W→W→Option Bool
 |0,_,_=>none
 |n+1,w,u=>match w,u with
  | .non, .non=>some true
  | .bl a, .bl b=>some (a == b)
  | .int a, .int b=>some (a == b)
  | .str a, .str b=>some (a == b)
  | .tup _, .int _=>some false
  | .int _, .tup _=>some false
  | .tup xs, .tup ys=>zdI (eqF S n) xs ys
  | .ref a, .ref b=>match S a with
   |some (.lst xs)=>match S b with
    |some (.lst ys)=>zdI (eqF S n) xs ys
    |_=>none
   |_=>none
  |_,_=>none
theorem zmb{f:W→W→Option Bool}:∀{xs ys:List W}{b:Bool},zdI f xs ys=some b→
  (∀j,j<xs.length→j<ys.length→ ∃c,f (xs.getD j .non) (ys.getD j .non)=some c)∧
  ((List.range (min xs.length ys.length)).all (fun j=>(f (xs.getD j .non) (ys.getD j .non)).getD true)&&xs.length == ys.length)=b
 | [],[],b,h=>by
  have:true=b:=Option.some.inj h;subst this;exact⟨fun j h=>absurd h (by simp),by simp⟩
 | [],y::ys,b,h=>by
  have:false=b:=Option.some.inj h;subst this;exact⟨fun j h=>absurd h (by simp),by simp⟩
 |x::xs,[],b,h=>by
  have:false=b:=Option.some.inj h;subst this;exact⟨fun j _ h=>absurd h (by simp),by simp⟩
 |x::xs,y::ys,b,h=>by
  unfold zdI at h;split at h
  ·rename_i c d e1 e2;have hb:(c&&d)=b:=Option.some.inj h;obtain⟨h1,h2⟩:=zmb e2;refine⟨fun j j1 j2=>?_,?_⟩
   ·cases j with
    |zero=>exact⟨c,by simpa using e1⟩
    |succ j=>simpa using h1 j (by simpa using j1) (by simpa using j2)
   ·have hm:min (xs.length+1) (ys.length+1)=min xs.length ys.length+1:=by omega
    have hl:(xs.length+1 == ys.length+1)=(xs.length == ys.length):=by simp
    rw [List.length_cons,List.length_cons,hm,List.range_succ_eq_map,List.all_cons,List.all_map,hl];have q:((fun j=>(f ((x::xs).getD j .non) ((y::ys).getD j .non)).getD true)∘Nat.succ)=fun j=>(f (xs.getD j .non) (ys.getD j .non)).getD true:=by
     funext j;simp
    rw [q,Bool.and_assoc,h2];have q0:(f ((x::xs).getD 0 .non) ((y::ys).getD 0 .non)).getD true=c:=by simp [e1]
    rw [q0,hb]
  ·cases h
section
variable {X:Cx}{pins:List (Addr×Obj)}{σ:St}{H:Hp}{s:Shared}{S:Sto}
theorem zij (I:Inv X pins σ H s):∀(n:Nat) {wx wy:W}{v:V}{b:Bool},Rep X.K H wx v→Rep X.K H wy v→RepS X.K H S→eqF S n wx wy=some b→b=true
 |0,_,_,_,_,_,_,_,h=>by cases h
 |n+1,wx,wy,v,b,rx,ry,hS,h=>by
  have list:∀{ws us:List W}{vs:List V}{b:Bool},Reps X.K H ws vs→Reps X.K H us vs→zdI (eqF S n) ws us=some b→b=true:=by
   intro ws
   induction ws with
   |nil=>
    intro us vs b r1 r2 e;cases r1;cases r2;exact(Option.some.inj e).symm
   |cons w ws ih=>
    intro us vs b r1 r2 e;cases r1 with
    |cons a1 a2=>
     cases r2 with
     |cons c1 c2=>
      unfold zdI at e;split at e
      ·rename_i c d e1 e2;have q1:=zij I n a1 c1 hS e1;have q2:=ih a2 c2 e2;have:=Option.some.inj e;rw [q1,q2]at this;exact this.symm
      ·cases e
  cases rx with
  |non=>cases ry;exact(Option.some.inj h).symm
  |bl k=>cases ry;have:=Option.some.inj h;simpa using this.symm
  |int k=>cases ry;have:=Option.some.inj h;simpa using this.symm
  |str k=>cases ry;have:=Option.some.inj h;simpa using this.symm
  |ref a=>
   cases ry with
   |ref _=>
    have h':(match S a with
     |some (.lst xs)=>match S a with
      |some (.lst ys)=>zdI (eqF S n) xs ys
      |_=>none
     |_=>none)=some b:=h
    cases e:S a with
    |none=>rw [e]at h';cases h'
    |some o=>
     rw [e]at h';cases o with
     |lst ws=>
      obtain⟨vs,_,r⟩:=hS a _ e;exact list r r h'
     |dct _=>cases h'
     |ins _ _=>cases h'
   |scr _=>cases h
   |tup _ _=>cases h
  |scr f=>cases ry<;>cases h
  |tup f hs=>
   cases ry with
   |ref _=>cases h
   |scr _=>cases h
   |tup g ks=>
    have e:=I.tuple_inj (.of f) (.of g);subst e;exact list hs ks h
theorem zjM{A:Around}:A.in1.units=A.units+1:=rfl
theorem zmo (I:Inv X pins σ H s) (hS:RepS X.K H S):∀(n:Nat) {A:Around}{wx wy:W}{x y:V}{u v:Value}{b:Bool},A.units+n<cLine→Rep X.K H wx x→Rep X.K H wy y→RelV x u→RelV y v→eqF S n wx wy=some b→
  SeqAt.EqAt A s u v b∧SeqAt.RcAt A s u v b∧SeqAt.RcNeAt A s u v (!b)
 |0,_,_,_,_,_,_,_,_,_,_,_,_,_,h=>by cases h
 |n+1,A,wx,wy,x,y,u,v,b,hu,rx,ry,ru,rv,h=>by
  have hu0:A.units<cLine:=by omega
  have items:∀{ws zs:List W}{xs ys:List V}{us vs:List Value}{b:Bool},Reps X.K H ws xs→Reps X.K H zs ys→Vals xs us→Vals ys vs→zdI (eqF S n) ws zs=some b→
    (∀j (h1:j<us.toArray.size) (h2:j<vs.toArray.size),SeqAt.EqAt A.in1 s us.toArray[j] vs.toArray[j] ((eqF S n (ws.getD j .non) (zs.getD j .non)).getD true))∧
    ((List.range (min us.toArray.size vs.toArray.size)).all (fun j=>(eqF S n (ws.getD j .non) (zs.getD j .non)).getD true)&&us.toArray.size == vs.toArray.size)=b:=by
   intro ws zs xs ys us vs b r1 r2 q1 q2 e;obtain⟨h1,h2⟩:=zmb e;have l1:=r1.length;have l2:=r2.length;have l3:=q1.length;have l4:=q2.length;refine⟨fun j j1 j2=>?_,?_⟩
   ·rw [List.size_toArray]at j1 j2;obtain⟨c,hc⟩:=h1 j (by omega) (by omega);have jw:j<ws.length:=by omega
    have jz:j<zs.length:=by omega
    obtain⟨x',ex,rx'⟩:=r1.get (List.getElem?_eq_getElem jw);obtain⟨y',ey,ry'⟩:=r2.get (List.getElem?_eq_getElem jz);obtain⟨u',eu,ru'⟩:=q1.get ex;obtain⟨v',ev,rv'⟩:=q2.get ey;have e1:us.toArray[j]=u':=by
     obtain⟨_,e⟩:=List.getElem?_eq_some_iff.mp eu;simpa using e
    have e2:vs.toArray[j]=v':=by
     obtain⟨_,e⟩:=List.getElem?_eq_some_iff.mp ev;simpa using e
    have g1:ws.getD j .non=ws[j]:=by rw [List.getD_eq_getElem?_getD,List.getElem?_eq_getElem jw];rfl
    have g2:zs.getD j .non=zs[j]:=by rw [List.getD_eq_getElem?_getD,List.getElem?_eq_getElem jz];rfl
    rw [e1,e2,hc];rw [g1,g2]at hc;exact(zmo I hS n (by rw [zjM];omega) rx' ry' ru' rv' hc).1
   ·rw [List.size_toArray,List.size_toArray,←l3,←l4,←l1,←l2];exact h2
  cases rx with
  |non=>
   cases(show u=Value.none from ru);cases ry with
   |non=>cases(show v=Value.none from rv);cases h;exact⟨.same _, .none_none, .none_none⟩
   |_=>cases h
  |bl k=>
   cases(show u=Value.bool k from ru);cases ry with
   |bl j=>cases(show v=Value.bool j from rv);cases h;exact⟨.bool_bool _ _, .bool_bool _ _, .bool_bool _ _⟩
   |_=>cases h
  |int k=>
   obtain⟨t0,rfl⟩:=ru;cases ry with
   |int j=>obtain⟨t,rfl⟩:=rv;cases h;exact⟨.int_int _ _ _ _, .int_int _ _ _ _, .int_int _ _ _ _⟩
   |tup f hs=>cases(show v=Value.ref _ from rv);cases h;obtain⟨its,_,p,_⟩:=I.tuple (.of f);exact⟨.int_tuple _ _ p hu0, .int_tuple _ _ p hu0, .int_tuple _ _ p hu0⟩
   |_=>cases h
  |str k=>
   obtain⟨t0,rfl⟩:=ru;cases ry with
   |str j=>obtain⟨t,rfl⟩:=rv;cases h;exact⟨.str_str _ _ _ _, .str_str _ _ _ _, .str_str _ _ _ _⟩
   |_=>cases h
  | @tup a xs ws f hs=>
   cases(show u=Value.ref a from ru);obtain⟨its,q1,p,_⟩:=I.tuple (.of f);cases ry with
   |int j=>obtain⟨t,rfl⟩:=rv;cases h;exact⟨.tuple_int _ _ p hu0, .tuple_int _ _ p hu0, .tuple_int _ _ p hu0⟩
   | @tup c ys zs g ks=>
    cases(show v=Value.ref c from rv);obtain⟨its2,q2,p2,_⟩:=I.tuple (.of g);obtain⟨h1,h2⟩:=items hs ks q1 q2 h;have rc:SeqAt.RcAt A s (.ref a) (.ref c) b:=by
     have:=SeqAt.RcAt.tuples p p2 hu0 h1;rw [h2]at this;exact this
    have rn:SeqAt.RcNeAt A s (.ref a) (.ref c) (!b):=by
     have:=SeqAt.RcNeAt.tuples p p2 hu0 h1;rw [h2]at this;exact this
    refine⟨?_,rc,rn⟩;by_cases e:a=c
    ·subst e;have:=zij I (n+1) (.tup f hs) (.tup g ks) hS h;rw [this];exact .same _
    ·exact .of_refs e rc
   |_=>cases h
  |ref a=>
   cases(show u=Value.ref a from ru);cases ry with
   |ref c=>
    cases(show v=Value.ref c from rv);have h':(match S a with
     |some (.lst xs)=>match S c with
      |some (.lst ys)=>zdI (eqF S n) xs ys
      |_=>none
     |_=>none)=some b:=h
    cases e:S a with
    |none=>rw [e]at h';cases h'
    |some o=>
     rw [e]at h';cases o with
     |dct _=>cases h'
     |ins _ _=>cases h'
     |lst ws=>
      cases e2:S c with
      |none=>rw [e2]at h';cases h'
      |some o2=>
       rw [e2]at h';cases o2 with
       |dct _=>cases h'
       |ins _ _=>cases h'
       |lst zs=>
        obtain⟨xs,f,hs⟩:=hS a _ e;obtain⟨ys,g,ks⟩:=hS c _ e2;obtain⟨its,q1,p,_⟩:=I.list (.of f);obtain⟨its2,q2,p2,_⟩:=I.list (.of g);obtain⟨h1,h2⟩:=items hs ks q1 q2 h';have both:SeqAt.RcAt A s (.ref a) (.ref c) b∧SeqAt.RcNeAt A s (.ref a) (.ref c) (!b):=by
         by_cases hz:its.toArray.size=its2.toArray.size
         ·have t1:=SeqAt.RcAt.lists p.isList p2.isList hz hu0 h1;have t2:=SeqAt.RcNeAt.lists p.isList p2.isList hz hu0 h1;rw [←hz,Nat.min_self,beq_self_eq_true,Bool.and_true]at h2;rw [h2]at t1 t2;exact⟨t1,t2⟩
         ·have hz':(its.toArray.size != its2.toArray.size)=true:=by simpa using hz
          have hz2:(its.toArray.size == its2.toArray.size)=false:=by simpa using hz
          rw [hz2,Bool.and_false]at h2;subst h2;exact⟨.lists_lengths p.isList p2.isList hz' hu0, .lists_lengths p.isList p2.isList hz' hu0⟩
        refine⟨?_,both.1,both.2⟩;by_cases ee:a=c
        ·subst ee;have:=zij I (n+1) (.ref a) (.ref a) hS h;rw [this];exact .same _
        ·exact .of_refs ee both.1
   |_=>cases h
  |scr f=>cases ry<;>cases h
end
noncomputable def oEq (neg:Bool):W2:=fun x y S Q=>match eqF S 60 x y with
 |some b=>Q (.bl (if neg then !b else b)) S
 |none=>False
noncomputable def zxh (K:PySem.W.Frag) (neg:Bool):R2:=fun x y H Q=>∃wx wy S b,Rep K H wx x∧Rep K H wy y∧RepS K H S∧eqF S 60 wx wy=some b∧Q (.bl (if neg then !b else b)) H
section
variable {X:Cx}
theorem zrQ (hu:X.A.units+60<cLine):OpR X (compareOp .Eq) (zxh X.K false):=by
 intro pins s σ H x y v u Q I rx ry h;obtain⟨wx,wy,S,b,r1,r2,hS,e,q⟩:=h;exact(zmo I hS 60 hu r1 r2 rx ry e).2.1 _ _ _ _ ⟨.bl b,H,I,rfl,q⟩
theorem zvA (hu:X.A.units+60<cLine):OpR X (compareOp .NotEq) (zxh X.K true):=by
 intro pins s σ H x y v u Q I rx ry h;obtain⟨wx,wy,S,b,r1,r2,hS,e,q⟩:=h;exact(zmo I hS 60 hu r1 r2 rx ry e).2.2 _ _ _ _ ⟨.bl (!b),H,I,rfl,q⟩
theorem zpy{K:PySem.W.Frag}{neg:Bool}:OpW K (zxh K neg) (oEq neg):=fun H x y wx wy S Q QW rx ry hS h hQ=>by
 unfold oEq at h;split at h
 ·rename_i b e;exact⟨wx,wy,S,b,rx,ry,hS,e,hQ _ S _ H .refl (.bl _) hS h⟩
 ·exact h.elim
variable {a b:Expr}{pos:Pos}{ta tb:WE}
theorem zjv{k:Nat}(hr:Room k X.A) (ha:JE X a ta) (hb:JE X b tb):JE X (.Compare a [.Eq] [b] pos) (wOp (oEq false) ta tb):=zrP (zrQ (by have:=hr.units;omega)) zpy ha hb (nomark b)
theorem zeB{k:Nat}(hr:Room k X.A) (ha:JE X a ta) (hb:JE X b tb):JT X (.Compare a [.Eq] [b] pos) (wTb (wOp (oEq false) ta tb)):=zfx (zrQ (by have:=hr.units;omega)) zpy ha hb (nomark b)
theorem zhG{k:Nat}(hr:Room k X.A) (ha:JE X a ta) (hb:JE X b tb):JT X (.Compare a [.NotEq] [b] pos) (wTb (wOp (oEq true) ta tb)):=zfx (zvA (by have:=hr.units;omega)) zpy ha hb (nomark b)
noncomputable abbrev oLt:W2:=zej fun i j=> .bl (decide (i<j))
noncomputable abbrev oGt:W2:=zej fun i j=> .bl (decide (j<i))
noncomputable abbrev oGe:W2:=zej fun i j=> .bl (decide (j≤i))
noncomputable def oLe:W2
 | .int i, .int j,S,Q=>Q (.bl (decide (i≤j))) S
 | .str i, .str j,S,Q=>Q (.bl (!decide (j.cps.toList<i.cps.toList))) S
 |_,_,_,_=>False
theorem zwi{K:PySem.W.Frag}:OpW K (fun x y H Q=>rI0 (fun i j=> .bl (decide (i≤j))) x y H Q∨(∃i j,x= .str i∧y= .str j∧Q (.bl (!decide (j.cps.toList<i.cps.toList))) H)) oLe:=fun H x y wx wy S Q QW rx ry hS h hQ=>by
 cases rx with
 |int i=>
  cases ry with
  |int j=>exact .inl ⟨i,j,rfl,rfl,hQ _ S _ H .refl (.bl _) hS h⟩
  |_=>exact h.elim
 |str i=>
  cases ry with
  |str j=>exact .inr ⟨i,j,rfl,rfl,hQ _ S _ H .refl (.bl _) hS h⟩
  |_=>exact h.elim
 |_=>exact h.elim
theorem zog (ha:JE X a ta) (hb:JE X b tb):JT X (.Compare a [.Lt] [b] pos) (wTb (wOp oLt ta tb)):=zfx zxO zix ha hb (nomark b)
theorem zjC (ha:JE X a ta) (hb:JE X b tb):JT X (.Compare a [.Gt] [b] pos) (wTb (wOp oGt ta tb)):=zfx zxY zix ha hb (nomark b)
theorem zxj (ha:JE X a ta) (hb:JE X b tb):JT X (.Compare a [.GtE] [b] pos) (wTb (wOp oGe ta tb)):=zfx zyB zix ha hb (nomark b)
theorem zxA (ha:JE X a ta) (hb:JE X b tb):JE X (.Compare a [.LtE] [b] pos) (wOp oLe ta tb):=zrP (op_le.or zqa) zwi ha hb (nomark b)
noncomputable def oIs (neg:Bool):W2
 | .non, .non,S,Q=>Q (.bl (!neg)) S
 | .bl a, .bl b,S,Q=>Q (.bl (if neg then a != b else a == b)) S
 | .bl _, .non,S,Q=>Q (.bl neg) S
 | .int _, .non,S,Q=>Q (.bl neg) S
 | .str _, .non,S,Q=>Q (.bl neg) S
 | .tup _, .non,S,Q=>Q (.bl neg) S
 | .ref _, .non,S,Q=>Q (.bl neg) S
 |_,_,_,_=>False
theorem zvF:OpR X (compareOp .Is) (fun x y H Q=>(y= .non∧Q (.bl (decide (x= .non))) H)∨ ∃a b,x= .bl a∧y= .bl b∧Q (.bl (a == b)) H):=op_isN.or (by
 intro pins s σ H x y v u Q I rx ry h;obtain⟨a,b,rfl,rfl,q⟩:=h;cases rx;cases ry;exact is_bool ⟨.bl _,H,I,rfl,q⟩)
theorem znO:OpR X (compareOp .IsNot) (fun x y H Q=>(y= .non∧Q (.bl (!decide (x= .non))) H)∨ ∃a b,x= .bl a∧y= .bl b∧Q (.bl (a != b)) H):=op_notN.or (by
 intro pins s σ H x y v u Q I rx ry h;obtain⟨a,b,rfl,rfl,q⟩:=h;cases rx;cases ry;exact isnot_bool ⟨.bl _,H,I,rfl,q⟩)
theorem zvd{K:PySem.W.Frag}:OpW K (fun x y H Q=>(y= .non∧Q (.bl (decide (x= .non))) H)∨ ∃a b,x= .bl a∧y= .bl b∧Q (.bl (a == b)) H) (oIs false):=fun H x y wx wy S Q QW rx ry hS h hQ=>by
 cases ry with
 |non=>cases rx<;>first |exact .inl ⟨rfl,by simpa using hQ _ S _ H .refl (.bl _) hS h⟩ |exact h.elim
 |bl b=>
  cases rx with
  |bl a=>exact .inr ⟨a,b,rfl,rfl,hQ _ S _ H .refl (.bl _) hS h⟩
  |_=>exact h.elim
 |_=>cases rx<;>exact h.elim
theorem zoV{K:PySem.W.Frag}:OpW K (fun x y H Q=>(y= .non∧Q (.bl (!decide (x= .non))) H)∨ ∃a b,x= .bl a∧y= .bl b∧Q (.bl (a != b)) H) (oIs true):=fun H x y wx wy S Q QW rx ry hS h hQ=>by
 cases ry with
 |non=>cases rx<;>first |exact .inl ⟨rfl,by simpa using hQ _ S _ H .refl (.bl _) hS h⟩ |exact h.elim
 |bl b=>
  cases rx with
  |bl a=>exact .inr ⟨a,b,rfl,rfl,hQ _ S _ H .refl (.bl _) hS h⟩
  |_=>exact h.elim
 |_=>cases rx<;>exact h.elim
theorem zqb (ha:JE X a ta) (hb:JE X b tb):JT X (.Compare a [.Is] [b] pos) (wTb (wOp (oIs false) ta tb)):=zfx zvF zvd ha hb (nomark b)
theorem zgw (ha:JE X a ta) (hb:JE X b tb):JT X (.Compare a [.IsNot] [b] pos) (wTb (wOp (oIs true) ta tb)):=zfx znO zoV ha hb (nomark b)
end
noncomputable def inF (S:Sto) (x:W):List W→Option Bool
 | []=>some false
 |w::ws=>match eqF S 59 w x with
  |some a=>match inF S x ws with
   |some b=>some (a || b)
   |none=>none
  |none=>none
section
variable {X:Cx}{pins:List (Addr×Obj)}{σ:St}{H:Hp}{s:Shared}{S:Sto}
theorem zlw (I:Inv X pins σ H s) (hS:RepS X.K H S):∀(n:Nat) {w w' u:W}{v:V}{b b':Bool},Rep X.K H w v→Rep X.K H w' v→eqF S n w u=some b→eqF S n w' u=some b'→b=b'
 |0,_,_,_,_,_,_,_,_,h,_=>by cases h
 |n+1,w,w',u,v,b,b',r,r',h,h'=>by
  have list:∀{us ws zs:List W}{vs:List V}{b b':Bool},Reps X.K H ws vs→Reps X.K H zs vs→zdI (eqF S n) ws us=some b→zdI (eqF S n) zs us=some b'→b=b':=by
   intro us
   induction us with
   |nil=>
    intro ws zs vs b b' r1 r2 e1 e2;cases r1 with
    |nil=>cases r2;rw [e1]at e2;exact Option.some.inj e2
    |cons _ _=>cases r2 with
     |cons _ _=>have:=Option.some.inj e1;have:=Option.some.inj e2;subst_vars;rfl
   |cons u us ih=>
    intro ws zs vs b b' r1 r2 e1 e2;cases r1 with
    |nil=>cases r2;rw [e1]at e2;exact Option.some.inj e2
    |cons a1 a2=>
     cases r2 with
     |cons c1 c2=>
      unfold zdI at e1 e2;split at e1
      ·rename_i p q f1 f2;split at e2
       ·rename_i p' q' g1 g2;have h1:=zlw I hS n a1 c1 f1 g1;have h2:=ih a2 c2 f2 g2;rw [←Option.some.inj e1,←Option.some.inj e2,h1,h2]
       ·cases e2
      ·cases e1
  have nolist:∀{a:Addr}{vs:List V}{ws:List W},H a=some (.tup vs)→S a=some (.lst ws)→False:=fun f e=>by
   obtain⟨_,g,_⟩:=hS _ _ e;rw [f]at g;cases g
  cases r with
  |non=>cases r';rw [h]at h';exact Option.some.inj h'
  |bl k=>cases r';rw [h]at h';exact Option.some.inj h'
  |int k=>cases r';rw [h]at h';exact Option.some.inj h'
  |str k=>cases r';rw [h]at h';exact Option.some.inj h'
  |scr f=>cases u<;>cases h
  | @tup a vs ws f hs=>
   cases r' with
   | @tup _ us zs g ks=>
    rw [f]at g;cases g;cases u with
    |tup us=>exact list hs ks h h'
    |int _=>have:=Option.some.inj h;have:=Option.some.inj h';subst_vars;rfl
    |_=>cases h
   |scr _=>cases u<;>cases h'
   |ref _=>
    exfalso;cases u with
    |ref c=>
     have h2:(match S a with
      |some (.lst xs)=>match S c with
       |some (.lst ys)=>zdI (eqF S n) xs ys
       |_=>none
      |_=>none)=some b':=h'
     split at h2
     ·exact nolist f ‹_›
     ·cases h2
    |_=>cases h'
  |ref a=>
   cases r' with
   |ref _=>rw [h]at h';exact Option.some.inj h'
   |scr _=>cases u<;>cases h'
   |tup f hs=>
    exfalso;cases u with
    |ref c=>
     have h2:(match S a with
      |some (.lst xs)=>match S c with
       |some (.lst ys)=>zdI (eqF S n) xs ys
       |_=>none
      |_=>none)=some b:=h
     split at h2
     ·exact nolist f ‹_›
     ·cases h2
    |_=>cases h
open Classical in
theorem zsb (I:Inv X pins σ H s) (hS:RepS X.K H S) {A:Around}{ws:List W}{vs:List V}{us:List Value}{wx:W}{x:V}{u:Value}{b:Bool}(hu:A.units+60<cLine) (r:Reps X.K H ws vs) (rv:Vals vs us) (rx:Rep X.K H wx x) (ru:RelV x u) (h:inF S wx ws=some b) :
  ∃e:Value→Bool,(∀y,y∈us.toArray→SeqAt.EqAt A.in1 s y u (e y))∧us.toArray.any e=b:=by
 refine⟨fun y=>decide (∃w v,Rep X.K H w v∧RelV v y∧eqF S 59 w wx=some true),?_,?_⟩
 ·have go:∀{ws:List W}{vs:List V}{us:List Value}{b:Bool},Reps X.K H ws vs→Vals vs us→inF S wx ws=some b→ ∀y∈us,SeqAt.EqAt A.in1 s y u (decide (∃w v,Rep X.K H w v∧RelV v y∧eqF S 59 w wx=some true)):=by
   intro ws
   induction ws with
   |nil=>intro vs us b r rv h y hy;cases r;cases rv;cases hy
   |cons w ws ih=>
    intro vs us b r rv h y hy;cases r with
    |cons r1 r2=>
     cases rv with
     |cons q1 q2=>
      unfold inF at h;split at h
      ·rename_i c e1;split at h
       ·rename_i d e2;rcases List.mem_cons.mp hy with rfl |hy
        ·have ok:=(zmo I hS 59 (A:=A.in1) (by rw [zjM];omega) r1 rx q1 ru e1).1;have ec:c=decide (∃w v,Rep X.K H w v∧RelV v y∧eqF S 59 w wx=some true):=by
          cases c with
          |true=>exact(decide_eq_true ⟨w,_,r1,q1,e1⟩).symm
          |false=>
           symm;refine decide_eq_false fun⟨w',v',r',q',e'⟩=>?_;have:=RelV.inj q' q1;subst this;exact absurd (zlw I hS 59 r1 r' e1 e') (by simp)
         rw [←ec];exact ok
        ·exact ih r2 q2 e2 y hy
       ·cases h
      ·cases h
  intro y hy;exact go r rv h y (by simpa using hy)
 ·have go:∀{ws:List W}{vs:List V}{us:List Value}{b:Bool},Reps X.K H ws vs→Vals vs us→inF S wx ws=some b→us.any (fun y=>decide (∃w v,Rep X.K H w v∧RelV v y∧eqF S 59 w wx=some true))=b:=by
   intro ws
   induction ws with
   |nil=>intro vs us b r rv h;cases r;cases rv;exact Option.some.inj h
   |cons w ws ih=>
    intro vs us b r rv h;cases r with
    |cons r1 r2=>
     cases rv with
     | @cons _ _ _ _ q1 q2=>
      rename_i y _;unfold inF at h;split at h
      ·rename_i c e1;split at h
       ·rename_i d e2;have ec:decide (∃w v,Rep X.K H w v∧RelV v y∧eqF S 59 w wx=some true)=c:=by
          cases c with
          |true=>exact decide_eq_true ⟨w,_,r1,q1,e1⟩
          |false=>
           refine decide_eq_false fun⟨w',v',r',q',e'⟩=>?_;have:=RelV.inj q' q1;subst this;exact absurd (zlw I hS 59 r1 r' e1 e') (by simp)
        rw [List.any_cons,ih r2 q2 e2,ec];exact Option.some.inj h
       ·cases h
      ·cases h
  have:=go r rv h;simpa using this
end
noncomputable def oIn (neg:Bool):W2:=fun x y S Q=>match y with
 | .str j=>match x with
  | .str i=>Q (.bl (if neg then !(!(Builtin.Str.occurrences j i 0 j.length 1).isEmpty) else !(Builtin.Str.occurrences j i 0 j.length 1).isEmpty)) S
  |_=>False
 | .tup ws=>match inF S x ws with
  |some b=>Q (.bl (if neg then !b else b)) S
  |none=>False
 | .ref a=>zco S a fun ws=>match inF S x ws with
  |some b=>Q (.bl (if neg then !b else b)) S
  |none=>False
 |_=>False
noncomputable def zyN (K:PySem.W.Frag) (neg:Bool):R2:=fun x y H Q=>∃wx ws vs S p b,y= .ref p∧(SqL K H p vs∨SqT K H p vs)∧Reps K H ws vs∧Rep K H wx x∧RepS K H S∧inF S wx ws=some b∧Q (.bl (if neg then !b else b)) H
section
variable {X:Cx}{a b:Expr}{pos:Pos}{ta tb:WE}
theorem zoE (hu:X.A.units+60<cLine):OpR X (compareOp .NotIn) (zyN X.K true):=by
 intro pins s σ H x y v u Q I rx ry h;obtain⟨wx,ws,vs,S,p,b,rfl,hq,rs,r,hS,e,q⟩:=h;cases ry;rcases hq with hq |hq
 ·obtain⟨its,rv,p,_⟩:=I.list hq;obtain⟨f,h1,h2⟩:=zsb I hS hu rs rv r rx e;exact SeqAt.notIn_listAt f p.isList h1 (by rw [h2];exact⟨.bl (!b),H,I,rfl,q⟩)
 ·obtain⟨its,rv,p,_⟩:=I.tuple hq;obtain⟨f,h1,h2⟩:=zsb I hS hu rs rv r rx e;exact SeqAt.notIn_tupleAt f p h1 (by rw [h2];exact⟨.bl (!b),H,I,rfl,q⟩)
theorem znC{K:PySem.W.Frag}{neg:Bool}{H:Hp}{x y:V}{wx wy:W}{S:Sto}{Q:VK}{QW:WK}(rx:Rep K H wx x) (ry:Rep K H wy y) (hS:RepS K H S) (h:oIn neg wx wy S QW) (hQ:Wish K H S QW Q) :
  (∃i j,x= .str i∧y= .str j∧Q (.bl (if neg then !(!(Builtin.Str.occurrences j i 0 j.length 1).isEmpty) else !(Builtin.Str.occurrences j i 0 j.length 1).isEmpty)) H)∨zyN K neg x y H Q:=by
 cases ry with
 |str j=>
  cases rx with
  |str i=>exact .inl ⟨i,j,rfl,rfl,hQ _ S _ H .refl (.bl _) hS h⟩
  |_=>exact h.elim
 |tup f hs=>
  refine .inr ?_;unfold oIn at h;dsimp only at h;split at h
  ·exact⟨wx,_,_,S,_,_,rfl, .inr (.of f),hs,rx,hS, ‹_›,hQ _ S _ H .refl (.bl _) hS h⟩
  ·exact h.elim
 |ref a=>
  refine .inr ?_;obtain⟨ws,e,h⟩:=zbf h;obtain⟨vs,f,hs⟩:=hS a _ e;split at h
  ·exact⟨wx,_,_,S,_,_,rfl, .inl (.of f),hs,rx,hS, ‹_›,hQ _ S _ H .refl (.bl _) hS h⟩
  ·exact h.elim
 |_=>exact h.elim
theorem zrw{k:Nat}(hr:Room k X.A) (ha:JE X a ta) (hb:JE X b tb) (hm:behindInMarks .NotIn b=false:=by with_unfolding_all rfl):JT X (.Compare a [.NotIn] [b] pos) (wTb (wOp (oIn true) ta tb)):=
 zfx (op_notin_str.or (zoE (by have:=hr.units;omega))) (fun H x y wx wy S Q QW rx ry hS h hQ=>znC rx ry hS h hQ) ha hb hm
end
noncomputable def oIx:W2:=fun x y S Q=>match y with
 | .int i=>match x with
  | .tup ws=>match atI ws i with
   |some w=>Q w S
   |none=>False
  | .ref a=>zco S a fun ws=>match atI ws i with
   |some w=>Q w S
   |none=>False
  | .scr ns=>match atI ns i with
   |some n=>Q (.int n) S
   |none=>False
  | .str x=>x.length≤sizeLine∧match atI x.cps.toList i with
   |some c=>Q (.str ⟨#[c]⟩) S
   |none=>False
  |_=>False
 |_=>False
theorem zlh{K:PySem.W.Frag}{H:Hp}{ws:List W}{vs:List V}{i:Int}{w:W}(r:Reps K H ws vs) (e:atI ws i=some w):∃v,atI vs i=some v∧Rep K H w v:=by
 unfold atI at e⊢;rw [←r.length];cases q:ixN ws.length i with
 |none=>rw [q]at e;cases e
 |some j=>rw [q]at e;exact r.get e
theorem ztp{α β:Type}{f:α→β}{xs:List α}{i:Int}{x:α}(e:atI xs i=some x):atI (xs.map f) i=some (f x):=by
 unfold atI at e⊢;rw [List.length_map];cases q:ixN xs.length i with
 |none=>rw [q]at e;cases e
 |some j=>
  rw [q]at e;show(xs.map f)[j]? =_;rw [List.getElem?_map,show xs[j]? =some x from e];rfl
theorem zuT{K:PySem.W.Frag}:OpW K (rIx K) oIx:=fun H x y wx wy S Q QW rx ry hS h hQ=>by
 cases ry with
 |int i=>
  cases rx with
  |tup f hs=>
   unfold oIx at h;dsimp only at h;split at h
   ·obtain⟨v,ev,r⟩:=zlh hs ‹_›;exact .inr (.inl ⟨_,_,i,v,rfl,rfl, .of f,ev,hQ _ S _ H .refl r hS h⟩)
   ·exact h.elim
  |ref a=>
   obtain⟨ws,e,h⟩:=zbf h;obtain⟨vs,f,hs⟩:=hS a _ e;split at h
   ·obtain⟨v,ev,r⟩:=zlh hs ‹_›;exact .inl ⟨_,_,i,v,rfl,rfl, .of f,ev,hQ _ S _ H .refl r hS h⟩
   ·exact h.elim
  |scr f=>
   unfold oIx at h;dsimp only at h;split at h
   ·exact .inl ⟨_,_,i,_,rfl,rfl,f.sq,ztp ‹_›,hQ _ S _ H .refl (.int _) hS h⟩
   ·exact h.elim
  |str z=>
   unfold oIx at h;dsimp only at h;obtain⟨hz,h⟩:=h;split at h
   ·exact .inr (.inr ⟨z,i,_,rfl,rfl,hz, ‹_›,hQ _ S _ H .refl (.str _) hS h⟩)
   ·exact h.elim
  |_=>exact h.elim
 |_=>exact h.elim
section
variable {X:Cx}{a b e:Expr}{pos p2:Pos}{ta tb te:WE}{lo hi:Option Expr}
theorem zaq (ha:JE X a ta) (hb:JE X b tb) (hs:zkY b:=by intro _ _;rfl):JE X (.Subscript a b pos) (wOp oIx ta tb):=fun E hE=>
 (zvz zrT (ha E hE) (hb E hE) hs).mono fun σ H Q h=>zgA h fun H2 x y wx wy S QW rx ry hS q hQ=>zuT H2 x y wx wy S Q QW rx ry hS q hQ
noncomputable abbrev WO:=WX→WSt→Sto→(Option Int→Sto→Prop)→Prop
noncomputable def zxX (K:PySem.W.Frag) (t:WSt→Sto→(Option Int→Sto→Prop)→Prop):TO:=fun σ H Q=>∃σW S QW,RpSt K H σW σ∧RepS K H S∧t σW S QW∧ ∀b S' H',Ext H S H' S'→RepS K H' S'→QW b S'→Q b H'
noncomputable def JO (X:Cx) (e:Option Expr) (t:WO):Prop:=∀E,Hook X E→PO X e (zxX X.K (t E))
noncomputable def woN:WO:=fun _ _ S Q=>Q none S
noncomputable def woS (t:WE):WO:=fun E σ S Q=>t E σ S fun w S1=>match w with
 | .int i=>Q (some i) S1
 |_=>False
theorem PO.mono{X:Cx}{e:Option Expr}{t t':TO}(h:PO X e t) (q:∀σ H Q,t' σ H Q→t σ H Q):PO X e t':=fun pins s σ H Q I z=>h pins s σ H Q I (q σ H Q z)
theorem zaY:JO X none woN:=fun E hE=>po_none.mono fun σ H Q ⟨σW,S,QW,hσ,hS,ht,hQ⟩=>hQ none S H .refl hS ht
theorem zaI (h:JE X e te):JO X (some e) (woS te):=fun E hE=>(zty (h E hE)).mono fun σ H Q ⟨σW,S,QW,hσ,hS,ht,hQ⟩=>⟨σW,S,_,hσ,hS,ht,fun w S1 v H1 e1 r1 hS1 h1=>by
 cases r1 with
 |int i=>exact⟨i,rfl,hQ _ S1 H1 e1 hS1 h1⟩
 |_=>exact h1.elim⟩
noncomputable def zdG {α:Type}(xs:List α) (lo hi:Option Int):List α:=(xs.drop (HT.sIx xs.length 0 lo)).take (HT.sIx xs.length xs.length hi - HT.sIx xs.length 0 lo)
theorem ziE{K:PySem.W.Frag}{H:Hp}{ws:List W}{vs:List V}{lo hi:Option Int}(r:Reps K H ws vs):Reps K H (zdG ws lo hi) (zqg vs lo hi):=by
 unfold zdG zqg;rw [r.length];exact(r.drop _).take _
theorem zmx{α β:Type}{f:α→β}{xs:List α}{lo hi:Option Int}:zdG (xs.map f) lo hi=(zdG xs lo hi).map f:=by
 unfold zdG;rw [List.length_map,List.map_take,List.map_drop]
theorem zeZ{prog:Program}{w:World}{A:Around}{E:Value→Shared→Prop}{s:Shared}{t sl:Addr}{items:Array Value}{vl vu:Value}{lo hi:Option Int}{Q:Value→Shared→Prop}(ht:IsTup s.heap t items) (hs:s.heap.IsSliceOf sl vl vu .none) (pl:IsPart vl lo) (pu:IsPart vu hi)
  (hw:HT.sIx items.size 0 lo=0∧HT.sIx items.size items.size hi=items.size) (h:Q (.ref t) s):wpAny (model prog w) A (getItem (.ref t) (.ref sl)) Q E s:=by
 obtain⟨os,hos,hcs,hds⟩:=id hs;have hTs:s.TypeIs (.ref sl) "slice" :=⟨os,hos,hcs⟩;unfold getItem
 try with_reducible refine wpAny_holding ?_
 first |refine wpAny_bind (wpAny_pure ?_) |skip
 refine wpAny_bind (wpAny_sequenceKey ht.typeIs (by decide) ?_);refine wpAny_bind (wpAny_callSpecial?_slot (name:=Str.ofString "__getitem__") ht.typeIs PyProof.Rows.slot_tuple_getitem
  (wpAny_call_entry PyProof.Rows.slot_tuple_getitem ht.typeIs entry_tuple_getitem ?_ (args_tuple_getitem _ _)))
 show wpAny _ _ (Builtin.Tuple.tupleItemsOf (.ref t) >>= _) _ _ s;refine wpAny_bind (tupleItemsOf_ ht ?_);refine wpAny_bind (wpAny_typeOf hTs ?_);rw [if_pos (by decide)];refine wpAny_bind (HT.sliceApplied_gen hs pl pu ?_);show wpAny _ _ (if(((HT.sIx items.size 0 lo:Nat):Int) == 0&&(1:Int) == 1&&(HT.sIx items.size items.size hi - HT.sIx items.size 0 lo) == items.size)=true then _ else _) _ _ s;rw [hw.1,hw.2,if_pos (by simp)];unfold Builtin.Tuple.tupleIsExact;refine wpAny_bind (wpAny_bind (wpAny_typeOf ht.typeIs (wpAny_pure ?_)));rw [if_pos (by decide)];exact wpAny_bind (wpAny_rule (wpAny_pure ⟨_,rfl,wpAny_pure h⟩))
theorem sl_tupW:SlR X (fun x lo hi H Q=>∃a xs,x= .ref a∧SqT X.K H a xs∧((HT.sIx xs.length 0 lo=0∧HT.sIx xs.length xs.length hi=xs.length)∧Q (.ref a) H∨ ¬(HT.sIx xs.length 0 lo=0∧HT.sIx xs.length xs.length hi=xs.length)∧ ∀p,H p=none→Q (.ref p) (upd H p (.tup (zqg xs lo hi))))):=by
 intro pins s σ H x v vl vu lo hi sl Q I rx hs pl pu h;obtain⟨a,xs,rfl,hx,⟨hw,q⟩ |⟨hw,q⟩⟩:=h
 ·cases rx;obtain⟨its,r,ht,hz⟩:=I.tuple hx;have hlen:its.toArray.size=xs.length:=by rw [List.size_toArray];exact r.length.symm
  refine⟨"tuple",_,PyProof.Rows.slot_tuple_getitem.lookup,ht.typeIs,?_⟩;exact zeZ ht hs pl pu (by rw [hlen];exact hw) ⟨.ref a,H,I,rfl,q⟩
 ·exact zuK pins s σ H _ v vl vu lo hi sl Q I rx hs pl pu ⟨a,xs,rfl,hx,hw,q⟩
noncomputable def oSl:W→Option Int→Option Int→Sto→WK→Prop
 | .tup ws,lo,hi,S,Q=>Q (.tup (zdG ws lo hi)) S
 | .str z,lo,hi,S,Q=>z.length≤sizeLine∧Q (.str (Txt.slice z lo hi)) S
 | .ref a,lo,hi,S,Q=>zco S a fun ws=>∀p,S p=none→Q (.ref p) (put S p (.lst (zdG ws lo hi)))
 | .scr ns,lo,hi,S,Q=>∀p,S p=none→Q (.ref p) (put S p (.lst ((zdG ns lo hi).map W.int)))
 |_,_,_,_,_=>False
noncomputable def wSl (t:WE) (l h:WO):WE:=fun E σ S Q=>t E σ S fun x S1=>l E σ S1 fun lo S2=>h E σ S2 fun hi S3=>oSl x lo hi S3 Q
theorem znr{α:Type}{xs:List α}{lo hi:Option Int}(h:HT.sIx xs.length 0 lo=0∧HT.sIx xs.length xs.length hi=xs.length):zdG xs lo hi=xs:=by
 unfold zdG;rw [h.1,h.2,List.drop_zero,Nat.sub_zero,List.take_length]
theorem zdx{tl th:WO}(he:JE X e te) (hl:JO X lo tl) (hh:JO X hi th):JE X (.Subscript e (.Slice lo hi none p2) pos) (wSl te tl th):=fun E hE=>
 (zlJ (sl_tupW.or (sl_str.or zoB)) (he E hE) (hl E hE) (hh E hE)).mono fun σ H Q ⟨σW,S,QW,hσ,hS,ht,hQ⟩=>
  ⟨σW,S,_,hσ,hS,ht,fun w S1 v H1 e1 r1 hS1 h1=>⟨σW,S1,_,hσ.ext e1,hS1,h1,fun lo S2 H2 e2 hS2 h2=>⟨σW,S2,_,(hσ.ext e1).ext e2,hS2,h2,fun hi S3 H3 e3 hS3 h3=>by
   have hQ':=hQ.from (e1.trans (e2.trans e3));have r3:=(r1.ext e2).ext e3;cases r3 with
   | @tup a vs ws f hs=>
    refine .inl ⟨a,vs,rfl, .of f,?_⟩;by_cases hw:HT.sIx vs.length 0 lo=0∧HT.sIx vs.length vs.length hi=vs.length
    ·refine .inl ⟨hw,hQ' (.tup ws) S3 _ H3 .refl (.tup f hs) hS3 ?_⟩;have:=znr (xs:=ws) (lo:=lo) (hi:=hi) (by rw [hs.length];exact hw);have h3':QW (.tup (zdG ws lo hi)) S3:=h3;rw [this]at h3';exact h3'
    ·exact .inr ⟨hw,fun p hp=>hQ' _ S3 _ _ (.new hp) (.tup zax ((ziE hs).ext (.new (S:=S3) hp))) (hS3.new hp) h3⟩
   |str z=>exact .inr (.inl ⟨z,rfl,h3.1,hQ' _ S3 _ H3 .refl (.str _) hS3 h3.2⟩)
   |ref a=>
    obtain⟨ws,ea,h⟩:=zbf h3;obtain⟨vs,f,hs⟩:=hS3 a _ ea;exact .inr (.inr ⟨a,vs,rfl, .of f,fun p hp=>hQ' _ _ _ _ (.newS hp) (.ref p) (hS3.put_lst hp ((ziE hs).ext (.new (S:=S3) hp))) (h p (hS3.free hp))⟩)
   | @scr a ns f=>
    refine .inr (.inr ⟨a,_,rfl,f.sq,fun p hp=>hQ' _ _ _ _ (.newS hp) (.ref p) (hS3.put_lst hp ?_) (h3 p (hS3.free hp))⟩);have q:zqg (ns.map V.int) lo hi=(zdG ns lo hi).map V.int:=zmx;rw [q];exact Reps.ofInts _
   |_=>exact h3.elim⟩⟩⟩
noncomputable def zur (t:WE) (l h:WO):WL:=fun E σ S Q=>t E σ S fun x S1=>l E σ S1 fun lo S2=>h E σ S2 fun hi S3=>match x with
 | .ref a=>zco S3 a fun ws=>Q (zdG ws lo hi) S3
 | .scr ns=>Q ((zdG ns lo hi).map W.int) S3
 |_=>False
theorem ztO{tl th:WO}(he:JE X e te) (hl:JO X lo tl) (hh:JO X hi th):JL X (.Subscript e (.Slice lo hi none p2) pos) (zur te tl th):=fun E hE=>
 (zlJ zoB (he E hE) (hl E hE) (hh E hE)).mono fun σ H Q ⟨σW,S,QW,hσ,hS,ht,hQ⟩=>
  ⟨σW,S,_,hσ,hS,ht,fun w S1 v H1 e1 r1 hS1 h1=>⟨σW,S1,_,hσ.ext e1,hS1,h1,fun lo S2 H2 e2 hS2 h2=>⟨σW,S2,_,(hσ.ext e1).ext e2,hS2,h2,fun hi S3 H3 e3 hS3 h3=>by
   have e':=e1.trans (e2.trans e3);have r3:=(r1.ext e2).ext e3;cases r3 with
   |ref a=>
    obtain⟨ws,ea,h⟩:=zbf h3;obtain⟨vs,f,hs⟩:=hS3 a _ ea;exact⟨a,vs,rfl, .of f,fun p hp=>hQ _ S3 _ p _ (e'.trans (.new hp)) (e'.free hp) zax (hS3.free hp) ((ziE hs).ext (.new (S:=S3) hp)) (hS3.new hp) h⟩
   | @scr a ns f=>
    refine⟨a,_,rfl,f.sq,fun p hp=>hQ _ S3 _ p _ (e'.trans (.new hp)) (e'.free hp) zax (hS3.free hp) ?_ (hS3.new hp) h3⟩;have q:zqg (ns.map V.int) lo hi=(zdG ns lo hi).map V.int:=zmx;rw [q];exact Reps.ofInts _
   |_=>exact h3.elim⟩⟩⟩
end
noncomputable abbrev WF:=List W→Sto→WK→Prop
noncomputable def wB (f:WF) (t:WA):WE:=fun E σ S Q=>t E σ S fun ws S1=>f ws S1 Q
noncomputable def zls (K:PySem.W.Frag) (r:List V→Hp→VK→Prop) (f:WF):Prop:=∀H vs ws S (Q:VK) (QW:WK),Reps K H ws vs→RepS K H S→f ws S QW→Wish K H S QW Q→r vs H Q
noncomputable def wBL (f:WF) (t:WL):WE:=fun E σ S Q=>t E σ S fun ws S1=>f ws S1 Q
noncomputable def zni (K:PySem.W.Frag) (r:List V→Hp→VK→Prop) (f:WF):Prop:=∀H a vs ws S (Q:VK) (QW:WK),H a=some (.lst vs)→S a=none→Reps K H ws vs→RepS K H S→f ws S QW→Wish K H S QW Q→r [.ref a] H Q
section
variable {X:Cx}{x:Str}{p pos:Pos}{e:Expr}{es:List Expr}{t:WA}{tl:WL}{id T:String}{r:List V→Hp→VK→Prop}{f:WF}
theorem zrM (hc:CallR X (.builtin id) r) (hw:zls X.K r f) (hg:Gl X x) (hm:X.mg x=none) (hv:bootBuiltins x=some (.builtin id)) (ha:JA X (e::es) t) (hn:x≠ "__name__" :=by decide) (hdb:(x == ("__debug__" :Str))=false:=by decide)
  (he:starEach (e::es) X.env=(false,eval e X.env)::starEach es X.env:=by rfl) (hpl:(backTo pos (starEach es X.env)).any (·.1)=false:=by rfl):JE X (.Call (.Name x p) (e::es) [] pos) (wB f t):=fun E hE=>
 (ziM hc hg hm hv (ha E hE) hn hdb he hpl).mono fun σ H Q ⟨σW,S,QW,hσ,hS,ht,hQ⟩=>⟨σW,S,_,hσ,hS,ht,fun ws S1 vs H1 e1 r1 hS1 h1=>hw H1 vs ws S1 Q QW r1 hS1 h1 (hQ.from e1)⟩
theorem zww (hc:CallR X (.type T) r) (hw:zls X.K r f) (hg:Gl X x) (hm:X.mg x=none) (hv:bootBuiltins x=some (.type T)) (ha:JA X (e::es) t) (hn:x≠ "__name__" :=by decide) (hdb:(x == ("__debug__" :Str))=false:=by decide)
  (he:starEach (e::es) X.env=(false,eval e X.env)::starEach es X.env:=by rfl) (hpl:(backTo pos (starEach es X.env)).any (·.1)=false:=by rfl):JE X (.Call (.Name x p) (e::es) [] pos) (wB f t):=fun E hE=>
 (zgJ hc hg hm hv (ha E hE) hn hdb he hpl).mono fun σ H Q ⟨σW,S,QW,hσ,hS,ht,hQ⟩=>⟨σW,S,_,hσ,hS,ht,fun ws S1 vs H1 e1 r1 hS1 h1=>hw H1 vs ws S1 Q QW r1 hS1 h1 (hQ.from e1)⟩
theorem zpJ (hc:CallR X (.builtin id) r) (hw:zni X.K r f) (hg:Gl X x) (hm:X.mg x=none) (hv:bootBuiltins x=some (.builtin id)) (ha:JL X e tl) (hn:x≠ "__name__" :=by decide) (hdb:(x == ("__debug__" :Str))=false:=by decide)
  (he:starEach [e] X.env=(false,eval e X.env)::starEach [] X.env:=by rfl) (hpl:(backTo pos (starEach [] X.env)).any (·.1)=false:=by rfl):JE X (.Call (.Name x p) [e] [] pos) (wBL f tl):=fun E hE=>
 (ziM hc hg hm hv (zdu (ha E hE) pa_nil he) hn hdb he hpl).mono fun σ H Q ⟨σW,S,QW,hσ,hS,ht,hQ⟩=>⟨σW,S,_,hσ,hS,ht,fun ws S1 vs a H1 e1 fa ea na r1 hS1 h1=>hw H1 a vs ws S1 Q QW ea na r1 hS1 h1 (hQ.from e1)⟩
theorem zsd (hc:CallR X (.type T) r) (hw:zni X.K r f) (hg:Gl X x) (hm:X.mg x=none) (hv:bootBuiltins x=some (.type T)) (ha:JL X e tl) (hn:x≠ "__name__" :=by decide) (hdb:(x == ("__debug__" :Str))=false:=by decide)
  (he:starEach [e] X.env=(false,eval e X.env)::starEach [] X.env:=by rfl) (hpl:(backTo pos (starEach [] X.env)).any (·.1)=false:=by rfl):JE X (.Call (.Name x p) [e] [] pos) (wBL f tl):=fun E hE=>
 (zgJ hc hg hm hv (zdu (ha E hE) pa_nil he) hn hdb he hpl).mono fun σ H Q ⟨σW,S,QW,hσ,hS,ht,hQ⟩=>⟨σW,S,_,hσ,hS,ht,fun ws S1 vs a H1 e1 fa ea na r1 hS1 h1=>hw H1 a vs ws S1 Q QW ea na r1 hS1 h1 (hQ.from e1)⟩
noncomputable def zeL:WF:=fun ws S Q=>match ws with
 | [.tup us]=>Q (.int us.length) S
 | [.ref a]=>zco S a fun us=>Q (.int us.length) S
 | [.scr ns]=>Q (.int ns.length) S
 | [.str z]=>z.length≤sizeLine∧Q (.int z.length) S
 |_=>False
theorem zpB{K:PySem.W.Frag}:zls K (fun xs H Q=>(∃p ys,xs=[.ref p]∧(SqL K H p ys∨SqT K H p ys)∧Q (.int ys.length) H)∨ ∃z,xs=[.str z]∧z.length≤sizeLine∧Q (.int z.length) H) zeL:=fun H vs ws S Q QW r hS h hQ=>by
 cases r with
 |nil=>exact h.elim
 |cons r1 r2=>
  cases r2 with
  |cons _ _=>cases r1<;>exact h.elim
  |nil=>
   cases r1 with
   |tup f hs=>exact .inl ⟨_,_,rfl, .inr (.of f),by rw [←hs.length];exact hQ _ S _ H .refl (.int _) hS h⟩
   |ref a=>
    obtain⟨us,e,h⟩:=zbf h;obtain⟨vs,f,hs⟩:=hS a _ e;exact .inl ⟨_,_,rfl, .inl (.of f),by rw [←hs.length];exact hQ _ S _ H .refl (.int _) hS h⟩
   |scr f=>exact .inl ⟨_,_,rfl, .inl f.sq,by rw [List.length_map];exact hQ _ S _ H .refl (.int _) hS h⟩
   |str z=>exact .inr ⟨z,rfl,h.1,hQ _ S _ H .refl (.int _) hS h.2⟩
   |_=>exact h.elim
theorem zbC (hg:Gl X "len") (hm:X.mg "len" =none) (ha:JA X (e::es) t) 
  (he:starEach (e::es) X.env=(false,eval e X.env)::starEach es X.env:=by rfl) (hpl:(backTo pos (starEach es X.env)).any (·.1)=false:=by rfl):JE X (.Call (.Name "len" p) (e::es) [] pos) (wB zeL t):=
 zrM (call_len_seq.or zky) zpB hg hm PySem.boot_len ha (by decide) (by decide) he hpl
noncomputable def zdA:WF:=fun ws S Q=>match ws with
 | [.tup us]=>Q (.tup us) S
 | [.ref a]=>zco S a fun us=>Q (.tup us) S
 |_=>False
theorem zkV{K:PySem.W.Frag}:zls K (fun xs H Q=>∃p ys,xs=[.ref p]∧((SqL K H p ys∧ ∀l,H l=none→Q (.ref l) (upd H l (.tup ys)))∨(SqT K H p ys∧Q (.ref p) H))) zdA:=fun H vs ws S Q QW r hS h hQ=>by
 cases r with
 |nil=>exact h.elim
 |cons r1 r2=>
  cases r2 with
  |cons _ _=>cases r1<;>exact h.elim
  |nil=>
   cases r1 with
   |tup f hs=>exact⟨_,_,rfl, .inr ⟨.of f,hQ _ S _ H .refl (.tup f hs) hS h⟩⟩
   |ref a=>
    obtain⟨us,e,h⟩:=zbf h;obtain⟨vs,f,hs⟩:=hS a _ e;exact⟨_,_,rfl, .inl ⟨.of f,fun l hl=>hQ _ S _ _ (.new hl) (.tup zax (hs.ext (.new (S:=S) hl))) (hS.new hl) h⟩⟩
   |_=>exact h.elim
noncomputable def zht:WF:=fun ws S Q=>Q (.tup ws) S
theorem zkT{K:PySem.W.Frag}:zni K (fun xs H Q=>∃p ys,xs=[.ref p]∧((SqL K H p ys∧ ∀l,H l=none→Q (.ref l) (upd H l (.tup ys)))∨(SqT K H p ys∧Q (.ref p) H))) zht:=fun H a vs ws S Q QW ea na r hS h hQ=>
 ⟨a,vs,rfl, .inl ⟨.of ea,fun l hl=>hQ _ S _ _ (.new hl) (.tup zax (r.ext (.new (S:=S) hl))) (hS.new hl) h⟩⟩
noncomputable def zeJ (t:WE):WL:=fun E σ S Q=>t E σ S fun w S1=>match w with
 | .tup ws=>Q ws S1
 | .ref a=>zco S1 a fun ws=>Q ws S1
 | .scr ns=>Q (ns.map W.int) S1
 |_=>False
theorem zgS{te:WE}(hg:Gl X "list") (hm:X.mg "list" =none) (ha:JE X e te)
  (he:starEach [e] X.env=(false,eval e X.env)::starEach [] X.env:=by rfl) (hpl:(backTo pos (starEach [] X.env)).any (·.1)=false:=by rfl):JL X (.Call (.Name "list" p) [e] [] pos) (zeJ te):=fun E hE=>
 (zgJ zkp hg hm PyProof.Rows.boot_list (zdu (ha E hE) pa_nil he) (by decide) (by decide) he hpl).mono fun σ H Q ⟨σW,S,QW,hσ,hS,ht,hQ⟩=>⟨σW,S,_,hσ,hS,ht,fun w S1 v H1 e1 r1 hS1 h1=>by
  cases r1 with
  |tup f hs=>exact⟨_,_,rfl, .inr (.of f),fun l hl=>hQ _ S1 _ l _ (e1.trans (.new hl)) (e1.free hl) zax (hS1.free hl) (hs.ext (.new (S:=S1) hl)) (hS1.new hl) h1⟩
  |ref a=>
   obtain⟨ws,ea,h⟩:=zbf h1;obtain⟨vs,f,hs⟩:=hS1 a _ ea;exact⟨_,_,rfl, .inl (.of f),fun l hl=>hQ _ S1 _ l _ (e1.trans (.new hl)) (e1.free hl) zax (hS1.free hl) (hs.ext (.new (S:=S1) hl)) (hS1.new hl) h⟩
  |scr f=>exact⟨_,_,rfl, .inl f.sq,fun l hl=>hQ _ S1 _ l _ (e1.trans (.new hl)) (e1.free hl) zax (hS1.free hl) (Reps.ofInts _) (hS1.new hl) h1⟩
  |_=>exact h1.elim⟩
noncomputable def zjw:List W→Option (List Bool)
 | []=>some []
 | .bl b::ws=>(zjw ws).map (b:: ·)
 |_=>none
theorem zpw{K:PySem.W.Frag}{H:Hp}:∀{ws:List W}{vs:List V}{bs:List Bool},Reps K H ws vs→zjw ws=some bs→vs=bs.map V.bl
 | [],_,_, .nil,e=>by have:=Option.some.inj e;subst this;rfl
 |w::ws,_,_, .cons r rs,e=>by
  cases r with
  |bl b=>
   have e':(zjw ws).map (b:: ·)=some _:=e;cases q:zjw ws with
   |none=>rw [q]at e';cases e'
   |some cs=>
    rw [q]at e';have:=Option.some.inj e';subst this;rw [List.map_cons,zpw rs q]
  |_=>cases e
noncomputable def zpk:WF:=fun ws S Q=>match zjw ws with
 |some bs=>Q (.bl (bs.all _root_.id)) S
 |none=>False
theorem zpV{K:PySem.W.Frag}:zni K (fun xs H Q=>∃(p:Addr) (bs:List Bool),xs=[.ref p]∧SqL K H p (bs.map V.bl)∧Q (.bl (bs.all _root_.id)) H) zpk:=fun H a vs ws S Q QW ea na r hS h hQ=>by
 unfold zpk at h;split at h
 ·rename_i bs e;have:=zpw r e;subst this;exact⟨a,bs,rfl, .of ea,hQ _ S _ H .refl (.bl _) hS h⟩
 ·exact h.elim
noncomputable def tyW:W→Sto→(String→Prop)→Prop
 | .non,_,Q=>Q "NoneType"
 | .bl _,_,Q=>Q "bool"
 | .int _,_,Q=>Q "int"
 | .str _,_,Q=>Q "str"
 | .tup _,_,Q=>Q "tuple"
 | .ref a,S,Q=>zco S a fun _=>Q "list"
 | .scr _,_,_=>False
noncomputable def zbW (A B:String):Bool:=A == B || (A == "bool" &&B == "int")
noncomputable def zpO (T:String) (t:WE):WE:=fun E σ S Q=>t E σ S fun w S1=>tyW w S1 fun A=>Q (.bl (zbW A T)) S1
theorem zfA{a:Expr}{ta:WE}{p2:Pos}{T:Str}{T':String}(hg:Gl X "isinstance") (hm:X.mg "isinstance" =none) (hgT:Gl X T) (hmT:X.mg T=none) (hv:bootBuiltins T=some (.type T')) (ha:JE X a ta) (hn:T≠ "__name__") (hd:(T == ("__debug__" :Str))=false)
  (hk:∀A∈ ["NoneType", "bool", "int", "str", "tuple", "list"],PySem.W.kitOne X.K (.type A) (.type T')=some (zbW A T'))
  (he:starEach [a, .Name T p2] X.env=(false,eval a X.env)::starEach [.Name T p2] X.env:=by rfl) (he2:starEach [.Name T p2] X.env=(false,eval (.Name T p2) X.env)::starEach [] X.env:=by rfl) (hpl:(backTo pos (starEach [.Name T p2] X.env)).any (·.1)=false:=by rfl) :
  JE X (.Call (.Name "isinstance" p) [a, .Name T p2] [] pos) (zpO T' ta):=fun E hE=>
 (ziM zqt hg hm PyProof.Rows.boot_isinstance (zdu (ha E hE) (zdu (ztE (v:= .ty T') hgT hmT hv rfl hn hd) pa_nil he2) he) (by decide) (by decide) he hpl).mono fun σ H Q ⟨σW,S,QW,hσ,hS,ht,hQ⟩=>⟨σW,S,_,hσ,hS,ht,fun w S1 v H1 e1 r1 hS1 h1=>by
  have fin:∀{t:Value}(A:String),t= .type A→A∈ ["NoneType", "bool", "int", "str", "tuple", "list"]→TyOf X.K H1 v t→QW (.bl (zbW A T')) S1→ ∃x t c b,[v,V.ty T']=[x, .ty c]∧TyOf X.K H1 x t∧PySem.W.kitOne X.K t (.type c)=some b∧Q (.bl b) H1:=fun A e hA ty q=>by
   subst e;exact⟨v,_,T',_,rfl,ty,hk A hA,hQ _ S1 _ H1 e1 (.bl _) hS1 q⟩
  cases r1 with
  |non=>exact fin _ rfl (by simp) .non h1
  |bl b=>exact fin _ rfl (by simp) (.bl b) h1
  |int i=>exact fin _ rfl (by simp) (.int i) h1
  |str z=>exact fin _ rfl (by simp) (.str z) h1
  |tup f hs=>exact fin _ rfl (by simp) (.tup f) h1
  |ref a=>
   obtain⟨ws,ea,h⟩:=zbf h1;obtain⟨vs,f,hs⟩:=hS1 a _ ea;exact fin _ rfl (by simp) (.lst f) h
  |scr f=>exact h1.elim⟩
end
noncomputable abbrev WMf:=W→List W→Sto→WK→Prop
noncomputable def rvL:W→Sto→Prop
 | .ref a,S=>zco S a fun _=>True
 |_,_=>False
noncomputable def rvS:W→Sto→Prop
 | .str _,_=>True
 |_,_=>False
noncomputable def wM (rv:W→Sto→Prop) (f:WMf) (to:WE) (t:WA):WE:=fun E σ S Q=>to E σ S fun w S1=>rv w S1∧t E σ S1 fun ws S2=>f w ws S2 Q
noncomputable def wML (rv:W→Sto→Prop) (f:WMf) (to:WE) (t:WL):WE:=fun E σ S Q=>to E σ S fun w S1=>rv w S1∧t E σ S1 fun ws S2=>f w ws S2 Q
noncomputable def MtW (K:PySem.W.Frag) (r:V→List V→Hp→VK→Prop) (f:WMf):Prop:=∀H x w vs ws S (Q:VK) (QW:WK),Rep K H w x→Reps K H ws vs→RepS K H S→f w ws S QW→Wish K H S QW Q→r x vs H Q
noncomputable def MtL (K:PySem.W.Frag) (r:V→List V→Hp→VK→Prop) (f:WMf):Prop:=∀H x w a vs ws S (Q:VK) (QW:WK),Rep K H w x→H a=some (.lst vs)→S a=none→Reps K H ws vs→RepS K H S→f w ws S QW→Wish K H S QW Q→r x [.ref a] H Q
noncomputable def zvL (K:PySem.W.Frag) (T:String) (rv:W→Sto→Prop):Prop:=∀H w v S,Rep K H w v→RepS K H S→rv w S→tyV K T v H
theorem zrV{K:PySem.W.Frag}:zvL K "list" rvL:=fun H w v S r hS h=>by
 cases r with
 |ref a=>
  obtain⟨ws,e,_⟩:=zbf h;obtain⟨vs,f,_⟩:=hS a _ e;exact .inl ⟨rfl,vs, .of f⟩
 |_=>exact h.elim
theorem zrW{K:PySem.W.Frag}:zvL K "str" rvS:=fun H w v S r hS h=>by
 cases r with
 |str x=>exact rfl
 |_=>exact h.elim
section
variable {X:Cx}{o e:Expr}{es:List Expr}{to:WE}{t:WA}{tl:WL}{name:Str}{apos cpos:Pos}{id T:String}{r:V→List V→Hp→VK→Prop}{f:WMf}{rv:W→Sto→Prop}
theorem zyM (pa:PlainAttrs T) (slot:Slot T name id) (hty:typeOf (.builtin id)=pure (.type "method_descriptor")) (hrv:zvL X.K T rv) (hm:MtR X id r) (hw:MtW X.K r f) (ho:JE X o to) (ha:JA X (e::es) t)
  (hbase:attributeBase o name X.env (eval o X.env)=eval o X.env:=by rfl)
  (hfew:((backTo cpos (starEach (e::es) X.env)).all (fun x=> !x.1)&&(backToKw cpos (keywordEach [] X.env)).all (fun x=>x.1.isSome)
   &&decide ((e::es).length+([]:List Keyword).length+(if([]:List Keyword).isEmpty then 0 else 1)<30))=true:=by rfl)
  (hline:(apos.endLine == cpos.line)=true:=by rfl) (hs:starEach (e::es) X.env=(false,eval e X.env)::starEach es X.env:=by rfl) (hplain:(backTo cpos (starEach es X.env)).any (·.1)=false:=by rfl) :
  JE X (.Call (.Attribute o name apos) (e::es) [] cpos) (wM rv f to t):=fun E hE=>
 (zvi pa slot hty hm (ho E hE) (ha E hE) hbase hfew hline hs hplain).mono fun σ H Q ⟨σW,S,QW,hσ,hS,ht,hQ⟩=>⟨σW,S,_,hσ,hS,ht,fun w S1 v H1 e1 r1 hS1 h1=>
  ⟨hrv H1 w v S1 r1 hS1 h1.1,σW,S1,_,hσ.ext e1,hS1,h1.2,fun ws S2 vs H2 e2 r2 hS2 h2=>hw H2 v w vs ws S2 Q QW (r1.ext e2) r2 hS2 h2 (hQ.from (e1.trans e2))⟩⟩
theorem zxo (pa:PlainAttrs T) (slot:Slot T name id) (hty:typeOf (.builtin id)=pure (.type "method_descriptor")) (hrv:zvL X.K T rv) (hm:MtR X id r) (hw:MtL X.K r f) (ho:JE X o to) (ha:JL X e tl)
  (hbase:attributeBase o name X.env (eval o X.env)=eval o X.env:=by rfl)
  (hfew:((backTo cpos (starEach [e] X.env)).all (fun x=> !x.1)&&(backToKw cpos (keywordEach [] X.env)).all (fun x=>x.1.isSome)
   &&decide ([e].length+([]:List Keyword).length+(if([]:List Keyword).isEmpty then 0 else 1)<30))=true:=by rfl)
  (hline:(apos.endLine == cpos.line)=true:=by rfl) (hs:starEach [e] X.env=(false,eval e X.env)::starEach [] X.env:=by rfl) (hplain:(backTo cpos (starEach [] X.env)).any (·.1)=false:=by rfl) :
  JE X (.Call (.Attribute o name apos) [e] [] cpos) (wML rv f to tl):=fun E hE=>
 (zvi pa slot hty hm (ho E hE) (zdu (ha E hE) pa_nil hs) hbase hfew hline hs hplain).mono fun σ H Q ⟨σW,S,QW,hσ,hS,ht,hQ⟩=>⟨σW,S,_,hσ,hS,ht,fun w S1 v H1 e1 r1 hS1 h1=>
  ⟨hrv H1 w v S1 r1 hS1 h1.1,σW,S1,_,hσ.ext e1,hS1,h1.2,fun ws S2 vs a H2 e2 fa ea na r2 hS2 h2=>hw H2 v w a vs ws S2 Q QW (r1.ext e2) ea na r2 hS2 h2 (hQ.from (e1.trans e2))⟩⟩
theorem zxH (pa:PlainAttrs T) (slot:Slot T name id) (hty:typeOf (.builtin id)=pure (.type "method_descriptor")) (hrv:zvL X.K T rv) (hm:MtR X id r) (hw:MtW X.K r f) (ho:JE X o to)
  (hbase:attributeBase o name X.env (eval o X.env)=eval o X.env:=by rfl) (hline:(apos.endLine == cpos.line)=true:=by rfl):JE X (.Call (.Attribute o name apos) [] [] cpos) (wM rv f to waNil):=fun E hE=>
 (zwC pa slot hty hm (ho E hE) hbase hline).mono fun σ H Q ⟨σW,S,QW,hσ,hS,ht,hQ⟩=>⟨σW,S,_,hσ,hS,ht,fun w S1 v H1 e1 r1 hS1 h1=>
  ⟨hrv H1 w v S1 r1 hS1 h1.1,hw H1 v w [] [] S1 Q QW r1 .nil hS1 h1.2 (hQ.from e1)⟩⟩
noncomputable def zbF:WMf:=fun w ws S Q=>match w with
 | .ref a=>zco S a fun xs=>match ws with
  | [y]=>xs.length<sizeLine∧Q .non (put S a (.lst (xs++[y])))
  |_=>False
 |_=>False
theorem zng{K:PySem.W.Frag}:MtW K zpz zbF:=fun H x w vs ws S Q QW r rs hS h hQ=>by
 cases r with
 |ref a=>
  obtain⟨xs,ea,h⟩:=zbf h;obtain⟨us,f,hs⟩:=hS a _ ea;cases rs with
  |nil=>exact h.elim
  |cons r1 r2=>
   cases r2 with
   |cons _ _=>exact h.elim
   |nil=>
    obtain⟨e,hS'⟩:=hS.set_lst ea (hs.append (.one r1));exact⟨a,us,_,rfl,rfl,f,by rw [←hs.length];exact h.1,hQ _ _ _ _ e .non hS' h.2⟩
 |_=>exact h.elim
theorem zbh (ho:JE X o to) (ha:JA X (e::es) t)
  (hbase:attributeBase o "append" X.env (eval o X.env)=eval o X.env:=by rfl)
  (hfew:((backTo cpos (starEach (e::es) X.env)).all (fun x=> !x.1)&&(backToKw cpos (keywordEach [] X.env)).all (fun x=>x.1.isSome)
   &&decide ((e::es).length+([]:List Keyword).length+(if([]:List Keyword).isEmpty then 0 else 1)<30))=true:=by rfl)
  (hline:(apos.endLine == cpos.line)=true:=by rfl) (hs:starEach (e::es) X.env=(false,eval e X.env)::starEach es X.env:=by rfl) (hplain:(backTo cpos (starEach es X.env)).any (·.1)=false:=by rfl) :
  JE X (.Call (.Attribute o "append" apos) (e::es) [] cpos) (wM rvL zbF to t):=zyM PySem.F.plainAttrs_list PySem.F.slot_list_append PySem.F.type_list_append zrV zjj zng ho ha hbase hfew hline hs hplain
noncomputable def zzc:WMf:=fun w ws S Q=>match w with
 | .ref a=>zco S a fun xs=>match ws with
  | []=>match xs[xs.length - 1]? with
   |some y=>Q y (put S a (.lst xs.dropLast))
   |none=>False
  |_=>False
 |_=>False
noncomputable def zgG:WMf:=fun w ws S Q=>match w with
 | .ref a=>zco S a fun xs=>match ws with
  | [.tup ys]=>xs.length+ys.length≤sizeLine∧Q .non (put S a (.lst (xs++ys)))
  | [.ref b]=>zco S b fun ys=>xs.length+ys.length≤sizeLine∧Q .non (put S a (.lst (xs++ys)))
  |_=>False
 |_=>False
theorem znc{K:PySem.W.Frag}:MtW K (fun x vs H Q=>zpl x vs H Q∨zmL K x vs H Q) zgG:=fun H x w vs ws S Q QW r rs hS h hQ=>by
 cases r with
 |ref a=>
  obtain⟨xs,ea,h⟩:=zbf h;obtain⟨us,f,hs⟩:=hS a _ ea;cases rs with
  |nil=>exact h.elim
  |cons r1 r2=>
   cases r2 with
   |cons _ _=>cases r1<;>exact h.elim
   |nil=>
    cases r1 with
    |tup g ks=>
     obtain⟨e,hS'⟩:=hS.set_lst ea (hs.append ks);exact .inr ⟨a,_,us,_,rfl,rfl,f, .of g,by rw [←hs.length,←ks.length];exact h.1,hQ _ _ _ _ e .non hS' h.2⟩
    |ref b=>
     obtain⟨ys,eb,h⟩:=zbf h;obtain⟨zs,g,ks⟩:=hS b _ eb;obtain⟨e,hS'⟩:=hS.set_lst ea (hs.append ks);exact .inl ⟨a,b,us,zs,rfl,rfl,f,g,by rw [←hs.length,←ks.length];exact h.1,hQ _ _ _ _ e .non hS' h.2⟩
    |_=>exact h.elim
 |_=>exact h.elim
theorem zof (ho:JE X o to) (ha:JA X (e::es) t)
  (hbase:attributeBase o "extend" X.env (eval o X.env)=eval o X.env:=by rfl)
  (hfew:((backTo cpos (starEach (e::es) X.env)).all (fun x=> !x.1)&&(backToKw cpos (keywordEach [] X.env)).all (fun x=>x.1.isSome)
   &&decide ((e::es).length+([]:List Keyword).length+(if([]:List Keyword).isEmpty then 0 else 1)<30))=true:=by rfl)
  (hline:(apos.endLine == cpos.line)=true:=by rfl) (hs:starEach (e::es) X.env=(false,eval e X.env)::starEach es X.env:=by rfl) (hplain:(backTo cpos (starEach es X.env)).any (·.1)=false:=by rfl) :
  JE X (.Call (.Attribute o "extend" apos) (e::es) [] cpos) (wM rvL zgG to t):=zyM PySem.F.plainAttrs_list PySem.F.slot_list_extend PySem.F.type_list_extend zrV (MtR.or zpj zns) znc ho ha hbase hfew hline hs hplain
noncomputable def zrg:WMf:=fun w ws S Q=>match w with
 | .ref a=>zco S a fun xs=>xs.length+ws.length≤sizeLine∧Q .non (put S a (.lst (xs++ws)))
 |_=>False
noncomputable def zge:List W→Option (List Str)
 | []=>some []
 | .str b::ws=>(zge ws).map (b:: ·)
 |_=>none
theorem zlH{K:PySem.W.Frag}{H:Hp}:∀{ws:List W}{vs:List V}{bs:List Str},Reps K H ws vs→zge ws=some bs→vs=bs.map V.str
 | [],_,_, .nil,e=>by have:=Option.some.inj e;subst this;rfl
 |w::ws,_,_, .cons r rs,e=>by
  cases r with
  |str b=>
   have e':(zge ws).map (b:: ·)=some _:=e;cases q:zge ws with
   |none=>rw [q]at e';cases e'
   |some cs=>
    rw [q]at e';have:=Option.some.inj e';subst this;rw [List.map_cons,zlH rs q]
  |_=>cases e
noncomputable def zjk:WMf:=fun w ws S Q=>match w with
 | .str z=>match zge ws with
  |some ys=>(ys.map (·.length)).sum+ys.length*z.length≤16777216∧Q (.str (Str.join z ys)) S
  |none=>False
 |_=>False
theorem zrq{K:PySem.W.Frag}:MtL K (zuH K) zjk:=fun H x w a vs ws S Q QW r ea na rs hS h hQ=>by
 cases r with
 |str z=>
  unfold zjk at h;dsimp only at h;split at h
  ·rename_i ys e;have:=zlH rs e;subst this;exact⟨z,a,ys,rfl,rfl, .of ea,h.1,hQ _ S _ H .refl (.str _) hS h.2⟩
  ·exact h.elim
 |_=>exact h.elim
theorem zqY (ho:JE X o to) (ha:JL X e tl)
  (hbase:attributeBase o "join" X.env (eval o X.env)=eval o X.env:=by rfl)
  (hfew:((backTo cpos (starEach [e] X.env)).all (fun x=> !x.1)&&(backToKw cpos (keywordEach [] X.env)).all (fun x=>x.1.isSome)
   &&decide ([e].length+([]:List Keyword).length+(if([]:List Keyword).isEmpty then 0 else 1)<30))=true:=by rfl)
  (hline:(apos.endLine == cpos.line)=true:=by rfl) (hs:starEach [e] X.env=(false,eval e X.env)::starEach [] X.env:=by rfl) (hplain:(backTo cpos (starEach [] X.env)).any (·.1)=false:=by rfl) :
  JE X (.Call (.Attribute o "join" apos) [e] [] cpos) (wML rvS zjk to tl):=zxo PySem.F.plainAttrs_str PySem.F.slot_str_join PySem.F.type_str_join zrW zsK zrq ho ha hbase hfew hline hs hplain
noncomputable def zvl:WMf:=fun w ws S Q=>match w with
 | .str z=>match ws with
  | [.str y]=>match Builtin.Str.occurrences z y 0 z.length 1 with
   |i::_=>Q (.int i) S
   | []=>False
  |_=>False
 |_=>False
end
noncomputable def zvW (i:Nat) (g:Int→Int→Int) (e:WE):WS:=fun E D σ S=>match σ[i]? with
 |some (some (.int a))=>e E σ S fun w S1=>match w with
  | .int b=>D.nx (σ.set i (some (.int (g a b)))) S1
  |_=>False
 |_=>False
section
variable {X:Cx}{e:Expr}{te:WE}{pos pos':Pos}
theorem zsa{i:Nat}{x:Str}(hN:X.N.Nodup) (hi:X.N[i]? =some x) (hx:Loc X.env.scope x) (he:JE X e te) (hf:X.fn x=true∨X.env.scope.names.lookup x=some .local:=by first |exact .inl rfl |exact .inr rfl |assumption) :
  JS X (.AugAssign (.Name x pos') .Add e pos) (zvW i (fun a b=>a+b) te):=fun E hE=>
 (zwx hN hi hx (he E hE) zuB hf).mono fun D σ H ⟨σW,S,DW,hσ,hS,ht,hD⟩=>by
  unfold zvW at ht;split at ht
  ·rename_i a ea;obtain⟨v,ev,rv⟩:=hσ.get ea;cases rv;refine⟨_,ev,σW,S,_,hσ,hS,ht,fun w S1 v H1 e1 r1 hS1 h1=>?_⟩;cases r1 with
   |int b=>exact⟨a,b,rfl,rfl,hD.nx _ S1 _ H1 e1 ((hσ.ext e1).set (.int _) i) hS1 h1⟩
   |_=>exact h1.elim
  ·exact ht.elim
end
noncomputable def zod (c:WT) (b:WS):WS:=fun E D σ S=>∃I:Nat→WSt→Sto→Prop,(∃m,I m σ S)∧ ∀m σ S,I m σ S→c E σ S fun k S1=>if k=true then
 b E { D with nx:=fun σ' S'=>∃m' S'',m'<m∧Sub S'' S'∧I m' σ' S'',ct:=fun σ' S'=>∃m' S'',m'<m∧Sub S'' S'∧I m' σ' S'',bk:=D.nx } σ S1 else D.nx σ S1
section
variable {X:Cx}{c:Expr}{body:List Stmt}{tc:WT}{tb:WS}{pos:Pos}
theorem zmj (hc:JT X c tc) (hb:JSs X body tb) (hp:PassesOwn (model X.prog X.w) X.A X.env (fun _ _=>False):=by exact PassesOwn.never):JS X (.While c body [] pos) (zod tc tb):=fun E hE=>
 (zqD (by rw [hE.xe];exact hp) (hc E hE) (hb E hE)).mono fun D σ H ⟨σW,S,DW,hσ,hS,⟨J,⟨n,ht⟩,step⟩,hD⟩=>by
  refine⟨fun m σ1 H1=>∃σW1 S1,Ext H S H1 S1∧RpSt X.K H1 σW1 σ1∧RepS X.K H1 S1∧J m σW1 S1,⟨n,σW,S, .refl,hσ,hS,ht⟩,?_⟩;rintro m σ1 H1 ⟨σW1,S1,e1,hσ1,hS1,h1⟩;refine⟨σW1,S1,_,hσ1,hS1,step m σW1 S1 h1,fun k S2 H2 e2 hS2 h2=>?_⟩;cases k with
  |false=>exact hD.nx σW1 S2 σ1 H2 (e1.trans e2) (hσ1.ext e2) hS2 h2
  |true=>
   rw [if_pos rfl]at h2⊢;refine⟨fun σ' H'=>∃m',m'<m∧ ∃σW1 S1,Ext H S H' S1∧RpSt X.K H' σW1 σ'∧RepS X.K H' S1∧J m' σW1 S1,fun σ' H' n'=>n',σW1,S2,_,hσ1.ext e2,hS2,h2,?_⟩;have e12:=e1.trans e2;have go:Goes X.K H2 S2 (fun σ' S'=>∃m' S'',m'<m∧Sub S'' S'∧J m' σ' S'') (fun σ' H'=>∃m',m'<m∧ ∃σW1 S1,Ext H S H' S1∧RpSt X.K H' σW1 σ'∧RepS X.K H' S1∧J m' σW1 S1):=fun σW3 S3 σ3 H3 e3 hσ3 hS3 ⟨m',S4,hm,sb,q⟩=>
    ⟨m',hm,σW3,S4,(e12.trans e3).trans (.drop sb),hσ3,hS3.sub sb,q⟩
   exact⟨go,hD.rt.from e12,hD.nx.from e12,go⟩
end
noncomputable def forL (g:WG) (b:WS) (E:WX) (D:WEnds) (G:Sto→Prop):List W→WSt→Sto→Prop
 | [],σ,S=>D.nx σ S
 |w::ws,σ,S=>g w σ S fun σ1 S1=>b E { D with nx:=fun σ' S'=>∃S'',Sub S'' S'∧G S''∧forL g b E D G ws σ' S'',ct:=fun σ' S'=>∃S'',Sub S'' S'∧G S''∧forL g b E D G ws σ' S'',bk:=D.nx } σ1 S1
noncomputable def zgC (q:WI) (g:WG) (b:WS):WS:=fun E D σ S=>q E σ S fun ws G S1=>forL g b E D G ws σ S1
section
variable {X:Cx}{tg iter:Expr}{body:List Stmt}{q:WI}{g:WG}{tb:WS}{pos:Pos}
theorem zbD (hi:JI X tg iter q) (hg:JG X tg g) (hb:JSs X body tb) (hp:PassesOwn (model X.prog X.w) X.A X.env (fun _ _=>False):=by exact PassesOwn.never)
  (hs:∀x,foldedSetIterable iter X.env x=pure x:=by intro _;rfl):JS X (.For tg iter body [] pos) (zgC q g tb):=fun E hE=>
 (zvj (by rw [hE.xe];exact hp) hE.calm (hi E hE) (hg E hE) (hb E hE) hs).mono fun D σ H ⟨σW,S,DW,hσ,hS,ht,hD⟩=>by
  refine⟨σW,S,_,hσ,hS,ht,fun ws G S1 J H1 e1 hS1 hG1 hJ h1=>?_⟩;refine⟨fun i m σ2 H2=>∃σW2 S2,Ext H1 S1 H2 S2∧RpSt X.K H2 σW2 σ2∧RepS X.K H2 S2∧G S2∧m=ws.length - i∧i≤ws.length∧forL g tb E DW G (ws.drop i) σW2 S2,
   ⟨ws.length,σW,S1, .refl,hσ.ext e1,hS1,hG1,rfl,Nat.zero_le _,h1⟩,?_⟩
  rintro i m σ2 H2 ⟨σW2,S2,e2,hσ2,hS2,hG2,rfl,hi2,h2⟩;obtain⟨ji,js⟩:=hJ i S2 H2 e2 hS2 hG2;by_cases hlt:i<ws.length
  ·obtain⟨jgo,jy⟩:=ji ws[i] (List.getElem?_eq_getElem hlt);refine .inr ⟨jgo,fun σ' H'=>∃σW2 S2,Ext H1 S1 H' S2∧RpSt X.K H' σW2 σ'∧RepS X.K H' S2∧G S2∧ws.length - (i+1)=ws.length - (i+1)∧i+1≤ws.length∧forL g tb E DW G (ws.drop (i+1)) σW2 S2,fun σ' H' z=>⟨_,by omega,z⟩,fun x H3 y3=>?_⟩
   obtain⟨e3,hS3,r3⟩:=jy x H3 y3;rw [List.drop_eq_getElem_cons hlt]at h2;refine⟨_,σW2,S2,_,r3,hσ2.ext e3,hS3,h2,fun σW4 S4 σ4 H4 e4 hσ4 hS4 h4=>?_⟩;have e14:Ext H1 S1 H4 S4:=(e2.trans e3).trans e4;refine⟨σW4,S4,_,hσ4,hS4,h4,?_⟩;have go:Goes X.K H4 S4 (fun σ' S'=>∃S'',Sub S'' S'∧G S''∧forL g tb E DW G (ws.drop (i+1)) σ' S'') (fun σ' H'=>∃σW2 S2,Ext H1 S1 H' S2∧RpSt X.K H' σW2 σ'∧RepS X.K H' S2∧G S2∧ws.length - (i+1)=ws.length - (i+1)∧i+1≤ws.length∧forL g tb E DW G (ws.drop (i+1)) σW2 S2):=
    fun σW5 S5 σ5 H5 e5 hσ5 hS5 ⟨S6,sb,hG6,q⟩=>⟨σW5,S6,(e14.trans e5).trans (.drop sb),hσ5,hS5.sub sb,hG6,rfl,hlt,q⟩
   exact⟨go,hD.rt.from (e1.trans e14),hD.nx.from (e1.trans e14),go⟩
  ·have hl:i=ws.length:=by omega
   rw [List.drop_of_length_le (Nat.le_of_eq hl.symm)]at h2;exact .inl ⟨js hl,hD.nx σW2 S2 σ2 H2 (e1.trans e2) hσ2 hS2 h2⟩
end
section
variable {X:Cx}{tg:Expr}
noncomputable def zzY (K:PySem.W.Frag) (tl:TE):TI:=fun σ H R=>tl σ H fun x H1=>(∃a,x= .ref a∧(∃xs,SqL K H1 a xs)∧R (Itl K a) H1)∨(∃a,x= .ref a∧(∃xs,SqT K H1 a xs)∧R (Itt K a) H1)∨ ∃z,x= .str z∧R (Its z) H1
theorem zvs{l:Expr}{tl:TE}(hl:PE X l tl):PI X tg l (zzY X.K tl):=by
 intro pins s σ H R I h;refine thn (hl pins s σ H _ I h) fun v s1 ⟨x,H1,I1,r1,q1⟩=>?_;have fp:∀b∈ [s1.heap.objs.size],ziY X pins H1 b:=fun b hb=>by
  have e:b=s1.heap.objs.size:=by simpa using hb
  subst e;exact I1.fpOk (Nat.le_refl _) (I1.hok.fresh (Nat.le_refl _))
 rcases q1 with⟨a,e,⟨xs,hq⟩,q⟩ |⟨a,e,⟨xs,hq⟩,q⟩ |⟨z,e,q⟩
 ·subst e;cases r1;obtain⟨its,rv,p,hz⟩:=I1.list hq;refine wpAny_pyIter_list p.isList ?_;exact⟨s1.heap.objs.size,[s1.heap.objs.size],_,_,H1,rfl,I1.kept (t':=s1.toks) fun b o e=>Heap.get?_push_of_some _ e,znT a _,⟨_,Heap.get?_push_size _ rfl,rfl,rfl⟩,fp,q⟩
 ·subst e;cases r1;obtain⟨its,rv,p,hz⟩:=I1.tuple hq;refine wpAny_pyIter_tuple (show s1.heap.IsTuple a its.toArray from p) ?_;exact⟨s1.heap.objs.size,[s1.heap.objs.size],_,_,H1,rfl,I1.kept (t':=s1.toks) fun b o e=>Heap.get?_push_of_some _ e,znb a _,⟨_,Heap.get?_push_size _ rfl,rfl,rfl⟩,fp,q⟩
 ·subst e;obtain⟨t,rfl⟩:=r1;cases ha:z.cps.all (· <128)
  ·refine wpAny_pyIter_wide ha ?_;exact⟨s1.heap.objs.size,[s1.heap.objs.size],_,_,H1,rfl,I1.kept (t':=s1.toks) fun b o e=>Heap.get?_push_of_some _ e,
    zlD _ z t "str_iterator" (by decide) (fun A' hA=>Walks.strWide hA _ z t) (fun _ _ _ _ _ st h=>wpAny_pyIter_striter_wide st h),⟨_,Heap.get?_push_size _ rfl,rfl,rfl⟩,fp,q⟩
  ·refine wpAny_pyIter_ascii ha ?_;exact⟨s1.heap.objs.size,[s1.heap.objs.size],_,_,H1,rfl,I1.kept (t':=s1.toks) fun b o e=>Heap.get?_push_of_some _ e,
    zlD _ z t "str_ascii_iterator" (by decide) (fun A' hA=>Walks.strAscii hA _ z t) (fun _ _ _ _ _ st h=>wpAny_pyIter_striter_ascii st h),⟨_,Heap.get?_push_size _ rfl,rfl,rfl⟩,fp,q⟩
noncomputable def zlk (z:Str):List W:=z.cps.toList.map fun c=> .str ⟨#[c]⟩
noncomputable def wIv (t:WE):WI:=fun E σ S Q=>t E σ S fun w S1=>match w with
 | .tup ws=>Q ws (fun _=>True) S1
 | .ref a=>zco S1 a fun ws=>Q ws (fun S'=>S' a=some (.lst ws)) S1
 | .scr ns=>Q (ns.map W.int) (fun _=>True) S1
 | .str z=>Q (zlk z) (fun _=>True) S1
 |_=>False
theorem znV{K:PySem.W.Frag}{a:Addr}{ws:List W}{G:Sto→Prop}{H0:Hp}{S0:Sto}(h:∀S H,Ext H0 S0 H S→RepS K H S→G S→ ∃vs,SqL K H a vs∧Reps K H ws vs):ItW K (Itl K a) ws G H0 S0:=fun i S H e hS hG=>by
 obtain⟨vs,hq,r⟩:=h S H e hS hG;refine⟨fun w ew=>?_,fun hl=>⟨vs,hq,by rw [←r.length,hl];exact Nat.le_refl _⟩⟩
 obtain⟨v,ev,rv⟩:=r.get ew;refine⟨⟨vs,v,hq,ev⟩,fun x H' ⟨e1,e2⟩=>?_⟩;subst e1;have e3:=e2 vs hq;rw [ev]at e3;cases e3;exact⟨.refl,hS,rv⟩
theorem zuw{K:PySem.W.Frag}{a:Addr}{ws:List W}{vs:List V}{H0:Hp}{S0:Sto}(f:H0 a=some (.tup vs)) (r:Reps K H0 ws vs):ItW K (Itt K a) ws (fun _=>True) H0 S0:=fun i S H e hS hG=>by
 have f':=e.tup _ _ f;have r':=r.ext e;refine⟨fun w ew=>?_,fun hl=>⟨vs, .of f',by rw [←r'.length,hl];exact Nat.le_refl _⟩⟩
 obtain⟨v,ev,rv⟩:=r'.get ew;refine⟨⟨vs,v, .of f',ev⟩,fun x H' ⟨e1,e2⟩=>?_⟩;subst e1;have e3:=e2 vs (.of f');rw [ev]at e3;cases e3;exact⟨.refl,hS,rv⟩
theorem zvU{K:PySem.W.Frag}{z:Str}{H0:Hp}{S0:Sto}:ItW K (Its z) (zlk z) (fun _=>True) H0 S0:=fun i S H e hS hG=>by
 unfold zlk;refine⟨fun w ew=>?_,fun hl=>?_⟩
 ·rw [List.getElem?_map]at ew;cases ec:z.cps.toList[i]? with
  |none=>rw [ec]at ew;cases ew
  |some c=>
   rw [ec]at ew;have ew':=Option.some.inj ew;subst ew';have hi:i<z.cps.size:=by
    have:=(List.getElem?_eq_some_iff.mp ec).1;simpa using this
   refine⟨hi,fun x H' ⟨e1,c',e2,e3⟩=>?_⟩;subst e1 e3;have:c'=c:=by
    have q:z.cps.toList[i]? =some c':=by rw [←e2];simp
    rw [ec]at q;exact(Option.some.inj q).symm
   subst this;exact⟨.refl,hS, .str _⟩
 ·show i=z.cps.size;simpa using hl
theorem zbi{l:Expr}{tl:WE}(hl:JE X l tl):JI X tg l (wIv tl):=fun E hE=>
 (zvs (hl E hE)).mono fun σ H R ⟨σW,S,QW,hσ,hS,ht,hR⟩=>⟨σW,S,_,hσ,hS,ht,fun w S1 v H1 e1 r1 hS1 h1=>by
  cases r1 with
  |tup f hs=>exact .inr (.inl ⟨_,rfl,⟨_, .of f⟩,hR _ _ S1 _ H1 e1 hS1 trivial (zuw f hs) h1⟩)
  |ref a=>
   obtain⟨ws,ea,h⟩:=zbf h1;obtain⟨vs,f,hs⟩:=hS1 a _ ea;refine .inl ⟨_,rfl,⟨_, .of f⟩,hR _ _ S1 _ H1 e1 hS1 ea (znV fun S2 H2 e2 hS2 g2=>?_) h⟩;obtain⟨vs2,f2,hs2⟩:=hS2 a _ g2;exact⟨vs2, .of f2,hs2⟩
  |scr f=>exact .inl ⟨_,rfl,⟨_,f.sq⟩,hR _ _ S1 _ H1 e1 hS1 trivial (znV fun S2 H2 e2 hS2 g2=>⟨_,(e2.fz f).sq,Reps.ofInts _⟩) h1⟩
  |str z=>exact .inr (.inr ⟨z,rfl,hR _ _ S1 _ H1 e1 hS1 trivial zvU h1⟩)
  |_=>exact h1.elim⟩
noncomputable def zmZ (lo:Int) (n:Nat):List W:=(List.range n).map fun(i:Nat)=> .int (lo+(i:Int))
theorem zuL{K:PySem.W.Frag}{lo:Int}{n:Nat}{H0:Hp}{S0:Sto}:ItW K (Itr lo n) (zmZ lo n) (fun _=>True) H0 S0:=fun i S H e hS hG=>by
 unfold zmZ;refine⟨fun w ew=>?_,fun hl=>by
  have:i=n:=by simpa using hl
  exact Nat.le_of_eq this.symm⟩
 rw [List.getElem?_map]at ew;by_cases hi:i<n
 ·rw [List.getElem?_range hi]at ew;have ew':=Option.some.inj ew;subst ew';refine⟨hi,fun x H' ⟨e1,e2⟩=>?_⟩;subst e1 e2;exact⟨.refl,hS, .int _⟩
 ·rw [List.getElem?_eq_none (by simpa using hi)]at ew;cases ew
noncomputable def zrH (t:WA):WI:=fun E σ S Q=>t E σ S fun ws S1=>match ws with
 | [.int j]=>(-(2 ^ 62)≤j∧j<2 ^ 62)∧Q (zmZ 0 j.toNat) (fun _=>True) S1
 |_=>False
theorem zdR{a:Expr}{ta:WA}{p pos:Pos}(hg:Gl X "range") (hm:X.mg "range" =none) (ha:JA X [a] ta) (hs:starEach [a] X.env=[(false,eval a X.env)]:=by rfl):JI X tg (.Call (.Name "range" p) [a] [] pos) (zrH ta):=fun E hE=>
 (zoJ hg hm (ha E hE) hs).mono fun σ H R ⟨σW,S,QW,hσ,hS,ht,hR⟩=>⟨σW,S,_,hσ,hS,ht,fun ws S1 vs H1 e1 r1 hS1 h1=>by
  cases r1 with
  |nil=>exact h1.elim
  |cons r2 r3=>
   cases r3 with
   |cons _ _=>cases r2<;>exact h1.elim
   |nil=>
    cases r2 with
    |int j=>exact⟨j,rfl,h1.1.1,h1.1.2,hR _ _ S1 _ H1 e1 hS1 trivial zuL h1.2⟩
    |_=>exact h1.elim⟩
end
noncomputable def zgz:WT:=fun _ _ S Q=>Q true S
noncomputable def JTs (X:Cx) (ifs:List Expr) (t:WT):Prop:=∀E,Hook X E→PTs X ifs (zsM X.K (t E))
theorem zbw{X:Cx}:JTs X [] zgz:=fun E hE pins s σ H Q I ⟨σW,S,QW,hσ,hS,ht,hQ⟩=>ztU pins s σ H Q I (hQ true S H .refl hS ht)
theorem ztk{X:Cx}{c:Expr}{t:WT}(h:JT X c t):JTs X [c] t:=fun E hE=>ztw (h E hE)
noncomputable def zez (g:WG) (c:WT) (e:WE) (E:WX) (G:Sto→Prop) (Q:List W→Sto→Prop):List W→List W→WSt→Sto→Prop
 | [],acc,_,S=>Q acc S
 |w::ws,acc,σ,S=>g w σ S fun σ1 S1=>c E σ1 S1 fun b S2=>if b=true then e E σ1 S2 fun y S3=>acc.length<sizeLine∧ ∃S4,Sub S4 S3∧G S4∧zez g c e E G Q ws (acc++[y]) σ1 S4
   else ∃S4,Sub S4 S2∧G S4∧zez g c e E G Q ws acc σ1 S4
noncomputable def zcV (k:Nat) (fr:List Nat) (q:WI) (g:WG) (c:WT) (e:WE):WL:=fun E σ S Q=>q E σ S fun ws G S1=>zez g c e E G Q ws [] (List.replicate k none++fr.map fun j=>(σ[j]?).join) S1
theorem znf{K:PySem.W.Frag}{H:Hp}{σW:WSt}{σ:St}{k:Nat}{fr:List Nat}(h:RpSt K H σW σ):RpSt K H (List.replicate k none++fr.map fun j=>(σW[j]?).join) (zlU σ k fr):=by
 have one:∀j:Nat,RpO K H (σW[j]?).join (σ[j]?).join:=fun j=>by
  cases e:σW[j]? with
  |none=>exact trivial
  |some w=>
   cases w with
   |none=>exact trivial
   |some w=>
    obtain⟨v,ev,r⟩:=h.get e;rw [ev];exact r
 have go:∀fr:List Nat,RpSt K H (fr.map fun j=>(σW[j]?).join) (zgR σ fr):=by
  intro fr
  induction fr with
  |nil=>exact .nil
  |cons j fr ih=>exact .cons (one j) ih
 unfold zlU
 induction k with
 |zero=>exact go fr
 |succ k ih=>exact .cons trivial ih
section
variable {X:Cx}{scope:Scope}{N:List Str}{k:Nat}{fr:List Nat}{tg iter elt:Expr}{ifs:List Expr}{pos:Pos}{q:WI}{g:WG}{c:WT}{e:WE}
theorem Ext.loose{H H':Hp}(a:∀b xs,H b=some (.tup xs)→H' b=some (.tup xs)) (b:∀c o u,H c=some (.frz o u)→H' c=some (.frz o u)) (d:∀b o,H b=some o→ ∃o',H' b=some o'):Ext H (fun _=>some (.lst [])) H' (fun _=>some (.lst [])):=
 ⟨a,b,(fun _ _ _ g=>nomatch g),d⟩
theorem Ext.over{H H':Hp}{S S':Sto}{l:Addr}{o:HO}(e:Ext H S H' S') (h:H l=none):Ext H S (upd H' l o) S':=
 ⟨fun b xs q=>by rw [zaw (zas q h)];exact e.tup b xs q,fun b ob u q=>by rw [zaw (zas q h)];exact e.frz b ob u q,fun b ob q z=>by rw [zaw (zas q h)];exact e.fr b ob q z,fun b ob q=>by rw [zaw (zas q h)];exact e.all b ob q⟩
theorem zjn (hg:∀s₀ H₀ fp pn,JG (zbt X scope N s₀ H₀ fp pn) tg g) (hc:∀s₀ H₀ fp pn,JTs (zbt X scope N s₀ H₀ fp pn) ifs c) (he:∀s₀ H₀ fp pn,JE (zbt X scope N s₀ H₀ fp pn) elt e)
  {E:WX}(hE:Hook X E) (σ:St) (H:Hp) (Q:VK):zwD X.K (zcV k fr q g c e E) σ H Q→zre X scope N k fr tg ifs elt (zvC X.K (q E)) σ H Q:=fun⟨σW,S0,QW,hσ,hS,ht,hQ⟩=>by
  refine⟨σW,S0,_,hσ,hS,ht,fun ws G S1 J H1 e1 hS1 hG1 hJ h1 l hl=>?_⟩;have upl:∀{H':Hp}{vs us:List V}{S':Sto},H' l=some (.lst vs)→S' l=none→RepS X.K H' S'→Ext H' (fun _=>some (.lst [])) (upd H' l (.lst us)) (fun _=>some (.lst []))∧RepS X.K (upd H' l (.lst us)) S':=fun {H' vs us S'} f n hS'=>by
   have x:Ext H' (fun _=>some (.lst [])) (upd H' l (.lst us)) (fun _=>some (.lst [])):= .loose (fun b xs q=>by rw [zaw (zqG q f fun z=>nomatch z)];exact q) (fun b o u q=>by rw [zaw (zqG q f fun z=>nomatch z)];exact q) fun b o q=>by
    by_cases hb:b=l
    ·subst hb;exact⟨_,zax⟩
    ·exact⟨o,by rw [zaw hb];exact q⟩
   refine⟨x,fun a o q=>(hS' a o q).keep x fun u z=>?_⟩;have ha:a≠l:=by rintro rfl;rw [n]at q;cases q
   rw [zaw ha];exact z
  refine⟨fun i m σ' H'=>∃σW' S' acc vs,Ext H1 S1 H' S'∧H' l=some (.lst vs)∧S' l=none∧Reps X.K H' acc vs∧RpSt X.K H' σW' σ'∧RepS X.K H' S'∧G S'∧m=ws.length - i∧i≤ws.length∧zez g c e E G QW (ws.drop i) acc σW' S',
   ⟨ws.length,_,S1,[],[], .new hl,zax,hS1.free hl, .nil,znf (hσ.ext (e1.trans (.new (S:=S1) hl))),hS1.new hl,hG1,rfl,Nat.zero_le _,h1⟩,?_⟩
  rintro i m σ' H' ⟨σW',S',acc,vs,e2,f2,n2,ra,hσ2,hS2,hG2,rfl,hi2,h2⟩;obtain⟨ji,js⟩:=hJ i S' H' e2 hS2 hG2;by_cases hlt:i<ws.length
  ·obtain⟨jgo,jy⟩:=ji ws[i] (List.getElem?_eq_getElem hlt);refine .inr ⟨jgo,fun σ'' H''=>∃σW' S' acc vs,Ext H1 S1 H'' S'∧H'' l=some (.lst vs)∧S' l=none∧Reps X.K H'' acc vs∧RpSt X.K H'' σW' σ''∧RepS X.K H'' S'∧G S'∧ws.length - (i+1)=ws.length - (i+1)∧i+1≤ws.length∧zez g c e E G QW (ws.drop (i+1)) acc σW' S',
    fun σ'' H'' z=>⟨_,by omega,z⟩,fun x H3 y3=>?_⟩
   obtain⟨e3,hS3,r3⟩:=jy x H3 y3;rw [List.drop_eq_getElem_cons hlt]at h2;intro s₀ H₀ fp pn;have hk:Hook (zbt X scope N s₀ H₀ fp pn) E:=⟨hE.no,rfl,hE.calm⟩;refine⟨_,_,_,hg s₀ H₀ fp pn E hk,hc s₀ H₀ fp pn E hk,he s₀ H₀ fp pn E hk,?_⟩;refine⟨_,σW',S',_,r3,hσ2.ext e3,hS3,h2,fun σW4 S4 σ4 H4 e4 hσ4 hS4 h4=>?_⟩;refine⟨σW4,S4,_,hσ4,hS4,h4,fun b S5 H5 e5 hS5 h5=>?_⟩;have e15:Ext H' S' H5 S5:=(e3.trans e4).trans e5;have hσ5:=hσ4.ext e5;obtain⟨f5,n5⟩:=e15.fr l _ f2 n2;cases b with
   |false=>
    have h5:∃S4,Sub S4 S5∧G S4∧zez g c e E G QW (ws.drop (i+1)) acc σW4 S4:=h5;refine zzE ?_;obtain⟨S6,sb,hG6,h6⟩:=h5;have e16:=e15.trans (.drop sb);exact⟨σW4,S6,acc,vs,e2.trans e16,f5,(e16.fr l _ f2 n2).2,ra.ext e15,hσ5,hS5.sub sb,hG6,rfl,hlt,h6⟩
   |true=>
    rw [if_pos rfl]at h5;refine zyT ?_;refine⟨σW4,S5,_,hσ5,hS5,h5,fun y S6 v H6 e6 r6 hS6 h6=>?_⟩;have e17:=e15.trans e6;obtain⟨f6,n6⟩:=e17.fr l _ f2 n2;obtain⟨hz,S7,sb,hG7,h7⟩:=h6;obtain⟨x6,hS6'⟩:=upl (us:=vs++[v]) f6 n6 hS6;have ra6:Reps X.K H6 (acc++[y]) (vs++[v]):=(ra.ext e17).append (.one r6);refine⟨vs,f6,by rw [←ra.length];exact hz,σW4,S7,acc++[y],vs++[v],?_,zax,((e17.trans (.drop sb)).fr l _ f2 n2).2,ra6.ext x6,(hσ5.ext e6).ext x6,hS6'.sub sb,hG7,rfl,hlt,h7⟩
    exact(e2.trans (e17.trans (.drop sb))).over hl
  ·have hll:i=ws.length:=by omega
   rw [List.drop_of_length_le (Nat.le_of_eq hll.symm)]at h2;exact .inl ⟨js hll,hQ acc S' vs l H' (e1.trans e2) (e1.free hl) f2 n2 ra hS2 h2⟩
theorem zcH (S:CompSc X scope N k fr) (hi:JI X tg iter q) (hg:∀s₀ H₀ fp pn,JG (zbt X scope N s₀ H₀ fp pn) tg g) (hc:∀s₀ H₀ fp pn,JTs (zbt X scope N s₀ H₀ fp pn) ifs c) (he:∀s₀ H₀ fp pn,JE (zbt X scope N s₀ H₀ fp pn) elt e)
  (hs:∀x,foldedSetIterable iter X.env x=pure x:=by intro _;rfl):JL X (.ListComp elt [⟨tg,iter,ifs,0⟩] scope pos) (zcV k fr q g c e):=fun E hE=>
 (zub hE.xe hE.calm S (hi E hE) hs).mono (zjn hg hc he hE)
theorem zfT{i:Nat}{x:Str}{pos' spos:Pos}(hN:X.N.Nodup) (hxi:X.N[i]? =some x) (hxl:Loc X.env.scope x) (S:CompSc X scope N k fr) (hi:JI X tg iter q) (hg:∀s₀ H₀ fp pn,JG (zbt X scope N s₀ H₀ fp pn) tg g) (hc:∀s₀ H₀ fp pn,JTs (zbt X scope N s₀ H₀ fp pn) ifs c) (he:∀s₀ H₀ fp pn,JE (zbt X scope N s₀ H₀ fp pn) elt e)
  (hw:swapsWith (.ListComp elt [⟨tg,iter,ifs,0⟩] scope pos) (some (.Name x pos')) spos.line X.env=pure true:=by rfl) (hf:X.fn x=true∨X.env.scope.names.lookup x=some .local:=by first |exact .inl rfl |exact .inr rfl |assumption)
  (hs:∀x,foldedSetIterable iter X.env x=pure x:=by intro _;rfl):JS X (.Assign [.Name x pos'] (.ListComp elt [⟨tg,iter,ifs,0⟩] scope pos) spos) (wAsg (zcD (zcV k fr q g c e)) (wGN i)):=fun E hE=>
 (zsG hE.xe hE.calm S (hi E hE) hN hxi hxl hw hf hs).mono fun D σ H ⟨σW,S0,DW,hσ,hS,ht,hD⟩=>
  zjn hg hc he hE σ H _ ⟨σW,S0,_,hσ,hS,ht,fun ws S1 vs a H1 e1 fa ea na r1 hS1 h1=>by
   have ex:Ext H S0 H1 (put S1 a (.lst ws)):=⟨e1.tup,e1.frz,fun b o q g=>by
    have hb:b≠a:=by rintro rfl;rw [fa]at q;cases q
    rw [zaD hb];exact e1.fr b o q g,e1.all⟩
   refine hD.nx _ (put S1 a (.lst ws)) _ H1 ex ((hσ.ext ex).set (.ref a) i) (fun b o q=>?_) (h1 a na);by_cases hb:b=a
   ·subst hb;rw [zah]at q;cases q;exact⟨vs,ea,r1⟩
   ·rw [zaD hb]at q;exact hS1 b o q⟩
end
noncomputable def SeqIt (k:Bool) (h:Heap) (it a:Addr) (i:Nat):Prop:=if k=true then h.IsListIter it a i else h.IsTupleIter it a i
noncomputable def SeqIs (k:Bool) (h:Heap) (a:Addr) (its:Array Value):Prop:=if k=true then h.IsList a its else h.IsTuple a its
section
variable {k:Bool}{h h':Heap}{it a:Addr}{i:Nat}{its:Array Value}
theorem SeqIt.at (x:SeqIt k h it a i) (e:∀o,h.get? it=some o→h'.get? it=some o):SeqIt k h' it a i:=by
 cases k with
 |true=>exact Heap.IsListIter.at (show h.IsListIter it a i from x) e
 |false=>exact Heap.IsTupleIter.at (show h.IsTupleIter it a i from x) e
theorem SeqIs.at (x:SeqIs k h a its) (e:∀o,h.get? a=some o→h'.get? a=some o):SeqIs k h' a its:=by
 cases k with
 |true=>exact Heap.IsList.at (show h.IsList a its from x) e
 |false=>obtain⟨o,ho,r⟩:=(show h.IsTuple a its from x);exact⟨o,e o ho,r⟩
theorem SeqIt.ob (x:SeqIt k h it a i):∃o vs,h.get? it=some o∧o.data= .fields vs:=by
 cases k with
 |true=>obtain⟨o,ho,_,hd⟩:=(show h.IsListIter it a i from x);exact⟨o,_,ho,hd⟩
 |false=>obtain⟨o,ho,_,hd⟩:=(show h.IsTupleIter it a i from x);exact⟨o,_,ho,hd⟩
end
section
variable {prog:Program}{w:World}{A:Around}{E:Value→Shared→Prop}{s:Shared}
theorem zha{it t:Addr}{i:Nat}{its:Array Value}{x:Value}{Q:Value→Shared→Prop}(hit:s.heap.IsTupleIter it t i) (ht:s.heap.IsTuple t its) (hx:its[i]? =some x)
  (hQ:∀g,g.IsTupleIter it t (i+1)→Heap.SameBut it s.heap g→Q x { s with heap:=g }):wpAny (model prog w) A (Builtin.SmallTypes.nextOf (.ref it)) Q E s:=by
 obtain⟨o,ho,hc,hd⟩:=id hit;obtain⟨ot,hot,_,nt,hdt⟩:=ht;unfold Builtin.SmallTypes.nextOf;refine wpAny_bind (wpAny_callSpecial?_slot (name:=Str.ofString "__next__") hit.typeIs PySem.F.slot_tuple_iterator_next (wpAny_call_entry PySem.F.slot_tuple_iterator_next hit.typeIs PySem.F.entry_tuple_iterator_next ?_ (PySem.F.args_tuple_iterator_next_1 _)));show wpAny _ _ (field (.ref it) 0 >>= _) _ _ s;refine wpAny_bind (wpAny_field ho hd (x:= .ref t) rfl ?_);show wpAny _ _ (if(Value.ref t == Value.none)=true then _ else _) _ _ s;rw [if_neg (show ¬((Value.ref t == Value.none)=true) from Bool.false_ne_true)];show wpAny _ _ (field (.ref it) 1 >>= _) _ _ s;refine wpAny_bind (wpAny_field ho hd (x:= .int i 0) rfl ?_);show wpAny _ _ (seqItems? (.ref t) >>= _) _ _ s;refine wpAny_bind (wpAny_seqItems hot hdt ?_);simp only[Int.toNat_natCast,hx];refine wpAny_bind (wpAny_setField ho hd (by simp) (wpAny_pure ⟨x,rfl,wpAny_pure (hQ _ ?_ (Heap.SameBut.update ..))⟩));exact⟨_,Heap.get?_update_self _ ho (Obj.isFreed_of_fields (Obj.data_mapFields hd _)),(Obj.cls_mapFields ..).trans hc,by rw [Obj.data_mapFields hd];simp [rawInt]⟩
theorem zhF{it t:Addr}{i:Nat}{its:Array Value}{Q:Value→Shared→Prop}(hh:A.handled=none) (hit:s.heap.IsTupleIter it t i) (ht:s.heap.IsTuple t its) (hx:its[i]? =none)
  (hE:∀g e,Heap.ExtBut it s.heap g→(∃o,g.get? e=some o∧o.cls= .type "StopIteration")→E (.ref e) { s with heap:=g }):wpAny (model prog w) A (Builtin.SmallTypes.nextOf (.ref it)) Q E s:=by
 obtain⟨o,ho,hc,hd⟩:=id hit;obtain⟨ot,hot,_,nt,hdt⟩:=ht;unfold Builtin.SmallTypes.nextOf;refine wpAny_bind (wpAny_callSpecial?_slot (name:=Str.ofString "__next__") hit.typeIs PySem.F.slot_tuple_iterator_next (wpAny_call_entry PySem.F.slot_tuple_iterator_next hit.typeIs PySem.F.entry_tuple_iterator_next ?_ (PySem.F.args_tuple_iterator_next_1 _)));show wpAny _ _ (field (.ref it) 0 >>= _) _ _ s;refine wpAny_bind (wpAny_field ho hd (x:= .ref t) rfl ?_);show wpAny _ _ (if(Value.ref t == Value.none)=true then _ else _) _ _ s;rw [if_neg (show ¬((Value.ref t == Value.none)=true) from Bool.false_ne_true)];show wpAny _ _ (field (.ref it) 1 >>= _) _ _ s;refine wpAny_bind (wpAny_field ho hd (x:= .int i 0) rfl ?_);show wpAny _ _ (seqItems? (.ref t) >>= _) _ _ s;refine wpAny_bind (wpAny_seqItems hot hdt ?_);simp only[Int.toNat_natCast,hx];refine wpAny_bind (wpAny_rule (wpAny_bind (wpAny_setField ho hd (by simp) ?_)));show wpAny _ _ (newExc (.type "StopIteration") [] >>= _) _ _ _;refine wpAny_bind ?_;simp only[newExc,newTuple];refine wpAny_bind (wpAny_newObj_type ?_ (by size_fits));refine wpAny_bind (m:=firstArgMember _ _) (wpAny_of_eq (a:=Value.none) (by first |rfl | (simp only[firstArgMember];rfl)) ?_);refine wpAny_newObj_type ?_ (by size_fits);simp only[raiseNew];refine wpAny_bind (wpAny_handled ?_)
 first |rw [show A.in1.handled=none from hh] |rw [hh]
 refine wpAny_bind (wpAny_pure (wpAny_throw ?_));exact hE _ _ (((Heap.SameBut.update ..).extBut.push _).push _) ⟨_,Heap.get?_push_size _ rfl,rfl⟩
theorem zfz{k:Bool}{it t:Addr}{i:Nat}{its:Array Value}{x:Value}{Q:Value→Shared→Prop}(hit:SeqIt k s.heap it t i) (ht:SeqIs k s.heap t its) (hx:its[i]? =some x)
  (hQ:∀g,SeqIt k g it t (i+1)→Heap.SameBut it s.heap g→Q x { s with heap:=g }):wpAny (model prog w) A (Builtin.SmallTypes.nextOf (.ref it)) Q E s:=by
 cases k with
 |true=>exact wpAny_nextOf_list_item hit ht hx hQ
 |false=>exact zha hit ht hx hQ
theorem zim{k:Bool}{it t:Addr}{i:Nat}{its:Array Value}{Q:Value→Shared→Prop}(hh:A.handled=none) (hit:SeqIt k s.heap it t i) (ht:SeqIs k s.heap t its) (hx:its[i]? =none)
  (hE:∀g e,Heap.ExtBut it s.heap g→(∃o,g.get? e=some o∧o.cls= .type "StopIteration")→E (.ref e) { s with heap:=g }):wpAny (model prog w) A (Builtin.SmallTypes.nextOf (.ref it)) Q E s:=by
 cases k with
 |true=>exact wpAny_nextOf_list_end hh hit ht hx hE
 |false=>exact zhF hh hit ht hx hE
theorem zou{k:Bool}{e it l:Addr}{i:Nat}{its:Array Value}{x old:Value}{Q:Option Value→Shared→Prop}
  (he:IsEnum s.heap e it i old) (hit:SeqIt k s.heap it l i) (hl:SeqIs k s.heap l its) (hx:its[i]? =some x) (hne:e≠it)
  (hQ:∀g,IsEnumOut g e it ((i:Int)+1) x s.heap.objs.size→SeqIt k g it l (i+1)→g.get? s.heap.objs.size=some { cls:= .type "tuple",data:= .seq #[.int i s.toks,x] }→g.objs.size=s.heap.objs.size+1→
   (∀b o,b≠e→b≠it→s.heap.get? b=some o→g.get? b=some o)→Q (some (.ref s.heap.objs.size)) { s with heap:=g,toks:=s.toks+1 }):wpAny (model prog w) A (pyNext (.ref e)) Q E s:=by
 have hT:s.TypeIs (.ref e) "enumerate" :=⟨_,he,rfl⟩;unfold pyNext;refine wpAny_bind (wpAny_attempt (wpAny_callSpecial?_slot (name:=Str.ofString "__next__") hT PySem.F.slot_enumerate_next (wpAny_call_entry PySem.F.slot_enumerate_next hT PySem.F.entry_enumerate_next ?_ (PySem.F.args_enumerate_next_1 _))));obtain⟨hp,g,d,tk,os⟩:=s;show wpAny _ _ (field (.ref e) 2 >>= _) _ _ _;refine wpAny_bind (wpAny_field he rfl (x:= .ref it) rfl ?_);refine wpAny_bind (zfz hit hl hx fun g1 hit1 hs1=>?_);replace hs1:Heap.SameBut it hp g1:=hs1;have he1:IsEnum g1 e it i old:=(hs1.2 e hne).trans he;show wpAny _ _ (field (.ref e) 3 >>= _) _ _ ⟨g1,g,d,tk,os⟩;refine wpAny_bind (wpAny_field he1 rfl (x:=rawInt i) rfl ?_);show wpAny _ _ (field (.ref e) 4 >>= _) _ _ ⟨g1,g,d,tk,os⟩;refine wpAny_bind (wpAny_field he1 rfl (x:= .none) rfl ?_);show wpAny _ _ (mkInt i >>= _) _ _ ⟨g1,g,d,tk,os⟩;refine wpAny_bind (wpAny_mkInt ?_);show wpAny _ _ (setField (.ref e) 3 (rawInt ((i:Int)+1)) >>= _) _ _ ⟨g1,g,d,tk+1,os⟩;refine wpAny_bind (wpAny_setField_rec he1 (by simp) fun g2 he2 hs2=>?_);replace hs2:Heap.SameBut e g1 g2:=hs2;replace he2:IsEnum g2 e it ((i:Int)+1) old:=he2;show wpAny _ _ (setField (.ref e) 4 .none >>= _) _ _ ⟨g2,g,d,tk+1,os⟩;refine wpAny_bind (wpAny_setField_rec he2 (by simp) fun g3 he3 hs3=>?_);replace hs3:Heap.SameBut e g2 g3:=hs3;replace he3:IsEnum g3 e it ((i:Int)+1) old:=he3;show wpAny _ _ (newTuple [.int i tk,x] >>= _) _ _ ⟨g3,g,d,tk+1,os⟩;refine wpAny_bind (wpAny_newTuple ?_);have he4:IsEnum (g3.push { cls:= .type "tuple",data:= .seq #[.int i tk,x] }) e it ((i:Int)+1) old:=Heap.get?_push_of_some _ he3;generalize hg4:g3.push { cls:= .type "tuple",data:= .seq #[.int i tk,x] }=g4 at he4;have hsz:g3.objs.size=hp.objs.size:=by rw [hs3.1,hs2.1,hs1.1]
 have hel:e<hp.objs.size:=Heap.lt_size he;have ht4:g4.get? hp.objs.size=some { cls:= .type "tuple",data:= .seq #[.int i tk,x] }:=by rw [←hg4,←hsz];exact Heap.get?_push_size _ rfl
 have hz4:g4.objs.size=hp.objs.size+1:=by rw [←hg4,Heap.size_push,hsz]
 have hk4:∀b o,b≠e→b≠it→hp.get? b=some o→g4.get? b=some o:=fun b o hbe hbi hb=>by rw [←hg4];exact Heap.get?_push_of_some _ (hs3.extBut b o hbe (hs2.extBut b o hbe (hs1.extBut b o hbi hb)))
 have hit4:SeqIt k g4 it l (i+1):=by rw [←hg4];exact hit1.at fun o ho=>Heap.get?_push_of_some _ (hs3.extBut it o (Ne.symm hne) (hs2.extBut it o (Ne.symm hne) ho))
 show wpAny _ _ (Builtin.SmallTypes.ownedTupleIsFree (.ref e) >>= _) _ _ ⟨g4,g,d,tk+1,os⟩;rw [hsz];clear hg4 he3 hs3 he2 hs2 he1 hs1 hit1 hsz g3 g2 g1;refine wpAny_bind ?_;unfold Builtin.SmallTypes.ownedTupleIsFree;refine wpAny_bind (wpAny_field he4 rfl (x:= .none) rfl (wpAny_pure ?_));simp only[if_true];refine wpAny_bind (wpAny_rule ?_);refine wpAny_bind (wpAny_field he4 rfl (x:=old) rfl ?_);refine wpAny_bind (wpAny_setField_rec he4 (by simp) fun g5 he5 hs5=>?_);replace hs5:Heap.SameBut e g4 g5:=hs5;replace he5:IsEnum g5 e it ((i:Int)+1) x:=he5;show wpAny _ _ (Builtin.SmallTypes.ownedTupleHandOut (.ref e) (.ref hp.objs.size) >>= _) _ _ ⟨g5,g,d,tk+1,os⟩;refine wpAny_bind ?_;unfold Builtin.SmallTypes.ownedTupleHandOut;refine wpAny_bind (wpAny_setField_rec he5 (by simp) fun g6 he6 hs6=>?_);replace hs6:Heap.SameBut e g5 g6:=hs6;replace he6:IsEnumOut g6 e it ((i:Int)+1) x hp.objs.size:=he6;refine wpAny_setField_rec he6 (by simp) fun g7 he7 hs7=>?_;replace hs7:Heap.SameBut e g6 g7:=hs7;replace he7:IsEnumOut g7 e it ((i:Int)+1) x hp.objs.size:=he7;refine wpAny_bind (wpAny_letGo (wpAny_pure ⟨_,rfl,wpAny_pure (hQ g7 he7 ?_ ?_ ?_ ?_)⟩))
 ·exact hit4.at fun o ho=>hs7.extBut it o (Ne.symm hne) (hs6.extBut it o (Ne.symm hne) (hs5.extBut it o (Ne.symm hne) ho))
 ·exact hs7.extBut _ _ (Nat.ne_of_gt hel) (hs6.extBut _ _ (Nat.ne_of_gt hel) (hs5.extBut _ _ (Nat.ne_of_gt hel) ht4))
 ·rw [hs7.1,hs6.1,hs5.1,hz4]
 ·exact fun b o hbe hbi hb=>hs7.extBut b o hbe (hs6.extBut b o hbe (hs5.extBut b o hbe (hk4 b o hbe hbi hb)))
theorem zrk{k:Bool}{e it l:Addr}{i:Nat}{its:Array Value}{old:Value}{Q:Option Value→Shared→Prop}(hh:A.handled=none)
  (he:IsEnum s.heap e it i old) (hit:SeqIt k s.heap it l i) (hl:SeqIs k s.heap l its) (hx:its[i]? =none) (hQ:∀g,Heap.ExtBut it s.heap g→Q none { s with heap:=g }):wpAny (model prog w) A (pyNext (.ref e)) Q E s:=by
 have hT:s.TypeIs (.ref e) "enumerate" :=⟨_,he,rfl⟩;unfold pyNext;refine wpAny_bind (wpAny_attempt (wpAny_callSpecial?_slot (name:=Str.ofString "__next__") hT PySem.F.slot_enumerate_next (wpAny_call_entry PySem.F.slot_enumerate_next hT PySem.F.entry_enumerate_next ?_ (PySem.F.args_enumerate_next_1 _))));show wpAny _ _ (field (.ref e) 2 >>= _) _ _ _;refine wpAny_bind (wpAny_field he rfl (x:= .ref it) rfl ?_);refine wpAny_bind (zim hh hit hl hx fun g x he' hx'=>?_);obtain⟨o,ho,hc⟩:=hx';refine wpAny_bind (wpAny_isInstance (T:= "StopIteration") (b:=true) ⟨o,ho,hc⟩ isSubtype_stop ?_);exact wpAny_pure (hQ _ he')
end
noncomputable def zee (k:Bool) (a:Addr):Obj:={ cls:= .type (if k=true then "list_iterator" else "tuple_iterator"),data:= .fields #[.ref a, .int 0 0] }
theorem ziK{k:Bool}{h:Heap}{it a:Addr}(e:h.get? it=some (zee k a)):SeqIt k h it a 0:=by
 cases k with
 |true=>exact⟨_,e,rfl,rfl⟩
 |false=>exact⟨_,e,rfl,rfl⟩
theorem zfR{k:Bool}{a:Addr}:(zee k a).isFreed=false:=by cases k<;>rfl
section
variable {prog:Program}{w:World}{A:Around}{E:Value→Shared→Prop}{s:Shared}
theorem ziG{k:Bool}{a:Addr}{its:Array Value}{Q:Value→Shared→Prop}(ha:SeqIs k s.heap a its) (hQ:Q (.ref s.heap.objs.size) { s with heap:=s.heap.push (zee k a) }):wpAny (model prog w) A (pyIter (.ref a)) Q E s:=by
 cases k with
 |true=>exact wpAny_pyIter_list ha hQ
 |false=>exact wpAny_pyIter_tuple ha hQ
end
theorem SeqIs.push{k:Bool}{h:Heap}{a:Addr}{its:Array Value}(x:SeqIs k h a its) (o:Obj):SeqIs k (h.push o) a its:=x.at fun _ e=>Heap.get?_push_of_some _ e
theorem znv{k:Bool}(l:Addr) (its:Array Value) :
  PySem.Meets (Builtin.«enumerate.__new__» ⟨[.type "enumerate", .ref l],[]⟩) (fun _ R s=>SeqIs k s.heap l its∧
   R (.ok (.ret (.ref (s.heap.push (zee k l)).objs.size))) { s with heap:=(s.heap.push (zee k l)).push { cls:= .type "enumerate",data:= .fields #[.none, .bool false, .ref s.heap.objs.size,rawInt 0, .none, .none] } }):=
 .of_wp fun prog w A R s h=>by
  obtain⟨hp,g,d,tk,os⟩:=s;obtain⟨hl,h⟩:=h;have hsub:=sub_enumerate;have hL:SeqIs k (Shared.heap ⟨hp,g,d,tk,os⟩) l its:=hl;have fin:∀{A:Around}{E:Value→Shared→Prop}{Q:Value→Shared→Prop},Q (.ref hp.objs.size) ⟨hp.push (zee k l),g,d,tk,os⟩→wpAny (model prog w) A (pyIter (.ref l)) Q E ⟨hp,g,d,tk,os⟩:=fun q=>ziG hL q
  wp_walk
  refine wpAny_stack_any fun st=>wpAny_pure ?_;split
  ·rename_i c _ _ _ _ _;cases(c == Value.type "enumerate")
   ·wp_walk using fin
    exact⟨_,rfl,h⟩
   ·wp_walk using fin
    exact⟨_,rfl,h⟩
  ·wp_walk using fin
   exact⟨_,rfl,h⟩
section
variable {prog:Program}{w:World}{A:Around}{E:Value→Shared→Prop}{s:Shared}
theorem zpN{k:Bool}{l:Addr}{its:Array Value}{Q:Value→Shared→Prop}(hL:SeqIs k s.heap l its)
  (h:∀g,IsEnum g (s.heap.objs.size+1) s.heap.objs.size 0 .none→SeqIt k g s.heap.objs.size l 0→g.objs.size=s.heap.objs.size+2→(∀b o,s.heap.get? b=some o→g.get? b=some o)→Q (.ref (s.heap.objs.size+1)) { s with heap:=g }) :
  wpAny (model prog w) A (call (.type "enumerate") [.ref l]) Q E s:=by
 refine callType_new PySem.F.called_enumerate (by decide) (PySem.F.typeCall_enumerate_1 _) (PySem.F.newCall_enumerate_1 _) (fun obj=>PySem.F.args_object_init_2 obj _) PySem.F.entry_enumerate_new (znv (k:=k) l its) ⟨hL,?_⟩;have hz:(s.heap.push (zee k l)).objs.size=s.heap.objs.size+1:=Heap.size_push ..;show _∧_;rw [hz];have he:IsEnum ((s.heap.push (zee k l)).push { cls:= .type "enumerate",data:= .fields #[.none, .bool false, .ref s.heap.objs.size,rawInt 0, .none, .none] }) (s.heap.objs.size+1) s.heap.objs.size 0 .none:=by
  have:=Heap.get?_push_size (s.heap.push (zee k l)) (o:={ cls:= .type "enumerate",data:= .fields #[.none, .bool false, .ref s.heap.objs.size,rawInt 0, .none, .none] }) rfl;rw [hz]at this;exact this
 exact⟨⟨_,he,rfl⟩,h _ he (ziK (Heap.get?_push_of_some _ (Heap.get?_push_size _ zfR))) (by rw [Heap.size_push,hz]) fun b o x=>Heap.get?_push_of_some _ (Heap.get?_push_of_some _ x)⟩
end
section
variable {X:Cx}{pins:List (Addr×Obj)}{σ:St}{H:Hp}{s:Shared}{g:Heap}{fp:List Addr}
theorem Inv.turnNew{p:Addr}{o:HO}{t':Nat}(I:Inv X pins σ H s) (hp:s.heap.objs.size≤p) (k:∀b u,b∉fp→s.heap.get? b=some u→g.get? b=some u) (hf:∀b∈fp,ziY X pins H b) (new:ObjOk X.prog X.w (upd H p o) g p o) :
  Inv X pins σ (upd H p o) { s with heap:=g,toks:=t' }:=by
 have hn:=I.hok.fresh hp;have lt:∀{b u},s.heap.get? b=some u→b≠p:=fun e=>Nat.ne_of_lt (Nat.lt_of_lt_of_le (Heap.lt_size e) hp);have nfp:∀{b u},H b=some u→b∉fp:=fun e z=>by rw [(hf _ z).1]at e;cases e
 refine I.call (g':=s.gens) (d':=s.drawn) (ch:=fp) ⟨fun b u e _ _ hx=>k b u hx e,fun b u e _ _ hx=>⟨u.slots,k b u hx e⟩,fun b u e n _=>by rw [zaw (lt e)];exact n,fun b u e hx=>⟨u,k b u hx e⟩,
  fun b xs e=>by rw [zaw (zas e hn)];exact e,fun b u xs e=>by rw [zaw (zas e hn)];exact e,fun b ps e=>⟨#[],by rw [zaw (zas e hn),e];simp⟩⟩ (fun b u e=>?_) I.bare fun b hb=>⟨(hf b hb).2.2.2.1,(hf b hb).2.1,(hf b hb).2.2.2.2.1,(hf b hb).2.2.2.2.2⟩
 by_cases hb:b=p
 ·subst hb;rw [zax]at e;cases e;exact new
 ·rw [zaw hb]at e;refine(I.hok b u e).stay (fun c v hc q=>k c v ?_ q) (fun c q=>by rw [zaw (zas q hn)];exact q) fun c xs q=>by rw [zaw (zas q hn)];exact q
  rcases hc with rfl |hc
  ·exact nfp e
  ·exact nfp hc
theorem Inv.turnedL{t':Nat}(I:Inv X pins σ H s) (k:∀b u,b∉fp→s.heap.get? b=some u→g.get? b=some u) (hf:∀b∈fp,ziY X pins H b):Inv X pins σ H { s with heap:=g,toks:=t' }:=by
 have nfp:∀{b u},H b=some u→b∉fp:=fun e z=>by rw [(hf _ z).1]at e;cases e
 refine I.call (g':=s.gens) (d':=s.drawn) (ch:=fp) ⟨fun b u e _ _ hx=>k b u hx e,fun b u e _ _ hx=>⟨u.slots,k b u hx e⟩,fun b u e n _=>n,fun b u e hx=>⟨u,k b u hx e⟩,
  fun b xs e=>e,fun b u xs e=>e,fun b ps e=>⟨#[],by rw [e];simp⟩⟩ (fun b u e=>?_) I.bare fun b hb=>⟨(hf b hb).2.2.2.1,(hf b hb).2.1,(hf b hb).2.2.2.2.1,(hf b hb).2.2.2.2.2⟩
 refine(I.hok b u e).stay (fun c v hc q=>k c v ?_ q) (fun c q=>q) fun c xs q=>q;rcases hc with rfl |hc
 ·exact nfp e
 ·exact nfp hc
noncomputable def SqK (k:Bool) (K:PySem.W.Frag) (H:Hp) (a:Addr) (xs:List V):Prop:=if k=true then SqL K H a xs else SqT K H a xs
theorem Inv.seq{k:Bool}{a:Addr}{xs:List V}(I:Inv X pins σ H s) (h:SqK k X.K H a xs):∃its:List Value,Vals xs its∧SeqIs k s.heap a its.toArray∧xs.length≤sizeLine:=by
 cases k with
 |true=>obtain⟨its,r,p,z⟩:=I.list h;exact⟨its,r,p.isList,z⟩
 |false=>obtain⟨its,r,p,z⟩:=I.tuple h;exact⟨its,r,p,z⟩
theorem Inv.seq_inj{k:Bool}{a:Addr}{xs ys:List V}(I:Inv X pins σ H s) (h:SqK k X.K H a xs) (h':SqK k X.K H a ys):xs=ys:=by
 cases k with
 |true=>exact I.list_inj h h'
 |false=>exact I.tuple_inj h h'
end
noncomputable def Ite (k:Bool) (K:PySem.W.Frag) (a:Addr):It:=
 ⟨fun i H=>∃xs x,SqK k K H a xs∧xs[i]? =some x,fun i H v H'=>∃p x,H p=none∧v= .ref p∧H'=upd H p (.tup [.int i,x])∧ ∀xs,SqK k K H a xs→xs[i]? =some x,fun i H=>∃xs,SqK k K H a xs∧xs.length≤i⟩
theorem zot{P:Program}{w:World}{K:PySem.W.Frag}{es:List Expr}{x1:Nat}{pos:Pos}(k:Bool) (a e it:Addr) (hne:e≠it):Turn P w K (.Tuple es x1 pos) (Ite k K a) [e,it] e (fun i h=>(∃old,IsEnum h e it (i:Nat) old)∧SeqIt k h it a i) where
  mem:=by simp
  obj:=fun i h ⟨⟨old,he⟩,hit⟩ b hb=>by
    rcases List.mem_cons.mp hb with rfl |hb
    · exact⟨_,he,fun v z=>by cases z⟩
    · have q:b=it:=by simpa using hb
      subst q;obtain⟨o,vs,e,d⟩:=hit.ob;exact⟨o,e,fun v z=>by rw [d]at z;cases z⟩
  keep:=fun i h h' ⟨⟨old,he⟩,hit⟩ kk=>⟨⟨old,kk e (by simp) _ he⟩,hit.at fun o q=>kk it (by simp) o q⟩
  item:=by
    intro X hP hw hK hc i pins s σ H E I hf st hg;subst hP hw hK;obtain⟨xs,x,hq,hx⟩:=hg;obtain⟨⟨old,he⟩,hit⟩:=st;obtain⟨its,rv,p,hz⟩:=I.seq hq;obtain⟨u,hu,ru⟩:=rv.get hx;refine zou he hit p (x:=u) (by simpa using hu) hne fun g ho hit' ht hz' kk=>⟨_,rfl,?_⟩;refine wpAny_letOwnedTupleGo_enum ho fun g2 he2 hs2=>?_;have hlt:s.heap.objs.size≠e:=Nat.ne_of_gt (Heap.lt_size he);have kk2:∀b o,b∉ [e,it]→s.heap.get? b=some o→g2.get? b=some o:=fun b o hb q=>by
      have h1:b≠e:=fun z=>hb (by simp [z]);have h2:b≠it:=fun z=>hb (by simp [z]);exact(hs2.2 b h1).trans (kk b o h1 h2 q)
    have hn:=I.hok.fresh (Nat.le_refl s.heap.objs.size);have ht2:g2.get? s.heap.objs.size=some { cls:= .type "tuple",data:= .seq #[.int i s.toks,u] }:=(hs2.2 _ hlt).trans ht;refine⟨.ref s.heap.objs.size,upd H s.heap.objs.size (.tup [.int i,x]),I.turnNew (fp:=[e,it]) (t':=s.toks+1) (Nat.le_refl _) kk2 hf ⟨by show 2≤sizeLine;rw [sizeLine_eq];decide,[.int i s.toks,u], .cons ⟨_,rfl⟩ (.cons ru .nil),⟨_,ht2,rfl,_,rfl⟩⟩,rfl,
      ⟨_,x,hn,rfl,rfl,fun ys hy=>by rw [I.seq_inj hy hq];exact hx⟩,⟨⟨u,by simpa using he2⟩,hit'.at fun o q=>(hs2.2 it (Ne.symm hne)).trans q⟩,fun b hb=>?_⟩
    have hb':=(hf b hb).1;have:b≠s.heap.objs.size:=by
      rcases List.mem_cons.mp hb with rfl |hb
      · exact Ne.symm hlt
      · have q:b=it:=by simpa using hb
        subst q;obtain⟨o,vs,e,d⟩:=hit.ob;exact Nat.ne_of_lt (Heap.lt_size e)
    rw [zaw this];exact hb'
  done:=by
    intro X hP hw hK hc i pins s σ H E I hf st hg;subst hP hw hK;obtain⟨xs,hq,hx⟩:=hg;obtain⟨⟨old,he⟩,hit⟩:=st;obtain⟨its,rv,p,hz⟩:=I.seq hq;have hl:=rv.length;exact zrk (I.ok.hd hc) he hit p (by simp;omega) fun g eb=>⟨rfl,I.turnedL (fp:=[e,it]) (t':=s.toks) (fun b o hb q=>eb b o (fun z=>hb (by simp [z])) q) hf⟩
  self:=fun A i s Q E ⟨⟨old,he⟩,hit⟩ h=>wpAny_pyIter_enum he h
section
variable {X:Cx}{es:List Expr}{x1:Nat}{tpos:Pos}
noncomputable def zxF (K:PySem.W.Frag) (ta:TA):TI:=fun σ H R=>ta σ H fun vs H1=>∃k a xs,vs=[.ref a]∧SqK k K H1 a xs∧R (Ite k K a) H1
theorem zsY{a:Expr}{ta:TA}{p pos:Pos}(hg:Gl X "enumerate") (hm:X.mg "enumerate" =none) (ha:PA X [a] ta) (hs:starEach [a] X.env=[(false,eval a X.env)]:=by rfl):PI X (.Tuple es x1 tpos) (.Call (.Name "enumerate" p) [a] [] pos) (zxF X.K ta):=by
 intro pins s σ H R I h;refine Call_ (zhQ I hg hm boot_enumerate (PyProof.Rows.callWith_type1 (thn (ha pos pins s σ H _ I h) fun us s1 ⟨vs,H1,I1,r1,q1⟩=>?_) hs rfl));obtain⟨k,a,xs,e,hq,q⟩:=q1;subst e;cases r1 with
 |cons r rr=>
  cases rr;cases(show _=Value.ref a from r);obtain⟨its,rv,pl,hz⟩:=I1.seq hq;refine zpN pl fun g he hit hz' kk=>wpAny_pyIter_enum he ?_;have I2:Inv X pins σ H1 { s1 with heap:=g }:=I1.kept (t':=s1.toks) kk;refine⟨s1.heap.objs.size+1,[s1.heap.objs.size+1,s1.heap.objs.size],_,_,H1,rfl,I2,zot k a _ _ (Nat.succ_ne_self _),⟨⟨.none,he⟩,hit⟩,fun b hb=>?_,q⟩;have hb':s1.heap.objs.size≤b:=by
   rcases List.mem_cons.mp hb with rfl |hb
   ·exact Nat.le_succ _
   ·have q:b=s1.heap.objs.size:=by simpa using hb
    exact Nat.le_of_eq q.symm
  exact I1.fpOk hb' (I1.hok.fresh hb')
noncomputable def zhY:Nat→List W→List W
 |_,[]=>[]
 |n,w::ws=> .tup [.int n,w]::zhY (n+1) ws
theorem zme:∀{ws:List W}{n i:Nat}{u:W},(zhY n ws)[i]? =some u→ ∃w,ws[i]? =some w∧u= .tup [.int ((n+i:Nat):Int),w]
 | [],_,_,_,h=>by simp [zhY]at h
 |w::ws,n,0,u,h=>by
  simp [zhY]at h;exact⟨w,rfl,by rw [←h];rfl⟩
 |w::ws,n,i+1,u,h=>by
  obtain⟨w',e,q⟩:=zme (ws:=ws) (n:=n+1) (i:=i) (u:=u) (by simpa [zhY]using h);refine⟨w',by simpa using e,?_⟩
  rw [q,show n+1+i=n+(i+1) by omega]
theorem zmH:∀{ws:List W}{n:Nat},(zhY n ws).length=ws.length
 | [],_=>rfl
 |w::ws,n=>by simp [zhY,zmH (ws:=ws)]
theorem ztF{K:PySem.W.Frag}{k:Bool}{a:Addr}{ws:List W}{G:Sto→Prop}{H0:Hp}{S0:Sto}(h:∀S H,Ext H0 S0 H S→RepS K H S→G S→ ∃vs,SqK k K H a vs∧Reps K H ws vs):ItW K (Ite k K a) (zhY 0 ws) G H0 S0:=fun i S H e hS hG=>by
 obtain⟨vs,hq,r⟩:=h S H e hS hG;refine⟨fun u eu=>?_,fun hl=>⟨vs,hq,by rw [←r.length,hl,zmH];exact Nat.le_refl _⟩⟩
 obtain⟨w,ew,rfl⟩:=zme eu;obtain⟨v,ev,rv⟩:=r.get ew;refine⟨⟨vs,v,hq,ev⟩,fun x H' ⟨p,y,hp,e1,e2,e3⟩=>?_⟩;subst e1 e2;have e4:=e3 vs hq;rw [ev]at e4;cases e4;rw [Nat.zero_add];exact⟨.new hp,hS.new hp, .tup zax (.cons (.int _) (.cons (rv.ext (.new (S:=S) hp)) .nil))⟩
noncomputable def znK:W→Sto→(List W→(Sto→Prop)→Prop)→Prop
 | .tup ws,_,Q=>Q ws fun _=>True
 | .ref a,S,Q=>zco S a fun ws=>Q ws fun S'=>S' a=some (.lst ws)
 | .scr ns,_,Q=>Q (ns.map W.int) fun _=>True
 |_,_,_=>False
theorem zsZ{K:PySem.W.Frag}{H:Hp}{S:Sto}{w:W}{v:V}{Q:List W→(Sto→Prop)→Prop}(r:Rep K H w v) (hS:RepS K H S) (h:znK w S Q) :
  ∃k a ws G,v= .ref a∧G S∧(∀S' H',Ext H S H' S'→RepS K H' S'→G S'→ ∃vs,SqK k K H' a vs∧Reps K H' ws vs)∧Q ws G:=by
 cases r with
 |tup f hs=>exact⟨false,_,_,_,rfl,trivial,fun S' H' e hS' _=>⟨_, .of (e.tup _ _ f),hs.ext e⟩,h⟩
 |ref a=>
  obtain⟨ws,ea,h⟩:=zbf h;exact⟨true,_,ws,_,rfl,ea,fun S' H' e hS' g=>by
   obtain⟨vs,f,hs⟩:=hS' a _ g;exact⟨vs, .of f,hs⟩,h⟩
 |scr f=>exact⟨true,_,_,_,rfl,trivial,fun S' H' e hS' _=>⟨_,(e.fz f).sq,Reps.ofInts _⟩,h⟩
 |_=>exact h.elim
noncomputable def zoM (t:WE):WI:=fun E σ S Q=>t E σ S fun w S1=>znK w S1 fun ws G=>Q (zhY 0 ws) G S1
theorem zkK{a:Expr}{ta:WE}{p pos:Pos}(hg:Gl X "enumerate") (hm:X.mg "enumerate" =none) (ha:JE X a ta) (hs:starEach [a] X.env=[(false,eval a X.env)]:=by rfl) (hs2:starEach [a] X.env=(false,eval a X.env)::starEach [] X.env:=by rfl):JI X (.Tuple es x1 tpos) (.Call (.Name "enumerate" p) [a] [] pos) (zoM ta):=fun E hE=>
 (zsY hg hm (zdu (ha E hE) pa_nil hs2) hs).mono fun σ H R ⟨σW,S,QW,hσ,hS,ht,hR⟩=>⟨σW,S,_,hσ,hS,ht,fun w S1 v H1 e1 r1 hS1 h1=>by
  obtain⟨k,a,ws,G,rfl,hG,hq,h⟩:=zsZ r1 hS1 h1;obtain⟨vs,hv,_⟩:=hq S1 H1 .refl hS1 hG;exact⟨k,a,vs,rfl,hv,hR _ _ S1 _ H1 e1 hS1 hG (ztF hq) h⟩⟩
end
section
variable {prog:Program}{w:World}{A:Around}{E:Value→Shared→Prop}{s:Shared}
theorem zrz{k1 k2:Bool}{z TI TO i1 i2 l1 l2:Addr}{n1 n2:Nat}{xs ys:Array Value}{x y a b:Value}{Q:Option Value→Shared→Prop}(D:ZipApart z TI TO i1 i2 l1 l2)
  (hz:IsZip s.heap z TI TO .none) (hTI:IsPair s.heap TI (.ref i1) (.ref i2)) (hTO:IsPair s.heap TO a b) (h1:SeqIt k1 s.heap i1 l1 n1) (h2:SeqIt k2 s.heap i2 l2 n2) (hl1:SeqIs k1 s.heap l1 xs) (hl2:SeqIs k2 s.heap l2 ys) (hx:xs[n1]? =some x) (hy:ys[n2]? =some y)
  (hQ:∀g,IsZip g z TI TO (rawInt s.heap.objs.size)→IsPair g TO x y→SeqIt k1 g i1 l1 (n1+1)→SeqIt k2 g i2 l2 (n2+1)→IsPair g s.heap.objs.size x y→g.objs.size=s.heap.objs.size+1→
   (∀c o,c≠z→c≠TO→c≠i1→c≠i2→s.heap.get? c=some o→g.get? c=some o)→Q (some (.ref s.heap.objs.size)) { s with heap:=g }):wpAny (model prog w) A (pyNext (.ref z)) Q E s:=by
 have hT:s.TypeIs (.ref z) "zip" :=⟨_,hz,rfl⟩;unfold pyNext;refine wpAny_bind (wpAny_attempt (wpAny_callSpecial?_slot (name:=Str.ofString "__next__") hT PySem.F.slot_zip_next (wpAny_call_entry PySem.F.slot_zip_next hT PySem.F.entry_zip_next ?_ (PySem.F.args_zip_next_1 _))));show wpAny _ _ (field (.ref z) 2 >>= _) _ _ _;refine wpAny_bind (wpAny_field hz rfl (x:= .bool false) rfl ?_);show wpAny _ _ (field (.ref z) 3 >>= _) _ _ _;refine wpAny_bind (wpAny_field hz rfl (x:= .ref TI) rfl ?_);refine wpAny_bind (wpAny_seqItems hTI rfl ?_);show wpAny _ _ (Builtin.SmallTypes.ownedTupleIsFree (.ref z) >>= _) _ _ _;refine wpAny_bind ?_;unfold Builtin.SmallTypes.ownedTupleIsFree;refine wpAny_bind (wpAny_field hz rfl (x:= .none) rfl (wpAny_pure ?_));simp only[if_true];refine wpAny_bind (wpAny_rule ?_);refine wpAny_bind (wpAny_field hz rfl (x:= .ref TO) rfl ?_);refine wpAny_bind (wpAny_setField_rec hz (by simp) fun g1 hz1 hs1=>?_);replace hz1:IsZip g1 z TI TO .ellipsis:=hz1;refine wpAny_bind ?_;simp only[List.zipIdx_cons,List.zipIdx_nil,List.forIn_cons,List.forIn_nil];refine wpAny_bind (wpAny_bind (wpAny_onRaise ?_));show wpAny _ _ (Builtin.SmallTypes.nextOf (.ref i1) >>= _) _ _ _;refine wpAny_bind (zfz (h1.at fun o e=>hs1.extBut _ o D.i1z e) (hl1.at fun o e=>hs1.extBut _ o D.l1z e) hx fun g2 h12 hs2=>wpAny_pure ?_);have hTO2:IsPair g2 TO a b:=hs2.extBut _ _ D.TOi1 (hs1.extBut _ _ D.TOz hTO);refine wpAny_bind (wpAny_seqItems hTO2 rfl ?_);refine wpAny_bind (wpAny_updateSeq_pair hTO2 fun g3 hTO3 hs3=>?_);replace hTO3:IsPair g3 TO x b:=hTO3;refine wpAny_bind (wpAny_letGo (wpAny_pure ?_));refine wpAny_bind (wpAny_bind (wpAny_onRaise ?_));show wpAny _ _ (Builtin.SmallTypes.nextOf (.ref i2) >>= _) _ _ _;refine wpAny_bind (zfz (h2.at fun o e=>hs3.extBut _ o D.TOi2.symm (hs2.extBut _ o D.i12.symm (hs1.extBut _ o D.i2z e))) (hl2.at fun o e=>hs3.extBut _ o D.l2TO (hs2.extBut _ o D.l2i1 (hs1.extBut _ o D.l2z e))) hy fun g4 h24 hs4=>wpAny_pure ?_);have hTO4:IsPair g4 TO x b:=hs4.extBut _ _ D.TOi2 hTO3;refine wpAny_bind (wpAny_seqItems hTO4 rfl ?_);refine wpAny_bind (wpAny_updateSeq_pair hTO4 fun g5 hTO5 hs5=>?_);replace hTO5:IsPair g5 TO x y:=hTO5;refine wpAny_bind (wpAny_letGo (wpAny_pure (wpAny_pure ?_)));refine wpAny_bind (wpAny_seqItems hTO5 rfl ?_);refine wpAny_bind (wpAny_newTuple ?_);have hsz:g5.objs.size=s.heap.objs.size:=by rw [hs5.1,hs4.1,hs3.1,hs2.1,hs1.1]
 have hz5:IsZip g5 z TI TO .ellipsis:=hs5.extBut _ _ D.TOz.symm (hs4.extBut _ _ D.i2z.symm (hs3.extBut _ _ D.TOz.symm (hs2.extBut _ _ D.i1z.symm hz1)));have hk5:∀c o,c≠z→c≠TO→c≠i1→c≠i2→s.heap.get? c=some o→g5.get? c=some o:=fun c o c1 c2 c3 c4 e=>hs5.extBut _ _ c2 (hs4.extBut _ _ c4 (hs3.extBut _ _ c2 (hs2.extBut _ _ c3 (hs1.extBut _ _ c1 e))));have h15:SeqIt k1 g5 i1 l1 (n1+1):=h12.at fun o e=>hs5.extBut _ o D.TOi1.symm (hs4.extBut _ o D.i12 (hs3.extBut _ o D.TOi1.symm e));have h25:SeqIt k2 g5 i2 l2 (n2+1):=h24.at fun o e=>hs5.extBut _ o D.TOi2.symm e;have hzlt:z<g5.objs.size:=Heap.lt_size hz5;show wpAny _ _ (Builtin.SmallTypes.ownedTupleHandOut (.ref z) (.ref g5.objs.size) >>= _) _ _ _;refine wpAny_bind ?_;unfold Builtin.SmallTypes.ownedTupleHandOut;have hz6:IsZip (g5.push { cls:= .type "tuple",data:= .seq #[x,y] }) z TI TO .ellipsis:=Heap.get?_push_of_some _ hz5;refine wpAny_bind (wpAny_setField_rec hz6 (by simp) fun g7 hz7 hs7=>?_);replace hz7:IsZip g7 z TI TO (rawInt g5.objs.size):=hz7;refine wpAny_setField_rec hz7 (by simp) fun g8 hz8 hs8=>?_;replace hz8:IsZip g8 z TI TO (rawInt g5.objs.size):=hz8;have up:∀c o,c≠z→g5.get? c=some o→g8.get? c=some o:=fun c o c1 e=>hs8.extBut _ _ c1 (hs7.extBut _ _ c1 (Heap.get?_push_of_some _ e));have hT8:IsPair g8 g5.objs.size x y:=hs8.extBut _ _ (Nat.ne_of_gt hzlt) (hs7.extBut _ _ (Nat.ne_of_gt hzlt) (Heap.get?_push_size _ rfl));have hzz:g8.objs.size=g5.objs.size+1:=by rw [hs8.1,hs7.1,Heap.size_push]
 rw [hsz]at hz8 hT8 hzz;refine wpAny_pure ⟨_,rfl,wpAny_pure ?_⟩;show Q (some (.ref g5.objs.size)) _;rw [hsz];exact hQ g8 hz8 (up _ _ D.TOz hTO5) (h15.at fun o e=>up _ o D.i1z e) (h25.at fun o e=>up _ o D.i2z e) hT8 hzz fun c o c1 c2 c3 c4 e=>up c o c1 (hk5 c o c1 c2 c3 c4 e)
theorem zto{k1 k2:Bool}{z TI TO i1 i2 l1 l2:Addr}{n1 n2:Nat}{xs ys:Array Value}{a b:Value}{Q:Option Value→Shared→Prop}(hh:A.handled=none) (D:ZipApart z TI TO i1 i2 l1 l2)
  (hz:IsZip s.heap z TI TO .none) (hTI:IsPair s.heap TI (.ref i1) (.ref i2)) (hTO:IsPair s.heap TO a b) (h1:SeqIt k1 s.heap i1 l1 n1) (h2:SeqIt k2 s.heap i2 l2 n2) (hl1:SeqIs k1 s.heap l1 xs) (hl2:SeqIs k2 s.heap l2 ys) (hend:xs[n1]? =none∨ys[n2]? =none)
  (hQ:∀g,(∀c o,c≠z→c≠TO→c≠i1→c≠i2→s.heap.get? c=some o→g.get? c=some o)→Q none { s with heap:=g }):wpAny (model prog w) A (pyNext (.ref z)) Q E s:=by
 have hT:s.TypeIs (.ref z) "zip" :=⟨_,hz,rfl⟩;have fin:∀(g:Heap) (e:Addr),(∀c o,c≠z→c≠TO→c≠i1→c≠i2→s.heap.get? c=some o→g.get? c=some o)→(∃o,g.get? e=some o∧o.cls= .type "StopIteration")→
   wpAny (model prog w) A (do if(←isInstance (.ref e) (.type "StopIteration")) then pure none else throw (.ref e)) Q E { s with heap:=g }:=fun g e hk ⟨o,ho,hc⟩=>
  wpAny_bind (wpAny_isInstance (T:= "StopIteration") (b:=true) ⟨o,ho,hc⟩ isSubtype_stop (wpAny_pure (hQ _ hk)))
 unfold pyNext;refine wpAny_bind (wpAny_attempt (wpAny_callSpecial?_slot (name:=Str.ofString "__next__") hT PySem.F.slot_zip_next (wpAny_call_entry PySem.F.slot_zip_next hT PySem.F.entry_zip_next ?_ (PySem.F.args_zip_next_1 _))));show wpAny _ _ (field (.ref z) 2 >>= _) _ _ _;refine wpAny_bind (wpAny_field hz rfl (x:= .bool false) rfl ?_);show wpAny _ _ (field (.ref z) 3 >>= _) _ _ _;refine wpAny_bind (wpAny_field hz rfl (x:= .ref TI) rfl ?_);refine wpAny_bind (wpAny_seqItems hTI rfl ?_);show wpAny _ _ (Builtin.SmallTypes.ownedTupleIsFree (.ref z) >>= _) _ _ _;refine wpAny_bind ?_;unfold Builtin.SmallTypes.ownedTupleIsFree;refine wpAny_bind (wpAny_field hz rfl (x:= .none) rfl (wpAny_pure ?_));simp only[if_true];refine wpAny_bind (wpAny_rule ?_);refine wpAny_bind (wpAny_field hz rfl (x:= .ref TO) rfl ?_);refine wpAny_bind (wpAny_setField_rec hz (by simp) fun g1 hz1 hs1=>?_);replace hz1:IsZip g1 z TI TO .ellipsis:=hz1;refine wpAny_bind ?_;simp only[List.zipIdx_cons,List.zipIdx_nil,List.forIn_cons,List.forIn_nil];refine wpAny_bind (wpAny_bind (wpAny_onRaise ?_));show wpAny _ _ (Builtin.SmallTypes.nextOf (.ref i1) >>= _) _ _ _;cases hx:xs[n1]? with
 |none=>
  refine wpAny_bind (zim hh (h1.at fun o e=>hs1.extBut _ o D.i1z e) (hl1.at fun o e=>hs1.extBut _ o D.l1z e) hx fun g2 e hs2 he=>?_);obtain⟨oe,hoe,hce⟩:=he;have hz2:IsZip g2 z TI TO .ellipsis:=hs2 _ _ D.i1z.symm hz1;have hez:e≠z:=fun x=>by subst x;rw [hz2]at hoe;cases hoe;simp at hce
  refine wpAny_setField_rec hz2 (by simp) fun g3 _ hs3=>fin g3 e (fun c o c1 _ c3 _ x=>hs3.extBut _ _ c1 (hs2 _ _ c3 (hs1.extBut _ _ c1 x))) ⟨oe,hs3.extBut _ _ hez hoe,hce⟩
 |some x=>
  have hy:ys[n2]? =none:=by rcases hend with h |h;rw [hx]at h;cases h;exact h
  refine wpAny_bind (zfz (h1.at fun o e=>hs1.extBut _ o D.i1z e) (hl1.at fun o e=>hs1.extBut _ o D.l1z e) hx fun g2 h12 hs2=>wpAny_pure ?_);have hTO2:IsPair g2 TO a b:=hs2.extBut _ _ D.TOi1 (hs1.extBut _ _ D.TOz hTO);refine wpAny_bind (wpAny_seqItems hTO2 rfl ?_);refine wpAny_bind (wpAny_updateSeq_pair hTO2 fun g3 hTO3 hs3=>?_);refine wpAny_bind (wpAny_letGo (wpAny_pure ?_));refine wpAny_bind (wpAny_bind (wpAny_onRaise ?_));show wpAny _ _ (Builtin.SmallTypes.nextOf (.ref i2) >>= _) _ _ _;refine wpAny_bind (zim hh (h2.at fun o e=>hs3.extBut _ o D.TOi2.symm (hs2.extBut _ o D.i12.symm (hs1.extBut _ o D.i2z e))) (hl2.at fun o e=>hs3.extBut _ o D.l2TO (hs2.extBut _ o D.l2i1 (hs1.extBut _ o D.l2z e))) hy fun g4 e hs4 he=>?_);obtain⟨oe,hoe,hce⟩:=he;have hz4:IsZip g4 z TI TO .ellipsis:=hs4 _ _ D.i2z.symm (hs3.extBut _ _ D.TOz.symm (hs2.extBut _ _ D.i1z.symm hz1));have hez:e≠z:=fun x=>by subst x;rw [hz4]at hoe;cases hoe;simp at hce
  refine wpAny_setField_rec hz4 (by simp) fun g5 _ hs5=>fin g5 e (fun c o c1 c2 c3 c4 x=>hs5.extBut _ _ c1 (hs4 _ _ c4 (hs3.extBut _ _ c2 (hs2.extBut _ _ c3 (hs1.extBut _ _ c1 x))))) ⟨oe,hs5.extBut _ _ hez hoe,hce⟩
end
noncomputable abbrev zH1 (k1:Bool) (h:Heap) (l1:Addr):Heap:=h.push (zee k1 l1)
noncomputable abbrev zH2 (k1 k2:Bool) (h:Heap) (l1 l2:Addr):Heap:=(zH1 k1 h l1).push (zee k2 l2)
noncomputable abbrev zH3 (k1 k2:Bool) (h:Heap) (l1 l2:Addr):Heap:=(zH2 k1 k2 h l1 l2).push { cls:= .type "tuple",data:= .seq #[.ref h.objs.size, .ref (zH1 k1 h l1).objs.size] }
noncomputable abbrev zH4 (k1 k2:Bool) (h:Heap) (l1 l2:Addr):Heap:=(zH3 k1 k2 h l1 l2).push { cls:= .type "tuple",data:= .seq #[.none, .none] }
noncomputable abbrev zH5 (k1 k2:Bool) (h:Heap) (l1 l2:Addr):Heap:=(zH4 k1 k2 h l1 l2).push { cls:= .type "zip",data:= .fields #[.none, .bool false, .bool false, .ref (zH2 k1 k2 h l1 l2).objs.size, .ref (zH3 k1 k2 h l1 l2).objs.size] }
theorem znu{k1 k2:Bool}(l1 l2:Addr) (xs ys:Array Value) :
  PySem.Meets (Builtin.«zip.__new__» ⟨[.type "zip", .ref l1, .ref l2],[]⟩) (fun _ R s=>SeqIs k1 s.heap l1 xs∧SeqIs k2 s.heap l2 ys∧R (.ok (.ret (.ref (zH4 k1 k2 s.heap l1 l2).objs.size))) { s with heap:=zH5 k1 k2 s.heap l1 l2 }):=
 .of_wp fun prog w A R s h=>by
  obtain⟨hp,g,d,tk,os⟩:=s;obtain⟨hl1,hl2,h⟩:=h;have hsub:=sub_zip;have f1:∀{A:Around}{E:Value→Shared→Prop}{Q:Value→Shared→Prop},Q (.ref hp.objs.size) ⟨hp.push (zee k1 l1),g,d,tk,os⟩→wpAny (model prog w) A (pyIter (.ref l1)) Q E ⟨hp,g,d,tk,os⟩:=fun q=>ziG (s:=⟨hp,g,d,tk,os⟩) hl1 q;have f2:∀{A:Around}{E:Value→Shared→Prop}{Q:Value→Shared→Prop},Q (.ref (hp.push (zee k1 l1)).objs.size) ⟨(hp.push (zee k1 l1)).push (zee k2 l2),g,d,tk,os⟩→wpAny (model prog w) A (pyIter (.ref l2)) Q E ⟨hp.push (zee k1 l1),g,d,tk,os⟩:=fun q=>ziG (s:=⟨hp.push (zee k1 l1),g,d,tk,os⟩) (hl2.push _) q
  wp_walk using f1,f2
  exact⟨_,rfl,h⟩
section
variable {prog:Program}{w:World}{A:Around}{E:Value→Shared→Prop}{s:Shared}
theorem zqv{k1 k2:Bool}{l1 l2:Addr}{xs ys:Array Value}{Q:Value→Shared→Prop}(hl1:SeqIs k1 s.heap l1 xs) (hl2:SeqIs k2 s.heap l2 ys)
  (h:∀g,IsZip g (s.heap.objs.size+4) (s.heap.objs.size+2) (s.heap.objs.size+3) .none→IsPair g (s.heap.objs.size+2) (.ref s.heap.objs.size) (.ref (s.heap.objs.size+1))→
   IsPair g (s.heap.objs.size+3) .none .none→SeqIt k1 g s.heap.objs.size l1 0→SeqIt k2 g (s.heap.objs.size+1) l2 0→g.objs.size=s.heap.objs.size+5→
   (∀c o,s.heap.get? c=some o→g.get? c=some o)→Q (.ref (s.heap.objs.size+4)) { s with heap:=g }):wpAny (model prog w) A (call (.type "zip") [.ref l1, .ref l2]) Q E s:=by
 refine callType_new PySem.F.called_zip (by decide) (PySem.F.typeCall_zip_2 _ _) (PySem.F.newCall_zip_2 _ _) (fun obj=>PySem.F.args_object_init_3 obj _ _) PySem.F.entry_zip_new (znu (k1:=k1) (k2:=k2) l1 l2 xs ys) ⟨hl1,hl2,?_⟩;have z1:(zH1 k1 s.heap l1).objs.size=s.heap.objs.size+1:=Heap.size_push ..;have z2:(zH2 k1 k2 s.heap l1 l2).objs.size=s.heap.objs.size+2:=by rw [Heap.size_push,z1]
 have z3:(zH3 k1 k2 s.heap l1 l2).objs.size=s.heap.objs.size+3:=by rw [Heap.size_push,z2]
 have z4:(zH4 k1 k2 s.heap l1 l2).objs.size=s.heap.objs.size+4:=by rw [Heap.size_push,z3]
 have z5:(zH5 k1 k2 s.heap l1 l2).objs.size=s.heap.objs.size+5:=by rw [Heap.size_push,z4]
 have g5:(zH5 k1 k2 s.heap l1 l2).get? (zH4 k1 k2 s.heap l1 l2).objs.size=some _:=Heap.get?_push_size _ rfl;have g4:(zH5 k1 k2 s.heap l1 l2).get? (zH3 k1 k2 s.heap l1 l2).objs.size=some _:=Heap.get?_push_of_some _ (Heap.get?_push_size _ rfl);have g3:(zH5 k1 k2 s.heap l1 l2).get? (zH2 k1 k2 s.heap l1 l2).objs.size=some _:=Heap.get?_push_of_some _ (Heap.get?_push_of_some _ (Heap.get?_push_size _ rfl));have g2:(zH5 k1 k2 s.heap l1 l2).get? (zH1 k1 s.heap l1).objs.size=some _:=Heap.get?_push_of_some _ (Heap.get?_push_of_some _ (Heap.get?_push_of_some _ (Heap.get?_push_size _ zfR)));have g1:(zH5 k1 k2 s.heap l1 l2).get? s.heap.objs.size=some _:=Heap.get?_push_of_some _ (Heap.get?_push_of_some _ (Heap.get?_push_of_some _ (Heap.get?_push_of_some _ (Heap.get?_push_size _ zfR))));show _∧_;rw [z2,z3,z4]at g5;rw [z1,z2]at g3;rw [z3]at g4;rw [z1]at g2;rw [z4];exact⟨⟨_,g5,rfl⟩,h _ g5 g3 g4 (ziK g1) (ziK g2) z5 fun c o x=>Heap.get?_push_of_some _ (Heap.get?_push_of_some _ (Heap.get?_push_of_some _ (Heap.get?_push_of_some _ (Heap.get?_push_of_some _ x))))⟩
end
noncomputable def SqZ (k:Bool) (K:PySem.W.Frag) (H:Hp) (a:Addr) (xs:List V):Prop:=if k=true then SqL K H a xs else H a=some (.tup xs)
theorem SqZ.sq{k:Bool}{K:PySem.W.Frag}{H:Hp}{a:Addr}{xs:List V}(h:SqZ k K H a xs):SqK k K H a xs:=by
 cases k with
 |true=>exact h
 |false=>exact .of h
theorem SeqIs.ob{k:Bool}{h:Heap}{a:Addr}{its:Array Value}(x:SeqIs k h a its):∃o n,h.get? a=some o∧o.data= .seq its n∧(k=true→o.cls= .type "list"):=by
 cases k with
 |true=>obtain⟨o,ho,hc,n,hd⟩:=(show h.IsList a its from x);exact⟨o,n,ho,hd,fun _=>hc⟩
 |false=>obtain⟨o,ho,hc,n,hd⟩:=(show h.IsTuple a its from x);exact⟨o,n,ho,hd,fun z=>by cases z⟩
theorem SeqIs.ne_fields{k:Bool}{h:Heap}{a b:Addr}{its:Array Value}{o:Obj}{vs:Array Value}(x:SeqIs k h a its) (e:h.get? b=some o) (d:o.data= .fields vs):a≠b:=fun z=>by
 subst z;obtain⟨o',n,ho,hd,_⟩:=x.ob;rw [ho]at e;cases e;rw [hd]at d;cases d
noncomputable def Itz (k1 k2:Bool) (K:PySem.W.Frag) (a b:Addr):It:=
  ⟨fun i H=>∃xs ys x y,SqZ k1 K H a xs∧SqZ k2 K H b ys∧xs[i]? =some x∧ys[i]? =some y,
   fun i H v H'=>∃p x y,H p=none∧v= .ref p∧H'=upd H p (.tup [x,y])∧(∀xs,SqZ k1 K H a xs→xs[i]? =some x)∧ ∀ys,SqZ k2 K H b ys→ys[i]? =some y,
   fun i H=>∃xs ys,SqZ k1 K H a xs∧SqZ k2 K H b ys∧(xs.length≤i∨ys.length≤i)⟩
structure ZipFar (z TI TO i1 i2:Addr):Prop where
  TIz:TI≠z
  TOz:TO≠z
  i1z:i1≠z
  i2z:i2≠z
  TITO:TI≠TO
  TIi1:TI≠i1
  TIi2:TI≠i2
  TOi1:TO≠i1
  TOi2:TO≠i2
  i12:i1≠i2
noncomputable def zvf (k1 k2:Bool) (z TI TO i1 i2 a b:Addr) (i:Nat) (h:Heap):Prop:=IsZip h z TI TO .none∧IsPair h TI (.ref i1) (.ref i2)∧(∃u v,IsPair h TO u v)∧SeqIt k1 h i1 a i∧SeqIt k2 h i2 b i
section
variable {X:Cx}{pins:List (Addr×Obj)}{σ:St}{H:Hp}{s:Shared}
theorem zkd{k1 k2:Bool}{z TI TO i1 i2 a b:Addr}{i:Nat}{xs ys:List V}(I:Inv X pins σ H s) (hTO:H TO=none) (D:ZipFar z TI TO i1 i2) (st:zvf k1 k2 z TI TO i1 i2 a b i s.heap) (ha:SqZ k1 X.K H a xs) (hb:SqZ k2 X.K H b ys):ZipApart z TI TO i1 i2 a b:=by
 obtain⟨hz,hTI,⟨u,v,hTOo⟩,h1,h2⟩:=st;obtain⟨o1,v1,e1,d1⟩:=h1.ob;obtain⟨o2,v2,e2,d2⟩:=h2.ob;obtain⟨its,_,pa,_⟩:=I.seq ha.sq;obtain⟨its2,_,pb,_⟩:=I.seq hb.sq;have nTO:∀{k:Bool}{c:Addr}{zs:List V}{its:Array Value},SqZ k X.K H c zs→SeqIs k s.heap c its→c≠TO:=fun {k c zs its} hc pc e=>by
  subst e;cases k with
  |false=>rw [show H c=some (.tup zs) from hc]at hTO;cases hTO
  |true=>
   obtain⟨o,n,ho,_,hcl⟩:=pc.ob;rw [hTOo]at ho;cases ho;have:=hcl rfl;simp at this
 exact⟨D.TIz,D.TOz,D.i1z,D.i2z,D.TITO,D.TIi1,D.TIi2,D.TOi1,D.TOi2,D.i12,pa.ne_fields hz rfl,nTO ha pa,pa.ne_fields e1 d1,pa.ne_fields e2 d2,pb.ne_fields hz rfl,nTO hb pb,pb.ne_fields e1 d1,pb.ne_fields e2 d2⟩
end
theorem zqW{P:Program}{w:World}{K:PySem.W.Frag}{es:List Expr}{x1:Nat}{pos:Pos}(k1 k2:Bool) (a b z TI TO i1 i2:Addr) (D:ZipFar z TI TO i1 i2):Turn P w K (.Tuple es x1 pos) (Itz k1 k2 K a b) [z,TI,TO,i1,i2] z (zvf k1 k2 z TI TO i1 i2 a b) where
  mem:=by simp
  obj:=fun i h ⟨hz,hTI,⟨u,v,hTO⟩,h1,h2⟩ c hc=>by
    obtain⟨o1,v1,e1,d1⟩:=h1.ob;obtain⟨o2,v2,e2,d2⟩:=h2.ob;simp only[List.mem_cons,List.not_mem_nil,or_false]at hc;rcases hc with rfl |rfl |rfl |rfl |rfl
    · exact⟨_,hz,fun v z=>by cases z⟩
    · exact⟨_,hTI,fun v z=>by cases z⟩
    · exact⟨_,hTO,fun v z=>by cases z⟩
    · exact⟨_,e1,fun v z=>by rw [d1]at z;cases z⟩
    · exact⟨_,e2,fun v z=>by rw [d2]at z;cases z⟩
  keep:=fun i h h' ⟨hz,hTI,⟨u,v,hTO⟩,h1,h2⟩ kk=>⟨kk z (by simp) _ hz,kk TI (by simp) _ hTI,⟨u,v,kk TO (by simp) _ hTO⟩,h1.at fun o q=>kk i1 (by simp) o q,h2.at fun o q=>kk i2 (by simp) o q⟩
  item:=by
    intro X hP hw hK hc i pins s σ H E I hf st hg;subst hP hw hK;obtain⟨xs,ys,x,y,ha,hb,hx,hy⟩:=hg;have Z:=zkd I (hf TO (by simp)).1 D st ha hb;obtain⟨hz,hTI,⟨c0,d0,hTO⟩,h1,h2⟩:=st;obtain⟨its,rv,pa,_⟩:=I.seq ha.sq;obtain⟨its2,rv2,pb,_⟩:=I.seq hb.sq;obtain⟨u,hu,ru⟩:=rv.get hx;obtain⟨u2,hu2,ru2⟩:=rv2.get hy;refine zrz Z hz hTI hTO h1 h2 pa pb (x:=u) (y:=u2) (by simpa using hu) (by simpa using hu2) fun g hz1 hTO1 h11 h21 hp hz' kk=>⟨_,rfl,?_⟩;refine wpAny_letOwnedTupleGo_zip hz1 fun g2 hz2 hs2=>?_;have hs2':∀c o,c≠z→g.get? c=some o→g2.get? c=some o:=fun c o hc e=>(hs2.2 c hc).trans e;have kk2:∀c o,c∉ [z,TI,TO,i1,i2]→s.heap.get? c=some o→g2.get? c=some o:=fun c o hc q=>by
      simp only[List.mem_cons,List.not_mem_nil,or_false,not_or]at hc;exact hs2' c o hc.1 (kk c o hc.1 hc.2.2.1 hc.2.2.2.1 hc.2.2.2.2 q)
    have hn:=I.hok.fresh (Nat.le_refl s.heap.objs.size);have hpz:s.heap.objs.size≠z:=Nat.ne_of_gt (Heap.lt_size hz);have ht2:g2.get? s.heap.objs.size=some { cls:= .type "tuple",data:= .seq #[u,u2] }:=hs2' _ _ hpz hp;refine⟨.ref s.heap.objs.size,upd H s.heap.objs.size (.tup [x,y]),I.turnNew (fp:=[z,TI,TO,i1,i2]) (t':=s.toks) (Nat.le_refl _) kk2 hf ⟨by show 2≤sizeLine;rw [sizeLine_eq];decide,[u,u2], .cons ru (.cons ru2 .nil),⟨_,ht2,rfl,_,rfl⟩⟩,rfl,
      ⟨_,x,y,hn,rfl,rfl,fun zs hy=>by rw [I.seq_inj hy.sq ha.sq];exact hx,fun zs hy'=>by rw [I.seq_inj hy'.sq hb.sq];exact hy⟩,
      ⟨hz2,hs2' _ _ D.TIz (kk _ _ D.TIz D.TITO D.TIi1 D.TIi2 hTI),⟨u,u2,hs2' _ _ D.TOz hTO1⟩,h11.at fun o q=>hs2' _ o D.i1z q,h21.at fun o q=>hs2' _ o D.i2z q⟩,fun c hc=>?_⟩
    have hlt:∃o,s.heap.get? c=some o:=by
      obtain⟨o1,v1,e1,d1⟩:=h1.ob;obtain⟨o2,v2,e2,d2⟩:=h2.ob;simp only[List.mem_cons,List.not_mem_nil,or_false]at hc;rcases hc with rfl |rfl |rfl |rfl |rfl
      · exact⟨_,hz⟩
      · exact⟨_,hTI⟩
      · exact⟨_,hTO⟩
      · exact⟨_,e1⟩
      · exact⟨_,e2⟩
    obtain⟨o,ho⟩:=hlt;rw [zaw (Nat.ne_of_lt (Heap.lt_size ho))];exact(hf c hc).1
  done:=by
    intro X hP hw hK hc i pins s σ H E I hf st hg;subst hP hw hK;obtain⟨xs,ys,ha,hb,hx⟩:=hg;have Z:=zkd I (hf TO (by simp)).1 D st ha hb;obtain⟨hz,hTI,⟨c0,d0,hTO⟩,h1,h2⟩:=st;obtain⟨its,rv,pa,_⟩:=I.seq ha.sq;obtain⟨its2,rv2,pb,_⟩:=I.seq hb.sq;have hl:=rv.length;have hl2:=rv2.length;refine zto (I.ok.hd hc) Z hz hTI hTO h1 h2 pa pb ?_ fun g eb=>⟨rfl,I.turnedL (fp:=[z,TI,TO,i1,i2]) (t':=s.toks) (fun c o hc q=>?_) hf⟩
    · rcases hx with hx |hx
      · exact .inl (by simp;omega)
      · exact .inr (by simp;omega)
    · simp only[List.mem_cons,List.not_mem_nil,or_false,not_or]at hc;exact eb c o hc.1 hc.2.2.1 hc.2.2.2.1 hc.2.2.2.2 q
  self:=fun A i s Q E st h=>wpAny_pyIter_zip st.1 h
section
variable {X:Cx}{es:List Expr}{x1:Nat}{tpos:Pos}
noncomputable def zzF (K:PySem.W.Frag) (ta:TA):TI:=fun σ H R=>ta σ H fun vs H1=>∃k1 k2 a b xs ys,vs=[.ref a, .ref b]∧SqZ k1 K H1 a xs∧SqZ k2 K H1 b ys∧R (Itz k1 k2 K a b) H1
theorem zuC{a b:Expr}{ta:TA}{p pos:Pos}(hg:Gl X "zip") (hm:X.mg "zip" =none) (ha:PA X [a,b] ta) (hs:starEach [a,b] X.env=[(false,eval a X.env),(false,eval b X.env)]:=by rfl) (hs2:starEach [b] X.env=[(false,eval b X.env)]:=by rfl):PI X (.Tuple es x1 tpos) (.Call (.Name "zip" p) [a,b] [] pos) (zzF X.K ta):=by
 intro pins s σ H R I h;refine Call_ (zhQ I hg hm boot_zip (PyProof.Rows.callWith_type1 (thn (ha pos pins s σ H _ I h) fun us s1 ⟨vs,H1,I1,r1,q1⟩=>?_) (by rw [hs,hs2]) (by rw [hs2];rfl)));obtain⟨k1,k2,a,b,xs,ys,e,hq1,hq2,q⟩:=q1;subst e;cases r1 with
 |cons r rr=>
  cases rr with
  |cons r' rr=>
   cases rr;cases(show _=Value.ref a from r);cases(show _=Value.ref b from r');obtain⟨its,rv,pl,_⟩:=I1.seq hq1.sq;obtain⟨its2,rv2,pl2,_⟩:=I1.seq hq2.sq;refine zqv pl pl2 fun g hz hTI hTO h1 h2 hz' kk=>wpAny_pyIter_zip hz ?_;have I2:Inv X pins σ H1 { s1 with heap:=g }:=I1.kept (t':=s1.toks) kk;have ne:∀(n i j:Nat),i≠j→n+i≠n+j:=fun n i j h e=>h (Nat.add_left_cancel e);have D:ZipFar (s1.heap.objs.size+4) (s1.heap.objs.size+2) (s1.heap.objs.size+3) s1.heap.objs.size (s1.heap.objs.size+1):=
    ⟨ne _ 2 4 (by decide),ne _ 3 4 (by decide),ne _ 0 4 (by decide),ne _ 1 4 (by decide),ne _ 2 3 (by decide),ne _ 2 0 (by decide),ne _ 2 1 (by decide),ne _ 3 0 (by decide),ne _ 3 1 (by decide),ne _ 0 1 (by decide)⟩
   refine⟨_,_,_,_,H1,rfl,I2,zqW k1 k2 a b _ _ _ _ _ D,⟨hz,hTI,⟨_,_,hTO⟩,h1,h2⟩,fun c hc=>?_,q⟩;have hb':s1.heap.objs.size≤c:=by
    simp only[List.mem_cons,List.not_mem_nil,or_false]at hc;rcases hc with rfl |rfl |rfl |rfl |rfl
    ·exact Nat.le_add_right _ _
    ·exact Nat.le_add_right _ _
    ·exact Nat.le_add_right _ _
    ·exact Nat.le_refl _
    ·exact Nat.le_add_right _ _
   exact I1.fpOk hb' (I1.hok.fresh hb')
noncomputable def pairs:List W→List W→List W
 |x::xs,y::ys=> .tup [x,y]::pairs xs ys
 |_,_=>[]
theorem zji:∀{xs ys:List W}{i:Nat}{u:W},(pairs xs ys)[i]? =some u→ ∃x y,xs[i]? =some x∧ys[i]? =some y∧u= .tup [x,y]
 | [],_,_,_,h=>by simp [pairs]at h
 |_::_,[],_,_,h=>by simp [pairs]at h
 |x::xs,y::ys,0,u,h=>by
  simp [pairs]at h;exact⟨x,y,rfl,rfl,h.symm⟩
 |x::xs,y::ys,i+1,u,h=>by simpa using zji (xs:=xs) (ys:=ys) (i:=i) (u:=u) (by simpa [pairs]using h)
theorem zja:∀{xs ys:List W},(pairs xs ys).length=min xs.length ys.length
 | [],_=>by simp [pairs]
 |_::_,[]=>by simp [pairs]
 |x::xs,y::ys=>by simp [pairs,zja (xs:=xs) (ys:=ys)]
theorem zux{K:PySem.W.Frag}{k1 k2:Bool}{a b:Addr}{ws us:List W}{G:Sto→Prop}{H0:Hp}{S0:Sto}(h:∀S H,Ext H0 S0 H S→RepS K H S→G S→(∃vs,SqZ k1 K H a vs∧Reps K H ws vs)∧ ∃vs,SqZ k2 K H b vs∧Reps K H us vs):ItW K (Itz k1 k2 K a b) (pairs ws us) G H0 S0:=fun i S H e hS hG=>by
 obtain⟨⟨xs,hq,r⟩,⟨ys,hq2,r2⟩⟩:=h S H e hS hG;refine⟨fun u eu=>?_,fun hl=>⟨xs,ys,hq,hq2,?_⟩⟩
 ·obtain⟨x,y,ex,ey,rfl⟩:=zji eu;obtain⟨v,ev,rv⟩:=r.get ex;obtain⟨v2,ev2,rv2⟩:=r2.get ey;refine⟨⟨xs,ys,v,v2,hq,hq2,ev,ev2⟩,fun x H' ⟨p,y1,y2,hp,e1,e2,e3,e4⟩=>?_⟩;subst e1 e2;have f1:=e3 xs hq;have f2:=e4 ys hq2;rw [ev]at f1;cases f1;rw [ev2]at f2;cases f2;exact⟨.new hp,hS.new hp, .tup zax (.cons (rv.ext (.new (S:=S) hp)) (.cons (rv2.ext (.new (S:=S) hp)) .nil))⟩
 ·rw [zja]at hl;rw [←r.length,←r2.length];omega
theorem zlI{K:PySem.W.Frag}{H:Hp}{S:Sto}{w:W}{v:V}{Q:List W→(Sto→Prop)→Prop}(r:Rep K H w v) (hS:RepS K H S) (h:znK w S Q) :
  ∃k a ws G,v= .ref a∧G S∧(∀S' H',Ext H S H' S'→RepS K H' S'→G S'→ ∃vs,SqZ k K H' a vs∧Reps K H' ws vs)∧Q ws G:=by
 cases r with
 |tup f hs=>exact⟨false,_,_,_,rfl,trivial,fun S' H' e hS' _=>⟨_,e.tup _ _ f,hs.ext e⟩,h⟩
 |ref a=>
  obtain⟨ws,ea,h⟩:=zbf h;exact⟨true,_,ws,_,rfl,ea,fun S' H' e hS' g=>by
   obtain⟨vs,f,hs⟩:=hS' a _ g;exact⟨vs, .of f,hs⟩,h⟩
 |scr f=>exact⟨true,_,_,_,rfl,trivial,fun S' H' e hS' _=>⟨_,(e.fz f).sq,Reps.ofInts _⟩,h⟩
 |_=>exact h.elim
noncomputable def zsu (t u:WE):WI:=fun E σ S Q=>t E σ S fun x S1=>u E σ S1 fun y S2=>znK x S2 fun xs G=>znK y S2 fun ys G'=>Q (pairs xs ys) (fun S'=>G S'∧G' S') S2
theorem zmB{a b:Expr}{ta tb:WE}{p pos:Pos}(hg:Gl X "zip") (hm:X.mg "zip" =none) (ha:JE X a ta) (hb:JE X b tb) (hs:starEach [a,b] X.env=[(false,eval a X.env),(false,eval b X.env)]:=by rfl) (hs2:starEach [b] X.env=[(false,eval b X.env)]:=by rfl)
  (h3:starEach [a,b] X.env=(false,eval a X.env)::starEach [b] X.env:=by rfl) (h4:starEach [b] X.env=(false,eval b X.env)::starEach [] X.env:=by rfl):JI X (.Tuple es x1 tpos) (.Call (.Name "zip" p) [a,b] [] pos) (zsu ta tb):=fun E hE=>
 (zuC hg hm (zdu (ha E hE) (zdu (hb E hE) pa_nil h4) h3) hs hs2).mono fun σ H R ⟨σW,S,QW,hσ,hS,ht,hR⟩=>⟨σW,S,_,hσ,hS,ht,fun x S1 v H1 e1 r1 hS1 h1=>⟨σW,S1,_,hσ.ext e1,hS1,h1,fun y S2 v2 H2 e2 r2 hS2 h2=>by
  obtain⟨k1,a,ws,G,rfl,hG,hq,h⟩:=zlI (r1.ext e2) hS2 h2;obtain⟨k2,b,us,G',rfl,hG',hq',h⟩:=zlI r2 hS2 h;obtain⟨vs,hv,_⟩:=hq S2 H2 .refl hS2 hG;obtain⟨vs',hv',_⟩:=hq' S2 H2 .refl hS2 hG';exact⟨k1,k2,a,b,vs,vs',rfl,hv,hv',hR _ _ S2 _ H2 (e1.trans e2) hS2 ⟨hG,hG'⟩ (zux fun S' H' e hS' g=>⟨hq S' H' e hS' g.1,hq' S' H' e hS' g.2⟩) h⟩⟩⟩
end
section
noncomputable def zvJ (hi:Int) (n:Nat):List W:=(List.range n).map fun(i:Nat)=> .int (hi - (i:Int))
noncomputable def zyW (t:WA):WI:=fun E σ S Q=>t E σ S fun ws S1=>match ws with
 | [.int i, .int j, .int c]=>c= -1∧(-(2 ^ 62)≤i∧i<2 ^ 62∧ -(2 ^ 62)≤j∧j<2 ^ 62)∧Q (zvJ i (i - j).toNat) (fun _=>True) S1
 |_=>False
end
section
variable {X:Cx}{e:Expr}{es:List Expr}{t:WA}{p pos:Pos}
noncomputable def zup:WF:=fun ws S Q=>match ws with
 | [.int i]=>Q (.int i) S
 | [.bl b]=>Q (.int (if b then 1 else 0)) S
 |_=>False
theorem zpI{K:PySem.W.Frag}:zls K (fun xs H Q=>(∃i,xs=[.int i]∧Q (.int i) H)∨ ∃k,xs=[.bl k]∧Q (.int (if k then 1 else 0)) H) zup:=fun H vs ws S Q QW r hS h hQ=>by
 cases r with
 |nil=>exact h.elim
 |cons r1 r2=>
  cases r2 with
  |cons _ _=>cases r1<;>exact h.elim
  |nil=>
   cases r1 with
   |int i=>exact .inl ⟨i,rfl,hQ _ S _ H .refl (.int _) hS h⟩
   |bl b=>exact .inr ⟨b,rfl,hQ _ S _ H .refl (.int _) hS h⟩
   |_=>exact h.elim
theorem znW (hg:Gl X "int") (hm:X.mg "int" =none) (ha:JA X (e::es) t)
  (he:starEach (e::es) X.env=(false,eval e X.env)::starEach es X.env:=by rfl) (hpl:(backTo pos (starEach es X.env)).any (·.1)=false:=by rfl):JE X (.Call (.Name "int" p) (e::es) [] pos) (wB zup t):=
 zww zpW zpI hg hm PyProof.Rows.boot_int ha (by decide) (by decide) he hpl
noncomputable def zxQ:WF:=fun ws S Q=>match ws with
 | [.int i, .int j]=>Q (.int (if j > i then j else i)) S
 |_=>False
noncomputable def zkw:WF:=fun ws S Q=>match ws with
 | [.int i, .int j]=>Q (.int (if j<i then j else i)) S
 |_=>False
theorem znj{K:PySem.W.Frag}:zls K (fun xs H Q=>∃i j,xs=[.int i, .int j]∧Q (.int (if j<i then j else i)) H) zkw:=fun H vs ws S Q QW r hS h hQ=>by
 unfold zkw at h;split at h
 ·cases r with
  |cons r1 r2=>cases r2 with
   |cons r2 r3=>cases r3;cases r1;cases r2;exact⟨_,_,rfl,hQ _ S _ H .refl (.int _) hS h⟩
 ·exact h.elim
theorem znQ{id:String}{r:List V→Hp→VK→Prop}{f:WF}{x:Str}(hc:X.calm=true→CallR X (.builtin id) r) (hw:zls X.K r f) (hg:Gl X x) (hm:X.mg x=none) (hv:bootBuiltins x=some (.builtin id)) (ha:JA X (e::es) t) (hn:x≠ "__name__" :=by decide) (hdb:(x == ("__debug__" :Str))=false:=by decide)
  (he:starEach (e::es) X.env=(false,eval e X.env)::starEach es X.env:=by rfl) (hpl:(backTo pos (starEach es X.env)).any (·.1)=false:=by rfl):JE X (.Call (.Name x p) (e::es) [] pos) (wB f t):=fun E hE=>zrM (hc hE.calm) hw hg hm hv ha hn hdb he hpl E hE
theorem zoa (hg:Gl X "min") (hm:X.mg "min" =none) (ha:JA X (e::es) t)
  (he:starEach (e::es) X.env=(false,eval e X.env)::starEach es X.env:=by rfl) (hpl:(backTo pos (starEach es X.env)).any (·.1)=false:=by rfl):JE X (.Call (.Name "min" p) (e::es) [] pos) (wB zkw t):=znQ zoo znj hg hm PyProof.Rows.boot_min ha (by decide) (by decide) he hpl
theorem ztn{tl:WL}(hg:Gl X "all") (hm:X.mg "all" =none) (ha:JL X e tl)
  (he:starEach [e] X.env=(false,eval e X.env)::starEach [] X.env:=by rfl) (hpl:(backTo pos (starEach [] X.env)).any (·.1)=false:=by rfl):JE X (.Call (.Name "all" p) [e] [] pos) (wBL zpk tl):=fun E hE=>zpJ (zrn hE.calm) zpV hg hm PyProof.Rows.boot_all ha (by decide) (by decide) he hpl E hE
theorem zjF{tl:WL}(hg:Gl X "tuple") (hm:X.mg "tuple" =none) (ha:JL X e tl)
  (he:starEach [e] X.env=(false,eval e X.env)::starEach [] X.env:=by rfl) (hpl:(backTo pos (starEach [] X.env)).any (·.1)=false:=by rfl):JE X (.Call (.Name "tuple" p) [e] [] pos) (wBL zht tl):=zsd zfn zkT hg hm PyProof.Rows.boot_tuple ha (by decide) (by decide) he hpl
theorem zdO (hg:Gl X "tuple") (hm:X.mg "tuple" =none) (ha:JA X (e::es) t)
  (he:starEach (e::es) X.env=(false,eval e X.env)::starEach es X.env:=by rfl) (hpl:(backTo pos (starEach es X.env)).any (·.1)=false:=by rfl):JE X (.Call (.Name "tuple" p) (e::es) [] pos) (wB zdA t):=zww zfn zkV hg hm PyProof.Rows.boot_tuple ha (by decide) (by decide) he hpl
end
theorem zqJ{K:PySem.W.Frag}:∀T∈ ["int", "bool", "str", "tuple", "list"],∀A∈ ["NoneType", "bool", "int", "str", "tuple", "list"],PySem.W.kitOne K (.type A) (.type T)=some (zbW A T):=by
 intro T hT A hA;simp only[List.mem_cons,List.not_mem_nil,or_false]at hT hA;rcases hT with rfl |rfl |rfl |rfl |rfl<;>rcases hA with rfl |rfl |rfl |rfl |rfl |rfl<;>rfl
theorem gl0:∀(ws:List W) (σ:WSt) (S:Sto) (P:WSt→Sto→Prop),zdw ws σ S P→ws.length=0:=fun ws σ S P h=>by
 cases ws with
 |nil=>rfl
 |cons _ _=>exact h.elim
theorem glS{i n:Nat}{u:WGs}(h:∀(ws:List W) (σ:WSt) (S:Sto) (P:WSt→Sto→Prop),u ws σ S P→ws.length=n):∀(ws:List W) (σ:WSt) (S:Sto) (P:WSt→Sto→Prop),zaA (wGN i) u ws σ S P→ws.length=n+1:=fun ws σ S P q=>by
 cases ws with
 |nil=>exact q.elim
 |cons w ws=>exact congrArg (· +1) (h _ _ _ _ q)
noncomputable def zaW:WSp:=fun _ _ _ _=>False
theorem zvX{P:Program}{w:World}{K:PySem.W.Frag}{mg:Str→Option Value}{base:Heap}{f:Addr}{fd:FuncData}{ps:List Str}{k:Nat}:FnOk P w K mg base CX0 k f fd ps (zdZ K zaW):=
 ⟨fun vs H Q E ⟨_,_,_,_,_,h,_⟩=>h.elim,fun A outer s H args us vs Q E _ _ _ _ ⟨_,_,_,_,_,h,_⟩=>h.elim⟩
section
variable {X:Cx}{a b:Expr}{pos:Pos}{ta tb:WE}{la lb:WL}
noncomputable def zrS (t:WL) (u:WE):WE:=fun E σ S Q=>t E σ S fun ws S1=>u E σ S1 fun y S2=>match y with
 | .int i=>match atI ws i with
  |some w=>Q w S2
  |none=>False
 |_=>False
theorem zlE (ha:JL X a la) (hb:JE X b tb) (hs:zkY b:=by intro _ _;rfl):JE X (.Subscript a b pos) (zrS la tb):=fun E hE=>
 (zvz zrT (ha E hE) (hb E hE) hs).mono fun σ H Q ⟨σW,S,QW,hσ,hS,ht,hQ⟩=>⟨σW,S,_,hσ,hS,ht,fun ws S1 vs p H1 e1 fp ep np r1 hS1 h1=>⟨σW,S1,_,hσ.ext e1,hS1,h1,fun y S2 v2 H2 e2 r2 hS2 h2=>by
  cases r2 with
  |int i=>
   dsimp only at h2;split at h2
   ·obtain⟨v,ev,r⟩:=zlh (r1.ext e2) ‹_›;exact .inl ⟨p,vs,i,v,rfl,rfl, .of (e2.fr p _ ep np).1,ev,hQ _ S2 _ H2 (e1.trans e2) r hS2 h2⟩
   ·exact h2.elim
  |_=>exact h2.elim⟩⟩
noncomputable def ztI (t:WE) (u:WL):WL:=fun E σ S Q=>t E σ S fun x S1=>u E σ S1 fun ys S2=>match x with
 | .ref a=>zco S2 a fun xs=>xs.length+ys.length≤sizeLine∧Q (xs++ys) S2
 |_=>False
noncomputable def znl (t u:WL):WL:=fun E σ S Q=>t E σ S fun xs S1=>u E σ S1 fun ys S2=>xs.length+ys.length≤sizeLine∧Q (xs++ys) S2
noncomputable def zql (t:WL) (u:WE):WL:=fun E σ S Q=>t E σ S fun xs S1=>u E σ S1 fun y S2=>match y with
 | .ref a=>zco S2 a fun ys=>xs.length+ys.length≤sizeLine∧Q (xs++ys) S2
 |_=>False
theorem zsx (ha:JE X a ta) (hb:JL X b lb):JL X (.BinOp a .Add b pos) (ztI ta lb):=fun E hE=>
 (zoj zmp (ha E hE) (hb E hE)).mono fun σ H Q ⟨σW,S,QW,hσ,hS,ht,hQ⟩=>⟨σW,S,_,hσ,hS,ht,fun w1 S1 v1 H1 e1 r1 hS1 h1=>⟨σW,S1,_,hσ.ext e1,hS1,h1,fun ys S2 us q H2 e2 fq eq nq r2 hS2 h2=>by
  cases r1 with
  |ref p=>
   obtain⟨xs,ea,h⟩:=zbf h2;obtain⟨vs,f1,q1⟩:=hS2 p _ ea;exact⟨p,q,vs,us,rfl,rfl,f1,eq,by rw [←q1.length,←r2.length];exact h.1,fun p hp=>hQ _ S2 _ p _ ((e1.trans e2).trans (.new hp)) ((e1.trans e2).free hp) zax (hS2.free hp) ((q1.append r2).ext (.new (S:=S2) hp)) (hS2.new hp) h.2⟩
  |_=>exact h2.elim⟩⟩
theorem zlf (ha:JL X a la) (hb:JL X b lb):JL X (.BinOp a .Add b pos) (znl la lb):=fun E hE=>
 (zoj zmp (ha E hE) (hb E hE)).mono fun σ H Q ⟨σW,S,QW,hσ,hS,ht,hQ⟩=>⟨σW,S,_,hσ,hS,ht,fun xs S1 vs p H1 e1 fp ep np r1 hS1 h1=>⟨σW,S1,_,hσ.ext e1,hS1,h1,fun ys S2 us q H2 e2 fq eq nq r2 hS2 h2=>
  ⟨p,q,vs,us,rfl,rfl,(e2.fr p _ ep np).1,eq,by rw [←r1.length,←r2.length];exact h2.1,fun z hz=>hQ _ S2 _ z _ ((e1.trans e2).trans (.new hz)) ((e1.trans e2).free hz) zax (hS2.free hz) (((r1.ext e2).append r2).ext (.new (S:=S2) hz)) (hS2.new hz) h2.2⟩⟩⟩
theorem ztG (ha:JL X a la) (hb:JE X b tb):JL X (.BinOp a .Add b pos) (zql la tb):=fun E hE=>
 (zoj zmp (ha E hE) (hb E hE)).mono fun σ H Q ⟨σW,S,QW,hσ,hS,ht,hQ⟩=>⟨σW,S,_,hσ,hS,ht,fun xs S1 vs p H1 e1 fp ep np r1 hS1 h1=>⟨σW,S1,_,hσ.ext e1,hS1,h1,fun y S2 v2 H2 e2 r2 hS2 h2=>by
  cases r2 with
  |ref q=>
   obtain⟨ys,ea,h⟩:=zbf h2;obtain⟨us,f2,q2⟩:=hS2 q _ ea;exact⟨p,q,vs,us,rfl,rfl,(e2.fr p _ ep np).1,f2,by rw [←r1.length,←q2.length];exact h.1,fun z hz=>hQ _ S2 _ z _ ((e1.trans e2).trans (.new hz)) ((e1.trans e2).free hz) zax (hS2.free hz) (((r1.ext e2).append q2).ext (.new (S:=S2) hz)) (hS2.new hz) h.2⟩
  |_=>exact h2.elim⟩⟩
noncomputable def zrv (t:WL) (u:WE):WL:=fun E σ S Q=>t E σ S fun xs S1=>u E σ S1 fun y S2=>match y with
 | .int k=>(-(2 ^ 63)≤k∧k<2 ^ 63∧xs.length*k.toNat≤sizeLine)∧Q (List.replicate k.toNat xs).flatten S2
 |_=>False
theorem Reps.rep{K:PySem.W.Frag}{H:Hp}{ws:List W}{vs:List V}(h:Reps K H ws vs):∀k:Nat,Reps K H (List.replicate k ws).flatten (List.replicate k vs).flatten
 |0=> .nil
 |k+1=>by
  rw [List.replicate_succ,List.replicate_succ,List.flatten_cons,List.flatten_cons];exact h.append (Reps.rep h k)
theorem zuD (ha:JL X a la) (hb:JE X b tb):JL X (.BinOp a .Mult b pos) (zrv la tb):=fun E hE=>
 (zoj zvx (ha E hE) (hb E hE)).mono fun σ H Q ⟨σW,S,QW,hσ,hS,ht,hQ⟩=>⟨σW,S,_,hσ,hS,ht,fun xs S1 vs p H1 e1 fp ep np r1 hS1 h1=>⟨σW,S1,_,hσ.ext e1,hS1,h1,fun y S2 v2 H2 e2 r2 hS2 h2=>by
  cases r2 with
  |int k=>
   obtain⟨⟨k1,k2,k3⟩,h⟩:=h2;exact⟨p,k,vs,rfl,rfl,(e2.fr p _ ep np).1,k1,k2,by rw [←r1.length];exact k3,fun z hz=>hQ _ S2 _ z _ ((e1.trans e2).trans (.new hz)) ((e1.trans e2).free hz) zax (hS2.free hz) (((r1.ext e2).rep k.toNat).ext (.new (S:=S2) hz)) (hS2.new hz) h⟩
  |_=>exact h2.elim⟩⟩
end
theorem zqM{K:PySem.W.Frag}{H:Hp}{a:Addr}{ns:List Int}{c:WSp}{E:XK}(hO:zwU H) (hS:SqL K H a (ns.map V.int)) (h:c [.scr ns] (fun _=>none) (fun w _=>w= .bl true) (fun _ _=>False)):zdZ K c [.ref a] H (fun v _=>v= .bl true) E:=by
 have fz:FzL K H a (ns.map V.int):=by
  rcases hS with(hS |⟨o,hS⟩) |hS
  ·rcases hO a with z |⟨o,xs,z⟩
   ·rw [hS]at z;cases z
   ·rw [hS]at z;cases z
  ·exact .inl ⟨o,hS⟩
  ·exact .inr hS
 refine⟨[.scr ns],fun _=>none,_, .one (.scr fz),(fun a o e=>by cases e),h,fun w S v H' e r hS' q=>?_⟩
 subst q;cases r;rfl
section
noncomputable def zyF:W2
 | .tup xs, .int k,S,Q=>(xs≠ []∧ -(2 ^ 63)≤k∧k<2 ^ 63∧xs.length*k.toNat≤sizeLine)∧Q (.tup (List.replicate k.toNat xs).flatten) S
 |_,_,_,_=>False
end
noncomputable def zgi (kvs:List (List Int×W)) (k:List Int):Option W:=(kvs.find? fun kv=>decide (kv.1=k)).map (·.2)
noncomputable def ztg (kvs:List (List Int×W)) (k:List Int) (v:W):List (List Int×W):=
 if(kvs.any fun kv=>decide (kv.1=k))=true then kvs.map (fun kv=>if kv.1=k then(kv.1,v) else kv) else kvs++[(k,v)]
noncomputable def zcd:List W→Option (List Int)
 | []=>some []
 | .int i::ws=>(zcd ws).map (i:: ·)
 |_=>none
noncomputable def zpg:W→Option (List Int)
 | .tup ws=>zcd ws
 |_=>none
noncomputable def zqq (S:Sto) (a:Addr) (P:List (List Int×W)→Prop):Prop:=match S a with
 |some (.dct kvs)=>P kvs
 |_=>False
theorem ztJ{S:Sto}{a:Addr}{P:List (List Int×W)→Prop}(h:zqq S a P):∃kvs,S a=some (.dct kvs)∧P kvs:=by
 unfold zqq at h;split at h
 ·exact⟨_, ‹_›,h⟩
 ·exact h.elim
theorem zkN{S:Sto}{a:Addr}{kvs:List (List Int×W)}{P:List (List Int×W)→Prop}(e:S a=some (.dct kvs)):zqq S a P=P kvs:=by unfold zqq;rw [e]
section
variable {K:PySem.W.Frag}{H:Hp}
noncomputable abbrev RepD (K:PySem.W.Frag) (H:Hp):List (List Int×W)→List (List Key×V)→Prop:=Paired fun q p=>p.1=q.1.map Sum.inl∧Rep K H q.2 p.2
theorem ziz:∀{a b:List Int},a.map (Sum.inl:Int→Key)=b.map Sum.inl→a=b
 | [],[],_=>rfl
 | [],_::_,h=>by simp at h
 |_::_,[],h=>by simp at h
 |x::xs,y::ys,h=>by
  simp only[List.map_cons,List.cons.injEq,Sum.inl.injEq]at h;rw [h.1,ziz h.2]
theorem RepD.val{kvs:List (List Int×W)}{ps:List (List Key×V)}(r:RepD K H kvs ps) (k:List Int):(∀w,zgi kvs k=some w→ ∃v,zmK ps (k.map Sum.inl)=some v∧Rep K H w v)∧(zgi kvs k=none→zmK ps (k.map Sum.inl)=none):=by
 induction r with
 |nil=>exact⟨fun w h=>by simp [zgi]at h,fun _=>rfl⟩
 | @cons q p kvs ps h t ih=>
  by_cases hk:q.1=k
  ·have e:p.1=k.map Sum.inl:=by rw [h.1,hk]
   rw [zgu e];have ew:zgi (q::kvs) k=some q.2:=by simp [zgi,List.find?_cons,hk]
   rw [ew];exact⟨fun w z=>by cases z;exact⟨_,rfl,h.2⟩,fun z=>by cases z⟩
  ·have e:¬p.1=k.map Sum.inl:=by rw [h.1];exact fun z=>hk (ziz z)
   rw [zgq e];have ew:zgi (q::kvs) k=zgi kvs k:=by simp [zgi,List.find?_cons,hk]
   rw [ew];exact ih
theorem RepD.any{kvs:List (List Int×W)}{ps:List (List Key×V)}(r:RepD K H kvs ps) (k:List Int):(ps.any fun kv=>decide (kv.1=k.map Sum.inl))=kvs.any fun kv=>decide (kv.1=k):=by
 induction r with
 |nil=>rfl
 | @cons q p kvs ps h t ih=>
  rw [List.any_cons,List.any_cons,ih];congr 1;apply decide_eq_decide.mpr;rw [h.1];exact⟨ziz,fun z=>by rw [z]⟩
theorem RepD.put{kvs:List (List Int×W)}{ps:List (List Key×V)}(r:RepD K H kvs ps) (k:List Int) {w:W}{v:V}(rw':Rep K H w v):RepD K H (ztg kvs k w) (zqi ps (k.map Sum.inl) v):=by
 unfold ztg zqi;rw [r.any k];split
 ·rename_i hany;clear hany
  induction r with
  |nil=>exact .nil
  | @cons q p kvs ps h t ih=>
   rw [List.map_cons,List.map_cons];refine .cons ?_ ih;by_cases hk:q.1=k
   ·rw [if_pos hk,if_pos (by rw [h.1,hk])];exact⟨h.1,rw'⟩
   ·rw [if_neg hk,if_neg (by rw [h.1];exact fun z=>hk (ziz z))];exact h
 ·rename_i hany;clear hany
  induction r with
  |nil=>exact .cons ⟨rfl,rw'⟩ .nil
  |cons h t ih=>exact .cons h ih
theorem RepD.length{kvs:List (List Int×W)}{ps:List (List Key×V)}(r:RepD K H kvs ps):kvs.length=ps.length:=Paired.length r
theorem zhR:∀{ws:List W}{vs:List V}{k:List Int},Reps K H ws vs→zcd ws=some k→vs=(k.map (Sum.inl:Int→Key)).map kV
 | [],_,_, .nil,e=>by cases e;rfl
 |w::ws,_,k, .cons r rs,e=>by
  cases r with
  |int i=>
   cases q:zcd ws with
   |none=>simp [zcd,q]at e
   |some ks=>
    simp only[zcd,q,Option.map_some,Option.some.injEq]at e;subst e;rw [zhR rs q];rfl
  |_=>simp [zcd]at e
theorem zlN{w:W}{v:V}{k:List Int}(r:Rep K H w v) (e:zpg w=some k):∃b,v= .ref b∧H b=some (.tup ((k.map (Sum.inl:Int→Key)).map kV)):=by
 cases r with
 |tup f hs=>exact⟨_,rfl,by rw [f,zhR hs e]⟩
 |_=>simp [zpg]at e
theorem zsI{S:Sto}{a:Addr}{kvs:List (List Int×W)}{y:V}{wy:W}{k:List Int}(hS:RepS K H S) (e:S a=some (.dct kvs)) (ry:Rep K H wy y) (ek:zpg wy=some k):∃o,DGet H a y o∧(zgi kvs k=none→o=none)∧ ∀w,zgi kvs k=some w→ ∃v,o=some v∧Rep K H w v:=by
 obtain⟨ps,e1,r⟩:=hS a _ e;obtain⟨b,rfl,eb⟩:=zlN ry ek;have rv:=RepD.val r k;exact⟨zmK ps (k.map Sum.inl), .t e1 eb,rv.2,rv.1⟩
end
noncomputable def zvE (neg:Bool):W2:=fun y x S Q=>match x with
 | .ref a=>match zpg y with
  |some k=>zqq S a fun kvs=>Q (.bl (if neg then !(zgi kvs k).isSome else(zgi kvs k).isSome)) S
  |none=>False
 |_=>False
noncomputable def zyx:W2:=fun x y S Q=>match x with
 | .ref a=>match zpg y with
  |some k=>zqq S a fun kvs=>match zgi kvs k with
   |some w=>Q w S
   |none=>False
  |none=>False
 |_=>False
section
variable {X:Cx}{a b o:Expr}{pos:Pos}{ta tb:WE}
noncomputable def zyP (neg:Bool):R2:=fun y x H Q=>∃a o,x= .ref a∧DGet H a y o∧Q (.bl (if neg then !o.isSome else o.isSome)) H
theorem zvI (hu:X.A.units+1<cLine):OpR X (compareOp .In) (zyP false):=by
 intro pins s σ H x y v u Q I rx ry h;obtain⟨a,o,rfl,g,q⟩:=h;cases ry;exact zzT hu I g rx fun s3 I3=>⟨.bl o.isSome,H,I3,rfl,q⟩
theorem ztd{K:PySem.W.Frag}{neg:Bool}:OpW K (zyP neg) (zvE neg):=fun H x y wx wy S Q QW rx ry hS h hQ=>by
 unfold zvE at h;split at h
 ·split at h
  ·rename_i k ek;obtain⟨kvs,ea,h⟩:=ztJ h;cases ry;obtain⟨o,g,g0,g1⟩:=zsI hS ea rx ek;have eo:o.isSome=(zgi kvs k).isSome:=by
    cases q:zgi kvs k with
    |none=>rw [g0 q];rfl
    |some w=>obtain⟨v,ev,_⟩:=g1 w q;rw [ev];rfl
   exact⟨_,o,rfl,g,by rw [eo];exact hQ _ S _ H .refl (.bl _) hS h⟩
  ·exact h.elim
 ·exact h.elim
theorem zwQ{k:Nat}(hr:Room k X.A) (ha:JE X a ta) (hb:JE X b tb) (hm:behindInMarks .In b=false:=by with_unfolding_all rfl):JT X (.Compare a [.In] [b] pos) (wTb (wOp (zvE false) ta tb)):=
 zfx (zvI (by have:=hr.units;omega)) ztd ha hb hm
end
section
variable {X:Cx}{o e:Expr}{to:WE}{tl:WL}{apos cpos p pos:Pos}
noncomputable def zsn:V→List V→Hp→VK→Prop:=fun x vs H Q=>∃z:Str,x= .str z∧vs=[]∧z.length≤5592405∧Q (.str (Txt.upper z)) H
theorem zrh:MtR X "str.upper" zsn:=by
 intro pins s σ H x vs v us Q I rx rv h;obtain⟨z,rfl,rfl,hz,q⟩:=h;obtain⟨t,rfl⟩:=rx;cases rv;exact SCL.upper hz fun _=>⟨.str (Txt.upper z),H,I.tok _,⟨_,rfl⟩,q⟩
noncomputable def zmh:WMf:=fun w ws S Q=>match w,ws with
 | .str z,[]=>z.length≤5592405∧Q (.str (Txt.upper z)) S
 |_,_=>False
theorem zpT{K:PySem.W.Frag}:MtW K zsn zmh:=fun H x w vs ws S Q QW r rs hS h hQ=>by
 cases r with
 |str z=>
  cases rs with
  |nil=>exact⟨z,rfl,rfl,h.1,hQ _ S _ H .refl (.str _) hS h.2⟩
  |cons _ _=>exact h.elim
 |_=>exact h.elim
theorem zrf (ho:JE X o to) (hbase:attributeBase o "upper" X.env (eval o X.env)=eval o X.env:=by rfl) (hline:(apos.endLine == cpos.line)=true:=by rfl):JE X (.Call (.Attribute o "upper" apos) [] [] cpos) (wM rvS zmh to waNil):=
 zxH PySem.F.plainAttrs_str PySem.F.slot_str_upper PySem.F.type_str_upper zrW zrh zpT ho hbase hline
theorem zhw:∀(ns:List Int) (n:Nat),n≤ns.length→preSum (fun i=>ns.getD i 0) n=(ns.take n).sum
 |ns,0,_=>by simp [preSum]
 |ns,n+1,h=>by
  rw [preSum,zhw ns n (by omega),List.take_succ,List.sum_append];congr 1;rw [List.getD_eq_getElem?_getD,List.getElem?_eq_getElem (by omega)];simp
theorem zok (hc:X.calm=true):CallR X (.builtin "sum") (fun xs H Q=>∃(p:Addr) (ns:List Int),xs=[.ref p]∧SqL X.K H p (ns.map V.int)∧Q (.int ns.sum) H):=by
 intro pins s σ H xs us Q I r h;obtain⟨p,ns,rfl,hq,q⟩:=h;obtain⟨u,rfl,rx⟩:=ziD r;cases rx;obtain⟨its,r',pl,hz⟩:=I.list hq;have hlen:ns.length=its.length:=by have:=r'.length;rw [List.length_map]at this;exact this
 have hp:p<s.heap.objs.size:=by obtain⟨o,n,e,_⟩:=pl;exact Heap.lt_size e
 have hd:X.A.in1.handled=none:=I.ok.hd hc;have get:∀(i:Nat) (v:Value),its.toArray[i]? =some v→ ∃t,v= .int (ns.getD i 0) t:=fun i v e=>by
  have e':its[i]? =some v:=by simpa using e
  have hi:i<ns.length:=by rw [hlen];exact(List.getElem?_eq_some_iff.mp e').1
  obtain⟨u,hu,ru⟩:=r'.get (i:=i) (x:= .int (ns.getD i 0)) (by rw [List.getElem?_map,List.getElem?_eq_getElem hi,List.getD_eq_getElem?_getD,List.getElem?_eq_getElem hi];rfl);rw [e']at hu;cases hu;exact ru
 refine call_sum_walkG (wpAny_pyIter_list pl.isList ?_);refine⟨s.heap.objs.size,_,_,_,_,_,fun i=>ns.getD i 0,rfl,Walks.list hd _ p (Nat.ne_of_lt hp) its.toArray,⟨⟨_,Heap.get?_push_size _ rfl,rfl,rfl⟩,pl.isList.push _⟩,?_,fun i v hP=>get i v hP,fun h' tk t' hk=>?_⟩
 ·intro b hb;have hsz:∀o:Obj,(s.heap.push o).objs.size=s.heap.objs.size+1:=fun o=>Heap.size_push ..;simp only[List.mem_cons,List.not_mem_nil,or_false]at hb;show b<(s.heap.push _).objs.size;rw [hsz];rcases hb with rfl |rfl
  ·exact Nat.lt_succ_self _
  ·exact Nat.lt_succ_of_lt hp
 ·have e:preSum (fun i=>ns.getD i 0) its.toArray.size=ns.sum:=by
   rw [List.size_toArray,←hlen,zhw ns _ (Nat.le_refl _),List.take_length]
  have I1:Inv X pins σ H { s with heap:=h',toks:=tk }:=I.kept fun b o e=>hk b o (fun z=>by
   have z':b=s.heap.objs.size:=by simpa using z
   rw [z']at e;exact absurd (Heap.lt_size e) (Nat.lt_irrefl _)) (Heap.get?_push_of_some _ e)
  exact⟨.int _,H,I1,⟨t',by rw [e]⟩,q⟩
noncomputable def zoN:WF:=fun ws S Q=>match zcd ws with
 |some ns=>Q (.int ns.sum) S
 |none=>False
theorem zho{K:PySem.W.Frag}{H:Hp}:∀{ws:List W}{vs:List V}{ns:List Int},Reps K H ws vs→zcd ws=some ns→vs=ns.map V.int
 | [],_,_, .nil,e=>by cases e;rfl
 |w::ws,_,ns, .cons r rs,e=>by
  cases r with
  |int i=>
   cases q:zcd ws with
   |none=>simp [zcd,q]at e
   |some ks=>
    simp only[zcd,q,Option.map_some,Option.some.injEq]at e;subst e;rw [zho rs q];rfl
  |_=>simp [zcd]at e
theorem zps{K:PySem.W.Frag}:zni K (fun xs H Q=>∃(p:Addr) (ns:List Int),xs=[.ref p]∧SqL K H p (ns.map V.int)∧Q (.int ns.sum) H) zoN:=fun H a vs ws S Q QW ea na r hS h hQ=>by
 unfold zoN at h;split at h
 ·rename_i ns e;have:=zho r e;subst this;exact⟨a,ns,rfl, .of ea,hQ _ S _ H .refl (.int _) hS h⟩
 ·exact h.elim
theorem zuk (hg:Gl X "sum") (hm:X.mg "sum" =none) (ha:JL X e tl)
  (he:starEach [e] X.env=(false,eval e X.env)::starEach [] X.env:=by rfl) (hpl:(backTo pos (starEach [] X.env)).any (·.1)=false:=by rfl):JE X (.Call (.Name "sum" p) [e] [] pos) (wBL zoN tl):=fun E hE=>
 zpJ (zok hE.calm) zps hg hm PyProof.Rows.boot_sum ha (by decide) (by decide) he hpl E hE
end
theorem zoW:typeLookup (.type "list") "keys" =pure none:=by rw [typeLookup_type,builtinLookup_eq_fast];kernel_rfl
theorem zkB:entryFor table "dict.update.loop" =some Builtin.«dict.update.loop» :=entryFor_of_tree (by kernel_rfl)
theorem zfy:plainId "dict.update.loop" =true:=by decide +kernel
section
variable {prog:Program}{w:World}{A:Around}{E:Value→Shared→Prop}{s:Shared}
theorem ziC{a:Addr}{o:Obj}{xs:Array Value}{k:Nat}{name:Str}{Q:Option Value→Shared→Prop}
  (hx : s.heap.get? a = some o) (hc : o.cls = .type "list") (hdat : o.data = .seq xs k) (hd : o.dict = none) (hmiss : typeLookup (.type "list") name = pure none) (hname : (["__module__", "__name__", "__qualname__", "__doc__", "__annotations__"] : List Str).contains name = false) (hA : A.handled = none)
  (h:∀h' tk,(∀b o,s.heap.get? b=some o→h'.get? b=some o)→Q none { s with heap:=h',toks:=tk }) (hsz:name.length+100≤sizeLine:=by size_fits) :
  wpAny (model prog w) A (getAttr? (.ref a) name) Q E s:=by
 obtain⟨c,dct,dat,sl⟩:=o;simp only at hc hdat hd;subst hc hdat hd;obtain⟨hp,g,d,tk,os⟩:=s;have hT:∀tk',(⟨hp,g,d,tk',os⟩:Shared).TypeIs (.ref a) "list" :=fun _=>⟨_,hx,rfl⟩;have f1:=sub_AttributeError;have f3:=F.slot_list_getattribute.lookup;have f4:=F.slot_list_getattribute.bind (.ref a);have f5:=am_list_getattr_none;unfold getAttr? getAttrBy? getAttrBy
 repeat (any_goals (first |assumption |exact hT _ | ((with_reducible show wpAny _ _ (call (Value.builtin "list.__getattribute__") _ _) _ _ _);refine call_meets F.slot_list_getattribute (hT _) am_entry_list_getattribute (F.args_list_getattribute_2 _ _) (meets_getattribute_miss_list a xs k sl name _ hmiss hname hsz) ⟨hx,hA,fun h' tk' e hx'=>?_⟩) |wp_step))
 obtain⟨t',u',he⟩:=hx'.there;have hTe:∀tk',(⟨h',g,d,tk',os⟩:Shared).TypeIs (.ref e) "AttributeError" :=fun _=>⟨_,he,rfl⟩;show wpAny _ _ (getattributeRaised _ _ _ _ _ _ _) _ _ _;unfold getattributeRaised
 repeat (any_goals (first |assumption |exact hTe _ |wp_step))
 exact h h' tk' hx'.keeps
end
section
variable {prog:Program}{w:World}{A:Around}{R:Result→Shared→Prop}{I l d:Addr}{items:Array Value}
noncomputable def ztH (xs:List (List Key×Addr×Value)) (ps:List (List Key×Addr)):List (List Key×Addr×Value):=ps.foldl (fun xs p=>storedH xs p.1 p.2 (.bool true)) xs
theorem znH (hu:(tupleKind (zbs prog w)).room A.in1) (hh:A.in1.handled=none) (hne:l≠I) (hdI:d≠I) (hdl:d≠l) (h0:Heap) (hd0:h0.get? d=none) (hI0:h0.get? I=none) (ps:List (List Key×Addr)) (hps:ps.length=items.size)
  (hp:∀(i:Nat) (p:List Key×Addr) (v:Value),ps[i]? =some p→items[i]? =some v→ ∃(t:Addr) (o:Obj) (n:Nat),v= .ref t∧h0.get? t=some o∧o.cls= .type "tuple" ∧o.data= .seq #[.ref p.2, .bool true] n)
  (hk:∀p∈ps,(tupleKind (zbs prog w)).is h0 p.1 p.2) :
  ∀(k i:Nat) (s:Shared) (xs:List (List Key×Addr×Value)),items.size - i=k→i≤items.size→s.heap.IsListIter I l i→s.heap.IsList l items→(∀b o,h0.get? b=some o→s.heap.get? b=some o)→s.heap.DictOfH (tupleKind (zbs prog w)) d xs→xs.length+(items.size - i)≤sizeLine→
  (∀h' tk,(∀b o,h0.get? b=some o→h'.get? b=some o)→h'.DictOfH (tupleKind (zbs prog w)) d (ztH xs (ps.drop i))→R (.ok (.ret .none)) { s with heap:=h',toks:=tk })→
  codeAny (model prog w) A (.builtin "dict.update.loop" ⟨[.ref d, .ref I,rawInt i, .none],[]⟩) R s:=by
 have W:=Walks.list (prog:=prog) (w:=w) (A:=A.in1) hh I l hne items;intro k
 induction k with
 |zero=>
  intro i s xs hki hi hit hl hold hd hsz hR;have hin:i=items.size:=by omega
  subst hin;refine codeAny_builtin zkB ?_;rw [Around.under_plainId zfy _];show wpAny _ A.in1 (pyNext (.ref I) >>= _) _ _ s;refine wpAny_bind (W.done s _ _ ⟨hit,hl⟩ fun h' tk hk'=>?_);have hd':h'.DictOfH (tupleKind (zbs prog w)) d xs:=by
   obtain⟨q,es,ep,q1,q2,q3,q4,q5,q6⟩:=hd;refine⟨q,es,ep,hk' d q (fun z=>hdI (List.mem_singleton.mp z)) q1,q2,q3,q4,fun x hx=>?_,q6⟩;obtain⟨ob,its,m,k1,k2,k3,k4⟩:=q5 x hx;refine⟨ob,its,m,hk' _ _ (fun z=>?_) k1,k2,k3,k4⟩;obtain⟨oi,hi1,hi2,_⟩:=hit;rw [List.mem_singleton.mp z,hi1]at k1;cases k1;rw [k2]at hi2;exact absurd hi2 (by decide)
  show wpAny _ A.in1 (Builtin.Dict.addKeywords d [] >>= _) _ _ _;refine wpAny_bind (wpAny_pure (wpAny_pure (hR h' tk (fun b o e=>hk' b o (fun z=>by rw [List.mem_singleton.mp z,hI0]at e;cases e) (hold b o e)) ?_)))
  rw [List.drop_of_length_le (by omega)];exact hd'
 |succ k ih=>
  intro i s xs hki hi hit hl hold hd hsz hR;have hlt:i<items.size:=by omega
  refine codeAny_builtin zkB ?_;rw [Around.under_plainId zfy _];show wpAny _ A.in1 (pyNext (.ref I) >>= _) _ _ s;refine wpAny_bind (W.item i s _ _ hlt ⟨hit,hl⟩ fun v h' tk hP hst' hk'=>?_);obtain⟨p,hpi⟩:∃p,ps[i]? =some p:=⟨ps[i],List.getElem?_eq_getElem (by omega)⟩;obtain⟨t,o,n,rfl,ho,hc,hdat⟩:=hp i p v hpi hP;have ho':=hk' t o (fun z=>by rw [List.mem_singleton.mp z]at ho;rw [hI0]at ho;cases ho) (hold t o ho)
  have hkey:(tupleKind (zbs prog w)).is h' p.1 p.2:=by
   obtain⟨ob,its,m,k1,k2,k3,k4⟩:=hk p (List.mem_of_getElem? hpi);exact⟨ob,its,m,hk' _ _ (fun z=>by rw [List.mem_singleton.mp z]at k1;rw [hI0]at k1;cases k1) (hold _ _ k1),k2,k3,k4⟩
  have hd':h'.DictOfH (tupleKind (zbs prog w)) d xs:=by
   obtain⟨q,es,ep,q1,q2,q3,q4,q5,q6⟩:=hd;refine⟨q,es,ep,hk' d q (fun z=>hdI (List.mem_singleton.mp z)) q1,q2,q3,q4,fun x hx=>?_,q6⟩;obtain⟨ob,its,m,k1,k2,k3,k4⟩:=q5 x hx;refine⟨ob,its,m,hk' _ _ (fun z=>?_) k1,k2,k3,k4⟩;obtain⟨oi,hi1,hi2,_⟩:=hit;rw [List.mem_singleton.mp z,hi1]at k1;cases k1;rw [k2]at hi2;exact absurd hi2 (by decide)
  show wpAny _ A.in1 (holding [.ref t] _ >>= _) _ _ _;refine wpAny_bind (wpAny_holding ?_);refine wpAny_bind (wpAny_tryCatch ?_);unfold Builtin.Dict.pairItems;refine wpAny_bind (wpAny_typeOf (T:= "tuple") ⟨o,ho',hc⟩ ?_);rw [if_pos (by decide)];refine wpAny_bind (wpAny_seqItems ho' hdat ?_);refine wpAny_pure ?_;show wpAny _ A.in1 (holding [.ref p.2, .bool true] (dictSet d (.ref p.2) (.bool true))) _ _ _;refine wpAny_holding (wpAny_dictSet_heap (hsz:=by omega) hu hkey hd' fun h2 hd2 hs2=>?_)
  refine wpAny_pure ⟨plainId_quiet zfy _,?_⟩;have ei:((i:Int)+1)=((i+1:Nat):Int):=by omega
  rw [ei];have hln:(storedH xs p.1 p.2 (Value.bool true)).length≤xs.length+1:=by
   unfold storedH;split<;>simp
  have hst2:=W.frame (i+1) h' h2 hst' fun b hb o e=>by
   have hbd:b≠d:=by
    rcases List.mem_cons.mp hb with z |z
    ·rw [z];exact Ne.symm hdI
    ·rw [List.mem_singleton.mp z];exact Ne.symm hdl
   exact(hs2.2 b hbd).trans e
  refine ih (i+1) _ _ (by omega) (by omega) hst2.1 hst2.2 (fun b o e=>?_) hd2 (by omega) fun h3 tk3 old3 hd3=>?_
  ·have hbd:b≠d:=fun z=>by rw [z,hd0]at e;cases e
   have hbI:b∉ [I]:=fun z=>by rw [List.mem_singleton.mp z,hI0]at e;cases e
   exact(hs2.2 b hbd).trans (hk' b o hbI (hold b o e))
  ·refine hR h3 tk3 old3 ?_;have ed:ps.drop i=p::ps.drop (i+1):=by
    have hi':i<ps.length:=by omega
    rw [List.drop_eq_getElem_cons hi'];rw [List.getElem?_eq_getElem hi']at hpi;cases hpi;rfl
   rw [ed];exact hd3
end
section
variable {X:Cx}{e:Expr}{p pos:Pos}{tl:WL}
noncomputable def zmW (H:Hp) (q:List Key) (v:V):Prop:=∃t b,v= .ref t∧H t=some (.tup [.ref b, .bl true])∧H b=some (.tup (q.map kV))
noncomputable def znq (qs:List (List Key)):List (List Key×V):=qs.foldl (fun kvs q=>zqi kvs q (.bl true)) []
theorem zjL:∀(qs:List (List Key)) (kvs:List (List Key×V)),(qs.foldl (fun kvs q=>zqi kvs q (V.bl true)) kvs).length≤kvs.length+qs.length
 | [],kvs=>by simp
 |q::qs,kvs=>by
  have h1:=zla kvs q (V.bl true);have h2:=zjL qs (zqi kvs q (.bl true));rw [List.foldl_cons,List.length_cons];omega
theorem KT.fold{H:Hp}:∀(ps:List (List Key×Addr)) {kvs:List (List Key×V)}{xs:List (List Key×Addr×Value)},KT H kvs xs→(∀p∈ps,H p.2=some (.tup (p.1.map kV)))→KT H ((ps.map fun p=>p.1).foldl (fun kvs q=>zqi kvs q (.bl true)) kvs) (ztH xs ps)
 | [],_,_,r,_=>r
 |p::ps,kvs,xs,r,h=>by
  rw [List.map_cons,List.foldl_cons];exact KT.fold ps (r.put p.1 (h p List.mem_cons_self) rfl) fun p' hp'=>h p' (List.mem_cons_of_mem _ hp')
theorem zmU{P:Program}{w:World}{H:Hp}{h:Heap}(ok:HOk P w H h):∀{qs:List (List Key)}{vs:List V}{its:List Value},Paired (zmW H) qs vs→Vals vs its→ ∃ps:List (List Key×Addr),(ps.map fun p=>p.1)=qs∧
  (∀(i:Nat) (p:List Key×Addr) (v:Value),ps[i]? =some p→its[i]? =some v→ ∃(t:Addr) (o:Obj) (n:Nat),v= .ref t∧h.get? t=some o∧o.cls= .type "tuple" ∧o.data= .seq #[.ref p.2, .bool true] n)∧ ∀p∈ps,H p.2=some (.tup (p.1.map kV))
 |_,_,_, .nil, .nil=>⟨[],rfl,(fun i p v h=>by simp at h),fun _ h=>nomatch h⟩
 |_,_,_, .cons (a:=q) hq hs, .cons hv hvs=>by
  obtain⟨ps,e,h1,h2⟩:=zmU ok hs hvs;obtain⟨t,b,rfl,ht,hb⟩:=hq;refine⟨(q,b)::ps,by rw [List.map_cons,e],fun i p v hp hv'=>?_,fun p hp=>?_⟩
  ·cases i with
   |zero=>
    simp only[List.getElem?_cons_zero,Option.some.injEq]at hp hv';subst hp hv';obtain⟨_,its,r,o,g1,g2,n,g3⟩:=(show ObjOk P w H h t (.tup [.ref b, .bl true]) from ok t _ ht);cases r with
    |cons r1 r2=>
     cases r2 with
     |cons r3 r4=>
      cases r4;cases r1;cases r3;exact⟨t,o,n,hv,g1,g2,by simpa using g3⟩
   |succ i=>
    simp only[List.getElem?_cons_succ]at hp hv';exact h1 i p v hp hv'
  ·rcases List.mem_cons.mp hp with rfl |hp
   ·exact hb
   ·exact h2 p hp
theorem znx (hc:X.calm=true) (hu:X.A.units+2<cLine):CallR X (.type "dict") (fun xs H Q=>∃(l:Addr) (vs:List V) (qs:List (List Key)),xs=[.ref l]∧SqL X.K H l vs∧Paired (zmW H) qs vs∧qs.length≤sizeLine∧ ∀d,H d=none→Q (.ref d) (upd H d (.dT (znq qs)))):=by
 intro pins s σ H xs us Q I r h;obtain⟨l,vs,qs,rfl,hq,hp,hlen,q⟩:=h;obtain⟨u,rfl,rx⟩:=ziD r;cases rx;obtain⟨its,r',pl,hz⟩:=I.list hq;have hd:X.A.in1.handled=none:=I.ok.hd hc;have hl:l<s.heap.objs.size:=by obtain⟨o,n,e,_⟩:=pl;exact Heap.lt_size e
 refine callType_codes (Q₁:=fun obj s₁=>obj= .ref s.heap.objs.size∧s₁={ s with heap:=s.heap.push { cls:= .type "dict",data:= .dict #[] } }) F.kt_called_dict (F.kt_typeCall_dict_1 _) F.entry_dict_init (kt_code_dict_new _ ⟨rfl,rfl⟩) ?_;rintro obj s₁ ⟨rfl,rfl⟩;have hT:({ s with heap:=s.heap.push { cls:= .type "dict",data:= .dict #[] } }:Shared).TypeIs (.ref s.heap.objs.size) "dict" :=⟨_,Heap.get?_push_size _ rfl,rfl⟩;refine⟨hT,F.args_dict_init_2 _ _,?_⟩;unfold Builtin.«dict.__init__»;refine wpAny_bind ?_;unfold Builtin.Dict.selfAndRest;refine wpAny_bind (wpAny_notOrdered_dict hT ?_);show wpAny _ _ (pure (s.heap.objs.size,[Value.ref l])) _ _ _;refine wpAny_pure ?_;show wpAny _ _ (Builtin.Dict.updateFrom "dict.__init__" s.heap.objs.size (.ref l) [] .none) _ _ _;unfold Builtin.Dict.updateFrom;obtain⟨ol,nl,hol,hcl,hdl,hnl⟩:=pl;have hol1:=Heap.get?_push_of_some { cls:= .type "dict",data:= .dict #[] } hol;obtain⟨ps,eqs,hps,hks⟩:=zmU I.hok hp r';have hplen:ps.length=its.toArray.size:=by
  have h1:=congrArg List.length eqs;have h2:=Paired.length hp;have h3:=r'.length;rw [List.length_map]at h1;rw [List.size_toArray];omega
 refine wpAny_bind (wpAny_typeOf (T:= "list") ⟨ol,hol1,hcl⟩ ?_);dsimp only;rw [if_pos (by decide)];refine wpAny_bind (ziC hol1 hcl hnl hdl zoW (by decide +kernel) hd fun h1 tk1 kp1=>?_);rw [if_pos (show(none:Option Value).isNone=true from rfl)];refine wpAny_bind (wpAny_rule ?_);have hl1:h1.IsList l its.toArray:=⟨ol,kp1 _ _ hol1,hcl,nl,hnl⟩;refine wpAny_bind (wpAny_pyIter_list hl1 ?_);refine wpAny_pure ⟨plainId_quiet zfy _,?_⟩;have hd1:h1.get? s.heap.objs.size=some { cls:= .type "dict",data:= .dict #[] }:=kp1 _ _ (Heap.get?_push_size _ rfl);have hdlt:=Heap.lt_size hd1;have hI0:s.heap.get? h1.objs.size=none:=by
  cases z:s.heap.get? h1.objs.size with
  |none=>rfl
  |some ob=>exact absurd (Heap.lt_size (kp1 _ _ (Heap.get?_push_of_some _ z))) (Nat.lt_irrefl _)
 have hd0:s.heap.get? s.heap.objs.size=none:=by
  cases z:s.heap.get? s.heap.objs.size with
  |none=>rfl
  |some ob=>exact absurd (Heap.lt_size z) (Nat.lt_irrefl _)
 refine znH (A:=X.A.in1) (I:=h1.objs.size) (l:=l) (d:=s.heap.objs.size) (items:=its.toArray) ?_ hd (Nat.ne_of_lt (Nat.lt_trans hl hdlt)) (Nat.ne_of_lt hdlt) (Nat.ne_of_gt hl) s.heap hd0 hI0 ps hplen (fun i p v h1 h2=>hps i p v h1 (by simpa using h2)) (fun p hp=>zoq I.hok (hks p hp)) _ 0 _ [] rfl (Nat.zero_le _) ?_ ?_ ?_ ?_ ?_ fun h' tk' old' hd'=>?_
 ·exact tupleKind_room_in1 (A:=X.A.in1) (show X.A.in1.units+1<cLine from by have:X.A.in1.units=X.A.units+1:=rfl;omega)
 ·exact⟨_,Heap.get?_push_size _ rfl,rfl,rfl⟩
 ·exact hl1.push _
 ·exact fun b o e=>Heap.get?_push_of_some _ (kp1 _ _ (Heap.get?_push_of_some _ e))
 ·refine⟨_, #[],0,Heap.get?_push_of_some _ hd1,?_,rfl,rfl,(fun x hx=>nomatch hx),List.nodup_nil⟩
  first |exact⟨rfl,rfl⟩ |exact rfl |exact .inl rfl | (unfold Obj.ExactDict;simp)
 ·rw [List.length_nil,←hplen];have h1:=congrArg List.length eqs;rw [List.length_map]at h1;omega
 ·rw [List.drop_zero]at hd';obtain⟨o',es,ep,g1,g2,g3,g4,g5,g6⟩:=hd';have hl0:=zjL qs [];have kt:KT H (znq qs) (ztH [] ps):=by
   have:=KT.fold ps (show KT H [] [] from .nil) hks;rw [eqs]at this;exact this
  refine⟨rfl, .ref s.heap.objs.size,_,I.laid (t':=tk') (o:= .dT (znq qs)) old' (Nat.le_refl _) ⟨?_,?_,_,kt.keeps fun b ys eb=>?_,o',es,ep,g1,g2,g3,g4,g6⟩,rfl,q _ (I.hok.fresh (Nat.le_refl _))⟩
  ·simp only[List.length_nil,Nat.zero_add]at hl0;exact Nat.le_trans hl0 hlen
  ·have:=I.big;exact beq_eq_false_iff_ne.mpr (Nat.ne_of_gt this)
  ·rw [zaw (zas eb (I.hok.fresh (Nat.le_refl _)))];exact eb
noncomputable def zeA:List W→Option (List (List Int))
 | []=>some []
 | .tup [k, .bl true]::ws=>match zpg k,zeA ws with
  |some q,some qs=>some (q::qs)
  |_,_=>none
 |_=>none
noncomputable def zhC (qs:List (List Int)):List (List Int×W):=qs.foldl (fun kvs k=>ztg kvs k (.bl true)) []
noncomputable def zjc:WF:=fun ws S Q=>match zeA ws with
 |some qs=>qs.length≤1000000∧ ∀a,S a=none→Q (.ref a) (put S a (.dct (zhC qs)))
 |none=>False
theorem zkz{K:PySem.W.Frag}{H:Hp}:∀{ws:List W}{vs:List V}{qs:List (List Int)},Reps K H ws vs→zeA ws=some qs→Paired (zmW H) (qs.map fun q=>q.map Sum.inl) vs
 | [],_,_, .nil,e=>by
  simp only[zeA,Option.some.injEq]at e;subst e;exact .nil
 |w::ws,_,qs, .cons r rs,e=>by
  cases w with
  |tup us=>
   rcases us with _ |⟨k,_ |⟨b,_ |⟨x,us⟩⟩⟩
   ·simp [zeA]at e
   ·simp [zeA]at e
   ·cases b with
    |bl b=>
     cases b with
     |true=>
      simp only[zeA]at e;cases e1:zpg k with
      |none=>rw [e1]at e;simp at e
      |some q=>
       cases e2:zeA ws with
       |none=>rw [e1,e2]at e;simp at e
       |some qs'=>
        rw [e1,e2]at e;simp only[Option.some.injEq]at e;subst e;cases r with
        | @tup t vs' _ ft hs=>
         cases hs with
         |cons r1 r2=>
          cases r2 with
          |cons r3 r4=>
           cases r4;cases r3;obtain⟨b,rfl,eb⟩:=zlN r1 e1;exact .cons ⟨t,b,rfl,ft,eb⟩ (zkz rs e2)
     |false=>simp [zeA]at e
    |_=>simp [zeA]at e
   ·cases b<;>simp [zeA]at e
  |_=>simp [zeA]at e
theorem zjo{K:PySem.W.Frag}{H:Hp}:∀(qs:List (List Int)) {kvs:List (List Int×W)}{ps:List (List Key×V)},RepD K H kvs ps→RepD K H (qs.foldl (fun kvs k=>ztg kvs k (.bl true)) kvs) ((qs.map fun q=>q.map Sum.inl).foldl (fun kvs q=>zqi kvs q (.bl true)) ps)
 | [],_,_,r=>r
 |q::qs,_,_,r=>by
  rw [List.map_cons,List.foldl_cons,List.foldl_cons];exact zjo qs (r.put q (.bl true))
theorem zmY{K:PySem.W.Frag}:zni K (fun xs H Q=>∃(l:Addr) (vs:List V) (qs:List (List Key)),xs=[.ref l]∧SqL K H l vs∧Paired (zmW H) qs vs∧qs.length≤sizeLine∧ ∀d,H d=none→Q (.ref d) (upd H d (.dT (znq qs)))) zjc:=fun H a vs ws S Q QW ea na r hS h hQ=>by
 unfold zjc at h;split at h
 ·rename_i qs e;have hp:=zkz r e;refine⟨a,vs,_,rfl, .of ea,hp,?_,fun d hd=>?_⟩
  ·rw [List.length_map,sizeLine_eq];omega
  ·have rd:RepD K H (zhC qs) (znq (qs.map fun q=>q.map Sum.inl)):=zjo qs (show RepD K H [] [] from .nil);have x:Ext H S (upd H d (.dT (znq (qs.map fun q=>q.map Sum.inl)))) (put S d (.dct (zhC qs))):= .newS hd;refine hQ (.ref d) (put S d (.dct (zhC qs))) (.ref d) _ x (.ref d) (fun b o q=>?_) (h.2 d (hS.free hd));by_cases hb:b=d
   ·subst hb;rw [zah]at q;cases q;exact⟨_,zax,Paired.mapP rd fun _ _ z=>⟨z.1,z.2.ext x⟩⟩
   ·rw [zaD hb]at q;exact hS.new hd b o q
 ·exact h.elim
theorem zra{k:Nat}(hr:Room k X.A) (hg:Gl X "dict") (hm:X.mg "dict" =none) (ha:JL X e tl)
  (he:starEach [e] X.env=(false,eval e X.env)::starEach [] X.env:=by rfl) (hpl:(backTo pos (starEach [] X.env)).any (·.1)=false:=by rfl):JE X (.Call (.Name "dict" p) [e] [] pos) (wBL zjc tl):=fun E hE=>
 zsd (znx hE.calm (by have:=hr.units;omega)) zmY hg hm PyProof.Rows.boot_dict ha (by decide) (by decide) he hpl E hE
theorem _root_.pz{a b:Prop}(h:a→b) (g:b→a):a=b:=propext ⟨h,g⟩
theorem zqZ{ws:List W}{S:Sto}{Q:WK}:(zjc ws S Q)=(match zeA ws with
 |some qs=>qs.length≤1000000∧ ∀a,S a=none→Q (.ref a) (put S a (.dct (zhC qs)))
 |none=>False):=pz id id
theorem zjr:∀ps:List (List Int),zeA (ps.map fun p=>W.tup [.tup (p.map W.int), .bl true])=some ps
 | []=>rfl
 |p::ps=>by
  have e:zpg (.tup (p.map W.int))=some p:=by
   show zcd (p.map W.int)=some p
   induction p with
   |nil=>rfl
   |cons i p ih=>rw [List.map_cons,zcd,ih];rfl
  rw [List.map_cons,zeA,e,zjr ps]
theorem zqE (kvs:List (List Int×W)) (q k:List Int) (v:W):(zgi (ztg kvs q v) k).isSome=(decide (k=q) || (zgi kvs k).isSome):=by
 have e:∀kvs:List (List Int×W),(zgi kvs k).isSome=kvs.any fun kv=>decide (kv.1=k):=fun kvs=>by
  unfold zgi;rw [Option.isSome_map]
  induction kvs with
  |nil=>rfl
  |cons a kvs ih=>
   rw [List.find?_cons,List.any_cons];cases decide (a.1=k) with
   |true=>rfl
   |false=>simpa using ih
 rw [e,e];unfold ztg;split
 ·rename_i h;have:(kvs.map fun kv=>if kv.1=q then(kv.1,v) else kv).any (fun kv=>decide (kv.1=k))=kvs.any fun kv=>decide (kv.1=k):=by
   rw [List.any_map];congr 1;funext kv;simp only[Function.comp];split<;>rfl
  rw [this];by_cases hk:k=q
  ·subst hk;rw [h];simp
  ·rw [decide_eq_false hk,Bool.false_or]
 ·rw [List.any_append];simp only[List.any_cons,List.any_nil,Bool.or_false];rw [Bool.or_comm];congr 1;apply decide_eq_decide.mpr;exact eq_comm
theorem zmd:∀(qs:List (List Int)) (kvs:List (List Int×W)) (k:List Int),(zgi (qs.foldl (fun kvs k=>ztg kvs k (.bl true)) kvs) k).isSome=(decide (k∈qs) || (zgi kvs k).isSome)
 | [],kvs,k=>by simp
 |q::qs,kvs,k=>by
  rw [List.foldl_cons,zmd qs,zqE,←Bool.or_assoc];congr 1;rw [Bool.eq_iff_iff];simp only[Bool.or_eq_true,decide_eq_true_eq,List.mem_cons];exact or_comm
theorem zjU (qs:List (List Int)) (k:List Int):(zgi (zhC qs) k).isSome=decide (k∈qs):=by
 unfold zhC;rw [zmd];simp [zgi]
end
inductive Tr where
  |bl (n:Int)
  |nd (s:Str) (ts:List Tr)
noncomputable def Tr.kids:Tr→List Tr
 | .bl _=>[]
 | .nd _ ts=>ts
mutual
noncomputable def Tr.weight:Tr→Nat
 | .bl _=>1
 | .nd _ ts=>1+wts ts
noncomputable def wts:List Tr→Nat
 | []=>0
 |t::ts=>t.weight+wts ts
end
mutual
noncomputable def Tr.depth:Tr→Nat
 | .bl _=>1
 | .nd _ ts=>1+dts ts
noncomputable def dts:List Tr→Nat
 | []=>0
 |t::ts=>max t.depth (dts ts)
end
theorem zol:wts []=0:=by unfold wts;rfl
theorem zex (t:Tr) (ts:List Tr):wts (t::ts)=t.weight+wts ts:=by
 conv=>lhs;unfold wts
theorem zeu:∀(ts us:List Tr),wts (ts++us)=wts ts+wts us
 | [],us=>by
  show wts us=wts []+wts us;rw [zol];omega
 |t::ts,us=>by
  show wts (t::(ts++us))=_;rw [zex,zex,zeu ts us];omega
theorem zlz:dts []=0:=by unfold dts;rfl
theorem zfo (t:Tr) (ts:List Tr):dts (t::ts)=max t.depth (dts ts):=by
 conv=>lhs;unfold dts
theorem zdS (t:Tr):t.weight=1+wts t.kids:=by
 cases t with
 |bl n=>
  show Tr.weight (.bl n)=1+wts [];unfold Tr.weight wts;rfl
 |nd s ts=>
  show Tr.weight (.nd s ts)=1+wts ts
  conv=>lhs;unfold Tr.weight
theorem zer (t:Tr):t.depth=1+dts t.kids:=by
 cases t with
 |bl n=>
  show Tr.depth (.bl n)=1+dts [];unfold Tr.depth dts;rfl
 |nd s ts=>
  show Tr.depth (.nd s ts)=1+dts ts
  conv=>lhs;unfold Tr.depth
theorem zfW (t:Tr):1≤t.weight:=by rw [zdS];omega
theorem zcl (t:Tr):1≤t.depth:=by rw [zer];omega
theorem zhH:∀(ts us:List Tr),dts (ts++us)=max (dts ts) (dts us)
 | [],us=>by
  show dts us=max (dts []) (dts us);rw [zlz];omega
 |t::ts,us=>by
  show dts (t::(ts++us))=_;rw [zfo,zfo,zhH ts us];exact(Nat.max_assoc _ _ _).symm
theorem zcT:∀(ts:List Tr),ts.length≤wts ts
 | []=>Nat.zero_le _
 |t::ts=>by
  have:=zcT ts;have:=zfW t;rw [zex,List.length_cons];omega
theorem zdK{t:Tr}:∀{ts:List Tr},t∈ts→t.weight≤wts ts
 | [],h=>by cases h
 |u::ts,h=>by
  rw [zex];rcases List.mem_cons.mp h with e |h
  ·rw [e];omega
  ·have:=zdK h;omega
theorem zlV:∀{ts:List Tr},ts≠ []→dts ts=1+dts (ts.flatMap Tr.kids)
 | [],h=>absurd rfl h
 | [t],_=>by
  rw [List.flatMap_cons,List.flatMap_nil,List.append_nil,zfo,zlz,zer];omega
 |t::u::r,_=>by
  have ih:=zlV (ts:=u::r) (by simp);have e:(t::u::r).flatMap Tr.kids=t.kids++(u::r).flatMap Tr.kids:=List.flatMap_cons ..;rw [zfo,ih,e,zhH,zer];omega
theorem zmC:∀(ts:List Tr),wts (ts.flatMap Tr.kids)+ts.length=wts ts
 | []=>by rw [List.flatMap_nil,zol];rfl
 |t::ts=>by
  have ih:=zmC ts;rw [List.flatMap_cons,zeu,zex,List.length_cons,zdS];omega
mutual
theorem zen:∀t:Tr,t.depth≤t.weight
 | .bl n=>by unfold Tr.depth Tr.weight;exact Nat.le_refl _
 | .nd s ts=>by
  have:=zhU ts;rw [zer,zdS];show 1+dts ts≤1+wts ts;omega
theorem zhU:∀ts:List Tr,dts ts≤wts ts
 | []=>by rw [zlz];exact Nat.zero_le _
 |t::ts=>by
  have:=zen t;have:=zhU ts;rw [zfo,zex];omega
end
mutual
noncomputable def enc:Tr→W
 | .bl n=> .int n
 | .nd s ts=> .tup (.str s::encs ts)
noncomputable def encs:List Tr→List W
 | []=>[]
 |t::ts=>enc t::encs ts
end
theorem zaL:∀ts:List Tr,encs ts=ts.map enc
 | []=>by simp [encs]
 |t::ts=>by simp [encs,zaL ts]
theorem zbj (ts:List Tr):(encs ts).length=ts.length:=by rw [zaL,List.length_map]
noncomputable def zaZ (p:List Int):W:= .tup (p.map W.int)
theorem zkU:zbW "int" "int" =true:=by decide +kernel
theorem zjh:zbW "int" "bool" =false:=by decide +kernel
theorem zkH:zbW "int" "str" =false:=by decide +kernel
theorem zis:zbW "int" "tuple" =false:=by decide +kernel
theorem zjd:zbW "int" "list" =false:=by decide +kernel
theorem zju:zbW "bool" "int" =true:=by decide +kernel
theorem ziW:zbW "bool" "bool" =true:=by decide +kernel
theorem zkE:zbW "bool" "str" =false:=by decide +kernel
theorem zhE:zbW "bool" "tuple" =false:=by decide +kernel
theorem ziT:zbW "bool" "list" =false:=by decide +kernel
theorem zlj:zbW "str" "int" =false:=by decide +kernel
theorem zjR:zbW "str" "bool" =false:=by decide +kernel
theorem zlp:zbW "str" "str" =true:=by decide +kernel
theorem zio:zbW "str" "tuple" =false:=by decide +kernel
theorem zjZ:zbW "str" "list" =false:=by decide +kernel
theorem zil:zbW "tuple" "int" =false:=by decide +kernel
theorem zhD:zbW "tuple" "bool" =false:=by decide +kernel
theorem ziJ:zbW "tuple" "str" =false:=by decide +kernel
theorem sub_tuple_tuple:zbW "tuple" "tuple" =true:=by decide +kernel
theorem sub_tuple_list:zbW "tuple" "list" =false:=by decide +kernel
theorem zku:zbW "list" "int" =false:=by decide +kernel
theorem ziH:zbW "list" "bool" =false:=by decide +kernel
theorem zjP:zbW "list" "str" =false:=by decide +kernel
theorem sub_list_tuple:zbW "list" "tuple" =false:=by decide +kernel
theorem sub_list_list:zbW "list" "list" =true:=by decide +kernel
section
variable {α:Type}{x:α}{xs:List α}
theorem zlM (n:Nat):zdG xs (some (n:Int)) none=xs.drop n:=by
 unfold zdG;rw [HT.sIx_nat,HT.sIx_none];by_cases h:n≤xs.length
 ·rw [Nat.min_eq_left h,List.take_of_length_le (by rw [List.length_drop];omega)]
 ·rw [Nat.min_eq_right (by omega),List.drop_of_length_le (Nat.le_refl _),List.drop_of_length_le (by omega),List.take_nil]
theorem zmR (n:Nat):zdG xs none (some (n:Int))=xs.take n:=by
 unfold zdG;rw [HT.sIx_nat,HT.sIx_none,List.drop_zero,Nat.sub_zero];by_cases h:n≤xs.length
 ·rw [Nat.min_eq_left h]
 ·rw [Nat.min_eq_right (by omega),List.take_length,List.take_of_length_le (by omega)]
theorem zsD (n m:Nat):zdG xs (some (n:Int)) (some (m:Int))=(xs.drop n).take (m - n):=by
 unfold zdG;rw [HT.sIx_nat,HT.sIx_nat];by_cases h:n≤xs.length
 ·rw [Nat.min_eq_left h];by_cases h2:m≤xs.length
  ·rw [Nat.min_eq_left h2]
  ·rw [Nat.min_eq_right (by omega),List.take_of_length_le (by rw [List.length_drop];omega),List.take_of_length_le (by rw [List.length_drop];omega)]
 ·rw [Nat.min_eq_right (show xs.length≤n by omega),List.drop_of_length_le (Nat.le_refl _),List.drop_of_length_le (show xs.length≤n by omega),List.take_nil,List.take_nil]
theorem zsz:zdG (x::xs) (some 1) none=xs:=by rw [show(1:Int)=((1:Nat):Int) from rfl,zlM];rfl
theorem zoi{n d k:Nat}(h:0<k):HT.sIx n d (some (-(k:Int)))=n - k:=by
 show(if(-(k:Int))<0 then(-(k:Int)+(n:Int)).toNat else min (-(k:Int)).toNat n)=n - k;rw [if_pos (by omega)];omega
theorem zlq (k:Nat) (h:0<k):zdG xs none (some (-(k:Int)))=xs.take (xs.length - k):=by
 unfold zdG;rw [zoi h,HT.sIx_none,List.drop_zero,Nat.sub_zero]
theorem zoR (k:Nat) (h:0<k):zdG xs (some (-(k:Int))) none=xs.drop (xs.length - k):=by
 unfold zdG;rw [zoi h,HT.sIx_none,List.take_of_length_le (by rw [List.length_drop];omega)]
theorem zbz{n:Nat}:atI xs (n:Int)=xs[n]? :=by
 unfold atI ixN;rw [if_pos (by omega)];by_cases h:n<xs.length
 ·rw [if_pos (by omega)];simp
 ·rw [if_neg (by omega)];simp;omega
theorem zgD:atI (x::xs) 0=some x:=zbz (n:=0)
end
section
variable {S S':Sto}{a b:Addr}{o:Ob}{Q:List W→Prop}{ws:List W}
theorem zmQ{u:Ob}(h:b≠a):put (put S a o) b u=put (put S b u) a o:=by
 funext c;unfold put;by_cases h1:c=b
 ·rw [if_pos h1,if_pos h1,if_neg (by rw [h1];exact h)]
 ·rw [if_neg h1,if_neg h1]
theorem zma{u o':Ob}(h:b≠a):put (put (put S a o) b u) a o'=put (put S a o') b u:=by rw [zmQ h,zbg,zmQ h]
theorem zgv:zco (put S a (.lst ws)) a Q=Q ws:=zag zah
theorem zdU (h:put S a o b=none):S b=none∧b≠a:=by
 have hb:b≠a:=by rintro rfl;rw [zah]at h;cases h
 rw [zaD hb]at h;exact⟨h,hb⟩
theorem zue{u:Ob}(h:S a=some u) (n:S b=none):a≠b:=by rintro rfl;rw [h]at n;cases n
theorem Sub.put (h:Sub S S') (n:S a=none):Sub S (L2.put S' a o):=fun b u e=>by rw [zaD (zue e n)];exact h b u e
theorem Sub.put2{u:Ob}(h:Sub S S'):Sub (L2.put S a u) (L2.put S' a u):=fun b w e=>by
 by_cases hb:b=a
 ·subst hb;rw [zah]at e⊢;exact e
 ·rw [zaD hb]at e⊢;exact h b w e
end
theorem zwA (S:Sto) (a b:Int):eqF S 60 (.int a) (.int b)=some (a == b):=by have h:eqF S 60 (.int a) (.int b)=some (a == b):=rfl;exact h
theorem zwp (S:Sto) (a b:Str):eqF S 60 (.str a) (.str b)=some (a == b):=by have h:eqF S 60 (.str a) (.str b)=some (a == b):=rfl;exact h
theorem zxe (S:Sto) (a b:Bool):eqF S 60 (.bl a) (.bl b)=some (a == b):=by have h:eqF S 60 (.bl a) (.bl b)=some (a == b):=rfl;exact h
theorem zan{n:Nat}(h:n≤16777216):n≤sizeLine:=by rw [sizeLine_eq];exact h
theorem zbu{n:Nat}(h:n<16777216):n<sizeLine:=by rw [sizeLine_eq];exact h
section
variable {S:Sto}{Q:WK}{QB:Bool→Sto→Prop}{QS:List W→(Sto→Prop)→Prop}{QT:String→Prop}
theorem zfE{a:Addr}{o:Ob}(h:S a=some o):put S a o=S:=by
 funext b;unfold put;split
 ·rename_i e;rw [e,h]
 ·rfl
theorem zqU{b:Bool}:zrL (.bl b) S QB=QB b S:=pz id id
theorem zqd{i:Int}:zrL (.int i) S QB=QB (i != 0) S:=pz id id
theorem zpd{ws:List W}:zrL (.tup ws) S QB=QB (!ws.isEmpty) S:=pz id id
theorem zpX{a:Addr}:zrL (.ref a) S QB=zco S a fun ws=>QB (!ws.isEmpty) S:=pz id id
theorem znU:zrL .non S QB=QB false S:=pz id id
theorem zjW{ws:List W}:znK (.tup ws) S QS=QS ws fun _=>True:=pz id id
theorem zhd{a:Addr}:znK (.ref a) S QS=zco S a fun ws=>QS ws fun S'=>S' a=some (.lst ws):=pz id id
theorem zsR{b:Bool}:tyW (.bl b) S QT=QT "bool" :=pz id id
theorem zrF{i:Int}:tyW (.int i) S QT=QT "int" :=pz id id
theorem zqs{i:Str}:tyW (.str i) S QT=QT "str" :=pz id id
theorem zqN{i:List W}:tyW (.tup i) S QT=QT "tuple" :=pz id id
theorem zqH:tyW .non S QT=QT "NoneType" :=pz id id
theorem zqz{a:Addr}:tyW (.ref a) S QT=zco S a fun _=>QT "list" :=pz id id
theorem zpR{i j:Int}:zda (.int i) (.int j) S Q=Q (.int (i+j)) S:=pz id id
theorem zpi{i j:Str}:zda (.str i) (.str j) S Q=(i.length+j.length≤sizeLine∧Q (.str (i++j)) S):=pz id id
theorem zgL{i j:List W}:zda (.tup i) (.tup j) S Q=(i.length+j.length≤sizeLine∧Q (.tup (i++j)) S):=pz id id
theorem zpq{a b:Addr}:zda (.ref a) (.ref b) S Q=zco S a fun xs=>zco S b fun ys=>xs.length+ys.length≤sizeLine∧ ∀p,S p=none→Q (.ref p) (put S p (.lst (xs++ys))):=pz id id
theorem zyq{C:Int→Int→Prop}{g:Int→Int→W}{i j:Int}:zcZ C g (.int i) (.int j) S Q=(C i j∧Q (g i j) S):=pz id id
theorem zuO{g:Int→Int→W}{i j:Int}:zej g (.int i) (.int j) S Q=Q (g i j) S:=pz id id
theorem zqA{i j:Int}:oLe (.int i) (.int j) S Q=Q (.bl (decide (i≤j))) S:=pz id id
theorem zqT{i j:Str}:oLe (.str i) (.str j) S Q=Q (.bl (!decide (j.cps.toList<i.cps.toList))) S:=pz id id
theorem zpC{us:List W}:zeL [.tup us] S Q=Q (.int us.length) S:=pz id id
theorem zpp{a:Addr}:zeL [.ref a] S Q=zco S a fun us=>Q (.int us.length) S:=pz id id
theorem zpt{ns:List Int}:zeL [.scr ns] S Q=Q (.int ns.length) S:=pz id id
theorem znR{z:Str}:zeL [.str z] S Q=(z.length≤sizeLine∧Q (.int z.length) S):=pz id id
theorem zrC{ws:List W}{i:Int}:oIx (.tup ws) (.int i) S Q=match atI ws i with
 |some w=>Q w S
 |none=>False:=pz id id
theorem zdP{a:Addr}{i:Int}:oIx (.ref a) (.int i) S Q=zco S a fun ws=>match atI ws i with
 |some w=>Q w S
 |none=>False:=pz id id
theorem zqC{ns:List Int}{i:Int}:oIx (.scr ns) (.int i) S Q=match atI ns i with
 |some n=>Q (.int n) S
 |none=>False:=pz id id
theorem zrx{x:Str}{i:Int}:oIx (.str x) (.int i) S Q=(x.length≤sizeLine∧match atI x.cps.toList i with
 |some c=>Q (.str ⟨#[c]⟩) S
 |none=>False):=pz id id
theorem zrB{ws:List W}{lo hi:Option Int}:oSl (.tup ws) lo hi S Q=Q (.tup (zdG ws lo hi)) S:=pz id id
theorem zqV{z:Str}{lo hi:Option Int}:oSl (.str z) lo hi S Q=(z.length≤sizeLine∧Q (.str (Txt.slice z lo hi)) S):=pz id id
theorem zrA{a:Addr}{lo hi:Option Int}:oSl (.ref a) lo hi S Q=zco S a fun ws=>∀p,S p=none→Q (.ref p) (put S p (.lst (zdG ws lo hi))):=pz id id
theorem zqr{ns:List Int}{lo hi:Option Int}:oSl (.scr ns) lo hi S Q= ∀p,S p=none→Q (.ref p) (put S p (.lst ((zdG ns lo hi).map W.int))):=pz id id
theorem zli{us:List W}:zdA [.tup us] S Q=Q (.tup us) S:=pz id id
theorem zkX{a:Addr}:zdA [.ref a] S Q=zco S a fun us=>Q (.tup us) S:=pz id id
theorem zqy{a:Addr}{y:W}:zbF (.ref a) [y] S Q=zco S a fun xs=>xs.length<sizeLine∧Q .non (put S a (.lst (xs++[y]))):=pz id id
theorem zxL{a:Addr}:zzc (.ref a) [] S Q=zco S a fun xs=>match xs[xs.length - 1]? with
 |some y=>Q y (put S a (.lst xs.dropLast))
 |none=>False:=pz id id
theorem zki{a:Addr}{ys:List W}:zgG (.ref a) [.tup ys] S Q=zco S a fun xs=>xs.length+ys.length≤sizeLine∧Q .non (put S a (.lst (xs++ys))):=pz id id
theorem zkk{a b:Addr}:zgG (.ref a) [.ref b] S Q=zco S a fun xs=>zco S b fun ys=>xs.length+ys.length≤sizeLine∧Q .non (put S a (.lst (xs++ys))):=pz id id
theorem zqf{a:Addr}{ws:List W}:zrg (.ref a) ws S Q=zco S a fun xs=>xs.length+ws.length≤sizeLine∧Q .non (put S a (.lst (xs++ws))):=pz id id
theorem zye{a:Addr}:rvL (.ref a) S=zco S a fun _=>True:=pz id id
theorem zyC{x:Str}:rvS (.str x) S=True:=pz id id
theorem zqK{b:Bool}:zup [.bl b] S Q=Q (.int (if b then 1 else 0)) S:=pz id id
theorem zpF{i:Int}:zup [.int i] S Q=Q (.int i) S:=pz id id
theorem zvT{i j:Int}:zxQ [.int i, .int j] S Q=Q (.int (if j > i then j else i)) S:=pz id id
theorem zwa{i j:Int}:zkw [.int i, .int j] S Q=Q (.int (if j<i then j else i)) S:=pz id id
theorem zuZ{z:Str}{ws:List W}:zjk (.str z) ws S Q=match zge ws with
 |some ys=>(ys.map (·.length)).sum+ys.length*z.length≤16777216∧Q (.str (Str.join z ys)) S
 |none=>False:=pz id id
theorem ztL{z y:Str}:zvl (.str z) [.str y] S Q=match Builtin.Str.occurrences z y 0 z.length 1 with
 |i::_=>Q (.int i) S
 | []=>False:=pz id id
theorem zqx{neg:Bool}:oIs neg .non .non S Q=Q (.bl (!neg)) S:=pz id id
theorem zth{neg a b:Bool}:oIs neg (.bl a) (.bl b) S Q=Q (.bl (if neg then a != b else a == b)) S:=pz id id
theorem zsT{neg a:Bool}:oIs neg (.bl a) .non S Q=Q (.bl neg) S:=pz id id
theorem zsw{neg:Bool}{ws:List W}:oIs neg (.tup ws) .non S Q=Q (.bl neg) S:=pz id id
theorem ztW{neg:Bool}{a:Addr}:oIs neg (.ref a) .non S Q=Q (.bl neg) S:=pz id id
theorem zsU{neg:Bool}{a:Int}:oIs neg (.int a) .non S Q=Q (.bl neg) S:=pz id id
theorem zrl{neg:Bool}{x:W}{ws:List W}:oIn neg x (.tup ws) S Q=match inF S x ws with
 |some b=>Q (.bl (if neg then !b else b)) S
 |none=>False:=pz id id
theorem zrr{neg:Bool}{x:W}{a:Addr}:oIn neg x (.ref a) S Q=zco S a fun ws=>match inF S x ws with
 |some b=>Q (.bl (if neg then !b else b)) S
 |none=>False:=pz id id
theorem zru{neg:Bool}{i j:Str}:oIn neg (.str i) (.str j) S Q=Q (.bl (if neg then !(!(Builtin.Str.occurrences j i 0 j.length 1).isEmpty) else !(Builtin.Str.occurrences j i 0 j.length 1).isEmpty)) S:=pz id id
end
theorem zkM{g:WG}{b:WS}{E:WX}{D:WEnds}{G:Sto→Prop}(I:List W→WSt→Sto→Prop)
  (step:∀w ws σ S (N:WSt→Sto→Prop),I (w::ws) σ S→(∀σ' S' S'',Sub S'' S'→G S''→I ws σ' S''→N σ' S')→g w σ S fun σ1 S1=>b E { D with nx:=N,ct:=N,bk:=D.nx } σ1 S1)
  (done:∀σ S,I [] σ S→D.nx σ S):∀(ws:List W) (σ:WSt) (S:Sto),I ws σ S→forL g b E D G ws σ S
 | [],σ,S,h=>done σ S h
 |w::ws,σ,S,h=>step w ws σ S _ h fun σ' S' S'' sb hG hI=>⟨S'',sb,hG,zkM I step done ws σ' S'' hI⟩
section
variable {E:WX}{σ:WSt}{S:Sto}{Q:WK}{QB:Bool→Sto→Prop}{QA:List W→Sto→Prop}{QI:List W→(Sto→Prop)→Sto→Prop}{QO:Option Int→Sto→Prop}{P:WSt→Sto→Prop}{D:WEnds}{w x y:W}{ws:List W}{EX:Str→Sto→Prop}
theorem zvy{i:Nat}:(zad i E σ S Q)=(match σ[i]? with
 |some (some w)=>Q w S
 |_=>False):=pz id id
theorem zzw{w:W}:(wC w E σ S Q)=(Q w S):=pz id id
theorem zyw{r:W2}{a b:WE}:(wOp r a b E σ S Q)=(a E σ S fun x S1=>b E σ S1 fun y S2=>r x y S2 Q):=pz id id
theorem zwn{t:WE}:(zib t E σ S QB)=(t E σ S fun w S'=>zrL w S' QB):=pz id id
theorem zyG{t:WE}:(wTb t E σ S QB)=(t E σ S fun w S'=>match w with
 | .bl b=>QB b S'
 |_=>False):=pz id id
theorem zuN{t u:WT}:(zpD t u E σ S QB)=(t E σ S fun c S1=>if c=true then u E σ S1 QB else QB false S1):=pz id id
theorem zxz{t u:WT}:(wOr t u E σ S QB)=(t E σ S fun c S1=>if c=true then QB true S1 else u E σ S1 QB):=pz id id
theorem zwj{t:WT}:(zpP t E σ S QB)=(t E σ S fun c S1=>QB (!c) S1):=pz id id
theorem ztz{t u:WE}:(znn t u E σ S Q)=(t E σ S fun w S1=>match w with
 | .bl true=>u E σ S1 Q
 | .bl false=>Q (.bl false) S1
 |_=>False):=pz id id
theorem zxp{c:WT}{t u:WE}:(wIf c t u E σ S Q)=(c E σ S fun b S1=>if b=true then t E σ S1 Q else u E σ S1 Q):=pz id id
theorem zvH{c:WT}{t u:WS}:(zcn c t u E D σ S)=(c E σ S fun b S1=>if b=true then t E D σ S1 else u E D σ S1):=pz id id
theorem zta:(zaF  E D σ S)=(D.nx σ S):=pz id id
theorem zwG{t u:WS}:(zar t u E D σ S)=(t E { D with nx:=u E D } σ S):=pz id id
theorem zwH{e:WE}:(zbd e E D σ S)=(e E σ S D.rt):=pz id id
theorem ztr{e:WE}:(zcw e E D σ S)=(e E σ S fun _ S1=>D.nx σ S1):=pz id id
theorem zgW{i:Nat}:(wGN i w σ S P)=(P (σ.set i (some w)) S):=pz id id
theorem zuv{e:WE}{g:WG}:(wAsg e g E D σ S)=(e E σ S fun w S1=>g w σ S1 D.nx):=pz id id
theorem zpe:(zdw  ws σ S P)=(match ws with
 | []=>P σ S
 |_=>False):=pz id id
theorem ziI{g:WG}{u:WGs}:(zaA g u ws σ S P)=(match ws with
 | []=>False
 |w::r=>g w σ S fun σ' S'=>u r σ' S' P):=pz id id
theorem zvr{u:WGs}:(wGT u w σ S P)=(match w with
 | .tup ws=>u ws σ S P
 |_=>False):=pz id id
theorem ztR:(waNil  E σ S QA)=(QA [] S):=pz id id
theorem zqI{t:WE}{u:WA}:(zab t u E σ S QA)=(t E σ S fun w S1=>u E σ S1 fun ws S2=>QA (w::ws) S2):=pz id id
theorem zvB{t:WA}:(zbR t E σ S Q)=(t E σ S fun ws S1=>ws.length≤sizeLine∧Q (.tup ws) S1):=pz id id
theorem zuI{t:WA}:(zdJ t E σ S QA)=(t E σ S fun ws S1=>ws.length≤sizeLine∧QA ws S1):=pz id id
theorem zvv{t:WL}:(zcD t E σ S Q)=(t E σ S fun ws S1=>∀a,S1 a=none→Q (.ref a) (put S1 a (.lst ws))):=pz id id
theorem ztP{c:WSp}{t:WA}:(zal c t E σ S Q)=(t E σ S fun ws S1=>c ws S1 Q fun cl S2=>E cl σ S2):=pz id id
theorem zfM{n k:Nat}{body:WS}:(zcK n k body ws S Q EX)=(ws.length=k∧body (fun c _ S'=>EX c S') { nx:=fun _ S'=>∃S'',Sub S'' S'∧Q .non S'',rt:=fun w S'=>∃S'',Sub S'' S'∧Q w S'' } (ws.map some++List.replicate (n - k) none) S):=pz id id
theorem zwE{t:WE}:(znJ t E σ S Q)=(t E σ S fun w S1=>match w with
 | .int i=>Q (.int (-i)) S1
 |_=>False):=pz id id
theorem zxC{t u:WE}:(zxE t u E σ S QA)=(t E σ S fun x S1=>u E σ S1 fun y S2=>match x,y with
 | .ref a, .ref b=>zco S2 a fun xs=>zco S2 b fun ys=>xs.length+ys.length≤sizeLine∧QA (xs++ys) S2
 |_,_=>False):=pz id id
theorem zyt{neg:Bool}:(oEq neg x y S Q)=(match eqF S 60 x y with
 |some b=>Q (.bl (if neg then !b else b)) S
 |none=>False):=pz id id
theorem zxK:(woN  E σ S QO)=(QO none S):=pz id id
theorem zyy{t:WE}:(woS t E σ S QO)=(t E σ S fun w S1=>match w with
 | .int i=>QO (some i) S1
 |_=>False):=pz id id
theorem zxn{t:WE}{l h:WO}:(wSl t l h E σ S Q)=(t E σ S fun x S1=>l E σ S1 fun lo S2=>h E σ S2 fun hi S3=>oSl x lo hi S3 Q):=pz id id
theorem zyY{f:WF}{t:WA}:(wB f t E σ S Q)=(t E σ S fun ws S1=>f ws S1 Q):=pz id id
theorem zxl{f:WF}{t:WL}:(wBL f t E σ S Q)=(t E σ S fun ws S1=>f ws S1 Q):=pz id id
theorem zpE:(zht  ws S Q)=(Q (.tup ws) S):=pz id id
theorem zpZ{t:WE}:(zeJ t E σ S QA)=(t E σ S fun w S1=>match w with
 | .tup ws=>QA ws S1
 | .ref a=>zco S1 a fun ws=>QA ws S1
 | .scr ns=>QA (ns.map W.int) S1
 |_=>False):=pz id id
theorem zun:(zpk  ws S Q)=(match zjw ws with
 |some bs=>Q (.bl (bs.all _root_.id)) S
 |none=>False):=pz id id
theorem zuy{T:String}{t:WE}:(zpO T t E σ S Q)=(t E σ S fun w S1=>tyW w S1 fun A=>Q (.bl (zbW A T)) S1):=pz id id
theorem zzb{rv:W→Sto→Prop}{f:WMf}{to:WE}{t:WA}:(wM rv f to t E σ S Q)=(to E σ S fun w S1=>rv w S1∧t E σ S1 fun ws S2=>f w ws S2 Q):=pz id id
theorem zxS{rv:W→Sto→Prop}{f:WMf}{to:WE}{t:WL}:(wML rv f to t E σ S Q)=(to E σ S fun w S1=>rv w S1∧t E σ S1 fun ws S2=>f w ws S2 Q):=pz id id
theorem zvD{i:Nat}{g:Int→Int→Int}{e:WE}:(zvW i g e E D σ S)=(match σ[i]? with
 |some (some (.int a))=>e E σ S fun w S1=>match w with
  | .int b=>D.nx (σ.set i (some (.int (g a b)))) S1
  |_=>False
 |_=>False):=pz id id
theorem zwP{q:WI}{g:WG}{b:WS}:(zgC q g b E D σ S)=(q E σ S fun ws G S1=>forL g b E D G ws σ S1):=pz id id
theorem zxG{t:WE}:(wIv t E σ S QI)=(t E σ S fun w S1=>match w with
 | .tup ws=>QI ws (fun _=>True) S1
 | .ref a=>zco S1 a fun ws=>QI ws (fun S'=>S' a=some (.lst ws)) S1
 | .scr ns=>QI (ns.map W.int) (fun _=>True) S1
 | .str z=>QI (zlk z) (fun _=>True) S1
 |_=>False):=pz id id
theorem zwu{t:WA}:(zrH t E σ S QI)=(t E σ S fun ws S1=>match ws with
 | [.int j]=>(-(2 ^ 62)≤j∧j<2 ^ 62)∧QI (zmZ 0 j.toNat) (fun _=>True) S1
 |_=>False):=pz id id
theorem zvZ:(zgz  E σ S QB)=(QB true S):=pz id id
theorem ztN{k:Nat}{fr:List Nat}{q:WI}{g:WG}{c:WT}{e:WE}:(zcV k fr q g c e E σ S QA)=(q E σ S fun ws G S1=>zez g c e E G QA ws [] (List.replicate k none++fr.map fun j=>(σ[j]?).join) S1):=pz id id
theorem zud{t:WE}:(zoM t E σ S QI)=(t E σ S fun w S1=>znK w S1 fun ws G=>QI (zhY 0 ws) G S1):=pz id id
theorem zwo{t u:WE}:(zsu t u E σ S QI)=(t E σ S fun x S1=>u E σ S1 fun y S2=>znK x S2 fun xs G=>znK y S2 fun ys G'=>QI (pairs xs ys) (fun S'=>G S'∧G' S') S2):=pz id id
theorem zsS{t:WE}{l h:WO}:(zur t l h E σ S QA)=(t E σ S fun x S1=>l E σ S1 fun lo S2=>h E σ S2 fun hi S3=>match x with
 | .ref a=>zco S3 a fun ws=>QA (zdG ws lo hi) S3
 | .scr ns=>QA ((zdG ns lo hi).map W.int) S3
 |_=>False):=pz id id
theorem zva{t:WL}{u:WE}:(zrS t u E σ S Q)=(t E σ S fun ws S1=>u E σ S1 fun y S2=>match y with
 | .int i=>match atI ws i with
  |some w=>Q w S2
  |none=>False
 |_=>False):=pz id id
theorem ztD{t:WE}{u:WL}:(ztI t u E σ S QA)=(t E σ S fun x S1=>u E σ S1 fun ys S2=>match x with
 | .ref a=>zco S2 a fun xs=>xs.length+ys.length≤sizeLine∧QA (xs++ys) S2
 |_=>False):=pz id id
theorem ztc{t u:WL}:(znl t u E σ S QA)=(t E σ S fun xs S1=>u E σ S1 fun ys S2=>xs.length+ys.length≤sizeLine∧QA (xs++ys) S2):=pz id id
theorem ztB{t:WL}{u:WE}:(zql t u E σ S QA)=(t E σ S fun xs S1=>u E σ S1 fun y S2=>match y with
 | .ref a=>zco S2 a fun ys=>xs.length+ys.length≤sizeLine∧QA (xs++ys) S2
 |_=>False):=pz id id
theorem zsF{t:WL}{u:WE}:(zrv t u E σ S QA)=(t E σ S fun xs S1=>u E σ S1 fun y S2=>match y with
 | .int k=>(-(2 ^ 63)≤k∧k<2 ^ 63∧xs.length*k.toNat≤sizeLine)∧QA (List.replicate k.toNat xs).flatten S2
 |_=>False):=pz id id
end
section
variable {S:Sto}{Q:WK}
theorem zws{xs:List W}{k:Int}:zyF (.tup xs) (.int k) S Q=((xs≠ []∧ -(2 ^ 63)≤k∧k<2 ^ 63∧xs.length*k.toNat≤sizeLine)∧Q (.tup (List.replicate k.toNat xs).flatten) S):=pz id id
theorem zxf{neg:Bool}{y:W}{a:Addr}:zvE neg y (.ref a) S Q=(match zpg y with
 |some k=>zqq S a fun kvs=>Q (.bl (if neg then !(zgi kvs k).isSome else(zgi kvs k).isSome)) S
 |none=>False):=pz id id
theorem zwb{y:W}{a:Addr}:zyx (.ref a) y S Q=(match zpg y with
 |some k=>zqq S a fun kvs=>match zgi kvs k with
  |some w=>Q w S
  |none=>False
 |none=>False):=pz id id
theorem ztZ{ws:List W}:(zoN ws S Q)=(match zcd ws with
 |some ns=>Q (.int ns.sum) S
 |none=>False):=pz id id
theorem zui{z:Str}:zmh (.str z) [] S Q=(z.length≤5592405∧Q (.str (Txt.upper z)) S):=pz id id
theorem zfU:∀p:List Int,zcd (p.map W.int)=some p
 | []=>rfl
 |i::p=>by rw [List.map_cons,zcd,zfU p];rfl
theorem zxW (p:List Int):zpg (zaZ p)=some p:=zfU p
theorem zqO{a:Addr}{kvs:List (List Int×W)}{P:List (List Int×W)→Prop}:zqq (put S a (.dct kvs)) a P=P kvs:=zkN zah
end
end L2
end
section
def L2.wZ (d:String):Lean.MacroM (Lean.TSyntax `tactic):=do
  let a:Array Lean.Term:=(("L2.zvy L2.zzw L2.zyw L2.zwn L2.zyG L2.zuN L2.zxz L2.zwj L2.ztz L2.zxp L2.zvH L2.zta L2.zwG L2.zwH L2.ztr L2.zgW L2.zuv L2.zpe L2.ziI L2.zvr L2.ztR L2.zqI L2.zvB L2.zuI L2.zvv L2.ztP L2.zfM L2.zwE L2.zyt L2.zxK L2.zyy L2.zxn L2.zyY L2.zxl L2.zpE L2.zpZ L2.zun L2.zuy L2.zzb L2.zxS L2.zvD L2.zwP L2.zxG L2.zwu L2.zvZ L2.ztN L2.zud L2.zwo L2.zsS L2.zva L2.ztD L2.ztc L2.ztB L2.zsF L2.zws L2.zxf L2.zwb L2.ztZ L2.zqZ L2.zui L2.zxW L2.zqO L2.zgv L2.zbg L2.zwA L2.zwp L2.zxe L2.zsz L2.zgD L2.zkU L2.zjh L2.zkH L2.zis L2.zjd L2.zju L2.ziW L2.zkE L2.zhE L2.ziT L2.zlj L2.zjR L2.zlp L2.zio L2.zjZ L2.zil L2.zhD L2.ziJ L2.sub_tuple_tuple L2.sub_tuple_list L2.zku L2.ziH L2.zjP L2.sub_list_tuple L2.sub_list_list L2.zqU L2.zqd L2.zpd L2.zpX L2.znU L2.zjW L2.zhd L2.zsR L2.zrF L2.zqs L2.zqN L2.zqH L2.zqz L2.zpR L2.zpi L2.zgL L2.zpq L2.zyq L2.zuO L2.zqA L2.zqT L2.zpC L2.zpp L2.zpt L2.znR L2.zrC L2.zdP L2.zqC L2.zrx L2.zrB L2.zqV L2.zrA L2.zqr L2.zli L2.zkX L2.zqy L2.zxL L2.zki L2.zkk L2.zqf L2.zye L2.zyC L2.zqK L2.zpF L2.zvT L2.zwa L2.zuZ L2.ztL L2.zqx L2.zth L2.zsT L2.zsw L2.ztW L2.zsU L2.zrl L2.zrr L2.zru List.map_cons List.map_nil List.length_cons List.length_nil List.cons_append List.nil_append List.append_nil List.replicate List.getElem?_cons_zero List.getElem?_cons_succ List.getElem?_nil List.set_cons_zero List.set_cons_succ Nat.reduceAdd Nat.reduceSub true_and and_true if_true if_false Bool.false_eq_true reduceIte Bool.not_true Bool.not_false Option.join_some Option.join_none decide_eq_true_eq and_self".splitOn " ").filter (· != d)).toArray.map fun s=>Lean.mkIdent s.toName
  `(tactic| simp only [$[$a:term],*])
local macro_rules | `(tactic| walk_at "wp") => L2.wZ ""
section
namespace L2
open PySem PySem.Spec PyProof.Rows
noncomputable def zcu:Nat→WSp
 |0=>zaW
 |r+1=>zcK 1 1 (zar (zcn (zib (zpO "int" (zad 0))) (zbd (zbR waNil)) zaF)
  (zbd (wSl (zad 0) (woS (wC (.int 1))) woN)))
noncomputable def zcI (r:Nat) (self:WSp):WS:=(zcw (wM rvL zgG (zad 1) (zab (zal (zcu r) (zab (zad 2) waNil)) waNil)))
noncomputable def zbL:Nat→WSp
 |0=>zaW
 |r+1=>zcK 3 1 (zar (wAsg (zcD (zdJ waNil)) (wGN 1))
  (zar (zgC (wIv (zad 0)) (wGN 2) (zcI r zaW))
  (zbd (zad 1))))
noncomputable def zgb (r:Nat) (self:WSp):WS:=(zar (zvW 1 (fun a b=>a+b) (wB zeL (zab (zad 3) waNil)))
  (zar (zvW 2 (fun a b=>a+b) (wC (.int 1)))
  (zar (zcn (wOr (wTb (wOp oGt (zad 1) (wC (.int 400)))) (wTb (wOp oGt (zad 2) (wC (.int 40))))) (zbd (wC (.bl false))) zaF)
  (wAsg (zal (zbL r) (zab (zad 3) waNil)) (wGN 3)))))
noncomputable def zdy:Nat→WSp
 |0=>zaW
 |r+1=>zcK 4 1 (zar (wAsg (wC (.int 0)) (wGN 1))
  (zar (wAsg (wC (.int 0)) (wGN 2))
  (zar (wAsg (zcD (zdJ (zab (zad 0) waNil))) (wGN 3))
  (zar (zod (zib (zad 3)) (zgb r zaW))
  (zbd (wC (.bl true)))))))
noncomputable def zcs (r:Nat) (self:WSp):WS:=(zcw (zal self (zab (zad 4) (zab (wOp zda (zad 1) (zbR (zab (zad 3) waNil))) (zab (zad 2) waNil)))))
noncomputable def zaJ:Nat→WSp
 |0=>zaW
 |r+1=>zcK 5 3 (zar (zcw (wM rvL zbF (zad 2) (zab (zad 1) waNil)))
  (zgC (zoM (zal (zcu r) (zab (zad 0) waNil))) (wGT (zaA (wGN 3) (zaA (wGN 4) zdw))) (zcs r (zaJ r))))
noncomputable def zfs:Nat→WSp
 |0=>zaW
 |r+1=>zcK 2 1 (zar (wAsg (zcD (zdJ waNil)) (wGN 1))
  (zar (zcw (zal (zaJ r) (zab (zad 0) (zab (zbR waNil) (zab (zad 1) waNil)))))
  (zbd (zad 1))))
noncomputable def zby:Nat→WSp
 |0=>zaW
 |r+1=>zcK 3 2 (zar (wAsg (zal (zcu r) (zab (zad 0) waNil)) (wGN 2))
  (zar (zcn (wOr (wTb (wOp oLt (zad 1) (wC (.int 0)))) (wTb (wOp oGe (zad 1) (wB zeL (zab (zad 2) waNil))))) zhM zaF)
  (zbd (wOp oIx (zad 2) (zad 1)))))
noncomputable def ziA (r:Nat) (self:WSp):WS:=(wAsg (zal (zby r) (zab (zad 2) (zab (zad 3) waNil))) (wGN 2))
noncomputable def zjg:Nat→WSp
 |0=>zaW
 |r+1=>zcK 4 2 (zar (wAsg (zad 0) (wGN 2))
  (zar (zgC (wIv (zad 1)) (wGN 3) (ziA r zaW))
  (zbd (zad 2))))
noncomputable def zgm (r:Nat) (self:WSp):WE:=(zad 0)
noncomputable def zbM:Nat→WSp
 |0=>zaW
 |r+1=>zcK 1 1 (zbd (zcD (zcV 1 [0] (wIv (zal (zfs r) (zab (zad 0) waNil))) (wGN 0) (zib (zpO "int" (zal (zjg r) (zab (zad 1) (zab (zad 0) waNil))))) (zgm r zaW))))
noncomputable def zhN (r:Nat) (self:WSp):WE:=(zal self (zab (zad 0) (zab (zad 1) waNil)))
noncomputable def zcM:Nat→WSp
 |0=>zaW
 |r+1=>zcK 2 2 (zar (zcn (zib (zpO "int" (zad 0))) (zbd (wOp oIx (zad 1) (zad 0))) zaF)
  (zbd (wOp zda (zbR (zab (wOp oIx (zad 0) (wC (.int 0))) waNil)) (wBL zht (zcV 1 [1] (wIv (wSl (zad 0) (woS (wC (.int 1))) woN)) (wGN 0) zgz (zhN r (zcM r)))))))
noncomputable def zbJ:Nat→WSp
 |0=>zaW
 |r+1=>zcK 2 2 (zbd (znn (wOp (oEq false) (wOp oIx (zad 0) (wC (.int 0))) (wOp oIx (zad 1) (wC (.int 0)))) (wOp (oEq false) (wB zeL (zab (zad 0) waNil)) (wB zeL (zab (zad 1) waNil)))))
noncomputable def zce (r:Nat) (self:WSp):WS:=(zcn (zpP (zib (zal self (zab (zad 3) (zab (zad 4) (zab (zad 2) waNil)))))) (zbd (wC (.bl false))) zaF)
noncomputable def zaz:Nat→WSp
 |0=>zaW
 |r+1=>zcK 5 3 (zar (zcn (zib (zpO "int" (zad 0))) (zar (zcw (wM rvL zbF (zad 2) (zab (zad 1) waNil)))
  (zbd (wC (.bl true)))) zaF)
  (zar (zcn (zpP (zib (zal (zbJ r) (zab (zad 0) (zab (zad 1) waNil))))) (zbd (wC (.bl false))) zaF)
  (zar (zgC (zsu (wSl (zad 0) (woS (wC (.int 1))) woN) (wSl (zad 1) (woS (wC (.int 1))) woN)) (wGT (zaA (wGN 3) (zaA (wGN 4) zdw))) (zce r (zaz r)))
  (zbd (wC (.bl true))))))
noncomputable def zbG:Nat→WSp
 |0=>zaW
 |r+1=>zcK 3 2 (zar (wAsg (zcD (zdJ waNil)) (wGN 2))
  (zar (zcn (zib (zal (zaz r) (zab (zad 0) (zab (zad 1) (zab (zad 2) waNil))))) (zbd (zad 2)) zaF)
  (zbd (wC .non))))
noncomputable def zeF (r:Nat) (self:WSp):WS:=(zcn (wTb (wOp (oEq false) (wOp oIx (zad 2) (wC (.int 0))) (zad 1))) (zbd (zad 2)) zaF)
noncomputable def zaR:Nat→WSp
 |0=>zaW
 |r+1=>zcK 3 2 (zar (zgC (wIv (zad 0)) (wGN 2) (zeF r zaW))
  (zbd (wC .non)))
noncomputable def zbb:Nat→WSp
 |0=>zaW
 |r+1=>zcK 1 1 (zar (zcn (zpP (zib (zal (zdy r) (zab (zad 0) waNil)))) zhM zaF)
  (zbd (zad 0)))
noncomputable def zeD (r:Nat) (self:WSp):WE:=(zal self (zab (zad 1) (zab (zad 0) (zab (zad 2) waNil))))
noncomputable def zbx:Nat→WSp
 |0=>zaW
 |r+1=>zcK 5 3 (zar (wAsg (zcD (zcV 1 [0,2] (wIv (wSl (zad 1) (woS (wC (.int 1))) woN)) (wGN 0) zgz (zeD r (zbx r)))) (wGN 3))
  (zar (wAsg (zal (zaR r) (zab (zad 0) (zab (wOp oIx (zad 1) (wC (.int 0))) waNil))) (wGN 4))
  (zar (zcn (wTb (wOp (oIs false) (zad 4) (wC .non))) (zbd (wOp zda (zbR (zab (wOp oIx (zad 1) (wC (.int 0))) waNil)) (wB zdA (zab (zad 3) waNil)))) zaF)
  (zbd (zal (zcM r) (zab (wOp oIx (zad 4) (zad 2)) (zab (zad 3) waNil)))))))
noncomputable def zdV:Nat→WSp
 |0=>zaW
 |r+1=>zcK 2 2 (zbd (zal (zbb r) (zab (zal (zbx r) (zab (zad 0) (zab (zad 1) (zab (wC (.int 1)) waNil)))) waNil)))
noncomputable def zfj:Nat→WSp
 |0=>zaW
 |r+1=>zcK 2 2 (zbd (zal (zbb r) (zab (zal (zbx r) (zab (zad 0) (zab (zad 1) (zab (wC (.int 2)) waNil)))) waNil)))
noncomputable def zel (r:Nat) (self:WSp):WE:=(zbR (zab (zad 0) waNil))
noncomputable def zbA:Nat→WSp
 |0=>zaW
 |r+1=>zcK 3 2 (zar (wAsg (zal (zaR r) (zab (zad 0) (zab (wOp oIx (zad 1) (wC (.int 0))) waNil))) (wGN 2))
  (zar (zcn (wTb (wOp (oIs false) (zad 2) (wC .non))) (zbd (zcD (zcV 1 [] (zrH (zab (wOp (zej fun i j=> .int (i - j)) (wB zeL (zab (zad 1) waNil)) (wC (.int 1))) waNil)) (wGN 0) zgz (zel r zaW)))) zaF)
  (zbd (zal (zbM r) (zab (wOp oIx (zad 2) (wC (.int 1))) waNil)))))
noncomputable def zdY (r:Nat) (self:WSp):WS:=(zcn (wTb (wOp (oIs true) (zal (zbG r) (zab (wOp oIx (zad 2) (wC (.int 1))) (zab (zad 1) waNil))) (wC .non))) (zbd (zad 2)) zaF)
noncomputable def zbr:Nat→WSp
 |0=>zaW
 |r+1=>zcK 3 2 (zar (zgC (wIv (zad 0)) (wGN 2) (zdY r zaW))
  (zbd (wC .non)))
noncomputable def zcU (r:Nat) (self:WSp):WS:=(zcw (zal self (zab (zad 0) (zab (zad 6) (zab (wOp zda (zad 2) (zbR (zab (zad 5) waNil))) (zab (zad 3) waNil))))))
noncomputable def zbm:Nat→WSp
 |0=>zaW
 |r+1=>zcK 7 4 (zar (wAsg (zal (zbr r) (zab (zad 0) (zab (zad 1) waNil))) (wGN 4))
  (zar (zcn (wTb (wOp (oIs true) (zad 4) (wC .non))) (zcw (wM rvL zbF (zad 3) (zab (zbR (zab (zad 2) (zab (wOp oIx (zad 4) (wC (.int 0))) waNil))) waNil))) zaF)
  (zgC (zoM (wSl (zad 1) (woS (wC (.int 1))) woN)) (wGT (zaA (wGN 5) (zaA (wGN 6) zdw))) (zcU r (zbm r)))))
noncomputable def zcy:Nat→WSp
 |0=>zaW
 |r+1=>zcK 3 2 (zar (wAsg (zcD (zdJ waNil)) (wGN 2))
  (zar (zcw (zal (zbm r) (zab (zad 0) (zab (zad 1) (zab (zbR waNil) (zab (zad 2) waNil))))))
  (zbd (zad 2))))
noncomputable def zfB (r:Nat) (self:WSp):WE:=(wOp oIx (zad 0) (wC (.int 0)))
noncomputable def zcS:Nat→WSp
 |0=>zaW
 |r+1=>zcK 1 1 (zbd (zcD (zcV 1 [] (wIv (zad 0)) (wGN 0) zgz (zfB r zaW))))
noncomputable def zcF:Nat→WSp
 |0=>zaW
 |r+1=>zcK 3 2 (zar (wAsg (zal (zbr r) (zab (zad 0) (zab (zad 1) waNil))) (wGN 2))
  (zbd (wOp zda (zbR (zab (wOp oIx (zad 2) (wC (.int 0))) waNil)) (wB zdA (zab (zal (zbG r) (zab (wOp oIx (zad 2) (wC (.int 1))) (zab (zad 1) waNil))) waNil)))))
noncomputable def zcB (r:Nat) (self:WSp):WS:=(zcw (wM rvL zbF (zad 5) (zab (zal self (zab (zad 0) (zab (zad 7) (zab (wOp zda (zad 2) (zad 6)) (zab (zad 3) waNil))))) waNil)))
noncomputable def zaQ:Nat→WSp
 |0=>zaW
 |r+1=>zcK 8 4 (zar (wAsg (wIf (wTb (wOp (zvE false) (zad 2) (zad 3))) (zal (zcF r) (zab (zad 0) (zab (zad 1) waNil))) (zad 1)) (wGN 4))
  (zar (wAsg (zcD (zdJ waNil)) (wGN 5))
  (zar (zgC (zsu (zal (zbA r) (zab (zad 0) (zab (zad 4) waNil))) (wSl (zad 4) (woS (wC (.int 1))) woN)) (wGT (zaA (wGN 6) (zaA (wGN 7) zdw))) (zcB r (zaQ r)))
  (zbd (wOp zda (zbR (zab (wOp oIx (zad 4) (wC (.int 0))) waNil)) (wB zdA (zab (zad 5) waNil)))))))
noncomputable def zgj (r:Nat) (self:WSp):WE:=(zbR (zab (zad 0) (zab (wC (.bl true)) waNil)))
noncomputable def zdF:Nat→WSp
 |0=>zaW
 |r+1=>zcK 3 3 (zbd (zal (zaQ r) (zab (zad 0) (zab (zad 1) (zab (zbR waNil) (zab (wBL zjc (zcV 1 [] (wIv (zad 2)) (wGN 0) zgz (zgj r zaW))) waNil))))))
noncomputable def zhI (r:Nat) (self:WSp):WS:=(zcn (wTb (wOp (oIn true) (zad 4) (zad 3))) zhM zaF)
noncomputable def zfJ:Nat→WSp
 |0=>zaW
 |r+1=>zcK 5 3 (zar (wAsg (zal (zcS r) (zab (zal (zcy r) (zab (zad 0) (zab (zad 1) waNil))) waNil)) (wGN 3))
  (zar (zgC (wIv (zad 2)) (wGN 4) (zhI r zaW))
  (zbd (zal (zdF r) (zab (zad 0) (zab (zad 1) (zab (zad 2) waNil)))))))
noncomputable def zbV:Nat→WSp
 |0=>zaW
 |r+1=>zcK 4 3 (zar (wAsg (zal (zdV r) (zab (zad 0) (zab (zad 1) waNil))) (wGN 3))
  (zar (zcn (wTb (wOp (oEq true) (zal (zdV r) (zab (zad 0) (zab (zad 2) waNil))) (zad 3))) zhM zaF)
  (zbd (zad 3))))
noncomputable def zhq (r:Nat) (self:WSp):WE:=(zal self (zab (zad 2) (zab (zad 0) (zab (zad 1) waNil))))
noncomputable def zca:Nat→WSp
 |0=>zaW
 |r+1=>zcK 8 3 (zar (wAsg (zal (zaR r) (zab (zad 0) (zab (wOp oIx (zad 1) (wC (.int 0))) waNil))) (wGN 3))
  (zar (wAsg (zal (zaR r) (zab (zad 0) (zab (wOp oIx (zad 2) (wC (.int 0))) waNil))) (wGN 4))
  (zar (wAsg (wSl (zad 1) (woS (wC (.int 1))) woN) (wGN 5))
  (zar (wAsg (wSl (zad 2) (woS (wC (.int 1))) woN) (wGN 6))
  (zar (zcn (zpD (wTb (wOp (oIs false) (zad 3) (wC .non))) (wTb (wOp (oIs true) (zad 4) (wC .non)))) (wAsg (zal (zbG r) (zab (wOp oIx (zad 4) (wC (.int 1))) (zab (zad 1) waNil))) (wGN 5)) zaF)
  (zar (zcn (zpD (wTb (wOp (oIs true) (zad 3) (wC .non))) (wTb (wOp (oIs false) (zad 4) (wC .non)))) (wAsg (zal (zbG r) (zab (wOp oIx (zad 3) (wC (.int 1))) (zab (zad 2) waNil))) (wGN 6)) zaF)
  (zar (wAsg (zcD (zcV 2 [0] (zsu (zad 5) (zad 6)) (wGT (zaA (wGN 0) (zaA (wGN 1) zdw))) zgz (zhq r (zca r)))) (wGN 7))
  (zar (zcn (wTb (wOp (oIs false) (zad 4) (wC .non))) (zbd (wOp zda (zbR (zab (wOp oIx (zad 1) (wC (.int 0))) waNil)) (wB zdA (zab (zad 7) waNil)))) zaF)
  (zbd (zal (zcM r) (zab (wOp oIx (zad 4) (wC (.int 2))) (zab (zad 7) waNil))))))))))))
noncomputable def zdg:Nat→WSp
 |0=>zaW
 |r+1=>zcK 3 3 (zar (zcw (zal (zbV r) (zab (zad 0) (zab (zad 1) (zab (zad 2) waNil)))))
  (zar (zcw (zal (zfj r) (zab (zad 0) (zab (zad 2) waNil))))
  (zbd (zal (zca r) (zab (zad 0) (zab (zad 1) (zab (zad 2) waNil)))))))
noncomputable def zcW (r:Nat) (self:WSp):WS:=(zcw (zal (zfj r) (zab (zad 0) (zab (zad 2) waNil))))
noncomputable def zbk:Nat→WSp
 |0=>zaW
 |r+1=>zcK 3 2 (zgC (wIv (zad 1)) (wGN 2) (zcW r zaW))
noncomputable def zcj (r:Nat):WS:=(zbd (zad 3))
noncomputable def zbn (r:Nat):WS:=(zcw (wM rvL zbF (zad 3) (zab (zad 5) waNil)))
noncomputable def zbo (r:Nat) (T:WS):WS:=(zar (zcw (zal (zbk r) (zab (zad 0) (zab (zcD (zdJ (zab (zad 5) waNil))) waNil)))) T)
noncomputable def zbq (r:Nat) (T:WS):WS:=(zar (wAsg (zal (zca r) (zab (zad 0) (zab (wOp oIx (zad 3) (znJ (wC (.int 1)))) (zab (zad 4) waNil)))) (wGN 5)) T)
noncomputable def zcm (r:Nat) (self:WSp):WS:=(zbq r (zbo r (zbn r)))
noncomputable def zcg (r:Nat) (T:WS):WS:=(zar (zgC (wIv (zad 2)) (wGN 4) (zcm r zaW)) T)
noncomputable def zbY (r:Nat) (T:WS):WS:=(zar (wAsg (zcD (zdJ (zab (zad 1) waNil))) (wGN 3)) T)
noncomputable def zch:Nat→WSp
 |0=>zaW
 |r+1=>zcK 6 3 (zbY r (zcg r (zcj r)))
noncomputable def zgy (r:Nat):WS:=(zbd (zbR (zab (zad 3) (zab (zad 5) waNil))))
noncomputable def zmw (r:Nat) (self:WSp):WE:=(zal (zca r) (zab (zad 2) (zab (zad 0) (zab (zad 1) waNil))))
noncomputable def zek (r:Nat):WS:=(zcw (wM rvL zbF (zad 5) (zab (zad 4) waNil)))
noncomputable def zeo (r:Nat) (T:WS):WS:=(zar (zcw (wM rvL zbF (zad 3) (zab (zad 7) waNil))) T)
noncomputable def zeh (r:Nat) (T:WS):WS:=(zar (wAsg (zcD (zcV 2 [0] (zsu (zad 4) (zad 7)) (wGT (zaA (wGN 0) (zaA (wGN 1) zdw))) zgz (zmw r zaW))) (wGN 4)) T)
noncomputable def zei (r:Nat) (T:WS):WS:=(zar (wAsg (zal (zch r) (zab (zad 0) (zab (zad 6) (zab (zad 4) waNil)))) (wGN 7)) T)
noncomputable def zgF (r:Nat) (self:WSp):WS:=(zei r (zeh r (zeo r (zek r))))
noncomputable def zgE (r:Nat) (T:WS):WS:=(zar (zgC (wIv (wOp oIx (zad 1) (wC (.int 1)))) (wGN 6) (zgF r zaW)) T)
noncomputable def zfm (r:Nat) (T:WS):WS:=(zar (wAsg (zcD (zdJ (zab (zad 4) waNil))) (wGN 5)) T)
noncomputable def zfF (r:Nat) (T:WS):WS:=(zar (wAsg (zcD (zeJ (wOp oIx (zad 2) (wC (.int 1))))) (wGN 4)) T)
noncomputable def zfD (r:Nat) (T:WS):WS:=(zar (wAsg (zcD (zdJ waNil)) (wGN 3)) T)
noncomputable def zfv (r:Nat) (T:WS):WS:=(zar (zcw (zal (zbk r) (zab (zad 0) (zab (wOp oIx (zad 2) (wC (.int 1))) waNil)))) T)
noncomputable def zfi (r:Nat) (T:WS):WS:=(zar (zcw (zal (zbk r) (zab (zad 0) (zab (wOp oIx (zad 1) (wC (.int 1))) waNil)))) T)
noncomputable def zfk (r:Nat) (T:WS):WS:=(zar (zcw (zal (zbb r) (zab (wOp oIx (zad 1) (wC (.int 0))) waNil))) T)
noncomputable def zfr (r:Nat) (T:WS):WS:=(zar (zcn (wTb (wOp (oEq true) (wOp oIx (zad 1) (wC (.int 0))) (wOp oIx (zad 2) (wC (.int 0))))) zhM zaF) T)
noncomputable def zhO:Nat→WSp
 |0=>zaW
 |r+1=>zcK 8 3 (zfr r (zfk r (zfi r (zfv r (zfD r (zfF r (zfm r (zgE r (zgy r)))))))))
noncomputable def zat:Nat→WSp
 |0=>zaW
 |r+1=>zcK 2 2 (zar (zcn (wTb (wOp oLt (zad 1) (wB zeL (zab (zad 0) waNil)))) (zbd (wOp oIx (zad 0) (zad 1))) zaF)
  (zbd (wC (.int 0))))
noncomputable def zeH (r:Nat) (self:WSp):WE:=(wOp oIx (zad 1) (wOp (zcZ (fun _ j=>0<j) fun i j=> .int (i % j)) (wOp zda (wOp oIx (zad 2) (zad 0)) (wOp (zcZ CMul fun i j=> .int (i*j)) (zad 3) (wB zup (zab (wOp (oEq false) (zad 0) (zad 4)) waNil)))) (wC (.int 26))))
noncomputable def zeE (r:Nat) (self:WSp):WS:=(zar (wAsg (wML rvS zjk (wC (.str "")) (zcV 1 [3,5,6,7] (zrH (zab (wB zeL (zab (zad 5) waNil)) waNil)) (wGN 0) zgz (zeH r zaW))) (wGN 9))
  (zar (zcn (zib (zad 2)) (wAsg (wOp zda (wM rvS zmh (wOp oIx (zad 9) (wC (.int 0))) waNil) (wSl (zad 9) (woS (wC (.int 1))) woN)) (wGN 9)) zaF)
  (zcw (wM rvL zbF (zad 8) (zab (zad 9) waNil)))))
noncomputable def zdp (r:Nat) (self:WSp):WS:=(zar (zcw (wM rvL zbF (zad 5) (zab (wOp (zcZ (fun _ j=>0<j) fun i j=> .int (i % j)) (zad 4) (wC (.int 26))) waNil)))
  (wAsg (wOp (zcZ ziZ fun i j=> .int (i / j)) (zad 4) (wC (.int 26))) (wGN 4)))
noncomputable def zaS:Nat→WSp
 |0=>zaW
 |r+1=>zcK 10 3 (zar (wAsg (wC (.str "abcdefghijklmnopqrstuvwxyz")) (wGN 3))
  (zar (wAsg (wOp (zcZ (fun _ j=>0<j) fun i j=> .int (i % j)) (zad 1) (wOp (zcZ zxU fun i j=> .int (i ^ j.toNat)) (wC (.int 26)) (wC (.int 8)))) (wGN 4))
  (zar (wAsg (zcD (zdJ waNil)) (wGN 5))
  (zar (zgC (zrH (zab (wOp zda (wC (.int 1)) (wOp (zcZ (fun _ j=>0<j) fun i j=> .int (i % j)) (zad 0) (wC (.int 8)))) waNil)) (wGN 6) (zdp r zaW))
  (zar (wAsg (wOp (zcZ (fun _ j=>0<j) fun i j=> .int (i % j)) (wOp (zcZ ziZ fun i j=> .int (i / j)) (zad 0) (wC (.int 8))) (wB zeL (zab (zad 5) waNil))) (wGN 7))
  (zar (wAsg (zcD (zdJ waNil)) (wGN 8))
  (zar (zgC (zrH (zab (wC (.int 6)) waNil)) (wGN 6) (zeE r zaW))
  (zar (zcn (zpD (wTb (wOp (oEq false) (wOp (zcZ (fun _ j=>0<j) fun i j=> .int (i % j)) (wOp (zcZ ziZ fun i j=> .int (i / j)) (zad 0) (wC (.int 64))) (wC (.int 2))) (wC (.int 1)))) (zpP (zib (zad 2)))) (wAsg (zcD (znl (zur (zad 8) woN (woS (wC (.int 3)))) (zdJ (zab (wOp oIx (zad 8) (wC (.int 2))) (zab (wOp oIx (zad 8) (wC (.int 2))) (zab (wOp oIx (zad 8) (wC (.int 5))) waNil)))))) (wGN 8)) zaF)
  (zbd (zad 8))))))))))
noncomputable def zdm (r:Nat) (self:WSp):WE:=(zal self (zab (zad 0) waNil))
noncomputable def zay:Nat→WSp
 |0=>zaW
 |r+1=>zcK 1 1 (zar (zcn (zib (zpO "int" (zad 0))) (zbd (wC (.int 1))) zaF)
  (zbd (wBL zoN (zcV 1 [] (wIv (wSl (zad 0) (woS (wC (.int 1))) woN)) (wGN 0) zgz (zdm r (zay r))))))
noncomputable def zeg (r:Nat) (self:WSp):WE:=(zal self (zab (zad 0) (zab (zad 1) waNil)))
noncomputable def zba:Nat→WSp
 |0=>zaW
 |r+1=>zcK 2 2 (zar (zcn (zib (zpO "int" (zad 0))) (zbd (wOp oIx (zad 1) (zad 0))) zaF)
  (zbd (wOp zda (wSl (zad 0) woN (woS (wC (.int 1)))) (wBL zht (zcV 1 [1] (wIv (wSl (zad 0) (woS (wC (.int 1))) woN)) (wGN 0) zgz (zeg r (zba r)))))))
noncomputable def zcr:Nat→WSp
 |0=>zaW
 |r+1=>zcK 3 3 (zar (zcn (zpD (wTb (wOp oGt (zad 1) (wC (.int 0)))) (wTb (wOp oGt (wOp (zcZ (fun _ j=>0<j) fun i j=> .int (i % j)) (zad 0) (wC (.int 4))) (wC (.int 0))))) (zbd (wOp (zcZ (fun _ j=>0<j) fun i j=> .int (i % j)) (wOp (zcZ ziZ fun i j=> .int (i / j)) (zad 0) (wC (.int 4))) (zad 1))) zaF)
  (zbd (zbR (zab (wOp oIx (zad 2) (zrS (zdJ (zab (wC (.int 2)) (zab (wC (.int 5)) waNil))) (wOp (zcZ (fun _ j=>0<j) fun i j=> .int (i % j)) (wOp (zcZ ziZ fun i j=> .int (i / j)) (zad 0) (wC (.int 4))) (wC (.int 2))))) waNil))))
noncomputable def zcG:Nat→WSp
 |0=>zaW
 |r+1=>zcK 6 3 (zar (wAsg (zal (zcr r) (zab (wOp (zcZ ziZ fun i j=> .int (i / j)) (zad 0) (wC (.int 7))) (zab (zad 1) (zab (zad 2) waNil)))) (wGN 3))
  (zar (wAsg (zal (zcr r) (zab (wOp (zcZ ziZ fun i j=> .int (i / j)) (zad 0) (wC (.int 700))) (zab (zad 1) (zab (zad 2) waNil)))) (wGN 4))
  (zar (wAsg (wOp (zcZ (fun _ j=>0<j) fun i j=> .int (i % j)) (zad 0) (wC (.int 7))) (wGN 5))
  (zar (zcn (wTb (wOp (oEq false) (zad 5) (wC (.int 0)))) (zbd (zad 3)) zaF)
  (zar (zcn (wOr (wTb (wOp (oEq false) (zad 5) (wC (.int 1)))) (wTb (wOp (oEq false) (zad 1) (wC (.int 0))))) (zbd (zbR (zab (wOp oIx (zad 2) (wC (.int 3))) (zab (zad 3) waNil)))) zaF)
  (zar (zcn (wTb (wOp (oEq false) (zad 5) (wC (.int 2)))) (zbd (zbR (zab (wOp oIx (zad 2) (wC (.int 4))) (zab (zad 3) (zab (zad 4) waNil))))) zaF)
  (zar (zcn (wTb (wOp (oEq false) (zad 5) (wC (.int 3)))) (zbd (zbR (zab (wOp oIx (zad 2) (wC (.int 4))) (zab (zad 3) (zab (zad 3) waNil))))) zaF)
  (zar (zcn (wTb (wOp (oEq false) (zad 5) (wC (.int 4)))) (zbd (zbR (zab (wOp oIx (zad 2) (wC (.int 4))) (zab (zbR (zab (wOp oIx (zad 2) (wC (.int 3))) (zab (zad 3) waNil))) (zab (zad 4) waNil))))) zaF)
  (zar (zcn (wTb (wOp (oEq false) (zad 5) (wC (.int 5)))) (zbd (zbR (zab (wOp oIx (zad 2) (wC (.int 0))) (zab (zad 3) waNil)))) zaF)
  (zbd (zbR (zab (wOp oIx (zad 2) (wC (.int 1))) (zab (zad 3) (zab (zad 4) waNil))))))))))))))
noncomputable def zcE:Nat→WSp
 |0=>zaW
 |r+1=>zcK 4 4 (zar (zcn (wTb (wOp (oEq false) (zad 0) (wC (.int 0)))) (zbd (zcD (zdJ (zab (zbR (zab (zad 1) (zab (wC (.int 0)) waNil))) waNil)))) zaF)
  (zar (zcn (wTb (wOp (oEq false) (zad 0) (wC (.int 1)))) (zbd (zcD (zdJ (zab (zbR (zab (zad 1) (zab (wC (.int 0)) (zab (wC (.int 1)) waNil)))) waNil)))) zaF)
  (zar (zcn (wTb (wOp (oEq false) (zad 0) (wC (.int 2)))) (zbd (zcD (zdJ (zab (zbR (zab (zad 1) (zab (zbR (zab (zad 2) waNil)) waNil))) (zab (zbR (zab (zad 1) (zab (zbR (zab (zad 3) (zab (wC (.int 0)) waNil))) waNil))) waNil))))) zaF)
  (zar (zcn (wTb (wOp (oEq false) (zad 0) (wC (.int 3)))) (zbd (zcD (zdJ (zab (zbR (zab (zad 1) (zab (zbR (zab (zad 2) waNil)) (zab (wC (.int 0)) waNil)))) (zab (zbR (zab (zad 1) (zab (zbR (zab (zad 3) (zab (wC (.int 0)) waNil))) (zab (wC (.int 1)) waNil)))) waNil))))) zaF)
  (zar (zcn (wTb (wOp (oEq false) (zad 0) (wC (.int 4)))) (zbd (zcD (zdJ (zab (zbR (zab (zad 1) (zab (zbR (zab (zad 3) (zab (zbR (zab (zad 3) (zab (wC (.int 0)) waNil))) waNil))) (zab (wC (.int 1)) (zab (wC (.int 2)) waNil))))) (zab (zbR (zab (zad 1) (zab (zbR (zab (zad 3) (zab (zbR (zab (zad 2) waNil)) waNil))) (zab (wC (.int 0)) (zab (wC (.int 1)) waNil))))) waNil))))) zaF)
  (zbd (zcD (zdJ (zab (zbR (zab (zad 1) waNil)) waNil)))))))))
noncomputable def zdN (r:Nat) (self:WSp):WS:=(zar (wAsg (zal (zcG r) (zab (zal (zat r) (zab (zad 0) (zab (wOp zda (wOp zda (wOp zda (zad 1) (wC (.int 2))) (wOp (zcZ CMul fun i j=> .int (i*j)) (wC (.int 2)) (zad 5))) (zad 7)) waNil))) (zab (zal (zay r) (zab (zad 8) waNil)) (zab (zad 2) waNil)))) (wGN 9))
  (zcw (wM rvL zbF (zad 4) (zab (zbR (zab (wOp oIx (zad 3) (wB zeL (zab (zad 4) waNil))) (zab (zad 8) (zab (zad 9) waNil)))) waNil))))
noncomputable def zfC (r:Nat) (self:WSp):WS:=(zar (wAsg (zal (zcE r) (zab (wOp (zcZ (fun _ j=>0<j) fun i j=> .int (i % j)) (zal (zat r) (zab (zad 0) (zab (wOp zda (zad 1) (zad 5)) waNil))) (wC (.int 6))) (zab (wOp oIx (zad 2) (zad 5)) (zab (wOp oIx (zad 2) (wC (.int 2))) (zab (wOp oIx (zad 2) (wC (.int 3))) waNil))))) (wGN 6))
  (zgC (zoM (zad 6)) (wGT (zaA (wGN 7) (zaA (wGN 8) zdw))) (zdN r zaW)))
noncomputable def zbS:Nat→WSp
 |0=>zaW
 |r+1=>zcK 10 4 (zar (wAsg (zcD (zdJ waNil)) (wGN 4))
  (zar (zgC (zrH (zab (wC (.int 2)) waNil)) (wGN 5) (zfC r zaW))
  (zbd (zad 4))))
noncomputable def zfd (r:Nat) (self:WSp):WS:=(wAsg (zcD (znl (zur (zad 4) woN (woS (znJ (wC (.int 2))))) (zdJ (zab (zbR (zab (znJ (wC (.int 1))) (zab (wC (.int 0)) (zab (wOp oIx (zad 2) (wC (.int 4))) (zab (wSl (zad 4) (woS (znJ (wC (.int 2)))) woN) waNil))))) waNil)))) (wGN 4))
noncomputable def zfg (r:Nat) (self:WSp):WS:=(zar (wAsg (wOp (zcZ (fun _ j=>0<j) fun i j=> .int (i % j)) (zad 6) (wC (.int 8))) (wGN 7))
  (zar (wAsg (zrS (zdJ (zab (wC (.int 0)) (zab (wC (.int 0)) (zab (wC (.int 1)) (zab (wC (.int 2)) waNil))))) (wB zkw (zab (zad 7) (zab (wC (.int 3)) waNil)))) (wGN 8))
  (zar (wAsg (zbR (zab (znJ (wC (.int 1))) (zab (wC (.int 0)) (zab (wOp oIx (zad 2) (zrS (zdJ (zab (wC (.int 2)) (zab (wC (.int 5)) (zab (wC (.int 3)) (zab (wC (.int 4)) waNil))))) (wB zkw (zab (zad 7) (zab (wC (.int 3)) waNil))))) waNil)))) (wGN 9))
  (zar (zcn (wTb (wOp oGt (zad 7) (wC (.int 3)))) (zar (wAsg (wOp (zcZ (fun _ j=>0<j) fun i j=> .int (i % j)) (wOp (zcZ ziZ fun i j=> .int (i / j)) (zad 6) (wC (.int 8))) (wB zeL (zab (zad 1) waNil))) (wGN 10))
  (zar (wAsg (zal (zay r) (zab (wOp oIx (wOp oIx (zad 1) (zad 10)) (wC (.int 1))) waNil)) (wGN 8))
  (zar (wAsg (zbR (zab (zad 10) (zab (wOp (zcZ (fun _ j=>0<j) fun i j=> .int (i % j)) (wOp (zcZ ziZ fun i j=> .int (i / j)) (zad 6) (wC (.int 64))) (wC (.int 8))) (zab (wC (.str "")) waNil)))) (wGN 9))
  (wAsg (wOp zda (zad 5) (wC (.int 1))) (wGN 5))))) zaF)
  (zcn (zpD (wTb (wOp oGt (zad 3) (wC (.int 0)))) (wTb (wOp oLt (zad 5) (wC (.int 5))))) (zar (wAsg (wOp (zej fun i j=> .int (i - j)) (zad 3) (wC (.int 1))) (wGN 3))
  (zar (wAsg (zcD (zql (zrv (zdJ (zab (zbR (zab (znJ (wC (.int 1))) (zab (wC (.int 0)) (zab (wOp oIx (zad 2) (wC (.int 2))) (zab (zcD (zdJ waNil)) waNil))))) waNil)) (wOp (zej fun i j=> .int (i - j)) (zad 8) (wB zeL (zab (zad 4) waNil)))) (zad 4))) (wGN 4))
  (zar (wAsg (wOp (zej fun i j=> .int (i - j)) (wB zeL (zab (zad 4) waNil)) (zad 8)) (wGN 11))
  (wAsg (zcD (znl (zur (zad 4) woN (woS (zad 11))) (zdJ (zab (wOp zda (zad 9) (zbR (zab (wSl (zad 4) (woS (zad 11)) woN) waNil))) waNil)))) (wGN 4))))) zaF)))))
noncomputable def zbv:Nat→WSp
 |0=>zaW
 |r+1=>zcK 12 4 (zar (wAsg (zcD (zdJ waNil)) (wGN 4))
  (zar (wAsg (wC (.int 0)) (wGN 5))
  (zar (zgC (wIv (zad 0)) (wGN 6) (zfg r zaW))
  (zar (zod (wTb (wOp oGt (wB zeL (zab (zad 4) waNil)) (wC (.int 1)))) (zfd r zaW))
  (zbd (zrS (ztI (zad 4) (zdJ (zab (zbR (zab (znJ (wC (.int 1))) (zab (wC (.int 0)) (zab (wOp oIx (zad 2) (wC (.int 5))) (zab (zcD (zdJ waNil)) waNil))))) waNil))) (wC (.int 0))))))))
noncomputable def zgg (r:Nat) (self:WSp):WE:=(zal self (zab (zad 0) (zab (zad 1) (zab (zad 2) waNil))))
noncomputable def zbB:Nat→WSp
 |0=>zaW
 |r+1=>zcK 8 3 (zar (wAsg (zad 0) (wGT (zaA (wGN 3) (zaA (wGN 4) (zaA (wGN 5) (zaA (wGN 6) zdw))))))
  (zar (wAsg (zcD (zcV 1 [1,2] (wIv (zad 6)) (wGN 0) zgz (zgg r (zbB r)))) (wGN 7))
  (zar (zcn (wTb (wOp oLt (zad 3) (wC (.int 0)))) (zbd (wOp zda (zbR (zab (zad 5) waNil)) (wB zdA (zab (zad 7) waNil)))) zaF)
  (zar (zcn (wTb (wOp (oEq false) (wOp (zcZ (fun _ j=>0<j) fun i j=> .int (i % j)) (wOp (zcZ ziZ fun i j=> .int (i / j)) (zad 4) (zad 2)) (wC (.int 2))) (wC (.int 1)))) (zbd (wOp zda (zbR (zab (wOp oIx (wOp oIx (zad 1) (zad 3)) (wC (.int 0))) waNil)) (wB zdA (zab (zad 7) waNil)))) zaF)
  (zbd (zal (zba r) (zab (wOp oIx (wOp oIx (zad 1) (zad 3)) (wC (.int 1))) (zab (zad 7) waNil))))))))
noncomputable def zfe (r:Nat) (self:WSp):WS:=(zcn (wTb (wOp (oEq false) (wOp oIx (zad 4) (wC (.int 0))) (wOp oIx (zad 1) (wC (.int 0))))) (zbd (zal (zba r) (zab (wOp oIx (zad 4) (zad 2)) (zab (zad 3) waNil)))) zaF)
noncomputable def zfw (r:Nat) (self:WSp):WE:=(zal self (zab (zad 1) (zab (zad 0) (zab (zad 2) waNil))))
noncomputable def zaC:Nat→WSp
 |0=>zaW
 |r+1=>zcK 5 3 (zar (wAsg (zcD (zcV 1 [0,2] (wIv (wSl (zad 1) (woS (wC (.int 1))) woN)) (wGN 0) zgz (zfw r (zaC r)))) (wGN 3))
  (zar (zgC (wIv (zad 0)) (wGN 4) (zfe r zaW))
  (zbd (wOp zda (wSl (zad 1) woN (woS (wC (.int 1)))) (wB zdA (zab (zad 3) waNil))))))
noncomputable def zcN (r:Nat):WS:=(zbd (zbR (zab (zad 1) (zab (zad 4) waNil))))
noncomputable def zfL (r:Nat) (self:WSp):WE:=(wOp oIx (zad 0) (wC (.int 0)))
noncomputable def zbN (r:Nat):WS:=(wAsg (wOp zda (zad 6) (wB zeL (zab (zad 9) waNil))) (wGN 6))
noncomputable def zbQ (r:Nat) (T:WS):WS:=(zar (wAsg (zal (zaC r) (zab (zad 0) (zab (wOp oIx (zad 4) (znJ (wC (.int 1)))) (zab (wC (.int 2)) waNil)))) (wGN 5)) T)
noncomputable def zbO (r:Nat) (T:WS):WS:=(zar (zcw (wM rvL zbF (zad 4) (zab (zal (zfJ r) (zab (zad 0) (zab (zad 5) (zab (zad 9) waNil)))) waNil))) T)
noncomputable def zbP (r:Nat) (T:WS):WS:=(zar (wAsg (wSl (zad 9) woN (woS (wOp zda (wC (.int 1)) (wB zup (zab (znn (wOp (oEq false) (wOp (zcZ (fun _ j=>0<j) fun i j=> .int (i % j)) (wOp (zcZ ziZ fun i j=> .int (i / j)) (zad 7) (wC (.int 4096))) (wC (.int 2))) (wC (.int 1))) (wOp oLe (wOp zda (zad 6) (wC (.int 2))) (zad 3))) waNil))))) (wGN 9)) T)
noncomputable def zbK (r:Nat) (T:WS):WS:=(zar (wAsg (zcD (zdJ (zab (wOp oIx (zad 8) (wOp (zcZ (fun _ j=>0<j) fun i j=> .int (i % j)) (zad 7) (wB zeL (zab (zad 8) waNil)))) (zab (wOp oIx (zad 8) (wOp (zcZ (fun _ j=>0<j) fun i j=> .int (i % j)) (wOp (zcZ ziZ fun i j=> .int (i / j)) (zad 7) (wC (.int 64))) (wB zeL (zab (zad 8) waNil)))) waNil)))) (wGN 9)) T)
noncomputable def zcA (r:Nat):WS:=(zcn (zpD (wTb (wOp oGt (wB zeL (zab (zad 8) waNil)) (wC (.int 0)))) (wTb (wOp oLt (zad 6) (zad 3)))) (zbK r (zbP r (zbO r (zbQ r (zbN r))))) zaF)
noncomputable def zbI (r:Nat) (T:WS):WS:=(zar (wAsg (zcD (zcV 1 [] (wIv (zal (zcy r) (zab (zad 0) (zab (zad 5) waNil)))) (wGN 0) zgz (zfL r zaW))) (wGN 8)) T)
noncomputable def zcz (r:Nat) (self:WSp):WS:=(zbI r (zcA r))
noncomputable def zcO (r:Nat) (T:WS):WS:=(zar (zgC (wIv (zad 2)) (wGN 7) (zcz r zaW)) T)
noncomputable def zcQ (r:Nat) (T:WS):WS:=(zar (wAsg (wC (.int 0)) (wGN 6)) T)
noncomputable def zcP (r:Nat) (T:WS):WS:=(zar (wAsg (zad 1) (wGN 5)) T)
noncomputable def zcL (r:Nat) (T:WS):WS:=(zar (wAsg (zcD (zdJ waNil)) (wGN 4)) T)
noncomputable def zbc:Nat→WSp
 |0=>zaW
 |r+1=>zcK 10 4 (zcL r (zcP r (zcQ r (zcO r (zcN r)))))
noncomputable def zeI (r:Nat) (self:WSp):WE:=(znn (zpO "list" (zad 0)) (wOp (oEq false) (wB zeL (zab (zad 0) waNil)) (zad 1)))
noncomputable def zdr (r:Nat):WS:=(zbd (wBL zpk (zcV 1 [2] (wIv (zad 0)) (wGN 0) zgz (zeI r zaW))))
noncomputable def zdv (r:Nat) (T:WS):WS:=(zar (zcn (wOr (zpP (zib (zpO "list" (zad 0)))) (wTb (wOp (oEq true) (wB zeL (zab (zad 0) waNil)) (zad 1)))) (zbd (wC (.bl false))) zaF) T)
noncomputable def zbU:Nat→WSp
 |0=>zaW
 |r+1=>zcK 3 3 (zdv r (zdr r))
noncomputable def zck (r:Nat):WS:=(zbd (wOp (oEq false) (zal (zaC r) (zab (zad 0) (zab (wOp oIx (wOp oIx (zad 1) (zad 3)) (wOp zda (zad 4) (wC (.int 1)))) (zab (wC (.int 2)) waNil)))) (zal (zaC r) (zab (zad 0) (zab (wOp oIx (wOp oIx (zad 2) (wOp zda (zad 3) (wC (.int 1)))) (zad 4)) (zab (wC (.int 2)) waNil))))))
noncomputable def zci (r:Nat) (T:WS):WS:=(zar (zcn (wTb (wOp (oEq true) (wOp oIx (wOp oIx (zad 2) (wOp zda (zad 3) (wC (.int 1)))) (zad 4)) (zal (zdg r) (zab (zad 0) (zab (wOp oIx (wOp oIx (zad 2) (zad 3)) (zad 4)) (zab (wOp oIx (wOp oIx (zad 1) (zad 3)) (zad 4)) waNil)))))) (zbd (wC (.bl false))) zaF) T)
noncomputable def zbZ (r:Nat) (T:WS):WS:=(zar (zcn (wTb (wOp (oEq true) (wOp oIx (wOp oIx (zad 1) (zad 3)) (wOp zda (zad 4) (wC (.int 1)))) (zal (zdg r) (zab (zad 0) (zab (wOp oIx (wOp oIx (zad 1) (zad 3)) (zad 4)) (zab (wOp oIx (wOp oIx (zad 2) (zad 3)) (zad 4)) waNil)))))) (zbd (wC (.bl false))) zaF) T)
noncomputable def zbX (r:Nat) (T:WS):WS:=(zar (zcn (wTb (wOp (oEq true) (zal (zaC r) (zab (zad 0) (zab (wOp oIx (wOp oIx (zad 1) (zad 3)) (zad 4)) (zab (wC (.int 1)) waNil)))) (zal (zaC r) (zab (zad 0) (zab (wOp oIx (wOp oIx (zad 2) (zad 3)) (zad 4)) (zab (wC (.int 1)) waNil)))))) (zbd (wC (.bl false))) zaF) T)
noncomputable def zcf:Nat→WSp
 |0=>zaW
 |r+1=>zcK 5 5 (zbX r (zbZ r (zci r (zck r))))
noncomputable def zdn (r:Nat):WS:=(zbd (znn (wOp (oEq false) (zal (zhO r) (zab (zad 3) (zab (wOp oIx (zad 8) (wC (.int 0))) (zab (wOp oIx (zad 8) (wC (.int 1))) waNil)))) (zad 16)) (wOp (oEq false) (zad 8) (zbR (zab (zad 6) (zab (zad 7) waNil))))))
noncomputable def zdk (r:Nat) (T:WS):WS:=(zar (zcw (wM rvL zbF (zad 10) (zab (zcD (zdJ waNil)) waNil))) T)
noncomputable def zeK (r:Nat) (self:WSp):WS:=(zcw (wM rvL zbF (zad 17) (zab (zad 4) waNil)))
noncomputable def zdl (r:Nat) (T:WS):WS:=(zar (zgC (wIv (wOp zda (zad 10) (zad 11))) (wGN 17) (zeK r zaW)) T)
noncomputable def zhm (r:Nat) (self:WSp):WE:=(zcD (zeJ (zad 0)))
noncomputable def zhh (r:Nat) (self:WSp):WE:=(zcD (zeJ (zad 0)))
noncomputable def zdh (r:Nat) (T:WS):WS:=(zar (wAsg (zbR (zab (zcD (zcV 1 [] (wIv (zad 10)) (wGN 0) zgz (zhm r zaW))) (zab (zcD (zcV 1 [] (wIv (zad 11)) (wGN 0) zgz (zhh r zaW))) waNil))) (wGN 16)) T)
noncomputable def zeX (r:Nat) (self:WSp):WS:=(zcn (zpP (zib (zal (zcf r) (zab (zad 3) (zab (zad 10) (zab (zad 11) (zab (zad 14) (zab (zad 15) waNil)))))))) (zbd (wC (.bl false))) zaF)
noncomputable def zfc (r:Nat) (self:WSp):WS:=(zgC (zrH (zab (zad 13) waNil)) (wGN 15) (zeX r zaW))
noncomputable def zdi (r:Nat) (T:WS):WS:=(zar (zgC (zrH (zab (zad 12) waNil)) (wGN 14) (zfc r zaW)) T)
noncomputable def zgc (r:Nat) (self:WSp):WE:=(wOp oIx (zad 0) (wC (.int 0)))
noncomputable def zdf (r:Nat) (T:WS):WS:=(zar (zcn (wOr (wTb (wOp (oEq true) (zcD (zcV 1 [] (wIv (zad 10)) (wGN 0) zgz (zgc r zaW))) (wOp oIx (zad 6) (wC (.int 1))))) (wTb (wOp (oEq true) (wOp oIx (zad 11) (wC (.int 0))) (wOp oIx (zad 7) (wC (.int 1)))))) (zbd (wC (.bl false))) zaF) T)
noncomputable def zdj (r:Nat) (T:WS):WS:=(zar (zcn (wOr (zpP (zib (zal (zbU r) (zab (zad 10) (zab (zad 12) (zab (wOp zda (zad 13) (wC (.int 1))) waNil)))))) (zpP (zib (zal (zbU r) (zab (zad 11) (zab (wOp zda (zad 12) (wC (.int 1))) (zab (zad 13) waNil))))))) (zbd (wC (.bl false))) zaF) T)
noncomputable def zdb (r:Nat) (T:WS):WS:=(zar (wAsg (wB zeL (zab (wOp oIx (zad 7) (wC (.int 1))) waNil)) (wGN 13)) T)
noncomputable def zde (r:Nat) (T:WS):WS:=(zar (wAsg (wB zeL (zab (wOp oIx (zad 6) (wC (.int 1))) waNil)) (wGN 12)) T)
noncomputable def zdd (r:Nat) (T:WS):WS:=(zar (wAsg (zad 9) (wGT (zaA (wGN 10) (zaA (wGN 11) zdw)))) T)
noncomputable def zdc (r:Nat) (T:WS):WS:=(zar (zcn (wOr (zpP (zib (zpO "tuple" (zad 9)))) (wOr (wTb (wOp (oEq true) (wB zeL (zab (zad 9) waNil)) (wC (.int 2)))) (wTb (wOp (oEq true) (zad 8) (zbR (zab (zad 6) (zab (zad 7) waNil))))))) (zbd (wC (.bl false))) zaF) T)
noncomputable def zdQ (r:Nat) (T:WS):WS:=(zar (wAsg (zal (zhO r) (zab (zad 3) (zab (wOp oIx (zad 8) (wC (.int 0))) (zab (wOp oIx (zad 8) (wC (.int 1))) waNil)))) (wGN 9)) T)
noncomputable def zdL (r:Nat) (T:WS):WS:=(zar (wAsg (zbR (zab (zbR (zab (wOp oIx (zad 6) (wC (.int 0))) (zab (zcD (zeJ (wOp oIx (zad 6) (wC (.int 1))))) waNil))) (zab (zbR (zab (wOp oIx (zad 7) (wC (.int 0))) (zab (zcD (zeJ (wOp oIx (zad 7) (wC (.int 1))))) waNil))) waNil))) (wGN 8)) T)
noncomputable def zfb (r:Nat) (T:WS):WS:=(zar (wAsg (zal (zbc r) (zab (zad 3) (zab (zad 4) (zab (wSl (zad 0) (woS (wC (.int 14))) (woS (wC (.int 17)))) (zab (wOp (zej fun i j=> .int (i - j)) (wC (.int 4)) (zad 5)) waNil))))) (wGN 7)) T)
noncomputable def zeN (r:Nat) (T:WS):WS:=(zar (wAsg (zal (zbc r) (zab (zad 3) (zab (zad 4) (zab (wSl (zad 0) (woS (wC (.int 11))) (woS (wC (.int 14)))) (zab (zad 5) waNil))))) (wGN 6)) T)
noncomputable def zeU (r:Nat) (T:WS):WS:=(zar (wAsg (wOp zda (wC (.int 1)) (wOp (zcZ (fun _ j=>0<j) fun i j=> .int (i % j)) (zal (zat r) (zab (zad 0) (zab (wC (.int 10)) waNil))) (wC (.int 3)))) (wGN 5)) T)
noncomputable def zeS (r:Nat) (T:WS):WS:=(zar (wAsg (zal (zbB r) (zab (zal (zbv r) (zab (wSl (zad 0) (woS (wC (.int 17))) woN) (zab (zad 3) (zab (zad 1) (zab (wC (.int 6)) waNil))))) (zab (zad 3) (zab (wC (.int 8)) waNil)))) (wGN 4)) T)
noncomputable def zeW (r:Nat) (T:WS):WS:=(zar (wAsg (zal (zbS r) (zab (zad 0) (zab (wC (.int 4)) (zab (zad 1) (zab (zad 2) waNil))))) (wGN 3)) T)
noncomputable def zeV (r:Nat) (T:WS):WS:=(zar (wAsg (zal (zaS r) (zab (zal (zat r) (zab (zad 0) (zab (wC (.int 2)) waNil))) (zab (zal (zat r) (zab (zad 0) (zab (wC (.int 3)) waNil))) (zab (wC (.bl true)) waNil)))) (wGN 2)) T)
noncomputable def zfa (r:Nat) (T:WS):WS:=(zar (wAsg (zal (zaS r) (zab (zal (zat r) (zab (zad 0) (zab (wC (.int 0)) waNil))) (zab (zal (zat r) (zab (zad 0) (zab (wC (.int 1)) waNil))) (zab (wC (.bl false)) waNil)))) (wGN 1)) T)
noncomputable def zdH:Nat→WSp
 |0=>zaW
 |r+1=>zcK 18 1 (zfa r (zeV r (zeW r (zeS r (zeU r (zeN r (zfb r (zdL r (zdQ r (zdc r (zdd r (zde r (zdb r (zdj r (zdf r (zdi r (zdh r (zdl r (zdk r (zdn r))))))))))))))))))))
theorem zgr{r:Nat}{t:Tr}{S:Sto}{Q:WK}{E:Str→Sto→Prop}(h:Q (.tup (encs t.kids)) S):zcu (r+1) [enc t] S Q E:=by
 rw [zcu];cases t with
 |bl n=>
  simp only[enc];walk_at "wp";exact⟨Nat.zero_le _,S, .refl,h⟩
 |nd s ts=>
  simp only[enc];walk_at "wp";exact⟨S, .refl,h⟩
mutual
noncomputable def Tr.pl (p:List Int):Tr→List (List Int)
 | .bl _=>[p]
 | .nd _ ts=>p::pls p 0 ts
noncomputable def pls (p:List Int) (i:Nat):List Tr→List (List Int)
 | []=>[]
 |t::ts=>t.pl (p++[(i:Int)])++pls p (i+1) ts
end
mutual
theorem zsl:∀(t:Tr) (p:List Int),(t.pl p).length=t.weight
 | .bl _,p=>by simp [Tr.pl,Tr.weight]
 | .nd _ ts,p=>by simp [Tr.pl,Tr.weight,zob ts p 0];omega
theorem zob:∀(ts:List Tr) (p:List Int) (i:Nat),(pls p i ts).length=wts ts
 | [],p,i=>by simp [pls,wts]
 |t::ts,p,i=>by simp [pls,wts,zsl t,zob ts p (i+1)]
end
theorem zmu{p:List Int}{i:Int}{S:Sto}{Q:WK}:zda (zaZ p) (.tup [.int i]) S Q=(p.length+1≤sizeLine∧Q (zaZ (p++[i])) S):=by
 unfold zaZ;rw [zgL];simp
mutual
theorem zjb:∀(t:Tr) {r:Nat}{p:List Int}{a:Addr}{xs:List W}{S:Sto}{Q:WK}{E:Str→Sto→Prop},t.depth≤r→S a=some (.lst xs)→xs.length+t.weight≤1000000→p.length+t.depth≤1000000→
  Q .non (put S a (.lst (xs++(t.pl p).map zaZ)))→zaJ (r+1) [enc t,zaZ p, .ref a] S Q E
 | .bl n,r,p,a,xs,S,Q,E,hr,ha,hx,hp,h=>by
  obtain⟨r,rfl⟩:∃r',r=r'+1:=⟨r - 1,by simp [Tr.depth]at hr;omega⟩
  rw [zaJ];walk_at "wp";simp only[zag ha,true_and];simp [Tr.weight]at hx;refine⟨zbu (by omega),?_⟩;refine zgr ?_;simp only[Tr.kids,encs,zhY,forL];simp only[Tr.pl,List.map_cons,List.map_nil]at h;exact⟨_, .refl,h⟩
 | .nd s ts,r,p,a,xs,S,Q,E,hr,ha,hx,hp,h=>by
  simp only[Tr.depth]at hr hp;simp only[Tr.weight]at hx;obtain⟨r,rfl⟩:∃r',r=r'+1:=⟨r - 1,by omega⟩
  rw [zaJ];walk_at "wp";simp only[zag ha,true_and];refine⟨zbu (by omega),?_⟩;refine zgr ?_;dsimp only[Tr.kids];refine zhK ts (xs:=xs++[zaZ p]) (by omega) zah (by simp;omega) (by omega) fun x y=>?_;rw [zbg];refine⟨_, .refl,?_⟩;simpa [Tr.pl,List.append_assoc]using h
theorem zhK:∀(ts:List Tr) {r:Nat}{p:List Int}{i:Nat}{a:Addr}{xs:List W}{S:Sto}{E:WX}{D:WEnds}{t0 x y:Option W},dts ts≤r→S a=some (.lst xs)→xs.length+wts ts≤1000000→p.length+1+dts ts≤1000000→
  (∀x y,D.nx [t0,some (zaZ p),some (.ref a),x,y] (put S a (.lst (xs++(pls p i ts).map zaZ))))→
  forL (wGT (zaA (wGN 3) (zaA (wGN 4) zdw))) (zcs (r+1) (zaJ (r+1))) E D (fun _=>True) (zhY i (encs ts)) [t0,some (zaZ p),some (.ref a),x,y] S
 | [],r,p,i,a,xs,S,E,D,t0,x,y,hr,ha,hx,hp,h=>by
  simp only[encs,zhY,forL];have:=h x y;simp only[pls,List.map_nil,List.append_nil,zfE ha]at this;exact this
 |t::ts,r,p,i,a,xs,S,E,D,t0,x,y,hr,ha,hx,hp,h=>by
  simp only[dts]at hr hp;simp only[wts]at hx;simp only[encs,zhY,forL,zcs];walk_at "wp";rw [zmu];refine⟨zan (by omega),zan (by omega),zjb t (p:=p++[(i:Int)]) (by omega) ha (by omega) (by simp;omega) ?_⟩;refine⟨_, .refl,zhK ts (by omega) zah (by simp [zsl];omega) (by omega) fun x y=>?_⟩;rw [zbg];simpa [pls,List.append_assoc]using h x y
end
theorem znN{t:Tr}{r:Nat}{S:Sto}{Q:WK}{E:Str→Sto→Prop}(hr:t.depth+1≤r) (hw:t.weight≤100000) (hd:t.depth≤100000) (h:∀a,S a=none→Q (.ref a) (put S a (.lst ((t.pl []).map zaZ)))):zfs (r+1) [enc t] S Q E:=by
 obtain⟨r,rfl⟩:∃r',r=r'+1:=⟨r - 1,by omega⟩
 rw [zfs];walk_at "wp";refine⟨Nat.zero_le _,fun a ha=>⟨Nat.zero_le _,zjb t (p:=[]) (xs:=[]) (by omega) zah (by simp;omega) (by simp;omega) ?_⟩⟩;rw [zbg,List.nil_append];exact⟨_, .refl,h a ha⟩
noncomputable def Tr.at:Tr→List Int→Option Tr
 |t,[]=>some t
 | .bl _,_::_=>none
 | .nd _ ts,i::p=>if i<0 then none else match ts[i.toNat]? with
  |some u=>u.at p
  |none=>none
theorem zkQ{t u:Tr}{i:Int}{r:Nat}{S:Sto}{Q:WK}{E:Str→Sto→Prop}(hi:0≤i) (hu:t.kids[i.toNat]? =some u) (h:Q (enc u) S):zby (r+2) [enc t, .int i] S Q E:=by
 rw [zby];walk_at "wp";refine zgr ?_;have hl:i.toNat<t.kids.length:=(List.getElem?_eq_some_iff.mp hu).1;walk_at "wp";rw [zbj];rw [if_neg (by omega),if_neg (by omega)];have e:atI (encs t.kids) i=some (enc u):=by
  have q:=zbz (xs:=encs t.kids) (n:=i.toNat);rw [Int.toNat_of_nonneg hi]at q;rw [q,zaL,List.getElem?_map,hu];rfl
 rw [e];exact⟨S, .refl,h⟩
theorem zlo{p:List Int}:∀{t u:Tr}{r:Nat}{S:Sto}{E:WX}{D:WEnds}{x y z:Option W},t.at p=some u→(∀z,D.nx [x,y,some (enc u),z] S)→
  forL (wGN 3) (ziA (r+2) zaW) E D (fun _=>True) (p.map W.int) [x,y,some (enc t),z] S:=by
 induction p with
 |nil=>
  intro t u r S E D x y z e h;unfold Tr.at at e;cases e;exact h z
 |cons i p ih=>
  intro t u r S E D x y z e h;cases t with
  |bl n=>cases e
  |nd s ts=>
   unfold Tr.at at e;split at e
   ·cases e
   ·rename_i hi;split at e
    ·rename_i v ev;simp only[List.map_cons,forL,ziA];walk_at "wp";refine zkQ (t:= .nd s ts) (u:=v) (by omega) ev ⟨S, .refl,?_⟩;exact ih e h
    ·cases e
theorem ztj{t u:Tr}{p:List Int}{r:Nat}{S:Sto}{Q:WK}{E:Str→Sto→Prop}(e:t.at p=some u) (h:Q (enc u) S):zjg (r+3) [enc t,zaZ p] S Q E:=by
 rw [zjg];walk_at "wp";unfold zaZ;dsimp only;exact zlo e fun z=>⟨S, .refl,h⟩
noncomputable def Low (c:Nat):Prop:=97≤c∧c≤122
noncomputable def zea (x:Str):Prop:=1≤x.cps.toList.length∧x.cps.toList.length≤8∧ ∀c∈x.cps.toList,Low c
noncomputable def zdB (x:Str):Prop:=∃c r,x.cps.toList=c::r∧65≤c∧c≤90∧r.length≤7∧ ∀d∈r,Low d
theorem ztm:(Str.ofString "abcdefghijklmnopqrstuvwxyz").cps.toList=List.range' 97 26:=by decide +kernel
theorem zvG:(Str.ofString "abcdefghijklmnopqrstuvwxyz").length=26:=by decide +kernel
theorem zkj:∀cs:List Nat,(Str.join (Str.ofString "") (cs.map fun c=>(⟨#[c]⟩:Str))).cps.toList=cs
 | []=>rfl
 | [c]=>rfl
 |c::d::r=>by
  have ih:=zkj (d::r);show((⟨#[c]⟩:Str)++Str.ofString "" ++Str.join (Str.ofString "") ((d::r).map fun c=>(⟨#[c]⟩:Str))).cps.toList=_;show(#[c]++(Str.ofString "").cps++(Str.join (Str.ofString "") ((d::r).map fun c=>(⟨#[c]⟩:Str))).cps).toList=_;rw [Array.toList_append,Array.toList_append,ih];rfl
theorem zqF (cs:List Nat):((cs.map fun c=>(⟨#[c]⟩:Str)).map (·.length)).sum=cs.length:=by
 induction cs with
 |nil=>rfl
 |cons c r ih=>
  rw [List.map_cons,List.map_cons,List.sum_cons,ih,List.length_cons];show 1+r.length=r.length+1;omega
theorem zhr:∀cs:List Nat,zge (cs.map fun c=>W.str ⟨#[c]⟩)=some (cs.map fun c=>(⟨#[c]⟩:Str))
 | []=>rfl
 |c::cs=>by rw [List.map_cons,zge,zhr cs];rfl
theorem znX (cs:List Nat) (h:cs.length≤1000):(List.map (fun x=>x.length) (cs.map fun c=>(⟨#[c]⟩:Str))).sum+(cs.map fun c=>(⟨#[c]⟩:Str)).length*(Str.ofString "").length≤16777216:=by
 have e:=zqF cs;have z:(Str.ofString "").length=0:=by decide +kernel
 rw [e,z];omega
theorem zlP{lo:Int}{n:Nat}:(zmZ lo n).length=n:=by simp [zmZ]
theorem zov{α:Type}{xs:List α}(n:Int) (h:xs≠ []):∃(i:Nat) (x:α),xs[i]? =some x∧atI xs (n % (xs.length:Int))=some x:=by
 have hp:0<xs.length:=List.length_pos_iff.mpr h;have h0:0≤n % (xs.length:Int):=Int.emod_nonneg _ (by omega);have h1:n % (xs.length:Int)<(xs.length:Int):=Int.emod_lt_of_pos _ (by omega);have hlt:(n % (xs.length:Int)).toNat<xs.length:=by omega
 refine⟨(n % (xs.length:Int)).toNat,xs[(n % (xs.length:Int)).toNat],List.getElem?_eq_getElem hlt,?_⟩;have e:=zoP (xs:=xs) (j:=(n % (xs.length:Int)).toNat) (v:=xs[(n % (xs.length:Int)).toNat]) (List.getElem?_eq_getElem hlt);rw [Int.toNat_of_nonneg h0]at e;exact e
theorem zgP (ts us:List Tr):encs (ts++us)=encs ts++encs us:=by rw [zaL,zaL,zaL,List.map_append]
mutual
noncomputable def Tr.plt (p:List Int):Tr→List (List Int×Tr)
 | .bl n=>[(p, .bl n)]
 | .nd s ts=>(p, .nd s ts)::zhZ p 0 ts
noncomputable def zhZ (p:List Int) (i:Nat):List Tr→List (List Int×Tr)
 | []=>[]
 |t::ts=>t.plt (p++[(i:Int)])++zhZ p (i+1) ts
end
mutual
theorem znP:∀(t:Tr) (p:List Int),(t.plt p).map (·.1)=t.pl p
 | .bl _,p=>by simp [Tr.plt,Tr.pl]
 | .nd _ ts,p=>by simp [Tr.plt,Tr.pl,zmA ts p 0]
theorem zmA:∀(ts:List Tr) (p:List Int) (i:Nat),(zhZ p i ts).map (·.1)=pls p i ts
 | [],p,i=>by simp [zhZ,pls]
 |t::ts,p,i=>by simp [zhZ,pls,znP t,zmA ts p (i+1)]
end
mutual
theorem zkW:∀(t:Tr) (p:List Int),(t.plt p).length=t.weight
 | .bl _,p=>by simp [Tr.plt,Tr.weight]
 | .nd _ ts,p=>by simp [Tr.plt,Tr.weight,zlY ts p 0];omega
theorem zlY:∀(ts:List Tr) (p:List Int) (i:Nat),(zhZ p i ts).length=wts ts
 | [],p,i=>by simp [zhZ,wts]
 |t::ts,p,i=>by simp [zhZ,wts,zkW t,zlY ts p (i+1)]
end
theorem zoF{s:Str}{ts:List Tr}{i:Nat}{q:List Int}{u:Tr}(h:ts[i]? =some u):(Tr.nd s ts).at ((i:Int)::q)=u.at q:=by
 rw [Tr.at,if_neg (by omega)];simp [h]
mutual
theorem zml:∀(t:Tr) (p q:List Int) (u:Tr),(q,u)∈t.plt p→ ∃r,q=p++r∧t.at r=some u∧r.length<t.depth
 | .bl n,p,q,u,h=>by
  simp only[Tr.plt,List.mem_singleton,Prod.mk.injEq]at h;obtain⟨rfl,rfl⟩:=h;exact⟨[],by simp,by simp [Tr.at],by simp [Tr.depth]⟩
 | .nd s ts,p,q,u,h=>by
  simp only[Tr.plt,List.mem_cons,Prod.mk.injEq]at h;rcases h with⟨rfl,rfl⟩ |h
  ·exact⟨[],by simp,by simp [Tr.at],by simp [Tr.depth];omega⟩
  ·obtain⟨j,v,r,h1,h2,h3,h4⟩:=zpU ts p 0 q u h;refine⟨(j:Int)::r,by rw [h2];simp,by rw [zoF h1];exact h3,by simp [Tr.depth];omega⟩
theorem zpU:∀(ts:List Tr) (p:List Int) (i:Nat) (q:List Int) (u:Tr),(q,u)∈zhZ p i ts→ ∃(j:Nat) (v:Tr) (r:List Int),ts[j]? =some v∧q=p++[((i+j:Nat):Int)]++r∧v.at r=some u∧r.length<dts ts
 | [],p,i,q,u,h=>by simp [zhZ]at h
 |t::ts,p,i,q,u,h=>by
  simp only[zhZ,List.mem_append]at h;rcases h with h |h
  ·obtain⟨r,h1,h2,h3⟩:=zml t _ q u h;exact⟨0,t,r,rfl,by simpa using h1,h2,by simp [dts];omega⟩
  ·obtain⟨j,v,r,h1,h2,h3,h4⟩:=zpU ts p (i+1) q u h;refine⟨j+1,v,r,by simpa using h1,?_,h3,by simp [dts];omega⟩
   rw [h2,show i+1+j=i+(j+1) by omega]
end
theorem keep{S:Sto}{a p:Addr}{o x:Ob}(f:S a=some o) (h:S p=none):put S p x a=some o:=by rw [zaD (zue f h)];exact f
theorem zdt{u:Tr}:∀{ts:List Tr},u∈ts→u.depth≤dts ts
 |t::ts,h=>by
  rcases List.mem_cons.mp h with rfl |h
  ·simp [dts];omega
  ·have:=zdt h;simp [dts];omega
theorem zaO{α:Type}{g:WG}{e:WE}{E:WX}{G:Sto→Prop}{Q:List W→Sto→Prop}{S:Sto}(I:WSt→Prop) (k f:α→W) (hG:G S):∀(xs:List α) (acc:List W) (σ:WSt),I σ→acc.length+xs.length≤1000000→
  (∀x∈xs,∀σ (R:WSt→W→Sto→Prop),I σ→(∀σ1 S3,I σ1→Sub S S3→R σ1 (f x) S3)→g (k x) σ S fun σ1 S1=>e E σ1 S1 fun y S3=>R σ1 y S3)→
  Q (acc++xs.map f) S→zez g zgz e E G Q (xs.map k) acc σ S
 | [],acc,σ,hI,hl,step,hQ=>by simpa [zez]using hQ
 |x::xs,acc,σ,hI,hl,step,hQ=>by
  simp only[List.map_cons,zez,zgz,if_true];simp only[List.length_cons]at hl;refine step x List.mem_cons_self σ _ hI fun σ1 S3 hI1 sb=>⟨zbu (by omega),S,sb,hG,zaO I k f hG xs (acc++[f x]) σ1 hI1 (by simp;omega) (fun y hy=>step y (List.mem_cons_of_mem _ hy)) ?_⟩;simpa using hQ
theorem zgY{α:Type}{g:WG}{c:WT}{e:WE}{E:WX}{G:Sto→Prop}{Q:List W→Sto→Prop}{S:Sto}(I:WSt→Prop) (k f:α→W) (P:α→Bool) (hG:G S):∀(xs:List α) (acc:List W) (σ:WSt),I σ→acc.length+xs.length≤1000000→
  (∀x∈xs,∀σ (R1:WSt→W→Sto→Prop) (R0:WSt→Sto→Prop),I σ→(P x=true→ ∀σ1 S3,I σ1→Sub S S3→R1 σ1 (f x) S3)→(P x=false→ ∀σ1 S3,I σ1→Sub S S3→R0 σ1 S3)→
   g (k x) σ S fun σ1 S1=>c E σ1 S1 fun b S2=>if b=true then e E σ1 S2 fun y S3=>R1 σ1 y S3 else R0 σ1 S2)→
  Q (acc++(xs.filter P).map f) S→zez g c e E G Q (xs.map k) acc σ S
 | [],acc,σ,hI,hl,step,hQ=>by simpa [zez]using hQ
 |x::xs,acc,σ,hI,hl,step,hQ=>by
  simp only[List.map_cons,zez];simp only[List.length_cons]at hl;refine step x List.mem_cons_self σ _ _ hI (fun hp σ1 S3 hI1 sb=>⟨zbu (by omega),S,sb,hG,zgY I k f P hG xs (acc++[f x]) σ1 hI1 (by simp;omega) (fun y hy=>step y (List.mem_cons_of_mem _ hy)) ?_⟩)
   fun hp σ1 S3 hI1 sb=>⟨S,sb,hG,zgY I k f P hG xs acc σ1 hI1 (by omega) (fun y hy=>step y (List.mem_cons_of_mem _ hy)) ?_⟩
  ·rw [List.filter_cons_of_pos hp]at hQ;simpa using hQ
  ·rw [List.filter_cons_of_neg (by rw [hp];simp)]at hQ;exact hQ
noncomputable def Tr.isBl:Tr→Bool
 | .bl _=>true
 | .nd _ _=>false
noncomputable def Tr.num:Tr→Int
 | .bl n=>n
 | .nd _ _=>0
noncomputable def Tr.bls (t:Tr):List (List Int×Tr):=(t.plt []).filter fun x=>x.2.isBl
theorem zow{t:Tr}{x:List Int×Tr}(h:x∈t.bls):t.at x.1=some x.2∧x.2= .bl x.2.num∧x.1.length<t.depth:=by
 obtain⟨h1,h2⟩:=List.mem_filter.mp h;obtain⟨r,h3,h4,h5⟩:=zml t [] x.1 x.2 h1;simp at h3;subst h3;refine⟨h4,?_,h5⟩;obtain⟨p,u⟩:=x;cases u with
 |bl n=>rfl
 |nd s ts=>simp [Tr.isBl]at h2
theorem ztq (t:Tr):t.bls.length≤t.weight:=by
 unfold Tr.bls;exact Nat.le_trans (List.length_filter_le ..) (by rw [zkW];exact Nat.le_refl _)
theorem znD{t:Tr}{r:Nat}{S:Sto}{Q:WK}{E:Str→Sto→Prop}(hr:t.depth+4≤r) (hw:t.weight≤90000) (h:∀a,S a=none→Q (.ref a) (put S a (.lst (t.bls.map fun x=>zaZ x.1)))):zbM (r+1) [enc t] S Q E:=by
 have hd:=zen t;obtain⟨r,rfl⟩:∃r',r=r'+3:=⟨r - 3,by omega⟩
 rw [zbM];walk_at "wp";refine znN (by omega) (by omega) (by omega) fun a ha=>?_;walk_at "wp";rw [←znP,List.map_map];refine zgY (fun σ=>∃x,σ=[x,some (enc t)]) (fun x=>zaZ x.1) (fun x=>zaZ x.1) (fun x=>x.2.isBl) ?_ (t.plt []) [] _ ⟨none,rfl⟩ (by simp [zkW];omega) (fun x hx σ R1 R0 hI h1 h0=>?_) ?_
 ·exact zah
 ·obtain⟨y,rfl⟩:=hI;obtain⟨q,h3,h4,h5⟩:=zml t [] x.1 x.2 hx;simp at h3;subst h3;walk_at "wp";refine ztj h4 ?_;obtain⟨p,u⟩:=x;cases u with
  |bl n=>
   simp only[enc];walk_at "wp";exact h1 rfl _ _ ⟨_,rfl⟩ .refl
  |nd s ts=>
   simp only[enc];walk_at "wp";exact h0 rfl _ _ ⟨_,rfl⟩ .refl
 ·rw [List.nil_append];intro b hb;obtain⟨hb1,hb2⟩:=zdU hb;exact⟨_, .put2 (.put .refl ha),h b hb1⟩
mutual
noncomputable def Tr.fill (us:List Tr):Tr→Tr
 | .bl n=>us.getD n.toNat (.bl n)
 | .nd s ts=> .nd s (fills us ts)
noncomputable def fills (us:List Tr):List Tr→List Tr
 | []=>[]
 |t::ts=>t.fill us::fills us ts
end
mutual
noncomputable def Tr.fits (m:Nat):Tr→Prop
 | .bl n=>0≤n∧n<m
 | .nd _ ts=>fitss m ts
noncomputable def fitss (m:Nat):List Tr→Prop
 | []=>True
 |t::ts=>t.fits m∧fitss m ts
end
theorem zgX (us:List Tr):∀ts:List Tr,fills us ts=ts.map (Tr.fill us)
 | []=>by simp [fills]
 |t::ts=>by simp [fills,zgX us ts]
theorem zhn{m:Nat}{t:Tr}:∀{ts:List Tr},fitss m ts→t∈ts→t.fits m
 |u::ts,h,hm=>by
  simp only[fitss]at h;rcases List.mem_cons.mp hm with rfl |hm
  ·exact h.1
  ·exact zhn h.2 hm
theorem zhp{us:List Tr}{a:Addr}:∀(d:Nat) {t:Tr}{r:Nat}{S:Sto}{Q:WK}{E:Str→Sto→Prop},t.depth≤d→d≤r+1→S a=some (.lst (encs us))→t.fits us.length→t.weight≤90000→Q (enc (t.fill us)) S→zcM (r+1) [enc t, .ref a] S Q E
 |0,t,r,S,Q,E,hd,hr,ha,hf,hw,h=>by have:=zcl t;omega
 |d+1, .bl n,r,S,Q,E,hd,hr,ha,hf,hw,h=>by
  simp only[Tr.fits]at hf;simp only[Tr.fill]at h;rw [zcM];simp only[enc];walk_at "wp";have e:atI (encs us) n=some (enc (us.getD n.toNat (.bl n))):=by
   have q:=zbz (xs:=encs us) (n:=n.toNat);rw [Int.toNat_of_nonneg hf.1]at q;rw [q,zaL,List.getElem?_map,List.getD_eq_getElem?_getD,List.getElem?_eq_getElem (by omega)];rfl
  rw [zag ha,e];exact⟨S, .refl,h⟩
 |d+1, .nd s ts,r,S,Q,E,hd,hr,ha,hf,hw,h=>by
  simp only[Tr.fits]at hf;simp only[Tr.fill]at h;simp only[Tr.depth]at hd;simp only[Tr.weight]at hw;have hk:=zcT ts;rw [zcM];simp only[enc]at h⊢;walk_at "wp";refine⟨zan (by decide),?_⟩;rw [zaL];refine zaO (fun σ=>∃x,σ=[x,some (.ref a)]) enc (fun t=>enc (t.fill us)) trivial ts [] _ ⟨none,rfl⟩ (by simp;omega) (fun x hx σ R hI hR=>?_) ?_
  ·obtain⟨y,rfl⟩:=hI;have hdx:=zdt hx;have hwx:=zdK hx;have:=zcl x;obtain⟨r,rfl⟩:∃r',r=r'+1:=⟨r - 1,by omega⟩
   simp only[zhN];walk_at "wp";exact zhp d (t:=x) (r:=r) (by omega) (by omega) ha (zhn hf hx) (by omega) (hR _ _ ⟨_,rfl⟩ .refl)
  ·rw [List.nil_append];refine⟨zan (by simp;omega),S, .refl,?_⟩;have e:encs (fills us ts)=ts.map fun t=>enc (t.fill us):=by rw [zaL,zgX,List.map_map];rfl
   rw [e]at h;exact h
theorem zuX (t:Tr):t.at []=some t:=by cases t<;>rfl
theorem zyn{s:Str}{ts:List Tr}{i:Int}{p:List Int}{u:Tr}(h:(Tr.nd s ts).at (i::p)=some u):∃v,0≤i∧ts[i.toNat]? =some v∧v.at p=some u:=by
 unfold Tr.at at h;split at h
 ·cases h
 ·split at h
  ·exact⟨_,by omega, ‹_›,h⟩
  ·cases h
theorem zso:∀(q:List Int) {D t:Tr}(r:List Int),D.at q=some t→D.at (q++r)=t.at r
 | [],D,t,r,h=>by rw [zuX]at h;cases h;rfl
 |i::q, .bl n,t,r,h=>by cases h
 |i::q, .nd s ts,t,r,h=>by
  obtain⟨v,h0,h1,h2⟩:=zyn h;rw [List.cons_append];have e:(i:Int)=((i.toNat:Nat):Int):=(Int.toNat_of_nonneg h0).symm;rw [e,zoF h1];exact zso q r h2
mutual
noncomputable def Tr.same:Tr→Tr→Bool
 | .bl n, .bl m=>n == m
 | .nd s ts, .nd z us=>s == z&&zgn ts us
 |_,_=>false
noncomputable def zgn:List Tr→List Tr→Bool
 | [],[]=>true
 |t::ts,u::us=>t.same u&&zgn ts us
 |_,_=>false
end
mutual
theorem zmr:∀(t u:Tr),t.same u=true↔t=u
 | .bl n, .bl m=>by simp [Tr.same]
 | .nd s ts, .nd z us=>by simp [Tr.same,zjf ts us]
 | .bl n, .nd z us=>by simp [Tr.same]
 | .nd s ts, .bl m=>by simp [Tr.same]
theorem zjf:∀(ts us:List Tr),zgn ts us=true↔ts=us
 | [],[]=>by simp [zgn]
 |t::ts,u::us=>by simp [zgn,zmr t u,zjf ts us]
 | [],u::us=>by simp [zgn]
 |t::ts,[]=>by simp [zgn]
end
theorem zfH (t:Tr):t.same t=true:=(zmr t t).mpr rfl
theorem zsr{S:Sto}{n:Nat}{xs ys:List W}:eqF S (n+1) (.tup xs) (.tup ys)=zdI (eqF S n) xs ys:=Eq.trans (b:=zdI (eqF S n) xs ys) rfl rfl
theorem zuE{S:Sto}{n:Nat}{x y:Str}:eqF S (n+1) (.str x) (.str y)=some (x == y):=Eq.trans (b:=some (x == y)) rfl rfl
theorem zsq{S:Sto}{n:Nat}{x y:Int}:eqF S (n+1) (.int x) (.int y)=some (x == y):=Eq.trans (b:=some (x == y)) rfl rfl
theorem zwe{S:Sto}{n:Nat}{x:Int}{ys:List W}:eqF S (n+1) (.int x) (.tup ys)=some false:=Eq.trans (b:=some false) rfl rfl
theorem zuV{S:Sto}{n:Nat}{x:Int}{ys:List W}:eqF S (n+1) (.tup ys) (.int x)=some false:=Eq.trans (b:=some false) rfl rfl
mutual
theorem zoZ{S:Sto}:∀(n:Nat) (t u:Tr),t.depth<n→eqF S n (enc t) (enc u)=some (t.same u)
 |0,t,u,h=>by omega
 |n+1, .bl k, .bl m,h=>by simp only[enc,zsq,Tr.same]
 |n+1, .nd s ts, .nd z us,h=>by
  simp only[Tr.depth]at h;obtain⟨n,rfl⟩:∃m,n=m+1:=⟨n - 1,by omega⟩
  simp only[enc,zsr,zdI,zuE,Tr.same];rw [zsf (n+1) ts us (by omega)]
 |n+1, .bl k, .nd z us,h=>by simp only[enc,zwe,Tr.same]
 |n+1, .nd s ts, .bl m,h=>by simp only[enc,zuV,Tr.same]
theorem zsf{S:Sto}:∀(n:Nat) (ts us:List Tr),dts ts<n→zdI (eqF S n) (encs ts) (encs us)=some (zgn ts us)
 |n,[],[],h=>by simp only[encs,zdI,zgn]
 |n,[],u::us,h=>by simp only[encs,zdI,zgn]
 |n,t::ts,[],h=>by simp only[encs,zdI,zgn]
 |n,t::ts,u::us,h=>by
  simp only[dts]at h;simp only[encs,zdI,zgn,zoZ n t u (by omega),zsf n ts us (by omega)]
end
theorem znd (n:Int):n % 2=0∨n % 2=1:=by omega
theorem zjE (j:Int) (m:Nat):zmZ j (m+1)= .int j::zmZ (j+1) m:=by
 unfold zmZ;rw [List.range_succ_eq_map,List.map_cons,List.map_map];congr 1
 ·simp
 ·apply List.map_congr_left;intro i _;simp only[Function.comp,W.int.injEq];omega
theorem zks{α:Type}{xs:List α}{i:Int}(h0:0≤i) (h1:i<xs.length):∃x,atI xs i=some x∧x∈xs:=by
 have q:=zbz (xs:=xs) (n:=i.toNat);rw [Int.toNat_of_nonneg h0,List.getElem?_eq_getElem (by omega)]at q;exact⟨_,q,List.getElem_mem ..⟩
theorem ztv{ss:List Str}{i:Int}(h0:0≤i) (h1:i<ss.length):∃x,atI (ss.map W.str) i=some (.str x)∧x∈ss:=by
 obtain⟨w,h,m⟩:=zks (xs:=ss.map W.str) h0 (by simpa using h1);obtain⟨x,hx,rfl⟩:=List.mem_map.mp m;exact⟨x,h,hx⟩
theorem ziv{g:WG}{b:WS}{E:WX}{D:WEnds}(I:Nat→WSt→Sto→Prop) (n:Nat)
  (step:∀i,i<n→ ∀σ S (N:WSt→Sto→Prop),I i σ S→(∀σ' S' S'',Sub S'' S'→I (i+1) σ' S''→N σ' S')→g (.int i) σ S fun σ1 S1=>b E { D with nx:=N,ct:=N,bk:=D.nx } σ1 S1)
  (done:∀σ S,I n σ S→D.nx σ S) {σ:WSt}{S:Sto}(h:I 0 σ S):forL g b E D (fun _=>True) (zmZ 0 n) σ S:=by
 refine zkM (fun ws σ S=>∃i,i≤n∧ws=zmZ (i:Int) (n - i)∧I i σ S) ?_ ?_ _ _ _ ⟨0,Nat.zero_le _,rfl,h⟩
 ·rintro w ws σ S N ⟨i,hi,e,hI⟩ hN;obtain⟨m,hm⟩:∃m,n - i=m+1:=by
   rcases Nat.eq_zero_or_pos (n - i) with z |z
   ·rw [z]at e;cases e
   ·exact⟨n - i - 1,by omega⟩
  rw [hm,zjE]at e;cases e;exact step i (by omega) σ S N hI fun σ' S' S'' sb h'=>hN σ' S' S'' sb trivial ⟨i+1,by omega,by rw [show n - (i+1)=m by omega];push_cast;rfl,h'⟩
 ·rintro σ S ⟨i,hi,e,hI⟩;have:n - i=0:=by
   rcases Nat.eq_zero_or_pos (n - i) with z |z
   ·exact z
   ·obtain⟨m,hm⟩:∃m,n - i=m+1:=⟨n - i - 1,by omega⟩
    rw [hm,zjE]at e;cases e
  rw [show i=n by omega]at hI
  exact done σ S hI
mutual
theorem zhP{us:List Tr}{k:Nat}(hk:1≤k) (hu:∀u∈us,u.depth≤k):∀t:Tr,(t.fill us).depth≤t.depth+k
 | .bl n=>by
  simp only[Tr.fill,Tr.depth];rw [List.getD_eq_getElem?_getD];cases e:us[n.toNat]? with
  |none=>simp [Tr.depth]
  |some u=>
   have:=hu u (List.mem_of_getElem? e);simp only[Option.getD_some];omega
 | .nd s ts=>by
  have:=zgV hk hu ts;simp only[Tr.fill,Tr.depth];omega
theorem zgV{us:List Tr}{k:Nat}(hk:1≤k) (hu:∀u∈us,u.depth≤k):∀ts:List Tr,dts (fills us ts)≤dts ts+k
 | []=>by simp [fills,dts]
 |t::ts=>by
  have:=zhP hk hu t;have:=zgV hk hu ts;simp only[fills,dts];omega
end
theorem zkq{k:Nat}:∀{ts:List Tr},(∀t∈ts,t.depth≤k)→dts ts≤k
 | [],_=>by simp [dts]
 |t::ts,h=>by
  have:=h t List.mem_cons_self;have:=zkq (ts:=ts) fun u hu=>h u (List.mem_cons_of_mem _ hu);simp only[dts];omega
theorem zcc{g:WG}{b:WS}{E:WX}{D:WEnds}{G:Sto→Prop}{w:W}{ws:List W}{σ:WSt}{S:Sto}(h:∀N:WSt→Sto→Prop,(∀σ S S',Sub S' S→G S'→forL g b E D G ws σ S'→N σ S)→g w σ S fun σ1 S1=>b E { D with nx:=N,ct:=N,bk:=D.nx } σ1 S1):forL g b E D G (w::ws) σ S:=h _ fun σ S S' a c d=>⟨S',a,c,d⟩
mutual
noncomputable def Tr.mt:Tr→Tr→Option (List Tr)
 | .bl _,t=>some [t]
 | .nd s ls, .nd z us=>if s == z&&ls.length == us.length then mts ls us else none
 | .nd _ _, .bl _=>none
noncomputable def mts:List Tr→List Tr→Option (List Tr)
 | [],_=>some []
 |_::_,[]=>some []
 |l::ls,u::us=>match l.mt u with
  |none=>none
  |some xs=>match mts ls us with
   |none=>none
   |some ys=>some (xs++ys)
end
theorem zvk{s z:Str}{ls us:List Tr}{r:Nat}{S:Sto}{Q:WK}{E:Str→Sto→Prop}(h:Q (.bl (s == z&&ls.length == us.length)) S):zbJ (r+1) [enc (.nd s ls),enc (.nd z us)] S Q E:=by
 rw [zbJ];simp only[enc];walk_at "wp";cases e:s == z with
 |false=>
  rw [e]at h;exact⟨_, .refl,h⟩
 |true=>
  rw [e]at h;walk_at "wp";refine⟨_, .refl,?_⟩;have:(((encs ls).length+1:Nat):Int)=((encs us).length+1:Nat)↔ls.length=us.length:=by rw [zbj,zbj];omega
  have e2:((((encs ls).length+1:Nat):Int) == ((encs us).length+1:Nat))=(ls.length == us.length):=by
   rw [Bool.eq_iff_iff,beq_iff_eq,beq_iff_eq];exact this
  rw [e2];simpa using h
mutual
theorem zrI:∀(l t:Tr) (ys:List Tr),l.mt t=some ys→ys.length≤l.weight
 | .bl _,t,ys,h=>by simp only[Tr.mt,Option.some.injEq]at h;subst h;simp [Tr.weight]
 | .nd s ls, .nd z us,ys,h=>by
  simp only[Tr.mt]at h;split at h
  ·have:=zpK ls us ys h;simp only[Tr.weight];omega
  ·cases h
 | .nd _ _, .bl _,ys,h=>by simp [Tr.mt]at h
theorem zpK:∀(ls us ys:List Tr),mts ls us=some ys→ys.length≤wts ls
 | [],us,ys,h=>by simp only[mts,Option.some.injEq]at h;subst h;simp
 |l::ls,[],ys,h=>by simp only[mts,Option.some.injEq]at h;subst h;simp
 |l::ls,u::us,ys,h=>by
  simp only[mts]at h;split at h
  ·cases h
  ·rename_i xs e1;split at h
   ·cases h
   ·rename_i zs e2;cases h;have:=zrI l u xs e1;have:=zpK ls us zs e2;simp only[List.length_append,wts];omega
end
theorem zhA{r:Nat}{a:Addr}{E:WX}{D:WEnds}{x0 x1:Option W}:∀(ls us:List Tr)
  (one:∀l∈ls,∀{t:Tr}{S:Sto}{xs:List W}{Q:WK}{E:Str→Sto→Prop},t.fits 0→S a=some (.lst xs)→xs.length+l.weight≤100000→(∀ys,l.mt t=some ys→Q (.bl true) (put S a (.lst (xs++encs ys))))→(l.mt t=none→ ∀ys,Q (.bl false) (put S a (.lst (xs++ys))))→zaz r [enc l,enc t, .ref a] S Q E)
  {S:Sto}{xs:List W}{x3 x4:Option W},fitss 0 us→S a=some (.lst xs)→xs.length+wts ls≤100000→
  (∀ys x3 x4,mts ls us=some ys→D.nx [x0,x1,some (.ref a),x3,x4] (put S a (.lst (xs++encs ys))))→(mts ls us=none→ ∀ys,D.rt (.bl false) (put S a (.lst (xs++ys))))→
  forL (wGT (zaA (wGN 3) (zaA (wGN 4) zdw))) (zce r (zaz r)) E D (fun _=>True) (pairs (encs ls) (encs us)) [x0,x1,some (.ref a),x3,x4] S
 | [],us,one,S,xs,x3,x4,hf,ha,hl,h1,h0=>by
  have q:=h1 [] x3 x4 (by simp [mts]);simp only[encs,List.append_nil,zfE ha]at q;simpa [encs,pairs,forL]using q
 |l::ls,[],one,S,xs,x3,x4,hf,ha,hl,h1,h0=>by
  have q:=h1 [] x3 x4 (by simp [mts]);simp only[encs,List.append_nil,zfE ha]at q;simpa [encs,pairs,forL]using q
 |l::ls,u::us,one,S,xs,x3,x4,hf,ha,hl,h1,h0=>by
  simp only[fitss]at hf;simp only[wts]at hl;simp only[encs,pairs];refine zcc fun N hN=>?_;simp only[zce];walk_at "wp";refine one l List.mem_cons_self hf.1 ha (by omega) (fun ys e=>?_) fun e ys=>?_
  ·walk_at "wp";have hyl:=zrI l u ys e;refine hN _ _ _ .refl trivial (zhA ls us (fun l' hl'=>one l' (List.mem_cons_of_mem _ hl')) hf.2 zah (by rw [List.length_append,zbj];omega) (fun zs x3 x4 e2=>?_) fun e2 zs=>?_)
   ·rw [zbg,List.append_assoc,←zgP];exact h1 _ _ _ (by simp only[mts,e,e2])
   ·rw [zbg,List.append_assoc];exact h0 (by simp only[mts,e,e2]) _
  ·walk_at "wp";exact h0 (by simp only[mts,e]) ys
theorem zlF{a:Addr}:∀(d:Nat) {l t:Tr}{r:Nat}{S:Sto}{xs:List W}{Q:WK}{E:Str→Sto→Prop},l.depth≤d→d≤r→t.fits 0→S a=some (.lst xs)→xs.length+l.weight≤100000→
  (∀ys,l.mt t=some ys→Q (.bl true) (put S a (.lst (xs++encs ys))))→(l.mt t=none→ ∀ys,Q (.bl false) (put S a (.lst (xs++ys))))→zaz (r+1) [enc l,enc t, .ref a] S Q E
 |0,l,t,r,S,xs,Q,E,hd,hr,hf,ha,hl,h1,h0=>by have:=zcl l;omega
 |d+1, .bl n,t,r,S,xs,Q,E,hd,hr,hf,ha,hl,h1,h0=>by
  have hw:=zfW (.bl n);rw [zaz];simp only[enc];walk_at "wp";simp only[zag ha,true_and];refine⟨zbu (by omega),_, .refl,?_⟩;have:=h1 [t] (by simp [Tr.mt]);simpa only[encs]using this
 |d+1, .nd s ls, .bl n,r,S,xs,Q,E,hd,hr,hf,ha,hl,h1,h0=>by
  simp only[Tr.fits]at hf;omega
 |d+1, .nd s ls, .nd z us,r,S,xs,Q,E,hd,hr,hf,ha,hl,h1,h0=>by
  simp only[Tr.fits]at hf;simp only[Tr.depth]at hd;simp only[Tr.weight]at hl;obtain⟨r,rfl⟩:∃r',r=r'+1:=⟨r - 1,by omega⟩
  have en:∀s ts,enc (.nd s ts)= .tup (.str s::encs ts):=fun s ts=>by simp [enc]
  rw [zaz];walk_at "wp";rw [en,en];walk_at "wp";rw [←en,←en];refine zvk ?_;rw [en,en];walk_at "wp";simp only[Tr.mt]at h1 h0;cases e:(s == z&&ls.length == us.length) with
  |false=>
   rw [e]at h0;have:=h0 (by simp) [];rw [List.append_nil,zfE ha]at this;exact⟨_, .refl,this⟩
  |true=>
   rw [e]at h0 h1;simp only[if_true]at h0 h1;walk_at "wp";refine zhA ls us (fun l hl' {t S xs Q E} f1 f2 f3 f4 f5=>zlF d (by have:=zdt hl';omega) (by omega) f1 f2 f3 f4 f5) hf ha (by omega) (fun ys x3 x4 e=>?_) fun e ys=>?_
   ·walk_at "wp";exact⟨_, .refl,h1 ys e⟩
   ·exact⟨_, .refl,h0 e ys⟩
theorem zey{l t:Tr}{r:Nat}{S:Sto}{Q:WK}{E:Str→Sto→Prop}(hr:l.depth<r) (hf:t.fits 0) (hw:l.weight≤90000) (h1:∀ys,l.mt t=some ys→ ∀a,S a=none→Q (.ref a) (put S a (.lst (encs ys)))) (h0:l.mt t=none→Q .non S):zbG (r+1) [enc l,enc t] S Q E:=by
 obtain⟨r,rfl⟩:∃r',r=r'+1:=⟨r - 1,by omega⟩
 rw [zbG];walk_at "wp";refine⟨Nat.zero_le _,fun a ha=>zlF l.depth (Nat.le_refl _) (by omega) hf zah (by simpa using(by omega:l.weight≤100000)) (fun ys e=>?_) fun e ys=>?_⟩
 ·walk_at "wp";exact⟨_, .refl,h1 ys e a ha⟩
 ·walk_at "wp";exact⟨_, .put .refl ha,h0 e⟩
mutual
theorem zkn:∀(l t:Tr) (ys:List Tr),l.mt t=some ys→wts ys≤t.weight
 | .bl _,t,ys,h=>by simp only[Tr.mt,Option.some.injEq]at h;subst h;simp [wts]
 | .nd s ls, .nd z us,ys,h=>by
  simp only[Tr.mt]at h;split at h
  ·have:=zie ls us ys h;simp only[Tr.weight];omega
  ·cases h
 | .nd _ _, .bl _,ys,h=>by simp [Tr.mt]at h
theorem zie:∀(ls us ys:List Tr),mts ls us=some ys→wts ys≤wts us
 | [],us,ys,h=>by simp only[mts,Option.some.injEq]at h;subst h;simp [wts]
 |l::ls,[],ys,h=>by simp only[mts,Option.some.injEq]at h;subst h;simp [wts]
 |l::ls,u::us,ys,h=>by
  simp only[mts]at h;split at h
  ·cases h
  ·rename_i xs e1;split at h
   ·cases h
   ·rename_i zs e2;cases h;have:=zkn l u xs e1;have:=zie ls us zs e2;simp only[zeu,wts];omega
end
noncomputable def zsp (c:Nat):Bool:=decide (97≤c)&&decide (c≤122)
noncomputable def small (xs:List Nat):Bool:=xs.all zsp
theorem zlW (x:Str):(Txt.slice x (some 1) none).cps.toList=x.cps.toList.drop 1:=by
 rw [zoH];unfold zxa;rw [HT.sIx_none];have ez:HT.sIx x.cps.toList.length 0 (some 1)=min 1 x.cps.toList.length:=HT.sIx_nat x.cps.toList.length 0 1;rw [ez];by_cases h:1≤x.cps.toList.length
 ·rw [Nat.min_eq_left h,List.take_of_length_le (by rw [List.length_drop];exact Nat.le_refl _)]
 ·have:x.cps.toList=[]:=List.eq_nil_of_length_eq_zero (by omega);rw [this];rfl
theorem zlc (x:Str):x.length=x.cps.toList.length:=by simp [Str.length]
theorem zul{t:Tr}{x:List Int×Tr}(h:x∈t.plt []):t.at x.1=some x.2∧x.1.length<t.depth:=by
 obtain⟨q,h3,h4,h5⟩:=zml t [] x.1 x.2 h;simp at h3;subst h3;exact⟨h4,h5⟩
theorem zfI{α:Type}{g:WG}{b:WS}{E:WX}{D:WEnds}{G:Sto→Prop}{S:Sto}(hG:G S) (I:WSt→Prop) (key:α→W) (f:α→Option W):∀(xs:List α) (σ:WSt),I σ→
  (∀x∈xs,∀σ (N:WSt→Sto→Prop),I σ→(f x=none→ ∀σ' S',I σ'→Sub S S'→N σ' S')→(∀w,f x=some w→ ∀S',Sub S S'→D.rt w S')→g (key x) σ S fun σ1 S1=>b E { D with nx:=N,ct:=N,bk:=D.nx } σ1 S1)→
  (xs.findSome? f=none→ ∀σ,I σ→D.nx σ S)→(∀w,xs.findSome? f=some w→ ∀S',Sub S S'→D.rt w S')→forL g b E D G (xs.map key) σ S
 | [],σ,hI,step,done,ret=>by
  have:=done rfl σ hI;simpa [forL]using this
 |x::xs,σ,hI,step,done,ret=>by
  rw [List.map_cons];refine zcc fun N hN=>?_;refine step x List.mem_cons_self σ N hI (fun e σ' S' hI' sb=>?_) fun w e S' sb=>ret w (by rw [List.findSome?_cons,e]) S' sb;refine hN _ _ S sb hG (zfI hG I key f xs σ' hI' (fun y hy=>step y (List.mem_cons_of_mem _ hy)) (fun e2=>done (by rw [List.findSome?_cons,e];exact e2)) fun w e2=>ret w (by rw [List.findSome?_cons,e];exact e2))
noncomputable abbrev Tn:=Str×Tr×Tr
noncomputable def zbe (t:Tn):W:= .tup [.str t.1,enc t.2.1,enc t.2.2]
noncomputable def Tn0:Tn:=("", .bl 0, .bl 0)
noncomputable def lf (ts:List Tn) (j:Nat):Tr:=(ts.getD j Tn0).2.1
theorem znE (n:Nat):zmZ 0 n=(List.range n).map fun(i:Nat)=>W.int i:=by
 unfold zmZ;apply List.map_congr_left;intro i _;simp
theorem zhT{r:Nat}{a b:Addr}{ps:List W}{E:WX}{D:WEnds}{x0:Option W}(hba:b≠a):∀(ts:List Tr) {S:Sto}{us:List Tr}{x2:Option W},S a=some (.lst (encs us))→S b=some (.lst ps)→us.length+wts ts≤200000→
  (∀x2,D.nx [x0,some (.ref a),x2] (put S a (.lst (encs (us++ts.flatMap Tr.kids)))))→
  forL (wGN 2) (zcI (r+1) zaW) E D (fun S'=>S' b=some (.lst ps)) (encs ts) [x0,some (.ref a),x2] S
 | [],S,us,x2,ha,hb,hl,h=>by
  have:=h x2;simp only[List.flatMap_nil,List.append_nil,zfE ha]at this;simpa [encs,forL]using this
 |t::ts,S,us,x2,ha,hb,hl,h=>by
  simp only[wts]at hl;have hk:=zcT t.kids;have hw:=zdS t;simp only[encs];refine zcc fun N hN=>?_;simp only[zcI];walk_at "wp";simp only[zag ha,true_and];refine zgr ?_;walk_at "wp";rw [zag ha];refine⟨zan (by rw [zbj,zbj];omega),hN _ _ _ .refl (by rw [zaD hba];exact hb) ?_⟩;rw [←zgP];refine zhT hba ts zah (by rw [zaD hba];exact hb) (by rw [List.length_append];omega) fun x2=>?_;rw [zbg];have:=h x2;rw [List.flatMap_cons,←List.append_assoc]at this;exact this
theorem zld{ts:List Tr}{b:Addr}{r:Nat}{S:Sto}{Q:WK}{E:Str→Sto→Prop}(hb:S b=some (.lst (encs ts))) (hw:wts ts≤100000) (h:∀a,S a=none→Q (.ref a) (put S a (.lst (encs (ts.flatMap Tr.kids))))):zbL (r+2) [.ref b] S Q E:=by
 rw [zbL];walk_at "wp";refine⟨Nat.zero_le _,fun a ha=>?_⟩;have hba:=zue hb ha;rw [zag (keep hb ha)];refine zhT (us:=[]) hba ts (by simp [zah,encs]) (keep hb ha) (by simpa using(by omega:wts ts≤200000)) fun x2=>?_;rw [zbg];walk_at "wp";exact⟨_, .refl,h a ha⟩
noncomputable def Tr.small (t:Tr):Bool:=decide (t.weight≤400)&&decide (t.depth≤40)
theorem zfY{t:Tr}{r:Nat}{S:Sto}{Q:WK}{E:Str→Sto→Prop}(hw:t.weight≤90000) (h:Q (.bl t.small) S):zdy (r+3) [enc t] S Q E:=by
 rw [zdy];walk_at "wp";refine⟨zan (by decide),fun a ha=>?_⟩;refine⟨fun m σ S'=>∃(ts:List Tr) (k d:Nat) (b:Addr),m=wts ts∧k+wts ts=t.weight∧d+dts ts=t.depth∧k≤400∧d≤40∧S b=none∧S'=put S b (.lst (encs ts))∧σ=[some (enc t),some (.int k),some (.int d),some (.ref b)],⟨_,[t],0,0,a,rfl,by simp [wts],by simp [dts],by decide,by decide,ha,by simp [encs],rfl⟩,?_⟩
 rintro m σ S' ⟨ts,k,d,b,rfl,hwt,hk,hk4,hd4,hb,rfl,rfl⟩;walk_at "wp";cases ts with
 |nil=>
  simp only[encs,List.isEmpty_nil];walk_at "wp";simp only[dts,wts,Nat.add_zero]at hk hwt;have e:t.small=true:=by unfold Tr.small;rw [decide_eq_true (by omega),decide_eq_true (by omega)];rfl
  rw [e]at h;exact⟨_, .put .refl hb,h⟩
 |cons u us=>
  have hne:(encs (u::us)).isEmpty=false:=by simp [encs]
  rw [hne];have hfl:=zmC (u::us);have hdf:=zlV (ts:=u::us) (by simp);have hlw:=zcT (u::us);simp only[zgb];walk_at "wp";rw [zbj];have no:400<t.weight∨40<t.depth→ ∃S'',Sub S'' (put S b (Ob.lst (encs (u::us))))∧Q (W.bl false) S'':=fun z=>by
   have e:t.small=false:=by
    unfold Tr.small;rcases z with z |z
    ·rw [decide_eq_false (by omega)];rfl
    ·rw [decide_eq_false (p:=t.depth≤40) (by omega),Bool.and_false]
   rw [e]at h;exact⟨_, .put .refl hb,h⟩
  split
  ·exact no (.inl (by omega))
  ·split
   ·exact no (.inr (by omega))
   ·refine zld zah (by omega) fun c hc=>?_;obtain⟨hc1,hc2⟩:=zdU hc;refine⟨wts ((u::us).flatMap Tr.kids),put S c (.lst (encs ((u::us).flatMap Tr.kids))),by simp only[List.length_cons]at hfl;omega, .put2 (.put .refl hb),_,k+(u::us).length,d+1,c,rfl,by omega,by omega,by omega,by omega,hc1,rfl,?_⟩
    push_cast
    rfl
theorem zeT{ns:List Int}{k:Int}{r:Nat}{S:Sto}{Q:WK}{E:Str→Sto→Prop}(h0:0≤k) (h:∀n:Int,Q (.int n) S):zat (r+1) [.scr ns, .int k] S Q E:=by
 rw [zat];walk_at "wp";split
 ·obtain⟨x,e,_⟩:=zks (xs:=ns) (i:=k) h0 (by omega);rw [e];exact⟨S, .refl,h _⟩
 ·exact⟨S, .refl,h _⟩
noncomputable def lt (rs:List Int) (pos:Int) (k j:Nat):Nat:=97+((rs.getD j 0+(k:Int)*(if(0+(j:Int) == pos)=true then 1 else 0)) % 26).toNat
noncomputable def zfG (rs:List Int) (pos:Int) (k:Nat):List Nat:=(List.range rs.length).map (lt rs pos k)
noncomputable def wd0 (rs:List Int) (pos:Int) (k:Nat):Str:=Str.join (Str.ofString "") ((zfG rs pos k).map fun c=>(⟨#[c]⟩:Str))
noncomputable def wd1 (rs:List Int) (pos:Int) (k:Nat):Str:=Txt.upper ⟨#[lt rs pos k 0]⟩++Txt.slice (wd0 rs pos k) (some 1) none
noncomputable def wd (great:Bool) (rs:List Int) (pos:Int) (k:Nat):Str:=if great then wd1 rs pos k else wd0 rs pos k
theorem zih (rs:List Int) (pos:Int) (k j:Nat):Low (lt rs pos k j):=by
 have h0:=Int.emod_nonneg (rs.getD j 0+(k:Int)*(if(0+(j:Int) == pos)=true then 1 else 0)) (show(26:Int)≠0 by decide)
 have h1:=Int.emod_lt_of_pos (rs.getD j 0+(k:Int)*(if(0+(j:Int) == pos)=true then 1 else 0)) (show(0:Int)<26 by decide)
 unfold lt Low;omega
theorem zvO{n:Int}(h0:0≤n) (h1:n<26):atI (Str.ofString "abcdefghijklmnopqrstuvwxyz").cps.toList n=some (97+n.toNat):=by
 have e:=zbz (xs:=(Str.ofString "abcdefghijklmnopqrstuvwxyz").cps.toList) (n:=n.toNat);rw [Int.toNat_of_nonneg h0]at e;rw [e,ztm,List.getElem?_range' (by omega)];simp
theorem zgo (rs:List Int) (pos:Int) (k:Nat):(wd0 rs pos k).cps.toList=zfG rs pos k:=zkj _
theorem zhj (rs:List Int) (pos:Int) (k:Nat):(zfG rs pos k).length=rs.length:=by simp [zfG]
theorem zjO{rs:List Int}{pos:Int}{k c:Nat}(h:c∈zfG rs pos k):Low c:=by
 obtain⟨j,_,rfl⟩:=List.mem_map.mp h;exact zih rs pos k j
theorem znm{rs:List Int}(pos:Int) (k:Nat) (h:1≤rs.length):zfG rs pos k=lt rs pos k 0::(zfG rs pos k).drop 1:=by
 unfold zfG;obtain⟨n,hn⟩:∃n,rs.length=n+1:=⟨rs.length - 1,by omega⟩
 rw [hn,List.range_succ_eq_map];simp
theorem zkh{c:Nat}(h:Low c):Txt.upper ⟨#[c]⟩=⟨#[c - 32]⟩:=by
 unfold Low at h;rw [PySem.W.KOpn.upper_one (by omega),if_pos h]
theorem zmi{rs:List Int}(pos:Int) (k:Nat):(wd1 rs pos k).cps.toList=(lt rs pos k 0 - 32)::(zfG rs pos k).drop 1:=by
 unfold wd1;rw [zkh (zih _ _ _ _)];show((#[lt rs pos k 0 - 32]:Array Nat)++(Txt.slice (wd0 rs pos k) (some 1) none).cps).toList=_;rw [Array.toList_append,zlW,zgo];rfl
structure Base (rs:List Int) (pos:Int):Prop where
  l1:1≤rs.length
  l8:rs.length≤8
  p0:0≤pos
  p1:pos<rs.length
theorem zmJ{rs:List Int}{pos:Int}(b:Base rs pos) (k:Nat):zea (wd0 rs pos k):=by
 unfold zea;rw [zgo,zhj];exact⟨b.l1,b.l8,fun c hc=>zjO hc⟩
theorem zoC{rs:List Int}{pos:Int}(b:Base rs pos) (k:Nat):zdB (wd1 rs pos k):=by
 have:=zih rs pos k 0;have hl:=b.l8;unfold Low at this;refine⟨_,_,zmi pos k,by omega,by omega,by rw [List.length_drop,zhj];omega,fun d hd=>zjO (List.mem_of_mem_drop hd)⟩
theorem zyA{rs:List Int}{pos:Int}(b:Base rs pos) {k m:Nat}(hk:k<26) (hm:m<26) (h:k≠m):lt rs pos k pos.toNat≠lt rs pos m pos.toNat:=by
 have p0:=b.p0;have e:(0+((pos.toNat:Nat):Int) == pos)=true:=by rw [beq_iff_eq];omega
 unfold lt;rw [e,if_pos rfl];omega
theorem zuM{great:Bool}{rs:List Int}{pos:Int}(b:Base rs pos) {k m:Nat}(hk:k<26) (hm:m<26) (h:k≠m):wd great rs pos k≠wd great rs pos m:=by
 have hn:=zyA b hk hm h;have p0:=b.p0;have p1:=b.p1;intro e;have e':=congrArg (fun x:Str=>x.cps.toList) e;cases great with
 |false=>
  simp only[wd,Bool.false_eq_true,if_false,zgo]at e';have e2:=congrArg (fun l=>l[pos.toNat]?) e';simp only[zfG,List.getElem?_map,List.getElem?_range (show pos.toNat<rs.length by omega),Option.map_some,Option.some.injEq]at e2
  exact hn e2
 |true=>
  simp only[wd,if_true,zmi]at e';have e2:=congrArg (fun l=>l[pos.toNat]?) e';cases hp:pos.toNat with
  |zero=>
   rw [hp]at hn;have h1:=zih rs pos k 0;have h2:=zih rs pos m 0;unfold Low at h1 h2;simp only[hp,List.getElem?_cons_zero,Option.some.injEq]at e2;omega
  |succ n=>
   rw [hp]at hn;simp only[hp,List.getElem?_cons_succ,List.getElem?_drop,zfG,List.getElem?_map]at e2;rw [show 1+n=n+1 by omega,List.getElem?_range (show n+1<rs.length by omega)]at e2
   simp only[Option.map_some,Option.some.injEq]at e2;exact hn e2
noncomputable def zll (great:Bool) (ws:List Str):Prop:=∃rs pos,Base rs pos∧(ws=(List.range 6).map (wd great rs pos)∨(great=false∧ws=[wd0 rs pos 0,wd0 rs pos 1,wd0 rs pos 2,wd0 rs pos 2,wd0 rs pos 2,wd0 rs pos 5]))
structure Signs (w0 w1 w2 w3 w4 w5:Str):Prop where
  ok:∀x∈ [w0,w1,w2,w3,w4,w5],zea x
  n0:∀x∈ [w1,w2,w3,w4,w5],w0≠x
  n1:∀x∈ [w2,w3,w4,w5],w1≠x
  n5:∀x∈ [w2,w3,w4],w5≠x
theorem zlg{ws:List Str}(h:zll false ws):∃w0 w1 w2 w3 w4 w5,ws=[w0,w1,w2,w3,w4,w5]∧Signs w0 w1 w2 w3 w4 w5:=by
 obtain⟨rs,pos,b,h⟩:=h;have hs:=fun k=>zmJ b k;have hn:∀k m:Nat,k<26→m<26→k≠m→wd0 rs pos k≠wd0 rs pos m:=fun k m h1 h2 h3=>zuM (great:=false) b h1 h2 h3;rcases h with rfl |⟨_,rfl⟩
 ·refine⟨_,_,_,_,_,_,rfl,⟨?_,?_,?_,?_⟩⟩
  ·simp only[List.mem_cons,List.not_mem_nil,or_false,forall_eq_or_imp,forall_eq];exact⟨hs 0,hs 1,hs 2,hs 3,hs 4,hs 5⟩
  ·simp only[List.mem_cons,List.not_mem_nil,or_false,forall_eq_or_imp,forall_eq];exact⟨hn 0 1 (by decide) (by decide) (by decide),hn 0 2 (by decide) (by decide) (by decide),hn 0 3 (by decide) (by decide) (by decide),hn 0 4 (by decide) (by decide) (by decide),hn 0 5 (by decide) (by decide) (by decide)⟩
  ·simp only[List.mem_cons,List.not_mem_nil,or_false,forall_eq_or_imp,forall_eq];exact⟨hn 1 2 (by decide) (by decide) (by decide),hn 1 3 (by decide) (by decide) (by decide),hn 1 4 (by decide) (by decide) (by decide),hn 1 5 (by decide) (by decide) (by decide)⟩
  ·simp only[List.mem_cons,List.not_mem_nil,or_false,forall_eq_or_imp,forall_eq];exact⟨hn 5 2 (by decide) (by decide) (by decide),hn 5 3 (by decide) (by decide) (by decide),hn 5 4 (by decide) (by decide) (by decide)⟩
 ·refine⟨_,_,_,_,_,_,rfl,⟨?_,?_,?_,?_⟩⟩
  ·simp only[List.mem_cons,List.not_mem_nil,or_false,forall_eq_or_imp,forall_eq];exact⟨hs 0,hs 1,hs 2,hs 2,hs 2,hs 5⟩
  ·simp only[List.mem_cons,List.not_mem_nil,or_false,forall_eq_or_imp,forall_eq];exact⟨hn 0 1 (by decide) (by decide) (by decide),hn 0 2 (by decide) (by decide) (by decide),hn 0 2 (by decide) (by decide) (by decide),hn 0 2 (by decide) (by decide) (by decide),hn 0 5 (by decide) (by decide) (by decide)⟩
  ·simp only[List.mem_cons,List.not_mem_nil,or_false,forall_eq_or_imp,forall_eq];exact⟨hn 1 2 (by decide) (by decide) (by decide),hn 1 2 (by decide) (by decide) (by decide),hn 1 2 (by decide) (by decide) (by decide),hn 1 5 (by decide) (by decide) (by decide)⟩
  ·simp only[List.mem_cons,List.not_mem_nil,or_false,forall_eq_or_imp,forall_eq];exact⟨hn 5 2 (by decide) (by decide) (by decide),hn 5 2 (by decide) (by decide) (by decide),hn 5 2 (by decide) (by decide) (by decide)⟩
structure Titles (ts:List Str):Prop where
  len:ts.length=6
  ok:∀x∈ts,zdB x
  nd:ts.Nodup
theorem zgd{ws:List Str}(h:zll true ws):Titles ws:=by
 obtain⟨rs,pos,b,h⟩:=h;rcases h with rfl |⟨e,_⟩
 ·refine⟨by simp,fun x hx=>?_,?_⟩
  ·obtain⟨k,_,rfl⟩:=List.mem_map.mp hx;exact zoC b k
  ·rw [List.Nodup,List.pairwise_map];refine List.Pairwise.imp_of_mem (fun {a c} ha hc hne=>?_) (List.nodup_range (n:=6));have ha:=List.mem_range.mp ha;have hc:=List.mem_range.mp hc;exact zuM b (by omega) (by omega) hne
 ·cases e
theorem zjl:∀(ws:List W) {rs:List Int}{sp:Int}{a:Addr}{r:Nat}{S:Sto}{E:WX}{D:WEnds}{x0 x1 x2 x3 x6 x7 x8 x9:Option W},S a=some (.lst (rs.map W.int))→rs.length+ws.length≤1000→
  (∀(rs':List Int) sp' x6',rs'.length=rs.length+ws.length→D.nx [x0,x1,x2,x3,some (.int sp'),some (.ref a),x6',x7,x8,x9] (put S a (.lst (rs'.map W.int))))→
  forL (wGN 6) (zdp r zaW) E D (fun _=>True) ws [x0,x1,x2,x3,some (.int sp),some (.ref a),x6,x7,x8,x9] S
 | [],rs,sp,a,r,S,E,D,x0,x1,x2,x3,x6,x7,x8,x9,ha,hl,h=>by
  simp only[forL];have:=h rs sp x6 (by simp);rw [zfE ha]at this;exact this
 |w::ws,rs,sp,a,r,S,E,D,x0,x1,x2,x3,x6,x7,x8,x9,ha,hl,h=>by
  simp only[forL,zdp];walk_at "wp";simp only[List.length_cons]at hl h;simp only[zag ha,true_and];refine⟨by decide,zbu (by simp;omega),⟨by decide,by decide⟩,_, .refl,?_⟩
  refine zjl (r:=r) ws (rs:=rs++[sp % 26]) (by rw [zah];simp) (by simp;omega) fun rs' sp' x6' h1=>?_;rw [zbg];exact h rs' sp' x6' (by simp at h1;omega)
theorem znI{c:Prop} [Decidable c] {a b:Prop}(h1:c→a) (h2:¬c→b):if c then a else b:=by split<;>simp_all
theorem zmG{A T:WS}{E:WX}{D:WEnds}{σ:WSt}{S:Sto}(h:∀T',T'=T→zar A T' E D σ S):zar A T E D σ S:=h T rfl
theorem zmD{one two:Int}{great:Bool}{r:Nat}{S:Sto}{Q:WK}{E:Str→Sto→Prop}(h:∀(a:Addr) (ws:List Str),S a=none→zll great ws→Q (.ref a) (put S a (.lst (ws.map W.str)))):zaS (r+1) [.int one, .int two, .bl great] S Q E:=by
 rw [zaS];walk_at "wp";have o0:0≤one % 8:=Int.emod_nonneg _ (by decide);have o1:one % 8<8:=Int.emod_lt_of_pos _ (by decide);refine⟨⟨by decide,by decide,by decide⟩,by decide,Nat.zero_le _,fun a ha=>⟨by decide,⟨by omega,by omega⟩,?_⟩⟩
 refine zjl _ (rs:=[]) zah (by simp [zlP];omega) fun rs sp x6 hl=>?_;rw [zbg];simp only[List.length_nil,zlP,Nat.zero_add]at hl;have hl':(rs.length:Int)=1+one % 8:=by rw [hl];omega
 have p0:0≤one / 8 % (rs.length:Int):=Int.emod_nonneg _ (by omega);have p1:one / 8 % (rs.length:Int)<(rs.length:Int):=Int.emod_lt_of_pos _ (by omega);have B:Base rs (one / 8 % (rs.length:Int)):=⟨by omega,by omega,p0,p1⟩
 walk_at "wp";simp only[List.length_map];refine⟨⟨by decide,by decide⟩,by omega,Nat.zero_le _,fun b hb=>⟨⟨by decide,by decide⟩,?_⟩⟩
 obtain⟨hb1,hb2⟩:=zdU hb;generalize hpos:one / 8 % (rs.length:Int)=pos at B p0 p1⊢;refine ziv (fun i σ S'=>∃x6 x9,S'=put (put S a (.lst (rs.map W.int))) b (.lst (((List.range i).map (wd great rs pos)).map W.str))∧σ=[some (.int one),some (.int two),some (.bl great),some (.str (Str.ofString "abcdefghijklmnopqrstuvwxyz")),some (.int sp),some (.ref a),x6,some (.int pos),some (.ref b),x9]) 6 ?_ ?_ ⟨x6,none,rfl,rfl⟩
 ·rintro k hk σ S' N ⟨x6,x9,rfl,rfl⟩ hN;have ea:put (put S a (Ob.lst (rs.map W.int))) b (Ob.lst (((List.range k).map (wd great rs pos)).map W.str)) a=some (.lst (rs.map W.int)):=by rw [zaD (Ne.symm hb2),zah]
  simp only[zeE];walk_at "wp";rw [zag ea];simp only[List.length_map];refine⟨⟨by omega,by omega⟩,?_⟩
  rw [Int.toNat_natCast];refine zaO (fun σ=>∃x,σ=[x,some (.str (Str.ofString "abcdefghijklmnopqrstuvwxyz")),some (.ref a),some (.int (k:Int)),some (.int pos)]) (fun i:Nat=>W.int (0+(i:Int))) (fun i=>W.str ⟨#[lt rs pos k i]⟩) trivial (List.range rs.length) [] _ ⟨none,rfl⟩ (by simp;omega) (fun i hi σ R hI hR=>?_) ?_
  ·obtain⟨x,rfl⟩:=hI;have hi:=List.mem_range.mp hi;simp only[zeH];walk_at "wp";have e:=zbz (xs:=rs.map W.int) (n:=i);rw [show(i:Int)=0+(i:Int) by omega,List.getElem?_map,List.getElem?_eq_getElem hi]at e
   rw [zag ea,e];dsimp only[Option.map];walk_at "wp";have ec:=zvO (n:=(rs[i]+(k:Int)*(if(0+(i:Int) == pos)=true then 1 else 0)) % 26) (Int.emod_nonneg _ (by decide)) (Int.emod_lt_of_pos _ (by decide));rw [ec];have el:lt rs pos k i=97+((rs[i]+(k:Int)*(if(0+(i:Int) == pos)=true then 1 else 0)) % 26).toNat:=by
    unfold lt;rw [List.getD_eq_getElem?_getD,List.getElem?_eq_getElem hi];rfl
   rw [←el];exact⟨.inl ⟨by omega,by omega⟩,by decide,zan (by rw [zvG];decide),hR _ _ ⟨_,rfl⟩ .refl⟩
  ·have es:(List.range rs.length).map (fun i=>W.str ⟨#[lt rs pos k i]⟩)=(zfG rs pos k).map fun c=>W.str ⟨#[c]⟩:=by
    unfold zfG;rw [List.map_map];rfl
   have hw:=zmJ B k;rw [List.nil_append,es,zhr];refine⟨znX _ (by rw [zhj];omega),?_⟩;show _;have ew:Str.join (Str.ofString "") ((zfG rs pos k).map fun c=>(⟨#[c]⟩:Str))=wd0 rs pos k:=rfl;rw [ew];have hl8:(wd0 rs pos k).length≤8:=by rw [zlc];exact hw.2.1
   have fin:∀z:Str,z=wd great rs pos k→ ∀x9:Option W,N [some (.int one),some (.int two),some (.bl great),some (.str (Str.ofString "abcdefghijklmnopqrstuvwxyz")),some (.int sp),some (.ref a),some (.int (k:Int)),some (.int pos),some (.ref b),x9] (put (put S a (.lst (rs.map W.int))) b (.lst (((List.range k).map (wd great rs pos)).map W.str++[.str z]))):=fun z hz x9=>by
    subst hz;refine hN _ _ _ .refl ⟨_,_,?_,rfl⟩;rw [List.range_succ,List.map_append,List.map_append];rfl
   have hxl:(((List.range k).map (wd great rs pos)).map W.str).length<sizeLine:=zbu (by simp;omega);cases great with
   |false=>
    try walk_at "wp"
    try simp only[zgv,zbg,true_and]
    exact⟨hxl,fin _ rfl _⟩
   |true=>
    walk_at "wp";rw [zgo,znm pos k B.l1,zgD];dsimp only
    try walk_at "wp"
    try simp only[zgv,zbg,true_and]
    refine⟨zan (by omega),?_⟩;have h1:(⟨#[lt rs pos k 0]⟩:Str).length=1:=rfl;have h2:(Txt.upper ⟨#[lt rs pos k 0]⟩).length=1:=by rw [zkh (zih _ _ _ _)];rfl
    have h3:(Txt.slice (wd0 rs pos k) (some 1) none).length≤8:=by
     rw [zlc,zlW,List.length_drop,←zlc];omega
    exact⟨by omega,zan (by omega),zan (by omega),hxl,fin _ rfl _⟩
 ·rintro σ S' ⟨x6,x9,rfl,rfl⟩;have eb:put (put S a (Ob.lst (rs.map W.int))) b (Ob.lst (((List.range 6).map (wd great rs pos)).map W.str)) b=some (.lst (((List.range 6).map (wd great rs pos)).map W.str)):=zah;walk_at "wp";cases great with
  |true=>
   walk_at "wp";refine⟨⟨by decide,by decide⟩,by decide,?_⟩
   split
   ·exact⟨_, .put2 (.put .refl ha),h b _ hb1 ⟨rs,pos,B, .inl rfl⟩⟩
   ·exact⟨_, .put2 (.put .refl ha),h b _ hb1 ⟨rs,pos,B, .inl rfl⟩⟩
  |false=>
   walk_at "wp";refine⟨⟨by decide,by decide⟩,by decide,?_⟩
   split
   ·have e6:((List.range 6).map (wd false rs pos)).map W.str=[.str (wd0 rs pos 0), .str (wd0 rs pos 1), .str (wd0 rs pos 2), .str (wd0 rs pos 3), .str (wd0 rs pos 4), .str (wd0 rs pos 5)]:=rfl;simp only[e6]
    try walk_at "wp"
    have c3:zdG [W.str (wd0 rs pos 0), .str (wd0 rs pos 1), .str (wd0 rs pos 2), .str (wd0 rs pos 3), .str (wd0 rs pos 4), .str (wd0 rs pos 5)] none (some 3)=[.str (wd0 rs pos 0), .str (wd0 rs pos 1), .str (wd0 rs pos 2)]:=rfl;have a2:atI [W.str (wd0 rs pos 0), .str (wd0 rs pos 1), .str (wd0 rs pos 2), .str (wd0 rs pos 3), .str (wd0 rs pos 4), .str (wd0 rs pos 5)] 2=some (.str (wd0 rs pos 2)):=rfl;have a5:atI [W.str (wd0 rs pos 0), .str (wd0 rs pos 1), .str (wd0 rs pos 2), .str (wd0 rs pos 3), .str (wd0 rs pos 4), .str (wd0 rs pos 5)] 5=some (.str (wd0 rs pos 5)):=rfl;simp only[c3,a2,a5]
    try walk_at "wp"
    refine⟨zan (by decide),zan (by decide),fun c hc=>?_⟩;obtain⟨hc1,hc2⟩:=zdU hc;obtain⟨hc1,hc3⟩:=zdU hc1;exact⟨_, .put2 (.put (.put .refl ha) hb1),h c _ hc1 ⟨rs,pos,B, .inr ⟨rfl,rfl⟩⟩⟩
   ·exact⟨_, .put2 (.put .refl ha),h b _ hb1 ⟨rs,pos,B, .inl rfl⟩⟩
mutual
noncomputable def Tr.nb:Tr→Nat
 | .bl _=>1
 | .nd _ ts=>nbs ts
noncomputable def nbs:List Tr→Nat
 | []=>0
 |t::ts=>t.nb+nbs ts
end
mutual
theorem zsg:∀(t:Tr) (p:List Int),((t.plt p).filter fun x=>x.2.isBl).length=t.nb
 | .bl n,p=>by simp [Tr.plt,Tr.isBl,Tr.nb]
 | .nd s ts,p=>by
  have:=znM ts p 0;simpa [Tr.plt,Tr.isBl,Tr.nb]using this
theorem znM:∀(ts:List Tr) (p:List Int) (i:Nat),((zhZ p i ts).filter fun x=>x.2.isBl).length=nbs ts
 | [],p,i=>by simp [zhZ,nbs]
 |t::ts,p,i=>by
  have h1:=zsg t (p++[(i:Int)]);have h2:=znM ts p (i+1);rw [zhZ,List.filter_append,List.length_append,h1,h2,nbs]
end
theorem zuu (t:Tr):t.bls.length=t.nb:=zsg t []
theorem zom:∀ts:List Tr,(ts.map fun t=>(t.nb:Int)).sum=(nbs ts:Int)
 | []=>by simp [nbs]
 |t::ts=>by
  rw [List.map_cons,List.sum_cons,zom ts,nbs];omega
theorem ztV (ts:List Tr):zcd (ts.map fun t=>W.int (t.nb:Int))=some (ts.map fun t=>(t.nb:Int)):=by
 have:=zfU (ts.map fun t=>(t.nb:Int));rw [List.map_map]at this;exact this
theorem zin:∀(d:Nat) {t:Tr}{r:Nat}{S:Sto}{Q:WK}{E:Str→Sto→Prop},t.depth≤d→d≤r+1→t.weight≤90000→Q (.int t.nb) S→zay (r+1) [enc t] S Q E
 |0,t,r,S,Q,E,hd,hr,hw,h=>by have:=zcl t;omega
 |d+1, .bl n,r,S,Q,E,hd,hr,hw,h=>by
  rw [zay];simp only[enc];walk_at "wp";simp only[Tr.nb]at h;exact⟨S, .refl,h⟩
 |d+1, .nd s ts,r,S,Q,E,hd,hr,hw,h=>by
  simp only[Tr.depth]at hd;simp only[Tr.weight]at hw;have hk:=zcT ts;rw [zay];simp only[enc];walk_at "wp";rw [zaL];refine zaO (fun σ=>∃x,σ=[x]) enc (fun t=> .int (t.nb:Int)) trivial ts [] _ ⟨none,rfl⟩ (by simp;omega) (fun x hx σ R hI hR=>?_) ?_
  ·obtain⟨y,rfl⟩:=hI;have hdx:=zdt hx;have hwx:=zdK hx;have:=zcl x;obtain⟨r,rfl⟩:∃r',r=r'+1:=⟨r - 1,by omega⟩
   simp only[zdm];walk_at "wp";exact zin d (t:=x) (r:=r) (by omega) (by omega) (by omega) (hR _ _ ⟨_,rfl⟩ .refl)
  ·rw [List.nil_append,ztV];dsimp only;rw [zom];simp only[Tr.nb]at h;exact⟨S, .refl,h⟩
theorem zlZ{w:W}{ws:List W}:zdG (w::ws) none (some 1)=[w]:=by
 rw [show(1:Int)=((1:Nat):Int) from rfl,zmR];rfl
theorem zfV{us:List Tr}{a:Addr}:∀(d:Nat) {t:Tr}{r:Nat}{S:Sto}{Q:WK}{E:Str→Sto→Prop},t.depth≤d→d≤r+1→S a=some (.lst (encs us))→t.fits us.length→t.weight≤90000→Q (enc (t.fill us)) S→zba (r+1) [enc t, .ref a] S Q E
 |0,t,r,S,Q,E,hd,hr,ha,hf,hw,h=>by have:=zcl t;omega
 |d+1, .bl n,r,S,Q,E,hd,hr,ha,hf,hw,h=>by
  simp only[Tr.fits]at hf;simp only[Tr.fill]at h;rw [zba];simp only[enc];walk_at "wp";have e:atI (encs us) n=some (enc (us.getD n.toNat (.bl n))):=by
   have q:=zbz (xs:=encs us) (n:=n.toNat);rw [Int.toNat_of_nonneg hf.1]at q;rw [q,zaL,List.getElem?_map,List.getD_eq_getElem?_getD,List.getElem?_eq_getElem (by omega)];rfl
  rw [zag ha,e];exact⟨S, .refl,h⟩
 |d+1, .nd s ts,r,S,Q,E,hd,hr,ha,hf,hw,h=>by
  simp only[Tr.fits]at hf;simp only[Tr.fill]at h;simp only[Tr.depth]at hd;simp only[Tr.weight]at hw;have hk:=zcT ts;rw [zba];simp only[enc]at h⊢;walk_at "wp";rw [zlZ];rw [zaL];refine zaO (fun σ=>∃x,σ=[x,some (.ref a)]) enc (fun t=>enc (t.fill us)) trivial ts [] _ ⟨none,rfl⟩ (by simp;omega) (fun x hx σ R hI hR=>?_) ?_
  ·obtain⟨y,rfl⟩:=hI;have hdx:=zdt hx;have hwx:=zdK hx;have:=zcl x;obtain⟨r,rfl⟩:∃r',r=r'+1:=⟨r - 1,by omega⟩
   simp only[zeg];walk_at "wp";exact zfV d (t:=x) (r:=r) (by omega) (by omega) ha (zhn hf hx) (by omega) (hR _ _ ⟨_,rfl⟩ .refl)
  ·rw [List.nil_append];walk_at "wp";refine⟨zan (by simp;omega),S, .refl,?_⟩;have e:encs (fills us ts)=ts.map fun t=>enc (t.fill us):=by rw [zaL,zgX,List.map_map];rfl
   rw [e]at h;exact h
inductive Item (ws:List Str) (m:Nat):Tr→Prop
 |bl {n:Int}:0≤n→n<m→Item ws m (.bl n)
 |nd {s:Str}:s∈ws→Item ws m (.nd s [])
inductive RightT (ws:List Str) (m:Nat):Tr→Prop
 |one {t:Tr}:Item ws m t→RightT ws m t
 |un {s:Str}{t:Tr}:s∈ws→Item ws m t→RightT ws m (.nd s [t])
 |two {s:Str}{t u:Tr}:s∈ws→0<m→Item ws m t→Item ws m u→RightT ws m (.nd s [t,u])
 |deep {s z:Str}{t u:Tr}:s∈ws→z∈ws→0<m→Item ws m t→Item ws m u→RightT ws m (.nd s [.nd z [t],u])
noncomputable def leftsL (n:Nat) (h c d:Str):List Tr:=
 match n with
 |0=>[.nd h [.bl 0]]
 |1=>[.nd h [.bl 0, .bl 1]]
 |2=>[.nd h [.nd c []], .nd h [.nd d [.bl 0]]]
 |3=>[.nd h [.nd c [], .bl 0], .nd h [.nd d [.bl 0], .bl 1]]
 |4=>[.nd h [.nd d [.nd d [.bl 0]], .bl 1, .bl 2], .nd h [.nd d [.nd c []], .bl 0, .bl 1]]
 |_=>[.nd h []]
section
variable {w0 w1 w2 w3 w4 w5:Str}{r:Nat}{S:Sto}{Q:WK}{E:Str→Sto→Prop}{a:Addr}
noncomputable abbrev six (w0 w1 w2 w3 w4 w5:Str):List W:=[.str w0, .str w1, .str w2, .str w3, .str w4, .str w5]
theorem zzx:atI (six w0 w1 w2 w3 w4 w5) 0=some (.str w0):=rfl
theorem zza:atI (six w0 w1 w2 w3 w4 w5) 1=some (.str w1):=rfl
theorem six2:atI (six w0 w1 w2 w3 w4 w5) 2=some (.str w2):=rfl
theorem zxM:atI (six w0 w1 w2 w3 w4 w5) 3=some (.str w3):=rfl
theorem six4:atI (six w0 w1 w2 w3 w4 w5) 4=some (.str w4):=rfl
theorem zzt:atI (six w0 w1 w2 w3 w4 w5) 5=some (.str w5):=rfl
theorem zoe{draw:Int}{m:Nat}(ha:S a=some (.lst (six w0 w1 w2 w3 w4 w5))) (h:∀t,Item [w0,w1,w2,w3,w4,w5] m t→Q (enc t) S):zcr (r+1) [.int draw, .int m, .ref a] S Q E:=by
 rw [zcr];walk_at "wp";have fin:∀w:Str,w∈ [w0,w1,w2,w3,w4,w5]→ ∃S'',Sub S'' S∧Q (.tup [.str w]) S'':=fun w hw=>⟨S, .refl,by
  have:=h _ (.nd hw);simpa only[enc,encs]using this⟩
 have pick:∃x:Str,x∈ [w0,w1,w2,w3,w4,w5]∧ ∃i:Int,atI [W.int 2,W.int 5] (draw / 4 % 2)=some (.int i)∧atI (six w0 w1 w2 w3 w4 w5) i=some (.str x):=by
  rcases znd (draw / 4) with e |e
  ·exact⟨w2,by simp,2,by rw [e];rfl,rfl⟩
  ·exact⟨w5,by simp,5,by rw [e];rfl,rfl⟩
 obtain⟨x,hx,i,e1,e2⟩:=pick;simp only[e1];walk_at "wp";simp only[zag ha,e2];have tail:2≤sizeLine∧ziZ draw 4∧(0:Int)<2∧1≤sizeLine∧ ∃S'',Sub S'' S∧Q (.tup [.str x]) S'':=⟨zan (by decide),⟨by decide,by decide⟩,by decide,zan (by decide),fin x hx⟩
 split
 ·rename_i hm;refine⟨by decide,?_⟩;split
  ·refine⟨⟨by decide,by decide⟩,hm,S, .refl,?_⟩
   have:=h (.bl (draw / 4 % (m:Int))) (.bl (Int.emod_nonneg _ (by omega)) (Int.emod_lt_of_pos _ hm));simpa only[enc]using this
  ·exact tail
 ·exact tail
theorem zqQ{draw:Int}{m:Nat}(ha:S a=some (.lst (six w0 w1 w2 w3 w4 w5))) (h:∀t,RightT [w0,w1,w2,w3,w4,w5] m t→Q (enc t) S):zcG (r+2) [.int draw, .int m, .ref a] S Q E:=by
 rw [zcG,zfM];refine⟨rfl,zmG fun T hT=>?_⟩;walk_at "wp";refine⟨⟨by decide,by decide⟩,zoe ha fun t ht=>?_⟩
 subst hT;refine zmG fun T hT=>?_;walk_at "wp";refine⟨⟨by decide,by decide⟩,zoe ha fun u hu=>?_⟩
 subst hT;refine zmG fun T hT=>?_;walk_at "wp";refine⟨by decide,?_⟩;subst hT;have q1:=h _ (.one ht);have q2:=fun(s:Str) (hs:s∈ [w0,w1,w2,w3,w4,w5])=>h _ (.un hs ht);have q3:=fun(s:Str) (hs:s∈ [w0,w1,w2,w3,w4,w5]) (h0:0<m)=>h _ (.two hs h0 ht hu);have q4:=fun(s:Str) (hs:s∈ [w0,w1,w2,w3,w4,w5]) (h0:0<m)=>h _ (.two hs h0 ht ht);have q5:=fun(s z:Str) (hs:s∈ [w0,w1,w2,w3,w4,w5]) (hz:z∈ [w0,w1,w2,w3,w4,w5]) (h0:0<m)=>h _ (.deep hs hz h0 ht hu);simp only[enc,encs]at q2 q3 q4 q5;have l2:2≤sizeLine:=zan (by decide);have l3:3≤sizeLine:=zan (by decide);refine zmG fun T hT=>?_;walk_at "wp";refine znI (fun _=>⟨S, .refl,q1⟩) fun _=>?_;subst hT;refine zmG fun T hT=>?_;walk_at "wp";simp only[zag ha,zxM];refine znI (fun _=>⟨l2,S, .refl,q2 _ (by simp)⟩) fun _=>znI (fun _=>⟨l2,S, .refl,q2 _ (by simp)⟩) fun hm=>?_;subst hT;have h0:0<m:=by
  rcases Nat.eq_zero_or_pos m with z |z
  ·rw [z]at hm;exact absurd rfl hm
  ·exact z
 refine zmG fun T hT=>?_;walk_at "wp";simp only[zag ha,six4];refine znI (fun _=>⟨l3,S, .refl,q3 _ (by simp) h0⟩) fun _=>?_;subst hT;refine zmG fun T hT=>?_;walk_at "wp";simp only[zag ha,six4];refine znI (fun _=>⟨l3,S, .refl,q4 _ (by simp) h0⟩) fun _=>?_;subst hT;refine zmG fun T hT=>?_;walk_at "wp";simp only[zag ha,zxM,six4];refine znI (fun _=>⟨l2,l3,S, .refl,q5 _ _ (by simp) (by simp) h0⟩) fun _=>?_;subst hT;refine zmG fun T hT=>?_;walk_at "wp";simp only[zag ha,zzx];refine znI (fun _=>⟨l2,S, .refl,q2 _ (by simp)⟩) fun _=>?_;subst hT;walk_at "wp";simp only[zag ha,zza];exact⟨l3,S, .refl,q3 _ (by simp) h0⟩
theorem zrt{n:Int}{h c d:Str}(H:∀(p:Addr) (k:Nat),S p=none→Q (.ref p) (put S p (.lst (encs (leftsL k h c d))))):zcE (r+1) [.int n, .str h, .str c, .str d] S Q E:=by
 rw [zcE,zfM];refine⟨rfl,?_⟩;have l1:1≤sizeLine:=zan (by decide);have l2:2≤sizeLine:=zan (by decide);have l3:3≤sizeLine:=zan (by decide);have l4:4≤sizeLine:=zan (by decide);refine zmG fun T hT=>?_;walk_at "wp";refine znI (fun _=>⟨l2,l1,fun p hp=>⟨_, .refl,by simpa only[leftsL,enc,encs]using H p 0 hp⟩⟩) fun _=>?_
 subst hT;refine zmG fun T hT=>?_;walk_at "wp";refine znI (fun _=>⟨l3,l1,fun p hp=>⟨_, .refl,by simpa only[leftsL,enc,encs]using H p 1 hp⟩⟩) fun _=>?_
 subst hT;refine zmG fun T hT=>?_;walk_at "wp";refine znI (fun _=>⟨l1,l2,l2,l2,l2,fun p hp=>⟨_, .refl,by simpa only[leftsL,enc,encs]using H p 2 hp⟩⟩) fun _=>?_
 subst hT;refine zmG fun T hT=>?_;walk_at "wp";refine znI (fun _=>⟨l1,l3,l2,l3,l2,fun p hp=>⟨_, .refl,by simpa only[leftsL,enc,encs]using H p 3 hp⟩⟩) fun _=>?_
 subst hT;refine zmG fun T hT=>?_;walk_at "wp";refine znI (fun _=>⟨l2,l2,l4,l1,l2,l4,l2,fun p hp=>⟨_, .refl,by simpa only[leftsL,enc,encs]using H p 4 hp⟩⟩) fun _=>?_
 subst hT;walk_at "wp";exact⟨l1,l1,fun p hp=>⟨_, .refl,by simpa only[leftsL,enc,encs]using H p 5 hp⟩⟩
end
section
variable {w0 w1 w2 w3 w4 w5:Str}{tt:List Str}{ns:List Int}{aw at' ab al:Addr}{r:Nat}{E:WX}{D:WEnds}{k j:Int}
theorem zmf (h6:tt.length=6) (k0:0≤k) (j0:0≤j):∀(ls:List Tr) {i:Nat}{C:List Tn}{S:Sto}{G:Sto→Prop}{x7 x8 x9:Option W},(∀L∈ls,L.depth≤4∧L.weight≤7)→C.length+ls.length≤6→S ab=some (.lst (C.map zbe))→S aw=some (.lst (six w0 w1 w2 w3 w4 w5))→S at'=some (.lst (tt.map W.str))→ab≠aw→ab≠at'→
  (∀o,G (put S ab o))→
  (∀(C':List Tn) (x7 x8 x9:Option W),C'.map (fun t=>t.2.1)=ls→(C.map (fun t=>t.1)=tt.take C.length→(C++C').map (fun t=>t.1)=tt.take (C++C').length)→(∀t∈C',RightT [w0,w1,w2,w3,w4,w5] t.2.1.nb t.2.2)→D.nx [some (.scr ns),some (.int k),some (.ref aw),some (.ref at'),some (.ref ab),some (.int j),some (.ref al),x7,x8,x9] (put S ab (.lst ((C++C').map zbe))))→
  forL (wGT (zaA (wGN 7) (zaA (wGN 8) zdw))) (zdN (r+6) zaW) E D G (zhY i (encs ls)) [some (.scr ns),some (.int k),some (.ref aw),some (.ref at'),some (.ref ab),some (.int j),some (.ref al),x7,x8,x9] S
 | [],i,C,S,G,x7,x8,x9,hL,hl,hb,hw,ht,n1,n2,hG,h=>by
  simp only[encs,zhY,forL];have:=h [] x7 x8 x9 rfl (fun z=>by simpa using z) (fun _ h=>nomatch h)
  rw [List.append_nil,zfE hb]at this;exact this
 |L::ls,i,C,S,G,x7,x8,x9,hL,hl,hb,hw,ht,n1,n2,hG,h=>by
  have hLd:=hL L List.mem_cons_self;simp only[List.length_cons]at hl;simp only[encs,zhY];refine zcc fun N hN=>?_;simp only[zdN];walk_at "wp";refine⟨.inl ⟨by decide,by decide⟩,zeT (by omega) fun draw=>zin 4 hLd.1 (by omega) (by omega) (zqQ hw fun R hR=>?_)⟩
  try walk_at "wp"
  obtain⟨ti,eti,_⟩:=ztv (ss:=tt) (i:=(C.length:Int)) (by omega) (by omega);simp only[zag hb,zag ht,List.length_map,eti,true_and];refine⟨zan (by decide),zbu (by omega),?_⟩;refine hN _ _ (put S ab (.lst ((C++[(ti,L,R)]).map zbe))) (by rw [List.map_append];exact .refl) (hG _) ?_;refine zmf h6 k0 j0 ls (C:=C++[(ti,L,R)]) (fun M hM=>hL M (List.mem_cons_of_mem _ hM)) (by simp;omega) zah (by rw [zaD (Ne.symm n1)];exact hw) (by rw [zaD (Ne.symm n2)];exact ht) n1 n2 (fun o=>by rw [zbg];exact hG o) fun C' x7 x8 x9 e1 e2 e3=>?_
  rw [zbg];have:=h ((ti,L,R)::C') x7 x8 x9 (by rw [List.map_cons,e1]) (fun z=>?_) (fun t ht'=>?_)
  ·simpa using this
  ·have e:C++[(ti,L,R)]++C'=C++(ti,L,R)::C':=by simp
   rw [e]at e2;refine e2 ?_;rw [List.map_append,z,List.length_append,List.length_singleton,List.take_succ];congr 1;have e4:(tt.map W.str)[C.length]? =some (.str ti):=by rw [←zbz];exact eti
   rw [List.getElem?_map]at e4;cases q:tt[C.length]? with
   |none=>rw [q]at e4;cases e4
   |some y=>rw [q]at e4;cases e4;rfl
  ·rcases List.mem_cons.mp ht' with rfl |z
   ·exact hR
   ·exact e3 t z
theorem zly (n:Nat) (h c d:Str):∀L∈leftsL n h c d,L.depth≤4∧L.weight≤7:=by
 intro L hL;unfold leftsL at hL;split at hL<;>simp only[List.mem_cons,List.not_mem_nil,or_false]at hL
 all_goals first
  | (subst hL;simp [Tr.depth,dts,Tr.weight,wts])
  | (rcases hL with rfl |rfl<;>simp [Tr.depth,dts,Tr.weight,wts])
theorem zfq (n:Nat) (h c d:Str):1≤(leftsL n h c d).length∧(leftsL n h c d).length≤2:=by
 unfold leftsL;split<;>simp
noncomputable def hdOf (w0 w1:Str) (j:Nat):Str:=if j=0 then w0 else w1
theorem zsA{S:Sto}{Q:WK}{E:Str→Sto→Prop}(h6:tt.length=6) (k0:0≤k) (hw:S aw=some (.lst (six w0 w1 w2 w3 w4 w5))) (ht:S at'=some (.lst (tt.map W.str)))
  (h:∀(p:Addr) (B:List Tn) (n m:Nat),S p=none→B.map (fun t=>t.2.1)=leftsL n w0 w2 w3++leftsL m w1 w2 w3→B.map (fun t=>t.1)=tt.take B.length→(∀t∈B,RightT [w0,w1,w2,w3,w4,w5] t.2.1.nb t.2.2)→Q (.ref p) (put S p (.lst (B.map zbe)))):zbS (r+7) [.scr ns, .int k, .ref aw, .ref at'] S Q E:=by
 rw [show r+7=r+6+1 from rfl,zbS];walk_at "wp";refine⟨Nat.zero_le _,fun ab hb=>⟨⟨by decide,by decide⟩,?_⟩⟩
 refine ziv (fun i σ S'=>∃(B:List Tn) (f:Nat→Nat) (x5 x6 x7 x8 x9:Option W),B.map (fun t=>t.2.1)=(List.range i).flatMap (fun j=>leftsL (f j) (hdOf w0 w1 j) w2 w3)∧B.map (fun t=>t.1)=tt.take B.length∧(∀t∈B,RightT [w0,w1,w2,w3,w4,w5] t.2.1.nb t.2.2)∧S'=put S ab (.lst (B.map zbe))∧
  σ=[some (.scr ns),some (.int k),some (.ref aw),some (.ref at'),some (.ref ab),x5,x6,x7,x8,x9]) 2 ?_ ?_ ⟨[],fun _=>0,none,none,none,none,none,rfl,rfl,(fun _ h=>nomatch h),rfl,rfl⟩
 ·rintro j hj σ S' N ⟨B,f,x5,x6,x7,x8,x9,e1,e2,e3,rfl,rfl⟩ hN;have fw:put S ab (Ob.lst (B.map zbe)) aw=some (.lst (six w0 w1 w2 w3 w4 w5)):=keep hw hb;have ft:put S ab (Ob.lst (B.map zbe)) at'=some (.lst (tt.map W.str)):=keep ht hb;have fb:put S ab (Ob.lst (B.map zbe)) ab=some (.lst (B.map zbe)):=zah;have n1:ab≠aw:=fun z=>by rw [z,hw]at hb;cases hb
  have n2:ab≠at':=fun z=>by rw [z,ht]at hb;cases hb
  have eh:atI (six w0 w1 w2 w3 w4 w5) (j:Int)=some (.str (hdOf w0 w1 j)):=by
   rcases(show j=0∨j=1 by omega) with rfl |rfl<;>rfl
  simp only[zfC];walk_at "wp";refine zeT (by omega) fun draw=>?_;walk_at "wp";simp only[zag fw,eh,six2,zxM];refine⟨by decide,zrt fun al n hal=>?_⟩;have hl:=zfq n (hdOf w0 w1 j) w2 w3;have hB:B.length≤4:=by
   have:=congrArg List.length e1;rw [List.length_map]at this;rcases(show j=0∨j=1 by omega) with rfl |rfl
   ·simp at this;rw [this];simp
   ·simp at this;have:=zfq (f 0) (hdOf w0 w1 0) w2 w3;omega
  have nal:al≠ab:=fun z=>by rw [z,fb]at hal;cases hal
  try walk_at "wp"
  refine zmf h6 k0 (by omega) (leftsL n (hdOf w0 w1 j) w2 w3) (zly _ _ _ _) (by omega) (keep fb hal) (keep fw hal) (keep ft hal) n1 n2 (fun o=>?_) fun C' x7 x8 x9 g1 g2 g3=>?_
  ·rw [zaD nal,zah]
  ·refine hN _ _ (put S ab (.lst ((B++C').map zbe))) ?_ ⟨B++C',fun i=>if i=j then n else f i,_,_,_,_,_,?_,g2 e2,fun t ht'=>?_,rfl,rfl⟩
   ·rw [zma nal];exact .put .refl (by rw [zaD nal];exact(zdU hal).1)
   ·rw [List.map_append,e1,g1,List.range_succ,List.flatMap_append];congr 1
    ·rw [List.flatMap_def,List.flatMap_def];congr 1;refine List.map_congr_left fun i hi=>?_;have:=List.mem_range.mp hi;dsimp only;rw [if_neg (by omega)]
    ·simp
   ·rcases List.mem_append.mp ht' with z |z
    ·exact e3 t z
    ·exact g3 t z
 ·rintro σ S' ⟨B,f,x5,x6,x7,x8,x9,e1,e2,e3,rfl,rfl⟩;walk_at "wp";refine⟨_, .refl,h ab B (f 0) (f 1) hb ?_ e2 e3⟩;rw [e1];simp [List.range_succ,hdOf]
end
noncomputable def signB (x:Str):Bool:=decide (1≤x.cps.toList.length)&&(decide (x.cps.toList.length≤8)&&small x.cps.toList)
theorem zpn (xs:List Nat):small xs=true↔ ∀c∈xs,Low c:=by
 unfold small;rw [List.all_eq_true];simp only[zsp,Low,Bool.and_eq_true,decide_eq_true_eq]
theorem zke (x:Str):signB x=true↔zea x:=by
 unfold signB zea;rw [Bool.and_eq_true,Bool.and_eq_true,decide_eq_true_eq,decide_eq_true_eq,zpn]
theorem zes{x y:Str}(h:zea x) (g:zdB y):x≠y:=by
 rintro rfl;obtain⟨c,r,e,h1,h2,_⟩:=g;have:=h.2.2 c (by rw [e];exact List.mem_cons_self);unfold Low at this;omega
mutual
noncomputable def Tr.hd (P:Str→Prop):Tr→Prop
 | .bl _=>False
 | .nd s ts=>P s∧hds P ts
noncomputable def hds (P:Str→Prop):List Tr→Prop
 | []=>True
 |t::ts=>t.hd P∧hds P ts
end
mutual
noncomputable def Tr.hb (P:Str→Prop):Tr→Prop
 | .bl _=>True
 | .nd s ts=>P s∧hbs P ts
noncomputable def hbs (P:Str→Prop):List Tr→Prop
 | []=>True
 |t::ts=>t.hb P∧hbs P ts
end
theorem hds_iff{P:Str→Prop}:∀{ts:List Tr},hds P ts↔ ∀t∈ts,t.hd P
 | []=>by simp [hds]
 |t::ts=>by simp [hds,hds_iff (ts:=ts)]
mutual
theorem zpx{P P':Str→Prop}(h:∀s,P s→P' s):∀(t:Tr),t.hd P→t.hd P'
 | .bl _,q=>by simp [Tr.hd]at q
 | .nd s ts,q=>by
  simp only[Tr.hd]at q⊢;exact⟨h s q.1,zmP h ts q.2⟩
theorem zmP{P P':Str→Prop}(h:∀s,P s→P' s):∀(ts:List Tr),hds P ts→hds P' ts
 | [],_=>by simp [hds]
 |t::ts,q=>by
  simp only[hds]at q⊢;exact⟨zpx h t q.1,zmP h ts q.2⟩
end
mutual
theorem ziR{P P':Str→Prop}(h:∀s,P s→P' s):∀(t:Tr),t.hb P→t.hb P'
 | .bl _,q=>by simp [Tr.hb]
 | .nd s ts,q=>by
  simp only[Tr.hb]at q⊢;exact⟨h s q.1,zlO h ts q.2⟩
theorem zlO{P P':Str→Prop}(h:∀s,P s→P' s):∀(ts:List Tr),hbs P ts→hbs P' ts
 | [],_=>by simp [hbs]
 |t::ts,q=>by
  simp only[hbs]at q⊢;exact⟨ziR h t q.1,zlO h ts q.2⟩
end
mutual
theorem zhz{P:Str→Prop}{us:List Tr}(hu:∀u∈us,u.hd P):∀(t:Tr),t.hb P→t.fits us.length→(t.fill us).hd P
 | .bl n,h,f=>by
  simp only[Tr.fits]at f;simp only[Tr.fill];rw [List.getD_eq_getElem?_getD,List.getElem?_eq_getElem (show n.toNat<us.length by omega)]
  exact hu _ (List.getElem_mem ..)
 | .nd s ts,h,f=>by
  simp only[Tr.fits]at f;simp only[Tr.hb]at h;simp only[Tr.fill,Tr.hd];exact⟨h.1,zlT hu ts h.2 f⟩
theorem zlT{P:Str→Prop}{us:List Tr}(hu:∀u∈us,u.hd P):∀(ts:List Tr),hbs P ts→fitss us.length ts→hds P (fills us ts)
 | [],h,f=>by simp [fills,hds]
 |t::ts,h,f=>by
  simp only[fitss]at f;simp only[hbs]at h;simp only[fills,hds];exact⟨zhz hu t h.1 f.1,zlT hu ts h.2 f.2⟩
end
structure BookOk (w0 w1 w2 w3 w4 w5:Str) (tt:List Str) (B:List Tn):Prop where
  lf:∃n m:Nat,B.map (fun t=>t.2.1)=leftsL n w0 w2 w3++leftsL m w1 w2 w3
  ti:B.map (fun t=>t.1)=tt.take B.length
  ri:∀t∈B,RightT [w0,w1,w2,w3,w4,w5] t.2.1.nb t.2.2
structure LeftT (P:Str→Prop) (L:Tr):Prop where
  hb:L.hb P
  fits:L.fits L.nb
  wt:L.weight≤L.nb+3
  dp:L.depth≤4
  nb:L.nb≤3
  nd:∃s ts,L= .nd s ts
  fw:∀us:List Tr,us.length=L.nb→(L.fill us).weight≤3+wts us
  fw0:L.nb=0→(L.fill []).weight≤2
theorem zgt{P:Str→Prop}{n:Nat}{h c d:Str}(hh:P h) (hc:P c) (hd:P d):∀L∈leftsL n h c d,LeftT P L:=by
 unfold leftsL;intro L hL;split at hL<;>simp only[List.mem_cons,List.not_mem_nil,or_false]at hL
 all_goals first
  | (subst hL;exact⟨by simp [Tr.hb,hbs,hh,hc,hd],by simp [Tr.fits,fitss,Tr.nb,nbs],by simp [Tr.weight,wts,Tr.nb,nbs],by simp [Tr.depth,dts],by simp [Tr.nb,nbs],⟨_,_,rfl⟩,fun us hu=>by rcases us with _ |⟨u,_ |⟨v,_ |⟨x,_ |⟨y,us⟩⟩⟩⟩<;>simp [Tr.nb,nbs,Tr.fill,fills,Tr.weight,wts]at hu⊢ <;>omega,fun h0=>by simp [Tr.nb,nbs,Tr.fill,fills,Tr.weight,wts]at h0⊢⟩)
  | (rcases hL with rfl |rfl<;>exact⟨by simp [Tr.hb,hbs,hh,hc,hd],by simp [Tr.fits,fitss,Tr.nb,nbs],by simp [Tr.weight,wts,Tr.nb,nbs],by simp [Tr.depth,dts],by simp [Tr.nb,nbs],⟨_,_,rfl⟩,fun us hu=>by rcases us with _ |⟨u,_ |⟨v,_ |⟨x,_ |⟨y,us⟩⟩⟩⟩<;>simp [Tr.nb,nbs,Tr.fill,fills,Tr.weight,wts]at hu⊢ <;>omega,fun h0=>by simp [Tr.nb,nbs,Tr.fill,fills,Tr.weight,wts]at h0⊢⟩)
section
variable {w0 w1 w2 w3 w4 w5:Str}{tt:List Str}{B:List Tn}
theorem BookOk.len (b:BookOk w0 w1 w2 w3 w4 w5 tt B):2≤B.length∧B.length≤4:=by
 obtain⟨n,m,e⟩:=b.lf;have h1:=zfq n w0 w2 w3;have h2:=zfq m w1 w2 w3;have e':=congrArg List.length e;rw [List.length_map,List.length_append]at e';omega
theorem BookOk.left (b:BookOk w0 w1 w2 w3 w4 w5 tt B) {P:Str→Prop}(h0:P w0) (h1:P w1) (h2:P w2) (h3:P w3) {t:Tn}(ht:t∈B):LeftT P t.2.1:=by
 obtain⟨n,m,e⟩:=b.lf;have:t.2.1∈leftsL n w0 w2 w3++leftsL m w1 w2 w3:=by rw [←e];exact List.mem_map.mpr ⟨t,ht,rfl⟩
 rcases List.mem_append.mp this with z |z
 ·exact zgt h0 h2 h3 _ z
 ·exact zgt h1 h2 h3 _ z
theorem BookOk.nodup (b:BookOk w0 w1 w2 w3 w4 w5 tt B) (T:Titles tt):(B.map fun t=>t.1).Nodup:=by
 rw [b.ti];exact List.Nodup.sublist (List.take_sublist ..) T.nd
theorem BookOk.mem (b:BookOk w0 w1 w2 w3 w4 w5 tt B) {t:Tn}(ht:t∈B):t.1∈tt:=by
 have:t.1∈B.map fun t=>t.1:=List.mem_map.mpr ⟨t,ht,rfl⟩;rw [b.ti]at this;exact List.mem_of_mem_take this
end
noncomputable def zaX (B:List Tn) (s:Str):Option Tn:=B.find? fun t=>t.1 == s
theorem zcC:∀{B:List Tn}{t:Tn},(B.map fun t=>t.1).Nodup→t∈B→zaX B t.1=some t
 |u::B,t,hn,ht=>by
  unfold zaX;rw [List.map_cons,List.nodup_cons]at hn;rw [List.find?_cons];rcases List.mem_cons.mp ht with rfl |ht
  ·simp
  ·have hne:u.1≠t.1:=fun z=>hn.1 (by rw [z];exact List.mem_map.mpr ⟨t,ht,rfl⟩);have:(u.1 == t.1)=false:=by simpa using hne
   rw [this];exact zcC hn.2 ht
theorem zhc{B:List Tn}{s:Str}(h:∀t∈B,t.1≠s):zaX B s=none:=by
 unfold zaX;rw [List.find?_eq_none];intro t ht;simpa using h t ht
noncomputable def topB (B:List Tn) (s:Str) (n:Nat):Bool:=match zaX B s with
 |none=>signB s
 |some t=>n == t.2.1.nb
mutual
noncomputable def Tr.way (B:List Tn):Tr→Bool
 | .bl _=>false
 | .nd s ts=>topB B s ts.length&&zic B ts
noncomputable def zic (B:List Tn):List Tr→Bool
 | []=>true
 |t::ts=>t.way B&&zic B ts
end
theorem ziU (B:List Tn):∀ts:List Tr,zic B ts=ts.all (Tr.way B)
 | []=>by simp [zic]
 |t::ts=>by simp [zic,ziU B ts]
mutual
theorem ziL{B:List Tn}(hB:∀t∈B,zdB t.1) {us:List Tr}(hu:∀u∈us,u.way B=true):∀(t:Tr),t.hb zea→t.fits us.length→(t.fill us).way B=true
 | .bl n,h,f=>by
  simp only[Tr.fits]at f;simp only[Tr.fill];rw [List.getD_eq_getElem?_getD,List.getElem?_eq_getElem (show n.toNat<us.length by omega)]
  exact hu _ (List.getElem_mem ..)
 | .nd s ts,h,f=>by
  simp only[Tr.fits]at f;simp only[Tr.hb]at h;simp only[Tr.fill,Tr.way];rw [zkc hB hu ts h.2 f,topB,zhc fun t ht=>(zes h.1 (hB t ht)).symm,(zke s).mpr h.1];rfl
theorem zkc{B:List Tn}(hB:∀t∈B,zdB t.1) {us:List Tr}(hu:∀u∈us,u.way B=true):∀(ts:List Tr),hbs zea ts→fitss us.length ts→zic B (fills us ts)=true
 | [],h,f=>by simp [fills,zic]
 |t::ts,h,f=>by
  simp only[fitss]at f;simp only[hbs]at h;rw [fills,zic,ziL hB hu t h.1 f.1,zkc hB hu ts h.2 f.2];rfl
end
inductive Pl where
  |nd (k bits:Int) (head:Str) (ps:List Pl)
mutual
noncomputable def Pl.wt:Pl→Nat
 | .nd _ _ _ ps=>1+pwts ps
noncomputable def pwts:List Pl→Nat
 | []=>0
 |p::ps=>p.wt+pwts ps
end
mutual
noncomputable def Pl.dp:Pl→Nat
 | .nd _ _ _ ps=>1+zne ps
noncomputable def zne:List Pl→Nat
 | []=>0
 |p::ps=>max p.dp (zne ps)
end
mutual
noncomputable def Pl.nt:Pl→Nat
 | .nd k _ _ ps=>(if k<0 then 0 else 1)+pnts ps
noncomputable def pnts:List Pl→Nat
 | []=>0
 |p::ps=>p.nt+pnts ps
end
inductive PlOk (ws:List Str) (B:List Tn):Pl→Prop
 |sign {b:Int}{h:Str}{ps:List Pl}:h∈ws→(∀p∈ps,PlOk ws B p)→PlOk ws B (.nd (-1) b h ps)
 |turn {k:Nat}{b:Int}{h:Str}{ps:List Pl}{t:Tn}:B[k]? =some t→ps.length=t.2.1.nb→0≤b→b<8→(∀p∈ps,PlOk ws B p)→PlOk ws B (.nd k b h ps)
mutual
noncomputable def Pl.ev (B:List Tn) (c:Int→Nat):Pl→Tr
 | .nd k b h ps=>if k<0 then .nd h (evs B c ps) else match c b with
  |0=>(B.getD k.toNat (h, .bl 0, .bl 0)).2.1.fill (evs B c ps)
  |1=> .nd (B.getD k.toNat (h, .bl 0, .bl 0)).1 (evs B c ps)
  |_=>(B.getD k.toNat (h, .bl 0, .bl 0)).2.2.fill (evs B c ps)
noncomputable def evs (B:List Tn) (c:Int→Nat):List Pl→List Tr
 | []=>[]
 |p::ps=>p.ev B c::evs B c ps
end
theorem zkO (B:List Tn) (c:Int→Nat):∀ps:List Pl,evs B c ps=ps.map (Pl.ev B c)
 | []=>by simp [evs]
 |p::ps=>by simp [evs,zkO B c ps]
theorem zct:∀ps qs:List Pl,pwts (ps++qs)=pwts ps+pwts qs
 | [],qs=>by simp [pwts]
 |p::ps,qs=>by simp [pwts,zct ps qs];omega
theorem zbT:∀ps qs:List Pl,pnts (ps++qs)=pnts ps+pnts qs
 | [],qs=>by simp [pnts]
 |p::ps,qs=>by simp [pnts,zbT ps qs];omega
theorem zgB{p:Pl}:∀{ps:List Pl},p∈ps→p.dp≤zne ps
 |q::ps,h=>by
  rcases List.mem_cons.mp h with rfl |h
  ·simp [zne];omega
  ·have:=zgB h;simp [zne];omega
mutual
theorem zmN:∀p:Pl,p.dp≤p.wt
 | .nd k b h ps=>by have:=zqh ps;simp [Pl.dp,Pl.wt];omega
theorem zqh:∀ps:List Pl,zne ps≤pwts ps
 | []=>by simp [zne]
 |p::ps=>by have:=zmN p;have:=zqh ps;simp [zne,pwts];omega
end
theorem zsB (p:Pl):1≤p.dp:=by cases p;simp [Pl.dp]
theorem ztb (p:Pl):1≤p.wt:=by cases p;simp [Pl.wt]
theorem zaU{B:List Tn}{c:Int→Nat}{b:Int}{h:Str}{ps:List Pl}:(Pl.nd (-1) b h ps).ev B c= .nd h (ps.map (Pl.ev B c)):=by
 rw [Pl.ev,if_pos (by decide),zkO]
noncomputable def evT (t:Tn) (n:Nat) (us:List Tr):Tr:=match n with
 |0=>t.2.1.fill us
 |1=> .nd t.1 us
 |_=>t.2.2.fill us
theorem zaH{B:List Tn}{c:Int→Nat}{b:Int}{h:Str}{ps:List Pl}{k:Nat}{t:Tn}(e:B[k]? =some t):(Pl.nd k b h ps).ev B c=evT t (c b) (ps.map (Pl.ev B c)):=by
 rw [Pl.ev,if_neg (by omega),zkO,Int.toNat_natCast,List.getD_eq_getElem?_getD,e];rfl
section
variable {ws:List Str}{m:Nat}{t:Tr}
theorem zcR (h:Item ws m t):t.depth=1:=by
 cases h<;>simp [Tr.depth,dts]
theorem zdW (h:RightT ws m t):t.depth≤3:=by
 cases h with
 |one h=>rw [zcR h];decide
 |un hs h=>simp [Tr.depth,dts,zcR h]
 |two hs h0 h h'=>simp [Tr.depth,dts,zcR h,zcR h']
 |deep hs hz h0 h h'=>simp [Tr.depth,dts,zcR h,zcR h']
theorem zdD (h:Item ws m t):t.fits m:=by
 cases h with
 |bl h0 h1=>exact⟨h0,h1⟩
 |nd hs=>simp [Tr.fits,fitss]
theorem zcx (h:RightT ws m t):t.fits m:=by
 cases h with
 |one h=>exact zdD h
 |un hs h=>simp [Tr.fits,fitss,zdD h]
 |two hs h0 h h'=>simp [Tr.fits,fitss,zdD h,zdD h']
 |deep hs hz h0 h h'=>simp [Tr.fits,fitss,zdD h,zdD h']
theorem zga{P:Str→Prop}(hP:∀x∈ws,P x) (h:Item ws m t):t.hb P:=by
 cases h with
 |bl h0 h1=>simp [Tr.hb]
 |nd hs=>simp [Tr.hb,hbs,hP _ hs]
theorem zeq{P:Str→Prop}(hP:∀x∈ws,P x) (h:RightT ws m t):t.hb P:=by
 cases h with
 |one h=>exact zga hP h
 |un hs h=>simp [Tr.hb,hbs,zga hP h,hP _ hs]
 |two hs h0 h h'=>simp [Tr.hb,hbs,zga hP h,zga hP h',hP _ hs]
 |deep hs hz h0 h h'=>simp [Tr.hb,hbs,zga hP h,zga hP h',hP _ hs,hP _ hz]
theorem zcq (h:Item ws m t):t.weight=1:=by
 cases h<;>simp [Tr.weight,wts]
theorem zgk (h:RightT ws m t):t.weight≤4:=by
 cases h with
 |one h=>rw [zcq h];decide
 |un hs h=>simp [Tr.weight,wts,zcq h]
 |two hs h0 h h'=>simp [Tr.weight,wts,zcq h,zcq h']
 |deep hs hz h0 h h'=>simp [Tr.weight,wts,zcq h,zcq h']
theorem zdz (h:Item ws m t) {us:List Tr}{M:Nat}(hl:us.length=m) (hM:1≤M) (hu:∀u∈us,u.weight≤M):(t.fill us).weight≤M:=by
 cases h with
 | @bl n h0 h1=>
  simp only[Tr.fill];rw [List.getD_eq_getElem?_getD,List.getElem?_eq_getElem (show n.toNat<us.length by omega)]
  exact hu _ (List.getElem_mem ..)
 |nd hs=>simp [Tr.fill,fills,Tr.weight,wts];omega
theorem zid (h:RightT ws m t) {us:List Tr}{M:Nat}(hl:us.length=m) (hM:1≤M) (hu:∀u∈us,u.weight≤M):(t.fill us).weight≤2+2*M∧(m=0→(t.fill us).weight≤1+M):=by
 cases h with
 |one h=>
  have:=zdz h hl hM hu;omega
 |un hs h=>
  have:=zdz h hl hM hu;simp only[Tr.fill,fills,Tr.weight,wts];omega
 |two hs h0 h h'=>
  have:=zdz h hl hM hu;have:=zdz h' hl hM hu;simp only[Tr.fill,fills,Tr.weight,wts];omega
 |deep hs hz h0 h h'=>
  have:=zdz h hl hM hu;have:=zdz h' hl hM hu;simp only[Tr.fill,fills,Tr.weight,wts];omega
end
structure BkOk (ws hs:List Str) (B:List Tn):Prop where
  ti:∀t∈B,zdB t.1
  nd:(B.map fun t=>t.1).Nodup
  sg:∀x∈ws,zea x
  sb:∀x∈hs,x∈ws
  lf:∀t∈B,LeftT zea t.2.1
  ri:∀t∈B,RightT ws t.2.1.nb t.2.2
theorem BookOk.bk{w0 w1 w2 w3 w4 w5:Str}{tt:List Str}{B:List Tn}(b:BookOk w0 w1 w2 w3 w4 w5 tt B) (T:Titles tt) (G:Signs w0 w1 w2 w3 w4 w5):BkOk [w0,w1,w2,w3,w4,w5] [w2,w3,w4,w5] B:=
 ⟨fun t ht=>T.ok _ (b.mem ht),b.nodup T,G.ok,fun x hx=>List.mem_cons_of_mem _ (List.mem_cons_of_mem _ hx),fun t ht=>b.left (G.ok _ (by simp)) (G.ok _ (by simp)) (G.ok _ (by simp)) (G.ok _ (by simp)) ht,b.ri⟩
section
variable {ws hs:List Str}{B:List Tn}{c:Int→Nat}
theorem zrJ (b:BkOk ws hs B) {p:Pl}(h:PlOk hs B p):(p.ev B c).way B=true:=by
 induction h with
 | @sign b' h ps hh hp ih=>
  rw [zaU,Tr.way,topB,zhc fun t ht=>(zes (b.sg h (b.sb h hh)) (b.ti t ht)).symm,ziU,(zke h).mpr (b.sg h (b.sb h hh))];simp only[List.all_map,Bool.true_and,List.all_eq_true];exact fun p hp=>ih p hp
 | @turn k b' h ps t e hl b0 b1 hp ih=>
  have ht:t∈B:=List.mem_of_getElem? e;have hu:∀u∈ps.map (Pl.ev B c),u.way B=true:=fun u hu=>by
   obtain⟨p,hp,rfl⟩:=List.mem_map.mp hu;exact ih p hp
  rw [zaH e];unfold evT;split
  ·exact ziL b.ti hu _ (b.lf t ht).hb (by rw [List.length_map,hl];exact(b.lf t ht).fits)
  ·rw [Tr.way,topB,zcC b.nd ht,ziU];simp only[List.length_map,hl,beq_self_eq_true,Bool.true_and,List.all_eq_true];exact hu
  ·exact ziL b.ti hu _ (zeq b.sg (b.ri t ht)) (by rw [List.length_map,hl];exact zcx (b.ri t ht))
theorem zxv (b:BkOk ws hs B) {P:Str→Prop}(hP:∀s,zea s→P s) (hc:(∃b,0≤b∧b<8∧c b=1)→ ∀t∈B,P t.1) {p:Pl}(h:PlOk hs B p):(p.ev B c).hd P:=by
 induction h with
 | @sign b' h ps hh hp ih=>
  rw [zaU,Tr.hd,hds_iff];refine⟨hP _ (b.sg h (b.sb h hh)),fun t ht=>?_⟩;obtain⟨p,hp,rfl⟩:=List.mem_map.mp ht;exact ih p hp
 | @turn k b' h ps t e hl b0 b1 hp ih=>
  have ht:t∈B:=List.mem_of_getElem? e;have hu:∀u∈ps.map (Pl.ev B c),u.hd P:=fun u hu=>by
   obtain⟨p,hp,rfl⟩:=List.mem_map.mp hu;exact ih p hp
  rw [zaH e];unfold evT;split
  ·exact zhz hu _ (ziR hP _ (b.lf t ht).hb) (by rw [List.length_map,hl];exact(b.lf t ht).fits)
  ·rename_i ec;rw [Tr.hd,hds_iff];exact⟨hc ⟨b',b0,b1,ec⟩ t ht,hu⟩
  ·exact zhz hu _ (ziR hP _ (zeq b.sg (b.ri t ht))) (by rw [List.length_map,hl];exact zcx (b.ri t ht))
theorem ziX{p:Pl}:∀{ps:List Pl},p∈ps→p.nt≤pnts ps
 |q::ps,h=>by
  rcases List.mem_cons.mp h with rfl |h
  ·simp [pnts]
  ·have:=ziX h;simp [pnts];omega
theorem zlG{p:Pl}:∀{ps:List Pl},p∈ps→p.wt≤pwts ps
 |q::ps,h=>by
  rcases List.mem_cons.mp h with rfl |h
  ·simp [pwts]
  ·have:=zlG h;simp [pwts];omega
theorem zeR (n:Nat):1≤2 ^ n:=Nat.one_le_two_pow
mutual
theorem zhg:∀t:Tr,(t.fill []).depth=t.depth
 | .bl n=>by simp [Tr.fill]
 | .nd s ts=>by simp [Tr.fill,Tr.depth,zgh ts]
theorem zgh:∀ts:List Tr,dts (fills [] ts)=dts ts
 | []=>by simp [fills]
 |t::ts=>by simp [fills,dts,zhg t,zgh ts]
end
end
mutual
noncomputable def Tr.mk (B:List Tn) (g:Tn→Tr):Tr→Tr
 | .bl n=> .bl n
 | .nd s ts=>match zaX B s with
  |none=> .nd s (mks B g ts)
  |some t=>(g t).fill (mks B g ts)
noncomputable def mks (B:List Tn) (g:Tn→Tr):List Tr→List Tr
 | []=>[]
 |t::ts=>t.mk B g::mks B g ts
end
theorem zgU (B:List Tn) (g:Tn→Tr):∀ts:List Tr,mks B g ts=ts.map (Tr.mk B g)
 | []=>by simp [mks]
 |t::ts=>by simp [mks,zgU B g ts]
theorem zlm{B:List Tn}{g:Tn→Tr}{s:Str}{ts:List Tr}(h:zaX B s=none):(Tr.nd s ts).mk B g= .nd s (ts.map (Tr.mk B g)):=by
 rw [Tr.mk,h,zgU]
theorem zle{B:List Tn}{g:Tn→Tr}{s:Str}{ts:List Tr}{t:Tn}(h:zaX B s=some t):(Tr.nd s ts).mk B g=(g t).fill (ts.map (Tr.mk B g)):=by
 rw [Tr.mk,h,zgU]
theorem zbp{B:List Tn}(hB:∀t∈B,zdB t.1) {s:Str}(h:zea s):zaX B s=none:=zhc fun t ht=>(zes h (hB t ht)).symm
mutual
theorem ziF{B:List Tn}{g:Tn→Tr}(hB:∀t∈B,zdB t.1) {us:List Tr}:∀t:Tr,t.hb zea→t.fits us.length→(t.fill us).mk B g=t.fill (us.map (Tr.mk B g))
 | .bl n,h,f=>by
  simp only[Tr.fits]at f;simp only[Tr.fill];rw [List.getD_eq_getElem?_getD,List.getD_eq_getElem?_getD,List.getElem?_map,List.getElem?_eq_getElem (show n.toNat<us.length by omega)]
  rfl
 | .nd s ts,h,f=>by
  simp only[Tr.hb]at h;simp only[Tr.fits]at f;simp only[Tr.fill];rw [Tr.mk,zbp hB h.1];simp only[];rw [zmm hB ts h.2 f]
theorem zmm{B:List Tn}{g:Tn→Tr}(hB:∀t∈B,zdB t.1) {us:List Tr}:∀ts:List Tr,hbs zea ts→fitss us.length ts→mks B g (fills us ts)=fills (us.map (Tr.mk B g)) ts
 | [],h,f=>by simp [fills,mks]
 |t::ts,h,f=>by
  simp only[hbs]at h;simp only[fitss]at f;rw [fills,mks,fills,ziF hB t h.1 f.1,zmm hB ts h.2 f.2]
end
section
variable {ws hs:List Str}{B:List Tn}{c d:Int→Nat}
theorem zuQ (b:BkOk ws hs B) {g:Tn→Tr}(hg:∀t∈B,∀x:Int,0≤x→x<8→c x=1→ ∀us,(g t).fill us=evT t (d x) us) (h0:∀x:Int,0≤x→x<8→c x≠1→d x=c x) {p:Pl}(h:PlOk hs B p):(p.ev B c).mk B g=p.ev B d:=by
 induction h with
 | @sign b' h ps hh hp ih=>
  rw [zaU,zaU,zlm (zbp b.ti (b.sg h (b.sb h hh))),List.map_map];congr 1;exact List.map_congr_left fun p hp=>ih p hp
 | @turn k b' h ps t e hl b0 b1 hp ih=>
  have ht:t∈B:=List.mem_of_getElem? e;have em:(ps.map (Pl.ev B c)).map (Tr.mk B g)=ps.map (Pl.ev B d):=by
   rw [List.map_map];exact List.map_congr_left fun p hp=>ih p hp
  rw [zaH e,zaH e];by_cases hc:c b'=1
  ·rw [←hg t ht b' b0 b1 hc,hc];show(Tr.nd t.1 _).mk B g=_;rw [zle (zcC b.nd ht),em]
  ·rw [h0 b' b0 b1 hc];unfold evT;split
   ·rw [ziF b.ti _ (b.lf t ht).hb (by rw [List.length_map,hl];exact(b.lf t ht).fits),em]
   ·rename_i z;exact absurd z hc
   ·rw [ziF b.ti _ (zeq b.sg (b.ri t ht)) (by rw [List.length_map,hl];exact zcx (b.ri t ht)),em]
noncomputable def zeb (c:Int→Nat):Int→Nat:=fun x=>if c x=1 then 0 else c x
noncomputable def zbH (c:Int→Nat):Int→Nat:=fun x=>if c x=1 then 2 else c x
theorem zeG (b:BkOk ws hs B) {p:Pl}(h:PlOk hs B p):(p.ev B c).mk B (fun t=>t.2.1)=p.ev B (zeb c):=
 zuQ b (fun t ht x _ _ hx us=>by rw [zeb,if_pos hx];rfl) (fun x _ _ hx=>by rw [zeb,if_neg hx]) h
theorem zdq (b:BkOk ws hs B) {p:Pl}(h:PlOk hs B p):(p.ev B c).mk B (fun t=>t.2.2)=p.ev B (zbH c):=
 zuQ b (fun t ht x _ _ hx us=>by rw [zbH,if_pos hx];rfl) (fun x _ _ hx=>by rw [zbH,if_neg hx]) h
theorem zed{p:Pl}(h:PlOk hs B p) (hc:∀x:Int,0≤x→x<8→c x=d x):p.ev B c=p.ev B d:=by
 induction h with
 | @sign b' h ps hh hp ih=>
  rw [zaU,zaU];congr 1;exact List.map_congr_left fun p hp=>ih p hp
 | @turn k b' h ps t e hl b0 b1 hp ih=>
  rw [zaH e,zaH e,hc b' b0 b1];congr 1;exact List.map_congr_left fun p hp=>ih p hp
end
theorem zmc{n:Nat}{h c d:Str}{L:Tr}(hL:L∈leftsL n h c d) {us:List Tr}(hu:us.length=L.nb):L.mt (L.fill us)=some us:=by
 unfold leftsL at hL;split at hL<;>simp only[List.mem_cons,List.not_mem_nil,or_false]at hL
 all_goals first
  | (subst hL;rcases us with _ |⟨u,_ |⟨v,_ |⟨x,_ |⟨y,us⟩⟩⟩⟩<;>simp [Tr.nb,nbs,Tr.fill,fills,Tr.mt,mts]at hu⊢ <;>omega)
  | (rcases hL with rfl |rfl<;>rcases us with _ |⟨u,_ |⟨v,_ |⟨x,_ |⟨y,us⟩⟩⟩⟩<;>simp [Tr.nb,nbs,Tr.fill,fills,Tr.mt,mts]at hu⊢ <;>omega)
noncomputable def zwY (B:List Tn):Prop:=∀t∈B,∀us:List Tr,us.length=t.2.1.nb→t.2.1.mt (t.2.1.fill us)=some us
theorem BookOk.mt{w0 w1 w2 w3 w4 w5:Str}{tt:List Str}{B:List Tn}(b:BookOk w0 w1 w2 w3 w4 w5 tt B):zwY B:=fun t ht us hu=>by
 obtain⟨n,m,e⟩:=b.lf;have:t.2.1∈leftsL n w0 w2 w3++leftsL m w1 w2 w3:=by rw [←e];exact List.mem_map.mpr ⟨t,ht,rfl⟩
 rcases List.mem_append.mp this with z |z
 ·exact zmc z hu
 ·exact zmc z hu
mutual
inductive Mv (B:List Tn):Nat→Tr→Tr→Tr→Prop
 |nn {n:Nat}{s z:Str}{ts us cs:List Tr}:zaX B s=none→zaX B z=none→Mvs B n ts us cs→Mv B (n+1) (.nd s ts) (.nd z us) (.nd s cs)
 |ns {n:Nat}{s z:Str}{ts us cs ms:List Tr}{t:Tn}:zaX B s=none→zaX B z=some t→t.2.1.mt (.nd s ts)=some ms→cs.length=t.2.1.nb→Mvs B n ms us cs→Mv B (n+1) (.nd s ts) (.nd z us) (t.2.2.fill cs)
 |sn {n:Nat}{s z:Str}{ts us cs ms:List Tr}{t:Tn}:zaX B s=some t→zaX B z=none→t.2.1.mt (.nd z us)=some ms→Mvs B n ts ms cs→Mv B (n+1) (.nd s ts) (.nd z us) (.nd s cs)
 |ss {n:Nat}{s z:Str}{ts us cs:List Tr}{t t':Tn}:zaX B s=some t'→zaX B z=some t→cs.length=t.2.1.nb→Mvs B n ts us cs→Mv B (n+1) (.nd s ts) (.nd z us) (t.2.2.fill cs)
inductive Mvs (B:List Tn):Nat→List Tr→List Tr→List Tr→Prop
 |nil {n:Nat}:Mvs B n [] [] []
 |cons {n:Nat}{a b c:Tr}{as bs cs:List Tr}:Mv B n a b c→Mvs B n as bs cs→Mvs B n (a::as) (b::bs) (c::cs)
end
mutual
theorem Mv.monoA{B:List Tn}:∀{n:Nat}{a b c:Tr},Mv B n a b c→ ∀m,n≤m→Mv B m a b c
 |_,_,_,_, .nn h1 h2 h3=>fun m h=>by
  obtain⟨m,rfl⟩:∃m',m=m'+1:=⟨m - 1,by omega⟩
  exact .nn h1 h2 (Mvs.monoA h3 m (by omega))
 |_,_,_,_, .ns h1 h2 h3 h4 h5=>fun m h=>by
  obtain⟨m,rfl⟩:∃m',m=m'+1:=⟨m - 1,by omega⟩
  exact .ns h1 h2 h3 h4 (Mvs.monoA h5 m (by omega))
 |_,_,_,_, .sn h1 h2 h3 h4=>fun m h=>by
  obtain⟨m,rfl⟩:∃m',m=m'+1:=⟨m - 1,by omega⟩
  exact .sn h1 h2 h3 (Mvs.monoA h4 m (by omega))
 |_,_,_,_, .ss h1 h2 h3 h4=>fun m h=>by
  obtain⟨m,rfl⟩:∃m',m=m'+1:=⟨m - 1,by omega⟩
  exact .ss h1 h2 h3 (Mvs.monoA h4 m (by omega))
theorem Mvs.monoA{B:List Tn}:∀{n:Nat}{a b c:List Tr},Mvs B n a b c→ ∀m,n≤m→Mvs B m a b c
 |_,_,_,_, .nil=>fun _ _=> .nil
 |_,_,_,_, .cons h1 h2=>fun m h=> .cons (Mv.monoA h1 m h) (Mvs.monoA h2 m h)
end
theorem Mv.mono{B:List Tn}{n m:Nat}{a b c:Tr}(h:n≤m) (M:Mv B n a b c):Mv B m a b c:=Mv.monoA M m h
theorem Mvs.mono{B:List Tn}{n m:Nat}{a b c:List Tr}(h:n≤m) (M:Mvs B n a b c):Mvs B m a b c:=Mvs.monoA M m h
theorem Mvs.get{B:List Tn}{n:Nat}:∀{as bs cs:List Tr}{i:Nat},Mvs B n as bs cs→i<cs.length→ ∃a b c,as[i]? =some a∧bs[i]? =some b∧cs[i]? =some c∧Mv B n a b c
 |_,_,_,i, .nil,h=>by simp at h
 |_,_,_,0, .cons h1 _,h=>⟨_,_,_,rfl,rfl,rfl,h1⟩
 |_,_,_,i+1, .cons _ h2,h=>by
  obtain⟨a,b,c,e1,e2,e3,q⟩:=Mvs.get (i:=i) h2 (by simpa using h);exact⟨a,b,c,by simpa using e1,by simpa using e2,by simpa using e3,q⟩
theorem Mvs.of{B:List Tn}{n:Nat}{α:Type}{f g h:α→Tr}:∀(xs:List α),(∀x∈xs,Mv B n (f x) (g x) (h x))→Mvs B n (xs.map f) (xs.map g) (xs.map h)
 | [],_=> .nil
 |x::xs,q=> .cons (q x List.mem_cons_self) (Mvs.of xs fun y hy=>q y (List.mem_cons_of_mem _ hy))
mutual
theorem zkZ{B:List Tn}(hB:∀t∈B,zdB t.1) {n:Nat}{us vs cs:List Tr}(h:Mvs B n us vs cs):∀t:Tr,t.hb zea→t.fits cs.length→Mv B (n+t.depth) (t.fill us) (t.fill vs) (t.fill cs)
 | .bl k,q,f=>by
  simp only[Tr.fits]at f;obtain⟨a,b,c,e1,e2,e3,m⟩:=h.get (i:=k.toNat) (by omega);simp only[Tr.fill,List.getD_eq_getElem?_getD,e1,e2,e3,Option.getD_some];exact m.mono (by omega)
 | .nd s ts,q,f=>by
  simp only[Tr.hb]at q;simp only[Tr.fits]at f;have:=zmn hB h ts q.2 f;simp only[Tr.fill,Tr.depth];rw [show n+(1+dts ts)=n+dts ts+1 by omega]
  exact .nn (zbp hB q.1) (zbp hB q.1) this
theorem zmn{B:List Tn}(hB:∀t∈B,zdB t.1) {n:Nat}{us vs cs:List Tr}(h:Mvs B n us vs cs):∀ts:List Tr,hbs zea ts→fitss cs.length ts→Mvs B (n+dts ts) (fills us ts) (fills vs ts) (fills cs ts)
 | [],q,f=>by simp only[fills];exact .nil
 |t::ts,q,f=>by
  simp only[hbs]at q;simp only[fitss]at f;have h1:=zkZ hB h t q.1 f.1;have h2:=zmn hB h ts q.2 f.2;simp only[fills,dts];exact .cons (h1.mono (by omega)) (h2.mono (by omega))
end
noncomputable def zjQ (c d:Int→Nat):Int→Nat:=fun x=>if d x=1 then 2 else c x
theorem zhi{ws hs:List Str}{B:List Tn}{c d:Int→Nat}(b:BkOk ws hs B) (hm:zwY B) (hc:∀x:Int,0≤x→x<8→(c x≤1∧d x≤1)∨(c x=2∧d x=2)) {p:Pl}(h:PlOk hs B p):Mv B (p.dp+3*p.nt) (p.ev B c) (p.ev B d) (p.ev B (zjQ c d)):=by
 induction h with
 | @sign b' h ps hh hp ih=>
  rw [zaU,zaU,zaU,Pl.dp,Pl.nt,if_pos (by decide),show 1+zne ps+3*(0+pnts ps)=zne ps+3*pnts ps+1 by omega]
  refine .nn (zbp b.ti (b.sg h (b.sb h hh))) (zbp b.ti (b.sg h (b.sb h hh))) (.of ps fun p hp=>(ih p hp).mono ?_);have:=zgB hp;have:=ziX hp;omega
 | @turn k b' h ps t e hl b0 b1 hp ih=>
  have ht:t∈B:=List.mem_of_getElem? e;have en:(Pl.nd k b' h ps).nt=1+pnts ps:=by rw [Pl.nt,if_neg (by omega)]
  have M:Mvs B (zne ps+3*pnts ps) (ps.map (Pl.ev B c)) (ps.map (Pl.ev B d)) (ps.map (Pl.ev B (zjQ c d))):= .of ps fun p hp=>(ih p hp).mono (by
   have:=zgB hp;have:=ziX hp;omega)
  have lc:(ps.map (Pl.ev B (zjQ c d))).length=t.2.1.nb:=by rw [List.length_map,hl]
  have l1:(ps.map (Pl.ev B c)).length=t.2.1.nb:=by rw [List.length_map,hl]
  have l2:(ps.map (Pl.ev B d)).length=t.2.1.nb:=by rw [List.length_map,hl]
  have tt:=zcC b.nd ht;have L:=b.lf t ht;have R:=b.ri t ht;have hd:=L.dp;rw [zaH e,zaH e,zaH e,Pl.dp,en,show 1+zne ps+3*(1+pnts ps)=zne ps+3*pnts ps+3+1 by omega]
  have lsign:∀us,∃s ts,t.2.1.fill us= .nd s ts∧zaX B s=none:=fun us=>by
   obtain⟨s,ts,el⟩:=L.nd;have hb:=L.hb;rw [el,Tr.hb]at hb;exact⟨s,fills us ts,by rw [el,Tr.fill],zbp b.ti hb.1⟩
  have hp:zjQ c d b'=if d b'=1 then 2 else c b':=rfl;rw [hp];rcases hc b' b0 b1 with⟨c1,d1⟩ |⟨c2,d2⟩
  ·by_cases dz:d b'=1
   ·rw [if_pos dz,dz];by_cases cz:c b'=1
    ·rw [cz];exact .ss tt tt lc (M.mono (by omega))
    ·rw [show c b'=0 by omega]
     obtain⟨s,ts,es,hs⟩:=lsign (ps.map (Pl.ev B c));have:=hm t ht _ l1;simp only[evT];rw [es]at this⊢;exact .ns hs tt this lc (M.mono (by omega))
   ·rw [if_neg dz,show d b'=0 by omega]
    by_cases cz:c b'=1
    ·rw [cz];obtain⟨s,ts,es,hs⟩:=lsign (ps.map (Pl.ev B d));have:=hm t ht _ l2;simp only[evT];rw [es]at this⊢;exact .sn tt hs this (M.mono (by omega))
    ·rw [show c b'=0 by omega]
     simp only[evT];exact(zkZ b.ti M _ L.hb (by rw [lc];exact L.fits)).mono (by omega)
  ·rw [d2,if_neg (by decide),c2];simp only[evT];have:=zdW R;exact(zkZ b.ti M _ (zeq b.sg R) (by rw [lc];exact zcx R)).mono (by omega)
theorem zpr{P:Str→Prop}:∀{ts us:List Tr},hds P ts→hds P us→hds P (ts++us)
 | [],us,_,h=>h
 |t::ts,us,h,g=>by
  simp only[hds,List.cons_append]at h⊢;exact⟨h.1,zpr h.2 g⟩
mutual
inductive PlAt (S:Sto):Pl→W→Prop
 |nd {k b:Int}{h:Str}{ps:List Pl}{a:Addr}{vs:List W}:S a=some (.lst vs)→PlsAt S ps vs→PlAt S (.nd k b h ps) (.tup [.int k, .int b, .str h, .ref a])
inductive PlsAt (S:Sto):List Pl→List W→Prop
 |nil:PlsAt S [] []
 |cons {p:Pl}{v:W}{ps:List Pl}{vs:List W}:PlAt S p v→PlsAt S ps vs→PlsAt S (p::ps) (v::vs)
end
mutual
theorem PlAt.sub{S S':Sto}(h:Sub S S'):∀{p:Pl}{v:W},PlAt S p v→PlAt S' p v
 |_,_, .nd e q=> .nd (h _ _ e) (PlsAt.sub h q)
theorem PlsAt.sub{S S':Sto}(h:Sub S S'):∀{ps:List Pl}{vs:List W},PlsAt S ps vs→PlsAt S' ps vs
 |_,_, .nil=> .nil
 |_,_, .cons a b=> .cons (PlAt.sub h a) (PlsAt.sub h b)
end
section
variable {S:Sto}
theorem PlsAt.len:∀{ps:List Pl}{vs:List W},PlsAt S ps vs→ps.length=vs.length
 |_,_, .nil=>rfl
 |_,_, .cons _ h=>congrArg (· +1) (PlsAt.len h)
theorem PlsAt.app:∀{ps qs:List Pl}{vs us:List W},PlsAt S ps vs→PlsAt S qs us→PlsAt S (ps++qs) (vs++us)
 |_,_,_,_, .nil,h=>h
 |_,_,_,_, .cons a b,h=> .cons a (PlsAt.app b h)
theorem PlsAt.take:∀(n:Nat) {ps:List Pl}{vs:List W},PlsAt S ps vs→PlsAt S (ps.take n) (vs.take n)
 |0,_,_,_=> .nil
 |_+1,_,_, .nil=> .nil
 |n+1,_,_, .cons a b=> .cons a (PlsAt.take n b)
theorem PlsAt.drop:∀(n:Nat) {ps:List Pl}{vs:List W},PlsAt S ps vs→PlsAt S (ps.drop n) (vs.drop n)
 |0,_,_,h=>h
 |_+1,_,_, .nil=> .nil
 |n+1,_,_, .cons _ b=>PlsAt.drop n b
theorem PlsAt.rep{p:Pl}{v:W}(h:PlAt S p v):∀n:Nat,PlsAt S (List.replicate n p) (List.replicate n [v]).flatten
 |0=> .nil
 |n+1=>by
  rw [List.replicate_succ,List.replicate_succ,List.flatten_cons];exact .cons h (PlsAt.rep h n)
end
noncomputable def pad (w:Str):Pl:= .nd (-1) 0 w []
noncomputable def zbE (need:Nat) (w:Str) (ps:List Pl):List Pl:=List.replicate (need - ps.length) (pad w)++ps
noncomputable def push (need:Nat) (w:Str) (k b:Int) (h:Str) (ps:List Pl):List Pl:=
 (zbE need w ps).take ((zbE need w ps).length - need)++[.nd k b h ((zbE need w ps).drop ((zbE need w ps).length - need))]
theorem zmk (w:Str):∀n:Nat,pwts (List.replicate n (pad w))=n
 |0=>by simp [pwts]
 |n+1=>by rw [List.replicate_succ,pwts,zmk w n];simp [pad,Pl.wt,pwts];omega
theorem zmS (w:Str):∀n:Nat,pnts (List.replicate n (pad w))=0
 |0=>by simp [pnts]
 |n+1=>by rw [List.replicate_succ,pnts,zmS w n];simp [pad,Pl.nt,pnts]
theorem zgx:∀ps:List Pl,ps.length≤pwts ps
 | []=>by simp
 |p::ps=>by have:=zgx ps;have:=ztb p;simp [pwts];omega
theorem zew (need:Nat) (w:Str) (ps:List Pl):(zbE need w ps).length=need - ps.length+ps.length:=by simp [zbE]
theorem zpm{need:Nat}{w:Str}{k b:Int}{h:Str}{ps:List Pl}:pwts (push need w k b h ps)=need - ps.length+pwts ps+1∧pnts (push need w k b h ps)=pnts ps+(if k<0 then 0 else 1)∧(push need w k b h ps).length=need - ps.length+ps.length - need+1:=by
 have hl:=zew need w ps;have h1:pwts (zbE need w ps)=need - ps.length+pwts ps:=by rw [zbE,zct,zmk]
 have h2:pnts (zbE need w ps)=pnts ps:=by rw [zbE,zbT,zmS];omega
 have h3:=zct ((zbE need w ps).take ((zbE need w ps).length - need)) ((zbE need w ps).drop ((zbE need w ps).length - need));have h4:=zbT ((zbE need w ps).take ((zbE need w ps).length - need)) ((zbE need w ps).drop ((zbE need w ps).length - need));rw [List.take_append_drop]at h3 h4;unfold push;refine⟨?_,?_,?_⟩
 ·rw [zct,pwts,pwts,Pl.wt];omega
 ·rw [zbT,pnts,pnts,Pl.nt];omega
 ·rw [List.length_append,List.length_take,List.length_singleton,hl];omega
theorem znF{need:Nat}{w:Str}(ps:List Pl):((zbE need w ps).drop ((zbE need w ps).length - need)).length=need:=by
 have hl:=zew need w ps;rw [List.length_drop,hl];omega
theorem zkt{ws:List Str}{B:List Tn}{need:Nat}{w:Str}{ps:List Pl}(hw:w∈ws) (h:∀p∈ps,PlOk ws B p):∀p∈zbE need w ps,PlOk ws B p:=fun p hp=>by
 rcases List.mem_append.mp hp with z |z
 ·rw [(List.mem_replicate.mp z).2];exact .sign hw fun q hq=>by cases hq
 ·exact h p z
theorem zuo{ws:List Str}{B:List Tn}{need:Nat}{w:Str}{k b:Int}{h:Str}{ps:List Pl}(hw:w∈ws) (hp:∀p∈ps,PlOk ws B p) (hn:∀qs:List Pl,qs.length=need→(∀q∈qs,PlOk ws B q)→PlOk ws B (.nd k b h qs)):∀p∈push need w k b h ps,PlOk ws B p:=fun p hq=>by
 rcases List.mem_append.mp hq with z |z
 ·exact zkt hw hp p (List.mem_of_mem_take z)
 ·rw [List.mem_singleton.mp z];exact hn _ (znF ps) fun q hq=>zkt hw hp q (List.mem_of_mem_drop hq)
noncomputable def zrp:WS:=(zcn (zpD (wTb (wOp oGt (zad 3) (wC (.int 0)))) (wTb (wOp oLt (zad 5) (wC (.int 5))))) (zar (wAsg (wOp (zej fun i j=> .int (i - j)) (zad 3) (wC (.int 1))) (wGN 3))
  (zar (wAsg (zcD (zql (zrv (zdJ (zab (zbR (zab (znJ (wC (.int 1))) (zab (wC (.int 0)) (zab (wOp oIx (zad 2) (wC (.int 2))) (zab (zcD (zdJ waNil)) waNil))))) waNil)) (wOp (zej fun i j=> .int (i - j)) (zad 8) (wB zeL (zab (zad 4) waNil)))) (zad 4))) (wGN 4))
  (zar (wAsg (wOp (zej fun i j=> .int (i - j)) (wB zeL (zab (zad 4) waNil)) (zad 8)) (wGN 11))
  (wAsg (zcD (znl (zur (zad 4) woN (woS (zad 11))) (zdJ (zab (wOp zda (zad 9) (zbR (zab (wSl (zad 4) (woS (zad 11)) woN) waNil))) waNil)))) (wGN 4))))) zaF)
theorem zoD{r:Nat}:zfg r zaW=(zar (wAsg (wOp (zcZ (fun _ j=>0<j) fun i j=> .int (i % j)) (zad 6) (wC (.int 8))) (wGN 7))
  (zar (wAsg (zrS (zdJ (zab (wC (.int 0)) (zab (wC (.int 0)) (zab (wC (.int 1)) (zab (wC (.int 2)) waNil))))) (wB zkw (zab (zad 7) (zab (wC (.int 3)) waNil)))) (wGN 8))
  (zar (wAsg (zbR (zab (znJ (wC (.int 1))) (zab (wC (.int 0)) (zab (wOp oIx (zad 2) (zrS (zdJ (zab (wC (.int 2)) (zab (wC (.int 5)) (zab (wC (.int 3)) (zab (wC (.int 4)) waNil))))) (wB zkw (zab (zad 7) (zab (wC (.int 3)) waNil))))) waNil)))) (wGN 9))
  (zar (zcn (wTb (wOp oGt (zad 7) (wC (.int 3)))) (zar (wAsg (wOp (zcZ (fun _ j=>0<j) fun i j=> .int (i % j)) (wOp (zcZ ziZ fun i j=> .int (i / j)) (zad 6) (wC (.int 8))) (wB zeL (zab (zad 1) waNil))) (wGN 10))
  (zar (wAsg (zal (zay r) (zab (wOp oIx (wOp oIx (zad 1) (zad 10)) (wC (.int 1))) waNil)) (wGN 8))
  (zar (wAsg (zbR (zab (zad 10) (zab (wOp (zcZ (fun _ j=>0<j) fun i j=> .int (i % j)) (wOp (zcZ ziZ fun i j=> .int (i / j)) (zad 6) (wC (.int 64))) (wC (.int 8))) (zab (wC (.str "")) waNil)))) (wGN 9))
  (wAsg (wOp zda (zad 5) (wC (.int 1))) (wGN 5))))) zaF)
  zrp)))):=rfl
section
variable {w0 w1 w2 w3 w4 w5:Str}{r:Nat}{S:Sto}{aw st:Addr}{E:WX}{D:WEnds}
theorem zoK{need:Nat}{k b room spent:Int}{h:Str}{ps:List Pl}{vs:List W}{x0 x1 x6 x7 x10 x11:Option W}(hw:S aw=some (.lst (six w0 w1 w2 w3 w4 w5))) (hst:S st=some (.lst vs)) (hp:PlsAt S ps vs) (hn:need≤3) (hl:ps.length≤100)
  (h1:D.nx [x0,x1,some (.ref aw),some (.int room),some (.ref st),some (.int spent),x6,x7,some (.int need),some (.tup [.int k, .int b, .str h]),x10,x11] S)
  (h2:0<room→spent<5→ ∀(st':Addr) (S':Sto) (vs':List W) (x11:Option W),Sub S S'→S' st'=some (.lst vs')→PlsAt S' (push need w2 k b h ps) vs'→D.nx [x0,x1,some (.ref aw),some (.int (room - 1)),some (.ref st'),some (.int spent),x6,x7,some (.int need),some (.tup [.int k, .int b, .str h]),x10,x11] S') :
  zrp E D [x0,x1,some (.ref aw),some (.int room),some (.ref st),some (.int spent),x6,x7,some (.int need),some (.tup [.int k, .int b, .str h]),x10,x11] S:=by
 unfold zrp;walk_at "wp";split
 ·rename_i c1;split
  ·rename_i c2;simp only[zag hw,six2];have f1:=fun(a:Addr) (ha:S a=none)=>keep (x:=Ob.lst []) hst ha;refine⟨Nat.zero_le _,fun a ha=>⟨zan (by decide),zan (by decide),?_⟩⟩;rw [zag (f1 a ha),zag (f1 a ha)];have hlen:=hp.len;have en:((need:Int) - (vs.length:Int)).toNat=need - ps.length:=by omega
   rw [en];have pa:PlAt (put S a (Ob.lst [])) (pad w2) (.tup [.int (-1), .int 0, .str w2, .ref a]):= .nd zah .nil;have pp:PlsAt (put S a (Ob.lst [])) (zbE need w2 ps) ((List.replicate (need - ps.length) [W.tup [.int (-1), .int 0, .str w2, .ref a]]).flatten++vs):=(PlsAt.rep pa _).app (hp.sub (.put .refl ha));have pl:=pp.len;have sub1:Sub S (put S a (Ob.lst [])):= .put .refl ha;have hfl:((List.replicate (need - ps.length) [W.tup [.int (-1), .int 0, .str w2, .ref a]]).flatten).length≤3:=by
    rw [List.length_append,zew]at pl;omega
   have e0:(1*(need - ps.length))≤sizeLine:=zan (by omega);refine⟨⟨by omega,by omega,e0⟩,zan (by omega),?_⟩
   generalize (List.replicate (need - ps.length) [W.tup [.int (-1), .int 0, .str w2, .ref a]]).flatten++vs=ys at pp pl⊢;generalize put S a (Ob.lst [])=S1 at pp sub1⊢;intro b2 hb2;have sub2:Sub S1 (put S1 b2 (.lst ys)):= .put .refl hb2;generalize put S1 b2 (Ob.lst ys)=S2 at sub2⊢;have hpl:=zew need w2 ps;have ea:((ys.length:Nat):Int) - (need:Int)=((ys.length - need:Nat):Int):=by omega
   rw [ea,zmR,zlM];intro p hp3;have sub3:Sub S2 (put S2 p (.lst (ys.drop (ys.length - need)))):= .put .refl hp3;have fp:put S2 p (Ob.lst (ys.drop (ys.length - need))) p=some (.lst (ys.drop (ys.length - need))):=zah;generalize put S2 p (Ob.lst (ys.drop (ys.length - need)))=S3 at sub3 fp⊢;refine⟨zan (by decide),zan (by decide),zan (by decide),zan (by rw [List.length_take];omega),fun q hq=>?_⟩;have sub4:Sub S3 (put S3 q (.lst (ys.take (ys.length - need)++[.tup [.int k, .int b, .str h, .ref p]]))):= .put .refl hq;refine h2 c1 c2 q _ _ _ (((sub1.trans sub2).trans sub3).trans sub4) zah ?_;unfold push;have pp3:=pp.sub ((sub2.trans sub3).trans sub4);rw [←pl]at *;exact(pp3.take _).app (.cons (.nd (sub4 _ _ fp) (pp3.drop _)) .nil)
  ·exact h1
 ·exact h1
theorem zsN (n:Int) (h0:0≤n) (h1:n<8):∃m:Nat,m≤2∧atI [W.int 0,W.int 0,W.int 1,W.int 2] (if 3<n then 3 else n)=some (.int (m:Int)):=by
 rcases(show n=0∨n=1∨n=2∨(3≤n) by omega) with rfl |rfl |rfl |h
 ·exact⟨0,by decide,rfl⟩
 ·exact⟨0,by decide,rfl⟩
 ·exact⟨1,by decide,rfl⟩
 ·have:(if 3<n then 3 else n)=3:=by split<;>omega
  rw [this];exact⟨2,by decide,rfl⟩
theorem zuj (n:Int) (h0:0≤n) (h1:n<8):∃(i:Int) (x:Str),x∈ [w2,w3,w4,w5]∧atI [W.int 2,W.int 5,W.int 3,W.int 4] (if 3<n then 3 else n)=some (.int i)∧atI (six w0 w1 w2 w3 w4 w5) i=some (.str x):=by
 rcases(show n=0∨n=1∨n=2∨(3≤n) by omega) with rfl |rfl |rfl |h
 ·exact⟨2,w2,by simp,rfl,rfl⟩
 ·exact⟨5,w5,by simp,rfl,rfl⟩
 ·exact⟨3,w3,by simp,rfl,rfl⟩
 ·have:(if 3<n then 3 else n)=3:=by split<;>omega
  rw [this];exact⟨4,w4,by simp,rfl,rfl⟩
inductive PlI (S:Sto) (ac ab aw:Addr) (hs:List Str) (B:List Tn) (m:Nat) (ws:List W) (σ:WSt) (S':Sto):Prop
 |mk (ns:List Int) (ps:List Pl) (vs:List W) (st:Addr) (room spent:Int) (x6 x7 x8 x9 x10 x11:Option W):ws=ns.map W.int→Sub S S'→S' st=some (.lst vs)→PlsAt S' ps vs→(∀p∈ps,PlOk hs B p)→0≤room→room≤m→(pnts ps:Int)≤spent→pnts ps≤4→(pwts ps:Int)+ps.length≤2*(m - room)+pnts ps+2→
  σ=[some (.ref ac),some (.ref ab),some (.ref aw),some (.int room),some (.ref st),some (.int spent),x6,x7,x8,x9,x10,x11]→PlI S ac ab aw hs B m ws σ S'
inductive PlW (S:Sto) (hs:List Str) (B:List Tn) (m:Nat) (f:Addr→WSt) (mm:Nat) (σ:WSt) (S2:Sto):Prop
 |mk (ps:List Pl) (vs:List W) (st:Addr):mm=ps.length→Sub S S2→S2 st=some (.lst vs)→PlsAt S2 ps vs→(∀p∈ps,PlOk hs B p)→pnts ps≤4→pwts ps+ps.length≤2*m+pnts ps+2→σ=f st→PlW S hs B m f mm σ S2
theorem zqp{m:Nat}(hm9:m≤9) {Q:WK}{X:Str→Sto→Prop}{ac ab:Addr}{cells:List Int}{B:List Tn}(hc:S ac=some (.lst (cells.map W.int))) (hb:S ab=some (.lst (B.map zbe))) (hw:S aw=some (.lst (six w0 w1 w2 w3 w4 w5))) (bk:BkOk [w0,w1,w2,w3,w4,w5] [w2,w3,w4,w5] B) (hB:B≠ [])
  (h:∀(p:Pl) (v:W) (S':Sto),Sub S S'→PlAt S' p v→PlOk [w2,w3,w4,w5] B p→p.wt≤2*m+1+p.nt→p.nt≤4→Q v S'):zbv (r+10) [.ref ac, .ref ab, .ref aw, .int m] S Q X:=by
 rw [show r+10=r+9+1 from rfl,zbv];walk_at "wp";refine⟨Nat.zero_le _,fun st0 hst0=>?_⟩;rw [zag (keep hc hst0)];refine zkM (PlI S ac ab aw [w2,w3,w4,w5] B m) ?_ ?_ _ _ _ ⟨cells,[],[],st0,m,0,none,none,none,none,none,none,rfl, .put .refl hst0,zah, .nil,(fun _ h=>nomatch h),by omega,by omega,by simp [pnts],by simp [pnts],by simp [pnts,pwts],rfl⟩
 ·rintro w ws σ S' N ⟨ns,ps,vs,st,room,spent,x6,x7,x8,x9,x10,x11,ew,sub,hst,hp,ok,r0,r1,p0,p1,p2,rfl⟩ hN;cases ns with
  |nil=>cases ew
  |cons n ns=>
  cases ew;have fw:=sub _ _ hw;have fb:=sub _ _ hb;have fc:=sub _ _ hc;have m0:0≤n % 8:=Int.emod_nonneg _ (by decide);have m1:n % 8<8:=Int.emod_lt_of_pos _ (by decide);have hpl:=zgx ps;obtain⟨need,hneed,en⟩:=zsN (n % 8) m0 m1;obtain⟨i,hd,hhd,e1,e2⟩:=zuj (w0:=w0) (w1:=w1) (w2:=w2) (w3:=w3) (w4:=w4) (w5:=w5) (n % 8) m0 m1;have go:∀(need:Nat) (k b:Int) (hh:Str) (sp:Int) (x10:Option W),need≤3→(∀qs:List Pl,qs.length=need→(∀q∈qs,PlOk [w2,w3,w4,w5] B q)→PlOk [w2,w3,w4,w5] B (.nd k b hh qs))→(k<0∧need≤2∧sp=spent∨ ¬k<0∧sp=spent+1)→
    ∀(E:WX) (D:WEnds),D.nx=N→zrp E D [some (.ref ac),some (.ref ab),some (.ref aw),some (.int room),some (.ref st),some (.int sp),some (.int n),some (.int (n % 8)),some (.int need),some (.tup [.int k, .int b, .str hh]),x10,x11] S':=fun need k b hh sp x10 hn hok hk E D hD=>by
   subst hD;refine zoK fw hst hp hn (by omega) ?_ fun c1 c2 st' S2 vs' x11 sub2 hst2 hp2=>?_
   ·refine hN _ _ S' .refl fc ⟨ns,ps,vs,st,room,sp,_,_,_,_,_,_,rfl,sub,hst,hp,ok,r0,r1,by omega,p1,p2,rfl⟩
   ·obtain⟨s1,s2,s3⟩:=zpm (need:=need) (w:=w2) (k:=k) (b:=b) (h:=hh) (ps:=ps);have hz:ps.length=0→pwts ps=0∧pnts ps=0:=fun z=>by
     cases ps with
     |nil=>exact⟨rfl,rfl⟩
     |cons _ _=>simp at z
    have fin:(pnts (push need w2 k b hh ps):Int)≤sp→pnts (push need w2 k b hh ps)≤4→(pwts (push need w2 k b hh ps):Int)+(push need w2 k b hh ps).length≤2*(m - (room - 1))+pnts (push need w2 k b hh ps)+2→D.nx [some (.ref ac),some (.ref ab),some (.ref aw),some (.int (room - 1)),some (.ref st'),some (.int sp),some (.int n),some (.int (n % 8)),some (.int need),some (.tup [.int k, .int b, .str hh]),x10,x11] S2:=fun f1 f2 f3=>
     hN _ _ S2 .refl (sub2 _ _ fc) ⟨ns,_,vs',st',room - 1,sp,_,_,_,_,_,_,rfl,sub.trans sub2,hst2,hp2,zuo (by simp) ok hok,by omega,by omega,f1,f2,f3,rfl⟩
    rcases hk with⟨kn,n2,es⟩ |⟨kp,es⟩
    ·rw [if_pos kn]at s2;refine fin (by omega) (by omega) ?_;rcases Nat.eq_zero_or_pos ps.length with z |z
     ·have:=hz z;omega
     ·omega
    ·rw [if_neg kp]at s2;refine fin (by omega) (by omega) ?_;rcases Nat.eq_zero_or_pos ps.length with z |z
     ·have:=hz z;omega
     ·omega
  rw [zoD];walk_at "wp";simp only[en,e1];walk_at "wp";simp only[zag fw,e2];refine⟨by decide,zan (by decide),zan (by decide),zan (by decide),?_⟩;split
  ·have hbl:(B.map zbe)≠ []:=by simpa using hB
   obtain⟨j,x,ej,ex⟩:=zov (n / 8) hbl;have hlt:0<(B.map zbe).length:=List.length_pos_iff.mpr hbl;have ek:n / 8 % ((B.map zbe).length:Int)=(((n / 8 % ((B.map zbe).length:Int)).toNat:Nat):Int):=by
    have:=Int.emod_nonneg (n / 8) (show((B.map zbe).length:Int)≠0 by omega)
    omega
   have ek2:=zbz (xs:=B.map zbe) (n:=(n / 8 % ((B.map zbe).length:Int)).toNat);rw [←ek,ex,List.getElem?_map]at ek2;cases et:B[(n / 8 % ((B.map zbe).length:Int)).toNat]? with
   |none=>rw [et]at ek2;cases ek2
   |some t=>
    rw [et]at ek2;have ext:x= .tup [.str t.1,enc t.2.1,enc t.2.2]:=by cases ek2;rfl
    have ht:t∈B:=List.mem_of_getElem? et;have LT:=bk.lf t ht;have hLd:=LT.dp;have hLw:=LT.wt;have hLn:=LT.nb;simp only[zag fb,ex,ext];walk_at "wp";rw [show atI [W.str t.1,enc t.2.1,enc t.2.2] 1=some (enc t.2.1) from rfl];refine⟨⟨by decide,by decide⟩,by omega,?_⟩
    refine zin 4 hLd (by omega) (by omega) ⟨⟨by decide,by decide⟩,by decide,zan (by decide),?_⟩
    have b0:0≤n / 64 % 8:=Int.emod_nonneg _ (by decide);have b1:n / 64 % 8<8:=Int.emod_lt_of_pos _ (by decide);refine go t.2.1.nb _ _ _ _ _ hLn (fun qs hq hqs=>?_) (.inr ⟨by omega,rfl⟩) _ _ rfl;rw [ek];exact .turn et hq b0 b1 hqs
  ·exact go need (-1) 0 hd spent _ (by omega) (fun qs hq hqs=> .sign hhd hqs) (.inl ⟨by decide,hneed,rfl⟩) _ _ rfl
 ·rintro σ S' ⟨ns,ps,vs,st,room,spent,x6,x7,x8,x9,x10,x11,ew,sub,hst,hp,ok,r0,r1,p0,p1,p2,rfl⟩;have hpl:=zgx ps;refine⟨PlW S [w2,w3,w4,w5] B m (fun st=>[some (.ref ac),some (.ref ab),some (.ref aw),some (.int room),some (.ref st),some (.int spent),x6,x7,x8,x9,x10,x11]),⟨_,ps,vs,st,rfl,sub,hst,hp,ok,p1,by omega,rfl⟩,?_⟩
  rintro mm σ S2 ⟨ps,vs,st,rfl,sub,hst,hp,ok,p1,p2,rfl⟩;have hlen:=hp.len;have fw:=sub _ _ hw;walk_at "wp";rw [zag hst];split
  ·rename_i hgt;simp only[zfd];walk_at "wp";simp only[zag hst,zag fw,six4];have c1:zdG vs none (some (-2))=vs.take (vs.length - 2):=zlq 2 (by decide);have c2:zdG vs (some (-2)) none=vs.drop (vs.length - 2):=zoR 2 (by decide);rw [c1,c2];intro p hp3;have sub3:Sub S2 (put S2 p (.lst (vs.drop (vs.length - 2)))):= .put .refl hp3;have fp:put S2 p (Ob.lst (vs.drop (vs.length - 2))) p=some (.lst (vs.drop (vs.length - 2))):=zah;generalize put S2 p (Ob.lst (vs.drop (vs.length - 2)))=S3 at sub3 fp⊢;refine⟨zan (by decide),zan (by decide),zan (by rw [List.length_take];omega),fun q hq=>?_⟩;have sub4:Sub S3 (put S3 q (.lst (vs.take (vs.length - 2)++[.tup [.int (-1), .int 0, .str w4, .ref p]]))):= .put .refl hq;have hp4:=hp.sub (sub3.trans sub4);have hw3:=zct (ps.take (vs.length - 2)) (ps.drop (vs.length - 2));have hn3:=zbT (ps.take (vs.length - 2)) (ps.drop (vs.length - 2));rw [List.take_append_drop]at hw3 hn3;refine⟨_,_,?_, .refl,ps.take (vs.length - 2)++[.nd (-1) 0 w4 (ps.drop (vs.length - 2))],_,q,rfl,(sub.trans sub3).trans sub4,zah,(hp4.take _).app (.cons (.nd (sub4 _ _ fp) (hp4.drop _)) .nil),fun x hx=>?_,?_,?_,rfl⟩
   ·rw [List.length_append,List.length_take,List.length_singleton];omega
   ·rcases List.mem_append.mp hx with z |z
    ·exact ok x (List.mem_of_mem_take z)
    ·rw [List.mem_singleton.mp z];exact .sign (by simp) fun y hy=>ok y (List.mem_of_mem_drop hy)
   ·rw [zbT,pnts,pnts,Pl.nt,if_pos (by decide)];omega
   ·rw [zct,pwts,pwts,Pl.wt,List.length_append,List.length_take,List.length_singleton,zbT,pnts,pnts,Pl.nt,if_pos (by decide)];omega
  ·rename_i hle
   try walk_at "wp"
   simp only[zag fw,zzt];refine⟨Nat.zero_le _,fun a ha=>⟨zan (by decide),zan (by decide),?_⟩⟩;rw [zag (keep hst ha)];refine⟨zan (by omega),?_⟩;cases hp with
   |nil=>
    exact⟨_, .refl,h (pad w5) _ _ (sub.trans (.put .refl ha)) (.nd zah .nil) (.sign (by simp) fun _ z=>nomatch z) (by simp [pad,Pl.wt,pwts];omega) (by simp [pad,Pl.nt,pnts])⟩
   | @cons p v ps vs h1 h2=>
    rw [List.cons_append,zgD];have e0:ps=[]:=by
     cases ps with
     |nil=>rfl
     |cons q qs=>
      have:=h2.len;simp only[List.length_cons]at this hle;omega
    subst e0;simp only[pwts,pnts,List.length_cons,List.length_nil]at p1 p2;exact⟨_, .refl,h p v _ (sub.trans (.put .refl ha)) (h1.sub (.put .refl ha)) (ok p List.mem_cons_self) (by omega) (by omega)⟩
end
section
variable {r:Nat}{S:Sto}{Q:WK}{E:Str→Sto→Prop}{a:Addr}{B:List Tn}
noncomputable def zep:Option Tn→W
 |some t=>zbe t
 |none=> .non
theorem zjV (B:List Tn) (s:Str):B.findSome? (fun t=>if t.1 == s then some (zbe t) else none)=(zaX B s).map zbe:=by
 unfold zaX
 induction B with
 |nil=>rfl
 |cons t B ih=>
  rw [List.findSome?_cons,List.find?_cons];cases e:t.1 == s with
  |true=>rfl
  |false=>simpa using ih
theorem zfh{s:Str}(ha:S a=some (.lst (B.map zbe))) (h:Q (zep (zaX B s)) S):zaR (r+1) [.ref a, .str s] S Q E:=by
 rw [zaR];walk_at "wp";rw [zag ha];refine zfI (S:=S) ?_ (fun σ=>∃x,σ=[some (.ref a),some (.str s),x]) zbe (fun t=>if t.1 == s then some (zbe t) else none) B _ ⟨_,rfl⟩ (fun t ht σ N hI hno hret=>?_) (fun e σ hI=>?_) fun w e S' sb=>?_
 ·exact ha
 ·obtain⟨x,rfl⟩:=hI;simp only[zeF];have ee:zbe t= .tup [.str t.1,enc t.2.1,enc t.2.2]:=rfl;rw [ee];walk_at "wp";cases e:t.1 == s with
  |true=>
   rw [e]at hret;exact hret _ rfl _ .refl
  |false=>
   rw [e]at hno;exact hno rfl _ _ ⟨_,rfl⟩ .refl
 ·obtain⟨x,rfl⟩:=hI;walk_at "wp";rw [zjV]at e;have:zaX B s=none:=by
   cases q:zaX B s with
   |none=>rfl
   |some t=>rw [q]at e;cases e
  rw [this]at h;exact⟨_, .refl,h⟩
 ·rw [zjV]at e;cases q:zaX B s with
  |none=>rw [q]at e;cases e
  |some t=>
   rw [q]at e h;cases e;exact⟨_,sb,h⟩
end
noncomputable def byC (f:Int):Int→Nat:=fun b=>if b / f % 2=1 then 1 else 0
theorem PlsAt.zip{S:Sto}:∀{ps:List Pl}{vs:List W},PlsAt S ps vs→ ∀x∈ps.zip vs,PlAt S x.1 x.2∧x.1∈ps
 |_,_, .nil,x,h=>by simp at h
 |_,_, .cons a b,x,h=>by
  rw [List.zip_cons_cons]at h;rcases List.mem_cons.mp h with rfl |h
  ·exact⟨a,List.mem_cons_self⟩
  ·have:=PlsAt.zip b x h;exact⟨this.1,List.mem_cons_of_mem _ this.2⟩
theorem PlsAt.snd{S:Sto}{ps:List Pl}{vs:List W}(h:PlsAt S ps vs):(ps.zip vs).map Prod.snd=vs:=List.map_snd_zip (by rw [h.len];exact Nat.le_refl _)
theorem PlsAt.fst{S:Sto}{ps:List Pl}{vs:List W}(h:PlsAt S ps vs) {α:Type}(f:Pl→α):(ps.zip vs).map (fun x=>f x.1)=ps.map f:=by
 have:(ps.zip vs).map Prod.fst=ps:=List.map_fst_zip (by rw [h.len];exact Nat.le_refl _)
 conv=>rhs;rw [←this,List.map_map]
 rfl
section
variable {S:Sto}{a:Addr}{ws hs:List Str}{B:List Tn}
theorem zsm{f:Int}(hf:f=1∨f=2∨f=4∨f=8) (ha:S a=some (.lst (B.map zbe))) (b:BkOk ws hs B):∀(d:Nat) {p:Pl}{v:W}{r:Nat}{Q:WK}{E:Str→Sto→Prop},p.dp≤d→d+8≤r→PlAt S p v→PlOk hs B p→p.wt≤1000→Q (enc (p.ev B (byC f))) S→zbB (r+1) [v, .ref a, .int f] S Q E
 |0,p,v,r,Q,E,hd,hr,hp,ok,hw,h=>by have:=zsB p;omega
 |d+1, .nd k b' hh ps,v,r,Q,E,hd,hr,hp,ok,hw,h=>by
  cases hp with
  | @nd _ _ _ _ c vs hc hps=>
  simp only[Pl.dp]at hd;simp only[Pl.wt]at hw;have hlen:=zgx ps;obtain⟨r,rfl⟩:∃r',r=r'+1:=⟨r - 1,by omega⟩
  rw [zbB];walk_at "wp";rw [zag hc];rw [←hps.snd];have okp:∀x∈ps,PlOk hs B x:=by
   cases ok with
   |sign _ h=>exact h
   |turn _ _ _ _ h=>exact h
  refine zaO (fun σ=>∃x,σ=[x,some (.ref a),some (.int f)]) Prod.snd (fun x=>enc (x.1.ev B (byC f))) ?_ (ps.zip vs) [] _ ⟨none,rfl⟩ (by simp;omega) (fun x hx σ R hI hR=>?_) ?_
  ·rw [hps.snd];exact hc
  ·obtain⟨y,rfl⟩:=hI;obtain⟨h1,h2⟩:=hps.zip x hx;have:=zgB h2;have:=zlG h2;simp only[zgg];walk_at "wp";exact zsm hf ha b d (by omega) (by omega) h1 (okp _ h2) (by omega) (hR _ _ ⟨_,rfl⟩ .refl)
  ·rw [List.nil_append,hps.fst fun p=>enc (p.ev B (byC f))];intro q hq;have eu:(ps.map fun p=>enc (p.ev B (byC f)))=encs (ps.map (Pl.ev B (byC f))):=by rw [zaL,List.map_map];rfl
   rw [eu];have fq:put S q (Ob.lst (encs (ps.map (Pl.ev B (byC f))))) q=some (.lst (encs (ps.map (Pl.ev B (byC f))))):=zah;have fa:=keep (x:=Ob.lst (encs (ps.map (Pl.ev B (byC f))))) ha hq;have sub:Sub S (put S q (Ob.lst (encs (ps.map (Pl.ev B (byC f)))))):= .put .refl hq;generalize put S q (Ob.lst (encs (ps.map (Pl.ev B (byC f)))))=S1 at fq fa sub⊢
   try walk_at "wp"
   cases ok with
   |sign hs' _=>
    rw [if_pos (by decide)]
    try rw [zag fq]
    rw [zaU]at h;rw [zbj,List.length_map];simp only[enc]at h;exact⟨zan (by decide),zan (by omega),_,sub,h⟩
   | @turn k _ _ _ t e hl b0 b1 _=>
    have ek:atI (B.map zbe) (k:Int)=some (.tup [.str t.1,enc t.2.1,enc t.2.2]):=by
     rw [zbz,List.getElem?_map,e];rfl
    have hdiv:ziZ b' f:=by rcases hf with rfl |rfl |rfl |rfl<;>exact⟨by decide,by decide⟩
    have ht:t∈B:=List.mem_of_getElem? e;rw [zaH e]at h;rw [if_neg (by omega)];refine⟨hdiv,by decide,?_⟩
    simp only[zag fa,ek];by_cases e1:b' / f % 2=1
    ·rw [e1];have:byC f b'=1:=by unfold byC;rw [if_pos e1]
     rw [this]at h;simp only[evT,enc]at h
     try walk_at "wp"
     try rw [zag fq]
     rw [zbj,List.length_map];exact⟨zan (by decide),zan (by omega),_,sub,h⟩
    ·have e2:(b' / f % 2 == 1)=false:=by simpa using e1
     rw [e2];have:byC f b'=0:=by unfold byC;rw [if_neg e1]
     rw [this]at h;simp only[evT]at h;walk_at "wp";rw [show atI [W.str t.1,enc t.2.1,enc t.2.2] 1=some (enc t.2.1) from rfl];dsimp only;have hLd:=(b.lf t ht).dp;have hLw:=(b.lf t ht).wt;have hLn:=(b.lf t ht).nb;exact zfV 4 hLd (by omega) fq (by rw [List.length_map,hl];exact(b.lf t ht).fits) (by omega) ⟨_,sub,h⟩
end
noncomputable def zaG (n:Int) (t:Tn):Tr:=if n=1 then t.2.1 else t.2.2
structure Sides (g:Tn→Tr) (B:List Tn):Prop where
  fits:∀t∈B,(g t).fits t.2.1.nb
  dp:∀t∈B,(g t).depth≤4
  wt:∀t∈B,(g t).weight≤10
mutual
noncomputable def Tr.ar (B:List Tn):Tr→Prop
 | .bl _=>False
 | .nd s ts=>(∀t,zaX B s=some t→ts.length=t.2.1.nb)∧ars B ts
noncomputable def ars (B:List Tn):List Tr→Prop
 | []=>True
 |t::ts=>t.ar B∧ars B ts
end
theorem ars_iff{B:List Tn}:∀{ts:List Tr},ars B ts↔ ∀t∈ts,t.ar B
 | []=>by simp [ars]
 |t::ts=>by simp [ars,ars_iff (ts:=ts)]
mutual
theorem ztT{B:List Tn}:∀t:Tr,t.way B=true→t.ar B
 | .bl n,h=>by simp [Tr.way]at h
 | .nd s ts,h=>by
  simp only[Tr.way,Bool.and_eq_true]at h;simp only[Tr.ar];refine⟨fun t ht=>?_,zss ts h.2⟩;have:=h.1;rw [topB,ht]at this;simpa using this
theorem zss{B:List Tn}:∀ts:List Tr,zic B ts=true→ars B ts
 | [],h=>by simp [ars]
 |t::ts,h=>by
  simp only[zic,Bool.and_eq_true]at h;simp only[ars];exact⟨ztT t h.1,zss ts h.2⟩
end
section
variable {S:Sto}{a:Addr}{B:List Tn}{n:Int}
theorem zqc (t:Tn) (h:n=1∨n=2):atI [W.str t.1,enc t.2.1,enc t.2.2] n=some (enc (zaG n t)):=by
 rcases h with rfl |rfl<;>rfl
theorem ziP (ha:S a=some (.lst (B.map zbe))) (hn:n=1∨n=2) (hg:Sides (zaG n) B):∀(d:Nat) {t:Tr}{r:Nat}{Q:WK}{E:Str→Sto→Prop},t.depth≤d→d+10≤r→t.ar B→t.weight≤1000→Q (enc (t.mk B (zaG n))) S→zbx (r+1) [.ref a,enc t, .int n] S Q E
 |0,t,r,Q,E,hd,hr,hh,hw,h=>by have:=zcl t;omega
 |d+1, .bl k,r,Q,E,hd,hr,hh,hw,h=>by simp [Tr.ar]at hh
 |d+1, .nd s ts,r,Q,E,hd,hr,hh,hw,h=>by
  simp only[Tr.depth]at hd;simp only[Tr.weight]at hw;simp only[Tr.ar]at hh;have hk:=zcT ts;obtain⟨r,rfl⟩:∃r',r=r'+1:=⟨r - 1,by omega⟩
  rw [zbx];simp only[enc];walk_at "wp";rw [zaL];refine zaO (fun σ=>∃x,σ=[x,some (.ref a),some (.int n)]) enc (fun t=>enc (t.mk B (zaG n))) trivial ts [] _ ⟨none,rfl⟩ (by simp;omega) (fun x hx σ R hI hR=>?_) ?_
  ·obtain⟨y,rfl⟩:=hI;have hdx:=zdt hx;have hwx:=zdK hx;simp only[zeD];walk_at "wp";exact ziP ha hn hg d (by omega) (by omega) (ars_iff.mp hh.2 x hx) (by omega) (hR _ _ ⟨_,rfl⟩ .refl)
  ·rw [List.nil_append];intro q hq;have eu:(ts.map fun t=>enc (t.mk B (zaG n)))=encs (ts.map (Tr.mk B (zaG n))):=by rw [zaL,List.map_map];rfl
   rw [eu];have fq:put S q (Ob.lst (encs (ts.map (Tr.mk B (zaG n))))) q=some (.lst (encs (ts.map (Tr.mk B (zaG n))))):=zah;have fa:=keep (x:=Ob.lst (encs (ts.map (Tr.mk B (zaG n))))) ha hq;have sub:Sub S (put S q (Ob.lst (encs (ts.map (Tr.mk B (zaG n)))))):= .put .refl hq;generalize put S q (Ob.lst (encs (ts.map (Tr.mk B (zaG n)))))=S1 at fq fa sub⊢;refine zfh fa ?_;cases e:zaX B s with
   |none=>
    rw [zlm e]at h;simp only[zep]
    try walk_at "wp"
    try rw [zag fq]
    rw [zbj,List.length_map];simp only[enc]at h;exact⟨zan (by decide),zan (by omega),_,sub,h⟩
   |some t=>
    have ht:t∈B:=List.mem_of_find?_eq_some e;have ee:zep (some t)= .tup [.str t.1,enc t.2.1,enc t.2.2]:=rfl;rw [zle e]at h;rw [ee]
    try walk_at "wp"
    rw [zqc t hn];dsimp only;have hgw:=hg.wt t ht;exact zhp 4 (hg.dp t ht) (by omega) fq (by rw [List.length_map,hh.1 t e];exact hg.fits t ht) (by omega) ⟨_,sub,h⟩
theorem ziQ{t:Tr}(h1:t.weight≤400) (h2:t.depth≤40):t.small=true:=by
 unfold Tr.small;rw [decide_eq_true h1,decide_eq_true h2];rfl
theorem ok_source{t:Tr}{r:Nat}{Q:WK}{E:Str→Sto→Prop}(ha:S a=some (.lst (B.map zbe))) (hg:Sides (zaG 1) B) (hd:t.depth≤40) (hr:60≤r) (hh:t.ar B) (hw:t.weight≤1000) (h1:(t.mk B (zaG 1)).weight≤400) (h2:(t.mk B (zaG 1)).depth≤40) (h:Q (enc (t.mk B (zaG 1))) S):zdV (r+1) [.ref a,enc t] S Q E:=by
 obtain⟨r,rfl⟩:∃r',r=r'+5:=⟨r - 5,by omega⟩
 rw [zdV];walk_at "wp";refine ziP ha (.inl rfl) hg 40 (r:=r+4) hd (by omega) hh hw ?_;rw [zbb];walk_at "wp";refine zfY (r:=r+1) (by omega) ?_;rw [ziQ h1 h2]
 try walk_at "wp"
 exact⟨_, .refl,_, .refl,h⟩
theorem ok_goal{t:Tr}{r:Nat}{Q:WK}{E:Str→Sto→Prop}(ha:S a=some (.lst (B.map zbe))) (hg:Sides (zaG 2) B) (hd:t.depth≤40) (hr:60≤r) (hh:t.ar B) (hw:t.weight≤1000) (h1:(t.mk B (zaG 2)).weight≤400) (h2:(t.mk B (zaG 2)).depth≤40) (h:Q (enc (t.mk B (zaG 2))) S):zfj (r+1) [.ref a,enc t] S Q E:=by
 obtain⟨r,rfl⟩:∃r',r=r'+5:=⟨r - 5,by omega⟩
 rw [zfj];walk_at "wp";refine ziP ha (.inr rfl) hg 40 (r:=r+4) hd (by omega) hh hw ?_;rw [zbb];walk_at "wp";refine zfY (r:=r+1) (by omega) ?_;rw [ziQ h1 h2]
 try walk_at "wp"
 exact⟨_, .refl,_, .refl,h⟩
end
noncomputable def zwS (r:Nat):WS:=(zar (wAsg (zcD (zcV 2 [0] (zsu (zad 5) (zad 6)) (wGT (zaA (wGN 0) (zaA (wGN 1) zdw))) zgz (zhq r (zca r)))) (wGN 7))
  (zar (zcn (wTb (wOp (oIs false) (zad 4) (wC .non))) (zbd (wOp zda (zbR (zab (wOp oIx (zad 1) (wC (.int 0))) waNil)) (wB zdA (zab (zad 7) waNil)))) zaF)
  (zbd (zal (zcM r) (zab (wOp oIx (zad 4) (wC (.int 2))) (zab (zad 7) waNil))))))
noncomputable def zrG (r:Nat) (T:WS):WS:=(zar (zcn (zpD (wTb (wOp (oIs false) (zad 3) (wC .non))) (wTb (wOp (oIs true) (zad 4) (wC .non)))) (wAsg (zal (zbG r) (zab (wOp oIx (zad 4) (wC (.int 1))) (zab (zad 1) waNil))) (wGN 5)) zaF)
  (zar (zcn (zpD (wTb (wOp (oIs true) (zad 3) (wC .non))) (wTb (wOp (oIs false) (zad 4) (wC .non)))) (wAsg (zal (zbG r) (zab (wOp oIx (zad 3) (wC (.int 1))) (zab (zad 2) waNil))) (wGN 6)) zaF)
  T))
theorem znG{r:Nat}:zca (r+1)=zcK 8 3 (zar (wAsg (zal (zaR r) (zab (zad 0) (zab (wOp oIx (zad 1) (wC (.int 0))) waNil))) (wGN 3))
  (zar (wAsg (zal (zaR r) (zab (zad 0) (zab (wOp oIx (zad 2) (wC (.int 0))) waNil))) (wGN 4))
  (zar (wAsg (wSl (zad 1) (woS (wC (.int 1))) woN) (wGN 5))
  (zar (wAsg (wSl (zad 2) (woS (wC (.int 1))) woN) (wGN 6))
  (zrG r (zwS r)))))):=rfl
mutual
theorem zoX{P:Str→Prop}:∀(l t:Tr) (ys:List Tr),l.mt t=some ys→t.hd P→hds P ys∧wts ys≤t.weight
 | .bl _,t,ys,h,q=>by
  simp only[Tr.mt,Option.some.injEq]at h;subst h;simp only[hds,wts];exact⟨⟨q,trivial⟩,by omega⟩
 | .nd s ls, .nd z us,ys,h,q=>by
  simp only[Tr.mt]at h;simp only[Tr.hd]at q;split at h
  ·have:=zrZ ls us ys h q.2;simp only[Tr.weight];exact⟨this.1,by omega⟩
  ·cases h
 | .nd _ _, .bl _,ys,h,q=>by simp [Tr.mt]at h
theorem zrZ{P:Str→Prop}:∀(ls us ys:List Tr),mts ls us=some ys→hds P us→hds P ys∧wts ys≤wts us
 | [],us,ys,h,q=>by simp only[mts,Option.some.injEq]at h;subst h;simp [hds,wts]
 |l::ls,[],ys,h,q=>by simp only[mts,Option.some.injEq]at h;subst h;simp [hds,wts]
 |l::ls,u::us,ys,h,q=>by
  simp only[mts]at h;simp only[hds]at q;split at h
  ·cases h
  ·rename_i xs ex;split at h
   ·cases h
   ·rename_i zs ez;simp only[Option.some.injEq]at h;subst h;have h1:=zoX l u xs ex q.1;have h2:=zrZ ls us zs ez q.2;rw [zeu,wts];exact⟨zpr h1.1 h2.1,by omega⟩
end
mutual
theorem zfZ{P:Str→Prop}{m:Nat}:∀t:Tr,t.hd P→t.fits m
 | .bl n,h=>by simp [Tr.hd]at h
 | .nd s ts,h=>by
  simp only[Tr.hd]at h;simp only[Tr.fits];exact zmM ts h.2
theorem zmM{P:Str→Prop}{m:Nat}:∀ts:List Tr,hds P ts→fitss m ts
 | [],h=>by simp [fitss]
 |t::ts,h=>by
  simp only[hds]at h;simp only[fitss];exact⟨zfZ t h.1,zmM ts h.2⟩
end
theorem Mvs.triples{B:List Tn}{n:Nat}:∀{as bs cs:List Tr},Mvs B n as bs cs→ ∃zs:List (Tr×Tr×Tr),as=zs.map (fun z=>z.1)∧bs=zs.map (fun z=>z.2.1)∧cs=zs.map (fun z=>z.2.2)∧ ∀z∈zs,Mv B n z.1 z.2.1 z.2.2
 |_,_,_, .nil=>⟨[],rfl,rfl,rfl,fun _ h=>nomatch h⟩
 |_,_,_, .cons (a:=a) (b:=b) (c:=c) h1 h2=>by
  obtain⟨zs,e1,e2,e3,h⟩:=Mvs.triples h2;exact⟨(a,b,c)::zs,by rw [e1];rfl,by rw [e2];rfl,by rw [e3];rfl,fun z hz=>(List.mem_cons.mp hz).elim (fun e=>by rw [e];exact h1) (h z)⟩
theorem zkl:∀zs:List (Tr×Tr×Tr),pairs (encs (zs.map fun z=>z.1)) (encs (zs.map fun z=>z.2.1))=zs.map fun z=>W.tup [enc z.1,enc z.2.1]
 | []=>by simp [encs,pairs]
 |z::zs=>by simp [encs,pairs,zkl zs]
noncomputable def zyo (f:Option Tn) (s:Str) (cs:List Tr):Tr:=match f with
 |none=> .nd s cs
 |some t=>t.2.2.fill cs
noncomputable def zuF (S:Sto) (v:W) (ws:List W):Prop:=v= .tup ws∨ ∃q,v= .ref q∧S q=some (.lst ws)
section
variable {S:Sto}{a:Addr}{B:List Tn}
theorem zpQ{v:W}{ws:List W}{Q:List W→(Sto→Prop)→Prop}(h:zuF S v ws) (hq:∀G:Sto→Prop,G S→(∀S',Sub S S'→G S')→Q ws G):znK v S Q:=by
 rcases h with rfl |⟨q,rfl,e⟩
 ·rw [zjW];exact hq _ trivial fun _ _=>trivial
 ·rw [zhd,zag e];exact hq _ e fun S' sb=>sb _ _ e
theorem zrd{n r:Nat}{x y:Tr}{as bs cs:List Tr}{va vb vf:W}{f:Option Tn}{x7:Option W}{s:Str}{ts:List Tr}(hx:x= .nd s ts) (ha:S a=some (.lst (B.map zbe))) (h1:zuF S va (encs as)) (h2:zuF S vb (encs bs)) (M:Mvs B n as bs cs) (hl:as.length≤1000)
  (hR:∀t,f=some t→t.2.2.depth≤4∧t.2.2.weight≤100∧t.2.2.fits cs.length) (hr:5≤r)
  (one:∀{a' b' c':Tr}{Q:WK}{E:Str→Sto→Prop},a'∈as→b'∈bs→Mv B n a' b' c'→Q (enc c') S→zca r [.ref a,enc a',enc b'] S Q E) {E:WX}{D:WEnds}
  (hQ:∀S',Sub S S'→D.rt (enc (zyo f s cs)) S') :
  zwS r E D [some (.ref a),some (enc x),some (enc y),some vf,some (zep f),some va,some vb,x7] S:=by
 obtain⟨zs,rfl,rfl,rfl,hz⟩:=M.triples;unfold zwS;walk_at "wp";refine zpQ h1 fun G1 g1 k1=>zpQ h2 fun G2 g2 k2=>?_;rw [zkl];rw [List.length_map]at hl;refine zaO (fun σ=>∃x y,σ=[x,y,some (.ref a)]) (fun z=>W.tup [enc z.1,enc z.2.1]) (fun z=>enc z.2.2) ?_ zs [] _ ⟨none,none,rfl⟩ (by simp;omega) (fun z hz' σ R hI hR=>?_) ?_
 ·exact⟨g1,g2⟩
 ·obtain⟨u,v,rfl⟩:=hI;simp only[zhq];walk_at "wp";refine one (a':=z.1) (b':=z.2.1) (c':=z.2.2) (List.mem_map.mpr ⟨z,hz',rfl⟩) (List.mem_map.mpr ⟨z,hz',rfl⟩) (hz z hz') ?_;exact hR _ _ ⟨_,_,rfl⟩ .refl
 ·rw [List.nil_append];intro q hq;have eu:(zs.map fun z=>enc z.2.2)=encs (zs.map fun z=>z.2.2):=by rw [zaL,List.map_map];rfl
  rw [eu];have fq:put S q (Ob.lst (encs (zs.map fun z=>z.2.2))) q=some (.lst (encs (zs.map fun z=>z.2.2))):=zah;have sub:Sub S (put S q (Ob.lst (encs (zs.map fun z=>z.2.2)))):= .put .refl hq;generalize put S q (Ob.lst (encs (zs.map fun z=>z.2.2)))=S1 at fq sub⊢;obtain⟨r,rfl⟩:∃r',r=r'+1:=⟨r - 1,by omega⟩
  cases f with
  |none=>
   subst hx;simp only[zep,enc,zyo]at hQ⊢
   try walk_at "wp"
   try rw [zag fq]
   rw [zbj,List.length_map];exact⟨zan (by decide),zan (by omega),hQ _ sub⟩
  |some t=>
   have ee:zep (some t)= .tup [.str t.1,enc t.2.1,enc t.2.2]:=rfl;rw [ee]
   try walk_at "wp"
   rw [show atI [W.str t.1,enc t.2.1,enc t.2.2] 2=some (enc t.2.2) from rfl];dsimp only;obtain⟨g1,g2,g3⟩:=hR t rfl;exact zhp 4 g1 (by omega) fq (by rw [List.length_map];rw [List.length_map]at g3;exact g3) (by omega) (hQ _ sub)
theorem Mv.nd{n:Nat}{x y z:Tr}:Mv B n x y z→ ∃s ts z' us,x= .nd s ts∧y= .nd z' us
 | .nn _ _ _=>⟨_,_,_,_,rfl,rfl⟩
 | .ns _ _ _ _ _=>⟨_,_,_,_,rfl,rfl⟩
 | .sn _ _ _ _=>⟨_,_,_,_,rfl,rfl⟩
 | .ss _ _ _ _=>⟨_,_,_,_,rfl,rfl⟩
section
variable {T:WS}{E:WX}{D:WEnds}{r:Nat}{x0 x1 x2 x5 x6 x7:Option W}
theorem ztK (h:T E D [x0,x1,x2,some (zep none),some (zep none),x5,x6,x7] S):zrG r T E D [x0,x1,x2,some (zep none),some (zep none),x5,x6,x7] S:=by
 rw [show zep none=W.non from rfl]at h⊢;unfold zrG;walk_at "wp";exact h
theorem zst{t t':Tn}(h:T E D [x0,x1,x2,some (zep (some t')),some (zep (some t)),x5,x6,x7] S):zrG r T E D [x0,x1,x2,some (zep (some t')),some (zep (some t)),x5,x6,x7] S:=by
 have ee:∀t:Tn,zep (some t)= .tup [.str t.1,enc t.2.1,enc t.2.2]:=fun _=>rfl;rw [ee,ee]at h⊢;unfold zrG;walk_at "wp";exact h
theorem ztY{t:Tn}{x:Tr}{ms:List Tr}(e:t.2.1.mt x=some ms) (hr:t.2.1.depth<r) (ft:x.fits 0) (hw:t.2.1.weight≤90000) (h:∀q,S q=none→T E D [x0,some (enc x),x2,some (zep none),some (zep (some t)),some (.ref q),x6,x7] (put S q (.lst (encs ms)))):zrG (r+1) T E D [x0,some (enc x),x2,some (zep none),some (zep (some t)),x5,x6,x7] S:=by
 have ee:∀t:Tn,zep (some t)= .tup [.str t.1,enc t.2.1,enc t.2.2]:=fun _=>rfl;have a1:∀t:Tn,atI [W.str t.1,enc t.2.1,enc t.2.2] 1=some (enc t.2.1):=fun _=>rfl;rw [ee,show zep none=W.non from rfl]at *;unfold zrG;walk_at "wp";rw [a1];dsimp only;refine zey hr ft hw (fun ys hys q hq=>?_) fun h0=>by rw [e]at h0;cases h0
 rw [e]at hys;cases hys
 try walk_at "wp"
 exact h q hq
theorem zuc{t:Tn}{y:Tr}{ms:List Tr}(e:t.2.1.mt y=some ms) (hr:t.2.1.depth<r) (ft:y.fits 0) (hw:t.2.1.weight≤90000) (h:∀q,S q=none→T E D [x0,x1,some (enc y),some (zep (some t)),some (zep none),x5,some (.ref q),x7] (put S q (.lst (encs ms)))):zrG (r+1) T E D [x0,x1,some (enc y),some (zep (some t)),some (zep none),x5,x6,x7] S:=by
 have ee:∀t:Tn,zep (some t)= .tup [.str t.1,enc t.2.1,enc t.2.2]:=fun _=>rfl;have a1:∀t:Tn,atI [W.str t.1,enc t.2.1,enc t.2.2] 1=some (enc t.2.1):=fun _=>rfl;rw [ee,show zep none=W.non from rfl]at *;unfold zrG;walk_at "wp";rw [a1];dsimp only;refine zey hr ft hw (fun ys hys q hq=>?_) fun h0=>by rw [e]at h0;cases h0
 rw [e]at hys;cases hys
 try walk_at "wp"
 exact h q hq
end
theorem zmt (hB:∀t∈B,t.2.1.depth≤4∧t.2.1.weight≤100∧t.2.2.depth≤4∧t.2.2.weight≤100∧t.2.2.fits t.2.1.nb):∀(n:Nat) {S:Sto}{x y z:Tr}{r:Nat}{Q:WK}{E:Str→Sto→Prop},S a=some (.lst (B.map zbe))→Mv B n x y z→n+12≤r→x.hd (fun _=>True)→y.hd (fun _=>True)→x.weight≤1000→y.weight≤1000→Q (enc z) S→zca (r+1) [.ref a,enc x,enc y] S Q E
 |0,S,x,y,z,r,Q,E,ha,M,hr,hx,hy,wx,wy,h=>by cases M
 |n+1,S,x,y,z,r,Q,E,ha,M,hr,hx,hy,wx,wy,h=>by
  obtain⟨r,rfl⟩:∃r',r=r'+1:=⟨r - 1,by omega⟩
  have one:∀{as bs:List Tr},hds (fun _=>True) as→hds (fun _=>True) bs→wts as≤1000→wts bs≤1000→ ∀(S1:Sto),Sub S S1→ ∀{a' b' c':Tr}{Q:WK}{E:Str→Sto→Prop},a'∈as→b'∈bs→Mv B n a' b' c'→Q (enc c') S1→zca (r+1) [.ref a,enc a',enc b'] S1 Q E:=fun {as bs} h1 h2 h3 h4 S1 sb {a' b' c' Q E} m1 m2 M q=>
   zmt hB n (sb _ _ ha) M (by omega) (hds_iff.mp h1 _ m1) (hds_iff.mp h2 _ m2) (by have:=zdK m1;omega) (by have:=zdK m2;omega) q
  have start:∀{s z:Str}{ts us:List Tr}{E':WX}{D:WEnds}{S1:Sto}{va vb vf:W}{f:Option Tn}{as bs cs:List Tr},S1 a=some (.lst (B.map zbe))→Sub S S1→zuF S1 va (encs as)→zuF S1 vb (encs bs)→Mvs B n as bs cs→hds (fun _=>True) as→hds (fun _=>True) bs→wts as≤1000→wts bs≤1000→(∀t,f=some t→t∈B∧cs.length=t.2.1.nb)→(∀S',Sub S S'→D.rt (enc (zyo f s cs)) S')→
    zwS (r+1) E' D [some (.ref a),some (W.tup (W.str s::encs ts)),some (W.tup (W.str z::encs us)),some vf,some (zep f),some va,some vb,none] S1:=fun {s z ts us E' D S1 va vb vf f as bs cs} hS1 sb q1 q2 M h1 h2 h3 h4 hf hQ=>by
   have hl:=zcT as;have:=zrd (x:= .nd s ts) (y:= .nd z us) (vf:=vf) (f:=f) (x7:=none) (E:=E') (D:=D) rfl hS1 q1 q2 M (by omega) (fun t ht=>by
    obtain⟨m,e⟩:=hf t ht;obtain⟨g1,g2,g3,g4,g5⟩:=hB t m;exact⟨g3,g4,by rw [e];exact g5⟩) (by omega) (one h1 h2 h3 h4 S1 sb) fun S' sb'=>hQ S' (sb.trans sb')
   simpa only[enc]using this
  obtain⟨s,ts,z',us,rfl,rfl⟩:=M.nd;have ex:enc (.nd s ts)= .tup (.str s::encs ts):=by simp only[enc]
  have ey:enc (.nd z' us)= .tup (.str z'::encs us):=by simp only[enc]
  have hx':=hx;have hy':=hy;have wx':=wx;have wy':=wy;simp only[Tr.hd]at hx' hy';simp only[Tr.weight]at wx' wy';rw [znG,ex,ey];walk_at "wp";refine zfh ha (zfh ha ?_);cases M with
  | @nn _ _ _ _ _ cs e1 e2 M=>
   rw [e1,e2];exact ztK (start (f:=none) ha .refl (.inl rfl) (.inl rfl) M hx'.2 hy'.2 (by omega) (by omega) (fun _ h=>nomatch h) fun S' sb=>⟨_,sb,h⟩)
  | @ns _ _ _ _ _ cs ms t e1 e2 e3 e4 M=>
   have ht:t∈B:=List.mem_of_find?_eq_some e2;have hm:=zoX t.2.1 _ _ e3 hx;have ft:=zfZ (m:=0) _ hx;obtain⟨g1,g2,g3,g4,g5⟩:=hB t ht;rw [e1,e2,←ex];refine ztY e3 (by omega) ft (by omega) fun q hq=>?_;rw [ex];exact start (f:=some t) (keep ha hq) (.put .refl hq) (.inr ⟨q,rfl,zah⟩) (.inl rfl) M hm.1 hy'.2 (by omega) (by omega) (fun _ h=>by cases h;exact⟨ht,e4⟩) fun S' sb=>⟨_,sb,h⟩
  | @sn _ _ _ _ _ cs ms t e1 e2 e3 M=>
   have ht:t∈B:=List.mem_of_find?_eq_some e1;have hm:=zoX t.2.1 _ _ e3 hy;have ft:=zfZ (m:=0) _ hy;obtain⟨g1,g2,g3,g4,g5⟩:=hB t ht;rw [e1,e2,←ey];refine zuc e3 (by omega) ft (by omega) fun q hq=>?_;rw [ey];exact start (f:=none) (keep ha hq) (.put .refl hq) (.inl rfl) (.inr ⟨q,rfl,zah⟩) M hx'.2 hm.1 (by omega) (by omega) (fun _ h=>nomatch h) fun S' sb=>⟨_,sb,h⟩
  | @ss _ _ _ _ _ cs t t' e1 e2 e3 M=>
   have ht:t∈B:=List.mem_of_find?_eq_some e2;rw [e1,e2];exact zst (start (f:=some t) ha .refl (.inl rfl) (.inl rfl) M hx'.2 hy'.2 (by omega) (by omega) (fun _ h=>by cases h;exact⟨ht,e3⟩) fun S' sb=>⟨_,sb,h⟩)
end
theorem zvV:zaG 1=fun t=>t.2.1:=by funext t;exact if_pos rfl
theorem zvc:zaG 2=fun t=>t.2.2:=by funext t;exact if_neg (by decide)
section
variable {ws hs:List Str}{B:List Tn}
theorem BkOk.s1 (b:BkOk ws hs B):Sides (zaG 1) B:=by
 rw [zvV];refine⟨fun t ht=>(b.lf t ht).fits,fun t ht=>(b.lf t ht).dp,fun t ht=>?_⟩;have h1:=(b.lf t ht).wt;have h2:=(b.lf t ht).nb;show t.2.1.weight≤10;omega
theorem BkOk.s2 (b:BkOk ws hs B):Sides (zaG 2) B:=by
 rw [zvc];refine⟨fun t ht=>zcx (b.ri t ht),fun t ht=>?_,fun t ht=>?_⟩
 ·have:=zdW (b.ri t ht);show t.2.2.depth≤4;omega
 ·have:=zgk (b.ri t ht);show t.2.2.weight≤10;omega
mutual
theorem zxP:∀(L t:Tr) (ys:List Tr),L.mt t=some ys→ ∀y∈ys,y.depth≤t.depth
 | .bl n,t,ys,e,y,hy=>by
  rw [Tr.mt]at e;cases e;rw [List.mem_singleton]at hy;rw [hy];exact Nat.le_refl _
 | .nd s ls, .bl n,ys,e,y,hy=>by rw [Tr.mt]at e;cases e
 | .nd s ls, .nd z us,ys,e,y,hy=>by
  rw [Tr.mt]at e;split at e
  ·have:=zlS ls us ys e y hy;rw [Tr.depth];omega
  ·cases e
theorem zlS:∀(ls us ys:List Tr),mts ls us=some ys→ ∀y∈ys,y.depth≤dts us
 | [],us,ys,e,y,hy=>by rw [mts]at e;cases e;cases hy
 |l::ls,[],ys,e,y,hy=>by rw [mts]at e;cases e;cases hy
 |l::ls,u::us,ys,e,y,hy=>by
  rw [mts]at e;cases q1:l.mt u with
  |none=>rw [q1]at e;cases e
  |some xs=>
   rw [q1]at e;cases q2:mts ls us with
   |none=>rw [q2]at e;cases e
   |some zs=>
    rw [q2]at e;cases e;rw [dts];rcases List.mem_append.mp hy with hy |hy
    ·have:=zxP l u xs q1 y hy;omega
    ·have:=zlS ls us zs q2 y hy;omega
end
mutual
theorem Mv.fuel{B:List Tn}(hn:∀t∈B,∃s ts,t.2.1= .nd s ts):∀{n:Nat}{a b c:Tr},Mv B n a b c→Mv B a.depth a b c
 |_,_,_,_, .nn h1 h2 h3=>by
  rw [Tr.depth,Nat.add_comm];exact .nn h1 h2 ((Mvs.fuel hn h3).mono (Nat.le_refl _))
 |_,_,_,_, .ns (ms:=ms) (t:=t) h1 h2 h3 h4 h5=>by
  rw [Tr.depth,Nat.add_comm];refine .ns h1 h2 h3 h4 ((Mvs.fuel hn h5).mono (zkq fun y hy=>?_));obtain⟨s',ls,e⟩:=hn t (List.mem_of_find?_eq_some h2);rw [e,Tr.mt]at h3;split at h3
  ·exact zlS _ _ _ h3 y hy
  ·cases h3
 |_,_,_,_, .sn h1 h2 h3 h4=>by
  rw [Tr.depth,Nat.add_comm];exact .sn h1 h2 h3 ((Mvs.fuel hn h4).mono (Nat.le_refl _))
 |_,_,_,_, .ss h1 h2 h3 h4=>by
  rw [Tr.depth,Nat.add_comm];exact .ss h1 h2 h3 ((Mvs.fuel hn h4).mono (Nat.le_refl _))
theorem Mvs.fuel{B:List Tn}(hn:∀t∈B,∃s ts,t.2.1= .nd s ts):∀{n:Nat}{as bs cs:List Tr},Mvs B n as bs cs→Mvs B (dts as) as bs cs
 |_,_,_,_, .nil=> .nil
 |_,_,_,_, .cons h1 h2=>by
  rw [dts];exact .cons ((Mv.fuel hn h1).mono (Nat.le_max_left _ _)) ((Mvs.fuel hn h2).mono (Nat.le_max_right _ _))
end
structure Pk (ws hs:List Str) (B:List Tn) (p:Pl):Prop where
  b:BkOk ws hs B
  m:zwY B
  o:PlOk hs B p
  dp:∀{c:Int→Nat},(p.ev B c).depth≤40
  wt:∀{c:Int→Nat},(p.ev B c).weight≤400
theorem Pk.ar (k:Pk ws hs B p):(p.ev B c).ar B:=ztT _ (zrJ k.b k.o)
theorem Pk.hd (k:Pk ws hs B p):(p.ev B c).hd fun _=>True:=zxv k.b (fun _ _=>trivial) (fun _ _ _=>trivial) k.o
theorem Pk.src (k:Pk ws hs B p):(p.ev B c).mk B (zaG 1)=p.ev B (zeb c):=by rw [zvV];exact zeG k.b k.o
theorem Pk.goal (k:Pk ws hs B p):(p.ev B c).mk B (zaG 2)=p.ev B (zbH c):=by rw [zvc];exact zdq k.b k.o
theorem Pk.ok_source (k:Pk ws hs B p) (ha:S a=some (.lst (B.map zbe))) (hr:60≤r) (h:Q (enc (p.ev B (zeb c))) S):zdV (r+1) [.ref a,enc (p.ev B c)] S Q E:=by
 have h1:=k.wt (c:=c);have h2:=k.dp (c:=c);have h3:=k.wt (c:=zeb c);have h4:=k.dp (c:=zeb c);exact L2.ok_source ha k.b.s1 (by omega) hr k.ar (by omega) (by rw [k.src];omega) (by rw [k.src];omega) (by rw [k.src];exact h)
theorem Pk.ok_goal (k:Pk ws hs B p) (ha:S a=some (.lst (B.map zbe))) (hr:60≤r) (h:Q (enc (p.ev B (zbH c))) S):zfj (r+1) [.ref a,enc (p.ev B c)] S Q E:=by
 have h1:=k.wt (c:=c);have h2:=k.dp (c:=c);have h3:=k.wt (c:=zbH c);have h4:=k.dp (c:=zbH c);exact L2.ok_goal ha k.b.s2 (by omega) hr k.ar (by omega) (by rw [k.goal];omega) (by rw [k.goal];omega) (by rw [k.goal];exact h)
theorem Pk.eq (k:Pk ws hs B p) (hc:∀x:Int,0≤x→x<8→c x=d x):eqF S 60 (enc (p.ev B c)) (enc (p.ev B d))=some true:=by
 have h2:=k.dp (c:=c);rw [zoZ 60 _ _ (by omega),←zed k.o hc,zfH]
noncomputable def Ok2 (c d:Int→Nat):Prop:=∀x:Int,0≤x→x<8→(c x≤1∧d x≤1)∨(c x=2∧d x=2)
theorem Ok2.src (h:Ok2 c d):∀x:Int,0≤x→x<8→zeb d x=zeb c x:=fun x h0 h1=>by
 unfold zeb;rcases h x h0 h1 with⟨h2,h3⟩ |⟨h2,h3⟩
 ·have e:∀n:Nat,n≤1→(if n=1 then 0 else n)=0:=fun n hn=>by split<;>omega
  rw [e _ h2,e _ h3]
 ·rw [h2,h3]
theorem Pk.ok_onesource (k:Pk ws hs B p) (hc:Ok2 c d) (ha:S a=some (.lst (B.map zbe))) (hr:62≤r) (h:Q (enc (p.ev B (zeb c))) S):zbV (r+1) [.ref a,enc (p.ev B c),enc (p.ev B d)] S Q E:=by
 obtain⟨r,rfl⟩:∃r',r=r'+1:=⟨r - 1,by omega⟩
 rw [zbV];walk_at "wp";refine k.ok_source ha (by omega) ?_;refine k.ok_source ha (by omega) ?_;have e:eqF S 60 (enc (p.ev B (zeb d))) (enc (p.ev B (zeb c)))=some true:=k.eq hc.src;rw [e]
 try walk_at "wp"
 exact⟨_, .refl,h⟩
theorem zjN{x y e1 e2 e3:W}(k1:∀{Q:WK}{E:Str→Sto→Prop},Q e1 S→zbV r [.ref a,x,y] S Q E) (k2:∀{Q:WK}{E:Str→Sto→Prop},Q e2 S→zfj r [.ref a,y] S Q E) (k3:∀{Q:WK}{E:Str→Sto→Prop},Q e3 S→zca r [.ref a,x,y] S Q E) (h:Q e3 S):zdg (r+1) [.ref a,x,y] S Q E:=by
 rw [zdg];walk_at "wp";exact k1 (k2 (k3 ⟨_, .refl,h⟩))
theorem Pk.ok_move (k:Pk ws hs B p) (hc:Ok2 c d) (ha:S a=some (.lst (B.map zbe))) (hr:60≤r) (h:Q (enc (p.ev B (zjQ c d))) S):zca (r+1) [.ref a,enc (p.ev B c),enc (p.ev B d)] S Q E:=by
 have h1:=k.wt (c:=c);have h3:=k.wt (c:=d);have bd:=k.dp (c:=c);refine zmt (fun t ht=>?_) (p.ev B c).depth ha ((zhi k.b k.m hc k.o).fuel fun t ht=>(k.b.lf t ht).nd) (by omega) k.hd k.hd (by omega) (by omega) h;have L:=k.b.lf t ht;have R:=k.b.ri t ht;have g1:=L.dp;have g2:=L.wt;have g3:=L.nb;have g4:=zdW R;have g5:=zgk R;exact⟨by omega,by omega,by omega,by omega,zcx R⟩
theorem Pk.ok_behind (k:Pk ws hs B p) (hc:Ok2 c d) (ha:S a=some (.lst (B.map zbe))) (hr:70≤r) (h:Q (enc (p.ev B (zjQ c d))) S):zdg (r+2) [.ref a,enc (p.ev B c),enc (p.ev B d)] S Q E:=
 zjN (r:=r+1) (fun q=>k.ok_onesource hc ha (by omega) q) (fun q=>k.ok_goal ha (by omega) q) (fun q=>k.ok_move hc ha (by omega) q) h
end
theorem zyk (f x:Int):byC f x≤1:=by unfold byC;split<;>omega
section
variable {S:Sto}{a:Addr}{B:List Tn}{n:Int}
theorem zjt (B:List Tn) (s:Str) (g:Tn→W):B.findSome? (fun t=>if t.1 == s then some (g t) else none)=(zaX B s).map g:=by
 unfold zaX
 induction B with
 |nil=>rfl
 |cons t B ih=>
  rw [List.findSome?_cons,List.find?_cons];cases e:t.1 == s with
  |true=>rfl
  |false=>simpa using ih
theorem zlx (hnd:(B.map fun t=>t.1).Nodup) (ha:S a=some (.lst (B.map zbe))) (hn:n=1∨n=2) (hg:Sides (zaG n) B):∀(d:Nat) {t:Tr}{r:Nat}{Q:WK}{E:Str→Sto→Prop},t.depth≤d→d+10≤r→t.ar B→t.weight≤1000→Q (enc (t.mk B (zaG n))) S→zaC (r+1) [.ref a,enc t, .int n] S Q E
 |0,t,r,Q,E,hd,hr,hh,hw,h=>by have:=zcl t;omega
 |d+1, .bl k,r,Q,E,hd,hr,hh,hw,h=>by simp [Tr.ar]at hh
 |d+1, .nd s ts,r,Q,E,hd,hr,hh,hw,h=>by
  simp only[Tr.depth]at hd;simp only[Tr.weight]at hw;simp only[Tr.ar]at hh;have hk:=zcT ts;obtain⟨r,rfl⟩:∃r',r=r'+1:=⟨r - 1,by omega⟩
  rw [zaC];simp only[enc];walk_at "wp";rw [zaL];refine zaO (fun σ=>∃x,σ=[x,some (.ref a),some (.int n)]) enc (fun t=>enc (t.mk B (zaG n))) trivial ts [] _ ⟨none,rfl⟩ (by simp;omega) (fun x hx σ R hI hR=>?_) ?_
  ·obtain⟨y,rfl⟩:=hI;have hdx:=zdt hx;have hwx:=zdK hx;simp only[zfw];walk_at "wp";exact zlx hnd ha hn hg d (by omega) (by omega) (ars_iff.mp hh.2 x hx) (by omega) (hR _ _ ⟨_,rfl⟩ .refl)
  ·rw [List.nil_append];intro q hq;have eu:(ts.map fun t=>enc (t.mk B (zaG n)))=encs (ts.map (Tr.mk B (zaG n))):=by rw [zaL,List.map_map];rfl
   rw [eu,←zaL];have fq:put S q (Ob.lst (encs (ts.map (Tr.mk B (zaG n))))) q=some (.lst (encs (ts.map (Tr.mk B (zaG n))))):=zah;have fa:=keep (x:=Ob.lst (encs (ts.map (Tr.mk B (zaG n))))) ha hq;have sub:Sub S (put S q (Ob.lst (encs (ts.map (Tr.mk B (zaG n)))))):= .put .refl hq;generalize put S q (Ob.lst (encs (ts.map (Tr.mk B (zaG n)))))=S1 at fq fa sub⊢
   try walk_at "wp"
   rw [zag fa];refine zfI (S:=S1) ?_ (fun σ=>∃x,σ=[some (.ref a),some (.tup (.str s::encs ts)),some (.int n),some (.ref q),x]) zbe (fun t=>if t.1 == s then some (enc ((zaG n t).fill (ts.map (Tr.mk B (zaG n))))) else none) B _ ⟨_,rfl⟩ (fun t ht σ N hI hno hret=>?_) (fun e σ hI=>?_) fun w e S' sb=>?_
   ·exact fa
   ·obtain⟨x,rfl⟩:=hI;simp only[zfe];have ee:zbe t= .tup [.str t.1,enc t.2.1,enc t.2.2]:=rfl;rw [ee];walk_at "wp";cases e:t.1 == s with
    |true=>
     rw [e]at hret
     try walk_at "wp"
     rw [zqc t hn];dsimp only;have et:t.1=s:=by simpa using e
     have hgw:=hg.wt t ht;refine zfV 4 (hg.dp t ht) (by omega) fq ?_ (by omega) (hret _ rfl _ .refl);rw [List.length_map,hh.1 t (by rw [←et];exact zcC hnd ht)];exact hg.fits t ht
    |false=>
     rw [e]at hno;exact hno rfl _ _ ⟨_,rfl⟩ .refl
   ·obtain⟨x,rfl⟩:=hI;rw [zjt]at e;have e0:zaX B s=none:=by
     cases z:zaX B s with
     |none=>rfl
     |some t=>rw [z]at e;cases e
    rw [zlm e0]at h
    try walk_at "wp"
    rw [zlZ]
    try rw [zag fq]
    try walk_at "wp"
    simp only[enc]at h;refine⟨zan ?_,_,sub,h⟩;rw [zbj,List.length_map];omega
   ·rw [zjt]at e;cases z:zaX B s with
    |none=>rw [z]at e;cases e
    |some t=>
     rw [z]at e;rw [zle z]at h;cases e;exact⟨_,sub.trans sb,h⟩
end
section
variable {S:Sto}{a:Addr}{ws hs:List Str}{B:List Tn}{c:Int→Nat}{p:Pl}{r:Nat}{Q:WK}{E:Str→Sto→Prop}
theorem Pk.ok_made1 (k:Pk ws hs B p) (ha:S a=some (.lst (B.map zbe))) (hr:60≤r) (h:Q (enc (p.ev B (zeb c))) S):zaC (r+1) [.ref a,enc (p.ev B c), .int 1] S Q E:=by
 have h1:=k.wt (c:=c);have h2:=k.dp (c:=c);exact zlx k.b.nd ha (.inl rfl) k.b.s1 40 h2 (by omega) k.ar (by omega) (by rw [k.src];exact h)
theorem Pk.ok_made2 (k:Pk ws hs B p) (ha:S a=some (.lst (B.map zbe))) (hr:60≤r) (h:Q (enc (p.ev B (zbH c))) S):zaC (r+1) [.ref a,enc (p.ev B c), .int 2] S Q E:=by
 have h1:=k.wt (c:=c);have h2:=k.dp (c:=c);exact zlx k.b.nd ha (.inr rfl) k.b.s2 40 h2 (by omega) k.ar (by omega) (by rw [k.goal];exact h)
end
noncomputable def pps (B:List Tn) (s:Str) (n:Nat):List (List Int):=match zaX B s with
 |none=>(List.range n).map fun(i:Nat)=>[(i:Int)]
 |some t=>t.2.1.bls.map fun x=>x.1
noncomputable def zzg (c:Int→Nat) (xs:List (List Int×Int×Str)):List (List Int×Str):=(xs.filter fun x=>c x.2.1 == 1).map fun x=>(x.1,x.2.2)
noncomputable def zft (B:List Tn) (t:Tr):Option Tn:=B.find? fun u=>(u.2.1.mt t).isSome
mutual
noncomputable def Tr.op (B:List Tn) (p:List Int):Tr→List (List Int×Str)
 | .bl _=>[]
 | .nd s ts=>(match zft B (.nd s ts) with
  |none=>[]
  |some t=>[(p,t.1)])++ops B p 0 ts
noncomputable def ops (B:List Tn) (p:List Int) (i:Nat):List Tr→List (List Int×Str)
 | []=>[]
 |t::ts=>t.op B (p++[(i:Int)])++ops B p (i+1) ts
end
theorem zdE{n:Nat}{h c d:Str}{L:Tr}(hL:L∈leftsL n h c d):∃ts,L= .nd h ts:=by
 unfold leftsL at hL;split at hL<;>simp only[List.mem_cons,List.not_mem_nil,or_false]at hL
 all_goals first
  | (subst hL;exact⟨_,rfl⟩)
  | (rcases hL with rfl |rfl<;>exact⟨_,rfl⟩)
theorem zlb{s z:Str}{ls us:List Tr}(h:((Tr.nd s ls).mt (.nd z us)).isSome=true):s=z:=by
 simp only[Tr.mt]at h;split at h
 ·rename_i q;simp only[Bool.and_eq_true,beq_iff_eq]at q;exact q.1
 ·cases h
theorem zjA{n:Nat}{h c d:Str}{L M x:Tr}(hL:L∈leftsL n h c d) (hM:M∈leftsL n h c d) (h1:(L.mt x).isSome=true) (h2:(M.mt x).isSome=true):L=M:=by
  cases x with
  |bl k=>
    obtain⟨ts,rfl⟩:=zdE hL;simp [Tr.mt]at h1
  |nd s ts=>
    unfold leftsL at hL hM;split at hL<;>simp only[List.mem_cons,List.not_mem_nil,or_false]at hL hM
    all_goals first
      | (rw [hL,hM])
      | (rcases hL with rfl |rfl<;>rcases hM with rfl |rfl<;>first
          |rfl
          | (exfalso
             rcases ts with _ |⟨u,us⟩
             · simp [Tr.mt]at h1
             · cases u with
               |bl k=>simp [Tr.mt,mts]at h1 h2
               |nd z vs=>
                 rcases vs with _ |⟨v,vs⟩
                 · simp [Tr.mt,mts]at h1 h2
                 · rcases vs with _ |⟨v',vs⟩
                   · cases v with
                     |bl k=>simp [Tr.mt,mts]at h1 h2
                     |nd z' xs=>
                       rcases xs with _ |⟨x',xs⟩
                       · simp [Tr.mt,mts]at h1 h2
                       · simp [Tr.mt,mts]at h1 h2
                   · simp [Tr.mt,mts]at h1 h2))
section
variable {w0 w1 w2 w3 w4 w5:Str}{tt:List Str}{B:List Tn}
theorem BookOk.one (b:BookOk w0 w1 w2 w3 w4 w5 tt B) (G:Signs w0 w1 w2 w3 w4 w5) {u v:Tn}(hu:u∈B) (hv:v∈B) {x:Tr}(h1:(u.2.1.mt x).isSome=true) (h2:(v.2.1.mt x).isSome=true):u.2.1=v.2.1:=by
 obtain⟨n,m,e⟩:=b.lf;have mu:u.2.1∈leftsL n w0 w2 w3++leftsL m w1 w2 w3:=by rw [←e];exact List.mem_map.mpr ⟨u,hu,rfl⟩
 have mv:v.2.1∈leftsL n w0 w2 w3++leftsL m w1 w2 w3:=by rw [←e];exact List.mem_map.mpr ⟨v,hv,rfl⟩
 have key:∀{L M:Tr},L∈leftsL n w0 w2 w3→M∈leftsL m w1 w2 w3→(L.mt x).isSome=true→(M.mt x).isSome=true→False:=fun {L M} hL hM k1 k2=>by
  obtain⟨ts,rfl⟩:=zdE hL;obtain⟨us,rfl⟩:=zdE hM;cases x with
  |bl k=>simp [Tr.mt]at k1
  |nd s vs=>exact G.n0 w1 (by simp) ((zlb k1).trans (zlb k2).symm)
 rcases List.mem_append.mp mu with z |z<;>rcases List.mem_append.mp mv with y |y
 ·exact zjA z y h1 h2
 ·exact(key z y h1 h2).elim
 ·exact(key y z h2 h1).elim
 ·exact zjA z y h1 h2
theorem zhs (n:Nat) (h c d:Str):(leftsL n h c d).Nodup:=by
 unfold leftsL;split<;>simp
theorem BookOk.inj (b:BookOk w0 w1 w2 w3 w4 w5 tt B) (G:Signs w0 w1 w2 w3 w4 w5):(B.map fun t=>t.2.1).Nodup:=by
 obtain⟨n,m,e⟩:=b.lf;rw [e,List.nodup_append];refine⟨zhs ..,zhs ..,fun x hx y hy=>?_⟩;obtain⟨ts,rfl⟩:=zdE hx;obtain⟨us,rfl⟩:=zdE hy;intro z;cases z;exact G.n0 _ (by simp) rfl
theorem zsk{α β:Type}{f:α→β}:∀{xs:List α}{x y:α},(xs.map f).Nodup→x∈xs→y∈xs→f x=f y→x=y
 |z::xs,x,y,h,hx,hy,e=>by
  rw [List.map_cons,List.nodup_cons]at h;rcases List.mem_cons.mp hx with h1 |h1
  ·rcases List.mem_cons.mp hy with h2 |h2
   ·rw [h1,h2]
   ·exact(h.1 (List.mem_map.mpr ⟨y,h2,by rw [←e,h1]⟩)).elim
  ·rcases List.mem_cons.mp hy with h2 |h2
   ·exact(h.1 (List.mem_map.mpr ⟨x,h1,by rw [e,h2]⟩)).elim
   ·exact zsk h.2 h1 h2 e
end
mutual
inductive Wi (B:List Tn) (wn:List (List Int)):Nat→List Int→Tr→Tr→Prop
 |no {n:Nat}{p:List Int}{s:Str}{ts us:List Tr}:p∉wn→zaX B s=none→Wis B wn n p ((List.range ts.length).map fun(i:Nat)=>[(i:Int)]) ts us→Wi B wn (n+1) p (.nd s ts) (.nd s us)
 |yes {n:Nat}{p:List Int}{s:Str}{ts us ms:List Tr}{t:Tn}:p∈wn→zft B (.nd s ts)=some t→t.2.1.mt (.nd s ts)=some ms→zaX B t.1=some t→Wis B wn n p (t.2.1.bls.map fun x=>x.1) ms us→Wi B wn (n+1) p (.nd s ts) (.nd t.1 us)
inductive Wis (B:List Tn) (wn:List (List Int)):Nat→List Int→List (List Int)→List Tr→List Tr→Prop
 |nil {n:Nat}{p:List Int}:Wis B wn n p [] [] []
 |cons {n:Nat}{p q:List Int}{qs:List (List Int)}{t u:Tr}{ts us:List Tr}:Wi B wn n (p++q) t u→Wis B wn n p qs ts us→Wis B wn n p (q::qs) (t::ts) (u::us)
end
noncomputable def zje (c:Int→Nat) (xs:List (List Int×Int×Str)):List (List Int):=(zzg c xs).map fun x=>x.1
noncomputable def zkG (x:List Int×Str):W:= .tup [zaZ x.1, .str x.2]
section
variable {a:Addr}{B:List Tn}
structure Lft (B:List Tn):Prop where
  d:∀t∈B,t.2.1.depth≤4
  w:∀t∈B,t.2.1.weight≤10
theorem znz{S:Sto}{r:Nat}{Q:WK}{E:Str→Sto→Prop}{s:Str}{ts:List Tr}(L:Lft B) (ha:S a=some (.lst (B.map zbe))) (hl:ts.length≤1000) (hr:20≤r) (h:∀q,S q=none→Q (.ref q) (put S q (.lst ((pps B s ts.length).map zaZ)))):zbA (r+1) [.ref a,enc (.nd s ts)] S Q E:=by
 obtain⟨r,rfl⟩:∃r',r=r'+1:=⟨r - 1,by omega⟩
 rw [zbA];simp only[enc];walk_at "wp";refine zfh ha ?_;unfold pps at h;cases e:zaX B s with
 |none=>
  rw [e]at h;simp only[zep]
  try walk_at "wp"
  rw [zbj];have e1:(((ts.length+1:Nat):Int) - 1).toNat=ts.length:=by omega
  rw [e1];refine⟨⟨by omega,by omega⟩,?_⟩
  rw [znE];refine zaO (fun σ=>∃x,σ=[x]) (fun i:Nat=>W.int i) (fun i=>zaZ [(i:Int)]) trivial (List.range ts.length) [] _ ⟨none,rfl⟩ (by simp;omega) (fun x hx σ R hI hR=>?_) ?_
  ·obtain⟨y,rfl⟩:=hI;simp only[zel];walk_at "wp";exact⟨zan (by decide),hR _ _ ⟨_,rfl⟩ .refl⟩
  ·rw [List.nil_append];intro q hq;have:=h q hq;simp only[List.map_map]at this;exact⟨_, .refl,this⟩
 |some t=>
  rw [e]at h;have ht:t∈B:=List.mem_of_find?_eq_some e;have ee:zep (some t)= .tup [.str t.1,enc t.2.1,enc t.2.2]:=rfl;rw [ee]
  try walk_at "wp"
  rw [show atI [W.str t.1,enc t.2.1,enc t.2.2] 1=some (enc t.2.1) from rfl];dsimp only;have h1:=L.d t ht;have h2:=L.w t ht;refine znD (by omega) (by omega) fun q hq=>?_;have:=h q hq;simp only[List.map_map]at this;exact⟨_, .refl,this⟩
theorem zkr (B:List Tn) (x:Tr):B.findSome? (fun t=>if(t.2.1.mt x).isSome then some (zbe t) else none)=(zft B x).map zbe:=by
 unfold zft
 induction B with
 |nil=>rfl
 |cons t B ih=>
  rw [List.findSome?_cons,List.find?_cons];cases e:(t.2.1.mt x).isSome with
  |true=>rfl
  |false=>simpa using ih
theorem zgH{S:Sto}{r:Nat}{Q:WK}{E:Str→Sto→Prop}{x:Tr}(L:Lft B) (ha:S a=some (.lst (B.map zbe))) (hf:x.fits 0) (hr:20≤r) (h:Q (zep (zft B x)) S):zbr (r+1) [.ref a,enc x] S Q E:=by
 obtain⟨r,rfl⟩:∃r',r=r'+1:=⟨r - 1,by omega⟩
 rw [zbr];walk_at "wp";rw [zag ha];refine zfI (S:=S) ?_ (fun σ=>∃y,σ=[some (.ref a),some (enc x),y]) zbe (fun t=>if(t.2.1.mt x).isSome then some (zbe t) else none) B _ ⟨_,rfl⟩ (fun t ht σ N hI hno hret=>?_) (fun e σ hI=>?_) fun w e S' sb=>?_
 ·exact ha
 ·obtain⟨y,rfl⟩:=hI;simp only[zdY];have ee:zbe t= .tup [.str t.1,enc t.2.1,enc t.2.2]:=rfl;rw [ee];walk_at "wp";rw [show atI [W.str t.1,enc t.2.1,enc t.2.2] 1=some (enc t.2.1) from rfl];dsimp only;have h1:=L.d t ht;have h2:=L.w t ht;refine zey (by omega) hf (by omega) (fun ys hys q hq=>?_) fun h0=>?_
  ·try walk_at "wp"
   rw [hys]at hret;exact hret _ rfl _ (.put .refl hq)
  ·try walk_at "wp"
   rw [h0]at hno;exact hno rfl _ _ ⟨_,rfl⟩ .refl
 ·obtain⟨y,rfl⟩:=hI;walk_at "wp";rw [zkr]at e;have:zft B x=none:=by
   cases q:zft B x with
   |none=>rfl
   |some t=>rw [q]at e;cases e
  rw [this]at h;exact⟨_, .refl,h⟩
 ·rw [zkr]at e;cases q:zft B x with
  |none=>rw [q]at e;cases e
  |some t=>
   rw [q]at e h;cases e;exact⟨_,sb,h⟩
end
mutual
theorem zmO (B:List Tn):∀(t:Tr) (p:List Int),(t.op B p).length≤t.weight
 | .bl n,p=>by simp [Tr.op]
 | .nd s ts,p=>by
  have:=zoO B ts p 0;rw [Tr.op,List.length_append,Tr.weight];split<;>simp<;>omega
theorem zoO (B:List Tn):∀(ts:List Tr) (p:List Int) (i:Nat),(ops B p i ts).length≤wts ts
 | [],p,i=>by simp [ops]
 |t::ts,p,i=>by
  have h1:=zmO B t (p++[(i:Int)]);have h2:=zoO B ts p (i+1);rw [ops,List.length_append,wts];omega
end
section
variable {a f:Addr}{B:List Tn}
mutual
theorem zmF (L:Lft B) (haf:f≠a):∀(t:Tr) {r:Nat}{p:List Int}{xs:List W}{S:Sto}{Q:WK}{E:Str→Sto→Prop},t.depth+25≤r→S a=some (.lst (B.map zbe))→S f=some (.lst xs)→xs.length+t.weight≤100000→p.length+t.depth≤1000→t.hd (fun _=>True)→
  Q .non (put S f (.lst (xs++(t.op B p).map zkG)))→zbm (r+1) [.ref a,enc t,zaZ p, .ref f] S Q E
 | .bl n,r,p,xs,S,Q,E,hr,ha,hf,hx,hp,hh,h=>by simp [Tr.hd]at hh
 | .nd s ts,r,p,xs,S,Q,E,hr,ha,hf,hx,hp,hh,h=>by
  have ft:=zfZ (m:=0) _ hh;simp only[Tr.depth]at hr hp;simp only[Tr.weight]at hx;simp only[Tr.hd]at hh;obtain⟨r,rfl⟩:∃r',r=r'+1:=⟨r - 1,by omega⟩
  rw [zbm];have ee:enc (.nd s ts)= .tup (.str s::encs ts):=by simp only[enc]
  walk_at "wp";refine zgH L ha ft (by omega) ?_;rw [Tr.op]at h;cases e:zft B (.nd s ts) with
  |none=>
   rw [e]at h;simp only[List.nil_append]at h;simp only[zep];rw [ee]
   try walk_at "wp"
   exact zgT L haf ts (by omega) ha hf (by omega) (by omega) hh.2 fun x5 x6=>⟨_, .refl,h⟩
  |some t=>
   rw [e]at h;have et:zep (some t)= .tup [.str t.1,enc t.2.1,enc t.2.2]:=rfl;rw [et,ee]
   try walk_at "wp"
   simp only[zag hf,true_and];refine⟨zan (by decide),zbu (by omega),?_⟩;refine zgT L haf ts (xs:=xs++[zkG (p,t.1)]) (by omega) (by rw [zaD (Ne.symm haf)];exact ha) zah (by simp;omega) (by omega) hh.2 fun x5 x6=>⟨_, .refl,?_⟩;rw [zbg];simpa using h
theorem zgT (L:Lft B) (haf:f≠a):∀(ts:List Tr) {r:Nat}{p:List Int}{i:Nat}{xs:List W}{S:Sto}{E:WX}{D:WEnds}{t0 x4 x5 x6:Option W},dts ts+25≤r→S a=some (.lst (B.map zbe))→S f=some (.lst xs)→xs.length+wts ts≤100000→p.length+1+dts ts≤1000→hds (fun _=>True) ts→
  (∀x5 x6,D.nx [some (.ref a),t0,some (zaZ p),some (.ref f),x4,x5,x6] (put S f (.lst (xs++(ops B p i ts).map zkG))))→
  forL (wGT (zaA (wGN 5) (zaA (wGN 6) zdw))) (zcU (r+1) (zbm (r+1))) E D (fun _=>True) (zhY i (encs ts)) [some (.ref a),t0,some (zaZ p),some (.ref f),x4,x5,x6] S
 | [],r,p,i,xs,S,E,D,t0,x4,x5,x6,hr,ha,hf,hx,hp,hh,h=>by
  simp only[encs,zhY,forL];have:=h x5 x6;rw [ops,List.map_nil,List.append_nil,zfE hf]at this;exact this
 |t::ts,r,p,i,xs,S,E,D,t0,x4,x5,x6,hr,ha,hf,hx,hp,hh,h=>by
  simp only[dts]at hr hp;simp only[wts]at hx;simp only[hds]at hh;simp only[encs,zhY];refine zcc fun N hN=>?_;simp only[zcU];walk_at "wp";rw [zmu];refine⟨zan (by decide),zan (by omega),?_⟩;have ol:=zmO B t (p++[(i:Int)]);refine zmF L haf t (by omega) ha hf (by omega) (by simp;omega) hh.1 ?_;refine hN _ _ _ .refl trivial (zgT L haf ts (xs:=xs++(t.op B (p++[(i:Int)])).map zkG) (by omega) (by rw [zaD (Ne.symm haf)];exact ha) zah (by simp;omega) (by omega) hh.2 fun x5 x6=>?_);rw [zbg];have:=h x5 x6;rw [ops,List.map_append]at this;simpa using this
end
theorem zuJ{p q:List Int}{S:Sto}{Q:WK}:zda (zaZ p) (zaZ q) S Q=(p.length+q.length≤sizeLine∧Q (zaZ (p++q)) S):=by
 unfold zaZ;rw [zgL,List.length_map,List.length_map,List.map_append]
noncomputable def PB (B:List Tn):Prop:=∀t∈B,∀x∈t.2.1.bls,x.1.length≤4
theorem zox{s:Str}{n:Nat}(h:PB B):∀q∈pps B s n,q.length≤4:=fun q hq=>by
 unfold pps at hq;cases e:zaX B s with
 |none=>
  rw [e]at hq;obtain⟨i,_,rfl⟩:=List.mem_map.mp hq;simp
 |some t=>
  rw [e]at hq;obtain⟨x,hx,rfl⟩:=List.mem_map.mp hq;exact h t (List.mem_of_find?_eq_some e) x hx
end
section
variable {a:Addr}{B:List Tn}{S:Sto}{r:Nat}{Q:WK}{E:Str→Sto→Prop}{t:Tr}
theorem zgI (L:Lft B) (ha:S a=some (.lst (B.map zbe))) (hd:t.depth≤60) (hr:t.depth+30≤r) (hw:t.weight≤1000) (hh:t.hd (fun _=>True)) (h:∀q,S q=none→Q (.ref q) (put S q (.lst ((t.op B []).map zkG)))):zcy (r+1) [.ref a,enc t] S Q E:=by
 obtain⟨r,rfl⟩:∃r',r=r'+1:=⟨r - 1,by omega⟩
 rw [zcy];walk_at "wp";refine⟨Nat.zero_le _,fun q hq=>⟨Nat.zero_le _,?_⟩⟩;have hqa:q≠a:=fun z=>by rw [z,ha]at hq;cases hq
 refine zmF L hqa t (p:=[]) (xs:=[]) (by omega) (keep ha hq) zah (by simp;omega) (by simp;omega) hh ?_;rw [zbg,List.nil_append];exact⟨_, .refl,h q hq⟩
theorem zlt{f:Addr}{xs:List (List Int×Str)}(hf:S f=some (.lst (xs.map zkG))) (hl:xs.length≤10000) (h:∀q,S q=none→Q (.ref q) (put S q (.lst ((xs.map fun x=>x.1).map zaZ)))):zcS (r+1) [.ref f] S Q E:=by
 rw [zcS];walk_at "wp";rw [zag hf];refine zaO (fun σ=>∃y,σ=[y]) zkG (fun x=>zaZ x.1) ?_ xs [] _ ⟨none,rfl⟩ (by simp;omega) (fun x hx σ R hI hR=>?_) ?_
 ·exact hf
 ·obtain⟨y,rfl⟩:=hI;simp only[zfB,zkG];walk_at "wp";exact hR _ _ ⟨_,rfl⟩ .refl
 ·rw [List.nil_append];intro q hq;have:=h q hq;rw [List.map_map]at this;exact⟨_, .refl,this⟩
theorem zjJ{s:Str}{ts ms:List Tr}{u:Tn}(L:Lft B) (ha:S a=some (.lst (B.map zbe))) (hh:(Tr.nd s ts).hd (fun _=>True)) (hw:(Tr.nd s ts).weight≤1000) (hr:25≤r) (h1:zft B (.nd s ts)=some u) (h2:u.2.1.mt (.nd s ts)=some ms) (h:Q (enc (.nd u.1 ms)) S):zcF (r+1) [.ref a,enc (.nd s ts)] S Q E:=by
 obtain⟨r,rfl⟩:∃r',r=r'+1:=⟨r - 1,by omega⟩
 have ht:u∈B:=List.mem_of_find?_eq_some h1;have ft:=zfZ (m:=0) _ hh;have hm:=zoX u.2.1 _ _ h2 hh;have hl:=zcT ms;rw [zcF];walk_at "wp";refine zgH L ha ft (by omega) ?_;rw [h1];have et:zep (some u)= .tup [.str u.1,enc u.2.1,enc u.2.2]:=rfl;rw [et]
 try walk_at "wp"
 rw [show atI [W.str u.1,enc u.2.1,enc u.2.2] 1=some (enc u.2.1) from rfl];have g1:=L.d u ht;have g2:=L.w u ht;refine⟨zan (by decide),zey (by omega) ft (by omega) (fun ys hys q hq=>?_) fun h0=>by rw [h2]at h0;cases h0⟩
 rw [h2]at hys;cases hys
 try walk_at "wp"
 rw [zbj];simp only[enc]at h;exact⟨zan (by omega),_, .put .refl hq,h⟩
end
theorem zro{B:List Tn}{s:Str}{n:Nat}(h:zaX B s=none):pps B s n=(List.range n).map fun(i:Nat)=>[(i:Int)]:=by unfold pps;rw [h]
theorem zrj{B:List Tn}{s:Str}{n:Nat}{t:Tn}(h:zaX B s=some t):pps B s n=t.2.1.bls.map fun x=>x.1:=by unfold pps;rw [h]
theorem Wis.len{B:List Tn}{wn:List (List Int)}{n:Nat}{p:List Int}:∀{qs:List (List Int)}{ts us:List Tr},Wis B wn n p qs ts us→us.length=ts.length
 |_,_,_, .nil=>rfl
 |_,_,_, .cons _ h=>by rw [List.length_cons,List.length_cons,Wis.len h]
section
variable {a w:Addr}{B:List Tn}{wn:List (List Int)}
theorem zhe (n:Nat) (hP4:∀{t u:Tr}{p:List Int}{r:Nat}{S:Sto}{Q:WK}{E:Str→Sto→Prop},Wi B wn n p t u→n+40≤r+1→S a=some (.lst (B.map zbe))→S w=some (.dct (zhC wn))→t.hd (fun _=>True)→t.weight≤1000→p.length+4*n≤1000→Q (enc u) S→zaQ (r+1) [.ref a,enc t,zaZ p, .ref w] S Q E) :
  ∀{ts us:List Tr}{qs:List (List Int)}{p:List Int},Wis B wn n p qs ts us→ ∀{r:Nat}{xs:List W}{f:Addr}{S:Sto}{G:Sto→Prop}{E:WX}{D:WEnds}{t0 x4 x6 x7:Option W},(∀q∈qs,q.length≤4)→n+40≤r+1→S a=some (.lst (B.map zbe))→S w=some (.dct (zhC wn))→S f=some (.lst xs)→f≠a→f≠w→xs.length+ts.length≤10000→wts ts≤1000→hds (fun _=>True) ts→p.length+4+4*n≤1000→(∀o,G (put S f o))→
  (∀x6 x7,D.nx [some (.ref a),t0,some (zaZ p),some (.ref w),x4,some (.ref f),x6,x7] (put S f (.lst (xs++encs us))))→
  forL (wGT (zaA (wGN 6) (zaA (wGN 7) zdw))) (zcB (r+1) (zaQ (r+1))) E D G (pairs (qs.map zaZ) (encs ts)) [some (.ref a),t0,some (zaZ p),some (.ref w),x4,some (.ref f),x6,x7] S
 |_,_,_,p, .nil=>by
  rename_i r xs f S G E D t0 x4 x6 x7;intro hq hr ha hw hf n1 n2 hx hwt hh hp hG h;simp only[List.map_nil,encs,pairs,forL];have:=h x6 x7;simp only[encs,List.append_nil,zfE hf]at this;exact this
 |_,_,_,p, .cons (q:=q) (t:=t) (u:=u) (ts:=ts) (us:=us) h1 h2=>by
  rename_i r xs f S G E D t0 x4 x6 x7 qs;intro hq hr ha hw hf n1 n2 hx hwt hh hp hG h;simp only[wts]at hwt;simp only[hds]at hh;simp only[List.length_cons]at hx;have hq4:=hq q List.mem_cons_self;simp only[List.map_cons,encs,pairs];refine zcc fun N hN=>?_;simp only[zcB];walk_at "wp";simp only[zag hf,true_and];rw [zuJ];refine⟨zan (by omega),hP4 h1 hr ha hw hh.1 (by omega) (by simp;omega) ?_⟩
  try walk_at "wp"
  rw [zag hf];refine⟨zbu (by omega),?_⟩;refine hN _ _ _ .refl (hG _) (zhe n hP4 h2 (xs:=xs++[enc u]) (fun q' hq'=>hq q' (List.mem_cons_of_mem _ hq')) hr (by rw [zaD (Ne.symm n1)];exact ha) (by rw [zaD (Ne.symm n2)];exact hw) zah n1 n2 (by simp;omega) (by omega) hh.2 hp (fun o=>by rw [zbg];exact hG o) fun x6 x7=>?_)
  rw [zbg];have:=h x6 x7;simpa [encs]using this
theorem zjS (L:Lft B) (hP:PB B):∀(n:Nat) {t u:Tr}{p:List Int}{r:Nat}{S:Sto}{Q:WK}{E:Str→Sto→Prop},Wi B wn n p t u→n+40≤r+1→S a=some (.lst (B.map zbe))→S w=some (.dct (zhC wn))→t.hd (fun _=>True)→t.weight≤1000→p.length+4*n≤1000→Q (enc u) S→zaQ (r+1) [.ref a,enc t,zaZ p, .ref w] S Q E
 |0,t,u,p,r,S,Q,E,M,hr,ha,hw,hh,hwt,hp,h=>by cases M
 |n+1,t,u,p,r,S,Q,E,M,hr,ha,hw,hh,hwt,hp,h=>by
  obtain⟨r,rfl⟩:∃r',r=r'+1:=⟨r - 1,by omega⟩
  have tail:∀{s:Str}{ts us:List Tr}{t0:Option W}{E':WX},Wis B wn n p (pps B s ts.length) ts us→hds (fun _=>True) ts→wts ts≤1000→Q (enc (.nd s us)) S→
    (1:Nat)=1→ ∀f,S f=none→zbA (r+1) [.ref a, .tup (.str s::encs ts)] (put S f (.lst [])) (fun x S1=>znK x S1 fun xs G=>forL (wGT (zaA (wGN 6) (zaA (wGN 7) zdw))) (zcB (r+1) (zaQ (r+1))) E' { nx:=zbd (wOp zda (zbR (zab (wOp oIx (zad 4) (wC (W.int 0))) waNil)) (wB zdA (zab (zad 5) waNil))) E' { nx:=fun x S'=>∃S'',Sub S'' S'∧Q W.non S'',rt:=fun w S'=>∃S'',Sub S'' S'∧Q w S'' },rt:=fun w S'=>∃S'',Sub S'' S'∧Q w S'' } (fun S'=>G S'∧True) (pairs xs (encs ts)) [some (.ref a),t0,some (zaZ p),some (.ref w),some (.tup (.str s::encs ts)),some (.ref f),none,none] S1) E:=fun {s ts us t0 E'} WW hd hw' hQ _ f hf=>by
   have hk:=zcT ts;have n1:f≠a:=fun z=>by rw [z,ha]at hf;cases hf
   have n2:f≠w:=fun z=>by rw [z,hw]at hf;cases hf
   have ee:W.tup (W.str s::encs ts)=enc (.nd s ts):=by simp only[enc]
   rw [ee];refine znz L (keep ha hf) (by omega) (by omega) fun q hq=>?_;rw [zhd,zgv,←ee];obtain⟨hq1,hq2⟩:=zdU hq;refine zhe n (zjS L hP n) WW (zox hP) (by omega) (keep (keep ha hf) hq) (keep (keep hw hf) hq) (keep zah hq) n1 n2 (by simp;omega) hw' hd (by omega) (fun o=>⟨?_,trivial⟩) fun x6 x7=>?_
   ·show put _ f o q=_;rw [zaD hq2];exact zah
   ·have hlu:us.length≤1000:=by
     have:=Wis.len WW;omega
    walk_at "wp";rw [zbj];simp only[enc]at hQ;refine⟨zan (by decide),zan (by omega),S,?_,hQ⟩;rw [zma hq2];exact .put (.put .refl hf) hq1
  cases M with
  | @no _ _ s ts us h1 h2 h3=>
   simp only[Tr.hd]at hh;simp only[Tr.weight]at hwt;rw [zaQ];simp only[enc];walk_at "wp";rw [zkN hw,zjU,decide_eq_false h1]
   try walk_at "wp"
   refine⟨Nat.zero_le _,fun f hf=>?_⟩;have:=tail (t0:=some (.tup (.str s::encs ts))) (E':=fun c x S'=>E c S') (by rw [zro h2];exact h3) hh.2 (by omega) h rfl f hf;simpa only[and_true]using this
  | @yes _ _ s ts us ms t h1 h2 h3 h4 h5=>
   have hm:=zoX t.2.1 _ _ h3 hh;rw [zaQ];walk_at "wp";rw [zkN hw,zjU,decide_eq_true h1]
   try walk_at "wp"
   refine zjJ L ha hh hwt (by omega) h2 h3 ?_;simp only[enc]
   try walk_at "wp"
   refine⟨Nat.zero_le _,fun f hf=>?_⟩;have:=tail (t0:=some (.tup (.str s::encs ts))) (E':=fun c x S'=>E c S') (by rw [zrj h4];exact h5) hm.1 (by omega) h rfl f hf;simpa only[and_true]using this
end
theorem zjH{S:Sto}{n:Nat}:∀(p q:List Int),zdI (eqF S (n+1)) (p.map W.int) (q.map W.int)=some (decide (p=q))
 | [],[]=>by simp [zdI]
 | [],j::q=>by simp [zdI]
 |i::p,[]=>by simp [zdI]
 |i::p,j::q=>by
  rw [List.map_cons,List.map_cons,zdI,zsq,zjH p q];simp only[Option.some.injEq];rw [Bool.eq_iff_iff];simp
theorem zxx{S:Sto}{n:Nat}(p q:List Int):eqF S (n+2) (zaZ p) (zaZ q)=some (decide (p=q)):=by
 unfold zaZ;rw [zsr,zjH]
theorem zuG{S:Sto}{x:List Int}:∀ys:List (List Int),inF S (zaZ x) (ys.map zaZ)=some (decide (x∈ys))
 | []=>by simp [inF]
 |y::ys=>by
  rw [List.map_cons,inF,zxx (n:=57),zuG ys];simp only[Option.some.injEq];rw [Bool.eq_iff_iff];simp only[Bool.or_eq_true,decide_eq_true_eq,List.mem_cons];exact⟨fun h=>h.elim (fun e=> .inl e.symm) .inr,fun h=>h.elim (fun e=> .inl e.symm) .inr⟩
section
variable {a:Addr}{B:List Tn}{wn:List (List Int)}{S:Sto}{r n:Nat}{Q:WK}{E:Str→Sto→Prop}{t u:Tr}{f:Addr}
theorem znw (L:Lft B) (hP:PB B) (M:Wi B wn n [] t u) (hn:n≤60) (hr:110≤r) (ha:S a=some (.lst (B.map zbe))) (hf:S f=some (.lst (wn.map zaZ))) (hh:t.hd (fun _=>True)) (hw:t.weight≤1000) (hl:wn.length≤10000) (h:Q (enc u) S):zdF (r+1) [.ref a,enc t, .ref f] S Q E:=by
 obtain⟨r,rfl⟩:∃r',r=r'+1:=⟨r - 1,by omega⟩
 rw [zdF];walk_at "wp";refine⟨Nat.zero_le _,?_⟩;rw [zag hf];refine zaO (fun σ=>∃y,σ=[y]) zaZ (fun p=>W.tup [zaZ p, .bl true]) ?_ wn [] _ ⟨none,rfl⟩ (by simp;omega) (fun x hx σ R hI hR=>?_) ?_
 ·exact hf
 ·obtain⟨y,rfl⟩:=hI;simp only[zgj];walk_at "wp";exact⟨zan (by decide),hR _ _ ⟨_,rfl⟩ .refl⟩
 ·rw [List.nil_append];have e:zeA (wn.map fun p=>W.tup [zaZ p, .bl true])=some wn:=zjr wn;rw [e];refine⟨by omega,fun d hd=>?_⟩;have e0:W.tup []=zaZ []:=rfl;rw [e0];exact zjS L hP n M (by omega) (keep ha hd) zah hh hw (by simp;omega) ⟨_, .put .refl hd,h⟩
theorem zry{ks:List (List Int)}(L:Lft B) (hP:PB B) (M:Wi B wn n [] t u) (hn:n≤60) (hr:115≤r) (ha:S a=some (.lst (B.map zbe))) (hf:S f=some (.lst (wn.map zaZ))) (hh:t.hd (fun _=>True)) (hw:t.weight≤1000) (hd:t.depth≤60) (hl:wn.length≤10000) (hks:((t.op B []).map fun x=>x.1)=ks) (hin:∀x∈wn,x∈ks) (h:Q (enc u) S):zfJ (r+1) [.ref a,enc t, .ref f] S Q E:=by
 obtain⟨r,rfl⟩:∃r',r=r'+1:=⟨r - 1,by omega⟩
 have ol:=zmO B t [];rw [zfJ];walk_at "wp";refine zgI L ha hd (by omega) hw hh fun q hq=>?_;refine zlt zah (by omega) fun q2 hq2=>?_;rw [hks];have f2:put (put S q (Ob.lst ((t.op B []).map zkG))) q2 (Ob.lst (ks.map zaZ)) q2=some (.lst (ks.map zaZ)):=zah;have ff:=keep (x:=Ob.lst (ks.map zaZ)) (keep (x:=Ob.lst ((t.op B []).map zkG)) hf hq) hq2;have fa:=keep (x:=Ob.lst (ks.map zaZ)) (keep (x:=Ob.lst ((t.op B []).map zkG)) ha hq) hq2;have sub:Sub S (put (put S q (Ob.lst ((t.op B []).map zkG))) q2 (Ob.lst (ks.map zaZ))):= .trans (.put .refl hq) (.put .refl hq2);generalize put (put S q (Ob.lst ((t.op B []).map zkG))) q2 (Ob.lst (ks.map zaZ))=S2 at f2 ff fa sub⊢
 try walk_at "wp"
 rw [zag ff];refine zfI (S:=S2) ?_ (fun σ=>∃x,σ=[some (.ref a),some (enc t),some (.ref f),some (.ref q2),x]) zaZ (fun _=>none) wn _ ⟨_,rfl⟩ (fun x hx σ N hI hno hret=>?_) (fun e σ hI=>?_) fun w e S' sb=>?_
 ·exact ff
 ·obtain⟨y,rfl⟩:=hI;unfold zhI;walk_at "wp";rw [zag f2,zuG,decide_eq_true (hin x hx)]
  try walk_at "wp"
  exact hno rfl _ _ ⟨_,rfl⟩ .refl
 ·obtain⟨y,rfl⟩:=hI
  try walk_at "wp"
  exact znw L hP M hn (by omega) fa ff hh hw hl ⟨_,sub,h⟩
 ·rw [List.findSome?_eq_none_iff.mpr (fun _ _=>rfl)]at e;cases e
end
section
variable {c:Int→Nat}
noncomputable def One (c:Int→Nat):Prop:=∀x:Int,0≤x→x<8→c x≤1
theorem One.src (hc:One c):∀x:Int,0≤x→x<8→zeb c x=0:=fun x h0 h1=>by
 have:=hc x h0 h1;unfold zeb;split<;>omega
end
theorem zif (f:Int):One (byC f):=fun x _ _=>zyk f x
noncomputable def zwT (B:List Tn) (x:List Int×Tr):List (List Int×Str):=(zft B x.2).toList.map fun b=>(x.1,b.1)
mutual
theorem zrY (B:List Tn):∀(t:Tr) (p:List Int),t.fits 0→(t.plt p).flatMap (zwT B)=t.op B p
 | .bl n,p,h=>by
  simp only[Tr.fits]at h;omega
 | .nd s ts,p,h=>by
  simp only[Tr.fits]at h;rw [Tr.plt,List.flatMap_cons,znL B ts p 0 h,Tr.op,zwT];cases zft B (.nd s ts)<;>rfl
theorem znL (B:List Tn):∀(ts:List Tr) (p:List Int) (i:Nat),fitss 0 ts→(zhZ p i ts).flatMap (zwT B)=ops B p i ts
 | [],p,i,h=>by simp [zhZ,ops]
 |t::ts,p,i,h=>by
  simp only[fitss]at h;rw [zhZ,ops,List.flatMap_append,zrY B t _ h.1,znL B ts p (i+1) h.2]
end
theorem zrE (x:Int) (h0:0≤x) (h8:x<8):byC 8 x=0:=by
 have:∀n:Nat,n<8→byC 8 (n:Int)=0:=by decide
 obtain⟨n,rfl⟩:=Int.eq_ofNat_of_zero_le h0;exact this n (by omega)
structure Pre (S:Sto) (aw at' ab:Addr) (w0 w1 w2 w3 w4 w5:Str) (tt:List Str) (B:List Tn):Prop where
  G:Signs w0 w1 w2 w3 w4 w5
  T:Titles tt
  b:BookOk w0 w1 w2 w3 w4 w5 tt B
  fw:S aw=some (.lst (six w0 w1 w2 w3 w4 w5))
  ft:S at'=some (.lst (tt.map W.str))
  fb:S ab=some (.lst (B.map zbe))
theorem Pre.bk{S:Sto}{aw at' ab:Addr}{w0 w1 w2 w3 w4 w5:Str}{tt:List Str}{B:List Tn}(P:Pre S aw at' ab w0 w1 w2 w3 w4 w5 tt B):BkOk [w0,w1,w2,w3,w4,w5] [w2,w3,w4,w5] B:=P.b.bk P.T P.G
theorem Pre.ne{S:Sto}{aw at' ab:Addr}{w0 w1 w2 w3 w4 w5:Str}{tt:List Str}{B:List Tn}(P:Pre S aw at' ab w0 w1 w2 w3 w4 w5 tt B):B≠ []:=by
 have h:=P.b.len;rintro rfl;simp at h
theorem Pre.sub{S S':Sto}{aw at' ab:Addr}{w0 w1 w2 w3 w4 w5:Str}{tt:List Str}{B:List Tn}(P:Pre S aw at' ab w0 w1 w2 w3 w4 w5 tt B) (h:Sub S S'):Pre S' aw at' ab w0 w1 w2 w3 w4 w5 tt B:=⟨P.G,P.T,P.b,h _ _ P.fw,h _ _ P.ft,h _ _ P.fb⟩
theorem zum{T:WS}{E:WX}{D:WEnds}{ns:List Int}{x1 x2 x3:Option W}{τ:WSt}{S:Sto}(h:∀(S':Sto) (aw at' ab:Addr) (w0 w1 w2 w3 w4 w5:Str) (tt:List Str) (B:List Tn),Pre S' aw at' ab w0 w1 w2 w3 w4 w5 tt B→T E D (some (.scr ns)::some (.ref aw)::some (.ref at')::some (.ref ab)::τ) S') :
  zar (wAsg (zal (zaS 199) (zab (zal (zat 199) (zab (zad 0) (zab (wC (.int 0)) waNil))) (zab (zal (zat 199) (zab (zad 0) (zab (wC (.int 1)) waNil))) (zab (wC (.bl false)) waNil)))) (wGN 1))
  (zar (wAsg (zal (zaS 199) (zab (zal (zat 199) (zab (zad 0) (zab (wC (.int 2)) waNil))) (zab (zal (zat 199) (zab (zad 0) (zab (wC (.int 3)) waNil))) (zab (wC (.bl true)) waNil)))) (wGN 2))
  (zar (wAsg (zal (zbS 199) (zab (zad 0) (zab (wC (.int 4)) (zab (zad 1) (zab (zad 2) waNil))))) (wGN 3)) T)) E D (some (.scr ns)::x1::x2::x3::τ) S:=by
 walk_at "wp";refine zeT (by decide) fun c0=>zeT (by decide) fun c1=>zmD fun aw ws hw0 hws=>?_;obtain⟨w0,w1,w2,w3,w4,w5,rfl,G⟩:=zlg hws;have fw:put S aw (Ob.lst ([w0,w1,w2,w3,w4,w5].map W.str)) aw=some (.lst (six w0 w1 w2 w3 w4 w5)):=zah;generalize put S aw (Ob.lst ([w0,w1,w2,w3,w4,w5].map W.str))=S1 at fw⊢;refine zeT (by decide) fun c2=>zeT (by decide) fun c3=>zmD fun at' tt ht0 htt=>?_;have ft:put S1 at' (Ob.lst (tt.map W.str)) at'=some (.lst (tt.map W.str)):=zah;replace fw:=keep (x:=Ob.lst (tt.map W.str)) fw ht0;generalize put S1 at' (Ob.lst (tt.map W.str))=S2 at fw ft⊢;refine zsA (r:=192) (zgd htt).len (by decide) fw ft fun ab B n m hb0 e1 e2 e3=>?_;exact h _ aw at' ab w0 w1 w2 w3 w4 w5 tt B ⟨G,zgd htt,⟨⟨n,m,e1⟩,e2,e3⟩,keep (x:=Ob.lst (B.map zbe)) fw hb0,keep (x:=Ob.lst (B.map zbe)) ft hb0,zah⟩
section
variable {c d:Int→Nat}
theorem zfN{c d:Int→Nat}(hc:One c) (hd:One d):Ok2 c d:=fun x h0 h1=> .inl ⟨hc x h0 h1,hd x h0 h1⟩
end
mutual
noncomputable def Tr.ord (k:Nat):Tr→Option Nat
 | .bl n=>if n=(k:Int) then some (k+1) else none
 | .nd _ ts=>znt k ts
noncomputable def znt (k:Nat):List Tr→Option Nat
 | []=>some k
 |t::ts=>match t.ord k with
  |some m=>znt m ts
  |none=>none
end
noncomputable def zwX (B:List Tn) (z:Str):Prop:=∀u∈B,∀s ls,u.2.1= .nd s ls→s≠z
structure Ort (B:List Tn):Prop where
  inn:∀t∈B,∃s ls,t.2.1= .nd s ls∧hbs (zwX B) ls
  mt:zwY B
  fm:∀t∈B,∀x ys,t.2.1.mt x=some ys→x=t.2.1.fill ys∧ys.length=t.2.1.nb
  one:∀u∈B,∀v∈B,∀x:Tr,(u.2.1.mt x).isSome=true→(v.2.1.mt x).isSome=true→u=v
  od:∀t∈B,t.2.1.ord 0=some t.2.1.nb
mutual
theorem zsc:∀(L x:Tr) (ys:List Tr) (k m:Nat),L.ord k=some m→L.mt x=some ys→ys.length+k=m∧ ∀pre post:List Tr,pre.length=k→L.fill (pre++ys++post)=x
 | .bl n,x,ys,k,m,h,e=>by
  rw [Tr.ord]at h;split at h
  ·rename_i hn;cases h;rw [Tr.mt]at e;cases e;refine⟨by simp;omega,fun pre post hp=>?_⟩;rw [Tr.fill,hn,Int.toNat_natCast,List.getD_eq_getElem?_getD,List.append_assoc,List.getElem?_append_right (by omega),hp,Nat.sub_self];rfl
  ·cases h
 | .nd s ls, .bl n,ys,k,m,h,e=>by rw [Tr.mt]at e;cases e
 | .nd s ls, .nd z us,ys,k,m,h,e=>by
  rw [Tr.mt]at e;split at e
  ·rename_i hc;rw [Bool.and_eq_true,beq_iff_eq,beq_iff_eq]at hc;rw [Tr.ord]at h;obtain⟨h1,h2⟩:=zoG ls us ys k m hc.2 h e;exact⟨h1,fun pre post hp=>by rw [Tr.fill,h2 pre post hp,hc.1]⟩
  ·cases e
theorem zoG:∀(ls us ys:List Tr) (k m:Nat),ls.length=us.length→znt k ls=some m→mts ls us=some ys→ys.length+k=m∧ ∀pre post:List Tr,pre.length=k→fills (pre++ys++post) ls=us
 | [],us,ys,k,m,hl,h,e=>by
  rw [znt]at h;cases h;rw [mts]at e;cases e;cases us with
  |nil=>exact⟨by simp,fun _ _ _=>by rw [fills]⟩
  |cons _ _=>cases hl
 |l::ls,[],ys,k,m,hl,h,e=>by cases hl
 |l::ls,u::us,ys,k,m,hl,h,e=>by
  rw [znt]at h;rw [mts]at e;cases q:l.ord k with
  |none=>rw [q]at h;cases h
  |some j=>
   rw [q]at h;cases q1:l.mt u with
   |none=>rw [q1]at e;cases e
   |some xs=>
    rw [q1]at e;cases q2:mts ls us with
    |none=>rw [q2]at e;cases e
    |some zs=>
     rw [q2]at e;cases e;obtain⟨h1,h2⟩:=zsc l u xs k j q q1;obtain⟨h3,h4⟩:=zoG ls us zs j m (by simpa using hl) h q2;refine⟨by rw [List.length_append];omega,fun pre post hp=>?_⟩;rw [fills];have e1:=h2 pre (zs++post) hp;have e2:=h4 (pre++xs) post (by rw [List.length_append];omega);have a1:pre++(xs++zs)++post=pre++xs++(zs++post):=by simp
     have a2:pre++(xs++zs)++post=pre++xs++zs++post:=by simp
     rw [a1,e1,←a1,a2,e2]
end
theorem zmE{n:Nat}{h c d:Str}{L:Tr}(hL:L∈leftsL n h c d):L.ord 0=some L.nb:=by
 unfold leftsL at hL;split at hL<;>simp only[List.mem_cons,List.not_mem_nil,or_false]at hL
 all_goals first
  | (subst hL;simp [Tr.ord,znt,Tr.nb,nbs])
  | (rcases hL with rfl |rfl<;>simp [Tr.ord,znt,Tr.nb,nbs])
theorem zgp{n:Nat}{h c d:Str}{P:Str→Prop}(hc:P c) (hd:P d) {L:Tr}(hL:L∈leftsL n h c d):∃ls,L= .nd h ls∧hbs P ls:=by
 unfold leftsL at hL;split at hL<;>simp only[List.mem_cons,List.not_mem_nil,or_false]at hL
 all_goals first
  | (subst hL;exact⟨_,rfl,by simp [hbs,Tr.hb,hc,hd]⟩)
  | (rcases hL with rfl |rfl<;>exact⟨_,rfl,by simp [hbs,Tr.hb,hc,hd]⟩)
section
variable {w0 w1 w2 w3 w4 w5:Str}{tt:List Str}{B:List Tn}
theorem BookOk.mem_lefts (b:BookOk w0 w1 w2 w3 w4 w5 tt B) {t:Tn}(ht:t∈B):∃n,t.2.1∈leftsL n w0 w2 w3∨t.2.1∈leftsL n w1 w2 w3:=by
 obtain⟨n,m,e⟩:=b.lf;have:t.2.1∈leftsL n w0 w2 w3++leftsL m w1 w2 w3:=by rw [←e];exact List.mem_map.mpr ⟨t,ht,rfl⟩
 rcases List.mem_append.mp this with z |z
 ·exact⟨n, .inl z⟩
 ·exact⟨m, .inr z⟩
theorem BookOk.ort (b:BookOk w0 w1 w2 w3 w4 w5 tt B) (G:Signs w0 w1 w2 w3 w4 w5):Ort B:=by
 have top:∀z,z≠w0→z≠w1→zwX B z:=fun z h0 h1 u hu s ls e=>by
  obtain⟨n,z |z⟩:=b.mem_lefts hu
  ·obtain⟨l,e',_⟩:=zgp (P:=fun _=>True) trivial trivial z;rw [e]at e';cases e';exact h0.symm
  ·obtain⟨l,e',_⟩:=zgp (P:=fun _=>True) trivial trivial z;rw [e]at e';cases e';exact h1.symm
 have t2:=top w2 (G.n0 w2 (by simp)).symm (G.n1 w2 (by simp)).symm;have t3:=top w3 (G.n0 w3 (by simp)).symm (G.n1 w3 (by simp)).symm;have od:∀t∈B,t.2.1.ord 0=some t.2.1.nb:=fun t ht=>by
  obtain⟨n,z |z⟩:=b.mem_lefts ht
  ·exact zmE z
  ·exact zmE z
 refine⟨fun t ht=>?_,b.mt,fun t ht x ys e=>?_,fun u hu v hv x h1 h2=>zsk (b.inj G) hu hv (b.one G hu hv h1 h2),od⟩
 ·obtain⟨n,z |z⟩:=b.mem_lefts ht
  ·obtain⟨l,e',h⟩:=zgp t2 t3 z;exact⟨_,_,e',h⟩
  ·obtain⟨l,e',h⟩:=zgp t2 t3 z;exact⟨_,_,e',h⟩
 ·have ho:=od t ht;obtain⟨h1,h2⟩:=zsc _ _ _ _ _ ho e;have:=h2 [] [] rfl;simp only[List.nil_append,List.append_nil]at this;exact⟨this.symm,by omega⟩
end
structure Wy (ws:List Str) (B:List Tn) (a:Tr):Prop where
  hd:a.hd fun s=>s∈ws∨ ∃t∈B,t.1=s
  ar:a.ar B
noncomputable abbrev src (B:List Tn) (a:Tr):Tr:=a.mk B fun t=>t.2.1
noncomputable abbrev gol (B:List Tn) (a:Tr):Tr:=a.mk B fun t=>t.2.2
section
variable {ws:List Str}{B:List Tn}
theorem zkS{P:Str→Prop}:∀{ts:List Tr}{t:Tr},hds P ts→t∈ts→t.hd P
 |u::ts,t,h,ht=>by
  rw [hds]at h;rcases List.mem_cons.mp ht with rfl |ht
  ·exact h.1
  ·exact zkS h.2 ht
theorem zkJ:∀{ts:List Tr}{t:Tr},ars B ts→t∈ts→t.ar B
 |u::ts,t,h,ht=>by
  rw [ars]at h;rcases List.mem_cons.mp ht with rfl |ht
  ·exact h.1
  ·exact zkJ h.2 ht
theorem Wy.cases (b:BkOk ws ws B) {a:Tr}(h:Wy ws B a):(∃s as,a= .nd s as∧s∈ws∧zaX B s=none∧ ∀x∈as,Wy ws B x)∨(∃t as,t∈B∧a= .nd t.1 as∧zaX B t.1=some t∧as.length=t.2.1.nb∧ ∀x∈as,Wy ws B x):=by
 obtain⟨h1,h2⟩:=h;cases a with
 |bl n=>rw [Tr.hd]at h1;exact h1.elim
 |nd s as=>
  rw [Tr.hd]at h1;rw [Tr.ar]at h2;have kids:∀x∈as,Wy ws B x:=fun x hx=>⟨zkS h1.2 hx,zkJ h2.2 hx⟩;rcases h1.1 with h |⟨t,ht,rfl⟩
  ·exact .inl ⟨s,as,rfl,h,zbp b.ti (b.sg s h),kids⟩
  ·have e:=zcC b.nd ht;exact .inr ⟨t,as,ht,rfl,e,h2.1 t e,kids⟩
theorem zfQ{g:Tn→Tr}{s:Str}{as:List Tr}(h:zaX B s=none):(Tr.nd s as).mk B g= .nd s (as.map (Tr.mk B g)):=by
 rw [Tr.mk,h,zgU]
theorem zeY{g:Tn→Tr}{t:Tn}{as:List Tr}(h:zaX B t.1=some t):(Tr.nd t.1 as).mk B g=(g t).fill (as.map (Tr.mk B g)):=by
 rw [Tr.mk,h,zgU]
mutual
theorem zvQ (b:BkOk ws ws B) (O:Ort B):∀(L a:Tr),L.hb (zwX B)→Wy ws B a→(L.mt (src B a)).isSome=true→(L.mt a).isSome=true
 | .bl n,a,_,_,_=>by rw [Tr.mt];rfl
 | .nd z ls,a,hL,ha,h=>by
  rw [Tr.hb]at hL;rcases ha.cases b with⟨s,as,rfl,hs,e,kids⟩ |⟨t,as,ht,rfl,e,hl,kids⟩
  ·rw [show src B (.nd s as)= .nd s (as.map (src B)) from zfQ e,Tr.mt,List.length_map]at h;rw [Tr.mt];split at h
   ·rename_i hc;rw [if_pos hc];exact zlr b O ls as hL.2 kids h
   ·cases h
  ·obtain⟨s0,l0,e0,_⟩:=O.inn t ht;rw [show src B (.nd t.1 as)=t.2.1.fill (as.map (src B)) from zeY e,e0,Tr.fill]at h;exact absurd (zlb h).symm (hL.1 t ht s0 l0 e0)
theorem zlr (b:BkOk ws ws B) (O:Ort B):∀(ls as:List Tr),hbs (zwX B) ls→(∀x∈as,Wy ws B x)→(mts ls (as.map (src B))).isSome=true→(mts ls as).isSome=true
 | [],as,_,_,_=>by rw [mts];rfl
 |l::ls,[],_,_,_=>by rw [mts];rfl
 |l::ls,a::as,hL,ha,h=>by
  rw [hbs]at hL;rw [List.map_cons,mts]at h;cases q1:l.mt (src B a) with
  |none=>rw [q1]at h;cases h
  |some xs=>
   rw [q1]at h;cases q2:mts ls (as.map (src B)) with
   |none=>rw [q2]at h;cases h
   |some zs=>
    have h1:=zvQ b O l a hL.1 (ha a (by simp)) (by rw [q1];rfl);have h2:=zlr b O ls as hL.2 (fun x hx=>ha x (List.mem_cons_of_mem _ hx)) (by rw [q2];rfl);obtain⟨x1,h1⟩:=Option.isSome_iff_exists.mp h1;obtain⟨x2,h2⟩:=Option.isSome_iff_exists.mp h2;rw [mts,h1,h2];rfl
end
end
section
variable {ws:List Str}{B:List Tn}
theorem Wy.kids{s:Str}{as:List Tr}(h:Wy ws B (.nd s as)):∀x∈as,Wy ws B x:=fun x hx=>by
 obtain⟨h1,h2⟩:=h;rw [Tr.hd]at h1;rw [Tr.ar]at h2;exact⟨zkS h1.2 hx,zkJ h2.2 hx⟩
mutual
theorem zts:∀(L a:Tr) (ys:List Tr),L.mt a=some ys→Wy ws B a→ ∀y∈ys,Wy ws B y
 | .bl n,a,ys,e,h,y,hy=>by
  rw [Tr.mt]at e;cases e;rw [List.mem_singleton]at hy;rw [hy];exact h
 | .nd s ls, .bl n,ys,e,h,y,hy=>by rw [Tr.mt]at e;cases e
 | .nd s ls, .nd z us,ys,e,h,y,hy=>by
  rw [Tr.mt]at e;split at e
  ·exact zrR ls us ys e h.kids y hy
  ·cases e
theorem zrR:∀(ls us ys:List Tr),mts ls us=some ys→(∀x∈us,Wy ws B x)→ ∀y∈ys,Wy ws B y
 | [],us,ys,e,h,y,hy=>by rw [mts]at e;cases e;cases hy
 |l::ls,[],ys,e,h,y,hy=>by rw [mts]at e;cases e;cases hy
 |l::ls,u::us,ys,e,h,y,hy=>by
  rw [mts]at e;cases q1:l.mt u with
  |none=>rw [q1]at e;cases e
  |some xs=>
   rw [q1]at e;cases q2:mts ls us with
   |none=>rw [q2]at e;cases e
   |some zs=>
    rw [q2]at e;cases e;rcases List.mem_append.mp hy with hy |hy
    ·exact zts l u xs q1 (h u (by simp)) y hy
    ·exact zrR ls us zs q2 (fun x hx=>h x (List.mem_cons_of_mem _ hx)) y hy
end
theorem zlC (b:BkOk ws ws B) {t:Tn}(ht:t∈B) {vs:List Tr}(hl:vs.length=t.2.1.nb) (g:Tn→Tr):(t.2.1.fill vs).mk B g=t.2.1.fill (vs.map (Tr.mk B g)):=
 ziF b.ti _ (b.lf t ht).hb (by rw [hl];exact(b.lf t ht).fits)
theorem zhv (b:BkOk ws ws B) (O:Ort B) {t:Tn}(ht:t∈B) {s:Str}{bs us:List Tr}(e:zaX B s=none) (hw:Wy ws B (.nd s bs)) (hl:us.length=t.2.1.nb) (h:src B (.nd s bs)=t.2.1.fill us) :
  ∃vs, .nd s bs=t.2.1.fill vs∧vs.length=t.2.1.nb∧vs.map (src B)=us∧(∀x∈vs,Wy ws B x)∧wts vs≤(Tr.nd s bs).weight:=by
 obtain⟨s0,ls,e0,hin⟩:=O.inn t ht;have hm:t.2.1.mt (src B (.nd s bs))=some us:=by rw [h];exact O.mt t ht us hl
 have h1:(t.2.1.mt (.nd s bs)).isSome=true:=by
  have hm':=hm;rw [show src B (.nd s bs)= .nd s (bs.map (src B)) from zfQ e,e0,Tr.mt,List.length_map]at hm';rw [e0,Tr.mt];split at hm'
  ·rename_i hc;rw [if_pos hc];exact zlr b O ls bs hin hw.kids (by rw [hm'];rfl)
  ·cases hm'
 obtain⟨vs,hv⟩:=Option.isSome_iff_exists.mp h1;obtain⟨h2,h3⟩:=O.fm t ht _ _ hv;refine⟨vs,h2,h3,?_,zts _ _ _ hv hw,zkn _ _ _ hv⟩;rw [h2,show src B (t.2.1.fill vs)=_ from zlC b ht h3 _,O.mt t ht _ (by rw [List.length_map,h3])]at hm;exact Option.some.inj hm
theorem zgO{s:Str}{as:List Tr}:(Tr.nd s as).weight=1+wts as:=by rw [Tr.weight]
inductive PlB (P:Int→Prop):Pl→Prop
 |sign {b:Int}{h:Str}{ps:List Pl}:(∀p∈ps,PlB P p)→PlB P (.nd (-1) b h ps)
 |turn {k:Nat}{b:Int}{h:Str}{ps:List Pl}:P b→(∀p∈ps,PlB P p)→PlB P (.nd k b h ps)
noncomputable def zut (x:Int):Prop:=x=1∨x=2∨x=3
theorem zqB (b:BkOk ws ws B) (O:Ort B):∀(n:Nat) (x y:Tr),x.weight+y.weight≤n→Wy ws B x→Wy ws B y→src B x=src B y→ ∃p,PlOk ws B p∧PlB zut p∧p.ev B (byC 1)=x∧p.ev B (byC 2)=y
 |0,x,y,hn,hx,hy,e=>by
  rcases hx.cases b with⟨s,as,rfl,_⟩ |⟨t,as,_,rfl,_⟩<;>rw [zgO]at hn<;>omega
 |n+1,x,y,hn,hx,hy,e=>by
  have lists:∀(xs ys:List Tr),wts xs+wts ys≤n→(∀x∈xs,Wy ws B x)→(∀y∈ys,Wy ws B y)→xs.map (src B)=ys.map (src B)→ ∃ps:List Pl,(∀p∈ps,PlOk ws B p)∧(∀p∈ps,PlB zut p)∧ps.map (Pl.ev B (byC 1))=xs∧ps.map (Pl.ev B (byC 2))=ys:=by
   intro xs
   induction xs with
   |nil=>
    intro ys _ _ _ e;cases ys with
    |nil=>exact⟨[],by simp,by simp,rfl,rfl⟩
    |cons y ys=>cases e
   |cons x xs ih=>
    intro ys hw h1 h2 e;cases ys with
    |nil=>cases e
    |cons y ys=>
     rw [List.map_cons,List.map_cons,List.cons.injEq]at e;rw [wts,wts]at hw;obtain⟨p,hp,hq,e1,e2⟩:=zqB b O n x y (by omega) (h1 x (by simp)) (h2 y (by simp)) e.1;obtain⟨ps,hps,hqs,e3,e4⟩:=ih ys (by omega) (fun z hz=>h1 z (List.mem_cons_of_mem _ hz)) (fun z hz=>h2 z (List.mem_cons_of_mem _ hz)) e.2;exact⟨p::ps,fun q hq=>by
      rcases List.mem_cons.mp hq with rfl |hq
      ·exact hp
      ·exact hps q hq,fun q hz=>by
      rcases List.mem_cons.mp hz with rfl |hz
      ·exact hq
      ·exact hqs q hz,by rw [List.map_cons,e1,e3],by rw [List.map_cons,e2,e4]⟩
  rcases hx.cases b with⟨s,as,rfl,hs,es,ka⟩ |⟨t,as,ht,rfl,et,la,ka⟩
  ·rcases hy.cases b with⟨s',bs,rfl,hs',es',kb⟩ |⟨t,bs,ht,rfl,et,lb,kb⟩
   ·rw [show src B (.nd s as)=_ from zfQ es,show src B (.nd s' bs)=_ from zfQ es']at e;injection e with e1 e2;subst e1;rw [zgO,zgO]at hn;obtain⟨ps,hps,hqs,e3,e4⟩:=lists as bs (by omega) ka kb e2;exact⟨.nd (-1) 0 s ps, .sign hs hps, .sign hqs,by rw [zaU,e3],by rw [zaU,e4]⟩
   ·rw [show src B (.nd t.1 bs)=_ from zeY et]at e;obtain⟨vs,ev,lv,ms,kv,wv⟩:=zhv b O ht es hx (by rw [List.length_map,lb]) e;rw [zgO (s:=t.1)]at hn;obtain⟨ps,hps,hqs,e3,e4⟩:=lists vs bs (by omega) kv kb ms;obtain⟨k,hk⟩:=List.getElem?_of_mem ht;refine⟨.nd k 2 t.1 ps, .turn hk (by rw [←lb,←e4,List.length_map]) (by decide) (by decide) hps, .turn (by unfold zut;decide) hqs,?_,?_⟩
    ·rw [zaH hk,e3,ev,show byC 1 2=0 by decide];rfl
    ·rw [zaH hk,e4,show byC 2 2=1 by decide];rfl
  ·rcases hy.cases b with⟨s,bs,rfl,hs,es,kb⟩ |⟨u,bs,hu,rfl,eu,lb,kb⟩
   ·rw [show src B (.nd t.1 as)=_ from zeY et]at e;obtain⟨vs,ev,lv,ms,kv,wv⟩:=zhv b O ht es hy (by rw [List.length_map,la]) e.symm;rw [zgO (s:=t.1)]at hn;obtain⟨ps,hps,hqs,e3,e4⟩:=lists as vs (by omega) ka kv ms.symm;obtain⟨k,hk⟩:=List.getElem?_of_mem ht;refine⟨.nd k 1 t.1 ps, .turn hk (by rw [←la,←e3,List.length_map]) (by decide) (by decide) hps, .turn (by unfold zut;decide) hqs,?_,?_⟩
    ·rw [zaH hk,e3,show byC 1 1=1 by decide];rfl
    ·rw [zaH hk,e4,ev,show byC 2 1=0 by decide];rfl
   ·rw [show src B (.nd t.1 as)=_ from zeY et,show src B (.nd u.1 bs)=_ from zeY eu]at e;have m1:=O.mt t ht (as.map (src B)) (by rw [List.length_map,la]);have m2:=O.mt u hu (bs.map (src B)) (by rw [List.length_map,lb]);have:t=u:=O.one t ht u hu _ (by rw [m1];rfl) (by rw [show(t.2.1.fill (as.map (src B)))=_ from e,m2];rfl)
    subst this;have e2:as.map (src B)=bs.map (src B):=by
     rw [show(t.2.1.fill (as.map (src B)))=_ from e,m2]at m1;exact(Option.some.inj m1).symm
    rw [zgO,zgO]at hn;obtain⟨ps,hps,hqs,e3,e4⟩:=lists as bs (by omega) ka kb e2;obtain⟨k,hk⟩:=List.getElem?_of_mem ht;refine⟨.nd k 3 t.1 ps, .turn hk (by rw [←la,←e3,List.length_map]) (by decide) (by decide) hps, .turn (by unfold zut;decide) hqs,?_,?_⟩
    ·rw [zaH hk,e3,show byC 1 3=1 by decide];rfl
    ·rw [zaH hk,e4,show byC 2 3=1 by decide];rfl
end
theorem zoS:∀xs ys:List Tr,wts (xs++ys)=wts xs+wts ys
 | [],ys=>by rw [List.nil_append,wts,Nat.zero_add]
 |x::xs,ys=>by rw [List.cons_append,wts,wts,zoS xs ys,Nat.add_assoc]
mutual
theorem ziB:∀(L:Tr) (k m:Nat),L.ord k=some m→k≤m∧L.nb+k=m∧ ∀(us:List Tr),m≤us.length→(L.fill us).weight+(m - k)=L.weight+wts ((us.drop k).take (m - k))∧ ∀u∈(us.drop k).take (m - k),u.depth≤(L.fill us).depth
 | .bl n,k,m,h=>by
  rw [Tr.ord]at h;split at h
  ·rename_i hn;cases h;refine⟨by omega,by rw [Tr.nb];omega,fun us hu=>?_⟩
   have hk:k<us.length:=by omega
   have e:(us.drop k).take (k+1 - k)=[us[k]]:=by
    rw [show k+1 - k=1 by omega,List.drop_eq_getElem_cons hk]
    rfl
   have f:(Tr.bl n).fill us=us[k]:=by
    rw [Tr.fill,hn,Int.toNat_natCast,List.getD_eq_getElem?_getD,List.getElem?_eq_getElem hk];rfl
   rw [e,f];refine⟨?_,fun u hu=>?_⟩
   ·simp only[Tr.weight,wts];omega
   ·rw [List.mem_singleton]at hu;rw [hu];exact Nat.le_refl _
  ·cases h
 | .nd s ls,k,m,h=>by
  rw [Tr.ord]at h;obtain⟨h1,h2,h3⟩:=zfu ls k m h;refine⟨h1,by rw [Tr.nb];exact h2,fun us hu=>?_⟩
  obtain⟨h4,h5⟩:=h3 us hu;rw [Tr.fill,Tr.weight,Tr.weight,Tr.depth];exact⟨by omega,fun u hu'=>Nat.le_trans (h5 u hu') (by omega)⟩
theorem zfu:∀(ls:List Tr) (k m:Nat),znt k ls=some m→k≤m∧nbs ls+k=m∧ ∀(us:List Tr),m≤us.length→wts (fills us ls)+(m - k)=wts ls+wts ((us.drop k).take (m - k))∧ ∀u∈(us.drop k).take (m - k),u.depth≤dts (fills us ls)
 | [],k,m,h=>by
  rw [znt]at h;cases h;refine⟨Nat.le_refl _,by rw [nbs];omega,fun us _=>?_⟩
  rw [Nat.sub_self,List.take_zero,fills];exact⟨rfl,fun u hu=>by cases hu⟩
 |l::ls,k,m,h=>by
  rw [znt]at h;cases q:l.ord k with
  |none=>rw [q]at h;cases h
  |some j=>
   rw [q]at h;obtain⟨h1,h2,h3⟩:=ziB l k j q;obtain⟨g1,g2,g3⟩:=zfu ls j m h;refine⟨by omega,by rw [nbs];omega,fun us hu=>?_⟩
   obtain⟨h4,h5⟩:=h3 us (by omega);obtain⟨g4,g5⟩:=g3 us hu;have e:(us.drop k).take (m - k)=(us.drop k).take (j - k)++(us.drop j).take (m - j):=by
    rw [show m - k=(j - k)+(m - j) by omega,List.take_add,List.drop_drop,show k+(j - k)=j by omega]
   rw [e,zoS,fills,wts,wts,dts];refine⟨by omega,fun u hu=>?_⟩;rcases List.mem_append.mp hu with hu |hu
   ·have:=h5 u hu;omega
   ·have:=g5 u hu;omega
end
theorem zhb:∀(L:Tr),L.nb≤L.weight:=fun L=>by rw [←zuu];exact ztq L
theorem zpa:∀ls:List Tr,nbs ls≤wts ls
 | []=>by rw [nbs,wts];exact Nat.le_refl _
 |l::ls=>by rw [nbs,wts];have:=zhb l;have:=zpa ls;omega
section
variable {B:List Tn}
theorem Ort.fill (O:Ort B) {t:Tn}(ht:t∈B) {us:List Tr}(hl:us.length=t.2.1.nb):(t.2.1.fill us).weight+t.2.1.nb=t.2.1.weight+wts us∧1+wts us≤(t.2.1.fill us).weight∧1+dts us≤(t.2.1.fill us).depth:=by
 obtain⟨s,ls,e,_⟩:=O.inn t ht;have ho:=O.od t ht;obtain⟨_,h2,h3⟩:=ziB _ _ _ ho;obtain⟨h4,_⟩:=h3 us (by omega);rw [Nat.sub_zero,List.drop_zero,List.take_of_length_le (by omega)]at h4;have hw:1+t.2.1.nb≤t.2.1.weight:=by
  rw [e,Tr.nb,Tr.weight];have:=zpa ls;omega
 refine⟨h4,by omega,?_⟩
 rw [e]at ho hl⊢;rw [Tr.ord]at ho;obtain⟨_,_,g3⟩:=zfu _ _ _ ho;obtain⟨_,g5⟩:=g3 us (by omega);rw [Nat.sub_zero,List.drop_zero,List.take_of_length_le (by omega)]at g5;rw [Tr.fill,Tr.depth];have:=zkq g5;omega
mutual
noncomputable def Pl.pn:Pl→Nat
 | .nd k _ _ ps=>(if k<0 then 0 else 1)+pns ps
noncomputable def pns:List Pl→Nat
 | []=>0
 |p::ps=>max p.pn (pns ps)
end
theorem zgQ{p:Pl}:∀{ps:List Pl},p∈ps→p.pn≤pns ps
 |q::ps,h=>by
  rw [pns];rcases List.mem_cons.mp h with rfl |h
  ·omega
  ·have:=zgQ h;omega
noncomputable def zr:Int→Nat:=fun _=>0
theorem zlu{c:Int→Nat}{n:Nat}:∀(ps:List Pl),(∀p∈ps,(p.ev B c).weight≤2 ^ n*(p.ev B zr).weight)→wts (ps.map (Pl.ev B c))≤2 ^ n*wts (ps.map (Pl.ev B zr))
 | [],_=>by simp [wts]
 |p::ps,h=>by
  have h1:=h p List.mem_cons_self;have h2:=zlu ps fun q hq=>h q (List.mem_cons_of_mem _ hq);rw [List.map_cons,List.map_cons,wts,wts,Nat.mul_add];omega
theorem zhS{c:Int→Nat}(b:BkOk ws ws B) (O:Ort B) {p:Pl}(h:PlOk ws B p):(p.ev B c).weight≤2 ^ p.pn*(p.ev B zr).weight:=by
 induction h with
 | @sign b' h ps hh hp ih=>
  have hk:∀p∈ps,(p.ev B c).weight≤2 ^ pns ps*(p.ev B zr).weight:=fun p hp=>Nat.le_trans (ih p hp) (Nat.mul_le_mul_right _ (Nat.pow_le_pow_right (by decide) (zgQ hp)));have:=zlu ps hk;have hp1:=zeR (pns ps);rw [zaU,zaU,Tr.weight,Tr.weight,Pl.pn,if_pos (by decide),Nat.zero_add,Nat.mul_add,Nat.mul_one];omega
 | @turn k b' h ps t e hl b0 b1 hp ih=>
  have ht:t∈B:=List.mem_of_getElem? e;have hk:∀p∈ps,(p.ev B c).weight≤2 ^ pns ps*(p.ev B zr).weight:=fun p hp=>Nat.le_trans (ih p hp) (Nat.mul_le_mul_right _ (Nat.pow_le_pow_right (by decide) (zgQ hp)));have hs:=zlu ps hk;have hp1:=zeR (pns ps);have en:(Pl.nd k b' h ps).pn=1+pns ps:=by rw [Pl.pn,if_neg (by omega)]
  have l1:(ps.map (Pl.ev B c)).length=t.2.1.nb:=by rw [List.length_map,hl]
  have l0:(ps.map (Pl.ev B zr)).length=t.2.1.nb:=by rw [List.length_map,hl]
  obtain⟨f1,_,_⟩:=O.fill ht l1;obtain⟨f2,f3,_⟩:=O.fill ht l0;rw [zaH e,zaH e,en,show zr b'=0 from rfl];show(evT t (c b') _).weight≤2 ^ (1+pns ps)*(t.2.1.fill (ps.map (Pl.ev B zr))).weight;have hpow:2 ^ (1+pns ps)=2*2 ^ pns ps:=by rw [Nat.pow_add]
  have hm:2 ^ (1+pns ps)*(1+wts (ps.map (Pl.ev B zr)))=2*2 ^ pns ps+2*(2 ^ pns ps*wts (ps.map (Pl.ev B zr))):=by rw [hpow,Nat.mul_add,Nat.mul_one,Nat.mul_assoc]
  have hge:=Nat.mul_le_mul_left (2 ^ (1+pns ps)) f3;unfold evT;split
  ·have g1:2 ^ pns ps*(t.2.1.fill (ps.map (Pl.ev B zr))).weight≤2 ^ (1+pns ps)*(t.2.1.fill (ps.map (Pl.ev B zr))).weight:=Nat.mul_le_mul_right _ (Nat.pow_le_pow_right (by decide) (by omega));refine Nat.le_trans ?_ g1;have hc:(t.2.1.fill (ps.map (Pl.ev B zr))).weight=(t.2.1.weight - t.2.1.nb)+wts (ps.map (Pl.ev B zr)):=by
    have:=zhb t.2.1;omega
   have g2:t.2.1.weight - t.2.1.nb≤2 ^ pns ps*(t.2.1.weight - t.2.1.nb):=Nat.le_mul_of_pos_left _ hp1;rw [hc,Nat.mul_add];have:=zhb t.2.1;omega
  ·rw [Tr.weight];omega
  ·have hM:1≤2 ^ pns ps*(1+wts (ps.map (Pl.ev B zr))):=Nat.le_trans hp1 (Nat.le_mul_of_pos_right _ (by omega));cases hps:ps with
   |nil=>
    subst hps;have:=(zid (b.ri t ht) l1 (M:=1) (by decide) (fun u hu=>by simp at hu)).2 (by simpa using hl.symm)
    simp only[List.map_nil]at *;have:pns []=0:=by rw [pns]
    rw [this]at *;simp only[wts]at *;omega
   |cons q qs=>
    rw [←hps];have hw1:1≤wts (ps.map (Pl.ev B zr)):=by
     rw [hps,List.map_cons,wts];have:=zfW (q.ev B zr);omega
    have hX:1≤2 ^ pns ps*wts (ps.map (Pl.ev B zr)):=Nat.le_trans hp1 (Nat.le_mul_of_pos_right _ hw1);have:=(zid (b.ri t ht) l1 (M:=2 ^ pns ps*wts (ps.map (Pl.ev B zr))) hX fun u hu=>by
     obtain⟨p,hp,rfl⟩:=List.mem_map.mp hu;exact Nat.le_trans (hk p hp) (Nat.mul_le_mul_left _ (zdK (List.mem_map.mpr ⟨p,hp,rfl⟩)))).1
    omega
end
section
variable {ws:List Str}{B:List Tn}
theorem zkm{c:Int→Nat}(b:BkOk ws ws B) (O:Ort B) {p:Pl}(h:PlOk ws B p):(p.ev B c).depth≤(p.ev B zr).depth+3*p.pn:=by
 induction h with
 | @sign b' h ps hh hp ih=>
  rw [zaU,zaU,Tr.depth,Tr.depth,Pl.pn,if_pos (by decide)];have:dts (ps.map (Pl.ev B c))≤dts (ps.map (Pl.ev B zr))+3*pns ps:=zkq fun t ht=>by
   obtain⟨p,hp,rfl⟩:=List.mem_map.mp ht;have:=ih p hp;have:=zgQ hp;have:=zdt (List.mem_map.mpr ⟨p,hp,rfl⟩:p.ev B zr∈ps.map (Pl.ev B zr));omega
  omega
 | @turn k b' h ps t e hl b0 b1 hp ih=>
  have ht:t∈B:=List.mem_of_getElem? e;have l0:(ps.map (Pl.ev B zr)).length=t.2.1.nb:=by rw [List.length_map,hl]
  obtain⟨_,_,f3⟩:=O.fill ht l0;have hk:∀u∈ps.map (Pl.ev B c),u.depth≤dts (ps.map (Pl.ev B zr))+3*pns ps:=fun t ht=>by
   obtain⟨p,hp,rfl⟩:=List.mem_map.mp ht;have:=ih p hp;have:=zgQ hp;have:=zdt (List.mem_map.mpr ⟨p,hp,rfl⟩:p.ev B zr∈ps.map (Pl.ev B zr));omega
  have en:(Pl.nd k b' h ps).pn=1+pns ps:=by rw [Pl.pn,if_neg (by omega)]
  have fd:∀L:Tr,L.depth≤4→(L.fill (ps.map (Pl.ev B c))).depth≤4+dts (ps.map (Pl.ev B zr))+3*pns ps:=fun L hL=>by
   cases ps with
   |nil=>
    have:=zhg L;simp only[List.map_nil]at *;omega
   |cons q qs=>
    have h1:1≤(q.ev B zr).depth:=by
     have:=O.inn;cases q.ev B zr<;>simp [Tr.depth]
    have:=zhP (k:=dts ((q::qs).map (Pl.ev B zr))+3*pns (q::qs)) (by rw [List.map_cons,dts];omega) hk L;omega
  rw [zaH e,zaH e,en,show zr b'=0 from rfl];show(evT t (c b') _).depth≤(t.2.1.fill (ps.map (Pl.ev B zr))).depth+3*(1+pns ps);unfold evT;split
  ·have:=fd _ (b.lf t ht).dp;omega
  ·rw [Tr.depth];have:=zkq hk;omega
  ·have:=zdW (b.ri t ht);have:=fd t.2.2 (by omega);omega
mutual
noncomputable def Tr.ne (B:List Tn):Tr→Nat
 | .bl _=>0
 | .nd s ts=>(match zaX B s with
  |none=>0
  |some _=>1)+nes B ts
noncomputable def nes (B:List Tn):List Tr→Nat
 | []=>0
 |t::ts=>max (t.ne B) (nes B ts)
end
theorem zlA{t:Tr}:∀{ts:List Tr},t∈ts→t.ne B≤nes B ts
 |u::ts,h=>by
  rw [nes];rcases List.mem_cons.mp h with rfl |h
  ·omega
  ·have:=zlA h;omega
theorem zig{n:Nat}:∀{ts:List Tr},(∀t∈ts,t.ne B≤n)→nes B ts≤n
 | [],_=>by rw [nes];omega
 |t::ts,h=>by
  rw [nes];have:=h t (by simp);have:=zig fun u hu=>h u (List.mem_cons_of_mem _ hu);omega
mutual
theorem ziu (hB:∀t∈B,zdB t.1) {us:List Tr}:∀t:Tr,t.hb zea→(t.fill us).ne B≤nes B us
 | .bl n,_=>by
  rw [Tr.fill,List.getD_eq_getElem?_getD];cases e:us[n.toNat]? with
  |none=>simp [Tr.ne]
  |some u=>exact zlA (List.mem_of_getElem? e)
 | .nd s ts,h=>by
  rw [Tr.hb]at h;rw [Tr.fill,Tr.ne,zbp hB h.1];have:=zlX hB (us:=us) ts h.2;simpa using this
theorem zlX (hB:∀t∈B,zdB t.1) {us:List Tr}:∀ts:List Tr,hbs zea ts→nes B (fills us ts)≤nes B us
 | [],_=>by rw [fills,nes];omega
 |t::ts,h=>by
  rw [hbs]at h;rw [fills,nes];have:=ziu hB (us:=us) t h.1;have:=zlX hB (us:=us) ts h.2;omega
end
mutual
theorem zsj:∀(L:Tr) (k m:Nat),L.ord k=some m→ ∀(us:List Tr),m≤us.length→ ∀u∈(us.drop k).take (m - k),u.ne B≤(L.fill us).ne B
 | .bl n,k,m,h,us,hu,u,hm=>by
  rw [Tr.ord]at h;split at h
  ·rename_i hn;cases h;have hk:k<us.length:=by omega
   have e:(us.drop k).take (k+1 - k)=[us[k]]:=by
    rw [show k+1 - k=1 by omega,List.drop_eq_getElem_cons hk]
    rfl
   have f:(Tr.bl n).fill us=us[k]:=by
    rw [Tr.fill,hn,Int.toNat_natCast,List.getD_eq_getElem?_getD,List.getElem?_eq_getElem hk];rfl
   rw [e,List.mem_singleton]at hm;rw [f,hm];exact Nat.le_refl _
  ·cases h
 | .nd s ls,k,m,h,us,hu,u,hm=>by
  rw [Tr.ord]at h;have:=zpG ls k m h us hu u hm;rw [Tr.fill,Tr.ne];omega
theorem zpG:∀(ls:List Tr) (k m:Nat),znt k ls=some m→ ∀(us:List Tr),m≤us.length→ ∀u∈(us.drop k).take (m - k),u.ne B≤nes B (fills us ls)
 | [],k,m,h,us,hu,u,hm=>by
  rw [znt]at h;cases h;rw [Nat.sub_self,List.take_zero]at hm;cases hm
 |l::ls,k,m,h,us,hu,u,hm=>by
  rw [znt]at h;cases q:l.ord k with
  |none=>rw [q]at h;cases h
  |some j=>
   rw [q]at h;obtain⟨h1,_,_⟩:=ziB l k j q;obtain⟨g1,_,_⟩:=zfu ls j m h;have e:(us.drop k).take (m - k)=(us.drop k).take (j - k)++(us.drop j).take (m - j):=by
    rw [show m - k=(j - k)+(m - j) by omega,List.take_add,List.drop_drop,show k+(j - k)=j by omega]
   rw [e]at hm;rw [fills,nes];rcases List.mem_append.mp hm with hm |hm
   ·have:=zsj l k j q us (by omega) u hm;omega
   ·have:=zpG ls j m h us hu u hm;omega
end
theorem Ort.ne (O:Ort B) {t:Tn}(ht:t∈B) {us:List Tr}(hl:us.length=t.2.1.nb):nes B us≤(t.2.1.fill us).ne B:=zig fun u hu=>by
 refine zsj _ _ _ (O.od t ht) us (by omega) u ?_;rw [Nat.sub_zero,List.drop_zero,List.take_of_length_le (by omega)];exact hu
theorem zfS{c:Int→Nat}{p:Pl}{ps:List Pl}(hp:p∈ps):(p.ev B c).ne B≤nes B (ps.map (Pl.ev B c)):=zlA (List.mem_map.mpr ⟨p,hp,rfl⟩)
theorem zpA{n:Nat}:∀{ps:List Pl},(∀p∈ps,p.pn≤n)→pns ps≤n
 | [],_=>by rw [pns];omega
 |p::ps,h=>by
  rw [pns];have:=h p (by simp);have:=zpA fun u hu=>h u (List.mem_cons_of_mem _ hu);omega
theorem zxI{c d:Int→Nat}(b:BkOk ws ws B) (O:Ort B) (hc:One c) (hd:One d) {p:Pl}(h:PlOk ws B p) (hb:PlB (fun x=>c x=1∨d x=1) p):p.pn≤(p.ev B c).ne B+(p.ev B d).ne B:=by
 induction h with
 | @sign b' h ps hh hp ih=>
  have kids:∀p∈ps,PlB (fun x=>c x=1∨d x=1) p:=by
   cases hb with
   |sign h=>exact h
  have:pns ps≤nes B (ps.map (Pl.ev B c))+nes B (ps.map (Pl.ev B d)):=zpA fun p hp=>by
   have:=ih p hp (kids p hp);have:=zfS (B:=B) (c:=c) hp;have:=zfS (B:=B) (c:=d) hp;omega
  have e:=zbp b.ti (b.sg h hh);rw [zaU,zaU,Pl.pn,if_pos (by decide),Tr.ne,Tr.ne,e];simpa using this
 | @turn k b' h ps t e hl b0 b1 hp ih=>
  have ht:t∈B:=List.mem_of_getElem? e;obtain⟨hb1,kids⟩:(c b'=1∨d b'=1)∧ ∀p∈ps,PlB (fun x=>c x=1∨d x=1) p:=by
   cases hb with
   |turn h1 h2=>exact⟨h1,h2⟩
  have key:pns ps≤nes B (ps.map (Pl.ev B c))+nes B (ps.map (Pl.ev B d)):=zpA fun p hp=>by
   have:=ih p hp (kids p hp);have:=zfS (B:=B) (c:=c) hp;have:=zfS (B:=B) (c:=d) hp;omega
  have en:(Pl.nd k b' h ps).pn=1+pns ps:=by rw [Pl.pn,if_neg (by omega)]
  have low:∀c:Int→Nat,One c→nes B (ps.map (Pl.ev B c))+c b'≤(evT t (c b') (ps.map (Pl.ev B c))).ne B:=fun c hc=>by
   have l1:(ps.map (Pl.ev B c)).length=t.2.1.nb:=by rw [List.length_map,hl]
   have:=hc b' b0 b1;by_cases h1:c b'=1
   ·rw [h1];show _≤(Tr.nd t.1 _).ne B;rw [Tr.ne,zcC b.nd ht];show _≤1+_;omega
   ·rw [show c b'=0 by omega]
    exact O.ne ht l1
  rw [zaH e,zaH e,en];have:=low c hc;have:=low d hd;omega
theorem ztM{c d:Int→Nat}(b:BkOk ws ws B) (O:Ort B) (hc:One c) (hd:One d) {p:Pl}(h:PlOk ws B p):(p.ev B (zjQ c d)).ne B≤(p.ev B c).ne B:=by
 induction h with
 | @sign b' h ps hh hp ih=>
  have:nes B (ps.map (Pl.ev B (zjQ c d)))≤nes B (ps.map (Pl.ev B c)):=zig fun u hu=>by
   obtain⟨p,hp,rfl⟩:=List.mem_map.mp hu;exact Nat.le_trans (ih p hp) (zfS hp)
  have e:=zbp b.ti (b.sg h hh);rw [zaU,zaU,Tr.ne,Tr.ne,e];simpa using this
 | @turn k b' h ps t e hl b0 b1 hp ih=>
  have ht:t∈B:=List.mem_of_getElem? e;have key:nes B (ps.map (Pl.ev B (zjQ c d)))≤nes B (ps.map (Pl.ev B c)):=zig fun u hu=>by
   obtain⟨p,hp,rfl⟩:=List.mem_map.mp hu;exact Nat.le_trans (ih p hp) (zfS hp)
  have l1:(ps.map (Pl.ev B c)).length=t.2.1.nb:=by rw [List.length_map,hl]
  have low:nes B (ps.map (Pl.ev B c))+c b'≤(evT t (c b') (ps.map (Pl.ev B c))).ne B:=by
   have:=hc b' b0 b1;by_cases h1:c b'=1
   ·rw [h1];show _≤(Tr.nd t.1 _).ne B;rw [Tr.ne,zcC b.nd ht];show _≤1+_;omega
   ·rw [show c b'=0 by omega]
    exact O.ne ht l1
  rw [zaH e,zaH e];refine Nat.le_trans ?_ low;have hp:zjQ c d b'=if d b'=1 then 2 else c b':=rfl;rw [hp];by_cases dz:d b'=1
  ·rw [if_pos dz];have:=ziu b.ti (us:=ps.map (Pl.ev B (zjQ c d))) t.2.2 (zeq b.sg (b.ri t ht));show(t.2.2.fill _).ne B≤_;omega
  ·rw [if_neg dz];have:=hc b' b0 b1;by_cases h1:c b'=1
   ·rw [h1];show(Tr.nd t.1 _).ne B≤_;rw [Tr.ne,zcC b.nd ht];show 1+_≤_;omega
   ·rw [show c b'=0 by omega]
    have:=ziu b.ti (us:=ps.map (Pl.ev B (zjQ c d))) t.2.1 (b.lf t ht).hb;show(t.2.1.fill _).ne B≤_;omega
end
mutual
theorem Mv.one{B:List Tn}:∀{n m:Nat}{a b c d:Tr},Mv B n a b c→Mv B m a b d→c=d
 |_,_,_,_,_,_, .nn h1 h2 h3,g=>by
  cases g with
  |nn g1 g2 g3=>rw [Mvs.one h3 g3]
  |ns g1 g2 g3 g4 g5=>rw [h2]at g2;cases g2
  |sn g1 g2 g3 g4=>rw [h1]at g1;cases g1
  |ss g1 g2 g3 g4=>rw [h1]at g1;cases g1
 |_,_,_,_,_,_, .ns h1 h2 h3 h4 h5,g=>by
  cases g with
  |nn g1 g2 g3=>rw [h2]at g2;cases g2
  |ns g1 g2 g3 g4 g5=>
   rw [h2]at g2;cases g2;rw [h3]at g3;cases g3;rw [Mvs.one h5 g5]
  |sn g1 g2 g3 g4=>rw [h1]at g1;cases g1
  |ss g1 g2 g3 g4=>rw [h1]at g1;cases g1
 |_,_,_,_,_,_, .sn h1 h2 h3 h4,g=>by
  cases g with
  |nn g1 g2 g3=>rw [h1]at g1;cases g1
  |ns g1 g2 g3 g4 g5=>rw [h1]at g1;cases g1
  |sn g1 g2 g3 g4=>
   rw [h1]at g1;cases g1;rw [h3]at g3;cases g3;rw [Mvs.one h4 g4]
  |ss g1 g2 g3 g4=>rw [h2]at g2;cases g2
 |_,_,_,_,_,_, .ss h1 h2 h3 h4,g=>by
  cases g with
  |nn g1 g2 g3=>rw [h1]at g1;cases g1
  |ns g1 g2 g3 g4 g5=>rw [h1]at g1;cases g1
  |sn g1 g2 g3 g4=>rw [h2]at g2;cases g2
  |ss g1 g2 g3 g4=>
   rw [h2]at g2;cases g2;rw [Mvs.one h4 g4]
theorem Mvs.one{B:List Tn}:∀{n m:Nat}{a b c d:List Tr},Mvs B n a b c→Mvs B m a b d→c=d
 |_,_,_,_,_,_, .nil,g=>by
  cases g;rfl
 |_,_,_,_,_,_, .cons h1 h2,g=>by
  cases g with
  |cons g1 g2=>rw [Mv.one h1 g1,Mvs.one h2 g2]
end
open Classical in
noncomputable def res (B:List Tn) (x y:Tr):Tr:=if h:∃z n,Mv B n x y z then choose h else x
theorem Mv.res{B:List Tn}{n:Nat}{x y z:Tr}(h:Mv B n x y z):res B x y=z:=by
 unfold L2.res;have e:∃z n,Mv B n x y z:=⟨z,n,h⟩;rw [dif_pos e];obtain⟨m,h'⟩:=Classical.choose_spec e;exact Mv.one h' h
structure Bk2 (ws:List Str) (B:List Tn):Prop where
  b:BkOk ws ws B
  O:Ort B
  lw:∀t∈B,t.2.1.hb fun s=>s∈ws
theorem BookOk.bk2{w0 w1 w2 w3 w4 w5:Str}{tt:List Str}{B:List Tn}(b:BookOk w0 w1 w2 w3 w4 w5 tt B) (T:Titles tt) (G:Signs w0 w1 w2 w3 w4 w5):Bk2 [w0,w1,w2,w3,w4,w5] B:=by
 have k:=b.bk T G;refine⟨⟨k.ti,k.nd,k.sg,fun x hx=>hx,k.lf,k.ri⟩,b.ort G,fun t ht=>?_⟩;obtain⟨n,z |z⟩:=b.mem_lefts ht
 ·exact(zgt (P:=fun s=>s∈ [w0,w1,w2,w3,w4,w5]) (by simp) (by simp) (by simp) _ z).hb
 ·exact(zgt (P:=fun s=>s∈ [w0,w1,w2,w3,w4,w5]) (by simp) (by simp) (by simp) _ z).hb
section
variable {ws:List Str}{B:List Tn}{x y:Tr}{p:Pl}
theorem Bk2.wy (K:Bk2 ws B) {c:Int→Nat}{p:Pl}(h:PlOk ws B p):Wy ws B (p.ev B c):=by
 refine⟨?_,ztT _ (zrJ K.b h)⟩
 induction h with
 | @sign b' h ps hh hp ih=>
  rw [zaU,Tr.hd,hds_iff];refine⟨.inl hh,fun u hu=>?_⟩;obtain⟨p,hp,rfl⟩:=List.mem_map.mp hu;exact ih p hp
 | @turn k b' h ps t e hl b0 b1 hp ih=>
  have ht:t∈B:=List.mem_of_getElem? e;have hu:∀u∈ps.map (Pl.ev B c),u.hd fun s=>s∈ws∨ ∃t∈B,t.1=s:=fun u hu=>by
   obtain⟨p,hp,rfl⟩:=List.mem_map.mp hu;exact ih p hp
  rw [zaH e];unfold evT;split
  ·exact zhz hu _ (ziR (fun s hs=> .inl hs) _ (K.lw t ht)) (by rw [List.length_map,hl];exact(K.b.lf t ht).fits)
  ·rw [Tr.hd,hds_iff];exact⟨.inr ⟨t,ht,rfl⟩,hu⟩
  ·exact zhz hu _ (zeq (fun s hs=> .inl hs) (K.b.ri t ht)) (by rw [List.length_map,hl];exact zcx (K.b.ri t ht))
theorem zxd (x:Int) (h:zut x):byC 1 x=1∨byC 2 x=1:=by
 rcases h with rfl |rfl |rfl
 ·exact .inl (by decide)
 ·exact .inr (by decide)
 ·exact .inl (by decide)
theorem PlB.imp{P Q:Int→Prop}(h:∀x,P x→Q x) {p:Pl}(hp:PlB P p):PlB Q p:=by
 induction hp with
 |sign _ ih=>exact .sign ih
 |turn hb _ ih=>exact .turn (h _ hb) ih
theorem zrK (K:Bk2 ws B) (hx:Wy ws B x) (hy:Wy ws B y) (e:src B x=src B y):∃p,PlOk ws B p∧p.ev B (byC 1)=x∧p.ev B (byC 2)=y∧p.pn≤x.ne B+y.ne B∧p.ev B zr=src B x:=by
 obtain⟨p,hp,hb,e1,e2⟩:=zqB K.b K.O _ x y (Nat.le_refl _) hx hy e;refine⟨p,hp,e1,e2,?_,?_⟩
 ·have:=zxI K.b K.O (zif 1) (zif 2) hp (hb.imp zxd);rw [e1,e2]at this;exact this
 ·rw [←e1];show _=(p.ev B (byC 1)).mk B fun t=>t.2.1;rw [zeG K.b hp];exact zed hp fun b h0 h1=>((zif 1).src b h0 h1).symm
theorem Bk2.pk (K:Bk2 ws B) {p:Pl}(hp:PlOk ws B p) {n:Nat}(hn:p.pn≤n) (hw:2 ^ n*(p.ev B zr).weight≤400) (hd:(p.ev B zr).depth+3*n≤40):Pk ws ws B p:=by
 refine⟨K.b,K.O.mt,hp,fun {c}=>?_,fun {c}=>?_⟩
 ·have:=zkm (c:=c) K.b K.O hp;omega
 ·have h1:=zhS (c:=c) K.b K.O hp;have h2:2 ^ p.pn*(p.ev B zr).weight≤2 ^ n*(p.ev B zr).weight:=Nat.mul_le_mul_right _ (Nat.pow_le_pow_right (by decide) hn);omega
structure Two (ws:List Str) (B:List Tn) (x y:Tr):Prop where
  K:Bk2 ws B
  ex:∃p c d,Pk ws ws B p∧One c∧One d∧p.ev B c=x∧p.ev B d=y
theorem Two.symm (h:Two ws B x y):Two ws B y x:=by
 obtain⟨p,c,d,k,hc,hd,e1,e2⟩:=h.ex;exact⟨h.K,p,d,c,k,hd,hc,e2,e1⟩
theorem Pk.sr (k:Pk ws ws B p) {c:Int→Nat}(hc:One c):L2.src B (p.ev B c)=p.ev B zr:=by
 show(p.ev B c).mk B (fun t=>t.2.1)=_;rw [zeG k.b k.o];exact zed k.o hc.src
theorem Two.e (h:Two ws B x y):src B x=src B y:=by
 obtain⟨p,c,d,k,hc,hd,rfl,rfl⟩:=h.ex;rw [k.sr hc,k.sr hd]
structure Moved (ws:List Str) (B:List Tn) (x y z:Tr):Prop where
  wy:Wy ws B z
  sr:src B z=gol B y
  go:gol B z=gol B (res B y x)
  ne:z.ne B≤x.ne B
theorem Two.moved (h:Two ws B x y):Moved ws B x y (res B x y):=by
 obtain⟨p,c,d,k,hc,hd,rfl,rfl⟩:=h.ex;have m1:=(zhi (c:=c) (d:=d) k.b k.m (zfN hc hd) k.o).res;have m2:=(zhi (c:=d) (d:=c) k.b k.m (zfN hd hc) k.o).res;rw [m1];refine⟨h.K.wy k.o,?_,?_,ztM h.K.b h.K.O hc hd k.o⟩
 ·show(p.ev B (zjQ c d)).mk B (fun t=>t.2.1)=(p.ev B d).mk B fun t=>t.2.2;rw [zeG k.b k.o,zdq k.b k.o];refine zed k.o fun x h0 h1=>?_;have a:=hc x h0 h1;have b:=hd x h0 h1;unfold zeb zbH zjQ;generalize c x=m at a⊢;generalize d x=n at b⊢;obtain rfl |rfl:m=0∨m=1:=by omega
  all_goals obtain rfl |rfl:n=0∨n=1:=by omega
  all_goals rfl
 ·rw [m2];show(p.ev B (zjQ c d)).mk B (fun t=>t.2.2)=(p.ev B (zjQ d c)).mk B fun t=>t.2.2;rw [zdq k.b k.o,zdq k.b k.o];refine zed k.o fun x h0 h1=>?_;have a:=hc x h0 h1;have b:=hd x h0 h1;unfold zbH zjQ;generalize c x=m at a⊢;generalize d x=n at b⊢;obtain rfl |rfl:m=0∨m=1:=by omega
  all_goals obtain rfl |rfl:n=0∨n=1:=by omega
  all_goals rfl
end
section
variable {ws:List Str}{B:List Tn}{x y t:Tr}
structure Bd (t:Tr) (n:Nat):Prop where
  w:2 ^ n*t.weight≤400
  d:t.depth+3*n≤40
theorem Bd.mono{n m:Nat}(h:Bd t m) (hn:n≤m):Bd t n:=by
 have h1:=h.w;have h2:=h.d;have h3:2 ^ n*t.weight≤2 ^ m*t.weight:=Nat.mul_le_mul_right _ (Nat.pow_le_pow_right (by decide) hn);exact⟨by omega,by omega⟩
theorem zxJ (b:BkOk ws ws B) {p:Pl}(h:PlOk ws B p):(p.ev B zr).ne B=0:=by
 induction h with
 | @sign b' h ps hh hp ih=>
  have:nes B (ps.map (Pl.ev B zr))≤0:=zig fun u hu=>by
   obtain⟨p,hp,rfl⟩:=List.mem_map.mp hu;rw [ih p hp];exact Nat.le_refl _
  have e:=zbp b.ti (b.sg h hh);rw [zaU,Tr.ne,e];show 0+_=0;omega
 | @turn k b' h ps t e hl b0 b1 hp ih=>
  have ht:t∈B:=List.mem_of_getElem? e;have:nes B (ps.map (Pl.ev B zr))≤0:=zig fun u hu=>by
   obtain⟨p,hp,rfl⟩:=List.mem_map.mp hu;rw [ih p hp];exact Nat.le_refl _
  have:=ziu b.ti (us:=ps.map (Pl.ev B zr)) t.2.1 (b.lf t ht).hb;rw [zaH e];show(t.2.1.fill _).ne B=0;omega
theorem zzm:∀x:Int,0≤x→x<8→zr x=byC 8 x:=fun x h0 h8=>(zrE x h0 h8).symm
theorem Bk2.src (K:Bk2 ws B) (h:Wy ws B x):Wy ws B (src B x)∧L2.src B (src B x)=L2.src B x∧(L2.src B x).ne B=0∧gol B (L2.src B x)=L2.src B x:=by
 obtain⟨p,hp,_,rfl,_⟩:=zqB K.b K.O _ x x (Nat.le_refl _) h h rfl;have e:L2.src B (p.ev B (byC 1))=p.ev B zr:=by
  show(p.ev B (byC 1)).mk B (fun t=>t.2.1)=_;rw [zeG K.b hp];exact zed hp (zif 1).src
 rw [e];refine⟨K.wy hp,?_,zxJ K.b hp,?_⟩
 ·show(p.ev B zr).mk B (fun t=>t.2.1)=_;rw [zeG K.b hp];rfl
 ·show(p.ev B zr).mk B (fun t=>t.2.2)=_;rw [zdq K.b hp];rfl
theorem Bk2.two (K:Bk2 ws B) (hx:Wy ws B x) (hy:Wy ws B y) (ex:L2.src B x=t) (ey:L2.src B y=t) (h:Bd t (x.ne B+y.ne B)):Two ws B x y:=by
 obtain⟨p,hp,e1,e2,hn,hs⟩:=zrK K hx hy (ex.trans ey.symm);exact⟨K,p,byC 1,byC 2,K.pk hp hn (by rw [hs,ex];exact h.w) (by rw [hs,ex];exact h.d),zif 1,zif 2,e1,e2⟩
theorem Bk2.ow (K:Bk2 ws B) (hx:Wy ws B x) (ex:L2.src B x=t) (h:Bd t (x.ne B)):Two ws B x t:=by
 obtain⟨h1,h2,h3,_⟩:=K.src hx;rw [ex]at h1 h2 h3;exact K.two hx h1 ex h2 (by rw [h3];exact h)
theorem Bk2.goal (K:Bk2 ws B) (hx:Wy ws B x) (ex:L2.src B x=t) {n:Nat}(h:Bd t (x.ne B+n)):Bd (gol B x) n:=by
 have sx:=K.src hx;obtain⟨p,hp,e1,e2,hn,hs⟩:=zrK K hx sx.1 sx.2.1.symm;rw [sx.2.2.1,Nat.add_zero]at hn;have e:gol B x=p.ev B (zbH (byC 1)):=by
  rw [←e1];exact zdq K.b hp
 have h1:=zhS (c:=zbH (byC 1)) K.b K.O hp;have h2:=zkm (c:=zbH (byC 1)) K.b K.O hp;rw [hs,ex]at h1 h2;have hw:=h.w;have hd:=h.d;rw [e];refine⟨?_,by omega⟩
 have h3:2 ^ p.pn*t.weight≤2 ^ x.ne B*t.weight:=Nat.mul_le_mul_right _ (Nat.pow_le_pow_right (by decide) hn);have h4:2 ^ n*(p.ev B (zbH (byC 1))).weight≤2 ^ n*(2 ^ x.ne B*t.weight):=Nat.mul_le_mul_left _ (Nat.le_trans h1 h3);rw [←Nat.mul_assoc,←Nat.pow_add,Nat.add_comm n]at h4;omega
theorem Bk2.gol (K:Bk2 ws B) (h:Wy ws B x):Wy ws B (gol B x)∧L2.src B (L2.gol B x)=L2.gol B x∧(L2.gol B x).ne B=0∧L2.gol B (L2.gol B x)=L2.gol B x:=by
 obtain⟨p,hp,_,rfl,_⟩:=zqB K.b K.O _ x x (Nat.le_refl _) h h rfl;have e:L2.gol B (p.ev B (byC 1))=p.ev B (zbH (byC 1)):=zdq K.b hp;have tg:∀x,zbH (byC 1) x≠1:=fun x=>by unfold zbH;split<;>omega
 have s:L2.src B (p.ev B (zbH (byC 1)))=p.ev B (zbH (byC 1)):=by
  show(p.ev B (zbH (byC 1))).mk B (fun t=>t.2.1)=_;rw [zeG K.b hp];exact zed hp fun b _ _=>by rw [zeb,if_neg (tg b)]
 have w:Wy ws B (p.ev B (zbH (byC 1))):=K.wy hp;rw [e];refine⟨w,s,?_,?_⟩
 ·have:=(K.src w).2.2.1;rwa [s]at this
 ·have:=(K.src w).2.2.2;rwa [s]at this
end
section
variable {ws:List Str}{B:List Tn}{x y:Tr}{S:Sto}{a:Addr}{r:Nat}{Q:WK}{E:Str→Sto→Prop}
theorem Two.ok_move (h:Two ws B x y) (ha:S a=some (.lst (B.map zbe))) (hr:60≤r) (q:Q (enc (res B x y)) S):zca (r+1) [.ref a,enc x,enc y] S Q E:=by
 obtain⟨p,c,d,k,hc,hd,rfl,rfl⟩:=h.ex;have m:=(zhi (c:=c) (d:=d) k.b k.m (zfN hc hd) k.o).res;rw [m]at q;exact k.ok_move (zfN hc hd) ha hr q
theorem Two.ok_behind (h:Two ws B x y) (ha:S a=some (.lst (B.map zbe))) (hr:70≤r) (q:Q (enc (res B x y)) S):zdg (r+2) [.ref a,enc x,enc y] S Q E:=by
 obtain⟨p,c,d,k,hc,hd,rfl,rfl⟩:=h.ex;have m:=(zhi (c:=c) (d:=d) k.b k.m (zfN hc hd) k.o).res;rw [m]at q;exact k.ok_behind (zfN hc hd) ha hr q
theorem Two.ok_goal (h:Two ws B x y) (ha:S a=some (.lst (B.map zbe))) (hr:60≤r) (q:Q (enc (L2.gol B x)) S):zfj (r+1) [.ref a,enc x] S Q E:=by
 obtain⟨p,c,d,k,hc,hd,rfl,rfl⟩:=h.ex;rw [show L2.gol B (p.ev B c)=_ from zdq k.b k.o]at q;exact k.ok_goal ha hr q
theorem Two.ok_made1 (h:Two ws B x y) (ha:S a=some (.lst (B.map zbe))) (hr:60≤r) (q:Q (enc (L2.src B x)) S):zaC (r+1) [.ref a,enc x, .int 1] S Q E:=by
 obtain⟨p,c,d,k,hc,hd,rfl,rfl⟩:=h.ex;rw [show L2.src B (p.ev B c)=_ from zeG k.b k.o]at q;exact k.ok_made1 ha hr q
theorem Two.ok_made2 (h:Two ws B x y) (ha:S a=some (.lst (B.map zbe))) (hr:60≤r) (q:Q (enc (L2.gol B x)) S):zaC (r+1) [.ref a,enc x, .int 2] S Q E:=by
 obtain⟨p,c,d,k,hc,hd,rfl,rfl⟩:=h.ex;rw [show L2.gol B (p.ev B c)=_ from zdq k.b k.o]at q;exact k.ok_made2 ha hr q
end
noncomputable def zkF (B:List Tn):Tr→List Tr→Tr
 |t,[]=>t
 |_,x::xs=>zkF B (gol B x) xs
noncomputable def Roa (ws:List Str) (B:List Tn):Tr→List Tr→Prop
 |_,[]=>True
 |t,x::xs=>Wy ws B x∧src B x=t∧Roa ws B (gol B x) xs
noncomputable def nR (B:List Tn):List Tr→Nat
 | []=>0
 |x::xs=>x.ne B+nR B xs
noncomputable def zcX (B:List Tn):Tr→List Tr→List Tr
 |x,[]=>[x]
 |x,o::os=>x::zcX B (res B x o) os
noncomputable def zhu (B:List Tn):Tr→List Tr→List Tr
 |_,[]=>[]
 |x,o::os=>res B o x::zhu B (res B x o) os
noncomputable def zkP (B:List Tn):Tr→List Tr→Tr
 |x,[]=>x
 |x,o::os=>zkP B (res B x o) os
noncomputable def zeC (B:List Tn):List Tr→List Tr→List (List Tr)
 | [],_=>[]
 |x::xs,os=>zcX B x os::zeC B xs (zhu B x os)
noncomputable def zec (B:List Tn):List Tr→List Tr→List (List Tr)
 | [],os=>[os]
 |x::xs,os=>os::zec B xs (zhu B x os)
noncomputable def zyE (B:List Tn):List Tr→List Tr→List Tr
 | [],_=>[]
 |x::xs,os=>zkP B x os::zyE B xs (zhu B x os)
noncomputable def zym (B:List Tn):List Tr→List Tr→List Tr
 | [],os=>os
 |x::xs,os=>zym B xs (zhu B x os)
section
variable {ws:List Str}{B:List Tn}
theorem ziw:∀(os:List Tr) (x:Tr),(zcX B x os).length=os.length+1
 | [],x=>rfl
 |o::os,x=>by rw [zcX,List.length_cons,ziw os];rfl
theorem zhl:∀(os:List Tr) (x:Tr),(zhu B x os).length=os.length
 | [],x=>rfl
 |o::os,x=>by rw [zhu,List.length_cons,zhl os];rfl
theorem zjm (os:List Tr) (x:Tr):∃l,zcX B x os=x::l:=by
 cases os with
 |nil=>exact⟨[],rfl⟩
 |cons o os=>exact⟨_,rfl⟩
structure RowOk (ws:List Str) (B:List Tn) (t x:Tr) (os:List Tr):Prop where
  row:Roa ws B (gol B x) (zhu B x os)
  nr:nR B (zhu B x os)≤nR B os
  wy:Wy ws B (zkP B x os)
  sr:src B (zkP B x os)=zkF B t os
  ne:(zkP B x os).ne B≤x.ne B
  go:zkF B (gol B x) (zhu B x os)=gol B (zkP B x os)
theorem zpc (K:Bk2 ws B):∀(os:List Tr) {x t:Tr},Wy ws B x→src B x=t→Roa ws B t os→Bd t (x.ne B+nR B os)→RowOk ws B t x os
 | [],x,t,hx,ex,_,_=>⟨trivial,Nat.le_refl _,hx,ex,Nat.le_refl _,rfl⟩
 |o::os,x,t,hx,ex,⟨ho,eo,hr⟩,hb=>by
  rw [nR]at hb;have h2:Two ws B x o:=K.two hx ho ex eo (hb.mono (by omega));have m:=h2.moved;have m':=h2.symm.moved;have b1:Bd (gol B o) (x.ne B+nR B os):=K.goal ho eo (hb.mono (by omega));have ih:=zpc K os m.wy m.sr hr (b1.mono (by have:=m.ne;omega));refine⟨?_,?_,ih.wy,ih.sr,Nat.le_trans ih.ne m.ne,?_⟩
  ·rw [zhu];refine⟨m'.wy,m'.sr,?_⟩;rw [m'.go];exact ih.row
  ·rw [zhu,nR,nR];have:=m'.ne;have:=ih.nr;omega
  ·rw [zhu,zkF,zkP,m'.go];exact ih.go
theorem Roa.end_wy (K:Bk2 ws B):∀(xs:List Tr) {t:Tr},Roa ws B t xs→Wy ws B t→src B t=t→Wy ws B (zkF B t xs)∧src B (zkF B t xs)=zkF B t xs
 | [],t,_,h,e=>⟨h,e⟩
 |x::xs,t,⟨hx,ex,hr⟩,_,_=>Roa.end_wy K xs hr (K.gol hx).1 (K.gol hx).2.1
theorem Roa.end_bd (K:Bk2 ws B):∀(xs:List Tr) {t:Tr}{n:Nat},Roa ws B t xs→Bd t (nR B xs+n)→Bd (zkF B t xs) n
 | [],t,n,_,h=>by rw [nR,Nat.zero_add]at h;exact h
 |x::xs,t,n,⟨hx,ex,hr⟩,h=>by
  rw [nR]at h;exact Roa.end_bd K xs hr (K.goal hx ex (h.mono (by omega)))
inductive RowC (ws:List Str) (B:List Tn):Tr→List Tr→Prop
 |nil {x:Tr}:RowC ws B x []
 |cons {x o:Tr}{os:List Tr}:Two ws B x o→(∃y,Two ws B (res B x o) y)→RowC ws B (res B x o) os→RowC ws B x (o::os)
inductive Cells (ws:List Str) (B:List Tn):List Tr→List Tr→Prop
 |nil {os:List Tr}:Cells ws B [] os
 |cons {x:Tr}{xs os:List Tr}:RowC ws B x os→Cells ws B xs (zhu B x os)→Cells ws B (x::xs) os
theorem zkD (K:Bk2 ws B):∀(os:List Tr) {x t:Tr},Wy ws B x→src B x=t→Roa ws B t os→Bd t (x.ne B+nR B os)→RowC ws B x os
 | [],x,t,_,_,_,_=> .nil
 |o::os,x,t,hx,ex,⟨ho,eo,hr⟩,hb=>by
  rw [nR]at hb;have h2:Two ws B x o:=K.two hx ho ex eo (hb.mono (by omega));have m:=h2.moved;have b1:Bd (gol B o) (x.ne B+nR B os):=K.goal ho eo (hb.mono (by omega));have b2:Bd (gol B o) ((res B x o).ne B+nR B os):=b1.mono (by have:=m.ne;omega);exact .cons h2 ⟨_,K.ow m.wy m.sr (b2.mono (by omega))⟩ (zkD K os m.wy m.sr hr b2)
theorem zmX (K:Bk2 ws B):∀(xs os:List Tr) {t:Tr},Roa ws B t xs→Roa ws B t os→Bd t (nR B xs+nR B os)→Cells ws B xs os
 | [],os,t,_,_,_=> .nil
 |x::xs,os,t,⟨hx,ex,hr⟩,ho,hb=>by
  rw [nR]at hb;have r:=zpc K os hx ex ho (hb.mono (by omega));have b1:Bd (gol B x) (nR B xs+nR B os):=K.goal hx ex (hb.mono (by omega));exact .cons (zkD K os hx ex ho (hb.mono (by omega))) (zmX K xs _ hr r.row (b1.mono (by have:=r.nr;omega)))
end
theorem zfO{α β:Type}{R:α→β→Prop}:∀{xs:List α}{ys:List β}{xs':List α}{ys':List β},Paired R xs ys→Paired R xs' ys'→Paired R (xs++xs') (ys++ys')
 |_,_,_,_, .nil,h=>h
 |_,_,_,_, .cons h1 h2,h=> .cons h1 (zfO h2 h)
theorem zaE{α β:Type}{R R':α→β→Prop}(f:∀x y,R x y→R' x y):∀{xs:List α}{ys:List β},Paired R xs ys→Paired R' xs ys
 |_,_, .nil=> .nil
 |_,_, .cons h1 h2=> .cons (f _ _ h1) (zaE f h2)
mutual
theorem zuU:∀(L t:Tr) (ms:List Tr) (p:List Int),L.mt t=some ms→Paired (fun(x:List Int×Tr) m=>∃e,x.1=p++e∧t.at e=some m) ((L.plt p).filter fun x=>x.2.isBl) ms
 | .bl n,t,ms,p,e=>by
  rw [Tr.mt]at e;cases e;rw [Tr.plt];exact .cons ⟨[],by simp,by rw [Tr.at]⟩ .nil
 | .nd s ls, .bl n,ms,p,e=>by rw [Tr.mt]at e;cases e
 | .nd s ls, .nd z us,ms,p,e=>by
  rw [Tr.mt]at e;split at e
  ·rename_i hc;rw [Bool.and_eq_true,beq_iff_eq,beq_iff_eq]at hc;rw [Tr.plt,List.filter_cons_of_neg (by simp [Tr.isBl])];refine zaE ?_ (zse ls us ms p 0 hc.2 e);rintro x m ⟨j,e,u,h1,h2,h3⟩;refine⟨(j:Int)::e,by rw [h1,Nat.zero_add],?_⟩
   rw [Tr.at,if_neg (by omega),Int.toNat_natCast,h2];exact h3
  ·cases e
theorem zse:∀(ls us ms:List Tr) (p:List Int) (i:Nat),ls.length=us.length→mts ls us=some ms→Paired (fun(x:List Int×Tr) m=>∃(j:Nat) (e:List Int) (u:Tr),x.1=p++((i+j:Nat):Int)::e∧us[j]? =some u∧u.at e=some m) ((zhZ p i ls).filter fun x=>x.2.isBl) ms
 | [],us,ms,p,i,hl,e=>by
  rw [mts]at e;cases e;rw [zhZ];exact .nil
 |l::ls,[],ms,p,i,hl,e=>by cases hl
 |l::ls,u::us,ms,p,i,hl,e=>by
  rw [mts]at e;cases q1:l.mt u with
  |none=>rw [q1]at e;cases e
  |some xs=>
   rw [q1]at e;cases q2:mts ls us with
   |none=>rw [q2]at e;cases e
   |some zs=>
    rw [q2]at e;cases e;rw [zhZ,List.filter_append];refine zfO (zaE ?_ (zuU l u xs _ q1)) (zaE ?_ (zse ls us zs p (i+1) (by simpa using hl) q2))
    ·rintro x m ⟨e,h1,h2⟩;exact⟨0,e,u,by rw [h1];simp,rfl,h2⟩
    ·rintro x m ⟨j,e,v,h1,h2,h3⟩;exact⟨j+1,e,v,by rw [h1,show i+1+j=i+(j+1) by omega],by rw [List.getElem?_cons_succ];exact h2,h3⟩
end
theorem zwy{L t:Tr}{ms:List Tr}(h:L.mt t=some ms):Paired (fun q m=>t.at q=some m) (L.bls.map fun x=>x.1) ms:=by
 have:=zuU L t ms [] h;clear h;unfold Tr.bls;generalize (L.plt []).filter (fun x=>x.2.isBl)=xs at this⊢
 induction this with
 |nil=>exact .nil
 |cons h1 h2 ih=>
  obtain⟨e,h3,h4⟩:=h1;rw [List.map_cons];rw [List.nil_append]at h3;exact .cons (by rw [h3];exact h4) ih
noncomputable def cnt (wn:List (List Int)) (p:List Int):Nat:=wn.countP fun q=>p.isPrefixOf q
theorem zpS (wn:List (List Int)) (p q:List Int):cnt wn (p++q)≤cnt wn p:=by
 unfold cnt;refine List.countP_mono_left fun x _ h=>?_;obtain⟨e,rfl⟩:=List.isPrefixOf_iff_prefix.mp h;exact List.isPrefixOf_iff_prefix.mpr ⟨q++e,by simp⟩
theorem zrO:∀(wn:List (List Int)) (p:List Int) (i:Int) (q:List Int),p∈wn→cnt wn (p++i::q)+1≤cnt wn p
 |w::wn,p,i,q,h=>by
  unfold cnt;rw [List.countP_cons,List.countP_cons];have hs:=zpS wn p (i::q);unfold cnt at hs;rcases List.mem_cons.mp h with rfl |h
  ·have h1:(p++i::q).isPrefixOf p=false:=by
    rw [Bool.eq_false_iff];intro z;obtain⟨e,z⟩:=List.isPrefixOf_iff_prefix.mp z;have:=congrArg List.length z;simp at this
   have h2:p.isPrefixOf p=true:=List.isPrefixOf_iff_prefix.mpr ⟨[],by simp⟩
   rw [h1,h2];simp;omega
  ·have ih:=zrO wn p i q h;unfold cnt at ih;have h3:(p++i::q).isPrefixOf w=true→p.isPrefixOf w=true:=fun z=>by
    obtain⟨e,rfl⟩:=List.isPrefixOf_iff_prefix.mp z;exact List.isPrefixOf_iff_prefix.mpr ⟨i::q++e,by simp⟩
   by_cases z:(p++i::q).isPrefixOf w=true
   ·rw [if_pos z,if_pos (h3 z)];omega
   ·rw [if_neg z];omega
theorem zkI{B:List Tn}:∀{ts:List Tr},(∀t∈ts,t.ar B)→ars B ts
 | [],_=>by rw [ars];trivial
 |t::ts,h=>by rw [ars];exact⟨h t (by simp),zkI fun u hu=>h u (List.mem_cons_of_mem _ hu)⟩
structure Sh (ws:List Str) (B:List Tn) (t:Tr):Prop where
  wy:Wy ws B t
  q:src B t=t
section
variable {ws:List Str}{B:List Tn}
theorem Sh.cases (K:Bk2 ws B) {t:Tr}(h:Sh ws B t):∃s ts,t= .nd s ts∧s∈ws∧zaX B s=none∧ ∀x∈ts,Sh ws B x:=by
 rcases h.wy.cases K.b with⟨s,ts,rfl,hs,e,k⟩ |⟨u,ts,hu,rfl,e,hl,k⟩
 ·have q:=h.q;rw [show src B (.nd s ts)=_ from zfQ e]at q;injection q with _ q;refine⟨s,ts,rfl,hs,e,fun x hx=>⟨k x hx,?_⟩⟩;obtain⟨i,hi,rfl⟩:=List.getElem_of_mem hx;have:=congrArg (fun l=>l[i]?) q;simp only[List.getElem?_map,List.getElem?_eq_getElem hi]at this;exact Option.some.inj this
 ·have q:=h.q;rw [show src B (.nd u.1 ts)=_ from zeY e]at q;obtain⟨s0,l0,e0,_⟩:=K.O.inn u hu;have hb:=(K.b.lf u hu).hb;rw [e0,Tr.hb]at hb;rw [e0,Tr.fill]at q;injection q with q _;exact absurd q (zes hb.1 (K.b.ti u hu))
theorem Sh.parts (K:Bk2 ws B) {t:Tr}(h:Sh ws B t) {u:Tn}(hu:u∈B) {ms:List Tr}(e:u.2.1.mt t=some ms):t=u.2.1.fill ms∧ms.length=u.2.1.nb∧ ∀x∈ms,Sh ws B x:=by
 obtain⟨h1,h2⟩:=K.O.fm u hu _ _ e;refine⟨h1,h2,fun x hx=>⟨zts _ _ _ e h.wy x hx,?_⟩⟩;have q:=h.q;rw [h1,show src B (u.2.1.fill ms)=_ from zlC K.b hu h2 _]at q;have m1:=K.O.mt u hu ms h2;have m2:=K.O.mt u hu (ms.map (src B)) (by rw [List.length_map,h2]);rw [show u.2.1.fill (ms.map (src B))=_ from q,m1]at m2;have q:=Option.some.inj m2;obtain⟨i,hi,rfl⟩:=List.getElem_of_mem hx;have:=congrArg (fun l=>l[i]?) q;simp only[List.getElem?_map,List.getElem?_eq_getElem hi]at this;exact(Option.some.inj this).symm
noncomputable def zuq (B:List Tn) (wn:List (List Int)) (p:List Int) (t:Tr):Prop:=∀q∈wn,∀e v,q=p++e→t.at e=some v→(zft B v).isSome=true
theorem zvq{s:Str}{ts:List Tr}{i:Nat}{u:Tr}(h:ts[i]? =some u) (e:List Int):(Tr.nd s ts).at ((i:Int)::e)=u.at e:=by
 rw [Tr.at,if_neg (by omega),Int.toNat_natCast,h]
theorem zoU{wn:List (List Int)}{n:Nat}{p:List Int}{c:Nat}(ih:∀(t:Tr) (p:List Int),t.depth≤n→Sh ws B t→zuq B wn p t→ ∃u,Wi B wn n p t u∧src B u=t∧Wy ws B u∧u.ne B≤cnt wn p) :
  ∀{qs:List (List Int)}{ts:List Tr},Paired (fun q t=>t.depth≤n∧Sh ws B t∧zuq B wn (p++q) t∧cnt wn (p++q)≤c) qs ts→ ∃us,Wis B wn n p qs ts us∧us.map (src B)=ts∧(∀u∈us,Wy ws B u)∧nes B us≤c
 |_,_, .nil=>⟨[], .nil,rfl,by simp,by rw [nes];omega⟩
 |_,_, .cons ⟨h1,h2,h3,h4⟩ h=>by
  obtain⟨u,w,e,y,k⟩:=ih _ _ h1 h2 h3;obtain⟨us,ws',es,ys,ks⟩:=zoU ih h;refine⟨u::us, .cons w ws',by rw [List.map_cons,e,es],fun v hv=>?_,by rw [nes];omega⟩
  rcases List.mem_cons.mp hv with rfl |hv
  ·exact y
  ·exact ys v hv
theorem zsC (K:Bk2 ws B) {wn:List (List Int)}:∀(n:Nat) (t:Tr) (p:List Int),t.depth≤n→Sh ws B t→zuq B wn p t→ ∃u,Wi B wn n p t u∧src B u=t∧Wy ws B u∧u.ne B≤cnt wn p
 |0,t,p,hd,h,_=>by
  obtain⟨s,ts,rfl,_⟩:=h.cases K;rw [Tr.depth]at hd;omega
 |n+1,t,p,hd,h,hw=>by
  obtain⟨s,ts,rfl,hs,e,k⟩:=h.cases K;rw [Tr.depth]at hd;by_cases hp:p∈wn
  ·have ho:=hw p hp [] (.nd s ts) (by simp) (by rw [Tr.at]);obtain⟨u,ho⟩:=Option.isSome_iff_exists.mp ho;have hu:u∈B:=List.mem_of_find?_eq_some ho;have hm:(u.2.1.mt (.nd s ts)).isSome=true:=by simpa using List.find?_some ho
   obtain⟨ms,hm⟩:=Option.isSome_iff_exists.mp hm;obtain⟨f1,f2,f3⟩:=h.parts K hu hm;have ba:=zwy hm;have hdm:∀y∈ms,y.depth≤n:=fun y hy=>by
    obtain⟨s0,l0,e0,_⟩:=K.O.inn u hu;rw [e0,Tr.mt]at hm;split at hm
    ·have:=zlS _ _ _ hm y hy;omega
    ·cases hm
   have hne:∀q∈u.2.1.bls.map (fun x=>x.1),∃i e,q=i::e:=fun q hq=>by
    obtain⟨z,hz,rfl⟩:=List.mem_map.mp hq;obtain⟨h1,h2,_⟩:=zow hz;cases hq:z.1 with
    |nil=>
     rw [hq,Tr.at]at h1;have h3:u.2.1=z.2:=Option.some.inj h1;obtain⟨s0,l0,e0,_⟩:=K.O.inn u hu;rw [←h3,e0]at h2;cases h2
    |cons i is=>exact⟨i,is,rfl⟩
   have pr:∀{qs:List (List Int)}{xs:List Tr},(∀q∈qs,∃i e,q=i::e)→(∀x∈xs,x.depth≤n∧Sh ws B x)→Paired (fun q m=>(Tr.nd s ts).at q=some m) qs xs→Paired (fun q t=>t.depth≤n∧Sh ws B t∧zuq B wn (p++q) t∧cnt wn (p++q)≤cnt wn p - 1) qs xs:=by
    intro qs xs h1 h2 h3
    induction h3 with
    |nil=>exact .nil
    | @cons q m qs xs h4 _ ih=>
     obtain⟨i,e,rfl⟩:=h1 q (by simp);obtain⟨g1,g2⟩:=h2 m (by simp);refine .cons ⟨g1,g2,fun q' hq' e' v' h5 h6=>hw q' hq' (i::e++e') v' (by rw [h5];simp) (by rw [zso _ e' h4];exact h6),?_⟩ (ih (fun q hq=>h1 q (List.mem_cons_of_mem _ hq)) fun x hx=>h2 x (List.mem_cons_of_mem _ hx));have:=zrO wn p i e hp;omega
   obtain⟨us,wi,es,ys,ks⟩:=zoU (zsC K n) (pr hne (fun x hx=>⟨hdm x hx,f3 x hx⟩) ba);have et:=zcC K.b.nd hu;have lu:us.length=u.2.1.nb:=by rw [←f2,←es,List.length_map]
   refine⟨.nd u.1 us, .yes hp ho hm et wi,?_,⟨?_,?_⟩,?_⟩
   ·rw [show src B (.nd u.1 us)=_ from zeY et,es,f1]
   ·rw [Tr.hd,hds_iff];exact⟨.inr ⟨u,hu,rfl⟩,fun x hx=>(ys x hx).hd⟩
   ·rw [Tr.ar];refine⟨fun t ht=>?_,zkI fun x hx=>(ys x hx).ar⟩;rw [et]at ht;cases ht;exact lu
   ·rw [Tr.ne,et];have h1:1≤cnt wn p:=by
     unfold cnt;exact List.countP_pos_iff.mpr ⟨p,hp,List.isPrefixOf_iff_prefix.mpr ⟨[],by simp⟩⟩
    show 1+_≤_;omega
  ·have pr:∀(i:Nat) (xs:List Tr),(∀(j:Nat) x,xs[j]? =some x→ts[i+j]? =some x)→Paired (fun q t=>t.depth≤n∧Sh ws B t∧zuq B wn (p++q) t∧cnt wn (p++q)≤cnt wn p) ((List.range' i xs.length).map fun(i:Nat)=>[(i:Int)]) xs:=by
    intro i xs
    induction xs generalizing i with
    |nil=>intro _;exact .nil
    |cons x xs ih=>
     intro hx;have hi:=hx 0 x rfl;rw [Nat.add_zero]at hi;have hm:x∈ts:=List.mem_of_getElem? hi;have hdx:=zdt hm;rw [List.length_cons,List.range'_succ,List.map_cons];refine .cons ⟨by omega,k x hm,fun q' hq' e' v' h5 h6=>hw q' hq' ((i:Int)::e') v' (by rw [h5];simp) (by rw [zvq hi];exact h6),zpS wn p _⟩ (ih (i+1) fun j y hy=>?_);have:=hx (j+1) y (by rw [List.getElem?_cons_succ];exact hy);rw [show i+1+j=i+(j+1) by omega]
     exact this
   have pr0:=pr 0 ts fun j x h=>by rw [Nat.zero_add];exact h
   rw [←List.range_eq_range']at pr0;obtain⟨us,wi,es,ys,ks⟩:=zoU (zsC K n) pr0;refine⟨.nd s us, .no hp e wi,?_,⟨?_,?_⟩,?_⟩
   ·rw [show src B (.nd s us)=_ from zfQ e,es]
   ·rw [Tr.hd,hds_iff];exact⟨.inl hs,fun x hx=>(ys x hx).hd⟩
   ·rw [Tr.ar];exact⟨fun t ht=>(by rw [e]at ht;cases ht),zkI fun x hx=>(ys x hx).ar⟩
   ·rw [Tr.ne,e];show 0+_≤_;omega
end
mutual
theorem zgf:∀t:Tr,t.depth≤t.weight
 | .bl _=>by rw [Tr.depth,Tr.weight];exact Nat.le_refl _
 | .nd _ ts=>by rw [Tr.depth,Tr.weight];have:=zfK ts;omega
theorem zfK:∀ts:List Tr,dts ts≤wts ts
 | []=>by rw [dts,wts];exact Nat.le_refl _
 |t::ts=>by rw [dts,wts];have:=zgf t;have:=zfK ts;omega
end
theorem znS{B:List Tn}:∀(ps:List Pl),(∀p∈ps,(p.ev B zr).weight≤p.wt+2*p.nt)→wts (ps.map (Pl.ev B zr))≤pwts ps+2*pnts ps
 | [],_=>by simp [wts]
 |p::ps,h=>by
  have h1:=h p List.mem_cons_self;have h2:=znS ps fun q hq=>h q (List.mem_cons_of_mem _ hq);rw [List.map_cons,wts,pwts,pnts];omega
theorem zpH{ws hs:List Str}{B:List Tn}(b:BkOk ws hs B) {p:Pl}(h:PlOk hs B p):(p.ev B zr).weight≤p.wt+2*p.nt:=by
 induction h with
 | @sign b' h ps hh hp ih=>
  have:=znS ps ih;rw [zaU,Tr.weight,Pl.wt,Pl.nt,if_pos (by decide)];omega
 | @turn k b' h ps t e hl b0 b1 hp ih=>
  have ht:t∈B:=List.mem_of_getElem? e;have:=znS ps ih;have:=(b.lf t ht).fw (ps.map (Pl.ev B zr)) (by rw [List.length_map,hl]);rw [zaH e,Pl.wt,Pl.nt,if_neg (by omega)];show(t.2.1.fill _).weight≤_;omega
theorem PlOk.sub{ws hs:List Str}{B:List Tn}(h:∀x∈hs,x∈ws) {p:Pl}(hp:PlOk hs B p):PlOk ws B p:=by
 induction hp with
 |sign h1 _ ih=>exact .sign (h _ h1) ih
 |turn e hl b0 b1 _ ih=>exact .turn e hl b0 b1 ih
section
variable {w0 w1 w2 w3 w4 w5:Str}{tt:List Str}{B:List Tn}{S:Sto}{aw at' ab ac:Addr}{cs:List Int}{Q:WK}{X:Str→Sto→Prop}
theorem Pre.bk2 (P:Pre S aw at' ab w0 w1 w2 w3 w4 w5 tt B):Bk2 [w0,w1,w2,w3,w4,w5] B:=P.b.bk2 P.T P.G
theorem Pre.lft (P:Pre S aw at' ab w0 w1 w2 w3 w4 w5 tt B):Lft B:=⟨fun t ht=>(P.bk.lf t ht).dp,fun t ht=>by
 have h1:=(P.bk.lf t ht).wt;have h2:=(P.bk.lf t ht).nb;omega⟩
theorem Pre.ok_shape{Y:Str→Sto→Prop}{v8:Int}(h8:v8=8) (P:Pre S aw at' ab w0 w1 w2 w3 w4 w5 tt B) (hc:S ac=some (.lst (cs.map W.int)))
  (h:∀(t:Tr) (S':Sto),Sub S S'→Sh [w0,w1,w2,w3,w4,w5] B t→Bd t 4→Q (enc t) S'):zbv 199 [.ref ac, .ref ab, .ref aw, .int 6] S (fun v S1=>zbB 199 [v, .ref ab, .int v8] S1 Q Y) X:=by
 subst h8;refine L2.zqp (r:=189) (m:=6) (by decide) hc P.fb P.fw P.bk P.ne fun p v S' sub pa po pw pn=>?_;have K:=P.bk2;have po2:PlOk [w0,w1,w2,w3,w4,w5] B p:=po.sub fun x hx=>List.mem_cons_of_mem _ (List.mem_cons_of_mem _ hx);have hdp:=zmN p;refine L2.zsm (r:=198) (by decide) (sub _ _ P.fb) P.bk 23 (by omega) (by omega) pa po (by omega) ?_;have e:p.ev B (byC 8)=p.ev B zr:=zed po fun x h0 h1=>(zzm x h0 h1).symm;rw [e];have hw:=zpH P.bk po;have hd:=zgf (p.ev B zr);refine h _ S' sub ⟨K.wy po2,?_⟩ ⟨by omega,by omega⟩
 show(p.ev B zr).mk B (fun t=>t.2.1)=_;rw [zeG K.b po2];rfl
end
section
variable {ws:List Str}{B:List Tn}{a l q:Addr}{r:Nat}{E:WX}{D:WEnds}
theorem zpL{S:Sto}{G:Sto→Prop}(hG:G S) (ha:S a=some (.lst (B.map zbe))) (hr:60≤r):∀(xs:List Tr) (y1 y2:Option W),(∀x∈xs,∃y,Two ws B x y)→(∀z,D.nx [some (.ref a),y1,z] S)→forL (wGN 2) (zcW (r+1) zaW) E D G (xs.map enc) [some (.ref a),y1,y2] S
 | [],y1,y2,_,h=>h y2
 |x::xs,y1,y2,hx,h=>by
  rw [List.map_cons];refine zcc fun N hN=>?_;rw [zgW,zcW];walk_at "wp";obtain⟨y,h2⟩:=hx x (by simp);exact h2.ok_goal ha (by omega) (hN _ _ _ .refl hG (zpL hG ha hr xs y1 _ (fun z hz=>hx z (List.mem_cons_of_mem _ hz)) h))
theorem zdT{S:Sto}{xs:List Tr}{Q:WK}{X:Str→Sto→Prop}(ha:S a=some (.lst (B.map zbe))) (hl:S l=some (.lst (xs.map enc))) (hx:∀x∈xs,∃y,Two ws B x y) (hr:60≤r) (h:Q .non S):zbk (r+2) [.ref a, .ref l] S Q X:=by
 rw [show r+2=r+1+1 from rfl,zbk];walk_at "wp";rw [zag hl];exact zpL hl ha hr xs _ _ hx fun z=>⟨_, .refl,h⟩
theorem zpb{α:Type}(xs:List α) (x:α):atI (xs++[x]) (-1)=some x:=by
 unfold atI ixN;rw [if_neg (by decide),List.length_append,List.length_singleton];rw [if_pos (by omega)];show(xs++[x])[_]? =some x;rw [show((-1+((xs.length+1:Nat):Int)).toNat)=xs.length by omega,List.getElem?_concat_length]
theorem zxg{S:Sto}{T:WS}{x y:Tr}{xs:List W}{y1 y2 y5:Option W}(ha:S a=some (.lst (B.map zbe))) (hq:S q=some (.lst (xs++[enc x]))) (h2:Two ws B x y) (hr:61≤r) (h:T E D [some (.ref a),y1,y2,some (.ref q),some (enc y),some (enc (res B x y))] S) :
  zbq r T E D [some (.ref a),y1,y2,some (.ref q),some (enc y),y5] S:=by
 rw [zbq];walk_at "wp";rw [zag hq,zpb];obtain⟨r,rfl⟩:∃r',r=r'+1:=⟨r - 1,by omega⟩
 exact h2.ok_move ha (by omega) h
theorem zyv{S:Sto}{T:WS}{x:Tr}{y1 y2 y3 y4:Option W}(ha:S a=some (.lst (B.map zbe))) (h2:∃y,Two ws B x y) (hr:62≤r) (h:∀S',Sub S S'→T E D [some (.ref a),y1,y2,y3,y4,some (enc x)] S') :
  zbo r T E D [some (.ref a),y1,y2,y3,y4,some (enc x)] S:=by
 rw [zbo];walk_at "wp";refine⟨by decide,fun t ht=>?_⟩;obtain⟨r,rfl⟩:∃r',r=r'+2:=⟨r - 2,by omega⟩
 exact zdT (xs:=[x]) (keep ha ht) zah (fun z hz=>by rw [List.mem_singleton.mp hz];exact h2) (by omega) (h _ (.put .refl ht))
theorem zxD{S:Sto}{x:Tr}{xs:List W}{y1 y2 y3 y4:Option W}(hq:S q=some (.lst xs)) (hl:xs.length≤1000) (h:D.nx [y1,y2,y3,some (.ref q),y4,some (enc x)] (put S q (.lst (xs++[enc x])))) :
  zbn r E D [y1,y2,y3,some (.ref q),y4,some (enc x)] S:=by
 rw [zbn];walk_at "wp";rw [zag hq,zag hq];exact⟨trivial,zbu (by omega),h⟩
theorem zoh{S0:Sto}{G:Sto→Prop}(ha:S0 a=some (.lst (B.map zbe))) (h0:S0 q=none) (hG:∀S,Sub S0 S→G S) (hr:62≤r):∀(os:List Tr) {x:Tr},RowC ws B x os→ ∀(xs:List W) {S:Sto}{y1 y2 y4 y5:Option W},xs.length+os.length≤900→Sub S0 S→S q=some (.lst (xs++[enc x]))→
  (∀S' y4 y5,Sub S0 S'→S' q=some (.lst (xs++(zcX B x os).map enc))→D.nx [some (.ref a),y1,y2,some (.ref q),y4,y5] S')→
  forL (wGN 4) (zcm r zaW) E D G (os.map enc) [some (.ref a),y1,y2,some (.ref q),y4,y5] S
 | [],x,_=>fun xs S y1 y2 y4 y5 hl sb hq h=>h S _ _ sb hq
 |o::os,x, .cons h2 h3 hc=>by
  intro xs S y1 y2 y4 y5 hl sb hq h;rw [List.map_cons];rw [List.length_cons]at hl;refine zcc fun N hN=>?_;rw [zgW,zcm];refine zxg (sb _ _ ha) hq h2 (by omega) ?_;refine zyv (sb _ _ ha) h3 hr fun S1 s1=>?_;refine zxD (s1 _ _ hq) (by rw [List.length_append,List.length_singleton];omega) ?_;have sb2:Sub S0 (put S1 q (.lst (xs++[enc x]++[enc (res B x o)]))):= .put (sb.trans s1) h0;refine hN _ _ _ .refl (hG _ sb2) (zoh ha h0 hG hr os hc (xs++[enc x]) (by rw [List.length_append,List.length_singleton];omega) sb2 zah fun S' z4 z5 s' hq'=>?_);refine h S' z4 z5 s' ?_;rw [hq',zcX,List.map_cons];simp
theorem ziy{S:Sto}{x:Tr}{os:List Tr}{Q:WK}{X:Str→Sto→Prop}(ha:S a=some (.lst (B.map zbe))) (hl:S l=some (.lst (os.map enc))) (hc:RowC ws B x os) (hn:os.length≤800) (hr:62≤r)
  (h:∀S' q,Sub S S'→S q=none→S' q=some (.lst ((zcX B x os).map enc))→Q (.ref q) S'):zch (r+1) [.ref a,enc x, .ref l] S Q X:=by
 rw [zch,zfM];refine⟨rfl,?_⟩;rw [zbY];walk_at "wp";refine⟨by decide,fun q hq=>?_⟩;rw [zcg];walk_at "wp";rw [zag (keep hl hq)];refine zoh ha hq (fun S' sb=>sb _ _ hl) hr os (x:=x) hc [] (by simp;omega) (.put .refl hq) zah fun S' y4 y5 sb hq'=>?_;rw [zcj];walk_at "wp";exact⟨_, .refl,h S' q sb hq (by rw [hq',List.nil_append])⟩
end
theorem zhf{S:Sto}{t:Tr}(h:t.depth≤57):eqF S 60 (enc t) (enc t)=some true:=by
 rw [zoZ 60 _ _ (by omega),zfH]
structure At (S0 S:Sto) (d o b:Addr) (xs:List Tr):Prop where
  d:b≠d
  o:b≠o
  e:S b=some (.lst (xs.map enc))
  z:S0 b=none
theorem zet{S0 S:Sto}{q:Addr}(s:Sub S0 S) (h:S q=none):S0 q=none:=by
 cases e:S0 q with
 |none=>rfl
 |some v=>rw [s _ _ e]at h;cases h
theorem At.sub{S0 S S':Sto}{d o b:Addr}{xs:List Tr}(h:At S0 S d o b xs) (s:Sub S S'):At S0 S' d o b xs:=⟨h.d,h.o,s _ _ h.e,h.z⟩
theorem At.pd{S0 S:Sto}{d o b:Addr}{xs:List Tr}{v:Ob}(h:At S0 S d o b xs):At S0 (put S d v) d o b xs:=⟨h.d,h.o,by rw [zaD h.d];exact h.e,h.z⟩
theorem At.po{S0 S:Sto}{d o b:Addr}{xs:List Tr}{v:Ob}(h:At S0 S d o b xs):At S0 (put S o v) d o b xs:=⟨h.d,h.o,by rw [zaD h.o];exact h.e,h.z⟩
noncomputable abbrev Ats (S0 S:Sto) (d o:Addr) (bs:List Addr) (xss:List (List Tr)):Prop:=Paired (At S0 S d o) bs xss
theorem zeM{α β:Type}{R:α→β→Prop}{xs:List α}{ys:List β}{x:α}{y:β}(h:Paired R xs ys) (g:R x y):Paired R (xs++[x]) (ys++[y]):=zfO h (.cons g .nil)
theorem zrm{t:Tr}{r:Nat}{S:Sto}{Q:WK}{X:Str→Sto→Prop}(hw:t.weight≤400) (hd:t.depth≤40) (h:Q (enc t) S):zbb (r+5) [enc t] S Q X:=by
 rw [show r+5=r+4+1 from rfl,zbb];walk_at "wp";refine zfY (r:=r+3) (by omega) ?_;rw [ziQ hw hd]
 try walk_at "wp"
 exact⟨_, .refl,h⟩
theorem zkC{α β:Type}(f:α→W) (g:β→W):∀(xs:List α) (ys:List β),pairs (xs.map f) (ys.map g)=(xs.zip ys).map fun p=> .tup [f p.1,g p.2]
 | [],ys=>by simp [pairs]
 |x::xs,[]=>by simp [pairs]
 |x::xs,y::ys=>by rw [List.map_cons,List.map_cons,pairs,zkC f g xs ys];rfl
theorem znY{B:List Tn}:∀(os:List Tr) (x:Tr),(os.zip (zcX B x os)).map (fun p=>res B p.1 p.2)=zhu B x os
 | [],x=>rfl
 |o::os,x=>by rw [zcX,List.zip_cons_cons,List.map_cons,znY os,zhu]
theorem zmT{ws:List Str}{B:List Tn}:∀(os:List Tr) {x:Tr},RowC ws B x os→ ∀p∈os.zip (zcX B x os),Two ws B p.1 p.2
 | [],x,_,p,hp=>by cases hp
 |o::os,x, .cons h2 _ hc,p,hp=>by
  rw [zcX,List.zip_cons_cons]at hp;rcases List.mem_cons.mp hp with rfl |hp
  ·exact h2.symm
  ·exact zmT os hc p hp
section
variable {ws:List Str}{B:List Tn}{a l1 l2 d o ρ:Addr}{r:Nat}{E:WX}{D:WEnds}{T:WS}{t:Tr}{xs os:List Tr}{S:Sto}{y0 y1 y2 y3 y4 y5 y6 y7:Option W}
theorem zzL (hd:t.depth≤57) (h:T E D [y0,some (.tup [enc t, .ref l1]),some (.tup [enc t, .ref l2]),y3,y4,y5,y6,y7] S) :
  zfr r T E D [y0,some (.tup [enc t, .ref l1]),some (.tup [enc t, .ref l2]),y3,y4,y5,y6,y7] S:=by
 rw [zfr];walk_at "wp";rw [zhf hd];exact h
theorem zzO (hw:t.weight≤400) (hd:t.depth≤40) (hr:60≤r) (h:T E D [y0,some (.tup [enc t, .ref l1]),y2,y3,y4,y5,y6,y7] S) :
  zfk r T E D [y0,some (.tup [enc t, .ref l1]),y2,y3,y4,y5,y6,y7] S:=by
 rw [zfk];walk_at "wp";obtain⟨r,rfl⟩:∃r',r=r'+5:=⟨r - 5,by omega⟩
 exact zrm hw hd h
theorem zzv (ha:S a=some (.lst (B.map zbe))) (hl:S l1=some (.lst (xs.map enc))) (hx:∀x∈xs,∃y,Two ws B x y) (hr:62≤r) (h:T E D [some (.ref a),some (.tup [enc t, .ref l1]),y2,y3,y4,y5,y6,y7] S) :
  zfi r T E D [some (.ref a),some (.tup [enc t, .ref l1]),y2,y3,y4,y5,y6,y7] S:=by
 rw [zfi];walk_at "wp";obtain⟨r,rfl⟩:∃r',r=r'+2:=⟨r - 2,by omega⟩
 exact zdT ha hl hx (by omega) h
theorem zyX (ha:S a=some (.lst (B.map zbe))) (hl:S l2=some (.lst (os.map enc))) (hx:∀x∈os,∃y,Two ws B x y) (hr:62≤r) (h:T E D [some (.ref a),y1,some (.tup [enc t, .ref l2]),y3,y4,y5,y6,y7] S) :
  zfv r T E D [some (.ref a),y1,some (.tup [enc t, .ref l2]),y3,y4,y5,y6,y7] S:=by
 rw [zfv];walk_at "wp";obtain⟨r,rfl⟩:∃r',r=r'+2:=⟨r - 2,by omega⟩
 exact zdT ha hl hx (by omega) h
theorem zzN (h:∀d,S d=none→T E D [y0,y1,y2,some (.ref d),y4,y5,y6,y7] (put S d (.lst []))):zfD r T E D [y0,y1,y2,y3,y4,y5,y6,y7] S:=by
 rw [zfD];walk_at "wp";exact⟨Nat.zero_le _,h⟩
theorem zzd{vs:List W}(hl:S l2=some (.lst vs)) (h:∀ρ,S ρ=none→T E D [y0,y1,some (.tup [enc t, .ref l2]),y3,some (.ref ρ),y5,y6,y7] (put S ρ (.lst vs))):zfF r T E D [y0,y1,some (.tup [enc t, .ref l2]),y3,y4,y5,y6,y7] S:=by
 rw [zfF];walk_at "wp";show zco S l2 fun ws=>∀ρ,S ρ=none→T E D [y0,y1,some (.tup [enc t, .ref l2]),y3,some (.ref ρ),y5,y6,y7] (put S ρ (.lst ws));rw [zag hl];exact h
theorem zzV (h:∀o,S o=none→T E D [y0,y1,y2,y3,some (.ref ρ),some (.ref o),y6,y7] (put S o (.lst [.ref ρ]))):zfm r T E D [y0,y1,y2,y3,some (.ref ρ),y5,y6,y7] S:=by
 rw [zfm];walk_at "wp";exact⟨by decide,h⟩
theorem zxi{x:Tr}(ha:S a=some (.lst (B.map zbe))) (hl:S ρ=some (.lst (os.map enc))) (hc:RowC ws B x os) (hn:os.length≤800) (hr:63≤r)
  (h:∀S' q,Sub S S'→S q=none→S' q=some (.lst ((zcX B x os).map enc))→T E D [some (.ref a),y1,y2,y3,some (.ref ρ),y5,some (enc x),some (.ref q)] S') :
  zei r T E D [some (.ref a),y1,y2,y3,some (.ref ρ),y5,some (enc x),y7] S:=by
 rw [zei];walk_at "wp";obtain⟨r,rfl⟩:∃r',r=r'+1:=⟨r - 1,by omega⟩
 exact ziy ha hl hc hn (by omega) h
theorem zxN{x:Tr}{q:Addr}(ha:S a=some (.lst (B.map zbe))) (hl:S ρ=some (.lst (os.map enc))) (hq:S q=some (.lst ((zcX B x os).map enc))) (hc:RowC ws B x os) (hn:os.length≤800) (hr:63≤r)
  (h:∀ρ',S ρ'=none→T E D [some (.ref a),y1,y2,y3,some (.ref ρ'),y5,y6,some (.ref q)] (put S ρ' (.lst ((zhu B x os).map enc)))) :
  zeh r T E D [some (.ref a),y1,y2,y3,some (.ref ρ),y5,y6,some (.ref q)] S:=by
 rw [zeh];walk_at "wp";rw [zag hl,zag hq,zkC];refine zaO (fun σ=>∃u v,σ=[u,v,some (.ref a)]) (fun p:Tr×Tr=> .tup [enc p.1,enc p.2]) (fun p=>enc (res B p.1 p.2)) ⟨hl,hq⟩ (os.zip (zcX B x os)) [] _ ⟨none,none,rfl⟩ (by rw [List.length_zip,ziw];simp;omega) (fun p hp σ R hI hR=>?_) ?_
 ·obtain⟨u,v,rfl⟩:=hI;have h2:=zmT os hc p hp;rw [zvr];show zaA (wGN 0) (zaA (wGN 1) zdw) [enc p.1,enc p.2] _ S _;rw [ziI];show wGN 0 _ _ _ _;rw [zgW,ziI];show wGN 1 _ _ _ _;rw [zgW,zpe,zmw];show zal _ _ _ [some (enc p.1),some (enc p.2),some (.ref a)] _ _;walk_at "wp";obtain⟨r,rfl⟩:∃r',r=r'+1:=⟨r - 1,by omega⟩
  exact h2.ok_move ha (by omega) (hR _ _ ⟨_,_,rfl⟩ .refl)
 ·intro ρ' hρ;have:=h ρ' hρ;rw [←znY,List.map_map]at this;exact this
theorem zyb{q:Addr}{vs:List W}(hd:S d=some (.lst vs)) (hn:vs.length≤1000) (h:T E D [y0,y1,y2,some (.ref d),y4,y5,y6,some (.ref q)] (put S d (.lst (vs++[.ref q])))) :
  zeo r T E D [y0,y1,y2,some (.ref d),y4,y5,y6,some (.ref q)] S:=by
 rw [zeo];walk_at "wp";rw [zag hd,zag hd];exact⟨trivial,zbu (by omega),h⟩
theorem zxu{vs:List W}(hd:S o=some (.lst vs)) (hn:vs.length≤1000) (h:D.nx [y0,y1,y2,y3,some (.ref ρ),some (.ref o),y6,y7] (put S o (.lst (vs++[.ref ρ])))) :
  zek r E D [y0,y1,y2,y3,some (.ref ρ),some (.ref o),y6,y7] S:=by
 rw [zek];walk_at "wp";rw [zag hd,zag hd];exact⟨trivial,zbu (by omega),h⟩
theorem zop{S0:Sto}{G:Sto→Prop}(ha:S0 a=some (.lst (B.map zbe))) (hd0:S0 d=none) (ho0:S0 o=none) (hdo:d≠o) (hG:∀S,Sub S0 S→G S) (hr:64≤r):∀(xs:List Tr) {os:List Tr},Cells ws B xs os→ ∀{S:Sto}{ρ:Addr}{ds rs:List Addr}{Ds Rs:List (List Tr)}{y1 y2 y6 y7:Option W},os.length≤800→ds.length+xs.length≤800→rs.length+xs.length≤800→Sub S0 S→S d=some (.lst (ds.map W.ref))→S o=some (.lst (rs.map W.ref++[.ref ρ]))→Ats S0 S d o ds Ds→Ats S0 S d o rs Rs→At S0 S d o ρ os→
  (∀S' ds' rs' y4 y6 y7,Sub S0 S'→S' d=some (.lst (ds'.map W.ref))→S' o=some (.lst (rs'.map W.ref))→Ats S0 S' d o ds' (Ds++zeC B xs os)→Ats S0 S' d o rs' (Rs++zec B xs os)→D.nx [some (.ref a),y1,y2,some (.ref d),y4,some (.ref o),y6,y7] S')→
  forL (wGN 6) (zgF r zaW) E D G (xs.map enc) [some (.ref a),y1,y2,some (.ref d),some (.ref ρ),some (.ref o),y6,y7] S
 | [],os,hz=>by
  rename_i S ρ ds rs Ds Rs y1 y2 y6 y7;intro _ _ _ sb hd ho AD AR Aρ h;refine h S ds (rs++[ρ]) _ _ _ sb hd ?_ ?_ ?_
  ·rw [ho,List.map_append];rfl
  ·rw [zeC,List.append_nil];exact AD
  ·rw [zec];exact zeM AR Aρ
 |x::xs,os, .cons hc hcs=>by
  rename_i S ρ ds rs Ds Rs y1 y2 y6 y7;intro n1 n2 n3 sb hd ho AD AR Aρ h;rw [List.length_cons]at n2 n3;rw [List.map_cons];refine zcc fun N hN=>?_;rw [zgW,zgF];refine zxi (sb _ _ ha) Aρ.e hc n1 (by omega) fun S1 q s1 hq0 hq=>?_;refine zxN (s1 _ _ (sb _ _ ha)) (s1 _ _ Aρ.e) hq hc n1 (by omega) fun ρ' hρ=>?_;have s2:Sub S (put S1 ρ' (.lst ((zhu B x os).map enc))):=s1.trans (.put .refl hρ);have qd:q≠d:=by rintro rfl;rw [hd]at hq0;cases hq0
  have qo:q≠o:=by rintro rfl;rw [ho]at hq0;cases hq0
  have ρd:ρ'≠d:=by rintro rfl;rw [s1 _ _ hd]at hρ;cases hρ
  have ρo:ρ'≠o:=by rintro rfl;rw [s1 _ _ ho]at hρ;cases hρ
  have Aq:At S0 (put S1 ρ' (.lst ((zhu B x os).map enc))) d o q (zcX B x os):=⟨qd,qo,keep hq hρ,zet sb hq0⟩;have Aρ':At S0 (put S1 ρ' (.lst ((zhu B x os).map enc))) d o ρ' (zhu B x os):=⟨ρd,ρo,zah,zet (sb.trans s1) hρ⟩;have AD':=zaE (fun _ _ z=>At.sub z s2) AD;have AR':=zaE (fun _ _ z=>At.sub z s2) AR;have A0:=Aρ.sub s2;have hd2:=s2 _ _ hd;have ho2:=s2 _ _ ho;have sb2:=sb.trans s2;generalize put S1 ρ' (.lst ((zhu B x os).map enc))=S2 at Aq Aρ' AD' AR' A0 hd2 ho2 sb2⊢;have ld:(ds.map W.ref).length≤1000:=by rw [List.length_map];omega
  have lo:(rs.map W.ref++[W.ref ρ]).length≤1000:=by rw [List.length_append,List.length_map,List.length_singleton];omega
  refine zyb hd2 ld ?_;refine zxu (vs:=rs.map W.ref++[.ref ρ]) (by rw [zaD hdo.symm];exact ho2) lo ?_;have sb3:Sub S0 (put (put S2 d (.lst (ds.map W.ref++[.ref q]))) o (.lst (rs.map W.ref++[.ref ρ]++[.ref ρ']))):= .put (.put sb2 hd0) ho0;refine hN _ _ _ .refl (hG _ sb3) (zop ha hd0 ho0 hdo hG hr xs (ds:=ds++[q]) (rs:=rs++[ρ]) (Ds:=Ds++[zcX B x os]) (Rs:=Rs++[os]) hcs (by rw [zhl];exact n1) (by rw [List.length_append,List.length_singleton];omega) (by rw [List.length_append,List.length_singleton];omega) sb3 ?_ ?_ ?_ ?_ Aρ'.pd.po fun S' ds' rs' z4 z6 z7 s' h1 h2 h3 h4=>?_)
  ·rw [zaD hdo,zah,List.map_append];rfl
  ·rw [zah,List.map_append];rfl
  ·exact zeM (zaE (fun _ _ z=>At.po (At.pd z)) AD') Aq.pd.po
  ·exact zeM (zaE (fun _ _ z=>At.po (At.pd z)) AR') A0.pd.po
  ·refine h S' ds' rs' z4 z6 z7 s' h1 h2 ?_ ?_
   ·rw [zeC];rw [List.append_assoc]at h3;exact h3
   ·rw [zec];rw [List.append_assoc]at h4;exact h4
theorem Roa.two (K:Bk2 ws B):∀(xs:List Tr) {t:Tr},Roa ws B t xs→Bd t (nR B xs)→ ∀x∈xs,∃y,Two ws B x y
 | [],t,_,_,x,hx=>by cases hx
 |z::xs,t,⟨hz,ez,hr⟩,hb,x,hx=>by
  rw [nR]at hb;rcases List.mem_cons.mp hx with rfl |hx
  ·exact⟨_,K.ow hz ez (hb.mono (by omega))⟩
  ·exact Roa.two K xs hr (K.goal hz ez hb) x hx
structure Grd (S0 S:Sto) (B:List Tn) (xs os:List Tr) (d o:Addr):Prop where
  sub:Sub S0 S
  d0:S0 d=none
  o0:S0 o=none
  ne:d≠o
  ex:∃ds rs,S d=some (.lst (ds.map W.ref))∧S o=some (.lst (rs.map W.ref))∧Ats S0 S d o ds (zeC B xs os)∧Ats S0 S d o rs (zec B xs os)
theorem zos{Q:WK}{X:Str→Sto→Prop}(ha:S a=some (.lst (B.map zbe))) (h1:S l1=some (.lst (xs.map enc))) (h2:S l2=some (.lst (os.map enc))) (hc:Cells ws B xs os) (tx:∀x∈xs,∃y,Two ws B x y) (to:∀x∈os,∃y,Two ws B x y) (hw:t.weight≤400) (hd:t.depth≤40) (nx:xs.length≤700) (no:os.length≤700) (hr:64≤r)
  (h:∀S' d o,Grd S S' B xs os d o→Q (.tup [.ref d, .ref o]) S'):zhO (r+1) [.ref a, .tup [enc t, .ref l1], .tup [enc t, .ref l2]] S Q X:=by
 rw [zhO,zfM];refine⟨rfl,?_⟩;refine zzL (by omega) (zzO hw (by omega) (by omega) (zzv ha h1 tx (by omega) (zyX ha h2 to (by omega) (zzN fun d hd=>zzd (keep h2 hd) fun ρ hρ=>zzV fun o h0=>?_))));have ρd:ρ≠d:=by rintro rfl;rw [zah]at hρ;cases hρ
 have od:o≠d:=by rintro rfl;rw [zaD ρd.symm,zah]at h0;cases h0
 have oρ:o≠ρ:=by rintro rfl;rw [zah]at h0;cases h0
 have oS:S o=none:=by rw [zaD oρ,zaD od]at h0;exact h0
 have sb:Sub S (put (put (put S d (.lst [])) ρ (.lst (os.map enc))) o (.lst [.ref ρ])):=(Sub.put .refl hd).trans ((Sub.put .refl hρ).trans (.put .refl h0));rw [zgE];walk_at "wp";show zco _ l1 _;rw [zag (sb _ _ h1)];refine zop ha hd oS od.symm (fun S' s'=>s' _ _ h1) hr xs (ds:=[]) (rs:=[]) (Ds:=[]) (Rs:=[]) hc (by omega) (by simp;omega) (by simp;omega) sb ?_ zah .nil .nil ⟨ρd,oρ.symm,?_,by rw [zaD ρd]at hρ;exact hρ⟩ fun S' ds rs y4 y6 y7 s' g1 g2 g3 g4=>?_
 ·rw [zaD od.symm,zaD ρd.symm,zah];rfl
 ·rw [zaD oρ.symm,zah]
 ·rw [zgy];walk_at "wp";exact⟨by decide,_, .refl,h S' d o ⟨s',hd,oS,od.symm,ds,rs,g1,g2,g3,g4⟩⟩
end
noncomputable def opl (B:List Tn) (t:Tr):List (List Int):=(t.op B []).map fun x=>x.1
theorem Sh.hdT{ws:List Str}{B:List Tn}{t:Tr}(h:Sh ws B t):t.hd fun _=>True:=zpx (fun _ _=>trivial) _ h.wy.hd
theorem Sh.wn{ws:List Str}{B:List Tn}{t:Tr}(h:Sh ws B t) {wn:List (List Int)}(hw:∀q∈wn,q∈opl B t):zuq B wn [] t:=by
 intro q hq e v he hv;rw [List.nil_append]at he;subst he;obtain⟨x,hx,rfl⟩:=List.mem_map.mp (hw q hq);rw [←zrY B t [] (zfZ _ h.hdT)]at hx;obtain⟨y,hy,hx⟩:=List.mem_flatMap.mp hx;unfold zwT at hx;obtain⟨u,hu,rfl⟩:=List.mem_map.mp hx;have:=(zul hy).1;rw [this]at hv;cases hv;cases e:zft B y.2 with
 |none=>rw [e]at hu;cases hu
 |some _=>rfl
section
variable {ws:List Str}{B:List Tn}{a l1 lw m:Addr}{r:Nat}{E:WX}{D:WEnds}{T:WS}{t:Tr}{xs:List Tr}{S:Sto}{y0 y1 y2 y3 y4 y5 y6 y7 y8 y9:Option W}{lim sp c:Int}
theorem zyd (L:Lft B) (ha:S a=some (.lst (B.map zbe))) (h:Sh ws B t) (hw:t.weight≤400) (hd:t.depth≤40) (hr:80≤r) (k:∀S' m,Sub S S'→S' m=some (.lst ((opl B t).map zaZ))→T E D [some (.ref a),y1,y2,y3,y4,some (enc t),y6,y7,some (.ref m),y9] S') :
  zbI r T E D [some (.ref a),y1,y2,y3,y4,some (enc t),y6,y7,y8,y9] S:=by
 rw [zbI];walk_at "wp";obtain⟨r,rfl⟩:∃r',r=r'+1:=⟨r - 1,by omega⟩
 refine zgI L ha (by omega) (by omega) (by omega) h.hdT fun q hq=>?_;show zco (put S q (.lst ((t.op B []).map zkG))) q _;rw [zag zah];have hol:=zmO B t [];refine zaO (fun σ=>∃y,σ=[y]) zkG (fun x=>zaZ x.1) zah (t.op B []) [] _ ⟨none,rfl⟩ (by simp;omega) (fun x hx σ R hI hR=>?_) ?_
 ·obtain⟨y,rfl⟩:=hI;rw [zfL];unfold zkG;walk_at "wp";exact hR _ _ ⟨_,rfl⟩ .refl
 ·intro m hm;refine k _ m ((Sub.put .refl hq).trans (.put .refl hm)) ?_;rw [zah,List.nil_append];unfold opl;rw [List.map_map];rfl
theorem zyh{ps:List (List Int)}(hm:S m=some (.lst (ps.map zaZ))) (hp:0<ps.length) (k:∀p1 p2 b,p1∈ps→p2∈ps→S b=none→T E D [y0,y1,y2,y3,y4,y5,y6,some (.int c),some (.ref m),some (.ref b)] (put S b (.lst [zaZ p1,zaZ p2]))) :
  zbK r T E D [y0,y1,y2,y3,y4,y5,y6,some (.int c),some (.ref m),y9] S:=by
 rw [zbK];walk_at "wp";rw [zag hm];have hne:ps.map zaZ≠ []:=by
  intro z;rw [List.map_eq_nil_iff]at z;rw [z]at hp;exact absurd hp (by decide)
 obtain⟨j1,x1,e1,f1⟩:=zov c hne;obtain⟨j2,x2,e2,f2⟩:=zov (c / 64) hne;obtain⟨p1,m1,rfl⟩:=List.mem_map.mp (List.mem_of_getElem? e1);obtain⟨p2,m2,rfl⟩:=List.mem_map.mp (List.mem_of_getElem? e2);have hl:(0:Int)<((ps.map zaZ).length:Int):=by rw [List.length_map];omega
 refine⟨hl,?_⟩;rw [zag hm,f1];refine⟨⟨by decide,by decide⟩,?_⟩
 rw [zag hm];refine⟨hl,?_⟩;rw [zag hm,f2];exact⟨by decide,fun b hb=>k p1 p2 b m1 m2 hb⟩
theorem zxq{p1 p2:List Int}{b:Addr}(hb:S b=some (.lst [zaZ p1,zaZ p2])) (h0:sp<lim) (k:∀wn b',(wn=[p1]∨wn=[p1,p2]∧sp+2≤lim)→S b'=none→T E D [y0,y1,y2,some (.int lim),y4,y5,some (.int sp),some (.int c),y8,some (.ref b')] (put S b' (.lst (wn.map zaZ)))) :
  zbP r T E D [y0,y1,y2,some (.int lim),y4,y5,some (.int sp),some (.int c),y8,some (.ref b)] S:=by
 rw [zbP];walk_at "wp";refine⟨⟨by decide,by decide⟩,by decide,?_⟩
 have c1:zdG [zaZ p1,zaZ p2] none (some 1)=[p1].map zaZ:=rfl;have c2:zdG [zaZ p1,zaZ p2] none (some 2)=[p1,p2].map zaZ:=rfl;cases(c / 4096 % 2 == 1) with
 |false=>
  show zco S b _;rw [zag hb];intro p hp;rw [show zdG [zaZ p1,zaZ p2] none (some (1+0))=_ from c1];exact k [p1] p (.inl rfl) hp
 |true=>
  show zco S b _;rw [zag hb];intro p hp;split
  ·rename_i h2;rw [show zdG [zaZ p1,zaZ p2] none (some (1+1))=_ from c2];exact k [p1,p2] p (.inr ⟨rfl,h2⟩) hp
  ·rw [show zdG [zaZ p1,zaZ p2] none (some (1+0))=_ from c1];exact k [p1] p (.inl rfl) hp
theorem zyu{wn:List (List Int)}{b:Addr}{vs:List W}(K:Bk2 ws B) (L:Lft B) (hP:PB B) (ha:S a=some (.lst (B.map zbe))) (hb:S b=some (.lst (wn.map zaZ))) (hv:S lw=some (.lst vs)) (hn:vs.length≤900) (h:Sh ws B t) (hw:t.weight≤400) (hd:t.depth≤40) (hi:∀q∈wn,q∈opl B t) (hl:wn.length≤2) (hr:120≤r)
  (k:∀u,Wy ws B u→src B u=t→u.ne B≤wn.length→T E D [some (.ref a),y1,y2,y3,some (.ref lw),some (enc t),y6,y7,y8,some (.ref b)] (put S lw (.lst (vs++[enc u])))) :
  zbO r T E D [some (.ref a),y1,y2,y3,some (.ref lw),some (enc t),y6,y7,y8,some (.ref b)] S:=by
 rw [zbO];walk_at "wp";rw [zag hv];refine⟨trivial,?_⟩;obtain⟨u,wi,e,y,hne⟩:=zsC K t.depth t [] (Nat.le_refl _) h (h.wn hi);obtain⟨r,rfl⟩:∃r',r=r'+1:=⟨r - 1,by omega⟩
 refine zry (ks:=opl B t) L hP wi (by omega) (by omega) ha hb h.hdT (by omega) (by omega) (by omega) rfl hi ?_;rw [zag hv];refine⟨zbu (by omega),k u y e ?_⟩;have:cnt wn []≤wn.length:=List.countP_le_length;omega
theorem zxt{u y:Tr}{vs:List W}(ha:S a=some (.lst (B.map zbe))) (hv:S lw=some (.lst (vs++[enc u]))) (h2:Two ws B u y) (hr:62≤r) (k:T E D [some (.ref a),y1,y2,y3,some (.ref lw),some (enc (gol B u)),y6,y7,y8,y9] S) :
  zbQ r T E D [some (.ref a),y1,y2,y3,some (.ref lw),y5,y6,y7,y8,y9] S:=by
 rw [zbQ];walk_at "wp";rw [zag hv,zpb];obtain⟨r,rfl⟩:∃r',r=r'+1:=⟨r - 1,by omega⟩
 exact h2.ok_made2 ha (by omega) k
theorem zxV{vs:List W}{b:Addr}(hb:S b=some (.lst vs)) (k:D.nx [y0,y1,y2,y3,y4,y5,some (.int (sp+vs.length)),y7,y8,some (.ref b)] S) :
  zbN r E D [y0,y1,y2,y3,y4,y5,some (.int sp),y7,y8,some (.ref b)] S:=by
 rw [zbN];walk_at "wp";rw [zag hb];exact k
theorem Roa.snoc:∀(xs:List Tr) {t u:Tr},Roa ws B t xs→Wy ws B u→src B u=zkF B t xs→Roa ws B t (xs++[u])
 | [],t,u,_,hu,e=>⟨hu,e,trivial⟩
 |x::xs,t,u,⟨h1,h2,h3⟩,hu,e=>⟨h1,h2,Roa.snoc xs h3 hu e⟩
theorem zlQ:∀(xs:List Tr) (t u:Tr),zkF B t (xs++[u])=gol B u
 | [],t,u=>rfl
 |x::xs,t,u=>zlQ xs (gol B x) u
theorem zsh:∀(xs ys:List Tr),nR B (xs++ys)=nR B xs+nR B ys
 | [],ys=>by rw [List.nil_append,nR,Nat.zero_add]
 |x::xs,ys=>by rw [List.cons_append,nR,nR,zsh xs ys,Nat.add_assoc]
theorem Bd.small{n:Nat}(h:Bd t n):t.weight≤400∧t.depth≤40:=by
 have h1:=h.w;have h2:=h.d;exact⟨Nat.le_trans (Nat.le_mul_of_pos_left _ (zeR _)) h1,by omega⟩
theorem zlv{S0:Sto}{G:Sto→Prop}{N:Nat}(K:Bk2 ws B) (L:Lft B) (hP:PB B) (ha:S0 a=some (.lst (B.map zbe))) (h0:S0 lw=none) (hG:∀S,Sub S0 S→G S) (ht:Sh ws B t) (hb:Bd t N) (hlim:lim≤N) (hr:120≤r):∀(cs:List Int) {xs:List Tr}{S:Sto}{sp:Int}{y1 y2 y7 y8 y9:Option W},Sub S0 S→S lw=some (.lst (xs.map enc))→Roa ws B t xs→(nR B xs:Int)≤sp→sp≤lim→xs.length+cs.length≤800→
  (∀S' zs y5 y6 y7 y8 y9,Sub S0 S'→S' lw=some (.lst (zs.map enc))→Roa ws B t zs→(nR B zs:Int)≤lim→zs.length≤xs.length+cs.length→D.nx [some (.ref a),y1,y2,some (.int lim),some (.ref lw),y5,y6,y7,y8,y9] S')→
  forL (wGN 7) (zcz r zaW) E D G (cs.map W.int) [some (.ref a),y1,y2,some (.int lim),some (.ref lw),some (enc (zkF B t xs)),some (.int sp),y7,y8,y9] S
 | [],xs,S,sp,y1,y2,y7,y8,y9,sb,hw,hx,h1,h2,hl,h=>h S xs _ _ _ _ _ sb hw hx (by omega) (by simp)
 |c::cs,xs,S,sp,y1,y2,y7,y8,y9,sb,hw,hx,h1,h2,hl,h=>by
  rw [List.length_cons]at hl;have he:=Roa.end_wy K xs hx ht.wy ht.q;have sh:Sh ws B (zkF B t xs):=⟨he.1,he.2⟩;have bd:Bd (zkF B t xs) (N - nR B xs):=Roa.end_bd K xs hx (hb.mono (by omega));obtain⟨w1,w2⟩:=bd.small;rw [List.map_cons];refine zcc fun F hF=>?_;rw [zgW,zcz];refine zyd L (sb _ _ ha) sh w1 w2 (by omega) fun S1 m s1 hm=>?_;have sb1:=sb.trans s1;have hw1:=s1 _ _ hw;have skip:∀y7 y8 y9,F [some (.ref a),y1,y2,some (.int lim),some (.ref lw),some (enc (zkF B t xs)),some (.int sp),y7,y8,y9] S1:=fun y7 y8 y9=>hF _ _ _ .refl (hG _ sb1) (zlv K L hP ha h0 hG ht hb hlim hr cs sb1 hw1 hx h1 h2 (by omega) fun S' zs z5 z6 z7 z8 z9 g1 g2 g3 g4 g5=>h S' zs z5 z6 z7 z8 z9 g1 g2 g3 g4 (by rw [List.length_cons];omega));rw [zcA];walk_at "wp";rw [zag hm];split
  ·rename_i hp;rw [List.length_map]at hp;split
   ·rename_i hs;refine zyh hm (by omega) fun p1 p2 b m1 m2 hb0=>?_;have s2:Sub S1 (put S1 b (.lst [zaZ p1,zaZ p2])):= .put .refl hb0;refine zxq zah hs fun wn b' hwn hb'=>?_;have s3:=s2.trans (.put .refl hb':Sub _ (put (put S1 b (.lst [zaZ p1,zaZ p2])) b' (.lst (wn.map zaZ))));have fb':put (put S1 b (.lst [zaZ p1,zaZ p2])) b' (.lst (wn.map zaZ)) b'=some (.lst (wn.map zaZ)):=zah;have hin:∀q∈wn,q∈opl B (zkF B t xs):=fun q hq=>by
     rcases hwn with rfl |⟨rfl,_⟩
     ·rw [List.mem_singleton.mp hq];exact m1
     ·rcases List.mem_cons.mp hq with rfl |hq
      ·exact m1
      ·rw [List.mem_singleton.mp hq];exact m2
    have hwl:wn.length≤2∧sp+wn.length≤lim:=by
     rcases hwn with rfl |⟨rfl,z⟩
     ·exact⟨by simp,by simp;omega⟩
     ·exact⟨by simp,by simpa using z⟩
    have nb:b'≠lw:=by rintro rfl;rw [s2 _ _ hw1]at hb';cases hb'
    generalize put (put S1 b (.lst [zaZ p1,zaZ p2])) b' (.lst (wn.map zaZ))=S3 at s3 fb'⊢;have sb3:=sb1.trans s3;refine zyu K L hP (sb3 _ _ ha) fb' (s3 _ _ hw1) (by rw [List.length_map];omega) sh w1 w2 hin hwl.1 hr fun u yu eu nu=>?_;have sb4:Sub S0 (put S3 lw (.lst (xs.map enc++[enc u]))):= .put sb3 h0;have fl:put S3 lw (.lst (xs.map enc++[enc u])) lw=some (.lst (xs.map enc++[enc u])):=zah;have fb4:put S3 lw (.lst (xs.map enc++[enc u])) b'=some (.lst (wn.map zaZ)):=by rw [zaD nb];exact fb'
    generalize put S3 lw (.lst (xs.map enc++[enc u]))=S4 at sb4 fl fb4⊢;have bu:Bd (zkF B t xs) (u.ne B):=bd.mono (by omega);refine zxt (sb4 _ _ ha) fl (K.ow yu eu bu) (by omega) ?_;refine zxV fb4 ?_;have hx':=Roa.snoc xs hx yu eu;have nx':nR B (xs++[u])=nR B xs+u.ne B:=by rw [zsh,nR,nR,Nat.add_zero]
    have go:=zlv K L hP ha h0 hG ht hb hlim hr cs (xs:=xs++[u]) (S:=S4) (sp:=sp+(wn.map zaZ).length) (y1:=y1) (y2:=y2) (y7:=some (.int c)) (y8:=some (.ref m)) (y9:=some (.ref b')) sb4 (by rw [List.map_append];exact fl) hx' (by rw [nx',List.length_map];omega) (by rw [List.length_map];omega) (by rw [List.length_append,List.length_singleton];omega) fun S' zs z5 z6 z7 z8 z9 g1 g2 g3 g4 g5=>h S' zs z5 z6 z7 z8 z9 g1 g2 g3 g4 (by rw [List.length_append,List.length_singleton]at g5;rw [List.length_cons];omega);rw [zlQ]at go;exact hF _ _ _ .refl (hG _ sb4) go
   ·exact skip _ _ _
  ·exact skip _ _ _
theorem znZ{N:Nat}{cs:List Int}{Q:WK}{X:Str→Sto→Prop}(K:Bk2 ws B) (L:Lft B) (hP:PB B) (ha:S a=some (.lst (B.map zbe))) (hc:S l1=some (.lst (cs.map W.int))) (ht:Sh ws B t) (hb:Bd t N) (hlim:lim≤N) (h0:0≤lim) (hn:cs.length≤700) (hr:120≤r)
  (h:∀S' l xs,Sub S S'→S l=none→S' l=some (.lst (xs.map enc))→Roa ws B t xs→(nR B xs:Int)≤lim→xs.length≤cs.length→Q (.tup [enc t, .ref l]) S'):zbc (r+1) [.ref a,enc t, .ref l1, .int lim] S Q X:=by
 rw [zbc,zfM];refine⟨rfl,?_⟩;rw [zcL];walk_at "wp";refine⟨Nat.zero_le _,fun lw hlw=>?_⟩;rw [zcP];walk_at "wp";rw [zcQ];walk_at "wp";rw [zcO];walk_at "wp";rw [zag (keep hc hlw)];refine zlv (xs:=[]) (N:=N) K L hP ha hlw (fun S' s'=>s' _ _ hc) ht hb hlim hr cs (.put .refl hlw) zah trivial (by rw [nR];simp) h0 (by simp;omega) fun S' zs y5 y6 y7 y8 y9 s' g1 g2 g3 g4=>?_;rw [zcN];walk_at "wp";exact⟨by decide,_, .refl,h S' lw zs s' hlw g1 g2 g3 (by simpa using g4)⟩
end
theorem zhJ{α β:Type}{R:α→β→Prop}:∀{xs:List α}{ys:List β},Paired R xs ys→ ∃zs:List (α×β),zs.map (fun z=>z.1)=xs∧zs.map (fun z=>z.2)=ys∧ ∀z∈zs,R z.1 z.2
 |_,_, .nil=>⟨[],rfl,rfl,by simp⟩
 |_,_, .cons h1 h2=>by
  obtain⟨zs,e1,e2,h3⟩:=zhJ h2;exact⟨(_,_)::zs,by rw [List.map_cons,e1],by rw [List.map_cons,e2],fun z hz=>by
   rcases List.mem_cons.mp hz with rfl |hz
   ·exact h1
   ·exact h3 z hz⟩
theorem zgZ{α β γ:Type}{R:α→β→Prop}{R':β→γ→Prop}:∀{xs:List α}{ys:List β}{zs:List γ},Paired R xs ys→Paired R' ys zs→Paired (fun x z=>∃y,R x y∧R' y z) xs zs
 |_,_,_, .nil, .nil=> .nil
 |_,_,_, .cons h1 h2, .cons g1 g2=> .cons ⟨_,h1,g1⟩ (zgZ h2 g2)
structure Rds (S:Sto) (ws:List Str) (B:List Tn) (ab:Addr) (t:Tr) (l1 l2:Addr) (xs os:List Tr):Prop where
  K:Bk2 ws B
  fb:S ab=some (.lst (B.map zbe))
  sh:Sh ws B t
  bd:Bd t 4
  f1:S l1=some (.lst (xs.map enc))
  f2:S l2=some (.lst (os.map enc))
  r1:Roa ws B t xs
  r2:Roa ws B t os
  n:nR B xs+nR B os≤4
  x3:xs.length≤3
  o3:os.length≤3
  hB:B.length≤1000
theorem Rds.sub{S S':Sto}{ws:List Str}{B:List Tn}{ab:Addr}{t:Tr}{l1 l2:Addr}{xs os:List Tr}(h:Rds S ws B ab t l1 l2 xs os) (s:Sub S S'):Rds S' ws B ab t l1 l2 xs os:=⟨h.K,s _ _ h.fb,h.sh,h.bd,s _ _ h.f1,s _ _ h.f2,h.r1,h.r2,h.n,h.x3,h.o3,h.hB⟩
theorem Rds.symm{S:Sto}{ws:List Str}{B:List Tn}{ab:Addr}{t:Tr}{l1 l2:Addr}{xs os:List Tr}(h:Rds S ws B ab t l1 l2 xs os):Rds S ws B ab t l2 l1 os xs:=⟨h.K,h.fb,h.sh,h.bd,h.f2,h.f1,h.r2,h.r1,by have:=h.n;omega,h.o3,h.x3,h.hB⟩
theorem zwW (ns:List Int) (i:Nat):(zdG ns (some (i:Int)) (some ((i+3:Nat):Int))).length≤3:=by
 rw [zsD i (i+3),List.length_take];omega
theorem Pre.pb{S:Sto}{aw at' ab:Addr}{w0 w1 w2 w3 w4 w5:Str}{tt:List Str}{B:List Tn}(P:Pre S aw at' ab w0 w1 w2 w3 w4 w5 tt B):PB B:=fun t ht x hx=>by
 have h1:=(zow hx).2.2;have h2:=(P.bk.lf t ht).dp;omega
section
variable {w0 w1 w2 w3 w4 w5:Str}{tt:List Str}{B:List Tn}{S:Sto}{aw at' ab:Addr}{ns:List Int}{t:Tr}{E:WX}{D:WEnds}{T:WS}{τ:WSt}{x1 x2 x3 x4 x5 x6 x7:Option W}
theorem rp4 (P:Pre S aw at' ab w0 w1 w2 w3 w4 w5 tt B) (h:∀t S',Pre S' aw at' ab w0 w1 w2 w3 w4 w5 tt B→Sh [w0,w1,w2,w3,w4,w5] B t→Bd t 4→T E D (some (.scr ns)::some (.ref aw)::some (.ref at')::some (.ref ab)::some (enc t)::τ) S') :
  zar (wAsg (zal (zbB 199) (zab (zal (zbv 199) (zab (wSl (zad 0) (woS (wC (.int 17))) woN) (zab (zad 3) (zab (zad 1) (zab (wC (.int 6)) waNil))))) (zab (zad 3) (zab (wC (.int 8)) waNil)))) (wGN 4)) T E D (some (.scr ns)::some (.ref aw)::some (.ref at')::some (.ref ab)::x4::τ) S:=by
 walk_at "wp";intro ac hc;exact(P.sub (.put .refl hc)).ok_shape rfl zah fun t S' sb sh bd=>h t S' (P.sub ((Sub.put .refl hc).trans sb)) sh bd
theorem rp5 (h:∀c:Int,1≤c→c≤3→T E D (some (.scr ns)::x1::x2::x3::x4::some (.int c)::τ) S) :
  zar (wAsg (wOp zda (wC (.int 1)) (wOp (zcZ (fun _ j=>0<j) fun i j=> .int (i % j)) (zal (zat 199) (zab (zad 0) (zab (wC (.int 10)) waNil))) (wC (.int 3)))) (wGN 5)) T E D (some (.scr ns)::x1::x2::x3::x4::x5::τ) S:=by
 walk_at "wp";refine zeT (by decide) fun c=>?_;walk_at "wp";have m0:0≤c % 3:=Int.emod_nonneg _ (by decide);have m1:c % 3<3:=Int.emod_lt_of_pos _ (by decide);exact⟨by decide,h _ (by omega) (by omega)⟩
theorem rp6{c:Int}(h1:1≤c) (h3:c≤3) (P:Pre S aw at' ab w0 w1 w2 w3 w4 w5 tt B) (sh:Sh [w0,w1,w2,w3,w4,w5] B t) (bd:Bd t 4) (h:∀S' l xs,Pre S' aw at' ab w0 w1 w2 w3 w4 w5 tt B→S' l=some (.lst (xs.map enc))→Roa [w0,w1,w2,w3,w4,w5] B t xs→(nR B xs:Int)≤c→xs.length≤3→T E D (some (.scr ns)::x1::x2::some (.ref ab)::some (enc t)::some (.int c)::some (.tup [enc t, .ref l])::τ) S') :
  zar (wAsg (zal (zbc 199) (zab (zad 3) (zab (zad 4) (zab (wSl (zad 0) (woS (wC (.int 11))) (woS (wC (.int 14)))) (zab (zad 5) waNil))))) (wGN 6)) T E D (some (.scr ns)::x1::x2::some (.ref ab)::some (enc t)::some (.int c)::x6::τ) S:=by
 walk_at "wp";intro p hp;refine znZ (r:=198) (N:=4) P.bk2 P.lft P.pb (keep P.fb hp) zah sh bd (by omega) (by omega) (Nat.le_trans (zwW ns 11) (by decide)) (by omega) fun S' l xs sb _ hl hx hn h3'=>?_;exact h S' l xs (P.sub ((Sub.put .refl hp).trans sb)) hl hx hn (Nat.le_trans h3' (zwW ns 11))
theorem rp7{c:Int}{l:Addr}{xs:List Tr}(h1:1≤c) (h3:c≤3) (P:Pre S aw at' ab w0 w1 w2 w3 w4 w5 tt B) (sh:Sh [w0,w1,w2,w3,w4,w5] B t) (bd:Bd t 4) (fl:S l=some (.lst (xs.map enc))) (hx:Roa [w0,w1,w2,w3,w4,w5] B t xs) (hn:(nR B xs:Int)≤c) (hx3:xs.length≤3) (h:∀S' l2 os,Rds S' [w0,w1,w2,w3,w4,w5] B ab t l l2 xs os→l2≠l→T E D (some (.scr ns)::x1::x2::some (.ref ab)::some (enc t)::some (.int c)::x6::some (.tup [enc t, .ref l2])::τ) S') :
  zar (wAsg (zal (zbc 199) (zab (zad 3) (zab (zad 4) (zab (wSl (zad 0) (woS (wC (.int 14))) (woS (wC (.int 17)))) (zab (wOp (zej fun i j=> .int (i - j)) (wC (.int 4)) (zad 5)) waNil))))) (wGN 7)) T E D (some (.scr ns)::x1::x2::some (.ref ab)::some (enc t)::some (.int c)::x6::x7::τ) S:=by
 walk_at "wp";intro p hp;refine znZ (r:=198) (N:=4) P.bk2 P.lft P.pb (keep P.fb hp) zah sh bd (by omega) (by omega) (Nat.le_trans (zwW ns 14) (by decide)) (by omega) fun S' l2 os sb hl0 hl ho hn' h3'=>?_;have sb2:=(Sub.put .refl hp).trans sb;refine h S' l2 os ⟨P.bk2,sb2 _ _ P.fb,sh,bd,sb2 _ _ fl,hl,hx,ho,by omega,hx3,Nat.le_trans h3' (zwW ns 14),by have:=P.b.len;omega⟩ ?_
 rintro rfl;rw [keep fl hp]at hl0;cases hl0
theorem zqo{S:Sto}(h:∀(S':Sto) (ws:List Str) (B:List Tn) (ab:Addr) (t:Tr) (l1 l2:Addr) (xs os:List Tr) (z1 z2 z5:Option W),Rds S' ws B ab t l1 l2 xs os→l2≠l1→T E D (some (.scr ns)::z1::z2::some (.ref ab)::some (enc t)::z5::some (.tup [enc t, .ref l1])::some (.tup [enc t, .ref l2])::τ) S') :
  zar (wAsg (zal (zaS 199) (zab (zal (zat 199) (zab (zad 0) (zab (wC (.int 0)) waNil))) (zab (zal (zat 199) (zab (zad 0) (zab (wC (.int 1)) waNil))) (zab (wC (.bl false)) waNil)))) (wGN 1))
  (zar (wAsg (zal (zaS 199) (zab (zal (zat 199) (zab (zad 0) (zab (wC (.int 2)) waNil))) (zab (zal (zat 199) (zab (zad 0) (zab (wC (.int 3)) waNil))) (zab (wC (.bl true)) waNil)))) (wGN 2))
  (zar (wAsg (zal (zbS 199) (zab (zad 0) (zab (wC (.int 4)) (zab (zad 1) (zab (zad 2) waNil))))) (wGN 3))
  (zar (wAsg (zal (zbB 199) (zab (zal (zbv 199) (zab (wSl (zad 0) (woS (wC (.int 17))) woN) (zab (zad 3) (zab (zad 1) (zab (wC (.int 6)) waNil))))) (zab (zad 3) (zab (wC (.int 8)) waNil)))) (wGN 4))
  (zar (wAsg (wOp zda (wC (.int 1)) (wOp (zcZ (fun _ j=>0<j) fun i j=> .int (i % j)) (zal (zat 199) (zab (zad 0) (zab (wC (.int 10)) waNil))) (wC (.int 3)))) (wGN 5))
  (zar (wAsg (zal (zbc 199) (zab (zad 3) (zab (zad 4) (zab (wSl (zad 0) (woS (wC (.int 11))) (woS (wC (.int 14)))) (zab (zad 5) waNil))))) (wGN 6))
  (zar (wAsg (zal (zbc 199) (zab (zad 3) (zab (zad 4) (zab (wSl (zad 0) (woS (wC (.int 14))) (woS (wC (.int 17)))) (zab (wOp (zej fun i j=> .int (i - j)) (wC (.int 4)) (zad 5)) waNil))))) (wGN 7)) T)))))) E D (some (.scr ns)::x1::x2::x3::x4::x5::x6::x7::τ) S:=
 zum fun S1 aw at' ab w0 w1 w2 w3 w4 w5 tt B P=>rp4 P fun t S2 P sh bd=>rp5 fun c h1 h3=>rp6 h1 h3 P sh bd fun S3 l1 xs P fl hx hn hx3=>rp7 h1 h3 P sh bd fl hx hn hx3 fun S4 l2 os R ne=>h S4 _ B ab t l1 l2 xs os _ _ _ R ne
end
theorem zqj{S:Sto}{n:Nat}{a b:Addr}{xs ys:List W}(ha:S a=some (.lst xs)) (hb:S b=some (.lst ys)) (h:zdI (eqF S n) xs ys=some true):eqF S (n+1) (.ref a) (.ref b)=some true:=by
 show(match S a with
  |some (.lst xs)=>match S b with
   |some (.lst ys)=>zdI (eqF S n) xs ys
   |_=>none
  |_=>none)=some true
 rw [ha,hb];exact h
theorem zpM{S:Sto}{n:Nat}:∀(xs:List Tr),(∀x∈xs,x.depth<n)→zdI (eqF S n) (xs.map enc) (xs.map enc)=some true
 | [],_=>rfl
 |x::xs,h=>by
  have h1:eqF S n (enc x) (enc x)=some true:=by rw [zoZ n _ _ (h x (by simp)),zfH]
  have h2:=zpM (S:=S) xs fun y hy=>h y (List.mem_cons_of_mem _ hy);rw [List.map_cons,zdI,h1,h2];rfl
theorem ziO{S:Sto}{n:Nat}{a b:Addr}{xs:List Tr}(hd:∀x∈xs,x.depth<n) (ha:S a=some (.lst (xs.map enc))) (hb:S b=some (.lst (xs.map enc))):eqF S (n+1) (.ref a) (.ref b)=some true:=zqj ha hb (zpM xs hd)
theorem zoc{S:Sto}{n:Nat}{a b:Addr}{t:Tr}{xs:List Tr}(ht:t.depth<n+1) (hd:∀x∈xs,x.depth<n) (ha:S a=some (.lst (xs.map enc))) (hb:S b=some (.lst (xs.map enc))):eqF S (n+2) (.tup [enc t, .ref a]) (.tup [enc t, .ref b])=some true:=by
 have h1:eqF S (n+1) (enc t) (enc t)=some true:=by rw [zoZ (n+1) _ _ ht,zfH]
 have h2:=ziO hd ha hb;show zdI (eqF S (n+1)) [enc t, .ref a] [enc t, .ref b]=some true;generalize eqF S (n+1)=f at h1 h2;simp only[zdI,h1,h2];rfl
theorem Roa.dep{ws:List Str}{B:List Tn}(K:Bk2 ws B):∀(xs:List Tr) {t:Tr},Roa ws B t xs→Bd t (nR B xs)→ ∀x∈xs,x.depth<50:=fun xs t hx hb x h=>by
 obtain⟨y,h2⟩:=Roa.two K xs hx hb x h;obtain⟨p,c,d,k,_,_,rfl,_⟩:=h2.ex;have:=k.dp (c:=c);omega
section
variable {ws:List Str}{B:List Tn}{ab l1 l2:Addr}{t:Tr}{xs os:List Tr}{S:Sto}
theorem Rds.cells (R:Rds S ws B ab t l1 l2 xs os):Cells ws B xs os:=zmX R.K xs os R.r1 R.r2 (R.bd.mono R.n)
theorem Rds.t1 (R:Rds S ws B ab t l1 l2 xs os):∀x∈xs,∃y,Two ws B x y:=Roa.two R.K xs R.r1 (R.bd.mono (by have:=R.n;omega))
theorem Rds.t2 (R:Rds S ws B ab t l1 l2 xs os):∀x∈os,∃y,Two ws B x y:=Roa.two R.K os R.r2 (R.bd.mono (by have:=R.n;omega))
end
theorem zus{x y:W}:atI [x,y] 1=some y:=by
 have h:([x,y]:List W)[1]? =some y:=by simp
 exact zoP (j:=1) h
section
variable {x:Tr}{xs:List Tr}
theorem zlR{α:Type}(f:α→Bool):∀(xs:List α),zjw (xs.map fun x=>W.bl (f x))=some (xs.map f)
 | []=>rfl
 |x::xs=>by rw [List.map_cons,zjw,zlR f xs];rfl
end
section
variable {ws:List Str}{B:List Tn}{x y t:Tr}
theorem Two.d1 (h:Two ws B x y):x.depth≤40∧(src B x).depth≤40∧(gol B x).depth≤40:=by
 obtain⟨p,c,d,k,hc,hd,rfl,rfl⟩:=h.ex;refine⟨k.dp,?_,?_⟩
 ·rw [show src B (p.ev B c)=_ from zeG k.b k.o];exact k.dp
 ·rw [show gol B (p.ev B c)=_ from zdq k.b k.o];exact k.dp
theorem zjp:∀(os:List Tr) {x:Tr},RowC ws B x os→ ∀j,j<os.length→ ∃u o,(zcX B x os)[j]? =some u∧os[j]? =some o∧(zcX B x os)[j+1]? =some (res B u o)∧(zhu B x os)[j]? =some (res B o u)∧Two ws B u o∧ ∃y,Two ws B (res B u o) y
 |o::os,x, .cons h1 h2 h3,j,hj=>by
  cases j with
  |zero=>
   refine⟨x,o,rfl,rfl,?_,rfl,h1,h2⟩;obtain⟨l,e⟩:=zjm (B:=B) os (res B x o);rw [zcX,e];rfl
  |succ j=>exact zjp os h3 j (by simpa using hj)
theorem zhX (xs os:List Tr):(zec B xs os)[0]? =some os:=by cases xs<;>rfl
theorem zkx:∀(xs os:List Tr),Cells ws B xs os→ ∀i,i<xs.length→ ∀j,j<os.length→ ∃line row row' u o,(zeC B xs os)[i]? =some line∧(zec B xs os)[i]? =some row∧(zec B xs os)[i+1]? =some row'∧line[j]? =some u∧row[j]? =some o∧line[j+1]? =some (res B u o)∧row'[j]? =some (res B o u)∧Two ws B u o∧ ∃y,Two ws B (res B u o) y
 |x::xs,os, .cons h1 h2,i,hi,j,hj=>by
  cases i with
  |zero=>
   obtain⟨u,o,e1,e2,e3,e4,h,h'⟩:=zjp os h1 j hj;exact⟨_,_,_,u,o,rfl,rfl,zhX xs _,e1,e2,e3,e4,h,h'⟩
  |succ i=>exact zkx xs _ h2 i (by simpa using hi) j (by rw [zhl];exact hj)
theorem zik (K:Bk2 ws B):∀(xs os:List Tr) {t:Tr},Roa ws B t xs→Roa ws B t os→Bd t (nR B xs+nR B os)→ ∀row∈zec B xs os,∀z∈row,∃y,Two ws B z y
 | [],os,t,_,ho,hb,row,hr,z,hz=>by
  rw [zec,List.mem_singleton]at hr;subst hr;exact Roa.two K _ ho (hb.mono (by omega)) z hz
 |x::xs,os,t,⟨hx,ex,hr⟩,ho,hb,row,hrow,z,hz=>by
  rw [nR]at hb;have r:=zpc K os hx ex ho (hb.mono (by omega));have b1:Bd (gol B x) (nR B xs+nR B os):=K.goal hx ex (hb.mono (by omega));rw [zec]at hrow;rcases List.mem_cons.mp hrow with rfl |hrow
  ·exact Roa.two K _ ho (hb.mono (by omega)) z hz
  ·exact zik K xs _ hr r.row (b1.mono (by have:=r.nr;omega)) row hrow z hz
theorem zko:∀(xs os:List Tr),(zeC B xs os).length=xs.length
 | [],os=>rfl
 |x::xs,os=>by rw [zeC,List.length_cons,zko xs];rfl
theorem zkb:∀(xs os:List Tr),(zec B xs os).length=xs.length+1
 | [],os=>rfl
 |x::xs,os=>by rw [zec,List.length_cons,zkb xs];rfl
theorem zjz:∀(xs os:List Tr) (l:List Tr),l∈zeC B xs os→l.length=os.length+1
 |x::xs,os,l,h=>by
  rw [zeC]at h;rcases List.mem_cons.mp h with rfl |h
  ·exact ziw os x
  ·rw [zjz xs _ l h,zhl]
theorem zjx:∀(xs os:List Tr) (l:List Tr),l∈zec B xs os→l.length=os.length
 | [],os,l,h=>by rw [zec,List.mem_singleton]at h;rw [h]
 |x::xs,os,l,h=>by
  rw [zec]at h;rcases List.mem_cons.mp h with rfl |h
  ·rfl
  ·rw [zjx xs _ l h,zhl]
theorem zgK:∀(xs os:List Tr),Paired (fun l x=>∃r,l=x::r) (zeC B xs os) xs
 | [],os=> .nil
 |x::xs,os=> .cons (zjm os x) (zgK xs _)
theorem zdC{α β:Type}{R:α→β→Prop}:∀{xs:List α}{ys:List β}{i:Nat}{y:β},Paired R xs ys→ys[i]? =some y→ ∃x,xs[i]? =some x∧R x y
 |_,_,i,y, .nil,e=>by simp at e
 |_,_,0,y, .cons h _,e=>by
  cases e;exact⟨_,rfl,h⟩
 |_,_,i+1,y, .cons _ h,e=>zdC (i:=i) h (by simpa using e)
theorem zfP{α β:Type}{R:α→β→Prop}:∀{xs:List α}{ys:List β},Paired R xs ys→xs.length=ys.length
 |_,_, .nil=>rfl
 |_,_, .cons _ h=>by rw [List.length_cons,List.length_cons,zfP h]
end
structure Cor (S:Sto) (ws:List Str) (B:List Tn) (ab d o:Addr) (i j:Int) (b1 b2 b3:Addr) (vd vo v1 v2 v3:List W) (u z:Tr):Prop where
  fb:S ab=some (.lst (B.map zbe))
  fd:S d=some (.lst vd)
  fo:S o=some (.lst vo)
  a1:atI vd i=some (.ref b1)
  a2:atI vo i=some (.ref b2)
  a3:atI vo (i+1)=some (.ref b3)
  f1:S b1=some (.lst v1)
  f2:S b2=some (.lst v2)
  f3:S b3=some (.lst v3)
  c1:atI v1 j=some (enc u)
  c2:atI v2 j=some (enc z)
  c3:atI v1 (j+1)=some (enc (res B u z))
  c4:atI v3 j=some (enc (res B z u))
  two:Two ws B u z
  dx:∃y,Two ws B (res B u z) y
  ox:∃y,Two ws B (res B z u) y
section
variable {S:Sto}{ws:List Str}{B:List Tn}{ab d o:Addr}{i j:Int}{b1 b2 b3:Addr}{vd vo v1 v2 v3:List W}{u z:Tr}{r:Nat}{E:WX}{D:WEnds}{T:WS}
theorem zyU (C:Cor S ws B ab d o i j b1 b2 b3 vd vo v1 v2 v3 u z) (hr:60≤r) (h:T E D [some (.ref ab),some (.ref d),some (.ref o),some (.int i),some (.int j)] S) :
  zbX (r+1) T E D [some (.ref ab),some (.ref d),some (.ref o),some (.int i),some (.int j)] S:=by
 rw [zbX];walk_at "wp";simp only[zdP,zag C.fd,zag C.fo,zag C.f1,zag C.f2,C.a1,C.a2,C.c1,C.c2];refine C.two.ok_made1 C.fb hr ?_;simp only[zdP,zag C.fd,zag C.fo,zag C.f1,zag C.f2,C.a1,C.a2,C.c1,C.c2];refine C.two.symm.ok_made1 C.fb hr ?_;rw [C.two.e,zhf (by have:=C.two.symm.d1.2.1;omega)];exact h
theorem zzQ (C:Cor S ws B ab d o i j b1 b2 b3 vd vo v1 v2 v3 u z) (hr:70≤r) (h:T E D [some (.ref ab),some (.ref d),some (.ref o),some (.int i),some (.int j)] S) :
  zbZ (r+2) T E D [some (.ref ab),some (.ref d),some (.ref o),some (.int i),some (.int j)] S:=by
 rw [zbZ];walk_at "wp";simp only[zdP,zag C.fd,zag C.fo,zag C.f1,zag C.f2,C.a1,C.a2,C.c1,C.c2,C.c3];refine C.two.ok_behind C.fb hr ?_;obtain⟨y,h2⟩:=C.dx;rw [zhf (by have:=h2.d1.1;omega)];exact h
theorem zzB (C:Cor S ws B ab d o i j b1 b2 b3 vd vo v1 v2 v3 u z) (hr:70≤r) (h:T E D [some (.ref ab),some (.ref d),some (.ref o),some (.int i),some (.int j)] S) :
  zci (r+2) T E D [some (.ref ab),some (.ref d),some (.ref o),some (.int i),some (.int j)] S:=by
 rw [zci];walk_at "wp";simp only[zdP,zag C.fd,zag C.fo,zag C.f1,zag C.f2,zag C.f3,C.a1,C.a2,C.a3,C.c1,C.c2,C.c4];refine C.two.symm.ok_behind C.fb hr ?_;obtain⟨y,h2⟩:=C.ox;rw [zhf (by have:=h2.d1.1;omega)];exact h
theorem zzn (C:Cor S ws B ab d o i j b1 b2 b3 vd vo v1 v2 v3 u z) (hr:60≤r) (h:D.rt (.bl true) S) :
  zck (r+1) E D [some (.ref ab),some (.ref d),some (.ref o),some (.int i),some (.int j)] S:=by
 obtain⟨y,h2⟩:=C.dx;obtain⟨y',h3⟩:=C.ox;rw [zck];walk_at "wp";simp only[zdP,zag C.fd,zag C.fo,zag C.f1,zag C.f3,C.a1,C.a3,C.c3,C.c4];refine h2.ok_made2 C.fb hr ?_;simp only[zdP,zag C.fd,zag C.fo,zag C.f1,zag C.f3,C.a1,C.a3,C.c3,C.c4];refine h3.ok_made2 C.fb hr ?_;rw [C.two.moved.go,zhf (by have:=h3.d1.2.2;omega)];exact h
theorem zpY{Q:WK}{X:Str→Sto→Prop}(C:Cor S ws B ab d o i j b1 b2 b3 vd vo v1 v2 v3 u z) (hr:72≤r) (h:Q (.bl true) S):zcf (r+1) [.ref ab, .ref d, .ref o, .int i, .int j] S Q X:=by
 rw [zcf,zfM];refine⟨rfl,?_⟩;obtain⟨r,rfl⟩:∃r',r=r'+2:=⟨r - 2,by omega⟩
 exact zyU (r:=r+1) C (by omega) (zzQ C (by omega) (zzB C (by omega) (zzn (r:=r+1) C (by omega) ⟨_, .refl,h⟩)))
end
theorem zmy{S:Sto}{n:Nat}{a1 a2 b1 b2:Addr}{t:Tr}{xs os:List Tr}(ht:t.depth<n+1) (hx:∀x∈xs,x.depth<n) (ho:∀x∈os,x.depth<n) (h1:S a1=some (.lst (xs.map enc))) (h2:S a2=some (.lst (os.map enc))) (g1:S b1=some (.lst (xs.map enc))) (g2:S b2=some (.lst (os.map enc))) :
  eqF S (n+3) (.tup [.tup [enc t, .ref a1], .tup [enc t, .ref a2]]) (.tup [.tup [enc t, .ref b1], .tup [enc t, .ref b2]])=some true:=by
 have e1:=zoc ht hx h1 g1;have e2:=zoc ht ho h2 g2;show zdI (eqF S (n+2)) [.tup [enc t, .ref a1], .tup [enc t, .ref a2]] [.tup [enc t, .ref b1], .tup [enc t, .ref b2]]=some true;generalize eqF S (n+2)=f at e1 e2;simp only[zdI,e1,e2];rfl
theorem zlB{S:Sto}{d:Addr}{ds:List Addr}{n m:Nat}{r:Nat}{Q:WK}{X:Str→Sto→Prop}(hd:S d=some (.lst (ds.map W.ref))) (hn:ds.length=n) (n9:n≤900) (hv:∀b∈ds,∃v,S b=some (.lst v)∧v.length=m) (h:Q (.bl true) S):zbU (r+1) [.ref d, .int n, .int m] S Q X:=by
 rw [zbU,zfM];refine⟨rfl,?_⟩;rw [zdv];walk_at "wp";rw [zag hd,zag hd,List.length_map,hn,beq_self_eq_true,if_neg (by decide)];rw [zdr];walk_at "wp";rw [zag hd];refine zaO (fun σ=>∃y,σ=[y,some (.int m)]) W.ref (fun _=>W.bl true) hd ds [] _ ⟨none,rfl⟩ (by simp;omega) (fun b hb σ R hI hR=>?_) ?_
 ·obtain⟨y,rfl⟩:=hI;obtain⟨v,hv,lv⟩:=hv b hb;rw [zeI];walk_at "wp";rw [zag hv,zag hv,lv,beq_self_eq_true];exact hR _ _ ⟨_,rfl⟩ .refl
 ·rw [List.nil_append,zlR (fun _=>true)];refine⟨_, .refl,?_⟩;rw [List.all_map];have:ds.all (id∘fun _=>true)=true:=by rw [List.all_eq_true];exact fun _ _=>rfl
  rw [this];exact h
section
variable {ws:List Str}{B:List Tn}{ab l1 l2 h1 h2 d o:Addr}{t:Tr}{xs os:List Tr}{S:Sto}{E:WX}{D:WEnds}{T:WS}{y0 y1 y2 y3 y4 y5 y6 y7 y8 y9 y10 y11 y12 y13 y14 y15 y16 y17:Option W}
theorem zxZ (R:Rds S ws B ab t l1 l2 xs os) (h:∀S' h1 h2,Sub S S'→Rds S' ws B ab t h1 h2 xs os→T E D [y0,y1,y2,y3,y4,y5,some (.tup [enc t, .ref l1]),some (.tup [enc t, .ref l2]),some (.tup [.tup [enc t, .ref h1], .tup [enc t, .ref h2]]),y9,y10,y11,y12,y13,y14,y15,y16,y17] S') :
  zdL 199 T E D [y0,y1,y2,y3,y4,y5,some (.tup [enc t, .ref l1]),some (.tup [enc t, .ref l2]),y8,y9,y10,y11,y12,y13,y14,y15,y16,y17] S:=by
 rw [zdL];walk_at "wp";simp only[zus]
 try walk_at "wp"
 rw [zag R.f1];intro h1 n1;refine⟨by decide,?_⟩;rw [zag (keep R.f2 n1)];intro h2 n2;refine⟨by decide,by decide,?_⟩
 have sb:=(Sub.put .refl n1).trans (.put .refl n2:Sub (put S h1 (.lst (xs.map enc))) (put (put S h1 (.lst (xs.map enc))) h2 (.lst (os.map enc))));have R':=R.sub sb;exact h _ h1 h2 sb ⟨R.K,R'.fb,R.sh,R.bd,keep zah n2,zah,R.r1,R.r2,R.n,R.x3,R.o3,R.hB⟩
theorem zyj (R:Rds S ws B ab t h1 h2 xs os) (h:∀S' d o,Grd S S' B xs os d o→T E D [y0,y1,y2,some (.ref ab),y4,y5,y6,y7,some (.tup [.tup [enc t, .ref h1], .tup [enc t, .ref h2]]),some (.tup [.ref d, .ref o]),y10,y11,y12,y13,y14,y15,y16,y17] S') :
  zdQ 199 T E D [y0,y1,y2,some (.ref ab),y4,y5,y6,y7,some (.tup [.tup [enc t, .ref h1], .tup [enc t, .ref h2]]),y9,y10,y11,y12,y13,y14,y15,y16,y17] S:=by
 have:=R.x3;have:=R.o3;rw [zdQ];walk_at "wp";simp only[zus]
 try walk_at "wp"
 exact zos (r:=198) R.fb R.f1 R.f2 R.cells R.t1 R.t2 R.bd.small.1 R.bd.small.2 (by omega) (by omega) (by omega) h
theorem Rds.dep1 (R:Rds S ws B ab t l1 l2 xs os):∀x∈xs,x.depth<50:=Roa.dep R.K _ R.r1 (R.bd.mono (by have:=R.n;omega))
theorem zvK (R:Rds S ws B ab t l1 l2 xs os) (f1:S h1=some (.lst (xs.map enc))) (f2:S h2=some (.lst (os.map enc))) (h:T E D [y0,y1,y2,y3,y4,y5,some (.tup [enc t, .ref l1]),some (.tup [enc t, .ref l2]),some (.tup [.tup [enc t, .ref h1], .tup [enc t, .ref h2]]),some (.tup [.ref d, .ref o]),y10,y11,y12,y13,y14,y15,y16,y17] S) :
  zdc 199 T E D [y0,y1,y2,y3,y4,y5,some (.tup [enc t, .ref l1]),some (.tup [enc t, .ref l2]),some (.tup [.tup [enc t, .ref h1], .tup [enc t, .ref h2]]),some (.tup [.ref d, .ref o]),y10,y11,y12,y13,y14,y15,y16,y17] S:=by
 rw [zdc];walk_at "wp";have d0:=R.bd.small.2;refine⟨by decide,?_⟩;rw [zmy (n:=57) (by omega) (fun x hx=>by have:=R.dep1 x hx;omega) (fun x hx=>by have:=R.symm.dep1 x hx;omega) f1 f2 R.f1 R.f2]
 exact h
theorem zvS (h:T E D [y0,y1,y2,y3,y4,y5,y6,y7,y8,some (.tup [.ref d, .ref o]),some (.ref d),some (.ref o),y12,y13,y14,y15,y16,y17] S) :
  zdd 199 T E D [y0,y1,y2,y3,y4,y5,y6,y7,y8,some (.tup [.ref d, .ref o]),y10,y11,y12,y13,y14,y15,y16,y17] S:=by
 rw [zdd];walk_at "wp";exact h
theorem zwK (f1:S l1=some (.lst (xs.map enc))) (h:T E D [y0,y1,y2,y3,y4,y5,some (.tup [enc t, .ref l1]),y7,y8,y9,y10,y11,some (.int xs.length),y13,y14,y15,y16,y17] S) :
  zde 199 T E D [y0,y1,y2,y3,y4,y5,some (.tup [enc t, .ref l1]),y7,y8,y9,y10,y11,y12,y13,y14,y15,y16,y17] S:=by
 rw [zde];walk_at "wp";simp only[zus]
 try walk_at "wp"
 rw [zag f1,List.length_map];exact h
theorem zwv (f2:S l2=some (.lst (os.map enc))) (h:T E D [y0,y1,y2,y3,y4,y5,y6,some (.tup [enc t, .ref l2]),y8,y9,y10,y11,y12,some (.int os.length),y14,y15,y16,y17] S) :
  zdb 199 T E D [y0,y1,y2,y3,y4,y5,y6,some (.tup [enc t, .ref l2]),y8,y9,y10,y11,y12,y13,y14,y15,y16,y17] S:=by
 rw [zdb];walk_at "wp";simp only[zus]
 try walk_at "wp"
 rw [zag f2,List.length_map];exact h
end
noncomputable abbrev Rw (S:Sto) (b:Addr) (l:List Tr):Prop:=S b=some (.lst (l.map enc))
theorem zcv{α β:Type}{R:α→β→Prop}:∀{xs:List α}{ys:List β}{x:α},Paired R xs ys→x∈xs→ ∃y∈ys,R x y
 |_,_,x, .nil,h=>by cases h
 |_,_,x, .cons h hs,hx=>by
  rcases List.mem_cons.mp hx with rfl |hx
  ·exact⟨_,List.mem_cons_self,h⟩
  ·obtain⟨y,hy,r⟩:=zcv hs hx;exact⟨y,List.mem_cons_of_mem _ hy,r⟩
structure Gf (S:Sto) (B:List Tn) (xs os:List Tr) (d o:Addr) (ds rs:List Addr):Prop where
  fd:S d=some (.lst (ds.map W.ref))
  fo:S o=some (.lst (rs.map W.ref))
  D:Paired (Rw S) ds (zeC B xs os)
  O:Paired (Rw S) rs (zec B xs os)
section
variable {ws:List Str}{B:List Tn}{ab l1 l2 d o:Addr}{t:Tr}{xs os:List Tr}{S S':Sto}{ds rs:List Addr}{E:WX}{D:WEnds}{T:WS}{y0 y1 y2 y3 y4 y5 y6 y7 y8 y9 y12 y13 y14 y15 y16 y17:Option W}
theorem Gf.sub (G:Gf S B xs os d o ds rs) (s:Sub S S'):Gf S' B xs os d o ds rs:=⟨s _ _ G.fd,s _ _ G.fo,zaE (fun _ _ h=>s _ _ h) G.D,zaE (fun _ _ h=>s _ _ h) G.O⟩
theorem Gf.ld (G:Gf S B xs os d o ds rs):ds.length=xs.length:=by rw [zfP G.D,zko]
theorem Gf.lo (G:Gf S B xs os d o ds rs):rs.length=xs.length+1:=by rw [zfP G.O,zkb]
theorem Gf.rd (G:Gf S B xs os d o ds rs):∀b∈ds,∃v,S b=some (.lst v)∧v.length=os.length+1:=fun b hb=>by
 obtain⟨l,hl,r⟩:=zcv G.D hb;exact⟨_,r,by rw [List.length_map,zjz _ _ _ hl]⟩
theorem Gf.ro (G:Gf S B xs os d o ds rs):∀b∈rs,∃v,S b=some (.lst v)∧v.length=os.length:=fun b hb=>by
 obtain⟨l,hl,r⟩:=zcv G.O hb;exact⟨_,r,by rw [List.length_map,zjx _ _ _ hl]⟩
theorem zvN (G:Gf S B xs os d o ds rs) (nx:xs.length≤3) (no:os.length≤3) (h:T E D [y0,y1,y2,y3,y4,y5,y6,y7,y8,y9,some (.ref d),some (.ref o),some (.int xs.length),some (.int os.length),y14,y15,y16,y17] S) :
  zdj 199 T E D [y0,y1,y2,y3,y4,y5,y6,y7,y8,y9,some (.ref d),some (.ref o),some (.int xs.length),some (.int os.length),y14,y15,y16,y17] S:=by
 rw [zdj];walk_at "wp";refine zlB (r:=198) (n:=xs.length) (m:=os.length+1) G.fd G.ld (by omega) G.rd ?_
 try walk_at "wp"
 refine zlB (r:=198) (n:=xs.length+1) (m:=os.length) G.fo G.lo (by omega) G.ro ?_;exact h
theorem zvR (G:Gf S B xs os d o ds rs) (R:Rds S ws B ab t l1 l2 xs os) (h:∀S',Sub S S'→T E D [y0,y1,y2,y3,y4,y5,some (.tup [enc t, .ref l1]),some (.tup [enc t, .ref l2]),y8,y9,some (.ref d),some (.ref o),y12,y13,y14,y15,y16,y17] S') :
  zdf 199 T E D [y0,y1,y2,y3,y4,y5,some (.tup [enc t, .ref l1]),some (.tup [enc t, .ref l2]),y8,y9,some (.ref d),some (.ref o),y12,y13,y14,y15,y16,y17] S:=by
 have nx:=R.x3;rw [zdf];walk_at "wp";rw [zag G.fd];obtain⟨zs,e1,e2,hz⟩:=zhJ (zgZ G.D (zgK (B:=B) xs os));have lz:zs.length=xs.length:=by rw [←e2,List.length_map]
 have e3:ds.map W.ref=zs.map fun z=>W.ref z.1:=by rw [←e1,List.map_map];rfl
 rw [e3];refine zaO (fun σ=>∃y,σ=[y]) (fun z:Addr×Tr=>W.ref z.1) (fun z=>enc z.2) (by rw [←e3];exact G.fd) zs [] _ ⟨none,rfl⟩ (by simp;omega) (fun z hz' σ R hI hR=>?_) ?_
 ·obtain⟨y,rfl⟩:=hI;obtain⟨l,r,l',rfl⟩:=hz z hz';rw [zgc];walk_at "wp";rw [zag r,List.map_cons,zgD];exact hR _ _ ⟨_,rfl⟩ .refl
 ·intro q hq;have eq':([]:List W)++zs.map (fun z=>enc z.2)=xs.map enc:=by rw [List.nil_append,←e2,List.map_map];rfl
  rw [eq'];have sb:Sub S (put S q (.lst (xs.map enc))):= .put .refl hq;have fq:put S q (.lst (xs.map enc)) q=some (.lst (xs.map enc)):=zah;generalize put S q (.lst (xs.map enc))=S2 at sb fq⊢;have R2:=R.sub sb;have G2:=G.sub sb;simp only[zus]
  try walk_at "wp"
  rw [ziO (n:=59) (fun x hx=>by have:=R.dep1 x hx;omega) fq R2.f1]
  obtain⟨b,eb,fb⟩:=zdC G2.O (zhX xs os);have ea:atI (rs.map W.ref) 0=some (.ref b):=by
   have:=zbz (xs:=rs.map W.ref) (n:=0);rw [List.getElem?_map,eb]at this;exact this
  try walk_at "wp"
  simp only[zag G2.fo,ea];rw [ziO (n:=59) (fun x hx=>by have:=R.symm.dep1 x hx;omega) fb R2.f2]
  exact h S2 sb
theorem Gf.cor (G:Gf S B xs os d o ds rs) (R:Rds S ws B ab t l1 l2 xs os) {i j:Nat}(hi:i<xs.length) (hj:j<os.length):∃b1 b2 b3 vd vo v1 v2 v3 u z,Cor S ws B ab d o i j b1 b2 b3 vd vo v1 v2 v3 u z:=by
 obtain⟨line,row,row',u,z,g1,g2,g3,c1,c2,c3,c4,two,dx⟩:=zkx xs os R.cells i hi j hj;obtain⟨b1,e1,f1⟩:=zdC G.D g1;obtain⟨b2,e2,f2⟩:=zdC G.O g2;obtain⟨b3,e3,f3⟩:=zdC G.O g3;have at1:∀{zs:List Addr}{k:Nat}{b:Addr},zs[k]? =some b→atI (zs.map W.ref) (k:Int)=some (.ref b):=fun {zs k b} e=>by rw [zbz,List.getElem?_map,e];rfl
 have at2:∀{zs:List Tr}{k:Nat}{b:Tr},zs[k]? =some b→atI (zs.map enc) (k:Int)=some (enc b):=fun {zs k b} e=>by rw [zbz,List.getElem?_map,e];rfl
 exact⟨b1,b2,b3,_,_,_,_,_,u,z,R.fb,G.fd,G.fo,at1 e1,at1 e2,at1 e3,f1,f2,f3,at2 c1,at2 c2,at2 c3,at2 c4,two,dx,zik R.K xs os R.r1 R.r2 (R.bd.mono R.n) row' (List.mem_of_getElem? g3) _ (List.mem_of_getElem? c4)⟩
theorem zvg (G:Gf S B xs os d o ds rs) (R:Rds S ws B ab t l1 l2 xs os) {i j:Nat}(hi:i<xs.length) (hj:j<os.length) (h:D.nx [y0,y1,y2,some (.ref ab),y4,y5,y6,y7,y8,y9,some (.ref d),some (.ref o),y12,y13,some (.int i),some (.int j),y16,y17] S) :
  zeX 199 zaW E D [y0,y1,y2,some (.ref ab),y4,y5,y6,y7,y8,y9,some (.ref d),some (.ref o),y12,y13,some (.int i),some (.int j),y16,y17] S:=by
 obtain⟨b1,b2,b3,vd,vo,v1,v2,v3,u,z,C⟩:=G.cor R hi hj;rw [zeX];walk_at "wp";exact zpY (r:=198) C (by omega) h
theorem zsX (G:Gf S B xs os d o ds rs) (R:Rds S ws B ab t l1 l2 xs os) {i:Nat}(hi:i<xs.length) (h:∀y15,D.nx [y0,y1,y2,some (.ref ab),y4,y5,y6,y7,y8,y9,some (.ref d),some (.ref o),y12,some (.int os.length),some (.int i),y15,y16,y17] S) :
  zfc 199 zaW E D [y0,y1,y2,some (.ref ab),y4,y5,y6,y7,y8,y9,some (.ref d),some (.ref o),y12,some (.int os.length),some (.int i),y15,y16,y17] S:=by
 have no:=R.o3;rw [zfc];walk_at "wp";refine⟨⟨by omega,by omega⟩,?_⟩
 rw [Int.toNat_natCast];refine ziv (fun _ σ S'=>S'=S∧ ∃z15,σ=[y0,y1,y2,some (.ref ab),y4,y5,y6,y7,y8,y9,some (.ref d),some (.ref o),y12,some (.int os.length),some (.int i),z15,y16,y17]) os.length ?_ ?_ ⟨rfl,_,rfl⟩
 ·rintro j hj σ S' N ⟨rfl,z15,rfl⟩ hN;rw [zgW];exact zvg G R hi hj (hN _ _ _ .refl ⟨rfl,_,rfl⟩)
 ·rintro σ S' ⟨rfl,z15,rfl⟩;exact h _
theorem zuR (G:Gf S B xs os d o ds rs) (R:Rds S ws B ab t l1 l2 xs os) (h:∀y14 y15,T E D [y0,y1,y2,some (.ref ab),y4,y5,y6,y7,y8,y9,some (.ref d),some (.ref o),some (.int xs.length),some (.int os.length),y14,y15,y16,y17] S) :
  zdi 199 T E D [y0,y1,y2,some (.ref ab),y4,y5,y6,y7,y8,y9,some (.ref d),some (.ref o),some (.int xs.length),some (.int os.length),y14,y15,y16,y17] S:=by
 have nx:=R.x3;rw [zdi];walk_at "wp";refine⟨⟨by omega,by omega⟩,?_⟩
 rw [Int.toNat_natCast];refine ziv (fun _ σ S'=>S'=S∧ ∃z14 z15,σ=[y0,y1,y2,some (.ref ab),y4,y5,y6,y7,y8,y9,some (.ref d),some (.ref o),some (.int xs.length),some (.int os.length),z14,z15,y16,y17]) xs.length ?_ ?_ ⟨rfl,_,_,rfl⟩
 ·rintro i hi σ S' N ⟨rfl,z14,z15,rfl⟩ hN;rw [zgW];exact zsX G R hi fun z15=>hN _ _ _ .refl ⟨rfl,_,_,rfl⟩
 ·rintro σ S' ⟨rfl,z14,z15,rfl⟩;exact h _ _
end
section
variable {ws:List Str}{B:List Tn}
theorem zmq:∀(os:List Tr) {x:Tr},RowC ws B x os→(∃y,Two ws B x y)→ ∀z∈zcX B x os,∃y,Two ws B z y
 | [],x,_,h,z,hz=>by
  rw [zcX,List.mem_singleton]at hz;rw [hz];exact h
 |o::os,x, .cons _ h2 h3,h,z,hz=>by
  rw [zcX]at hz;rcases List.mem_cons.mp hz with rfl |hz
  ·exact h
  ·exact zmq os h3 h2 z hz
theorem zjY:∀(xs os:List Tr),Cells ws B xs os→(∀x∈xs,∃y,Two ws B x y)→ ∀l∈zeC B xs os,∀z∈l,∃y,Two ws B z y
 | [],os,_,_,l,hl,z,hz=>by rw [zeC]at hl;cases hl
 |x::xs,os, .cons h1 h2,tx,l,hl,z,hz=>by
  rw [zeC]at hl;rcases List.mem_cons.mp hl with rfl |hl
  ·exact zmq os h1 (tx x (by simp)) z hz
  ·exact zjY xs _ h2 (fun y hy=>tx y (List.mem_cons_of_mem _ hy)) l hl z hz
end
theorem zir{S:Sto}{n:Nat}:∀{as bs:List Addr}{Ls:List (List Tr)},Paired (Rw S) as Ls→Paired (Rw S) bs Ls→(∀l∈Ls,∀z∈l,z.depth<n)→zdI (eqF S (n+1)) (as.map W.ref) (bs.map W.ref)=some true
 |_,_,_, .nil, .nil,_=>rfl
 |_,_,_, .cons a as, .cons b bs,h=>by
  have e1:=ziO (h _ List.mem_cons_self) a b;have e2:=zir as bs fun l hl=>h l (List.mem_cons_of_mem _ hl);rw [List.map_cons,List.map_cons,zdI,e1,e2];rfl
theorem zqL{S:Sto}{n:Nat}{B:List Tn}{xs os:List Tr}{d o d' o':Addr}{ds rs ds' rs':List Addr}(G:Gf S B xs os d o ds rs) (G':Gf S B xs os d' o' ds' rs') (h1:∀l∈zeC B xs os,∀z∈l,z.depth<n) (h2:∀l∈zec B xs os,∀z∈l,z.depth<n):eqF S (n+3) (.tup [.ref d, .ref o]) (.tup [.ref d', .ref o'])=some true:=by
 have e1:=zqj G.fd G'.fd (zir G.D G'.D h1);have e2:=zqj G.fo G'.fo (zir G.O G'.O h2);show zdI (eqF S (n+2)) [.ref d, .ref o] [.ref d', .ref o']=some true;generalize eqF S (n+2)=f at e1 e2;simp only[zdI,e1,e2];rfl
noncomputable def zqk (S:Sto) (bad:List Addr):Sto:=fun a=>if a∈bad then none else S a
theorem ztx{S:Sto}{bad:List Addr}:Sub (zqk S bad) S:=fun a v h=>by
 unfold zqk at h;split at h
 ·cases h
 ·exact h
theorem zqu{S S':Sto}{bad:List Addr}(s:Sub S S'):Sub (zqk S bad) (zqk S' bad):=fun a v h=>by
 unfold zqk at h⊢;split at h
 ·cases h
 ·rename_i hn;rw [if_neg hn];exact s _ _ h
theorem zeP{α β:Type}{R R':α→β→Prop}:∀{xs:List α}{ys:List β},(∀a b,a∈xs→R a b→R' a b)→Paired R xs ys→Paired R' xs ys
 |_,_,_, .nil=> .nil
 |_,_,h, .cons r rs=> .cons (h _ _ List.mem_cons_self r) (zeP (fun a b ha=>h a b (List.mem_cons_of_mem _ ha)) rs)
theorem zmV{S:Sto}{bad:List Addr}{a:Addr}(h:a∈bad):zqk S bad a=none:=if_pos h
theorem zit{S:Sto}{bad:List Addr}{a:Addr}{v:Ob}(h:a∉bad) (e:S a=some v):zqk S bad a=some v:=by
 unfold zqk;rw [if_neg h];exact e
section
variable {ws:List Str}{B:List Tn}{ab l1 l2 h1 h2 d o kd ko:Addr}{t:Tr}{xs os:List Tr}{S S1 S':Sto}{ds rs k1 k2:List Addr}{E:WX}{D:WEnds}{T:WS}{y0 y1 y2 y3 y4 y5 y6 y7 y8 y9 y10 y11 y12 y13 y14 y15 y16 y17:Option W}
theorem zhy{e:WE}(he:∀{E:WX}{a:Addr}{S:Sto}{v:List W}{Q:WK},S a=some (.lst v)→(∀q,S q=none→Q (.ref q) (put S q (.lst v)))→e E [some (.ref a)] S Q) {S0:Sto}{G:Sto→Prop}{Q:List W→Sto→Prop}(hG:∀S,Sub S0 S→G S):∀{ds:List Addr}{Ls:List (List Tr)},Paired (Rw S0) ds Ls→ ∀(acc:List W) (S:Sto) (y:Option W),Sub S0 S→acc.length+ds.length≤1000→
  (∀S' ks,Sub S S'→Paired (Rw S') ks Ls→(∀k∈ks,S k=none)→Q (acc++ks.map W.ref) S')→zez (wGN 0) zgz e E G Q (ds.map W.ref) acc [y] S
 |_,_, .nil=>fun acc S y sb hl h=>by
  have:=h S [] .refl .nil (fun _ h=>nomatch h);simpa [zez]using this
 |_,_, .cons (a:=a) hd hs=>fun acc S y sb hl h=>by
  rw [List.length_cons]at hl;simp only[List.map_cons,zez,zgz,if_true];rw [zgW];refine he (sb _ _ hd) fun q hq=>⟨zbu (by omega),_, .refl,hG _ (sb.trans (.put .refl hq)),?_⟩;refine zhy he hG hs _ _ _ (sb.trans (.put .refl hq)) (by rw [List.length_append,List.length_singleton];omega) fun S' ks s' hp hk=>?_;have:=h S' (q::ks) ((Sub.put .refl hq).trans s') (.cons (s' _ _ zah) hp) (fun k hk'=>by
   rcases List.mem_cons.mp hk' with rfl |hk'
   ·exact hq
   ·exact zet (.put .refl hq) (hk k hk'))
  simpa using this
theorem zvh (G:Gf S B xs os d o ds rs) (nx:xs.length≤3) (h:∀S' kd ko k1 k2,Sub S S'→Gf S' B xs os kd ko k1 k2→S kd=none→S ko=none→(∀k∈k1,S k=none)→(∀k∈k2,S k=none)→T E D [y0,y1,y2,y3,y4,y5,y6,y7,y8,y9,some (.ref d),some (.ref o),y12,y13,y14,y15,some (.tup [.ref kd, .ref ko]),y17] S') :
  zdh 199 T E D [y0,y1,y2,y3,y4,y5,y6,y7,y8,y9,some (.ref d),some (.ref o),y12,y13,y14,y15,y16,y17] S:=by
 have ld:=G.ld;have lo:=G.lo;rw [zdh];walk_at "wp";rw [zag G.fd];refine zhy (fun {E a S v Q} f q=>by
  rw [zhm];walk_at "wp";rw [zag f];exact q) (fun S' s=>s _ _ G.fd) G.D [] _ _ .refl (by simp;omega) fun S1 k1 s1 p1 n1=>?_
 rw [List.nil_append];intro kd nd;have sd:Sub S1 (put S1 kd (.lst (k1.map W.ref))):= .put .refl nd;have fd:put S1 kd (.lst (k1.map W.ref)) kd=some (.lst (k1.map W.ref)):=zah;generalize put S1 kd (.lst (k1.map W.ref))=S2 at sd fd⊢;have s2:=s1.trans sd;have G2:=G.sub s2;rw [zag G2.fo];refine zhy (fun {E a S v Q} f q=>by
  rw [zhh];walk_at "wp";rw [zag f];exact q) (fun S' s=>s _ _ G2.fo) G2.O [] _ _ .refl (by simp;omega) fun S3 k2 s3 p2 n2=>?_
 rw [List.nil_append];intro ko no;have so:Sub S3 (put S3 ko (.lst (k2.map W.ref))):= .put .refl no;refine⟨by decide,h _ kd ko k1 k2 ((s2.trans s3).trans so) ⟨so _ _ (s3 _ _ fd),zah,zaE (fun _ _ z=>so _ _ (s3 _ _ (sd _ _ z))) p1,zaE (fun _ _ z=>so _ _ z) p2⟩ (zet s1 nd) (zet (s2.trans s3) no) n1 fun k hk=>zet s2 (n2 k hk)⟩
theorem zlK{P:Sto}{G:Sto→Prop}{rows:List Addr}{vd:Ob}(hG:∀S,Sub P S→G S) (hP:∀b∈rows,P b=none) (hd:d∉rows):∀(bs:List Addr),(∀b∈bs,b∈rows)→ ∀(S:Sto) (y17:Option W),Sub P S→S d=some vd→(∀b∈rows,∃v,S b=some (.lst v)∧v.length+bs.length≤900)→
  (∀S' y17,Sub P S'→S' d=some vd→D.nx [y0,y1,y2,y3,some (enc t),y5,y6,y7,y8,y9,y10,y11,y12,y13,y14,y15,y16,y17] S')→
  forL (wGN 17) (zeK 199 zaW) E D G (bs.map W.ref) [y0,y1,y2,y3,some (enc t),y5,y6,y7,y8,y9,y10,y11,y12,y13,y14,y15,y16,y17] S
 | [],_,S,y17,sb,fd,_,h=>h S _ sb fd
 |b::bs,hb,S,y17,sb,fd,hv,h=>by
  have mb:=hb b List.mem_cons_self;obtain⟨v,fv,lv⟩:=hv b mb;rw [List.length_cons]at lv;rw [List.map_cons];refine zcc fun N hN=>?_;rw [zgW,zeK];walk_at "wp";rw [zag fv,zag fv];have nd:d≠b:=fun e=>hd (e▸mb);have sb':Sub P (put S b (.lst (v++[enc t]))):= .put sb (hP b mb);refine⟨trivial,zbu (by omega),hN _ _ _ .refl (hG _ sb') (zlK hG hP hd bs (fun c hc=>hb c (List.mem_cons_of_mem _ hc)) _ _ sb' (by rw [zaD nd];exact fd) (fun c hc=>?_) h)⟩;by_cases e:c=b
  ·subst e;exact⟨_,zah,by rw [List.length_append,List.length_singleton];omega⟩
  ·obtain⟨w,fw,lw⟩:=hv c hc;rw [List.length_cons]at lw;exact⟨w,by rw [zaD e];exact fw,by omega⟩
theorem zuP (G:Gf S B xs os d o ds rs) (nd:d∉ds++rs) (nx:xs.length≤3) (no:os.length≤3) (h:∀S' y17,Sub (zqk S (d::(ds++rs))) S'→S' d=some (.lst (ds.map W.ref))→T E D [y0,y1,y2,y3,some (enc t),y5,y6,y7,y8,y9,some (.ref d),some (.ref o),y12,y13,y14,y15,y16,y17] S') :
  zdl 199 T E D [y0,y1,y2,y3,some (enc t),y5,y6,y7,y8,y9,some (.ref d),some (.ref o),y12,y13,y14,y15,y16,y17] S:=by
 have ld:=G.ld;have lo:=G.lo;rw [zdl];walk_at "wp";rw [zag G.fd,zag G.fo];rw [←List.map_append];refine⟨zan (by rw [List.length_map,List.length_map];omega),fun p hp=>?_⟩;have sp:Sub S (put S p (.lst ((ds++rs).map W.ref))):= .put .refl hp;have row:∀b∈ds++rs,∃v,S b=some (.lst v)∧v.length≤4:=fun b hb=>by
  rcases List.mem_append.mp hb with hb |hb
  ·obtain⟨v,f,l⟩:=G.rd b hb;exact⟨v,f,by omega⟩
  ·obtain⟨v,f,l⟩:=G.ro b hb;exact⟨v,f,by omega⟩
 have pn:p∉d::(ds++rs):=fun hm=>by
  rcases List.mem_cons.mp hm with rfl |hm
  ·rw [G.fd]at hp;cases hp
  ·obtain⟨v,f,_⟩:=row p hm;rw [f]at hp;cases hp
 refine zlK (P:=zqk (put S p (.lst ((ds++rs).map W.ref))) (d::(ds++rs))) (rows:=ds++rs) (vd:= .lst (ds.map W.ref)) (fun S' s=>s _ _ (zit pn zah)) (fun b hb=>zmV (List.mem_cons_of_mem _ hb)) nd (ds++rs) (fun _ h=>h) _ _ ztx (sp _ _ G.fd) (fun b hb=>?_) fun S' y17 s f=>h S' y17 ((zqu sp).trans s) f;obtain⟨v,f,l⟩:=row b hb;exact⟨v,sp _ _ f,by rw [List.length_append];omega⟩
theorem zvP{P:Sto}(sb:Sub P S) (pd:P d=none) (fd:S d=some (.lst (ds.map W.ref))) (nd:ds.length≤900) (h:∀S',Sub P S'→T E D [y0,y1,y2,y3,y4,y5,y6,y7,y8,y9,some (.ref d),y11,y12,y13,y14,y15,y16,y17] S') :
  zdk 199 T E D [y0,y1,y2,y3,y4,y5,y6,y7,y8,y9,some (.ref d),y11,y12,y13,y14,y15,y16,y17] S:=by
 rw [zdk];walk_at "wp";rw [zag fd];refine⟨trivial,Nat.zero_le _,fun e ne=>?_⟩;rw [zag (keep fd ne)];refine⟨zbu (by rw [List.length_map];omega),h _ (.put (sb.trans (.put .refl ne)) pd)⟩
theorem zwI (R:Rds S ws B ab t h1 h2 xs os) (f1:S l1=some (.lst (xs.map enc))) (f2:S l2=some (.lst (os.map enc))) (G:Gf S B xs os kd ko k1 k2) (hD:∀S',D.rt (.bl true) S') :
  zdn 199 E D [y0,y1,y2,some (.ref ab),y4,y5,some (.tup [enc t, .ref l1]),some (.tup [enc t, .ref l2]),some (.tup [.tup [enc t, .ref h1], .tup [enc t, .ref h2]]),y9,y10,y11,y12,y13,y14,y15,some (.tup [.ref kd, .ref ko]),y17] S:=by
 have:=R.x3;have:=R.o3;have d0:=R.bd.small.2;rw [zdn];walk_at "wp";simp only[zus]
 try walk_at "wp"
 refine zos (r:=198) R.fb R.f1 R.f2 R.cells R.t1 R.t2 R.bd.small.1 R.bd.small.2 (by omega) (by omega) (by omega) fun S' d' o' g=>?_;obtain⟨ds',rs',g1,g2,g3,g4⟩:=g.ex;have G':Gf S' B xs os d' o' ds' rs':=⟨g1,g2,zaE (fun _ _ z=>z.e) g3,zaE (fun _ _ z=>z.e) g4⟩;rw [zqL (n:=57) G' (G.sub g.sub) (fun l hl z hz=>by
  obtain⟨y,h2⟩:=zjY xs os R.cells R.t1 l hl z hz;have:=h2.d1.1;omega) fun l hl z hz=>by
  obtain⟨y,h2⟩:=zik R.K xs os R.r1 R.r2 (R.bd.mono R.n) l hl z hz;have:=h2.d1.1;omega]
 try walk_at "wp"
 have R':=R.sub g.sub;rw [zmy (n:=57) (by omega) (fun x hx=>by have:=R.dep1 x hx;omega) (fun x hx=>by have:=R.symm.dep1 x hx;omega) R'.f1 R'.f2 (g.sub _ _ f1) (g.sub _ _ f2)]
 exact⟨by decide,hD _⟩
end
theorem zvw (ns:List Int) (hl:ns.length≤63):zdH 200 [.scr ns] (fun _=>none) (fun w _=>w= .bl true) (fun _ _=>False):=by
 rw [show(200:Nat)=199+1 from rfl,zdH,zfM];refine⟨rfl,?_⟩;unfold zfa zeV zeW zeS zeU zeN zfb;refine zqo fun S ws B ab t l1 l2 xs os z1 z2 z5 R _=>zxZ R fun S1 h1 h2 s1 Rh=>zyj Rh fun S2 d o g=>?_;have R1:=R.sub s1;have nx:=R.x3;have no:=R.o3;obtain⟨ds,rs,g1,g2,g3,g4⟩:=g.ex;have G:Gf S2 B xs os d o ds rs:=⟨g1,g2,zaE (fun _ _ z=>z.e) g3,zaE (fun _ _ z=>z.e) g4⟩;have R2:=R1.sub g.sub;have Rh2:=Rh.sub g.sub;have bad:∀b∈d::(ds++rs),S1 b=none:=fun b hb=>by
  rcases List.mem_cons.mp hb with rfl |hb
  ·exact g.d0
  ·rcases List.mem_append.mp hb with hb |hb
   ·obtain⟨l,_,z⟩:=zcv g3 hb;exact z.z
   ·obtain⟨l,_,z⟩:=zcv g4 hb;exact z.z
 have nd:d∉ds++rs:=fun hb=>by
  rcases List.mem_append.mp hb with hb |hb
  ·obtain⟨l,_,z⟩:=zcv g3 hb;exact z.d rfl
  ·obtain⟨l,_,z⟩:=zcv g4 hb;exact z.d rfl
 refine zvK R2 Rh2.f1 Rh2.f2 (zvS (zwK R2.f1 (zwv R2.f2 (zvN G nx no (zvR G R2 fun S3 s3=>?_)))));have G3:=G.sub s3;have R3:=R2.sub s3;have Rh3:=Rh2.sub s3;have s13:=g.sub.trans s3;refine zuR G3 R3 fun y14 y15=>zvh G3 nx fun S4 kd ko k1 k2 s4 Gk nkd nko nk1 nk2=>?_;have G4:=G3.sub s4;have inb:∀b∈d::(ds++rs),∃v,S3 b=some v:=fun b hb=>by
  rcases List.mem_cons.mp hb with rfl |hb
  ·exact⟨_,G3.fd⟩
  ·rcases List.mem_append.mp hb with hb |hb
   ·obtain⟨v,f,_⟩:=G3.rd b hb;exact⟨_,f⟩
   ·obtain⟨v,f,_⟩:=G3.ro b hb;exact⟨_,f⟩
 have far:∀{k:Addr},S3 k=none→k∉d::(ds++rs):=fun {k} hk hb=>by
  obtain⟨v,f⟩:=inb k hb;rw [f]at hk;cases hk
 have old:∀{k:Addr}{v:Ob},S1 k=some v→k∉d::(ds++rs):=fun {k v} hk hb=>by
  rw [bad k hb]at hk;cases hk
 have s14:=s13.trans s4;refine zuP G4 nd nx no fun S5 y17 s5 fd5=>zvP s5 (zmV List.mem_cons_self) fd5 (by have:=G.ld;omega) fun S6 s6=>?_;have up:∀{k:Addr}{v:Ob},S1 k=some v→S6 k=some v:=fun {k v} hk=>s6 _ _ (zit (old hk) (s14 _ _ hk));have Rf:Rds S6 ws B ab t h1 h2 xs os:=⟨R.K,up Rh.fb,R.sh,R.bd,up Rh.f1,up Rh.f2,R.r1,R.r2,R.n,R.x3,R.o3,R.hB⟩;have upk:∀{k:Addr}{v:Ob},S3 k=none→S4 k=some v→S6 k=some v:=fun {k v} hn hk=>s6 _ _ (zit (far hn) hk);have Gf6:Gf S6 B xs os kd ko k1 k2:=⟨upk nkd Gk.fd,upk nko Gk.fo,zeP (fun a _ ha z=>upk (nk1 a ha) z) Gk.D,zeP (fun a _ ha z=>upk (nk2 a ha) z) Gk.O⟩;exact zwI Rf (up R1.f1) (up R1.f2) Gf6 fun _=>⟨_, .refl,rfl⟩
end L2
end
end
section
namespace K28
open PySem L2 PyProof.Rows
noncomputable def top (i:Nat):Stmt:=PySem.Challenge.pw_turnweave_k28_grid.main.body.getD i (.Pass ⟨0,0,0,0⟩)
structure Cal (P:Program) (w:World) (K:PySem.W.Frag) (mg:Str→Option Value) (base:Heap) (nm:Str) (ps:List Str) (c:Nat→WSp) where
  zf:Addr
  zd:FuncData
  zg:∀r,FnOk P w K mg base CX0 r zf zd ps (zdZ K (c r))
  zb:Binds K zd ps []
  zk:PySem.W.keepIn K (.ref zf)=true
  zm:mg nm=some (.ref zf)
noncomputable def mkC {P:Program}{w:World}{K:PySem.W.Frag}{h:Heap}{mg:Str→Option Value}{base:Heap}{nm:Str}{st:Stmt}{ps:List Str}{c:Nat→WSp}{f:Addr}{d:FuncData}(X:K.In h) (G:h.Ns mainGlobals mg) (F:Fun K nm nm st f d) (a:PySem.W.nsIn K mainGlobals nm=some (some (.ref f))) (g:∀r,FnOk P w K mg base CX0 r f d ps (zdZ K (c r))) (b:Binds K d ps []):Cal P w K mg base nm ps c:=⟨f,d,g,b,F.kp,PySem.W.mg_of X G a⟩
noncomputable def Dfn (K:PySem.W.Frag) (nm:Str) (st:Stmt):Prop:=∃f d,PySem.W.nsIn K mainGlobals nm=some (some (.ref f))∧Fun K nm nm st f d
theorem dfn{K:PySem.W.Frag}{x:Str}{st:Stmt}{f:Addr}{oc:Value}{od an:Option Addr}{osl:Array (Option Value)}{kV doc pm cdv ct:Value}(a:PySem.W.nsIn K mainGlobals x=some (some (.ref f))) (l:K.lookup f=some ⟨oc,od, .func (PySem.W.fnOf x x (zhk st) (zeQ st) (zak st) .none kV doc pm an cdv ct),osl⟩) (c:PySem.W.codeIn K cdv x=true) (k:PySem.W.keepIn K (.ref f)=true):Dfn K x st:=⟨f,_,a,zvt l c k⟩
theorem nC{p:List Value→Prop}{k:Nat}(h:∀a us,us.length=k→p (a::us)):∀us,us.length=k+1→p us:=fun us e=>by
 cases us with
 |nil=>cases e
 |cons a us=>exact h a us (Nat.succ.inj e)
theorem n0{p:List Value→Prop}(h:p []):∀us,us.length=0→p us:=fun us e=>by
 cases us with
 |nil=>exact h
 |cons a us=>cases e
theorem n1{p:List Value→Prop}(h:∀a,p [a]):∀us,us.length=1→p us:=nC fun a=>n0 (p:=fun us=>p (a::us)) (h a)
theorem n2{p:List Value→Prop}(h:∀a b,p [a,b]):∀us,us.length=2→p us:=nC fun a=>n1 (p:=fun us=>p (a::us)) (h a)
theorem n3{p:List Value→Prop}(h:∀a b c,p [a,b,c]):∀us,us.length=3→p us:=nC fun a=>n2 (p:=fun us=>p (a::us)) (h a)
theorem n4{p:List Value→Prop}(h:∀a b c d,p [a,b,c,d]):∀us,us.length=4→p us:=nC fun a=>n3 (p:=fun us=>p (a::us)) (h a)
theorem n5{p:List Value→Prop}(h:∀a b c d e,p [a,b,c,d,e]):∀us,us.length=5→p us:=nC fun a=>n4 (p:=fun us=>p (a::us)) (h a)
theorem n6{p:List Value→Prop}(h:∀a b c d e f,p [a,b,c,d,e,f]):∀us,us.length=6→p us:=nC fun a=>n5 (p:=fun us=>p (a::us)) (h a)
local macro_rules | `(tactic| walk_at "sc") => `(tactic| (refine ⟨rfl, rfl, rfl, ?_, rfl, ?_, ?_⟩ <;> decide +kernel))
noncomputable abbrev Ok (P:Program) (w:World) (K:PySem.W.Frag) (mg:Str→Option Value) (base:Heap) (f:Addr) (d:FuncData) (ps:List Str) (c:Nat→WSp):Prop:=∀r,FnOk P w K mg base CX0 r f d ps (zdZ K (c r))
theorem zcY{P:Program}{w:World}{K:PySem.W.Frag}{mg:Str→Option Value}{base:Heap}{f:Addr}{d:FuncData}{ps:List Str}{c:Nat→WSp}(h0:c 0=zaW) (h:∀r,FnOk P w K mg base CX0 r f d ps (zdZ K (c r))→FnOk P w K mg base CX0 (r+1) f d ps (zdZ K (c (r+1)))):Ok P w K mg base f d ps c:=fun r=>by
 induction r with
 |zero=>rw [h0];exact zvX
 |succ r ih=>exact h r ih
noncomputable abbrev s0:Stmt:=top 9
theorem sc0:FnScope ["t"] ["t"] (zak s0):=by walk_at "sc"
noncomputable abbrev s1:Stmt:=top 10
theorem sc1:FnScope ["things", "found", "thing"] ["things"] (zak s1):=by walk_at "sc"
noncomputable abbrev s2:Stmt:=top 11
theorem sc2:FnScope ["t", "heavy", "deep", "level"] ["t"] (zak s2):=by walk_at "sc"
noncomputable abbrev s3:Stmt:=top 13
theorem sc3:FnScope ["t", "place", "found", "number", "inner"] ["t", "place", "found"] (zak s3):=by walk_at "sc"
noncomputable abbrev s4:Stmt:=top 12
theorem sc4:FnScope ["t", "found"] ["t"] (zak s4):=by walk_at "sc"
noncomputable abbrev s5:Stmt:=top 15
theorem sc5:FnScope ["t", "number", "parts"] ["t", "number"] (zak s5):=by walk_at "sc"
noncomputable abbrev s6:Stmt:=top 14
theorem sc6:FnScope ["t", "place", "thing", "number"] ["t", "place"] (zak s6):=by walk_at "sc"
noncomputable abbrev s7:Stmt:=top 17
theorem sc7:FnScope ["side"] ["side"] (zak s7):=by walk_at "sc"
noncomputable abbrev s8:Stmt:=top 18
theorem sc8:FnScope ["side", "things"] ["side", "things"] (zak s8):=by walk_at "sc"
noncomputable abbrev s9:Stmt:=top 21
theorem sc9:FnScope ["one", "other"] ["one", "other"] (zak s9):=by walk_at "sc"
noncomputable abbrev s10:Stmt:=top 20
theorem sc10:FnScope ["left", "t", "things", "inner", "thing"] ["left", "t", "things"] (zak s10):=by walk_at "sc"
noncomputable abbrev s11:Stmt:=top 19
theorem sc11:FnScope ["left", "t", "things"] ["left", "t"] (zak s11):=by walk_at "sc"
noncomputable abbrev s12:Stmt:=top 25
theorem sc12:FnScope ["book", "title", "turning"] ["book", "title"] (zak s12):=by walk_at "sc"
noncomputable abbrev s13:Stmt:=top 29
theorem zzM:FnScope ["shape"] ["shape"] (zak s13):=by walk_at "sc"
noncomputable abbrev s14:Stmt:=top 30
theorem sc14:FnScope ["book", "way", "side", "parts", "turning"] ["book", "way", "side"] (zak s14):=by walk_at "sc"
noncomputable abbrev s15:Stmt:=top 27
theorem zzG:FnScope ["book", "way"] ["book", "way"] (zak s15):=by walk_at "sc"
noncomputable abbrev s16:Stmt:=top 28
theorem zzj:FnScope ["book", "way"] ["book", "way"] (zak s16):=by walk_at "sc"
noncomputable abbrev s17:Stmt:=top 31
theorem sc17:FnScope ["book", "way", "turning"] ["book", "way"] (zak s17):=by walk_at "sc"
noncomputable abbrev s18:Stmt:=top 35
theorem sc18:FnScope ["book", "shape", "turning"] ["book", "shape"] (zak s18):=by walk_at "sc"
noncomputable abbrev s19:Stmt:=top 34
theorem sc19:FnScope ["book", "shape", "place", "found", "turning", "number", "inner"] ["book", "shape", "place", "found"] (zak s19):=by walk_at "sc"
noncomputable abbrev s20:Stmt:=top 33
theorem sc20:FnScope ["book", "shape", "found"] ["book", "shape"] (zak s20):=by walk_at "sc"
noncomputable abbrev s21:Stmt:=top 36
theorem zyZ:FnScope ["pairs"] ["pairs"] (zak s21):=by walk_at "sc"
noncomputable abbrev s22:Stmt:=top 40
theorem sc22:FnScope ["book", "shape", "turning"] ["book", "shape"] (zak s22):=by walk_at "sc"
noncomputable abbrev s23:Stmt:=top 39
theorem sc23:FnScope ["book", "shape", "place", "wanted", "top", "parts", "spot", "inner"] ["book", "shape", "place", "wanted"] (zak s23):=by walk_at "sc"
noncomputable abbrev s24:Stmt:=top 38
theorem zzC:FnScope ["book", "shape", "places"] ["book", "shape", "places"] (zak s24):=by walk_at "sc"
noncomputable abbrev s25:Stmt:=top 37
theorem sc25:FnScope ["book", "shape", "places", "known", "place"] ["book", "shape", "places"] (zak s25):=by walk_at "sc"
noncomputable abbrev s26:Stmt:=top 43
theorem sc26:FnScope ["book", "way", "other", "shape"] ["book", "way", "other"] (zak s26):=by walk_at "sc"
noncomputable abbrev s27:Stmt:=top 44
theorem sc27:FnScope ["book", "way", "other", "first", "second", "mine", "yours", "parts"] ["book", "way", "other"] (zak s27):=by walk_at "sc"
noncomputable abbrev s28:Stmt:=top 42
theorem zAa:FnScope ["book", "way", "other"] ["book", "way", "other"] (zak s28):=by walk_at "sc"
noncomputable abbrev s29:Stmt:=top 48
theorem sc29:FnScope ["book", "ways", "way"] ["book", "ways"] (zak s29):=by walk_at "sc"
noncomputable abbrev s30:Stmt:=top 47
theorem sc30:FnScope ["book", "way", "ways", "line", "over", "way_on"] ["book", "way", "ways"] (zak s30):=by walk_at "sc"
noncomputable abbrev s31:Stmt:=top 46
theorem sc31:FnScope ["book", "road", "other", "downs", "row", "overs", "way", "line"] ["book", "road", "other"] (zak s31):=by walk_at "sc"
noncomputable abbrev s32:Stmt:=top 50
theorem zzi:FnScope ["script", "k"] ["script", "k"] (zak s32):=by walk_at "sc"
noncomputable abbrev s33:Stmt:=top 51
theorem sc33:FnScope ["one", "two", "great", "signs", "rest", "base", "k", "at", "words", "word"] ["one", "two", "great"] (zak s33):=by walk_at "sc"
noncomputable abbrev s34:Stmt:=top 52
theorem zzJ:FnScope ["side"] ["side"] (zak s34):=by walk_at "sc"
noncomputable abbrev s35:Stmt:=top 53
theorem zzU:FnScope ["side", "things"] ["side", "things"] (zak s35):=by walk_at "sc"
noncomputable abbrev s36:Stmt:=top 54
theorem zyR:FnScope ["draw", "many", "w"] ["draw", "many", "w"] (zak s36):=by walk_at "sc"
noncomputable abbrev s37:Stmt:=top 55
theorem sc37:FnScope ["draw", "many", "w", "one", "other", "way"] ["draw", "many", "w"] (zak s37):=by walk_at "sc"
noncomputable abbrev s38:Stmt:=top 56
theorem zze:FnScope ["way", "head", "c", "d"] ["way", "head", "c", "d"] (zak s38):=by walk_at "sc"
noncomputable abbrev s39:Stmt:=top 57
theorem sc39:FnScope ["script", "k", "w", "titles", "book", "j", "lefts", "n", "left", "right"] ["script", "k", "w", "titles"] (zak s39):=by walk_at "sc"
noncomputable abbrev s40:Stmt:=top 58
theorem sc40:FnScope ["cells", "book", "w", "room", "stack", "spent", "cell", "way", "need", "node", "k", "at"] ["cells", "book", "w", "room"] (zak s40):=by walk_at "sc"
noncomputable abbrev s41:Stmt:=top 59
theorem sc41:FnScope ["plan", "book", "by", "k", "bits", "head", "parts", "ways"] ["plan", "book", "by"] (zak s41):=by walk_at "sc"
noncomputable abbrev s42:Stmt:=top 60
theorem sc42:FnScope ["book", "way", "which", "parts", "turning"] ["book", "way", "which"] (zak s42):=by walk_at "sc"
noncomputable abbrev s43:Stmt:=top 61
theorem sc43:FnScope ["book", "shape", "cells", "limit", "ways", "here", "spent", "cell", "some", "both"] ["book", "shape", "cells", "limit"] (zak s43):=by walk_at "sc"
noncomputable abbrev s44:Stmt:=top 62
theorem zzr:FnScope ["found", "rows", "long"] ["found", "rows", "long"] (zak s44):=by walk_at "sc"
noncomputable abbrev s45:Stmt:=top 63
theorem zzX:FnScope ["book", "downs", "overs", "i", "j"] ["book", "downs", "overs", "i", "j"] (zak s45):=by walk_at "sc"
noncomputable abbrev s46:Stmt:=top 64
theorem sc46:FnScope ["script", "w", "titles", "book", "shape", "many", "one", "other", "handed", "found", "downs", "overs", "n", "m", "i", "j", "held", "row"] ["script"] (zak s46):=by walk_at "sc"
section
variable (P:Program) (w:World) (K:PySem.W.Frag) (mg:Str→Option Value) (base:Heap)
noncomputable abbrev C0:=Cal P w K mg base "parts_of" ["t"] zcu
noncomputable abbrev C1:=Cal P w K mg base "parts_of_all" ["things"] zbL
noncomputable abbrev C2:=Cal P w K mg base "is_small" ["t"] zdy
noncomputable abbrev C3:=Cal P w K mg base "gather_places" ["t", "place", "found"] zaJ
noncomputable abbrev C4:=Cal P w K mg base "places" ["t"] zfs
noncomputable abbrev C5:=Cal P w K mg base "numbered_part" ["t", "number"] zby
noncomputable abbrev C6:=Cal P w K mg base "part" ["t", "place"] zjg
noncomputable abbrev C7:=Cal P w K mg base "blank_places" ["side"] zbM
noncomputable abbrev C8:=Cal P w K mg base "filled" ["side", "things"] zcM
noncomputable abbrev C9:=Cal P w K mg base "have_one_top" ["one", "other"] zbJ
noncomputable abbrev C10:=Cal P w K mg base "gather_matched" ["left", "t", "things"] zaz
noncomputable abbrev C11:=Cal P w K mg base "matched" ["left", "t"] zbG
noncomputable abbrev C12:=Cal P w K mg base "turning_of" ["book", "title"] zaR
noncomputable abbrev C13:=Cal P w K mg base "only_small" ["shape"] zbb
noncomputable abbrev C14:=Cal P w K mg base "with_sides" ["book", "way", "side"] zbx
noncomputable abbrev C15:=Cal P w K mg base "source" ["book", "way"] zdV
noncomputable abbrev C16:=Cal P w K mg base "goal" ["book", "way"] zfj
noncomputable abbrev C17:=Cal P w K mg base "part_places" ["book", "way"] zbA
noncomputable abbrev C18:=Cal P w K mg base "open_turning" ["book", "shape"] zbr
noncomputable abbrev C19:=Cal P w K mg base "gather_open" ["book", "shape", "place", "found"] zbm
noncomputable abbrev C20:=Cal P w K mg base "open_uses" ["book", "shape"] zcy
noncomputable abbrev C21:=Cal P w K mg base "places_of" ["pairs"] zcS
noncomputable abbrev C22:=Cal P w K mg base "turned_top" ["book", "shape"] zcF
noncomputable abbrev C23:=Cal P w K mg base "way_within" ["book", "shape", "place", "wanted"] zaQ
noncomputable abbrev C24:=Cal P w K mg base "way_with" ["book", "shape", "places"] zdF
noncomputable abbrev C25:=Cal P w K mg base "way_of" ["book", "shape", "places"] zfJ
noncomputable abbrev C26:=Cal P w K mg base "one_source" ["book", "way", "other"] zbV
noncomputable abbrev C27:=Cal P w K mg base "moved" ["book", "way", "other"] zca
noncomputable abbrev C28:=Cal P w K mg base "behind" ["book", "way", "other"] zdg
noncomputable abbrev C29:=Cal P w K mg base "check_goals" ["book", "ways"] zbk
noncomputable abbrev C30:=Cal P w K mg base "moved_along" ["book", "way", "ways"] zch
noncomputable abbrev C31:=Cal P w K mg base "grid" ["book", "road", "other"] zhO
noncomputable abbrev C32:=Cal P w K mg base "_law_cell" ["script", "k"] zat
noncomputable abbrev C33:=Cal P w K mg base "_law_words" ["one", "two", "great"] zaS
noncomputable abbrev C34:=Cal P w K mg base "_law_count" ["side"] zay
noncomputable abbrev C35:=Cal P w K mg base "_law_filled" ["side", "things"] zba
noncomputable abbrev C36:=Cal P w K mg base "_law_item" ["draw", "many", "w"] zcr
noncomputable abbrev C37:=Cal P w K mg base "_law_right" ["draw", "many", "w"] zcG
noncomputable abbrev C38:=Cal P w K mg base "_law_lefts" ["way", "head", "c", "d"] zcE
noncomputable abbrev C39:=Cal P w K mg base "_law_book" ["script", "k", "w", "titles"] zbS
noncomputable abbrev C40:=Cal P w K mg base "_law_plan" ["cells", "book", "w", "room"] zbv
noncomputable abbrev C41:=Cal P w K mg base "_law_way" ["plan", "book", "by"] zbB
noncomputable abbrev C42:=Cal P w K mg base "_law_made" ["book", "way", "which"] zaC
noncomputable abbrev C43:=Cal P w K mg base "_law_road" ["book", "shape", "cells", "limit"] zbc
noncomputable abbrev C44:=Cal P w K mg base "_law_lists" ["found", "rows", "long"] zbU
noncomputable abbrev C45:=Cal P w K mg base "_law_corner" ["book", "downs", "overs", "i", "j"] zcf
end
section
variable {P:Program}{w:World}{K:PySem.W.Frag}{mg:Str→Option Value}{base:Heap}
theorem o0{f:Addr}{d:FuncData}(F:Fun K "parts_of" "parts_of" s0 f d) (n_i:mg "isinstance" =none) (n_n:mg "int" =none):Ok P w K mg base f d ["t"] zcu:=zcY rfl fun r ih=>zaV F sc0 rfl rfl fun _ _ _ _ _ _ hr=>(zae (zaM (zcp (zfA rfl n_i rfl n_n PyProof.Rows.boot_int (jv 0) (by decide) (by decide) (zqJ _ (by simp)))) (zaj (zam (zau zac))) zav)
  (zaj (zam (zdx (jv 0) (zaI zaf) zaY))))
theorem o1{f:Addr}{d:FuncData}(F:Fun K "parts_of_all" "parts_of_all" s1 f d) (x0:C0 P w K mg base):Ok P w K mg base f d ["things"] zbL:=zcY rfl fun r ih=>zaV F sc1 rfl rfl fun _ _ _ _ _ _ hr=>(zae (zao (i:=1) sc1.nd rfl (Or.inl rfl) (zaB (zaP zac)))
  (zae (zbD (zbi (jv 0)) (zap (i:=2) sc1.nd rfl (Or.inl rfl)) (zaj (zaN (zof (jv 1) (zaa (zai (x0.zg r) hr rfl x0.zm x0.zk x0.zb (zaa (jv 2) zac)) zac)))))
  (zaj (zam (jv 1)))))
theorem o2{f:Addr}{d:FuncData}(F:Fun K "is_small" "is_small" s2 f d) (x1:C1 P w K mg base) (n_l:mg "len" =none) {t_MOST_HEAVY:Tok}(g_MOST_HEAVY:mg "MOST_HEAVY" =some (.int 400 t_MOST_HEAVY)) {t_MOST_DEEP:Tok}(g_MOST_DEEP:mg "MOST_DEEP" =some (.int 40 t_MOST_DEEP)):Ok P w K mg base f d ["t"] zdy:=zcY rfl fun r ih=>zaV F sc2 rfl rfl fun _ _ _ _ _ _ hr=>(zae (zao (i:=1) sc2.nd rfl (Or.inl rfl) zaf)
  (zae (zao (i:=2) sc2.nd rfl (Or.inl rfl) zaf)
  (zae (zao (i:=3) sc2.nd rfl (Or.inl rfl) (zaB (zaP (zaa (jv 0) zac))))
  (zae (zmj (zcp (jv 3)) (zae (zsa (i:=1) sc2.nd rfl (Or.inl rfl) (zbC rfl n_l (zaa (jv 3) zac)))
  (zae (zsa (i:=2) sc2.nd rfl (Or.inl rfl) zaf)
  (zae (zaM (JW.jt (zkf (zjC (jv 1) (zds rfl g_MOST_HEAVY)) (zgN (zjC (jv 2) (zds rfl g_MOST_DEEP))))) (zaj (zam zem)) zav)
  (zaj (zao (i:=3) sc2.nd rfl (Or.inl rfl) (zai (x1.zg r) hr rfl x1.zm x1.zk x1.zb (zaa (jv 3) zac))))))))
  (zaj (zam zem))))))
theorem o3{f:Addr}{d:FuncData}(F:Fun K "gather_places" "gather_places" s3 f d) (x0:C0 P w K mg base) (b:Binds K d ["t", "place", "found"] []) (m:mg "gather_places" =some (.ref f)) (n_e:mg "enumerate" =none):Ok P w K mg base f d ["t", "place", "found"] zaJ:=zcY rfl fun r ih=>zaV F sc3 rfl rfl fun _ _ _ _ _ _ hr=>(zae (zaN (zbh (jv 2) (zaa (jv 1) zac)))
  (zaj (zbD (zkK rfl n_e (zai (x0.zg r) hr rfl x0.zm x0.zk x0.zb (zaa (jv 0) zac))) (zfl (zaK (zap (i:=3) sc3.nd rfl (Or.inl rfl)) (zaK (zap (i:=4) sc3.nd rfl (Or.inl rfl)) zdM)) (glS (glS gl0))) (zaj (zaN (zai ih hr rfl m F.kp b (zaa (jv 4) (zaa (zaT (jv 1) (zau (zaa (jv 3) zac))) (zaa (jv 2) zac)))))))))
theorem o4{f:Addr}{d:FuncData}(F:Fun K "places" "places" s4 f d) (x3:C3 P w K mg base):Ok P w K mg base f d ["t"] zfs:=zcY rfl fun r ih=>zaV F sc4 rfl rfl fun _ _ _ _ _ _ hr=>(zae (zao (i:=1) sc4.nd rfl (Or.inl rfl) (zaB (zaP zac)))
  (zae (zaN (zai (x3.zg r) hr rfl x3.zm x3.zk x3.zb (zaa (jv 0) (zaa (zau zac) (zaa (jv 1) zac)))))
  (zaj (zam (jv 1)))))
theorem o5{f:Addr}{d:FuncData}(F:Fun K "numbered_part" "numbered_part" s5 f d) (x0:C0 P w K mg base) (n_l:mg "len" =none):Ok P w K mg base f d ["t", "number"] zby:=zcY rfl fun r ih=>zaV F sc5 rfl rfl fun _ _ _ _ _ _ hr=>(zae (zao (i:=2) sc5.nd rfl (Or.inl rfl) (zai (x0.zg r) hr rfl x0.zm x0.zk x0.zb (zaa (jv 0) zac)))
  (zae (zaM (JW.jt (zkf (zog (jv 1) zaf) (zgN (zxj (jv 1) (zbC rfl n_l (zaa (jv 2) zac)))))) (zaj zfp) zav)
  (zaj (zam (zaq (jv 2) (jv 1))))))
theorem o6{f:Addr}{d:FuncData}(F:Fun K "part" "part" s6 f d) (x5:C5 P w K mg base):Ok P w K mg base f d ["t", "place"] zjg:=zcY rfl fun r ih=>zaV F sc6 rfl rfl fun _ _ _ _ _ _ hr=>(zae (zao (i:=2) sc6.nd rfl (Or.inl rfl) (jv 0))
  (zae (zbD (zbi (jv 1)) (zap (i:=3) sc6.nd rfl (Or.inl rfl)) (zaj (zao (i:=2) sc6.nd rfl (Or.inl rfl) (zai (x5.zg r) hr rfl x5.zm x5.zk x5.zb (zaa (jv 2) (zaa (jv 3) zac))))))
  (zaj (zam (jv 2)))))
theorem o7{f:Addr}{d:FuncData}(F:Fun K "blank_places" "blank_places" s7 f d) (x4:C4 P w K mg base) (x6:C6 P w K mg base) (n_i:mg "isinstance" =none) (n_n:mg "int" =none):Ok P w K mg base f d ["side"] zbM:=zcY rfl fun r ih=>zaV F sc7 rfl rfl fun _ _ _ _ _ _ hr=>(zaj (zam (zaB (zcH (N:=["place", "side"]) (k:=1) (fr:=[0]) ⟨rfl,by decide +kernel,rfl,rfl,rfl,rfl,rfl,rfl,rfl⟩ (zbi (zai (x4.zg r) hr rfl x4.zm x4.zk x4.zb (zaa (jv 0) zac))) (fun _ _ _ _=>(zap (i:=0) (show List.Nodup [("place" :Str),("side" :Str)] from by decide +kernel) rfl (Or.inl rfl))) (fun _ _ _ _=>(ztk (zcp (zfA rfl n_i rfl n_n PyProof.Rows.boot_int (zai (x6.zg r) hr rfl x6.zm x6.zk x6.zb (zaa (jv 1) (zaa (jv 0) zac))) (by decide) (by decide) (zqJ _ (by simp)))))) (fun _ _ _ _=>(jv 0))))))
theorem o8{f:Addr}{d:FuncData}(F:Fun K "filled" "filled" s8 f d) (b:Binds K d ["side", "things"] []) (m:mg "filled" =some (.ref f)) (n_i:mg "isinstance" =none) (n_n:mg "int" =none) (n_t:mg "tuple" =none):Ok P w K mg base f d ["side", "things"] zcM:=zcY rfl fun r ih=>zaV F sc8 rfl rfl fun _ _ _ _ _ _ hr=>(zae (zaM (zcp (zfA rfl n_i rfl n_n PyProof.Rows.boot_int (jv 0) (by decide) (by decide) (zqJ _ (by simp)))) (zaj (zam (zaq (jv 1) (jv 0)))) zav)
  (zaj (zam (zaT (zau (zaa (zaq (jv 0) zaf) zac)) (zjF rfl n_t (zcH (N:=["inner", "things"]) (k:=1) (fr:=[1]) ⟨rfl,by decide +kernel,rfl,rfl,rfl,rfl,rfl,rfl,rfl⟩ (zbi (zdx (jv 0) (zaI zaf) zaY)) (fun _ _ _ _=>(zap (i:=0) (show List.Nodup [("inner" :Str),("things" :Str)] from by decide +kernel) rfl (Or.inl rfl))) (fun _ _ _ _=>zbw) (fun _ _ _ _=>(zai ih hr rfl m F.kp b (zaa (jv 0) (zaa (jv 1) zac))))))))))
theorem o9{f:Addr}{d:FuncData}(F:Fun K "have_one_top" "have_one_top" s9 f d) (n_l:mg "len" =none):Ok P w K mg base f d ["one", "other"] zbJ:=zcY rfl fun r ih=>zaV F sc9 rfl rfl fun _ _ _ _ _ _ hr=>(zaj (zam (zmv (zjv hr (zaq (jv 0) zaf) (zaq (jv 1) zaf)) (zmz (zjv hr (zbC rfl n_l (zaa (jv 0) zac)) (zbC rfl n_l (zaa (jv 1) zac)))))))
theorem o10{f:Addr}{d:FuncData}(F:Fun K "gather_matched" "gather_matched" s10 f d) (x9:C9 P w K mg base) (b:Binds K d ["left", "t", "things"] []) (m:mg "gather_matched" =some (.ref f)) (n_i:mg "isinstance" =none) (n_n:mg "int" =none) (n_z:mg "zip" =none):Ok P w K mg base f d ["left", "t", "things"] zaz:=zcY rfl fun r ih=>zaV F sc10 rfl rfl fun _ _ _ _ _ _ hr=>(zae (zaM (zcp (zfA rfl n_i rfl n_n PyProof.Rows.boot_int (jv 0) (by decide) (by decide) (zqJ _ (by simp)))) (zae (zaN (zbh (jv 2) (zaa (jv 1) zac)))
  (zaj (zam zem))) zav)
  (zae (zaM (zff (zcp (zai (x9.zg r) hr rfl x9.zm x9.zk x9.zb (zaa (jv 0) (zaa (jv 1) zac))))) (zaj (zam zem)) zav)
  (zae (zbD (zmB rfl n_z (zdx (jv 0) (zaI zaf) zaY) (zdx (jv 1) (zaI zaf) zaY)) (zfl (zaK (zap (i:=3) sc10.nd rfl (Or.inl rfl)) (zaK (zap (i:=4) sc10.nd rfl (Or.inl rfl)) zdM)) (glS (glS gl0))) (zaj (zaM (zff (zcp (zai ih hr rfl m F.kp b (zaa (jv 3) (zaa (jv 4) (zaa (jv 2) zac)))))) (zaj (zam zem)) zav)))
  (zaj (zam zem)))))
theorem o11{f:Addr}{d:FuncData}(F:Fun K "matched" "matched" s11 f d) (x10:C10 P w K mg base):Ok P w K mg base f d ["left", "t"] zbG:=zcY rfl fun r ih=>zaV F sc11 rfl rfl fun _ _ _ _ _ _ hr=>(zae (zao (i:=2) sc11.nd rfl (Or.inl rfl) (zaB (zaP zac)))
  (zae (zaM (zcp (zai (x10.zg r) hr rfl x10.zm x10.zk x10.zb (zaa (jv 0) (zaa (jv 1) (zaa (jv 2) zac))))) (zaj (zam (jv 2))) zav)
  (zaj (zam zdX))))
theorem o12{f:Addr}{d:FuncData}(F:Fun K "turning_of" "turning_of" s12 f d):Ok P w K mg base f d ["book", "title"] zaR:=zcY rfl fun r ih=>zaV F sc12 rfl rfl fun _ _ _ _ _ _ hr=>(zae (zbD (zbi (jv 0)) (zap (i:=2) sc12.nd rfl (Or.inl rfl)) (zaj (zaM (zeB hr (zaq (jv 2) zaf) (jv 1)) (zaj (zam (jv 2))) zav)))
  (zaj (zam zdX)))
theorem o13{f:Addr}{d:FuncData}(F:Fun K "only_small" "only_small" s13 f d) (x2:C2 P w K mg base):Ok P w K mg base f d ["shape"] zbb:=zcY rfl fun r ih=>zaV F zzM rfl rfl fun _ _ _ _ _ _ hr=>(zae (zaM (zff (zcp (zai (x2.zg r) hr rfl x2.zm x2.zk x2.zb (zaa (jv 0) zac)))) (zaj zfp) zav)
  (zaj (zam (jv 0))))
theorem o14{f:Addr}{d:FuncData}(F:Fun K "with_sides" "with_sides" s14 f d) (x12:C12 P w K mg base) (x8:C8 P w K mg base) (b:Binds K d ["book", "way", "side"] []) (m:mg "with_sides" =some (.ref f)) (n_t:mg "tuple" =none):Ok P w K mg base f d ["book", "way", "side"] zbx:=zcY rfl fun r ih=>zaV F sc14 rfl rfl fun _ _ _ _ _ _ hr=>(zae (zfT (i:=3) (N:=["inner", "book", "side"]) (k:=1) (fr:=[0,2]) sc14.nd rfl (Or.inl rfl) ⟨rfl,by decide +kernel,rfl,rfl,rfl,rfl,rfl,rfl,rfl⟩ (zbi (zdx (jv 1) (zaI zaf) zaY)) (fun _ _ _ _=>(zap (i:=0) (show List.Nodup [("inner" :Str),("book" :Str),("side" :Str)] from by decide +kernel) rfl (Or.inl rfl))) (fun _ _ _ _=>zbw) (fun _ _ _ _=>(zai ih hr rfl m F.kp b (zaa (jv 1) (zaa (jv 0) (zaa (jv 2) zac))))))
  (zae (zao (i:=4) sc14.nd rfl (Or.inl rfl) (zai (x12.zg r) hr rfl x12.zm x12.zk x12.zb (zaa (jv 0) (zaa (zaq (jv 1) zaf) zac))))
  (zae (zaM (zqb (jv 4) zdX) (zaj (zam (zaT (zau (zaa (zaq (jv 1) zaf) zac)) (zdO rfl n_t (zaa (jv 3) zac))))) zav)
  (zaj (zam (zai (x8.zg r) hr rfl x8.zm x8.zk x8.zb (zaa (zaq (jv 4) (jv 2)) (zaa (jv 3) zac))))))))
theorem o15{f:Addr}{d:FuncData}(F:Fun K "source" "source" s15 f d) (x13:C13 P w K mg base) (x14:C14 P w K mg base) {t_LEFT:Tok}(g_LEFT:mg "LEFT" =some (.int 1 t_LEFT)):Ok P w K mg base f d ["book", "way"] zdV:=zcY rfl fun r ih=>zaV F zzG rfl rfl fun _ _ _ _ _ _ hr=>(zaj (zam (zai (x13.zg r) hr rfl x13.zm x13.zk x13.zb (zaa (zai (x14.zg r) hr rfl x14.zm x14.zk x14.zb (zaa (jv 0) (zaa (jv 1) (zaa (zds rfl g_LEFT) zac)))) zac))))
theorem o16{f:Addr}{d:FuncData}(F:Fun K "goal" "goal" s16 f d) (x13:C13 P w K mg base) (x14:C14 P w K mg base) {t_RIGHT:Tok}(g_RIGHT:mg "RIGHT" =some (.int 2 t_RIGHT)):Ok P w K mg base f d ["book", "way"] zfj:=zcY rfl fun r ih=>zaV F zzj rfl rfl fun _ _ _ _ _ _ hr=>(zaj (zam (zai (x13.zg r) hr rfl x13.zm x13.zk x13.zb (zaa (zai (x14.zg r) hr rfl x14.zm x14.zk x14.zb (zaa (jv 0) (zaa (jv 1) (zaa (zds rfl g_RIGHT) zac)))) zac))))
theorem o17{f:Addr}{d:FuncData}(F:Fun K "part_places" "part_places" s17 f d) (x12:C12 P w K mg base) (x7:C7 P w K mg base) (n_r:mg "range" =none) (n_l:mg "len" =none) {t_LEFT:Tok}(g_LEFT:mg "LEFT" =some (.int 1 t_LEFT)):Ok P w K mg base f d ["book", "way"] zbA:=zcY rfl fun r ih=>zaV F sc17 rfl rfl fun _ _ _ _ _ _ hr=>(zae (zao (i:=2) sc17.nd rfl (Or.inl rfl) (zai (x12.zg r) hr rfl x12.zm x12.zk x12.zb (zaa (jv 0) (zaa (zaq (jv 1) zaf) zac))))
  (zae (zaM (zqb (jv 2) zdX) (zaj (zam (zaB (zcH (N:=["number"]) (k:=1) (fr:=[]) ⟨rfl,by decide +kernel,rfl,rfl,rfl,rfl,rfl,rfl,rfl⟩ (zdR rfl n_r (zaa (zka (zbC rfl n_l (zaa (jv 1) zac)) zaf) zac)) (fun _ _ _ _=>(zap (i:=0) (show List.Nodup [("number" :Str)] from by decide +kernel) rfl (Or.inl rfl))) (fun _ _ _ _=>zbw) (fun _ _ _ _=>(zau (zaa (jv 0) zac))))))) zav)
  (zaj (zam (zai (x7.zg r) hr rfl x7.zm x7.zk x7.zb (zaa (zaq (jv 2) (zds rfl g_LEFT)) zac))))))
theorem o18{f:Addr}{d:FuncData}(F:Fun K "open_turning" "open_turning" s18 f d) (x11:C11 P w K mg base) {t_LEFT:Tok}(g_LEFT:mg "LEFT" =some (.int 1 t_LEFT)):Ok P w K mg base f d ["book", "shape"] zbr:=zcY rfl fun r ih=>zaV F sc18 rfl rfl fun _ _ _ _ _ _ hr=>(zae (zbD (zbi (jv 0)) (zap (i:=2) sc18.nd rfl (Or.inl rfl)) (zaj (zaM (zgw (zai (x11.zg r) hr rfl x11.zm x11.zk x11.zb (zaa (zaq (jv 2) (zds rfl g_LEFT)) (zaa (jv 1) zac))) zdX) (zaj (zam (jv 2))) zav)))
  (zaj (zam zdX)))
theorem o19{f:Addr}{d:FuncData}(F:Fun K "gather_open" "gather_open" s19 f d) (x18:C18 P w K mg base) (b:Binds K d ["book", "shape", "place", "found"] []) (m:mg "gather_open" =some (.ref f)) (n_e:mg "enumerate" =none):Ok P w K mg base f d ["book", "shape", "place", "found"] zbm:=zcY rfl fun r ih=>zaV F sc19 rfl rfl fun _ _ _ _ _ _ hr=>(zae (zao (i:=4) sc19.nd rfl (Or.inl rfl) (zai (x18.zg r) hr rfl x18.zm x18.zk x18.zb (zaa (jv 0) (zaa (jv 1) zac))))
  (zae (zaM (zgw (jv 4) zdX) (zaj (zaN (zbh (jv 3) (zaa (zau (zaa (jv 2) (zaa (zaq (jv 4) zaf) zac))) zac)))) zav)
  (zaj (zbD (zkK rfl n_e (zdx (jv 1) (zaI zaf) zaY)) (zfl (zaK (zap (i:=5) sc19.nd rfl (Or.inl rfl)) (zaK (zap (i:=6) sc19.nd rfl (Or.inl rfl)) zdM)) (glS (glS gl0))) (zaj (zaN (zai ih hr rfl m F.kp b (zaa (jv 0) (zaa (jv 6) (zaa (zaT (jv 2) (zau (zaa (jv 5) zac))) (zaa (jv 3) zac)))))))))))
theorem o20{f:Addr}{d:FuncData}(F:Fun K "open_uses" "open_uses" s20 f d) (x19:C19 P w K mg base):Ok P w K mg base f d ["book", "shape"] zcy:=zcY rfl fun r ih=>zaV F sc20 rfl rfl fun _ _ _ _ _ _ hr=>(zae (zao (i:=2) sc20.nd rfl (Or.inl rfl) (zaB (zaP zac)))
  (zae (zaN (zai (x19.zg r) hr rfl x19.zm x19.zk x19.zb (zaa (jv 0) (zaa (jv 1) (zaa (zau zac) (zaa (jv 2) zac))))))
  (zaj (zam (jv 2)))))
theorem o21{f:Addr}{d:FuncData}(F:Fun K "places_of" "places_of" s21 f d):Ok P w K mg base f d ["pairs"] zcS:=zcY rfl fun r ih=>zaV F zyZ rfl rfl fun _ _ _ _ _ _ hr=>(zaj (zam (zaB (zcH (N:=["pair"]) (k:=1) (fr:=[]) ⟨rfl,by decide +kernel,rfl,rfl,rfl,rfl,rfl,rfl,rfl⟩ (zbi (jv 0)) (fun _ _ _ _=>(zap (i:=0) (show List.Nodup [("pair" :Str)] from by decide +kernel) rfl (Or.inl rfl))) (fun _ _ _ _=>zbw) (fun _ _ _ _=>(zaq (jv 0) zaf))))))
theorem o22{f:Addr}{d:FuncData}(F:Fun K "turned_top" "turned_top" s22 f d) (x18:C18 P w K mg base) (x11:C11 P w K mg base) (n_t:mg "tuple" =none) {t_LEFT:Tok}(g_LEFT:mg "LEFT" =some (.int 1 t_LEFT)):Ok P w K mg base f d ["book", "shape"] zcF:=zcY rfl fun r ih=>zaV F sc22 rfl rfl fun _ _ _ _ _ _ hr=>(zae (zao (i:=2) sc22.nd rfl (Or.inl rfl) (zai (x18.zg r) hr rfl x18.zm x18.zk x18.zb (zaa (jv 0) (zaa (jv 1) zac))))
  (zaj (zam (zaT (zau (zaa (zaq (jv 2) zaf) zac)) (zdO rfl n_t (zaa (zai (x11.zg r) hr rfl x11.zm x11.zk x11.zb (zaa (zaq (jv 2) (zds rfl g_LEFT)) (zaa (jv 1) zac))) zac))))))
theorem o23{f:Addr}{d:FuncData}(F:Fun K "way_within" "way_within" s23 f d) (x22:C22 P w K mg base) (x17:C17 P w K mg base) (b:Binds K d ["book", "shape", "place", "wanted"] []) (m:mg "way_within" =some (.ref f)) (n_z:mg "zip" =none) (n_t:mg "tuple" =none):Ok P w K mg base f d ["book", "shape", "place", "wanted"] zaQ:=zcY rfl fun r ih=>zaV F sc23 rfl rfl fun _ _ _ _ _ _ hr=>(zae (zao (i:=4) sc23.nd rfl (Or.inl rfl) (zyH (zwQ hr (jv 2) (jv 3)) (zai (x22.zg r) hr rfl x22.zm x22.zk x22.zb (zaa (jv 0) (zaa (jv 1) zac))) (jv 1)))
  (zae (zao (i:=5) sc23.nd rfl (Or.inl rfl) (zaB (zaP zac)))
  (zae (zbD (zmB rfl n_z (zai (x17.zg r) hr rfl x17.zm x17.zk x17.zb (zaa (jv 0) (zaa (jv 4) zac))) (zdx (jv 4) (zaI zaf) zaY)) (zfl (zaK (zap (i:=6) sc23.nd rfl (Or.inl rfl)) (zaK (zap (i:=7) sc23.nd rfl (Or.inl rfl)) zdM)) (glS (glS gl0))) (zaj (zaN (zbh (jv 5) (zaa (zai ih hr rfl m F.kp b (zaa (jv 0) (zaa (jv 7) (zaa (zaT (jv 2) (jv 6)) (zaa (jv 3) zac))))) zac)))))
  (zaj (zam (zaT (zau (zaa (zaq (jv 4) zaf) zac)) (zdO rfl n_t (zaa (jv 5) zac))))))))
theorem o24{f:Addr}{d:FuncData}(F:Fun K "way_with" "way_with" s24 f d) (x23:C23 P w K mg base) (n_d:mg "dict" =none):Ok P w K mg base f d ["book", "shape", "places"] zdF:=zcY rfl fun r ih=>zaV F zzC rfl rfl fun _ _ _ _ _ _ hr=>(zaj (zam (zai (x23.zg r) hr rfl x23.zm x23.zk x23.zb (zaa (jv 0) (zaa (jv 1) (zaa (zau zac) (zaa (zra hr rfl n_d (zcH (N:=["place"]) (k:=1) (fr:=[]) ⟨rfl,by decide +kernel,rfl,rfl,rfl,rfl,rfl,rfl,rfl⟩ (zbi (jv 2)) (fun _ _ _ _=>(zap (i:=0) (show List.Nodup [("place" :Str)] from by decide +kernel) rfl (Or.inl rfl))) (fun _ _ _ _=>zbw) (fun _ _ _ _=>(zau (zaa (jv 0) (zaa zem zac)))))) zac)))))))
theorem o25{f:Addr}{d:FuncData}(F:Fun K "way_of" "way_of" s25 f d) (x21:C21 P w K mg base) (x24:C24 P w K mg base) (x20:C20 P w K mg base):Ok P w K mg base f d ["book", "shape", "places"] zfJ:=zcY rfl fun r ih=>zaV F sc25 rfl rfl fun _ _ _ _ _ _ hr=>(zae (zao (i:=3) sc25.nd rfl (Or.inl rfl) (zai (x21.zg r) hr rfl x21.zm x21.zk x21.zb (zaa (zai (x20.zg r) hr rfl x20.zm x20.zk x20.zb (zaa (jv 0) (zaa (jv 1) zac))) zac)))
  (zae (zbD (zbi (jv 2)) (zap (i:=4) sc25.nd rfl (Or.inl rfl)) (zaj (zaM (zrw hr (jv 4) (jv 3)) (zaj zfp) zav)))
  (zaj (zam (zai (x24.zg r) hr rfl x24.zm x24.zk x24.zb (zaa (jv 0) (zaa (jv 1) (zaa (jv 2) zac))))))))
theorem o26{f:Addr}{d:FuncData}(F:Fun K "one_source" "one_source" s26 f d) (x15:C15 P w K mg base):Ok P w K mg base f d ["book", "way", "other"] zbV:=zcY rfl fun r ih=>zaV F sc26 rfl rfl fun _ _ _ _ _ _ hr=>(zae (zao (i:=3) sc26.nd rfl (Or.inl rfl) (zai (x15.zg r) hr rfl x15.zm x15.zk x15.zb (zaa (jv 0) (zaa (jv 1) zac))))
  (zae (zaM (zhG hr (zai (x15.zg r) hr rfl x15.zm x15.zk x15.zb (zaa (jv 0) (zaa (jv 2) zac))) (jv 3)) (zaj zfp) zav)
  (zaj (zam (jv 3)))))
theorem o27{f:Addr}{d:FuncData}(F:Fun K "moved" "moved" s27 f d) (x12:C12 P w K mg base) (x8:C8 P w K mg base) (x11:C11 P w K mg base) (b:Binds K d ["book", "way", "other"] []) (m:mg "moved" =some (.ref f)) (n_z:mg "zip" =none) (n_t:mg "tuple" =none) {t_RIGHT:Tok}(g_RIGHT:mg "RIGHT" =some (.int 2 t_RIGHT)) {t_LEFT:Tok}(g_LEFT:mg "LEFT" =some (.int 1 t_LEFT)):Ok P w K mg base f d ["book", "way", "other"] zca:=zcY rfl fun r ih=>zaV F sc27 rfl rfl fun _ _ _ _ _ _ hr=>(zae (zao (i:=3) sc27.nd rfl (Or.inl rfl) (zai (x12.zg r) hr rfl x12.zm x12.zk x12.zb (zaa (jv 0) (zaa (zaq (jv 1) zaf) zac))))
  (zae (zao (i:=4) sc27.nd rfl (Or.inl rfl) (zai (x12.zg r) hr rfl x12.zm x12.zk x12.zb (zaa (jv 0) (zaa (zaq (jv 2) zaf) zac))))
  (zae (zao (i:=5) sc27.nd rfl (Or.inl rfl) (zdx (jv 1) (zaI zaf) zaY))
  (zae (zao (i:=6) sc27.nd rfl (Or.inl rfl) (zdx (jv 2) (zaI zaf) zaY))
  (zae (zaM (JW.jt (zhV (zqb (jv 3) zdX) (zfX (zgw (jv 4) zdX)))) (zaj (zao (i:=5) sc27.nd rfl (Or.inl rfl) (zai (x11.zg r) hr rfl x11.zm x11.zk x11.zb (zaa (zaq (jv 4) (zds rfl g_LEFT)) (zaa (jv 1) zac))))) zav)
  (zae (zaM (JW.jt (zhV (zgw (jv 3) zdX) (zfX (zqb (jv 4) zdX)))) (zaj (zao (i:=6) sc27.nd rfl (Or.inl rfl) (zai (x11.zg r) hr rfl x11.zm x11.zk x11.zb (zaa (zaq (jv 3) (zds rfl g_LEFT)) (zaa (jv 2) zac))))) zav)
  (zae (zfT (i:=7) (N:=["inner", "outer", "book"]) (k:=2) (fr:=[0]) sc27.nd rfl (Or.inl rfl) ⟨rfl,by decide +kernel,rfl,rfl,rfl,rfl,rfl,rfl,rfl⟩ (zmB rfl n_z (jv 5) (jv 6)) (fun _ _ _ _=>(zfl (zaK (zap (i:=0) (show List.Nodup [("inner" :Str),("outer" :Str),("book" :Str)] from by decide +kernel) rfl (Or.inl rfl)) (zaK (zap (i:=1) (show List.Nodup [("inner" :Str),("outer" :Str),("book" :Str)] from by decide +kernel) rfl (Or.inl rfl)) zdM)) (glS (glS gl0)))) (fun _ _ _ _=>zbw) (fun _ _ _ _=>(zai ih hr rfl m F.kp b (zaa (jv 2) (zaa (jv 0) (zaa (jv 1) zac))))))
  (zae (zaM (zqb (jv 4) zdX) (zaj (zam (zaT (zau (zaa (zaq (jv 1) zaf) zac)) (zdO rfl n_t (zaa (jv 7) zac))))) zav)
  (zaj (zam (zai (x8.zg r) hr rfl x8.zm x8.zk x8.zb (zaa (zaq (jv 4) (zds rfl g_RIGHT)) (zaa (jv 7) zac)))))))))))))
theorem o28{f:Addr}{d:FuncData}(F:Fun K "behind" "behind" s28 f d) (x26:C26 P w K mg base) (x16:C16 P w K mg base) (x27:C27 P w K mg base):Ok P w K mg base f d ["book", "way", "other"] zdg:=zcY rfl fun r ih=>zaV F zAa rfl rfl fun _ _ _ _ _ _ hr=>(zae (zaN (zai (x26.zg r) hr rfl x26.zm x26.zk x26.zb (zaa (jv 0) (zaa (jv 1) (zaa (jv 2) zac)))))
  (zae (zaN (zai (x16.zg r) hr rfl x16.zm x16.zk x16.zb (zaa (jv 0) (zaa (jv 2) zac))))
  (zaj (zam (zai (x27.zg r) hr rfl x27.zm x27.zk x27.zb (zaa (jv 0) (zaa (jv 1) (zaa (jv 2) zac))))))))
theorem o29{f:Addr}{d:FuncData}(F:Fun K "check_goals" "check_goals" s29 f d) (x16:C16 P w K mg base):Ok P w K mg base f d ["book", "ways"] zbk:=zcY rfl fun r ih=>zaV F sc29 rfl rfl fun _ _ _ _ _ _ hr=>(zaj (zbD (zbi (jv 1)) (zap (i:=2) sc29.nd rfl (Or.inl rfl)) (zaj (zaN (zai (x16.zg r) hr rfl x16.zm x16.zk x16.zb (zaa (jv 0) (zaa (jv 2) zac)))))))
theorem o30{f:Addr}{d:FuncData}(F:Fun K "moved_along" "moved_along" s30 f d) (x27:C27 P w K mg base) (x29:C29 P w K mg base):Ok P w K mg base f d ["book", "way", "ways"] zch:=zcY rfl fun r ih=>by
  refine zaV F sc30 rfl rfl fun _ _ _ _ _ _ hr=>?_;delta zcj zbn zbo zbq zcg zbY;delta zcm;delta zcj zbn zbo zbq zcg zbY;exact(zae (zao (i:=3) sc30.nd rfl (Or.inl rfl) (zaB (zaP (zaa (jv 1) zac))))
  (zae (zbD (zbi (jv 2)) (zap (i:=4) sc30.nd rfl (Or.inl rfl)) (zae (zao (i:=5) sc30.nd rfl (Or.inl rfl) (zai (x27.zg r) hr rfl x27.zm x27.zk x27.zb (zaa (jv 0) (zaa (zaq (jv 3) (zgl zaf)) (zaa (jv 4) zac)))))
  (zae (zaN (zai (x29.zg r) hr rfl x29.zm x29.zk x29.zb (zaa (jv 0) (zaa (zaB (zaP (zaa (jv 5) zac))) zac))))
  (zaj (zaN (zbh (jv 3) (zaa (jv 5) zac)))))))
  (zaj (zam (jv 3)))))
theorem o31{f:Addr}{d:FuncData}(F:Fun K "grid" "grid" s31 f d) (x13:C13 P w K mg base) (x29:C29 P w K mg base) (x30:C30 P w K mg base) (x27:C27 P w K mg base) (n_s:mg "list" =none) (n_z:mg "zip" =none):Ok P w K mg base f d ["book", "road", "other"] zhO:=zcY rfl fun r ih=>by
  refine zaV F sc31 rfl rfl fun _ _ _ _ _ _ hr=>?_;delta zgy zek zeo zeh zei zgE zfm zfF zfD zfv zfi zfk zfr;delta zgF;delta zgy zek zeo zeh zei zgE zfm zfF zfD zfv zfi zfk zfr;exact(zae (zaM (zhG hr (zaq (jv 1) zaf) (zaq (jv 2) zaf)) (zaj zfp) zav)
  (zae (zaN (zai (x13.zg r) hr rfl x13.zm x13.zk x13.zb (zaa (zaq (jv 1) zaf) zac)))
  (zae (zaN (zai (x29.zg r) hr rfl x29.zm x29.zk x29.zb (zaa (jv 0) (zaa (zaq (jv 1) zaf) zac))))
  (zae (zaN (zai (x29.zg r) hr rfl x29.zm x29.zk x29.zb (zaa (jv 0) (zaa (zaq (jv 2) zaf) zac))))
  (zae (zao (i:=3) sc31.nd rfl (Or.inl rfl) (zaB (zaP zac)))
  (zae (zao (i:=4) sc31.nd rfl (Or.inl rfl) (zaB (zgS rfl n_s (zaq (jv 2) zaf))))
  (zae (zao (i:=5) sc31.nd rfl (Or.inl rfl) (zaB (zaP (zaa (jv 4) zac))))
  (zae (zbD (zbi (zaq (jv 1) zaf)) (zap (i:=6) sc31.nd rfl (Or.inl rfl)) (zae (zao (i:=7) sc31.nd rfl (Or.inl rfl) (zai (x30.zg r) hr rfl x30.zm x30.zk x30.zb (zaa (jv 0) (zaa (jv 6) (zaa (jv 4) zac)))))
  (zae (zfT (i:=4) (N:=["over", "down", "book"]) (k:=2) (fr:=[0]) sc31.nd rfl (Or.inl rfl) ⟨rfl,by decide +kernel,rfl,rfl,rfl,rfl,rfl,rfl,rfl⟩ (zmB rfl n_z (jv 4) (jv 7)) (fun _ _ _ _=>(zfl (zaK (zap (i:=0) (show List.Nodup [("over" :Str),("down" :Str),("book" :Str)] from by decide +kernel) rfl (Or.inl rfl)) (zaK (zap (i:=1) (show List.Nodup [("over" :Str),("down" :Str),("book" :Str)] from by decide +kernel) rfl (Or.inl rfl)) zdM)) (glS (glS gl0)))) (fun _ _ _ _=>zbw) (fun _ _ _ _=>(zai (x27.zg r) hr rfl x27.zm x27.zk x27.zb (zaa (jv 2) (zaa (jv 0) (zaa (jv 1) zac))))))
  (zae (zaN (zbh (jv 3) (zaa (jv 7) zac)))
  (zaj (zaN (zbh (jv 5) (zaa (jv 4) zac))))))))
  (zaj (zam (zau (zaa (jv 3) (zaa (jv 5) zac)))))))))))))
theorem o32{f:Addr}{d:FuncData}(F:Fun K "_law_cell" "_law_cell" s32 f d) (n_l:mg "len" =none):Ok P w K mg base f d ["script", "k"] zat:=zcY rfl fun r ih=>zaV F zzi rfl rfl fun _ _ _ _ _ _ hr=>(zae (zaM (zog (jv 1) (zbC rfl n_l (zaa (jv 0) zac))) (zaj (zam (zaq (jv 0) (jv 1)))) zav)
  (zaj (zam zaf)))
theorem o33{f:Addr}{d:FuncData}(F:Fun K "_law_words" "_law_words" s33 f d) (n_r:mg "range" =none) (n_l:mg "len" =none) (n_n:mg "int" =none):Ok P w K mg base f d ["one", "two", "great"] zaS:=zcY rfl fun r ih=>zaV F sc33 rfl rfl fun _ _ _ _ _ _ hr=>(zae (zao (i:=3) sc33.nd rfl (Or.inr rfl) zoL)
  (zae (zao (i:=4) sc33.nd rfl (Or.inl rfl) (zcb (jv 1) (zwt zaf zaf)))
  (zae (zao (i:=5) sc33.nd rfl (Or.inr rfl) (zaB (zaP zac)))
  (zae (zbD (zdR rfl n_r (zaa (zaT zaf (zcb (jv 0) zaf)) zac)) (zap (i:=6) sc33.nd rfl (Or.inr rfl)) (zae (zaN (zbh (jv 5) (zaa (zcb (jv 4) zaf) zac)))
  (zaj (zao (i:=4) sc33.nd rfl (Or.inl rfl) (zcJ (jv 4) zaf)))))
  (zae (zao (i:=7) sc33.nd rfl (Or.inr rfl) (zcb (zcJ (jv 0) zaf) (zbC rfl n_l (zaa (jv 5) zac))))
  (zae (zao (i:=8) sc33.nd rfl (Or.inl rfl) (zaB (zaP zac)))
  (zae (zbD (zdR rfl n_r (zaa zaf zac)) (zap (i:=6) sc33.nd rfl (Or.inr rfl)) (zae (zao (i:=9) sc33.nd rfl (Or.inl rfl) (zqY zoL (zcH (N:=["j", "signs", "base", "k", "at"]) (k:=1) (fr:=[3,5,6,7]) ⟨rfl,by decide +kernel,rfl,rfl,rfl,rfl,rfl,rfl,rfl⟩ (zdR rfl n_r (zaa (zbC rfl n_l (zaa (jv 5) zac)) zac)) (fun _ _ _ _=>(zap (i:=0) (show List.Nodup [("j" :Str),("signs" :Str),("base" :Str),("k" :Str),("at" :Str)] from by decide +kernel) rfl (Or.inl rfl))) (fun _ _ _ _=>zbw) (fun _ _ _ _=>(zaq (jv 1) (zcb (zaT (zaq (jv 2) (jv 0)) (zsi (jv 3) (znW rfl n_n (zaa (zjv hr (jv 0) (jv 4)) zac)))) zaf))))))
  (zae (zaM (zcp (jv 2)) (zaj (zao (i:=9) sc33.nd rfl (Or.inl rfl) (zaT (zrf (zaq (jv 9) zaf)) (zdx (jv 9) (zaI zaf) zaY)))) zav)
  (zaj (zaN (zbh (jv 8) (zaa (jv 9) zac)))))))
  (zae (zaM (JW.jt (zhV (zeB hr (zcb (zcJ (jv 0) zaf) zaf) zaf) (zfX (zff (zcp (jv 2)))))) (zaj (zao (i:=8) sc33.nd rfl (Or.inl rfl) (zaB (zlf (ztO (jv 8) zaY (zaI zaf)) (zaP (zaa (zaq (jv 8) zaf) (zaa (zaq (jv 8) zaf) (zaa (zaq (jv 8) zaf) zac)))))))) zav)
  (zaj (zam (jv 8)))))))))))
theorem o34{f:Addr}{d:FuncData}(F:Fun K "_law_count" "_law_count" s34 f d) (b:Binds K d ["side"] []) (m:mg "_law_count" =some (.ref f)) (n_i:mg "isinstance" =none) (n_n:mg "int" =none) (n_u:mg "sum" =none):Ok P w K mg base f d ["side"] zay:=zcY rfl fun r ih=>zaV F zzJ rfl rfl fun _ _ _ _ _ _ hr=>(zae (zaM (zcp (zfA rfl n_i rfl n_n PyProof.Rows.boot_int (jv 0) (by decide) (by decide) (zqJ _ (by simp)))) (zaj (zam zaf)) zav)
  (zaj (zam (zuk rfl n_u (zcH (N:=["one"]) (k:=1) (fr:=[]) ⟨rfl,by decide +kernel,rfl,rfl,rfl,rfl,rfl,rfl,rfl⟩ (zbi (zdx (jv 0) (zaI zaf) zaY)) (fun _ _ _ _=>(zap (i:=0) (show List.Nodup [("one" :Str)] from by decide +kernel) rfl (Or.inl rfl))) (fun _ _ _ _=>zbw) (fun _ _ _ _=>(zai ih hr rfl m F.kp b (zaa (jv 0) zac))))))))
theorem o35{f:Addr}{d:FuncData}(F:Fun K "_law_filled" "_law_filled" s35 f d) (b:Binds K d ["side", "things"] []) (m:mg "_law_filled" =some (.ref f)) (n_i:mg "isinstance" =none) (n_n:mg "int" =none) (n_t:mg "tuple" =none):Ok P w K mg base f d ["side", "things"] zba:=zcY rfl fun r ih=>zaV F zzU rfl rfl fun _ _ _ _ _ _ hr=>(zae (zaM (zcp (zfA rfl n_i rfl n_n PyProof.Rows.boot_int (jv 0) (by decide) (by decide) (zqJ _ (by simp)))) (zaj (zam (zaq (jv 1) (jv 0)))) zav)
  (zaj (zam (zaT (zdx (jv 0) zaY (zaI zaf)) (zjF rfl n_t (zcH (N:=["one", "things"]) (k:=1) (fr:=[1]) ⟨rfl,by decide +kernel,rfl,rfl,rfl,rfl,rfl,rfl,rfl⟩ (zbi (zdx (jv 0) (zaI zaf) zaY)) (fun _ _ _ _=>(zap (i:=0) (show List.Nodup [("one" :Str),("things" :Str)] from by decide +kernel) rfl (Or.inl rfl))) (fun _ _ _ _=>zbw) (fun _ _ _ _=>(zai ih hr rfl m F.kp b (zaa (jv 0) (zaa (jv 1) zac))))))))))
theorem o36{f:Addr}{d:FuncData}(F:Fun K "_law_item" "_law_item" s36 f d):Ok P w K mg base f d ["draw", "many", "w"] zcr:=zcY rfl fun r ih=>zaV F zyR rfl rfl fun _ _ _ _ _ _ hr=>(zae (zaM (JW.jt (zhV (zjC (jv 1) zaf) (zfX (zjC (zcb (jv 0) zaf) zaf)))) (zaj (zam (zcb (zcJ (jv 0) zaf) (jv 1)))) zav)
  (zaj (zam (zau (zaa (zaq (jv 2) (zlE (zaP (zaa zaf (zaa zaf zac))) (zcb (zcJ (jv 0) zaf) zaf))) zac)))))
theorem o37{f:Addr}{d:FuncData}(F:Fun K "_law_right" "_law_right" s37 f d) (x36:C36 P w K mg base):Ok P w K mg base f d ["draw", "many", "w"] zcG:=zcY rfl fun r ih=>zaV F sc37 rfl rfl fun _ _ _ _ _ _ hr=>(zae (zao (i:=3) sc37.nd rfl (Or.inl rfl) (zai (x36.zg r) hr rfl x36.zm x36.zk x36.zb (zaa (zcJ (jv 0) zaf) (zaa (jv 1) (zaa (jv 2) zac)))))
  (zae (zao (i:=4) sc37.nd rfl (Or.inl rfl) (zai (x36.zg r) hr rfl x36.zm x36.zk x36.zb (zaa (zcJ (jv 0) zaf) (zaa (jv 1) (zaa (jv 2) zac)))))
  (zae (zao (i:=5) sc37.nd rfl (Or.inl rfl) (zcb (jv 0) zaf))
  (zae (zaM (zeB hr (jv 5) zaf) (zaj (zam (jv 3))) zav)
  (zae (zaM (JW.jt (zkf (zeB hr (jv 5) zaf) (zgN (zeB hr (jv 1) zaf)))) (zaj (zam (zau (zaa (zaq (jv 2) zaf) (zaa (jv 3) zac))))) zav)
  (zae (zaM (zeB hr (jv 5) zaf) (zaj (zam (zau (zaa (zaq (jv 2) zaf) (zaa (jv 3) (zaa (jv 4) zac)))))) zav)
  (zae (zaM (zeB hr (jv 5) zaf) (zaj (zam (zau (zaa (zaq (jv 2) zaf) (zaa (jv 3) (zaa (jv 3) zac)))))) zav)
  (zae (zaM (zeB hr (jv 5) zaf) (zaj (zam (zau (zaa (zaq (jv 2) zaf) (zaa (zau (zaa (zaq (jv 2) zaf) (zaa (jv 3) zac))) (zaa (jv 4) zac)))))) zav)
  (zae (zaM (zeB hr (jv 5) zaf) (zaj (zam (zau (zaa (zaq (jv 2) zaf) (zaa (jv 3) zac))))) zav)
  (zaj (zam (zau (zaa (zaq (jv 2) zaf) (zaa (jv 3) (zaa (jv 4) zac)))))))))))))))
theorem o38{f:Addr}{d:FuncData}(F:Fun K "_law_lefts" "_law_lefts" s38 f d):Ok P w K mg base f d ["way", "head", "c", "d"] zcE:=zcY rfl fun r ih=>zaV F zze rfl rfl fun _ _ _ _ _ _ hr=>(zae (zaM (zeB hr (jv 0) zaf) (zaj (zam (zaB (zaP (zaa (zau (zaa (jv 1) (zaa zaf zac))) zac))))) zav)
  (zae (zaM (zeB hr (jv 0) zaf) (zaj (zam (zaB (zaP (zaa (zau (zaa (jv 1) (zaa zaf (zaa zaf zac)))) zac))))) zav)
  (zae (zaM (zeB hr (jv 0) zaf) (zaj (zam (zaB (zaP (zaa (zau (zaa (jv 1) (zaa (zau (zaa (jv 2) zac)) zac))) (zaa (zau (zaa (jv 1) (zaa (zau (zaa (jv 3) (zaa zaf zac))) zac))) zac)))))) zav)
  (zae (zaM (zeB hr (jv 0) zaf) (zaj (zam (zaB (zaP (zaa (zau (zaa (jv 1) (zaa (zau (zaa (jv 2) zac)) (zaa zaf zac)))) (zaa (zau (zaa (jv 1) (zaa (zau (zaa (jv 3) (zaa zaf zac))) (zaa zaf zac)))) zac)))))) zav)
  (zae (zaM (zeB hr (jv 0) zaf) (zaj (zam (zaB (zaP (zaa (zau (zaa (jv 1) (zaa (zau (zaa (jv 3) (zaa (zau (zaa (jv 3) (zaa zaf zac))) zac))) (zaa zaf (zaa zaf zac))))) (zaa (zau (zaa (jv 1) (zaa (zau (zaa (jv 3) (zaa (zau (zaa (jv 2) zac)) zac))) (zaa zaf (zaa zaf zac))))) zac)))))) zav)
  (zaj (zam (zaB (zaP (zaa (zau (zaa (jv 1) zac)) zac))))))))))
theorem o39{f:Addr}{d:FuncData}(F:Fun K "_law_book" "_law_book" s39 f d) (x38:C38 P w K mg base) (x37:C37 P w K mg base) (x32:C32 P w K mg base) (x34:C34 P w K mg base) (n_r:mg "range" =none) (n_e:mg "enumerate" =none) (n_l:mg "len" =none):Ok P w K mg base f d ["script", "k", "w", "titles"] zbS:=zcY rfl fun r ih=>zaV F sc39 rfl rfl fun _ _ _ _ _ _ hr=>(zae (zao (i:=4) sc39.nd rfl (Or.inl rfl) (zaB (zaP zac)))
  (zae (zbD (zdR rfl n_r (zaa zaf zac)) (zap (i:=5) sc39.nd rfl (Or.inl rfl)) (zae (zao (i:=6) sc39.nd rfl (Or.inl rfl) (zai (x38.zg r) hr rfl x38.zm x38.zk x38.zb (zaa (zcb (zai (x32.zg r) hr rfl x32.zm x32.zk x32.zb (zaa (jv 0) (zaa (zaT (jv 1) (jv 5)) zac))) zaf) (zaa (zaq (jv 2) (jv 5)) (zaa (zaq (jv 2) zaf) (zaa (zaq (jv 2) zaf) zac))))))
  (zaj (zbD (zkK rfl n_e (jv 6)) (zfl (zaK (zap (i:=7) sc39.nd rfl (Or.inl rfl)) (zaK (zap (i:=8) sc39.nd rfl (Or.inl rfl)) zdM)) (glS (glS gl0))) (zae (zao (i:=9) sc39.nd rfl (Or.inl rfl) (zai (x37.zg r) hr rfl x37.zm x37.zk x37.zb (zaa (zai (x32.zg r) hr rfl x32.zm x32.zk x32.zb (zaa (jv 0) (zaa (zaT (zaT (zaT (jv 1) zaf) (zsi zaf (jv 5))) (jv 7)) zac))) (zaa (zai (x34.zg r) hr rfl x34.zm x34.zk x34.zb (zaa (jv 8) zac)) (zaa (jv 2) zac)))))
  (zaj (zaN (zbh (jv 4) (zaa (zau (zaa (zaq (jv 3) (zbC rfl n_l (zaa (jv 4) zac))) (zaa (jv 8) (zaa (jv 9) zac)))) zac)))))))))
  (zaj (zam (jv 4)))))
theorem o40{f:Addr}{d:FuncData}(F:Fun K "_law_plan" "_law_plan" s40 f d) (x34:C34 P w K mg base) (n_l:mg "len" =none) (n_m:mg "min" =none):Ok P w K mg base f d ["cells", "book", "w", "room"] zbv:=zcY rfl fun r ih=>zaV F sc40 rfl rfl fun _ _ _ _ _ _ hr=>(zae (zao (i:=4) sc40.nd rfl (Or.inl rfl) (zaB (zaP zac)))
  (zae (zao (i:=5) sc40.nd rfl (Or.inl rfl) zaf)
  (zae (zbD (zbi (jv 0)) (zap (i:=6) sc40.nd rfl (Or.inl rfl)) (zae (zao (i:=7) sc40.nd rfl (Or.inl rfl) (zcb (jv 6) zaf))
  (zae (zao (i:=8) sc40.nd rfl (Or.inl rfl) (zlE (zaP (zaa zaf (zaa zaf (zaa zaf (zaa zaf zac))))) (zoa rfl n_m (zaa (jv 7) (zaa zaf zac)))))
  (zae (zao (i:=9) sc40.nd rfl (Or.inl rfl) (zau (zaa (zgl zaf) (zaa zaf (zaa (zaq (jv 2) (zlE (zaP (zaa zaf (zaa zaf (zaa zaf (zaa zaf zac))))) (zoa rfl n_m (zaa (jv 7) (zaa zaf zac))))) zac)))))
  (zae (zaM (zjC (jv 7) zaf) (zae (zao (i:=10) sc40.nd rfl (Or.inl rfl) (zcb (zcJ (jv 6) zaf) (zbC rfl n_l (zaa (jv 1) zac))))
  (zae (zao (i:=8) sc40.nd rfl (Or.inl rfl) (zai (x34.zg r) hr rfl x34.zm x34.zk x34.zb (zaa (zaq (zaq (jv 1) (jv 10)) zaf) zac)))
  (zae (zao (i:=9) sc40.nd rfl (Or.inl rfl) (zau (zaa (jv 10) (zaa (zcb (zcJ (jv 6) zaf) zaf) (zaa zoL zac)))))
  (zaj (zao (i:=5) sc40.nd rfl (Or.inl rfl) (zaT (jv 5) zaf)))))) zav)
  (zaj (zaM (JW.jt (zhV (zjC (jv 3) zaf) (zfX (zog (jv 5) zaf)))) (zae (zao (i:=3) sc40.nd rfl (Or.inl rfl) (zka (jv 3) zaf))
  (zae (zao (i:=4) sc40.nd rfl (Or.inl rfl) (zaB (ztG (zuD (zaP (zaa (zau (zaa (zgl zaf) (zaa zaf (zaa (zaq (jv 2) zaf) (zaa (zaB (zaP zac)) zac))))) zac)) (zka (jv 8) (zbC rfl n_l (zaa (jv 4) zac)))) (jv 4))))
  (zae (zao (i:=11) sc40.nd rfl (Or.inl rfl) (zka (zbC rfl n_l (zaa (jv 4) zac)) (jv 8)))
  (zaj (zao (i:=4) sc40.nd rfl (Or.inl rfl) (zaB (zlf (ztO (jv 4) zaY (zaI (jv 11))) (zaP (zaa (zaT (jv 9) (zau (zaa (zdx (jv 4) (zaI (jv 11)) zaY) zac))) zac))))))))) zav)))))))
  (zae (zmj (zjC (zbC rfl n_l (zaa (jv 4) zac)) zaf) (zaj (zao (i:=4) sc40.nd rfl (Or.inl rfl) (zaB (zlf (ztO (jv 4) zaY (zaI (zgl zaf))) (zaP (zaa (zau (zaa (zgl zaf) (zaa zaf (zaa (zaq (jv 2) zaf) (zaa (zdx (jv 4) (zaI (zgl zaf)) zaY) zac))))) zac)))))))
  (zaj (zam (zlE (zsx (jv 4) (zaP (zaa (zau (zaa (zgl zaf) (zaa zaf (zaa (zaq (jv 2) zaf) (zaa (zaB (zaP zac)) zac))))) zac))) zaf)))))))
theorem o41{f:Addr}{d:FuncData}(F:Fun K "_law_way" "_law_way" s41 f d) (x35:C35 P w K mg base) (b:Binds K d ["plan", "book", "by"] []) (m:mg "_law_way" =some (.ref f)) (n_t:mg "tuple" =none):Ok P w K mg base f d ["plan", "book", "by"] zbB:=zcY rfl fun r ih=>zaV F sc41 rfl rfl fun _ _ _ _ _ _ hr=>(zae (zrN (jv 0) (zfl (zaK (zap (i:=3) sc41.nd rfl (Or.inl rfl)) (zaK (zap (i:=4) sc41.nd rfl (Or.inl rfl)) (zaK (zap (i:=5) sc41.nd rfl (Or.inl rfl)) (zaK (zap (i:=6) sc41.nd rfl (Or.inl rfl)) zdM)))) (glS (glS (glS (glS gl0))))))
  (zae (zfT (i:=7) (N:=["one", "book", "by"]) (k:=1) (fr:=[1,2]) sc41.nd rfl (Or.inl rfl) ⟨rfl,by decide +kernel,rfl,rfl,rfl,rfl,rfl,rfl,rfl⟩ (zbi (jv 6)) (fun _ _ _ _=>(zap (i:=0) (show List.Nodup [("one" :Str),("book" :Str),("by" :Str)] from by decide +kernel) rfl (Or.inl rfl))) (fun _ _ _ _=>zbw) (fun _ _ _ _=>(zai ih hr rfl m F.kp b (zaa (jv 0) (zaa (jv 1) (zaa (jv 2) zac))))))
  (zae (zaM (zog (jv 3) zaf) (zaj (zam (zaT (zau (zaa (jv 5) zac)) (zdO rfl n_t (zaa (jv 7) zac))))) zav)
  (zae (zaM (zeB hr (zcb (zcJ (jv 4) (jv 2)) zaf) zaf) (zaj (zam (zaT (zau (zaa (zaq (zaq (jv 1) (jv 3)) zaf) zac)) (zdO rfl n_t (zaa (jv 7) zac))))) zav)
  (zaj (zam (zai (x35.zg r) hr rfl x35.zm x35.zk x35.zb (zaa (zaq (zaq (jv 1) (jv 3)) zaf) (zaa (jv 7) zac)))))))))
theorem o42{f:Addr}{d:FuncData}(F:Fun K "_law_made" "_law_made" s42 f d) (b:Binds K d ["book", "way", "which"] []) (m:mg "_law_made" =some (.ref f)) (x35:C35 P w K mg base) (n_t:mg "tuple" =none):Ok P w K mg base f d ["book", "way", "which"] zaC:=zcY rfl fun r ih=>zaV F sc42 rfl rfl fun _ _ _ _ _ _ hr=>(zae (zfT (i:=3) (N:=["one", "book", "which"]) (k:=1) (fr:=[0,2]) sc42.nd rfl (Or.inl rfl) ⟨rfl,by decide +kernel,rfl,rfl,rfl,rfl,rfl,rfl,rfl⟩ (zbi (zdx (jv 1) (zaI zaf) zaY)) (fun _ _ _ _=>(zap (i:=0) (show List.Nodup [("one" :Str),("book" :Str),("which" :Str)] from by decide +kernel) rfl (Or.inl rfl))) (fun _ _ _ _=>zbw) (fun _ _ _ _=>(zai ih hr rfl m F.kp b (zaa (jv 1) (zaa (jv 0) (zaa (jv 2) zac))))))
  (zae (zbD (zbi (jv 0)) (zap (i:=4) sc42.nd rfl (Or.inl rfl)) (zaj (zaM (zeB hr (zaq (jv 4) zaf) (zaq (jv 1) zaf)) (zaj (zam (zai (x35.zg r) hr rfl x35.zm x35.zk x35.zb (zaa (zaq (jv 4) (jv 2)) (zaa (jv 3) zac))))) zav)))
  (zaj (zam (zaT (zdx (jv 1) zaY (zaI zaf)) (zdO rfl n_t (zaa (jv 3) zac)))))))
theorem o43{f:Addr}{d:FuncData}(F:Fun K "_law_road" "_law_road" s43 f d) (x42:C42 P w K mg base) (x20:C20 P w K mg base) (x25:C25 P w K mg base) (n_l:mg "len" =none) (n_n:mg "int" =none):Ok P w K mg base f d ["book", "shape", "cells", "limit"] zbc:=zcY rfl fun r ih=>by
  refine zaV F sc43 rfl rfl fun _ _ _ _ _ _ hr=>?_;delta zcN zbN zbQ zbO zbP zbK zcA zbI zcO zcQ zcP zcL;delta zcz;delta zcN zbN zbQ zbO zbP zbK zcA zbI zcO zcQ zcP zcL;exact(zae (zao (i:=4) sc43.nd rfl (Or.inl rfl) (zaB (zaP zac)))
  (zae (zao (i:=5) sc43.nd rfl (Or.inl rfl) (jv 1))
  (zae (zao (i:=6) sc43.nd rfl (Or.inl rfl) zaf)
  (zae (zbD (zbi (jv 2)) (zap (i:=7) sc43.nd rfl (Or.inl rfl)) (zae (zfT (i:=8) (N:=["one"]) (k:=1) (fr:=[]) sc43.nd rfl (Or.inl rfl) ⟨rfl,by decide +kernel,rfl,rfl,rfl,rfl,rfl,rfl,rfl⟩ (zbi (zai (x20.zg r) hr rfl x20.zm x20.zk x20.zb (zaa (jv 0) (zaa (jv 5) zac)))) (fun _ _ _ _=>(zap (i:=0) (show List.Nodup [("one" :Str)] from by decide +kernel) rfl (Or.inl rfl))) (fun _ _ _ _=>zbw) (fun _ _ _ _=>(zaq (jv 0) zaf)))
  (zaj (zaM (JW.jt (zhV (zjC (zbC rfl n_l (zaa (jv 8) zac)) zaf) (zfX (zog (jv 6) (jv 3))))) (zae (zao (i:=9) sc43.nd rfl (Or.inl rfl) (zaB (zaP (zaa (zaq (jv 8) (zcb (jv 7) (zbC rfl n_l (zaa (jv 8) zac)))) (zaa (zaq (jv 8) (zcb (zcJ (jv 7) zaf) (zbC rfl n_l (zaa (jv 8) zac)))) zac)))))
  (zae (zao (i:=9) sc43.nd rfl (Or.inl rfl) (zdx (jv 9) zaY (zaI (zaT zaf (znW rfl n_n (zaa (zmv (zjv hr (zcb (zcJ (jv 7) zaf) zaf) zaf) (zmz (zxA (zaT (jv 6) zaf) (jv 3)))) zac))))))
  (zae (zaN (zbh (jv 4) (zaa (zai (x25.zg r) hr rfl x25.zm x25.zk x25.zb (zaa (jv 0) (zaa (jv 5) (zaa (jv 9) zac)))) zac)))
  (zae (zao (i:=5) sc43.nd rfl (Or.inl rfl) (zai (x42.zg r) hr rfl x42.zm x42.zk x42.zb (zaa (jv 0) (zaa (zaq (jv 4) (zgl zaf)) (zaa zaf zac)))))
  (zaj (zao (i:=6) sc43.nd rfl (Or.inl rfl) (zaT (jv 6) (zbC rfl n_l (zaa (jv 9) zac))))))))) zav))))
  (zaj (zam (zau (zaa (jv 1) (zaa (jv 4) zac)))))))))
theorem o44{f:Addr}{d:FuncData}(F:Fun K "_law_lists" "_law_lists" s44 f d) (n_a:mg "all" =none) (n_i:mg "isinstance" =none) (n_s:mg "list" =none) (n_l:mg "len" =none):Ok P w K mg base f d ["found", "rows", "long"] zbU:=zcY rfl fun r ih=>by
  refine zaV F zzr rfl rfl fun _ _ _ _ _ _ hr=>?_;delta zdr zdv;exact(zae (zaM (JW.jt (zkf (zff (zcp (zfA rfl n_i rfl n_s PyProof.Rows.boot_list (jv 0) (by decide) (by decide) (zqJ _ (by simp))))) (zgN (zhG hr (zbC rfl n_l (zaa (jv 0) zac)) (jv 1))))) (zaj (zam zem)) zav)
  (zaj (zam (ztn rfl n_a (zcH (N:=["row", "long"]) (k:=1) (fr:=[2]) ⟨rfl,by decide +kernel,rfl,rfl,rfl,rfl,rfl,rfl,rfl⟩ (zbi (jv 0)) (fun _ _ _ _=>(zap (i:=0) (show List.Nodup [("row" :Str),("long" :Str)] from by decide +kernel) rfl (Or.inl rfl))) (fun _ _ _ _=>zbw) (fun _ _ _ _=>(zmv (zfA rfl n_i rfl n_s PyProof.Rows.boot_list (jv 0) (by decide) (by decide) (zqJ _ (by simp))) (zmz (zjv hr (zbC rfl n_l (zaa (jv 0) zac)) (jv 1))))))))))
theorem o45{f:Addr}{d:FuncData}(F:Fun K "_law_corner" "_law_corner" s45 f d) (x42:C42 P w K mg base) (x28:C28 P w K mg base):Ok P w K mg base f d ["book", "downs", "overs", "i", "j"] zcf:=zcY rfl fun r ih=>by
  refine zaV F zzX rfl rfl fun _ _ _ _ _ _ hr=>?_;delta zck zci zbZ zbX;exact(zae (zaM (zhG hr (zai (x42.zg r) hr rfl x42.zm x42.zk x42.zb (zaa (jv 0) (zaa (zaq (zaq (jv 1) (jv 3)) (jv 4)) (zaa zaf zac)))) (zai (x42.zg r) hr rfl x42.zm x42.zk x42.zb (zaa (jv 0) (zaa (zaq (zaq (jv 2) (jv 3)) (jv 4)) (zaa zaf zac))))) (zaj (zam zem)) zav)
  (zae (zaM (zhG hr (zaq (zaq (jv 1) (jv 3)) (zaT (jv 4) zaf)) (zai (x28.zg r) hr rfl x28.zm x28.zk x28.zb (zaa (jv 0) (zaa (zaq (zaq (jv 1) (jv 3)) (jv 4)) (zaa (zaq (zaq (jv 2) (jv 3)) (jv 4)) zac))))) (zaj (zam zem)) zav)
  (zae (zaM (zhG hr (zaq (zaq (jv 2) (zaT (jv 3) zaf)) (jv 4)) (zai (x28.zg r) hr rfl x28.zm x28.zk x28.zb (zaa (jv 0) (zaa (zaq (zaq (jv 2) (jv 3)) (jv 4)) (zaa (zaq (zaq (jv 1) (jv 3)) (jv 4)) zac))))) (zaj (zam zem)) zav)
  (zaj (zam (zjv hr (zai (x42.zg r) hr rfl x42.zm x42.zk x42.zb (zaa (jv 0) (zaa (zaq (zaq (jv 1) (jv 3)) (zaT (jv 4) zaf)) (zaa zaf zac)))) (zai (x42.zg r) hr rfl x42.zm x42.zk x42.zb (zaa (jv 0) (zaa (zaq (zaq (jv 2) (zaT (jv 3) zaf)) (jv 4)) (zaa zaf zac))))))))))
theorem o46{f:Addr}{d:FuncData}(F:Fun K "law" "law" s46 f d) (x33:C33 P w K mg base) (x39:C39 P w K mg base) (x41:C41 P w K mg base) (x43:C43 P w K mg base) (x31:C31 P w K mg base) (x32:C32 P w K mg base) (x40:C40 P w K mg base) (x44:C44 P w K mg base) (x45:C45 P w K mg base) (n_l:mg "len" =none) (n_r:mg "range" =none) (n_s:mg "list" =none) (n_i:mg "isinstance" =none) (n_t:mg "tuple" =none):Ok P w K mg base f d ["script"] zdH:=zcY rfl fun r ih=>by
  refine zaV F sc46 rfl rfl fun _ _ _ _ _ _ hr=>?_;delta zdn zdk zdl zdh zdi zdf zdj zdb zde zdd zdc zdQ zdL zfb zeN zeU zeS zeW zeV zfa;exact(zae (zao (i:=1) sc46.nd rfl (Or.inl rfl) (zai (x33.zg r) hr rfl x33.zm x33.zk x33.zb (zaa (zai (x32.zg r) hr rfl x32.zm x32.zk x32.zb (zaa (jv 0) (zaa zaf zac))) (zaa (zai (x32.zg r) hr rfl x32.zm x32.zk x32.zb (zaa (jv 0) (zaa zaf zac))) (zaa zem zac)))))
  (zae (zao (i:=2) sc46.nd rfl (Or.inl rfl) (zai (x33.zg r) hr rfl x33.zm x33.zk x33.zb (zaa (zai (x32.zg r) hr rfl x32.zm x32.zk x32.zb (zaa (jv 0) (zaa zaf zac))) (zaa (zai (x32.zg r) hr rfl x32.zm x32.zk x32.zb (zaa (jv 0) (zaa zaf zac))) (zaa zem zac)))))
  (zae (zao (i:=3) sc46.nd rfl (Or.inl rfl) (zai (x39.zg r) hr rfl x39.zm x39.zk x39.zb (zaa (jv 0) (zaa zaf (zaa (jv 1) (zaa (jv 2) zac))))))
  (zae (zao (i:=4) sc46.nd rfl (Or.inl rfl) (zai (x41.zg r) hr rfl x41.zm x41.zk x41.zb (zaa (zai (x40.zg r) hr rfl x40.zm x40.zk x40.zb (zaa (zdx (jv 0) (zaI zaf) zaY) (zaa (jv 3) (zaa (jv 1) (zaa zaf zac))))) (zaa (jv 3) (zaa zaf zac)))))
  (zae (zao (i:=5) sc46.nd rfl (Or.inl rfl) (zaT zaf (zcb (zai (x32.zg r) hr rfl x32.zm x32.zk x32.zb (zaa (jv 0) (zaa zaf zac))) zaf)))
  (zae (zao (i:=6) sc46.nd rfl (Or.inl rfl) (zai (x43.zg r) hr rfl x43.zm x43.zk x43.zb (zaa (jv 3) (zaa (jv 4) (zaa (zdx (jv 0) (zaI zaf) (zaI zaf)) (zaa (jv 5) zac))))))
  (zae (zao (i:=7) sc46.nd rfl (Or.inl rfl) (zai (x43.zg r) hr rfl x43.zm x43.zk x43.zb (zaa (jv 3) (zaa (jv 4) (zaa (zdx (jv 0) (zaI zaf) (zaI zaf)) (zaa (zka zaf (jv 5)) zac))))))
  (zae (zao (i:=8) sc46.nd rfl (Or.inl rfl) (zau (zaa (zau (zaa (zaq (jv 6) zaf) (zaa (zaB (zgS rfl n_s (zaq (jv 6) zaf))) zac))) (zaa (zau (zaa (zaq (jv 7) zaf) (zaa (zaB (zgS rfl n_s (zaq (jv 7) zaf))) zac))) zac))))
  (zae (zao (i:=9) sc46.nd rfl (Or.inl rfl) (zai (x31.zg r) hr rfl x31.zm x31.zk x31.zb (zaa (jv 3) (zaa (zaq (jv 8) zaf) (zaa (zaq (jv 8) zaf) zac)))))
  (zae (zaM (JW.jt (zkf (zff (zcp (zfA rfl n_i rfl n_t PyProof.Rows.boot_tuple (jv 9) (by decide) (by decide) (zqJ _ (by simp))))) (zkf (zhG hr (zbC rfl n_l (zaa (jv 9) zac)) zaf) (zgN (zhG hr (jv 8) (zau (zaa (jv 6) (zaa (jv 7) zac)))))))) (zaj (zam zem)) zav)
  (zae (zrN (jv 9) (zfl (zaK (zap (i:=10) sc46.nd rfl (Or.inl rfl)) (zaK (zap (i:=11) sc46.nd rfl (Or.inl rfl)) zdM)) (glS (glS gl0))))
  (zae (zao (i:=12) sc46.nd rfl (Or.inl rfl) (zbC rfl n_l (zaa (zaq (jv 6) zaf) zac)))
  (zae (zao (i:=13) sc46.nd rfl (Or.inl rfl) (zbC rfl n_l (zaa (zaq (jv 7) zaf) zac)))
  (zae (zaM (JW.jt (zkf (zff (zcp (zai (x44.zg r) hr rfl x44.zm x44.zk x44.zb (zaa (jv 10) (zaa (jv 12) (zaa (zaT (jv 13) zaf) zac)))))) (zgN (zff (zcp (zai (x44.zg r) hr rfl x44.zm x44.zk x44.zb (zaa (jv 11) (zaa (zaT (jv 12) zaf) (zaa (jv 13) zac))))))))) (zaj (zam zem)) zav)
  (zae (zaM (JW.jt (zkf (zhG hr (zaB (zcH (N:=["row"]) (k:=1) (fr:=[]) ⟨rfl,by decide +kernel,rfl,rfl,rfl,rfl,rfl,rfl,rfl⟩ (zbi (jv 10)) (fun _ _ _ _=>(zap (i:=0) (show List.Nodup [("row" :Str)] from by decide +kernel) rfl (Or.inl rfl))) (fun _ _ _ _=>zbw) (fun _ _ _ _=>(zaq (jv 0) zaf)))) (zaq (jv 6) zaf)) (zgN (zhG hr (zaq (jv 11) zaf) (zaq (jv 7) zaf))))) (zaj (zam zem)) zav)
  (zae (zbD (zdR rfl n_r (zaa (jv 12) zac)) (zap (i:=14) sc46.nd rfl (Or.inl rfl)) (zaj (zbD (zdR rfl n_r (zaa (jv 13) zac)) (zap (i:=15) sc46.nd rfl (Or.inl rfl)) (zaj (zaM (zff (zcp (zai (x45.zg r) hr rfl x45.zm x45.zk x45.zb (zaa (jv 3) (zaa (jv 10) (zaa (jv 11) (zaa (jv 14) (zaa (jv 15) zac)))))))) (zaj (zam zem)) zav)))))
  (zae (zao (i:=16) sc46.nd rfl (Or.inl rfl) (zau (zaa (zaB (zcH (N:=["row"]) (k:=1) (fr:=[]) ⟨rfl,by decide +kernel,rfl,rfl,rfl,rfl,rfl,rfl,rfl⟩ (zbi (jv 10)) (fun _ _ _ _=>(zap (i:=0) (show List.Nodup [("row" :Str)] from by decide +kernel) rfl (Or.inl rfl))) (fun _ _ _ _=>zbw) (fun _ _ _ _=>(zaB (zgS rfl n_s (jv 0)))))) (zaa (zaB (zcH (N:=["row"]) (k:=1) (fr:=[]) ⟨rfl,by decide +kernel,rfl,rfl,rfl,rfl,rfl,rfl,rfl⟩ (zbi (jv 11)) (fun _ _ _ _=>(zap (i:=0) (show List.Nodup [("row" :Str)] from by decide +kernel) rfl (Or.inl rfl))) (fun _ _ _ _=>zbw) (fun _ _ _ _=>(zaB (zgS rfl n_s (jv 0)))))) zac))))
  (zae (zbD (zbi (zaT (jv 10) (jv 11))) (zap (i:=17) sc46.nd rfl (Or.inl rfl)) (zaj (zaN (zbh (jv 17) (zaa (jv 4) zac)))))
  (zae (zaN (zbh (jv 10) (zaa (zaB (zaP zac)) zac)))
  (zaj (zam (zmv (zjv hr (zai (x31.zg r) hr rfl x31.zm x31.zk x31.zb (zaa (jv 3) (zaa (zaq (jv 8) zaf) (zaa (zaq (jv 8) zaf) zac)))) (jv 16)) (zmz (zjv hr (jv 8) (zau (zaa (jv 6) (zaa (jv 7) zac)))))))))))))))))))))))))))
end
theorem all_mk{l:PySem.W.OpenLaw}{w:World}{K:PySem.W.Frag}{h:Heap}{mg:Str→Option Value}{fa:Addr}(X:K.In h) (G:h.Ns mainGlobals mg) (hfa:mg "law" =some (.ref fa))
  (D0:Dfn K "parts_of" s0)
  (D1:Dfn K "parts_of_all" s1)
  (D2:Dfn K "is_small" s2)
  (D4:Dfn K "places" s4)
  (D3:Dfn K "gather_places" s3)
  (D6:Dfn K "part" s6)
  (D5:Dfn K "numbered_part" s5)
  (D7:Dfn K "blank_places" s7)
  (D8:Dfn K "filled" s8)
  (D11:Dfn K "matched" s11)
  (D10:Dfn K "gather_matched" s10)
  (D9:Dfn K "have_one_top" s9)
  (D12:Dfn K "turning_of" s12)
  (D15:Dfn K "source" s15)
  (D16:Dfn K "goal" s16)
  (D13:Dfn K "only_small" s13)
  (D14:Dfn K "with_sides" s14)
  (D17:Dfn K "part_places" s17)
  (D20:Dfn K "open_uses" s20)
  (D19:Dfn K "gather_open" s19)
  (D18:Dfn K "open_turning" s18)
  (D21:Dfn K "places_of" s21)
  (D25:Dfn K "way_of" s25)
  (D24:Dfn K "way_with" s24)
  (D23:Dfn K "way_within" s23)
  (D22:Dfn K "turned_top" s22)
  (D28:Dfn K "behind" s28)
  (D26:Dfn K "one_source" s26)
  (D27:Dfn K "moved" s27)
  (D31:Dfn K "grid" s31)
  (D30:Dfn K "moved_along" s30)
  (D29:Dfn K "check_goals" s29)
  (D32:Dfn K "_law_cell" s32)
  (D33:Dfn K "_law_words" s33)
  (D34:Dfn K "_law_count" s34)
  (D35:Dfn K "_law_filled" s35)
  (D36:Dfn K "_law_item" s36)
  (D37:Dfn K "_law_right" s37)
  (D38:Dfn K "_law_lefts" s38)
  (D39:Dfn K "_law_book" s39)
  (D40:Dfn K "_law_plan" s40)
  (D41:Dfn K "_law_way" s41)
  (D42:Dfn K "_law_made" s42)
  (D43:Dfn K "_law_road" s43)
  (D44:Dfn K "_law_lists" s44)
  (D45:Dfn K "_law_corner" s45)
  (D46:Dfn K "law" s46)
  (z_a:PySem.W.nsIn K mainGlobals "all" =some none)
  (z_d:PySem.W.nsIn K mainGlobals "dict" =some none)
  (z_e:PySem.W.nsIn K mainGlobals "enumerate" =some none)
  (z_n:PySem.W.nsIn K mainGlobals "int" =some none)
  (z_i:PySem.W.nsIn K mainGlobals "isinstance" =some none)
  (z_l:PySem.W.nsIn K mainGlobals "len" =some none)
  (z_s:PySem.W.nsIn K mainGlobals "list" =some none)
  (z_m:PySem.W.nsIn K mainGlobals "min" =some none)
  (z_r:PySem.W.nsIn K mainGlobals "range" =some none)
  (z_u:PySem.W.nsIn K mainGlobals "sum" =some none)
  (z_t:PySem.W.nsIn K mainGlobals "tuple" =some none)
  (z_z:PySem.W.nsIn K mainGlobals "zip" =some none)
  {t_MOST_HEAVY:Tok}(z_MOST_HEAVY:PySem.W.nsIn K mainGlobals "MOST_HEAVY" =some (some (.int 400 t_MOST_HEAVY)))
  {t_MOST_DEEP:Tok}(z_MOST_DEEP:PySem.W.nsIn K mainGlobals "MOST_DEEP" =some (some (.int 40 t_MOST_DEEP)))
  {t_LEFT:Tok}(z_LEFT:PySem.W.nsIn K mainGlobals "LEFT" =some (some (.int 1 t_LEFT)))
  {t_RIGHT:Tok}(z_RIGHT:PySem.W.nsIn K mainGlobals "RIGHT" =some (some (.int 2 t_RIGHT)))
  :∃fd:FuncData,(∀(s:Shared) (v:Value),BindsTo s fd ⟨[v],[]⟩ [("script",v)])∧ ∀base:Heap,K.In base→base.Ns mainGlobals mg→FnOk l.prog w K mg base CX0 200 fa fd ["script"] (zdZ K (zdH 200)):=by
 obtain⟨f46,d46,a46,F46⟩:=D46;have e:=hfa.symm.trans (PySem.W.mg_of X G a46);cases e;have n_a:=PySem.W.mg_none_of X G z_a;have n_d:=PySem.W.mg_none_of X G z_d;have n_e:=PySem.W.mg_none_of X G z_e;have n_n:=PySem.W.mg_none_of X G z_n;have n_i:=PySem.W.mg_none_of X G z_i;have n_l:=PySem.W.mg_none_of X G z_l;have n_s:=PySem.W.mg_none_of X G z_s;have n_m:=PySem.W.mg_none_of X G z_m;have n_r:=PySem.W.mg_none_of X G z_r;have n_u:=PySem.W.mg_none_of X G z_u;have n_t:=PySem.W.mg_none_of X G z_t;have n_z:=PySem.W.mg_none_of X G z_z;have g_MOST_HEAVY:=PySem.W.mg_of X G z_MOST_HEAVY;have g_MOST_DEEP:=PySem.W.mg_of X G z_MOST_DEEP;have g_LEFT:=PySem.W.mg_of X G z_LEFT;have g_RIGHT:=PySem.W.mg_of X G z_RIGHT;refine⟨d46,fun s v=>?_,fun base _ _=>?_⟩
 ·obtain⟨oc,od,kV,doc,pm,an,cdv,ct,osl,rfl,lk,hcd⟩:=F46.ex;exact .of_eq rfl
 obtain⟨f,d,a,F⟩:=D0;have x0:=mkC (base:=base) X G F a (o0 (P:=l.prog) (w:=w) F n_i n_n) (F.binds fun _ _ _ _ _ _=>n1 fun _=>rfl);obtain⟨f,d,a,F⟩:=D1;have x1:=mkC (base:=base) X G F a (o1 (P:=l.prog) (w:=w) F x0) (F.binds fun _ _ _ _ _ _=>n1 fun _=>rfl);obtain⟨f,d,a,F⟩:=D2;have x2:=mkC (base:=base) X G F a (o2 (P:=l.prog) (w:=w) F x1 n_l g_MOST_HEAVY g_MOST_DEEP) (F.binds fun _ _ _ _ _ _=>n1 fun _=>rfl);obtain⟨f,d,a,F⟩:=D3;have x3:=mkC (base:=base) X G F a (o3 (P:=l.prog) (w:=w) F x0 (F.binds fun _ _ _ _ _ _=>n3 fun _ _ _=>rfl) (PySem.W.mg_of X G a) n_e) (F.binds fun _ _ _ _ _ _=>n3 fun _ _ _=>rfl);obtain⟨f,d,a,F⟩:=D4;have x4:=mkC (base:=base) X G F a (o4 (P:=l.prog) (w:=w) F x3) (F.binds fun _ _ _ _ _ _=>n1 fun _=>rfl);obtain⟨f,d,a,F⟩:=D5;have x5:=mkC (base:=base) X G F a (o5 (P:=l.prog) (w:=w) F x0 n_l) (F.binds fun _ _ _ _ _ _=>n2 fun _ _=>rfl);obtain⟨f,d,a,F⟩:=D6;have x6:=mkC (base:=base) X G F a (o6 (P:=l.prog) (w:=w) F x5) (F.binds fun _ _ _ _ _ _=>n2 fun _ _=>rfl);obtain⟨f,d,a,F⟩:=D7;have x7:=mkC (base:=base) X G F a (o7 (P:=l.prog) (w:=w) F x4 x6 n_i n_n) (F.binds fun _ _ _ _ _ _=>n1 fun _=>rfl);obtain⟨f,d,a,F⟩:=D8;have x8:=mkC (base:=base) X G F a (o8 (P:=l.prog) (w:=w) F (F.binds fun _ _ _ _ _ _=>n2 fun _ _=>rfl) (PySem.W.mg_of X G a) n_i n_n n_t) (F.binds fun _ _ _ _ _ _=>n2 fun _ _=>rfl);obtain⟨f,d,a,F⟩:=D9;have x9:=mkC (base:=base) X G F a (o9 (P:=l.prog) (w:=w) F n_l) (F.binds fun _ _ _ _ _ _=>n2 fun _ _=>rfl);obtain⟨f,d,a,F⟩:=D10;have x10:=mkC (base:=base) X G F a (o10 (P:=l.prog) (w:=w) F x9 (F.binds fun _ _ _ _ _ _=>n3 fun _ _ _=>rfl) (PySem.W.mg_of X G a) n_i n_n n_z) (F.binds fun _ _ _ _ _ _=>n3 fun _ _ _=>rfl);obtain⟨f,d,a,F⟩:=D11;have x11:=mkC (base:=base) X G F a (o11 (P:=l.prog) (w:=w) F x10) (F.binds fun _ _ _ _ _ _=>n2 fun _ _=>rfl);obtain⟨f,d,a,F⟩:=D12;have x12:=mkC (base:=base) X G F a (o12 (P:=l.prog) (w:=w) F) (F.binds fun _ _ _ _ _ _=>n2 fun _ _=>rfl);obtain⟨f,d,a,F⟩:=D13;have x13:=mkC (base:=base) X G F a (o13 (P:=l.prog) (w:=w) F x2) (F.binds fun _ _ _ _ _ _=>n1 fun _=>rfl);obtain⟨f,d,a,F⟩:=D14;have x14:=mkC (base:=base) X G F a (o14 (P:=l.prog) (w:=w) F x12 x8 (F.binds fun _ _ _ _ _ _=>n3 fun _ _ _=>rfl) (PySem.W.mg_of X G a) n_t) (F.binds fun _ _ _ _ _ _=>n3 fun _ _ _=>rfl);obtain⟨f,d,a,F⟩:=D15;have x15:=mkC (base:=base) X G F a (o15 (P:=l.prog) (w:=w) F x13 x14 g_LEFT) (F.binds fun _ _ _ _ _ _=>n2 fun _ _=>rfl);obtain⟨f,d,a,F⟩:=D16;have x16:=mkC (base:=base) X G F a (o16 (P:=l.prog) (w:=w) F x13 x14 g_RIGHT) (F.binds fun _ _ _ _ _ _=>n2 fun _ _=>rfl);obtain⟨f,d,a,F⟩:=D17;have x17:=mkC (base:=base) X G F a (o17 (P:=l.prog) (w:=w) F x12 x7 n_r n_l g_LEFT) (F.binds fun _ _ _ _ _ _=>n2 fun _ _=>rfl);obtain⟨f,d,a,F⟩:=D18;have x18:=mkC (base:=base) X G F a (o18 (P:=l.prog) (w:=w) F x11 g_LEFT) (F.binds fun _ _ _ _ _ _=>n2 fun _ _=>rfl);obtain⟨f,d,a,F⟩:=D19;have x19:=mkC (base:=base) X G F a (o19 (P:=l.prog) (w:=w) F x18 (F.binds fun _ _ _ _ _ _=>n4 fun _ _ _ _=>rfl) (PySem.W.mg_of X G a) n_e) (F.binds fun _ _ _ _ _ _=>n4 fun _ _ _ _=>rfl);obtain⟨f,d,a,F⟩:=D20;have x20:=mkC (base:=base) X G F a (o20 (P:=l.prog) (w:=w) F x19) (F.binds fun _ _ _ _ _ _=>n2 fun _ _=>rfl);obtain⟨f,d,a,F⟩:=D21;have x21:=mkC (base:=base) X G F a (o21 (P:=l.prog) (w:=w) F) (F.binds fun _ _ _ _ _ _=>n1 fun _=>rfl);obtain⟨f,d,a,F⟩:=D22;have x22:=mkC (base:=base) X G F a (o22 (P:=l.prog) (w:=w) F x18 x11 n_t g_LEFT) (F.binds fun _ _ _ _ _ _=>n2 fun _ _=>rfl);obtain⟨f,d,a,F⟩:=D23;have x23:=mkC (base:=base) X G F a (o23 (P:=l.prog) (w:=w) F x22 x17 (F.binds fun _ _ _ _ _ _=>n4 fun _ _ _ _=>rfl) (PySem.W.mg_of X G a) n_z n_t) (F.binds fun _ _ _ _ _ _=>n4 fun _ _ _ _=>rfl);obtain⟨f,d,a,F⟩:=D24;have x24:=mkC (base:=base) X G F a (o24 (P:=l.prog) (w:=w) F x23 n_d) (F.binds fun _ _ _ _ _ _=>n3 fun _ _ _=>rfl);obtain⟨f,d,a,F⟩:=D25;have x25:=mkC (base:=base) X G F a (o25 (P:=l.prog) (w:=w) F x21 x24 x20) (F.binds fun _ _ _ _ _ _=>n3 fun _ _ _=>rfl);obtain⟨f,d,a,F⟩:=D26;have x26:=mkC (base:=base) X G F a (o26 (P:=l.prog) (w:=w) F x15) (F.binds fun _ _ _ _ _ _=>n3 fun _ _ _=>rfl);obtain⟨f,d,a,F⟩:=D27;have x27:=mkC (base:=base) X G F a (o27 (P:=l.prog) (w:=w) F x12 x8 x11 (F.binds fun _ _ _ _ _ _=>n3 fun _ _ _=>rfl) (PySem.W.mg_of X G a) n_z n_t g_RIGHT g_LEFT) (F.binds fun _ _ _ _ _ _=>n3 fun _ _ _=>rfl);obtain⟨f,d,a,F⟩:=D28;have x28:=mkC (base:=base) X G F a (o28 (P:=l.prog) (w:=w) F x26 x16 x27) (F.binds fun _ _ _ _ _ _=>n3 fun _ _ _=>rfl);obtain⟨f,d,a,F⟩:=D29;have x29:=mkC (base:=base) X G F a (o29 (P:=l.prog) (w:=w) F x16) (F.binds fun _ _ _ _ _ _=>n2 fun _ _=>rfl);obtain⟨f,d,a,F⟩:=D30;have x30:=mkC (base:=base) X G F a (o30 (P:=l.prog) (w:=w) F x27 x29) (F.binds fun _ _ _ _ _ _=>n3 fun _ _ _=>rfl);obtain⟨f,d,a,F⟩:=D31;have x31:=mkC (base:=base) X G F a (o31 (P:=l.prog) (w:=w) F x13 x29 x30 x27 n_s n_z) (F.binds fun _ _ _ _ _ _=>n3 fun _ _ _=>rfl);obtain⟨f,d,a,F⟩:=D32;have x32:=mkC (base:=base) X G F a (o32 (P:=l.prog) (w:=w) F n_l) (F.binds fun _ _ _ _ _ _=>n2 fun _ _=>rfl);obtain⟨f,d,a,F⟩:=D33;have x33:=mkC (base:=base) X G F a (o33 (P:=l.prog) (w:=w) F n_r n_l n_n) (F.binds fun _ _ _ _ _ _=>n3 fun _ _ _=>rfl);obtain⟨f,d,a,F⟩:=D34;have x34:=mkC (base:=base) X G F a (o34 (P:=l.prog) (w:=w) F (F.binds fun _ _ _ _ _ _=>n1 fun _=>rfl) (PySem.W.mg_of X G a) n_i n_n n_u) (F.binds fun _ _ _ _ _ _=>n1 fun _=>rfl);obtain⟨f,d,a,F⟩:=D35;have x35:=mkC (base:=base) X G F a (o35 (P:=l.prog) (w:=w) F (F.binds fun _ _ _ _ _ _=>n2 fun _ _=>rfl) (PySem.W.mg_of X G a) n_i n_n n_t) (F.binds fun _ _ _ _ _ _=>n2 fun _ _=>rfl);obtain⟨f,d,a,F⟩:=D36;have x36:=mkC (base:=base) X G F a (o36 (P:=l.prog) (w:=w) F) (F.binds fun _ _ _ _ _ _=>n3 fun _ _ _=>rfl);obtain⟨f,d,a,F⟩:=D37;have x37:=mkC (base:=base) X G F a (o37 (P:=l.prog) (w:=w) F x36) (F.binds fun _ _ _ _ _ _=>n3 fun _ _ _=>rfl);obtain⟨f,d,a,F⟩:=D38;have x38:=mkC (base:=base) X G F a (o38 (P:=l.prog) (w:=w) F) (F.binds fun _ _ _ _ _ _=>n4 fun _ _ _ _=>rfl);obtain⟨f,d,a,F⟩:=D39;have x39:=mkC (base:=base) X G F a (o39 (P:=l.prog) (w:=w) F x38 x37 x32 x34 n_r n_e n_l) (F.binds fun _ _ _ _ _ _=>n4 fun _ _ _ _=>rfl);obtain⟨f,d,a,F⟩:=D40;have x40:=mkC (base:=base) X G F a (o40 (P:=l.prog) (w:=w) F x34 n_l n_m) (F.binds fun _ _ _ _ _ _=>n4 fun _ _ _ _=>rfl);obtain⟨f,d,a,F⟩:=D41;have x41:=mkC (base:=base) X G F a (o41 (P:=l.prog) (w:=w) F x35 (F.binds fun _ _ _ _ _ _=>n3 fun _ _ _=>rfl) (PySem.W.mg_of X G a) n_t) (F.binds fun _ _ _ _ _ _=>n3 fun _ _ _=>rfl);obtain⟨f,d,a,F⟩:=D42;have x42:=mkC (base:=base) X G F a (o42 (P:=l.prog) (w:=w) F (F.binds fun _ _ _ _ _ _=>n3 fun _ _ _=>rfl) (PySem.W.mg_of X G a) x35 n_t) (F.binds fun _ _ _ _ _ _=>n3 fun _ _ _=>rfl);obtain⟨f,d,a,F⟩:=D43;have x43:=mkC (base:=base) X G F a (o43 (P:=l.prog) (w:=w) F x42 x20 x25 n_l n_n) (F.binds fun _ _ _ _ _ _=>n4 fun _ _ _ _=>rfl);obtain⟨f,d,a,F⟩:=D44;have x44:=mkC (base:=base) X G F a (o44 (P:=l.prog) (w:=w) F n_a n_i n_s n_l) (F.binds fun _ _ _ _ _ _=>n3 fun _ _ _=>rfl);obtain⟨f,d,a,F⟩:=D45;have x45:=mkC (base:=base) X G F a (o45 (P:=l.prog) (w:=w) F x42 x28) (F.binds fun _ _ _ _ _ _=>n5 fun _ _ _ _ _=>rfl);exact o46 F46 x33 x39 x41 x43 x31 x32 x40 x44 x45 n_l n_r n_s n_i n_t 200
theorem walk{l:PySem.W.OpenLaw}{q:Program}{loose:List Str}{XP:(Str→Option Value)→Heap→Prop}{YP:World→Heap→Prop}{d:DefRec}{K:Params→PySem.W.Frag}(hn:l.most=some 63) (hdf:d.params.defaults=[])
  (hY:∀(w:World) (h:Heap),YP w h→(K w.params).In h)
  (F:∀(w:World) (mg:Str→Option Value) (fa:Addr) (h:Heap),(K w.params).In h→h.Ns mainGlobals mg→mg d.name=some (.ref fa)→
   ∃fd:FuncData,(∀(s:Shared) (u:Value),BindsTo s fd ⟨[u],[]⟩ [("script",u)])∧ ∀base:Heap,(K w.params).In base→base.Ns mainGlobals mg→FnOk l.prog w (K w.params) mg base CX0 200 fa fd ["script"] (zdZ (K w.params) (zdH 200))) :
  PySem.W.WalkO q loose XP YP l.row.toRowW d [] (fun f vs=>PySem.call f vs):=
 L2.ztX (n:=63) (k:=200) (x:= "script") (CX:=fun _=>CX0) (sp:=fun w=>zdZ (K w.params) (zdH 200)) hn (by decide) hdf ⟨rfl,by decide,by decide⟩ hY F (fun w H a ns hl hO hS=>zqM hO hS (zvw ns hl)) fun _ _ _ _ _ z=>z
end K28
noncomputable def PySem.W.Fast.tw3556178907319743090:Nat:=0
noncomputable def PySem.W.Fast.tw14131002019835318055:Nat:=0
noncomputable def PySem.W.Fast.tw5883431297958613375:Nat:=0
noncomputable def PySem.W.Fast.tw12169801317211316657:Nat:=0
noncomputable def PySem.W.Fast.tw3030069093331223238:Nat:=0
noncomputable def PySem.W.Fast.tw7477047683992642352:Nat:=0
noncomputable def PySem.W.Fast.tw15771040204895585620:Nat:=0
noncomputable def PySem.W.Fast.tw4625953456905167824:Nat:=0
noncomputable def PySem.W.Fast.tw14268382735864662301:Nat:=0
noncomputable def PySem.W.Fast.tw4611750656503271354:Nat:=0
noncomputable def PySem.W.Fast.tw13519030773021656847:Nat:=0
noncomputable def PySem.W.Fast.tw4950798749232120373:Nat:=0
noncomputable def PySem.W.Fast.tw13945812132847571025:Nat:=0
noncomputable def PySem.W.Fast.tw5163181102789075392:Nat:=0
noncomputable def PySem.W.Fast.tw15968113358012102950:Nat:=0
noncomputable def PySem.W.Fast.tw7562799481959417697:Nat:=0
noncomputable def PySem.W.Fast.tw16759447159848709148:Nat:=0
noncomputable def PySem.W.Fast.tw18325581353223150955:Nat:=0
noncomputable def PySem.W.Fast.tw5782889154374944476:Nat:=0
open PySem PySem.W PyProof.Rows
set_option maxRecDepth 100000 in
set_option maxHeartbeats 0 in
theorem PySem.Challenge.cw_turnweave_k28_grid_holds : PySem.Challenge.rw_turnweave_k28_grid.Holds := by
 w_on;o_law;k_head;(case hw=>w_witness2)
 k_fill
 refine K28.walk (l:=PySem.Challenge.rw_turnweave_k28_grid) rfl rfl (fun w h Y=>PySem.W.kIn_of Y) ?F
 case F=>
  intro w mg fa h KX G hmg
  refine' K28.all_mk KX G hmg (K28.dfn ?_ ?_ ?_ ?_) (K28.dfn ?_ ?_ ?_ ?_) (K28.dfn ?_ ?_ ?_ ?_) (K28.dfn ?_ ?_ ?_ ?_) (K28.dfn ?_ ?_ ?_ ?_) (K28.dfn ?_ ?_ ?_ ?_) (K28.dfn ?_ ?_ ?_ ?_) (K28.dfn ?_ ?_ ?_ ?_) (K28.dfn ?_ ?_ ?_ ?_) (K28.dfn ?_ ?_ ?_ ?_) (K28.dfn ?_ ?_ ?_ ?_) (K28.dfn ?_ ?_ ?_ ?_) (K28.dfn ?_ ?_ ?_ ?_) (K28.dfn ?_ ?_ ?_ ?_) (K28.dfn ?_ ?_ ?_ ?_) (K28.dfn ?_ ?_ ?_ ?_) (K28.dfn ?_ ?_ ?_ ?_) (K28.dfn ?_ ?_ ?_ ?_) (K28.dfn ?_ ?_ ?_ ?_) (K28.dfn ?_ ?_ ?_ ?_) (K28.dfn ?_ ?_ ?_ ?_) (K28.dfn ?_ ?_ ?_ ?_) (K28.dfn ?_ ?_ ?_ ?_) (K28.dfn ?_ ?_ ?_ ?_) (K28.dfn ?_ ?_ ?_ ?_) (K28.dfn ?_ ?_ ?_ ?_) (K28.dfn ?_ ?_ ?_ ?_) (K28.dfn ?_ ?_ ?_ ?_) (K28.dfn ?_ ?_ ?_ ?_) (K28.dfn ?_ ?_ ?_ ?_) (K28.dfn ?_ ?_ ?_ ?_) (K28.dfn ?_ ?_ ?_ ?_) (K28.dfn ?_ ?_ ?_ ?_) (K28.dfn ?_ ?_ ?_ ?_) (K28.dfn ?_ ?_ ?_ ?_) (K28.dfn ?_ ?_ ?_ ?_) (K28.dfn ?_ ?_ ?_ ?_) (K28.dfn ?_ ?_ ?_ ?_) (K28.dfn ?_ ?_ ?_ ?_) (K28.dfn ?_ ?_ ?_ ?_) (K28.dfn ?_ ?_ ?_ ?_) (K28.dfn ?_ ?_ ?_ ?_) (K28.dfn ?_ ?_ ?_ ?_) (K28.dfn ?_ ?_ ?_ ?_) (K28.dfn ?_ ?_ ?_ ?_) (K28.dfn ?_ ?_ ?_ ?_) (K28.dfn ?_ ?_ ?_ ?_) ?_ ?_ ?_ ?_ ?_ ?_ ?_ ?_ ?_ ?_ ?_ ?_ ?_ ?_ ?_ ?_<;>try k_is
end
